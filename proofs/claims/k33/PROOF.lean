import PyProof.Rows.All
import Wide.All
import OpenK.AllK
import Wide.FinOn
import Lean
import PyProof.EqAt
import PyProof.EqKinds
import PyProof.TupleCall
import PyProof.StrWalks
import PyProof.ConsumeWalk
import PyProof.TupleKey
import PyProof.DictFindH
import PyProof.P3Eq
import PyProof.DictRoadsH
import PyProof.Rows.TupTab
import KE.KLam
import KE.KSortTup
import PyProof.ZipIter
import PyProof.Draws
import PyProof.WalksMore
import PyProof.ListMulRoad
import PyProof.AutoListH
import PyProof.FactsAll.tuple_2
import PyProof.FactsAll.tuple
import PyProof.TupleIter
import PyProof.AttrMissHeap
import PyProof.DictIter
import PyProof.DictWalks
import KE.KDictSum
import KE.KDictOf
import PyProof.EnumMake
import KE.BitLaws
import PyProof.RaisesMany
import PyProof.ExcInit
import PyProof.ExcClass3
import PyProof.ExcArgsOwn
import PyProof.RulesTry
import PyProof.RulesAs
import PyProof.NsDelKeeps
import KE.KIsAll
import PyProof.Rows.SortWalk
import PyProof.Rows.Range3
import PyProof.ListRange
import PySem.Challenge.RW_lastloser_k33_whole_led_onto_the_least
set_option tactic.hygienic false
local macro_rules|`(tactic|obtain $p:rcasesPatMed:=$t:term)=>`(tactic|first|(refine Classical.byContradiction fun k=>?_;rcases $t:term with $p:rcasesPatMed<;>(refine k ?_;clear k))|rcases $t:term with $p:rcasesPatMed)
set_option Elab.async false
set_option linter.all false
set_option maxRecDepth 100000
set_option maxHeartbeats 4000000
open List
abbrev jp:=PySem.Value
abbrev kt:=PySem.Shared
abbrev ww:=PySem.Addr
def a8:=@PyProof.Rows.slot_tuple_getitem
def a9:=@eq_nil_of_length_eq_zero
def c3:=@PyProof.Rows.callWith_type1
def c4:=@PySem.F.slot_tuple_iterator_next
def c5:=@getElem?_append_right
def c6:=@getD_eq_getElem?_getD
def c7:=@getElem?_append_left
def c8:=@Array.getElem?_eq_getElem
def c9:=@List.getElem?_eq_some_iff
def g0:=@List.getElem?_eq_none_iff
def g9:=@PySem.F.slot_list_append
def i0:=@getElem?_eq_getElem
def i3:=@PySem.F.type_list_append
def i4:=@PySem.F.plainAttrs_list
def i5:=@getElem?_replicate
def i6:=@PySem.wpAny_callSpecial?_slot
def i7:=@length_eq_zero_iff
def i8:=@take_of_length_le
def i9:=@Array.getElem?_eq_none
def j0:=@PySem.Heap.get?_push_of_some
def j4:=@PySem.Heap.get?_update_other
def j5:=@getElem?_set_self
def j6:=@PySem.Heap.get?_update_self
def j7:=@mem_append_right
def j8:=@length_singleton
def j9:=@Array.getElem?_toList
def k4:=@getElem?_eq_none
def k5:=@mem_cons_of_mem
def k7:=@mem_of_getElem?
def k8:=@mem_append_left
def k9:=@PySem.Around.under_plainId
def l0:=@getElem?_set_ne
def l5:=@PySem.Heap.SameBut.update
def l6:=@getElem?_range
def l7:=@PySem.mem_of_lookup
def l8:=@replicate_succ
def l9:=@Array.length_toList
def m8:=@PySem.Heap.get?_push_size
def m9:=@PySem.F.plain_extend_loop
def n5:=@map_congr_left
def n6:=@filterMap_cons
def n9:=@mem_cons_self
def o6:=@Bool.false_ne_true
def o7:=@length_append
def o8:=@Bool.false_eq_true
def p4:=@Int.emod_lt_of_pos
def p5:=@PySem.wpAny_setField_rec
def p6:=@Nat.lt_of_le_of_lt
def p7:=@Nat.lt_of_lt_of_le
def p8:=@mem_singleton
def p9:=@PySem.wpAny_Call_Name_kw
def q8:=@Int.lt_of_le_of_lt
def q9:=@PySem.tupleKind_room_in1
def r0:=@getElem?_map
def r6:=@Int.toNat_natCast
def r9:=@PySem.wpAny_newObj_type
def s9:=@flatten_cons
def u6:=@length_range
def u7:=@Option.isSome_map
def u9:=@List.size_toArray
def w5:=@Nat.lt_succ_of_lt
def w6:=@lookup_cons
def w9:=@Nat.le_of_not_lt
def x3:=@length_cons
def x4:=@take_length
def x5:=@PySem.wpAny_call_entry
def x6:=@Bool.and_eq_true
def x8:=@length_take
def x9:=@getElem_mem
def y0:=@Nat.le_add_right
def y3:=@PySem.wpAny_isInstance
def y4:=@List.all_eq_true
def y6:=@Bool.eq_iff_iff
def y7:=@append_nil
def y8:=@find?_cons
def y9:=@decide_eq_false
def z9:=@PySem.wpAny_loadPart'
def A0:=@Int.emod_nonneg
def A1:=@Option.some.inj
def A2:=@PySem.PassesOwn.never
def A3:=@PySem.wpAny_passesOwn
def A4:=@PySem.codeAny_builtin
def A5:=@length_map
def A6:=@mem_append
def A7:=@map_append
def A8:=@Nat.le_antisymm
def A9:=@PySem.wpAny_updateSeq
def B0:=@PySem.F.slot_zip_next
def B1:=@PySem.wpAny_specialOf
def B2:=@forIn_cons
def B3:=@decide_eq_true
def B4:=@PySem.wpAny_seqItems
def B5:=@PySem.Heap.size_push
def B6:=@PySem.wpAny_setField
def B7:=@PySem.wpAny_holding
def B8:=@PySem.wpAny_attempt
def B9:=@PySem.Paired.length
def C0:=@Nat.lt_irrefl
def C3:=@map_cons
def C4:=@mem_cons
def C5:=@Int.zero_add
def C6:=@Nat.ne_of_lt
def C7:=@PySem.Heap.lt_size
def C8:=@mem_map
def C9:=@List.map_map
def D1:=@Nat.le_trans
def D3:=@Nat.zero_add
def D4:=@map_nil
def D5:=@PySem.wpAny_typeOf
def D6:=@PySem.codeAny_mono
def D7:=@Nat.ne_of_gt
def D8:=@Nat.le_of_lt
def D9:=@Nat.le_refl
def G0:=@PySem.sizeLine_eq
def G1:=@Nat.zero_le
def G3:=@PySem.wpAny_field
def G4:=@PySem.wpAny_bind
def G5:=@PySem.wpAny_pure
def G6:=@PySem.wpAny_rule
def G7:=@PySem.call_meets
def G8:=@PySem.wpAny_mono
def G9:=@if_false
def H9:=@congrArg
def J0:=@Ne.symm
def J1:=@if_true
def J3:=@if_pos
def J4:=@if_neg
abbrev J5:=PySem.W.Frag
open PySem
variable {mg:Str->Option jp}{E Q:jp->kt->Prop}{K:J5}{xz:List (ww×Obj)}{w:World}{s s':kt}{fd:FuncData}{P prog:Program}{es ifs rest:List Expr}{i k n m j t' y mask ep:Nat}{a f p b:ww}{x qual name:Str}{A:Around}{base h':Heap}{α:Type}{e tg c e1 iter:Expr}{ps tgs fv:List Str}{u dV:jp}{cells cl:List (Str×ww)}{t:SetTable}{us:List jp}{scope:Scope}{cn:List (Str×Nat)}{fr:List Nat}{ns:List Int}{st:Stmt}{kindOf:Str->Option NameKind}{kv cs:List (Nat×Nat)}{S:Heap->ww->Array jp->Prop}{body:List Stmt}{T:String}{owner:Array (Option Nat)}{fp ch:List ww}{XP:(Str->Option jp)->Heap->Prop}{o:Obj}{vs:Array jp}{pos' p2 oH apos cU bS:Pos}{l:PySem.W.OpenLaw}{C:Int->Int->Prop}{xW:Array (Option jp)}{tabs:List (ww×ww)}{YP:World->Heap->Prop}{lo:Int}
namespace L2
open PySem.Spec PyProof.Rows
abbrev Key:=Sum Int Str
def pF:Key->jp->Bool
 | .inl k,v=>Value.isInt k v
 | .inr x,v=>Value.isStrOf x v
def Wf(w:World):Key->Int
 | .inl k=>hashInt k
 | .inr x=>hashStr w x
theorem bZ:∀{k:Key} {v:jp},pF k v=true->(∃i t,k=Sum.inl i/\v=Value.int i t)\/(∃x t,k=Sum.inr x/\v=Value.str x t)
 | .inl i,v,h=>by obtain⟨t,e⟩:=Value.isInt_shape (k:=i) (v:=v) h;exact .inl ⟨i,t,rfl,e⟩
 | .inr x,v,h=>by obtain⟨t,e⟩:=Value.isStrOf_shape (x:=x) (v:=v) h;exact .inr ⟨x,t,rfl,e⟩
theorem Cv(i:Int)(t:Tok):pF (.inl i) (.int i t)=true:=by simp[pF,Value.isInt]
theorem Cu(x:Str)(t:Tok):pF (.inr x) (.str x t)=true:=by simp[pF,Value.isStrOf]
theorem Pg(a b:Int):decide ((Sum.inl a:Key)=Sum.inl b)=(a==b):=by
 by_cases e:a=b
 ·subst e;simp
 ·have h:¬(Sum.inl a:Key)=Sum.inl b:=λ q=>e (Sum.inl.inj q);rw[y9 h];exact(beq_eq_false_iff_ne.mpr e).symm
theorem Pd(a b:Str):decide ((Sum.inr a:Key)=Sum.inr b)=decide (a=b):=by
 by_cases e:a=b
 ·subst e;simp
 ·have h:¬(Sum.inr a:Key)=Sum.inr b:=λ q=>e (Sum.inr.inj q);rw[y9 h,y9 e]
theorem Pf(a:Int)(b:Str):decide ((Sum.inl a:Key)=Sum.inr b)=false:=y9 (λ q=>nomatch q)
theorem Pe(a:Str)(b:Int):decide ((Sum.inr a:Key)=Sum.inl b)=false:=y9 (λ q=>nomatch q)
def c_(prog:Program)(w:World):PySem.KeyKind prog w Key where
 is:=pF
 hash:=Wf w
 inj:=λ v a b ha hb=>by
  rcases bZ ha with⟨i,t,rfl,rfl⟩|⟨x,t,rfl,rfl⟩
  ·rcases bZ hb with⟨j,u,rfl,e⟩|⟨y,u,rfl,e⟩
   ·injection e with e1 _;rw[e1]
   ·exact nomatch e
  ·rcases bZ hb with⟨j,u,rfl,e⟩|⟨y,u,rfl,e⟩
   ·exact nomatch e
   ·injection e with e1 _;rw[e1]
 byValue:=λ k v h=>by rcases bZ h with⟨i,t,rfl,rfl⟩|⟨x,t,rfl,rfl⟩ <;> rfl
 pyHash:=λ hv h=>by
  rcases bZ hv with⟨i,t,rfl,rfl⟩|⟨x,t,rfl,rfl⟩
  ·exact wpAny_pyHash_int h
  ·exact wpAny_pyHash_str h
 eqBool:=λ hu hv h=>by
  rcases bZ hu with⟨i,t,rfl,rfl⟩|⟨x,t,rfl,rfl⟩
  ·rcases bZ hv with⟨j,u,rfl,rfl⟩|⟨y,u,rfl,rfl⟩
   ·rw[Pg]at h;exact wpAny_eqBool_int h
   ·rw[Pf]at h;exact SeqAt.EqAt.int_str i t y u _ _ _ _ h
  ·rcases bZ hv with⟨j,u,rfl,rfl⟩|⟨y,u,rfl,rfl⟩
   ·rw[Pe]at h;exact SeqAt.EqAt.str_int x t j u _ _ _ _ h
   ·rw[Pd]at h;exact wpAny_eqBool_str h
 «strs»:=λ k x t v h=>by
  rcases bZ h with⟨i,u,rfl,e⟩|⟨y,u,rfl,e⟩
  ·exact nomatch e
  ·injection e with e1 _
   subst e1;cases v <;> rfl
theorem vM(prog:Program)(w:World)(i:Int)(t:Tok):(c_ prog w).is (.inl i) (.int i t)=true:=Cv i t
theorem vL(prog:Program)(w:World)(x:Str)(t:Tok):(c_ prog w).is (.inr x) (.str x t)=true:=Cu x t
inductive V where
 |bK|bl (b:Bool)|int (i:Int)|str (x:Str)|He (b:Array UInt8)|Xm (b:UInt64)|ref (a:ww)|ty (n:String)
 deriving DecidableEq
def bn:V->jp->Prop
 | .bK,u=>u=Value.none
 | .bl b,u=>u=Value.bool b
 | .int i,u=>∃t,u=Value.int i t
 | .str x,u=>∃t,u=Value.str x t
 | .He b,u=>∃t,u=Value.bytes b t
 | .Xm b,u=>∃t,u=Value.float b t
 | .ref a,u=>u=Value.ref a
 | .ty n,u=>u=Value.type n
abbrev ce:List V->List jp->Prop:=Paired bn
theorem ce.length{xs:List V}(r:ce xs us):xs.length=us.length:=B9 r
theorem ce.get:∀{xs:List V} {us:List jp} {i:Nat} {x:V},ce xs us->xs[i]?=some x->∃u,us[i]?=some u/\bn x u
 |_,_,_,_,.nil,e=>by simp at e
 |_,_,0,_,.cons r _,e=>by simp at e;subst e;exact⟨_,rfl,r⟩
 |_,_,i+1,x,.cons _ t,e=>by obtain⟨u,h1,h2⟩:=ce.get (i:=i) (x:=x) t (by simpa using e);exact⟨u,by simpa using h1,h2⟩
theorem ce.set{x:V}(r:bn x u):∀{xs:List V} {us:List jp} (i:Nat),ce xs us->ce (xs.set i x) (us.set i u)
 |_,_,_,.nil=>.nil
 |_,_,0,.cons _ t=>.cons r t
 |_,_,i+1,.cons q t=>.cons q (ce.set r i t)
theorem ce.append:∀{xs ys:List V} {us ws:List jp},ce xs us->ce ys ws->ce (xs++ys) (us++ws)
 |_,_,_,_,.nil,s=>s
 |_,_,_,_,.cons r t,s=>.cons r (ce.append t s)
theorem ce.take:∀{xs:List V} {us:List jp} (n:Nat),ce xs us->ce (xs.take n) (us.take n)
 |_,_,0,_=>.nil
 |_,_,_+1,.nil=>.nil
 |_,_,n+1,.cons r t=>.cons r (ce.take n t)
theorem ce.drop:∀{xs:List V} {us:List jp} (n:Nat),ce xs us->ce (xs.drop n) (us.drop n)
 |_,_,0,r=>r
 |_,_,_+1,.nil=>.nil
 |_,_,n+1,.cons _ t=>ce.drop n t
def mG:Option V->Option jp->Prop
 |some v,some u=>bn v u
 |none,none=>True
 |_,_=>False
def KV{κ:Type}:List (κ×V)->List (κ×jp)->Prop:=Paired λ(p:κ×V) (q:κ×jp)=>p.1=q.1/\bn p.2 q.2
def kV:Key->V
 | .inl i=>.int i
 | .inr x=>.str x
inductive HO where
  |lst (xs:List V)
  |tup (xs:List V)
  |dK (kvs:List (Key×V))|dT (kvs:List (List Key×V))
  |set (S:Int->Bool) (n:Nat)
  |ins (C dx:ww) (fs:List (Str×V))
  |own (x:ww)
  |xd (fs:List (Str×V))
  |met (f x:ww)
  |xH (lo hi:Int)
  |dD (o:Obj) (u:HO)
  |lN (ps:Array jp)
  |ext (φ:Heap->Prop)
abbrev Hp:=ww->Option HO
def ci(H:Hp)(a:ww)(o:HO):Hp:=λ b=>if b=a then some o else H b
theorem aL{H:Hp}{o:HO}:ci H a o a=some o:=by unfold ci;rw[J3 rfl]
theorem aU{H:Hp}{o:HO}(h:b≠a):ci H a o b=H b:=by unfold ci;rw[J4 h]
theorem bM{H:Hp}{o u:HO}(h:H a=some o)(h':H b=some u)(d:o≠u):a≠b:=by intro e;subst e;rw[h]at h';exact d (A1 h')
theorem bQ{H:Hp}{o:HO}(h:H a=some o)(h':H b=none):a≠b:=by intro e;subst e;rw[h]at h';cases h'
section
variable (P:Program)(w:World)
def bO(H:Hp)(h:Heap)(a:ww):HO->Prop
 | .lst xs=>xs.length<=sizeLine/\∃(aB:List jp) (n:Nat),ce xs aB/\h.get? a=some {cls:=.type "list",data:=.seq aB.toArray n}
 | .tup xs=>xs.length<=sizeLine/\∃aB:List jp,ce xs aB/\IsTup h a aB.toArray
 | .dK kvs=>kvs.length<=sizeLine/\(a==sysModules)=false/\∃vs,KV kvs vs/\h.DictOf (c_ P w) a vs
 | .dT kvs=>kvs.length<=sizeLine/\(a==sysModules)=false/\∃xs:List (List Key×ww×jp),
   Paired (λ(p:List Key×V) (q:List Key×ww×jp)=>p.1=q.1/\H q.2.1=some (.tup (p.1.map kV))/\bn p.2 q.2.2) kvs xs/\
   ∃o es ep,h.get? a=some o/\o.ExactDict/\o.data=.dict es ep/\es.toList=xs.map (entryOfKey (tupleKind (c_ P w)))/\(xs.map (·.1)).Nodup
 | .set S n=>h.SetOf (intKind P w) a S n
 | .ins C dx fs=>H dx=some (.own a)/\fs.length<=1000/\dx≠a/\h.get? a=some (PySem.W.instObj C dx)/\
   ∃mA,h.Ns1 dx mA/\(∀f,mG (fs.lookup f) (mA f))/\PySem.Within mA (fs.map (·.1))
 | .own _=>∃o,h.get? a=some o
 | .xd fs=>∃mA,h.Ns1 a mA/\∀f,mG (fs.lookup f) (mA f)
 | .xH lo hi=>∃t u v,h.get? a=some {cls:=.type "range",data:=.fields #[.int lo t,.int hi u,.int 1 v]}
 | .dD o u=>h.get? a=some o/\bO H h a u
 | .lN ps=>h.get? a=some {cls:=.none,data:=.fields ps}
 | .met f x=>h.get? a=some (PySem.W.methodObj (.ref f) (.ref x))
 | .ext φ=>φ h/\(∃o,h.get? a=some o)/\∀h1 h2:Heap,φ h1->(∀o,h1.get? a=some o->h2.get? a=some o)->φ h2
def iz(H:Hp)(h:Heap):Prop:=∀a o,H a=some o->bO P w H h a o
end
section
variable {H H':Hp}{h:Heap}{o:HO}
theorem bO.lt(x:bO P w H h a o):a < h.objs.size:=by
 cases o with
 |lst xs=>obtain⟨_,_,_,_,e⟩:=x;exact C7 e
 |tup xs=>obtain⟨_,_,_,p⟩:=x;exact p.lt
 |dK kvs=>obtain⟨_,_,_,_,o,_,_,e,_⟩:=x;exact C7 e
 |dT kvs=>obtain⟨_,_,_,_,o,_,_,e,_⟩:=x;exact C7 e
 |set S n=>obtain⟨o,_,_,_,e,_⟩:=x;exact C7 e
 |ins C dx fs=>obtain⟨_,_,_,e,_⟩:=x;exact C7 e
 |own y=>obtain⟨_,e⟩:=x;exact C7 e
 |xd fs=>obtain⟨_,⟨_,_,_,e,_⟩,_⟩:=x;exact C7 e
 |xH lo hi=>obtain⟨_,_,_,e⟩:=x;exact C7 e
 |dD ob u=>obtain⟨e,_⟩:=x;exact C7 e
 |lN ps=>exact C7 (show h.get? a=some _ from x)
 |met f y=>exact C7 (show h.get? a=some _ from x)
 |ext φ=>obtain⟨_,⟨_,e⟩,_⟩:=x;exact C7 e
theorem Paired.qA{β:Type}{F G:α->β->Prop}:∀{l₁:List α} {l₂:List β},Paired F l₁ l₂->(∀a b,F a b->G a b)->Paired G l₁ l₂
 |_,_,.nil,_=>.nil
 |_,_,.cons r t,f=>.cons (f _ _ r) (Paired.qA t f)
theorem bO.qv(x:bO P w H h a o)(k:∀b u,(b=a\/H b=some (.own a))->h.get? b=some u->h'.get? b=some u) (ho:∀b,H b=some (.own a)->H' b=some (.own a)) (ht:∀b xs,H b=some (.tup xs)->H' b=some (.tup xs)):bO P w H' h' a o:=by
 induction o with
 |lst xs=>obtain⟨z,aB,n,r,e⟩:=x;exact⟨z,aB,n,r,k _ _ (.inl rfl) e⟩
 |tup xs=>obtain⟨z,aB,r,ob,e,c⟩:=x;exact⟨z,aB,r,ob,k _ _ (.inl rfl) e,c⟩
 |dK kvs=>obtain⟨z,y,vs,r,ob,es,ep,e,c⟩:=x;exact⟨z,y,vs,r,ob,es,ep,k _ _ (.inl rfl) e,c⟩
 |dT kvs=>obtain⟨z,y,xs,r,ob,es,ep,e,c⟩:=x;exact⟨z,y,xs,Paired.qA r λ p q z=>⟨z.1,ht _ _ z.2.1,z.2.2⟩,ob,es,ep,k _ _ (.inl rfl) e,c⟩
 |set S n=>obtain⟨ob,es,ep,t,e,c⟩:=x;exact⟨ob,es,ep,t,k _ _ (.inl rfl) e,c⟩
 |ins C dx fs=>obtain⟨d,z,ne,e,mA,⟨od,es,ep,e2,c⟩,r⟩:=x;exact⟨ho _ d,z,ne,k _ _ (.inl rfl) e,mA,⟨od,es,ep,k _ _ (.inr d) e2,c⟩,r⟩
 |own y=>obtain⟨ob,e⟩:=x;exact⟨ob,k _ _ (.inl rfl) e⟩
 |xd fs=>obtain⟨mA,⟨od,es,ep,e,c⟩,r⟩:=x;exact⟨mA,⟨od,es,ep,k _ _ (.inl rfl) e,c⟩,r⟩
 |xH lo hi=>obtain⟨t,u,v,e⟩:=x;exact⟨t,u,v,k _ _ (.inl rfl) e⟩
 |dD ob u ih=>obtain⟨e,q⟩:=x;exact⟨k _ _ (.inl rfl) e,ih q⟩
 |lN ps=>have e:h.get? a=some {cls:=.none,data:=.fields ps}:=x;show h'.get? a=some {cls:=.none,data:=.fields ps};exact k a _ (.inl rfl) e
 |met f y=>have e:h.get? a=some (PySem.W.methodObj (.ref f) (.ref y)):=x;show h'.get? a=some (PySem.W.methodObj (.ref f) (.ref y));exact k a _ (.inl rfl) e
 |ext φ=>obtain⟨p,⟨o,e⟩,st⟩:=x;exact⟨st _ _ p λ o q=>k _ _ (.inl rfl) q,⟨o,k _ _ (.inl rfl) e⟩,st⟩
theorem iz.lt(x:iz P w H h)(e:H a=some o):a < h.objs.size:=(x a o e).lt
theorem iz.fresh(x:iz P w H h)(e:h.objs.size<=a):H a=none:=by
 cases q:H a with
 |none=>rfl
 |some u=>exact absurd (p7 (x.lt q) e) (C0 _)
theorem iz.kept(x:iz P w H h)(k:∀b u,h.get? b=some u->h'.get? b=some u):iz P w H h':=λ a o e=>
 (x a o e).qv (λ b u _ q=>k b u q) (λ _ q=>q) λ _ _ q=>q
theorem iz.laid(x:iz P w H h)(k:∀b u,h.get? b=some u->h'.get? b=some u)(hp:h.objs.size<=a)(new:bO P w (ci H a o) h' a o):iz P w (ci H a o) h':=λ b u e=>by
 have hn:=x.fresh hp;by_cases hb:b=a
 ·subst hb;rw[aL]at e;cases e;exact new
 ·rw[aU hb]at e;exact(x b u e).qv (λ c v _ q=>k c v q) (λ c q=>by rw[aU (bQ q hn)];exact q) λ c xs q=>by rw[aU (bQ q hn)];exact q
end
def Rd(H:Hp)(a:ww)(u:HO):Prop:=H a=some u\/∃o,H a=some (.dD o u)
theorem Rd.ok{H:Hp}{h:Heap}{u:HO}(r:Rd H a u)(x:iz P w H h):bO P w H h a u:=by
 rcases r with r|⟨o,r⟩
 ·exact x a u r
 ·obtain⟨_,q⟩:=x a _ r;exact q
def T5:Option HO->Prop
 |some (.lst _)=>True
 |some (.dK _)=>True
 |some (.dT _)=>True
 |some (.set _ _)=>True
 |some (.ins _ _ _)=>True
 |some (.ext _)=>True
 |_=>False
section
variable {H:Hp}{h:Heap}{x e:ww}{o':HO}
theorem iz.write(ok:iz P w H h)(mu:T5 (H x))(he:e=x\/H e=some (.own x))(k:∀b u,b≠e->h.get? b=some u->h'.get? b=some u)(Q7:∃u,h'.get? e=some u) (new:bO P w (ci H x o') h' x o'):iz P w (ci H x o') h':=λ b u q=>by
 have Sz:∀c y,H c=some (.own y)->c≠x:=λ c y r z=>by subst z;rw[r]at mu;exact mu
 have V5:∀c xs,H c=some (.tup xs)->c≠x:=λ c xs r z=>by subst z;rw[r]at mu;exact mu
 by_cases hb:b=x
 ·subst hb;rw[aL]at q;cases q;exact new
 ·rw[aU hb]at q;by_cases PR:b=e
  ·have q':H b=some (.own x):=by
    rcases he with z|z
    ·exact absurd (PR.trans z) hb
    ·rw[PR];exact z
   rw[q]at q';cases q';obtain⟨v,hv⟩:=Q7;exact⟨v,by rw[PR];exact hv⟩
  ·refine(ok b u q).qv (λ c v hc r=>k c v ?_ r) (λ c r=>by rw[aU (Sz c b r)];exact r) λ c xs r=>by rw[aU (V5 c xs r)];exact r
   rcases hc with rfl|hc
   ·exact PR
   ·rintro rfl;rcases he with z|z
    ·exact Sz c b hc z
    ·rw[hc]at z;cases z;exact hb rfl
end
structure Un(fs ex:List ww)(H H':Hp)(h h':Heap):Prop where
 keep:∀b o,h.get? b=some o->H b=none->b∉fs->b∉ex->h'.get? b=some o
 slot:∀b o,h.get? b=some o->H b=none->b∈fs->b∉ex->∃sl,h'.get? b=some {o with slots:=sl}
 free:∀b o,h.get? b=some o->H b=none->b∉ex->H' b=none
 there:∀b o,h.get? b=some o->b∉ex->∃o',h'.get? b=some o'
 oE:∀b xs,H b=some (.tup xs)->H' b=some (.tup xs)
 mq:∀b o u,H b=some (.dD o u)->H' b=some (.dD o u)
 mY:∀b ps,H b=some (.lN ps)->∃more,H' b=some (.lN (ps++more))
section
variable {fs fs' ex ex':List ww}{H H1 H2:Hp}{h h1 h2:Heap}{x e:ww}{o:HO}
theorem Un.any(u:Un fs ex H H1 h h1){ob:Obj}(q:h.get? b=some ob)(n:H b=none)(hx:b∉ex):∃sl,h1.get? b=some {ob with slots:=sl}:=by
 by_cases hb:b∈fs
 ·exact u.slot b ob q n hb hx
 ·exact⟨ob.slots,u.keep b ob q n hb hx⟩
theorem Un.kept(k:∀b u,h.get? b=some u->h'.get? b=some u):Un fs ex H H h h':=
 ⟨λ b ob q _ _ _=>k b ob q,λ b ob q _ _ _=>⟨ob.slots,k b ob q⟩,λ _ _ _ n _=>n,λ b ob q _=>⟨ob,k b ob q⟩,λ _ _ q=>q,λ _ _ _ q=>q,λ _ ps q=>⟨#[],by rw[q];simp⟩⟩
theorem Un.refl:Un fs ex H H h h:=Un.kept λ _ _ q=>q
theorem Un.laid(k:∀b u,h.get? b=some u->h'.get? b=some u)(hp:h.objs.size<=a)(hn:H a=none):Un fs ex H (ci H a o) h h' where
 keep:=λ b u q _ _ _=>k b u q
 slot:=λ b u q _ _ _=>⟨u.slots,k b u q⟩
 free:=λ b u q n _=>by rw[aU (C6 (p7 (C7 q) hp))];exact n
 there:=λ b u q _=>⟨u,k b u q⟩
 oE:=λ b xs q=>by rw[aU (bQ q hn)];exact q
 mq:=λ b u xs q=>by rw[aU (bQ q hn)];exact q
 mY:=λ b ps q=>⟨#[],by rw[aU (bQ q hn),q];simp⟩
theorem Un.write(mu:T5 (H x))(he:e=x\/H e=some (.own x))(k:∀b u,b≠e->h.get? b=some u->h'.get? b=some u)(Q7:∃u,h'.get? e=some u):Un fs ex H (ci H x o) h h':=by
 have hx:∀b,H b=none->b≠x:=λ b n z=>by subst z;rw[n]at mu;exact mu
 have hb:∀b,H b=none->b≠e:=λ b n z=>by
  subst z;rcases he with r|r
  ·exact hx b n r
  ·rw[n]at r;cases r
 have hm:∀b u,H b=some u->¬T5 (some u)->b≠x:=λ b u q nm z=>by subst z;rw[q]at mu;exact nm mu
 refine⟨λ b u q n _ _=>k b u (hb b n) q,λ b u q n _ _=>⟨u.slots,k b u (hb b n) q⟩,λ b u q n _=>by rw[aU (hx b n)];exact n,λ b u q _=>?_,
  λ b xs q=>by rw[aU (hm b _ q λ z=>z)];exact q,λ b u xs q=>by rw[aU (hm b _ q λ z=>z)];exact q,λ b ps q=>⟨#[],by rw[aU (hm b _ q λ z=>z),q];simp⟩⟩
 by_cases PR:b=e
 ·subst PR;exact Q7
 ·exact⟨u,k b u PR q⟩
end
def Ui(h:Heap)(H:Hp):List ww:=(List.range h.objs.size).filter λ a=>(H a).isSome
def qC(h:Heap)(H:Hp):Heap:=PySem.W.hideAll h (Ui h H)
theorem CG(h:Heap)(H:Hp):(qC h H).objs.size=h.objs.size:=PySem.W.hideAll_size _ _
theorem Gz{h:Heap}{H:Hp}(e:h.get? b=some o)(n:H b=none):(qC h H).get? b=some o:=
 PySem.W.hideAll_get _ e λ hm=>by have q:(H b).isSome=true:=(mem_filter.mp hm).2;rw[n]at q;simp at q
theorem Kh{h:Heap}{H:Hp}(e:(qC h H).get? b=some o):h.get? b=some o/\H b=none:=by
 have e':h.get? b=some o:=PySem.W.of_hideAll (Ui h H) e;refine⟨e',?_⟩;cases q:H b with
 |none=>rfl
 |some x=>have hm:b∈Ui h H:=mem_filter.mpr ⟨mem_range.mpr (C7 e'),by simp[q]⟩;have z:(qC h H).get? b=none:=PySem.W.hideAll_none (Ui h H) hm;rw[z]at e;cases e
structure Mod(K:J5)(mg:Str->Option jp)(base:Heap):Prop where
 SG:K.In base
 glob:base.Ns mainGlobals mg
 blt:∃mb,base.Ns builtinsNs mb/\∀x:Str,x≠"__name__"->mb x=bootBuiltins x
 nolimit:base.NoLimit
structure Cx where
 prog:Program
 w:World
 K:J5
 mg:Str->Option jp
 base:Heap
 A:Around
 N:List Str
 s₀:kt
 H₀:Hp
 env:Env
 outer:List Env
 stack:List Env
 ex:List ww
 fn:Str->Bool
 calm:Bool
 pn:List (ww×Obj)
 xe:jp->kt->Prop
def uC(l:List Env):List ww:=l.filterMap (·.frame)
abbrev Cx.fs (X:Cx):List ww:=uC X.outer
def Ln(sc:Scope)(x:Str):Prop:=sc.names.lookup x=some .local\/sc.names.lookup x=some .cell\/sc.names.lookup x=some .free
def Loc(sc:Scope)(x:Str):Prop:=sc.names.lookup x=some .local\/sc.names.lookup x=some .cell
def Look(env:Env)(h:Heap)(m:Str->Option jp)(x:Str)(u:jp):Prop:=
 (env.kindOf x=some .local/\m x=some u)\/((env.kindOf x=some .cell\/env.kindOf x=some .free)/\∃c,env.cells.lookup x=some c/\h.IsCell c (some u))
structure Cx.Ok (X:Cx):Prop where
 mod:Mod X.K X.mg X.base
 kind:X.env.scope.kind=.function
 glob:X.env.globals=mainGlobals
 blt:X.env.builtins=builtinsNs
 above:X.s₀.heap.objs.size<=X.env.locals
 inj:∀x y c,X.env.cells.lookup x=some c->X.env.cells.lookup y=some c->x=y
 has:∀x,(X.env.kindOf x=some .cell\/X.env.kindOf x=some .free)->∃c,X.env.cells.lookup x=some c
 Rb:∀x c,X.fn x=true->X.env.cells.lookup x=some c->X.s₀.heap.objs.size<=c
 hd:X.calm=true->X.A.handled=none
 frames:X.A.frames=some X.stack
 UI:X.stack=X.outer\/(X.stack=X.env::X.outer/\X.env.frame=some X.env.locals)
 YN:∀b∈X.ex,b≠X.env.locals/\∀x c,X.env.cells.lookup x=some c->c≠b
 bs:∀b o,X.base.get? b=some o->X.s₀.heap.get? b=some o/\X.H₀ b=none
 De:X.base.objs.size<=X.s₀.heap.objs.size
 Cj:∀b o,X.base.get? b=some o->b∉X.ex
 K0:∀b∈X.ex,b∉X.fs
 jU:X.s₀.heap.FunFrames X.base X.outer
 KY:∀b∈X.fs,X.H₀ b=none
structure bd(X:Cx)(xz:List (ww×Obj))(σ:List (Option V))(H:Hp)(s:kt):Prop where
 ok:X.Ok
 os:s.os=X.s₀.os
 bare:AllBare s.gens
 base:Un X.fs X.ex X.H₀ H X.s₀.heap s.heap
 loc:∃m,s.heap.Ns X.env.locals m/\∀(i:Nat) (x:Str) (v:V),X.N[i]?=some x->σ[i]?=some (some v)->Ln X.env.scope x->∃u,bn v u/\Look X.env s.heap m x u
 cell:∀x c,X.env.cells.lookup x=some c->∃v,s.heap.IsCell c v
 free:H X.env.locals=none
 gu:∀x c,X.env.cells.lookup x=some c->H c=none
 pin:∀p∈X.pn++xz,s.heap.get? p.1=some p.2/\H p.1=none/\p.1≠X.env.locals/\p.1∉X.fs/\∀v,p.2.data≠.cell v
 bt:iz X.prog X.w H s.heap
 len:σ.length=X.N.length
section
variable {X:Cx}{σ:List (Option V)}{H H':Hp}
theorem Cx.Ok.V8(ok:X.Ok)(e:X.base.get? b=some o):b∉X.fs:=λ hb=>by have:=(ok.jU.mem hb).1;rw[e]at this;cases this
theorem bd.bs(I:bd X xz σ H s):∀b o,X.base.get? b=some o->s.heap.get? b=some o/\H b=none:=λ b o e=>
 ⟨I.base.keep b o (I.ok.bs b o e).1 (I.ok.bs b o e).2 (I.ok.V8 e) (I.ok.Cj b o e),I.base.free b o (I.ok.bs b o e).1 (I.ok.bs b o e).2 (I.ok.Cj b o e)⟩
theorem bd.bk(I:bd X xz σ H s):∀b o,X.base.get? b=some o->s.heap.get? b=some o:=λ b o e=>(I.bs b o e).1
theorem bd.mod(I:bd X xz σ H s):Mod X.K X.mg X.base:=I.ok.mod
theorem bd.LX(I:bd X xz σ H s):X.K.In s.heap:=I.ok.mod.SG.keeps I.bk
theorem bd.lt(I:bd X xz σ H s):X.env.locals < s.heap.objs.size:=let⟨_,hn,_⟩:=I.loc;hn.lt
theorem bd.sz(I:bd X xz σ H s):X.s₀.heap.objs.size<=s.heap.objs.size:=D1 I.ok.above (D8 I.lt)
theorem bd.V7(I:bd X xz σ H s)(h:s.heap.objs.size<=a):a∉X.fs:=λ hb=>by obtain⟨_,o,ho,_⟩:=I.ok.jU.mem hb;exact absurd (p7 (C7 ho) (D1 I.sz h)) (C0 _)
theorem bd.Mk(I:bd X xz σ H s):∀x c,X.env.cells.lookup x=some c->c≠X.env.locals:=λ x c e z=>by obtain⟨v,o,ho,hd⟩:=I.cell x c e;obtain⟨m,⟨o',es,ep,CF,qt,_⟩,_⟩:=I.loc;rw[z,CF]at ho;cases ho;rw[qt]at hd;cases hd
theorem bd.jU(I:bd X xz σ H s):s.heap.FunFrames X.base X.outer:=by
 have all:∀(l:List Env),(∀b∈uC l,b∈X.fs)->X.s₀.heap.FunFrames X.base l->s.heap.FunFrames X.base l:=by
  intro l
  induction l with
  |nil=>intro _ _;trivial
  |cons env r ih=>intro hs hl;obtain⟨hk,⟨L,o,hf,hn,ho,hd⟩,hr⟩:=hl;have hL:L∈X.fs:=hs L (by unfold uC;rw[n6,hf];exact n9);obtain⟨sl,e⟩:=I.base.slot L o ho (I.ok.KY L hL) hL λ z=>I.ok.K0 L z hL;exact⟨hk,⟨L,_,hf,hn,e,hd⟩,ih (λ b hb=>hs b (by unfold uC;rw[n6,hf];exact k5 _ hb)) hr⟩
 exact all X.outer (λ _ hb=>hb) I.ok.jU
theorem bd.stack(I:bd X xz σ H s):s.heap.FunFrames X.base X.stack:=by
 rcases I.ok.UI with e|⟨e,hf⟩
 ·rw[e];exact I.jU
 ·rw[e];obtain⟨m,hn,_⟩:=I.loc;refine .cons (by rw[I.ok.kind];decide) hf hn ?_ I.jU;exact Heap.get?_none_of_le (D1 I.ok.De I.ok.above)
theorem bd.oK(I:bd X xz σ H s):∀b∈uC X.stack,b∈X.env.locals::X.fs:=λ b hb=>by
 rcases I.ok.UI with e|⟨e,hf⟩
 ·rw[e]at hb;exact k5 _ hb
 ·rw[e]at hb;unfold uC at hb;rw[n6,hf]at hb;exact hb
theorem bd.sJ(I:bd X xz σ H s):∀b∈uC X.stack,H b=none:=λ b hb=>by
 rcases C4.mp (I.oK b hb)with e|hb
 ·rw[e];exact I.free
 ·obtain⟨_,o,ho,_⟩:=I.ok.jU.mem hb;exact I.base.free b o ho (I.ok.KY b hb) λ z=>I.ok.K0 b z hb
theorem bd.step{g':Array GenState}{d':Drawn}(I:bd X xz σ H s) (CH:∀b∈ch,(b∈X.ex\/X.s₀.heap.objs.size<=b)/\b≠X.env.locals/\(∀x c,X.env.cells.lookup x=some c->c≠b)/\∀p∈X.pn++xz,p.1≠b) (keep:∀b o,b≠X.env.locals->b∉X.fs->b∉ch->s.heap.get? b=some o->H b=none->h'.get? b=some o) (slot:∀b o,b≠X.env.locals->b∈X.fs->b∉ch->s.heap.get? b=some o->H b=none->∃sl,h'.get? b=some {o with slots:=sl}) (free:∀b o,b∉ch->s.heap.get? b=some o->H b=none->H' b=none) (there:∀b o,b∉ch->s.heap.get? b=some o->∃o',h'.get? b=some o') (oE:∀b xs,H b=some (.tup xs)->H' b=some (.tup xs)) (mq:∀b o u,H b=some (.dD o u)->H' b=some (.dD o u)) (mY:∀b ps,H b=some (.lN ps)->∃more,H' b=some (.lN (ps++more))) (ns:∀m,s.heap.Ns X.env.locals m->h'.Ns X.env.locals m) (bt:iz X.prog X.w H' h') (hg:AllBare g'):bd X xz σ H' {s with heap:=h',gens:=g',drawn:=d',toks:=t'}:=by
 have XU:∀b o,X.s₀.heap.get? b=some o->b≠X.env.locals:=λ b o e=>C6 (p7 (C7 e) I.ok.above);have UW:∀b o,X.s₀.heap.get? b=some o->b∉X.ex->b∉ch:=λ b o e hx hb=>by
  rcases(CH b hb).1 with z|z
  ·exact hx z
  ·exact absurd (p7 (C7 e) z) (C0 _)
 have cellK:∀x c,X.env.cells.lookup x=some c->∀v,s.heap.IsCell c v->h'.IsCell c v:=λ x c e v ⟨o,ho,hd⟩=>by
  have SD:c∉ch:=λ z=>(CH c z).2.2.1 x c e rfl;by_cases hc:c∈X.fs
  ·obtain⟨sl,q⟩:=slot c o (I.Mk x c e) hc SD ho (I.gu x c e);exact⟨_,q,hd⟩
  ·exact⟨o,keep c o (I.Mk x c e) hc SD ho (I.gu x c e),hd⟩
 refine⟨I.ok,I.os,hg,⟨λ b o e n hb hx=>?_,λ b o e n hb hx=>?_,λ b o e n hx=>?_,λ b o e hx=>?_,λ b xs e=>oE b xs (I.base.oE b xs e),λ b o xs e=>mq b o xs (I.base.mq b o xs e),λ b ps e=>?_⟩,?_,λ x c e=>?_,?_,λ x c e=>?_,λ p hp=>?_,bt,I.len⟩
 ·exact keep b o (XU b o e) hb (UW b o e hx) (I.base.keep b o e n hb hx) (I.base.free b o e n hx)
 ·obtain⟨sl,e1⟩:=I.base.slot b o e n hb hx;obtain⟨Ip,e2⟩:=slot b _ (XU b o e) hb (UW b o e hx) e1 (I.base.free b o e n hx);exact⟨Ip,e2⟩
 ·obtain⟨o',e1⟩:=I.base.there b o e hx;exact free b o' (UW b o e hx) e1 (I.base.free b o e n hx)
 ·obtain⟨o',e1⟩:=I.base.there b o e hx;exact there b o' (UW b o e hx) e1
 ·obtain⟨m1,e1⟩:=I.base.mY b ps e;obtain⟨m2,e2⟩:=mY b _ e1;exact⟨m1++m2,by rw[e2,Array.append_assoc]⟩
 ·obtain⟨m,hn,hl⟩:=I.loc;refine⟨m,ns m hn,λ i x v e1 e2 e3=>?_⟩;obtain⟨u,r,l⟩:=hl i x v e1 e2 e3;refine⟨u,r,?_⟩;rcases l with l|⟨k,c,e,z⟩
  ·exact .inl l
  ·exact .inr ⟨k,c,e,cellK x c e _ z⟩
 ·obtain⟨v,z⟩:=I.cell x c e;exact⟨v,cellK x c e v z⟩
 ·obtain⟨m,⟨o,_,_,ho,_⟩,_⟩:=I.loc;exact free _ o (λ z=>(CH _ z).2.1 rfl) ho I.free
 ·obtain⟨v,o,ho,hd⟩:=I.cell x c e;exact free c o (λ z=>(CH c z).2.2.1 x c e rfl) ho (I.gu x c e)
 ·obtain⟨e,n,ne,nf,d⟩:=I.pin p hp;have SD:p.1∉ch:=λ z=>(CH p.1 z).2.2.2 p hp rfl;exact⟨keep p.1 p.2 ne nf SD e n,free p.1 p.2 SD e n,ne,nf,d⟩
theorem bd.un(I:bd X xz σ H s)(u:Un X.fs [] H H' s.heap h')(bt:iz X.prog X.w H' h'):bd X xz σ H' {s with heap:=h',toks:=t'}:=by
 obtain⟨m,⟨o,es,ep,ho,r⟩,_⟩:=id I.loc;obtain⟨sl,hL⟩:=u.any ho I.free (by simp);exact I.step (g':=s.gens) (d':=s.drawn) (ch:=[]) (λ _ z=>nomatch z) (λ b o _ hb _ e n=>u.keep b o e n hb (by simp)) (λ b o _ hb _ e n=>u.slot b o e n hb (by simp)) (λ b o _ e n=>u.free b o e n (by simp)) (λ b o _ e=>u.there b o e (by simp)) u.oE u.mq u.mY (λ m' hm=>by
  obtain⟨o',es',Xn,CF,r'⟩:=hm;rw[ho]at CF;cases CF;exact⟨_,es',Xn,hL,r'⟩) bt I.bare
theorem bd.call{g':Array GenState}{d':Drawn}(I:bd X xz σ H s)(u:Un (uC X.stack) ch H H' s.heap h')(bt:iz X.prog X.w H' h')(hg:AllBare g') (CH:∀b∈ch,(b∈X.ex\/X.s₀.heap.objs.size<=b)/\b≠X.env.locals/\(∀x c,X.env.cells.lookup x=some c->c≠b)/\∀p∈X.pn++xz,p.1≠b):bd X xz σ H' {s with heap:=h',gens:=g',drawn:=d',toks:=t'}:=by
 obtain⟨m,⟨o,es,ep,ho,r⟩,_⟩:=id I.loc;obtain⟨sl,hL⟩:=u.any ho I.free λ z=>(CH _ z).2.1 rfl;exact I.step (ch:=ch) CH (λ b o hL hb hc e n=>u.keep b o e n (λ z=>(C4.mp (I.oK b z)).elim hL hb) hc) (λ b o _ _ hc e n=>u.any e n hc) (λ b o hc e n=>u.free b o e n hc) (λ b o hc e=>u.there b o e hc) u.oE u.mq u.mY (λ m' hm=>by
  obtain⟨o',es',Xn,CF,r'⟩:=hm;rw[ho]at CF;cases CF;exact⟨_,es',Xn,hL,r'⟩) bt hg
theorem bd.turned{it:ww}(I:bd X xz σ H s)(k:∀b o,b≠it->s.heap.get? b=some o->h'.get? b=some o)(hn:H it=none)(hL:it≠X.env.locals) (h1:it∈X.ex\/X.s₀.heap.objs.size<=it) (h2:∀x c,X.env.cells.lookup x=some c->c≠it) (h3:∀p∈X.pn++xz,p.1≠it):bd X xz σ H {s with heap:=h',toks:=t'}:=by
 have SA:∀b u,H b=some u->b≠it:=λ b u e z=>by rw[z,hn]at e;cases e
 refine I.step (g':=s.gens) (d':=s.drawn) (ch:=[it]) (λ b hb=>?_) (λ b o _ _ hc e _=>k b o (λ z=>hc (by simp[z])) e) (λ b o _ _ hc e _=>⟨o.slots,k b o (λ z=>hc (by simp[z])) e⟩) (λ _ _ _ _ n=>n)
  (λ b o hc e=>⟨o,k b o (λ z=>hc (by simp[z])) e⟩) (λ _ _ e=>e) (λ _ _ _ e=>e) (λ b ps e=>⟨#[],by rw[e];simp⟩) (λ m hm=>?_) (λ b u e=>?_) I.bare
 ·have e:b=it:=by simpa using hb
  subst e;exact⟨h1,hL,h2,h3⟩
 ·obtain⟨o,es,ep,ho,r⟩:=hm;exact⟨o,es,ep,k _ o (J0 hL) ho,r⟩
 ·refine(I.bt b u e).qv (λ c v hc q=>k c v ?_ q) (λ _ q=>q) λ _ _ q=>q;rcases hc with z|z
  ·rw[z];exact SA b u e
  ·exact SA c _ z
theorem bd.tok(I:bd X xz σ H s)(t:Nat):bd X xz σ H {s with toks:=t}:=I.un (h':=s.heap) (t':=t) Un.refl I.bt
theorem bd.kept(I:bd X xz σ H s)(k:∀b u,s.heap.get? b=some u->h'.get? b=some u):bd X xz σ H {s with heap:=h',toks:=t'}:=I.un (Un.kept k) (I.bt.kept k)
theorem bd.laid{o:HO}(I:bd X xz σ H s)(k:∀b u,s.heap.get? b=some u->h'.get? b=some u)(hp:s.heap.objs.size<=a)(new:bO X.prog X.w (ci H a o) h' a o):bd X xz σ (ci H a o) {s with heap:=h',toks:=t'}:=I.un (Un.laid k hp (I.bt.fresh hp)) (I.bt.laid k hp new)
theorem bd.write{x e:ww}{o:HO}(I:bd X xz σ H s)(mu:T5 (H x))(he:e=x\/H e=some (.own x))(k:∀b u,b≠e->s.heap.get? b=some u->h'.get? b=some u)(Q7:∃u,h'.get? e=some u) (new:bO X.prog X.w (ci H x o) h' x o):bd X xz σ (ci H x o) {s with heap:=h',toks:=t'}:=I.un (Un.write mu he k Q7) (I.bt.write mu he k Q7 new)
theorem bd.weak{σ':List (Option V)}(I:bd X xz σ H s)(hl:σ'.length=σ.length)(w:∀(i:Nat) v,σ'[i]?=some (some v)->σ[i]?=some (some v)):bd X xz σ' H s:=
 ⟨I.ok,I.os,I.bare,I.base,let⟨m,hn,uB⟩:=I.loc;⟨m,hn,λ i x v e1 e2 e3=>uB i x v e1 (w i v e2) e3⟩,I.cell,I.free,I.gu,I.pin,I.bt,hl.trans I.len⟩
theorem bd.kR{pins':List (ww×Obj)}(I:bd X xz σ H s)(h:∀p∈pins',s.heap.get? p.1=some p.2/\H p.1=none/\p.1≠X.env.locals/\p.1∉X.fs/\∀v,p.2.data≠.cell v):bd X pins' σ H s:=
 ⟨I.ok,I.os,I.bare,I.base,I.loc,I.cell,I.free,I.gu,λ p hp=>(A6.mp hp).elim (λ z=>I.pin p (k8 _ z)) (h p),I.bt,I.len⟩
theorem iV{N:List Str}(hN:N.Nodup)(a:N[i]?=some x)(b:N[j]?=some x):i=j:=by obtain⟨h1,e1⟩:=c9.mp a;obtain⟨h2,e2⟩:=c9.mp b;exact(getElem_inj hN).mp (e1.trans e2.symm)
theorem rh{M:Model}{v:V}{Q:Unit->kt->Prop}(I:bd X xz σ H s)(hN:X.N.Nodup)(hi:X.N[i]?=some x)(hx:Loc X.env.scope x)(r:bn v u) (h:∀s',bd X xz (σ.set i (some v)) H s'->(∃a,Heap.SameBut a s.heap s'.heap/\(a=X.env.locals\/X.env.cells.lookup x=some a))->Q () s') (hf:X.fn x=true\/X.env.scope.names.lookup x=some .local:=by first|exact .inl rfl|exact .inr rfl|assumption):wpAny M A (storeName X.env x u) Q E s:=by
 obtain⟨m,hn,hl⟩:=id I.loc;have W3:(X.env.scope.kind==.class||(X.env.scope.kind==.module&&X.env.locals != X.env.globals))=false:=by rw[I.ok.kind];rfl
 have Yn:i < σ.length:=by rw[I.len];exact(c9.mp hi).1
 have Mk:=I.Mk;have tracked:∀{a:ww} {h':Heap},(∃o,s.heap.get? a=some o/\H a=none)->Heap.SameBut a s.heap h'->iz X.prog X.w H h':=λ{a h'} ha hs b ob e=>by
  obtain⟨_,_,L9⟩:=ha;refine(I.bt b ob e).qv (λ c w' hc q=>(hs.2 c ?_).trans q) (λ _ q=>q) λ _ _ q=>q;rintro rfl;rcases hc with rfl|hc
  ·rw[L9]at e;cases e
  ·rw[L9]at hc;cases hc
 rcases hx with hk|hk
 ·refine wpAny_storeName_local hk hn (λ h' hn' hs=>?_) W3;obtain⟨oL,_,_,KO,_⟩:=id hn;refine h _ ⟨I.ok,I.os,I.bare,⟨λ b o e n hb hx=>?_,λ b o e n hb hx=>?_,I.base.free,λ b o e hx=>?_,I.base.oE,I.base.mq,I.base.mY⟩,⟨_,hn',λ j y v' e1 e2 e3=>?_⟩,λ y c e=>?_,I.free,I.gu,λ p hp=>?_,tracked ⟨oL,KO,I.free⟩ hs,by simpa using I.len⟩ ⟨_,hs,.inl rfl⟩
  ·exact(hs.2 b (C6 (p7 (C7 e) I.ok.above))).trans (I.base.keep b o e n hb hx)
  ·obtain⟨sl,e1⟩:=I.base.slot b o e n hb hx;exact⟨sl,(hs.2 b (C6 (p7 (C7 e) I.ok.above))).trans e1⟩
  ·obtain⟨o',e1⟩:=I.base.there b o e hx;exact⟨o',(hs.2 b (C6 (p7 (C7 e) I.ok.above))).trans e1⟩
  ·by_cases hj:j=i
   ·subst hj;rw[hi]at e1;cases e1;rw[j5 Yn]at e2;cases e2;exact⟨u,r,.inl ⟨hk,by simp⟩⟩
   ·rw[l0 (J0 hj)]at e2;obtain⟨u',r',q⟩:=hl j y v' e1 e2 e3;refine⟨u',r',?_⟩;rcases q with⟨k,e⟩|⟨k,c,e,z⟩
    ·refine .inl ⟨k,?_⟩;have:y≠x:=λ e=>hj (iV hN e1 (e▸hi));simp[this,e]
    ·exact .inr ⟨k,c,e,z.sameBut hs (Mk y c e)⟩
  ·obtain⟨w',z⟩:=I.cell y c e;exact⟨w',z.sameBut hs (Mk y c e)⟩
  ·obtain⟨e,n,ne,nf,d⟩:=I.pin p hp;exact⟨(hs.2 p.1 ne).trans e,n,ne,nf,d⟩
 ·have W0:X.fn x=true:=by
   rcases hf with z|z
   ·exact z
   ·rw[z]at hk;cases hk
  obtain⟨c,hc⟩:=I.ok.has x (.inl hk);obtain⟨w',z⟩:=I.cell x c hc;refine wpAny_storeName_cell I.ok.kind hk hc z (λ h' PN hs=>?_);obtain⟨oc,Yg,WB⟩:=id z;refine h {s with heap:=h'} ⟨I.ok,I.os,I.bare,⟨λ b o e n hb hx=>?_,λ b o e n hb hx=>?_,I.base.free,λ b o e hx=>?_,I.base.oE,I.base.mq,I.base.mY⟩,⟨m,hn.sameBut hs (J0 (Mk x c hc)),λ j y v' e1 e2 e3=>?_⟩,λ y c' e=>?_,I.free,I.gu,λ p hp=>?_,tracked ⟨oc,Yg,I.gu x c hc⟩ hs,by simpa using I.len⟩ ⟨c,hs,.inr hc⟩
  ·exact(hs.2 b (C6 (p7 (C7 e) (I.ok.Rb x c W0 hc)))).trans (I.base.keep b o e n hb hx)
  ·obtain⟨sl,e1⟩:=I.base.slot b o e n hb hx;exact⟨sl,(hs.2 b (C6 (p7 (C7 e) (I.ok.Rb x c W0 hc)))).trans e1⟩
  ·obtain⟨o',e1⟩:=I.base.there b o e hx;exact⟨o',(hs.2 b (C6 (p7 (C7 e) (I.ok.Rb x c W0 hc)))).trans e1⟩
  ·by_cases hj:j=i
   ·subst hj;rw[hi]at e1;cases e1;rw[j5 Yn]at e2;cases e2;exact⟨u,r,.inr ⟨.inl hk,c,hc,PN⟩⟩
   ·rw[l0 (J0 hj)]at e2;obtain⟨u',r',q⟩:=hl j y v' e1 e2 e3;refine⟨u',r',?_⟩;rcases q with q|⟨k,c',e,z'⟩
    ·exact .inl q
    ·refine .inr ⟨k,c',e,z'.sameBut hs ?_⟩;rintro rfl;exact hj (iV hN e1 (I.ok.inj _ _ _ e hc▸hi))
  ·by_cases L_:c'=c
   ·subst L_;exact⟨_,PN⟩
   ·obtain⟨w2,z2⟩:=I.cell y c' e;exact⟨w2,z2.sameBut hs L_⟩
  ·obtain⟨e,n,ne,nf,d⟩:=I.pin p hp;refine⟨(hs.2 p.1 ?_).trans e,n,ne,nf,d⟩;intro q;rw[q,Yg]at e;have q':oc=p.2:=A1 e;exact d w' (by rw[<- q'];exact WB)
theorem oJ{M:Model}{v:V}{Q:Unit->kt->Prop}(I:bd X xz σ H s)(hN:X.N.Nodup)(hi:X.N[i]?=some x)(hx:Loc X.env.scope x)(r:bn v u) (h:∀s',bd X xz (σ.set i (some v)) H s'->Q () s') (hf:X.fn x=true\/X.env.scope.names.lookup x=some .local:=by first|exact .inl rfl|exact .inr rfl|assumption):wpAny M A (storeName X.env x u) Q E s:=
 rh I hN hi hx r (λ s' I' _=>h s' I') hf
theorem bd.TN(I:bd X xz σ H s)(ho:s'.os=s.os)(u:Un (uC X.stack) ch H H' s.heap s'.heap)(bt:iz X.prog X.w H' s'.heap)(hg:AllBare s'.gens) (CH:∀b∈ch,(b∈X.ex\/X.s₀.heap.objs.size<=b)/\b≠X.env.locals/\(∀x c,X.env.cells.lookup x=some c->c≠b)/\∀p∈X.pn++xz,p.1≠b):bd X xz σ H' s':=by obtain⟨h',g',d',t',o'⟩:=s';have e:o'=s.os:=ho;subst e;exact I.call (g':=g') (t':=t') (d':=d') u bt hg CH
end
abbrev XK:=jp->Option ww->Hp->Prop
abbrev St:=List (Option V)
abbrev VK:=V->Hp->Prop
abbrev TE:=St->Hp->VK->Prop
abbrev TT:=St->Hp->(Bool->Hp->Prop)->Prop
abbrev TA:=St->Hp->(List V->Hp->Prop)->Prop
structure Ends where
 nx:St->Hp->Prop
 rt:VK
 bk:St->Hp->Prop:=λ _ _=>False
 ct:St->Hp->Prop:=λ _ _=>False
abbrev TS:=Ends->St->Hp->Prop
def EP(X:Cx)(xz:List (ww×Obj))(σ:St)(Q:VK)(u:jp)(s':kt):Prop:=∃v H',bd X xz σ H' s'/\bn v u/\Q v H'
def TP(X:Cx)(xz:List (ww×Obj))(σ:St)(Q:Bool->Hp->Prop)(b:Bool)(s':kt):Prop:=∃H',bd X xz σ H' s'/\Q b H'
def AP(X:Cx)(xz:List (ww×Obj))(σ:St)(Q:List V->Hp->Prop)(us:List jp)(s':kt):Prop:=∃vs H',bd X xz σ H' s'/\ce vs us/\Q vs H'
def SP(X:Cx)(xz:List (ww×Obj))(D:Ends)(f:Flow)(s':kt):Prop:=
 match f with
 | .next=>∃σ' H',bd X xz σ' H' s'/\D.nx σ' H'
 | .brk=>∃σ' H',bd X xz σ' H' s'/\D.bk σ' H'
 | .cont=>∃σ' H',bd X xz σ' H' s'/\D.ct σ' H'
 | .ret u=>∃v σ' H',bd X xz σ' H' s'/\bn v u/\D.rt v H'
def PE(X:Cx)(e:Expr)(t:TE):Prop:=
 ∀(xz:List (ww×Obj)) (s:kt) (σ:St) (H:Hp) (Q:VK),bd X xz σ H s->t σ H Q->wpAny (model X.prog X.w) X.A (eval e X.env) (EP X xz σ Q) X.xe s
def PT(X:Cx)(e:Expr)(t:TT):Prop:=
 ∀(xz:List (ww×Obj)) (s:kt) (σ:St) (H:Hp) (Q:Bool->Hp->Prop),bd X xz σ H s->t σ H Q->wpAny (model X.prog X.w) X.A (isTrue e X.env (eval e X.env)) (TP X xz σ Q) X.xe s
def PW(X:Cx)(e:Expr)(t:TT):Prop:=
 ∀(whole:Sem jp) (xz:List (ww×Obj)) (s:kt) (σ:St) (H:Hp) (Q:Bool->Hp->Prop),bd X xz σ H s->t σ H Q->wpAny (model X.prog X.w) X.A (isTrue e X.env whole) (TP X xz σ Q) X.xe s
theorem PW.pt{X:Cx}{t:TT}(h:PW X e t):PT X e t:=h _
def PA(X:Cx)(es:List Expr)(t:TA):Prop:=
 ∀(pos:Pos) (xz:List (ww×Obj)) (s:kt) (σ:St) (H:Hp) (Q:List V->Hp->Prop),bd X xz σ H s->t σ H Q->wpAny (model X.prog X.w) X.A (spliced (backTo pos (starEach es X.env))) (AP X xz σ Q) X.xe s
def PS(X:Cx)(st:Stmt)(t:TS):Prop:=
 ∀(xz:List (ww×Obj)) (s:kt) (σ:St) (H:Hp) (D:Ends),bd X xz σ H s->t D σ H->wpAny (model X.prog X.w) X.A (exec st X.env) (SP X xz D) X.xe s
def wU(X:Cx)(st:List Stmt)(t:TS):Prop:=
 ∀(xz:List (ww×Obj)) (s:kt) (σ:St) (H:Hp) (D:Ends),bd X xz σ H s->t D σ H->wpAny (model X.prog X.w) X.A (execs st X.env) (SP X xz D) X.xe s
theorem dA{t:Sem α}{Q Q':α->kt->Prop}{M:Model}(h:wpAny M A t Q E s)(hQ:∀a s,Q a s->Q' a s):wpAny M A t Q' E s:=G8 h hQ λ _ _ x=>x
section
variable {X:Cx}
def Vu(i:Nat):TE:=λ σ H Q=>∃v,σ[i]?=some (some v)/\Q v H
def tC(v:V):TE:=λ _ H Q=>Q v H
theorem Fh{pos:Pos}(hN:X.N[i]?=some x)(hv:Ln X.env.scope x)(hd:(x==("__debug__":Str))=false:=by decide)(hcd:(x==("__classdict__":Str))=false:=by decide):PE X (.Name x pos) (Vu i):=by
 intro xz s σ H Q I h;obtain⟨v,e,h⟩:=h;obtain⟨m,hn,hl⟩:=I.loc;obtain⟨u,r,l⟩:=hl i x v hN e hv;have fin:EP X xz σ Q u s:=⟨v,H,I,r,h⟩;rcases l with⟨hk,hm⟩|⟨hk,c,hc,Az⟩
 ·exact wpAny_Name (wpAny_loadName_local I.ok.kind hk hn hm fin) hd
 ·rcases hk with hk|hk
  ·exact wpAny_Name (wpAny_loadName_cell I.ok.kind hk hc Az fin) hd
  ·exact wpAny_Name (wpAny_loadName_free I.ok.kind hk hc Az fin hcd) hd
theorem Oq{i j pos:_}:PE X (.Constant (.int i) j pos) (tC (.int i)):=λ _ _ _ H _ I h=>wpAny_Constant_int ⟨.int i,H,I.tok _,⟨_,rfl⟩,h⟩
theorem Se{b j pos:_}:PE X (.Constant (.bool b) j pos) (tC (.bl b)):=λ _ _ _ H _ I h=>Constant_bool ⟨.bl b,H,I,rfl,h⟩
theorem Ol{j pos:_}:PE X (.Constant .none j pos) (tC .bK):=λ _ _ _ H _ I h=>Constant_none ⟨.bK,H,I,rfl,h⟩
theorem Oi{x j pos:_}:PE X (.Constant (.str x) j pos) (tC (.str x)):=λ _ _ _ H _ I h=>Calls.Constant_str ⟨.str x,H,I.tok _,⟨_,rfl⟩,h⟩
def Gl(X:Cx)(x:Str):Prop:=X.env.kindOf x=some .globalImplicit
theorem Al{σ:St}{H:Hp}{pos:Pos}(I:bd X xz σ H s)(hg:Gl X x)(hm:X.mg x=some u)(h:Q u s) (hd:(x==("__debug__":Str))=false:=by decide):wpAny (model X.prog X.w) X.A (eval (.Name x pos) X.env) Q E s:=
 Calls.Name_function_global I.ok.kind hg (Calls.loadGlobal_global (by rw[I.ok.glob];exact I.mod.glob.keeps I.bk) hm h) hd
theorem gQ{σ:St}{H:Hp}{pos:Pos}(I:bd X xz σ H s)(hg:Gl X x)(hm:X.mg x=none)(hv:bootBuiltins x=some u)(h:Q u s) (hn:x≠"__name__":=by decide) (hd:(x==("__debug__":Str))=false:=by decide):wpAny (model X.prog X.w) X.A (eval (.Name x pos) X.env) Q E s:=by obtain⟨mb,h1,h2⟩:=I.mod.blt;exact Calls.Name_function_global I.ok.kind hg (Calls.loadGlobal_builtin (by rw[I.ok.glob];exact I.mod.glob.keeps I.bk) hm (by rw[I.ok.blt];exact h1.keeps I.bk) ((h2 x hn).trans hv) h) hd
variable {a b:Expr}{ta tb:TE}{pos:Pos}
def tB(t:TE):TT:=λ σ H Q=>t σ H λ x H1=>∃c,x=.bl c/\Q c H1
theorem N7{t:TE}(h:PE X e t)(he:∀whole,isTrue e X.env whole=(do let v <- whole;standAt e.pos;holding [v] (truthy v)):=by intro _;rfl):PT X e (tB t):=by intro xz s σ H Q I hw;refine isTrue_plain (dA (h xz s σ H _ I hw) λ v s1 ⟨x,H1,I1,r1,q1⟩=>?_) (he _);obtain⟨d,rfl,q⟩:=q1;cases r1;exact wpAny_truthy_bool ⟨H1,I1,q⟩
variable {tA Uk:TT}
def VG(t u:TT):TT:=λ σ H Q=>t σ H λ c H1=>if c=true then u σ H1 Q else Q false H1
def Y'(t u:TT):TT:=λ σ H Q=>t σ H λ c H1=>if c=true then Q true H1 else u σ H1 Q
def Vy(t:TT):TT:=λ σ H Q=>t σ H λ c H1=>Q (!c) H1
theorem JB(ha:PT X a tA):PW X (.BoolOp .And [a] pos) tA:=by
 intro wh xz s σ H Q I h;refine isTrue_and (dA (ha xz s σ H Q I h) λ c s1 e=>?_);cases c with
 |true=>exact isTrue_and_nil e
 |false=>exact e
theorem N4(ha:PT X a tA):PW X (.BoolOp .Or [a] pos) tA:=by
 intro wh xz s σ H Q I h;refine isTrue_or (dA (ha xz s σ H Q I h) λ c s1 e=>?_);cases c with
 |false=>exact isTrue_or_nil e
 |true=>exact e
theorem N6(ha:PT X a tA)(hb:PW X (.BoolOp .And (b::rest) pos) Uk):PW X (.BoolOp .And (a::b::rest) pos) (VG tA Uk):=by
 intro wh xz s σ H Q I h;refine isTrue_and (dA (ha xz s σ H _ I h) λ c s1 ⟨H1,I1,q1⟩=>?_);cases c with
 |true=>exact hb wh xz s1 σ H1 Q I1 q1
 |false=>exact⟨H1,I1,q1⟩
theorem R9(ha:PT X a tA)(hb:PW X (.BoolOp .Or (b::rest) pos) Uk):PW X (.BoolOp .Or (a::b::rest) pos) (Y' tA Uk):=by
 intro wh xz s σ H Q I h;refine isTrue_or (dA (ha xz s σ H _ I h) λ c s1 ⟨H1,I1,q1⟩=>?_);cases c with
 |true=>exact⟨H1,I1,q1⟩
 |false=>exact hb wh xz s1 σ H1 Q I1 q1
theorem N8(ha:PT X a tA):PT X (.UnaryOp .Not a pos) (Vy tA):=by intro xz s σ H Q I h;exact isTrue_not (ha xz s σ H (λ c H1=>Q (!c) H1) I h)
def RA(ta tb:TE):TE:=λ σ H Q=>ta σ H λ x H1=>∃c,x=.bl c/\if c=true then tb σ H1 Q else Q (.bl false) H1
theorem Oj{op:_}{t:TE}(h:PE X a t):PE X (.BoolOp op [a] pos) t:=λ xz s σ H Q I hw=>BoolOp_one (h xz s σ H Q I hw)
theorem Ow(ha:PE X a ta)(hb:PE X (.BoolOp .And (b::rest) pos) tb):PE X (.BoolOp .And (a::b::rest) pos) (RA ta tb):=by
 intro xz s σ H Q I h;refine BoolOp_and (dA (ha xz s σ H _ I h) λ v s1 ⟨x,H1,I1,r1,q1⟩=>?_);obtain⟨c,rfl,q1⟩:=q1;cases r1;refine wpAny_truthy_bool ?_;cases c with
 |true=>exact hb xz s1 σ H1 Q I1 q1
 |false=>exact⟨.bl false,H1,I1,rfl,q1⟩
end
def gB(K:J5)(H:Hp)(a:ww)(xs:List V):Prop:=
 Rd H a (.lst xs)\/
  ∃(o:Obj) (aB:Array jp) (n:Nat),K.lookup a=some o/\o.cls=.type "list"/\o.dict=none/\o.data=.seq aB n/\aB.size<=sizeLine/\ce xs aB.toList
def iD(K:J5)(H:Hp)(a:ww)(xs:List V):Prop:=
 Rd H a (.tup xs)\/
  ∃(o:Obj) (aB:Array jp) (n:Nat),K.lookup a=some o/\o.cls=.type "tuple"/\o.data=.seq aB n/\aB.size<=sizeLine/\ce xs aB.toList
def Xv:jp->Option V
 | .none=>some .bK
 | .bool b=>some (.bl b)
 | .int i _=>some (.int i)
 | .str x _=>some (.str x)
 | .bytes b _=>some (.He b)
 | .float b _=>some (.Xm b)
 | .ref a=>some (.ref a)
 | .type n=>some (.ty n)
 |_=>none
theorem bn.abs{x:V}(r:bn x u):Xv u=some x:=by
 cases x with
 |bK=>cases r;rfl
 |bl _=>cases r;rfl
 |int _=>obtain⟨t,rfl⟩:=r;rfl
 |str _=>obtain⟨t,rfl⟩:=r;rfl
 |He _=>obtain⟨t,rfl⟩:=r;rfl
 |Xm _=>obtain⟨t,rfl⟩:=r;rfl
 |ref _=>cases r;rfl
 |ty _=>cases r;rfl
theorem bn.inj{x y:V}(r:bn x u)(q:bn y u):x=y:=A1 (r.abs.symm.trans q.abs)
theorem ce.inj:∀{xs ys:List V} {us:List jp},ce xs us->ce ys us->xs=ys
 |_,_,_,.nil,.nil=>rfl
 |_,_,_,.cons r t,.cons r' t'=>by rw[r.inj r',ce.inj t t']
section
variable {X:Cx}{σ:St}{H:Hp}{xs ys:List V}
theorem gB.of(h:H a=some (.lst xs)):gB K H a xs:=.inl (.inl h)
theorem iD.of(h:H a=some (.tup xs)):iD K H a xs:=.inl (.inl h)
theorem bd.list(I:bd X xz σ H s)(h:gB X.K H a xs):∃aB:List jp,ce xs aB/\PlainL s.heap a aB.toArray/\xs.length<=sizeLine:=by
 rcases h with h|⟨o,aB,n,hk,hc,hd,hs,hz,r⟩
 ·obtain⟨z,aB,n,r,e⟩:=h.ok I.bt;exact⟨aB,r,⟨_,n,e,rfl,rfl,rfl⟩,z⟩
 ·refine⟨aB.toList,r,⟨o,n,I.LX a o hk,hc,hd,by simpa using hs⟩,?_⟩;have e:=r.length;simp only[l9]at e;lia
theorem bd.tuple(I:bd X xz σ H s)(h:iD X.K H a xs):∃aB:List jp,ce xs aB/\IsTup s.heap a aB.toArray/\xs.length<=sizeLine:=by
 rcases h with h|⟨o,aB,n,hk,hc,hs,hz,r⟩
 ·obtain⟨z,aB,r,p⟩:=h.ok I.bt;exact⟨aB,r,p,z⟩
 ·refine⟨aB.toList,r,⟨o,I.LX a o hk,hc,n,by simpa using hs⟩,?_⟩;have e:=r.length;simp only[l9]at e;lia
theorem bd.vN(I:bd X xz σ H s)(h:gB X.K H a xs)(h':gB X.K H a ys):xs=ys:=by
 obtain⟨aB,r,⟨o,n,e,_,_,d⟩,_⟩:=I.list h;obtain⟨its',r',⟨o',n',e',_,_,d'⟩,_⟩:=I.list h';rw[e]at e';cases e';rw[d]at d';injection d' with d1 _
 have:aB=its':=by simpa using H9 Array.toList d1
 subst this;exact r.inj r'
theorem bd.qY(I:bd X xz σ H s)(h:iD X.K H a xs)(h':iD X.K H a ys):xs=ys:=by
 obtain⟨aB,r,⟨o,e,_,n,d⟩,_⟩:=I.tuple h;obtain⟨its',r',⟨o',e',_,n',d'⟩,_⟩:=I.tuple h';rw[e]at e';cases e';rw[d]at d';injection d' with d1 _
 have:aB=its':=by simpa using H9 Array.toList d1
 subst this;exact r.inj r'
end
abbrev Cx.qu (X:Cx)(E:jp->kt->Prop):Cx:={X with xe:=E}
abbrev Cx.Ki (X:Cx):Cx:=X.qu λ _ _=>False
theorem Cx.Ok.qu{X:Cx}(ok:X.Ok)(E:jp->kt->Prop):(X.qu E).Ok:=
 ⟨ok.mod,ok.kind,ok.glob,ok.blt,ok.above,ok.inj,ok.has,ok.Rb,ok.hd,ok.frames,ok.UI,ok.YN,ok.bs,ok.De,ok.Cj,ok.K0,ok.jU,ok.KY⟩
theorem Cx.Ok.iF{X:Cx}(ok:(X.qu E).Ok):X.Ok:=
 ⟨ok.mod,ok.kind,ok.glob,ok.blt,ok.above,ok.inj,ok.has,ok.Rb,ok.hd,ok.frames,ok.UI,ok.YN,ok.bs,ok.De,ok.Cj,ok.K0,ok.jU,ok.KY⟩
section
variable {X:Cx}{σ:St}{H:Hp}
theorem bd.qu(I:bd X xz σ H s)(E:jp->kt->Prop):bd (X.qu E) xz σ H s:=⟨I.ok.qu E,I.os,I.bare,I.base,I.loc,I.cell,I.free,I.gu,I.pin,I.bt,I.len⟩
theorem bd.iF(I:bd (X.qu E) xz σ H s):bd X xz σ H s:=⟨I.ok.iF,I.os,I.bare,I.base,I.loc,I.cell,I.free,I.gu,I.pin,I.bt,I.len⟩
theorem SP.iF{D:Ends}{f:Flow}(h:SP (X.qu E) xz D f s'):SP X xz D f s':=by
 cases f with
 |next=>obtain⟨σ',H',I,q⟩:=h;exact⟨σ',H',I.iF,q⟩
 |brk=>obtain⟨σ',H',I,q⟩:=h;exact⟨σ',H',I.iF,q⟩
 |cont=>obtain⟨σ',H',I,q⟩:=h;exact⟨σ',H',I.iF,q⟩
 |ret u=>obtain⟨v,σ',H',I,r,q⟩:=h;exact⟨v,σ',H',I.iF,r,q⟩
theorem wU.Ki{st:List Stmt}{t:TS}(h:wU X.Ki st t):wU X st t:=λ xz s σ H D I hw=>
 G8 (h xz s σ H D (I.qu _) hw) (λ _ _ q=>q.iF) λ _ _ z=>False.elim z
end
section
variable {X:Cx}{rest:List Stmt}{t u:TS}{te:TE}{pos:Pos}
def Ry:TS:=λ D σ H=>D.nx σ H
def Vw(t u:TS):TS:=λ D σ H=>t {D with nx:=u D} σ H
theorem JG:wU X [] Ry:=λ _ _ σ H _ I h=>wpAny_execs_nil ⟨σ,H,I,h⟩
theorem EY(h1:PS X st t)(h2:wU X rest u):wU X (st::rest) (Vw t u):=by
 intro xz s σ H D I h;refine wpAny_execs_cons (dA (h1 xz s σ H {D with nx:=u D} I h) λ f s1 q=>?_);cases f with
 |next=>obtain⟨σ',H',I',q⟩:=q;exact h2 xz s1 σ' H' D I' q
 |ret v=>exact q
 |brk=>exact q
 |cont=>exact q
theorem JF(h1:PS X st t):wU X [st] t:=by
 intro xz s σ H D I h;refine wpAny_execs_cons (dA (h1 xz s σ H D I h) λ f s1 q=>?_);cases f with
 |next=>exact wpAny_execs_nil q
 |ret v=>exact q
 |brk=>exact q
 |cont=>exact q
theorem bd.quiet{σ:St}{H:Hp}(I:bd X xz σ H s):interactive X.env=false:=by simp[interactive,I.ok.kind]
def Rz(te:TE):TS:=λ D σ H=>te σ H λ _ H1=>D.nx σ H1
theorem JH(he:PE X e te)(hs:swapsWith e none pos.line X.env=pure false:=by rfl):PS X (.Expr e pos) (Rz te):=by intro xz s σ H D I h;exact wpAny_Expr_any (dA (he xz s σ H _ I h) λ v s1 ⟨x,H1,I1,r1,q1⟩=>⟨σ,H1,I1,q1⟩) I.quiet hs
def Vx(te:TE):TS:=λ D σ H=>te σ H D.rt
theorem N_(he:PE X e te):PS X (.Return (some e) pos) (Vx te):=by intro xz s σ H D I h;exact wpAny_Return_some (dA (he xz s σ H _ I h) λ v s1 ⟨x,H1,I1,r1,q1⟩=>⟨x,σ,H1,I1,r1,q1⟩)
def VB(c:TT)(t u:TS):TS:=λ D σ H=>c σ H λ b H1=>if b=true then t D σ H1 else u D σ H1
theorem R_{a b:List Stmt}{tc:TT}(hc:PT X c tc)(ha:wU X a t)(hb:wU X b u):PS X (.If c a b pos) (VB tc t u):=by
 intro xz s σ H D I h;refine wpAny_If (dA (hc xz s σ H _ I h) λ d s1 ⟨H1,I1,q1⟩=>?_);cases d with
 |true=>exact ha xz s1 σ H1 D I1 q1
 |false=>exact hb xz s1 σ H1 D I1 q1
end
abbrev TG:=V->St->Hp->(St->Hp->Prop)->Prop
abbrev Bf:=List V->St->Hp->(St->Hp->Prop)->Prop
def PG(X:Cx)(target:Expr)(t:TG):Prop:=
 ∀(xz:List (ww×Obj)) (s:kt) (σ:St) (H:Hp) (v:V) (u:jp) (Q:St->Hp->Prop),bd X xz σ H s->bn v u->t v σ H Q->
  wpAny (model X.prog X.w) X.A (assign target X.env u) (λ _ s'=>∃σ' H',bd X xz σ' H' s'/\Q σ' H') X.xe s
def Qz(X:Cx)(ts:List Expr)(t:Bf):Prop:=
 ∀(xz:List (ww×Obj)) (s:kt) (σ:St) (H:Hp) (vs:List V) (us:List jp) (Q:St->Hp->Prop),bd X xz σ H s->ce vs us->t vs σ H Q->
  wpAny (model X.prog X.w) X.A (assignInOrder ((assignEach ts X.env).map (·.2)) us) (λ _ s'=>∃σ' H',bd X xz σ' H' s'/\Q σ' H') X.xe s
abbrev Di:=V->V->V->Hp->(Hp->Prop)->Prop
def uk(X:Cx)(t:Di):Prop:=
 ∀(xz:List (ww×Obj)) (s:kt) (σ:St) (H:Hp) (o i v:V) (ov iv u:jp) (Q:Hp->Prop),bd X xz σ H s->bn o ov->bn i iv->bn v u->t o i v H Q->
  wpAny (model X.prog X.w) X.A (setItem ov iv u) (λ _ s'=>∃H',bd X xz σ H' s'/\Q H') X.xe s
abbrev Vj:=V->V->Hp->VK->Prop
def YX(X:Cx)(op:Operator)(t:Vj):Prop:=
 ∀(xz:List (ww×Obj)) (s:kt) (σ:St) (H:Hp) (x y:V) (v u:jp) (Q:VK),bd X xz σ H s->bn x v->bn y u->t x y H Q->
  wpAny (model X.prog X.w) X.A (inplaceOp op v u) (EP X xz σ Q) X.xe s
section
variable {X:Cx}{pos:Pos}
def de(i:Nat):TG:=λ v σ H Q=>Q (σ.set i (some v)) H
theorem aQ(hN:X.N.Nodup)(hi:X.N[i]?=some x)(hx:Loc X.env.scope x)(hf:X.fn x=true\/X.env.scope.names.lookup x=some .local:=by first|exact .inl rfl|exact .inr rfl|assumption):PG X (.Name x pos) (de i):=by intro xz s σ H v u Q I r h;exact wpAny_assign_Name (oJ I hN hi hx r (λ s' I'=>⟨_,H,I',h⟩) hf)
def tR:Bf:=λ vs σ H Q=>vs=[]/\Q σ H
def dX(t:TG)(u:Bf):Bf:=λ vs σ H Q=>∃v r,vs=v::r/\t v σ H λ σ' H'=>u r σ' H' Q
theorem fS:Qz X [] tR:=by intro xz s σ H vs us Q I r h;obtain⟨e,h⟩:=h;subst e;cases r;exact assignInOrder_nil ⟨σ,H,I,h⟩
theorem bU{t:TG}{u:Bf}(h1:PG X e t)(h2:Qz X es u) (hs:(assignEach (e::es) X.env).map (·.2)=assign e X.env::(assignEach es X.env).map (·.2):=by rfl):Qz X (e::es) (dX t u):=by
 intro xz s σ H vs us Q I r h;obtain⟨v,vr,e1,h⟩:=h;subst e1;cases r with
 |cons r rr=>rw[hs];refine assignInOrder_cons (dA (h1 xz s σ H _ _ _ I r h) λ _ s1 ⟨σ1,H1,I1,q1⟩=>?_);exact h2 xz s1 σ1 H1 _ _ Q I1 rr q1
def wc(K:J5)(n:Nat)(t:Bf):TG:=λ v σ H Q=>∃a xs,v=.ref a/\iD K H a xs/\xs.length=n/\t xs σ H Q
theorem iU{t:Bf}(hc:X.calm=true)(h:Qz X es t) (hn:(assignEach es X.env).length=n:=by rfl) (hst:(assignEach es X.env).findIdx? (·.1)=none:=by rfl):PG X (.Tuple es k pos) (wc X.K n t):=by intro xz s σ H v u Q I r hw;obtain⟨a,xs,e1,hq,hl,hw⟩:=hw;subst e1;cases r;obtain⟨aB,rv,ht,hz⟩:=I.tuple hq;refine assign_Tuple_tuple (I.ok.hd hc) ht (by simp[hn,<- hl,rv.length]) hst λ h' hx=>?_;have I1:bd X xz σ H {s with heap:=h'}:=I.kept (t':=s.toks) λ b o e=>hx b o (C6 (C7 e)) e;exact h xz _ σ H xs _ Q I1 (by simpa using rv) hw
def Xk(to ti:TE)(t:Di):TG:=λ v σ H Q=>to σ H λ o H1=>ti σ H1 λ i H2=>t o i v H2 λ H3=>Q σ H3
theorem Og{o i:Expr}{to ti:TE}{t:Di}(ho:PE X o to)(hi:PE X i ti)(hs:uk X t) (ha:∀v,assign (.Subscript o i pos) X.env v=(do
   let ov <- holding [v] (eval o X.env)
   let iv <- holding [v,ov] (eval i X.env)
   standAt pos
   holding [v,ov,iv] (setItem ov iv v)
   release [v,ov,iv] []):=by intro _;rfl):PG X (.Subscript o i pos) (Xk to ti t):=by
 intro xz s σ H v u Q I r h;rw[ha];refine G4 (B7 (dA (ho xz s σ H _ I h) λ ov s1 ⟨x,H1,I1,r1,q1⟩=>?_));refine G4 (B7 (dA (hi xz s1 σ H1 _ I1 q1) λ iv s2 ⟨y,H2,I2,r2,q2⟩=>?_));refine G4 (wpAny_standAt (G4 (B7 (dA (hs xz s2 σ H2 x y v ov iv u _ I2 r1 r2 r q2) λ _ s3 ⟨H3,I3,q3⟩=>?_))));exact wpAny_release ⟨σ,H3,I3,q3⟩
def Ih(te:TE)(g:TG):TS:=λ D σ H=>te σ H λ x H1=>g x σ H1 D.nx
theorem Ob{te:TE}{g:TG}(he:PE X e te)(hg:PG X tg g)(hs:swapsWithSole [tg] e pos.line X.env=pure false:=by rfl)(hw:swappedStores [tg] e X.env=pure none:=by rfl) (h1:(assignEach [tg] X.env).map (·.2)=[assign tg X.env]:=by rfl):PS X (.Assign [tg] e pos) (Ih te g):=by intro xz s σ H D I h;refine wpAny_Assign_stores (dA (he xz s σ H _ I h) λ v s1 ⟨x,H1,I1,r1,q1⟩=>?_) hs hw;rw[h1];exact dA (hg xz s1 σ H1 x v _ I1 r1 q1) λ _ s2 q=>q
theorem N9{te:TE}(hN:X.N.Nodup)(hi:X.N[i]?=some x)(hx:Loc X.env.scope x)(he:PE X e te)(hs:swapsWith e (some (.Name x pos')) pos.line X.env=pure false:=by rfl)(hf:X.fn x=true\/X.env.scope.names.lookup x=some .local:=by first|exact .inl rfl|exact .inr rfl|assumption):PS X (.Assign [.Name x pos'] e pos) (Ih te (de i)):=by intro xz s σ H D I h;refine wpAny_Assign_Name (dA (he xz s σ H _ I h) λ v s1 ⟨y,H1,I1,r1,q1⟩=>?_) hs;exact oJ I1 hN hi hx r1 (λ s2 I2=>⟨_,H1,I2,q1⟩) hf
def VF(i:Nat)(te:TE)(ti:Vj):TS:=λ D σ H=>∃x,σ[i]?=some (some x)/\te σ H λ y H1=>ti x y H1 λ z H2=>D.nx (σ.set i (some z)) H2
theorem Oa{te:TE}{op:Operator}{ti:Vj}(hN:X.N.Nodup)(hi:X.N[i]?=some x)(hx:Loc X.env.scope x)(he:PE X e te)(ho:YX X op ti)(hf:X.fn x=true\/X.env.scope.names.lookup x=some .local:=by first|exact .inl rfl|exact .inr rfl|assumption):PS X (.AugAssign (.Name x pos') op e pos) (VF i te ti):=by
 intro xz s σ H D I h;obtain⟨v,e1,h⟩:=h;obtain⟨m,hn,hl⟩:=I.loc;have Y2:Ln X.env.scope x:=by rcases hx with k|k;exact .inl k;exact .inr (.inl k)
 obtain⟨u,r,l⟩:=hl i x v hi e1 Y2;refine wpAny_AugAssign_Name ?_;have go:wpAny (model X.prog X.w) X.A (eval e X.env) (λ w s₂=>wpAny (model X.prog X.w) X.A (inplaceOp op u w) (λ r s₃=>wpAny (model X.prog X.w) X.A (storeName X.env x r) (λ _=>SP X xz D .next) X.xe s₃) X.xe s₂) X.xe s:=by refine dA (he xz s σ H _ I h) λ w s1 ⟨y,H1,I1,r1,q1⟩=>?_;refine dA (ho xz s1 σ H1 v y u w _ I1 r r1 q1) λ z s2 ⟨zv,H2,I2,r2,q2⟩=>?_;exact oJ I2 hN hi hx r2 (λ s3 I3=>⟨_,H2,I3,q2⟩) hf
 rcases l with⟨hk,hm⟩|⟨hk,c,hc,Az⟩
 ·exact wpAny_loadName_local I.ok.kind hk hn hm go
 ·rcases hk with hk|hk
  ·exact wpAny_loadName_cell I.ok.kind hk hc Az go
  ·rcases hx with k|k
   ·have:X.env.scope.names.lookup x=some .free:=hk;rw[k]at this;cases this
   ·have:X.env.scope.names.lookup x=some .free:=hk;rw[k]at this;cases this
def ZH(f:Int->Int->Int):Vj:=λ x y H Q=>∃i j,x=.int i/\y=.int j/\Q (.int (f i j)) H
theorem Pq:YX X .Add (ZH λ i j=>i+j):=by intro xz s σ H x y v u Q I r1 r2 h;obtain⟨i,j,e1,e2,q⟩:=h;subst e1;subst e2;obtain⟨t,rfl⟩:=r1;obtain⟨t',rfl⟩:=r2;exact iadd_int ⟨.int _,H,I.tok _,⟨_,rfl⟩,q⟩
end
section
variable {X:Cx}{pos:Pos}
def MF(c:TT)(tb:TS):TS:=λ D σ H=>∃W:Nat->St->Hp->Prop,(∃m,W m σ H)/\∀m σ H,W m σ H->
 c σ H λ b H1=>if b=true then ∃N:St->Hp->Prop,(∀σ' H',N σ' H'->∃m',m' < m/\W m' σ' H')/\tb {D with nx:=N,ct:=N,bk:=D.nx} σ H1 else D.nx σ H1
theorem E_{tc:TT}{tb:TS}(hp:PassesOwn (model X.prog X.w) X.A X.env X.xe)(hc:PT X c tc)(hb:wU X body tb):PS X (.While c body [] pos) (MF tc tb):=by
 intro xz s σ H D I h;obtain⟨W,⟨m0,w0⟩,turn⟩:=h;refine wpAny_While (codeAny_whileLoop (λ n s'=>∃σ' H',bd X xz σ' H' s'/\W n σ' H') ?_ m0 ⟨σ,H,I,w0⟩);rintro n s1 ⟨σ1,H1,I1,w1⟩;refine A3 hp (dA (hc xz s1 σ1 H1 _ I1 (turn n σ1 H1 w1)) λ b s2 ⟨H2,I2,q2⟩=>?_);cases b with
 |true=>
  obtain⟨N,hN,q2⟩:=q2;rw[J3 rfl];refine A3 hp (dA (hb xz s2 σ1 H2 _ I2 q2) λ f s3 q3=>?_);cases f with
  |next=>obtain⟨σ3,H3,I3,n3⟩:=q3;obtain⟨m',hm,w3⟩:=hN σ3 H3 n3;exact⟨m',hm,σ3,H3,I3,w3⟩
  |cont=>obtain⟨σ3,H3,I3,n3⟩:=q3;obtain⟨m',hm,w3⟩:=hN σ3 H3 n3;exact⟨m',hm,σ3,H3,I3,w3⟩
  |brk=>exact q3
  |ret v=>exact q3
 |false=>rw[J4 o6];exact wpAny_execs_nil ⟨σ1,H2,I2,q2⟩
end
structure It where
 go:Nat->Hp->Prop
 HM:Nat->Hp->V->Hp->Prop
 stop:Nat->Hp->Prop
def jg(X:Cx)(xz:List (ww×Obj))(H:Hp)(b:ww):Prop:=
 H b=none/\b≠X.env.locals/\b∉X.fs/\(b∈X.ex\/X.s₀.heap.objs.size<=b)/\(∀x c,X.env.cells.lookup x=some c->c≠b)/\∀p∈X.pn++xz,p.1≠b
theorem bd.lB{X:Cx}{σ:St}{H H':Hp}(I:bd X xz σ H s)(hb:s.heap.objs.size<=b)(hn:H' b=none):jg X xz H' b:=by
 refine⟨hn,D7 (p7 I.lt hb),I.V7 hb,.inr (D1 I.sz hb),λ x c e z=>?_,λ p hp z=>?_⟩
 ·obtain⟨v,q⟩:=I.cell x c e;exact absurd (p7 q.lt (by rw[z];exact hb)) (C0 _)
 ·exact absurd (p7 (C7 (I.pin p hp).1) (by rw[z];exact hb)) (C0 _)
structure Turn(P:Program)(w:World)(K:J5)(tg:Expr)(J:It)(fp:List ww)(it:ww)(tn:Nat->Heap->Prop):Prop where
 mem:it∈fp
 obj:∀i h,tn i h->∀b∈fp,∃o,h.get? b=some o/\∀v,o.data≠.cell v
 keep:∀i h h',tn i h->(∀b∈fp,∀o,h.get? b=some o->h'.get? b=some o)->tn i h'
 item:∀(X:Cx),X.prog=P->X.w=w->X.K=K->X.calm=true->∀(i:Nat) (xz:List (ww×Obj)) (s:kt) (σ:St) (H:Hp) (E:jp->kt->Prop),bd X xz σ H s->(∀b∈fp,jg X xz H b)->tn i s.heap->J.go i H->
  wpAny (model P w) X.A (pyNext (.ref it)) (λ r s1=>∃u,r=some u/\
   wpAny (model P w) X.A (letOwnedTupleGo tg (.ref it) u) (λ _ s2=>∃x H',bd X xz σ H' s2/\bn x u/\J.HM i H x H'/\tn (i+1) s2.heap/\∀b∈fp,H' b=none) E s1) E s
 done:∀(X:Cx),X.prog=P->X.w=w->X.K=K->X.calm=true->∀(i:Nat) (xz:List (ww×Obj)) (s:kt) (σ:St) (H:Hp) (E:jp->kt->Prop),bd X xz σ H s->(∀b∈fp,jg X xz H b)->tn i s.heap->J.stop i H->
  wpAny (model P w) X.A (pyNext (.ref it)) (λ r s1=>r=none/\bd X xz σ H s1) E s
 self:∀(A:Around) (i:Nat) (s:kt) (Q:jp->kt->Prop) (E:jp->kt->Prop),tn i s.heap->Q (.ref it) s->wpAny (model P w) A (pyIter (.ref it)) Q E s
abbrev TI:=St->Hp->(It->Hp->Prop)->Prop
def YY(X:Cx)(xz:List (ww×Obj))(σ:St)(tg:Expr)(R:It->Hp->Prop)(UX:jp)(s2:kt):Prop:=
 ∃(it:ww) (fp:List ww) (tn:Nat->Heap->Prop) (J:It) (H':Hp),UX=.ref it/\bd X xz σ H' s2/\Turn X.prog X.w X.K tg J fp it tn/\tn 0 s2.heap/\(∀b∈fp,jg X xz H' b)/\R J H'
def PI(X:Cx)(tg iter:Expr)(wi:TI):Prop:=
 ∀(xz:List (ww×Obj)) (s:kt) (σ:St) (H:Hp) (R:It->Hp->Prop),bd X xz σ H s->wi σ H R->
  wpAny (model X.prog X.w) X.A (eval iter X.env) (λ v s1=>wpAny (model X.prog X.w) X.A (pyIter v) (YY X xz σ tg R) X.xe s1) X.xe s
theorem AB{M:Model}{it:ww}{n:String}{Q:Unit->kt->Prop}(ho:s.heap.get? it=some o)(hc:o.cls=.type n)(hd:o.data=.fields vs) (hn:["enumerate","zip","dict_itemiterator","dict_reverseitemiterator","odict_iterator","itertools.zip_longest","itertools.pairwise"].contains n=false) (hQ:Q () s):wpAny M A (letOwnedTupleGo tg (.ref it) u) Q E s:=by
 unfold letOwnedTupleGo;cases tg <;> first
  |exact G5 hQ
  |(cases u <;> first
    |exact G5 hQ
    |(refine G4 (wpAny_load ho ?_)
      rw[hc,hd];show wpAny M A (if(["enumerate","zip","dict_itemiterator","dict_reverseitemiterator","odict_iterator","itertools.zip_longest","itertools.pairwise"].contains n&&vs[0]?==some (rawInt _))=true then _ else _) Q E s;rw[J4 (by intro h;rw[hn,Bool.false_and]at h;cases h)];exact G5 hQ))
def Vn(K:J5)(a:ww):It:=
 ⟨λ i H=>∃xs x,gB K H a xs/\xs[i]?=some x,λ i H x H'=>H'=H/\∀xs,gB K H a xs->xs[i]?=some x,λ i H=>∃xs,gB K H a xs/\xs.length<=i⟩
def XA(K:J5)(a:ww):It:=
 ⟨λ i H=>∃xs x,iD K H a xs/\xs[i]?=some x,λ i H x H'=>H'=H/\∀xs,iD K H a xs->xs[i]?=some x,λ i H=>∃xs,iD K H a xs/\xs.length<=i⟩
def Vm(lo:Int)(n:Nat):It:=⟨λ i _=>i < n,λ i H x H'=>H'=H/\x=.int (lo+i),λ i _=>n<=i⟩
theorem BC(a it:ww):Turn P w K tg (Vn K a) [it] it (λ i h=>h.IsListIter it a i) where
 mem:=by simp
 obj:=λ i h st b hb=>by
  have e:b=it:=by simpa using hb
  subst e;obtain⟨o,e,c,d⟩:=st;exact⟨o,e,λ v z=>by rw[d]at z;cases z⟩
 keep:=λ i h h' st k=>st.at λ o e=>k it (by simp) o e
 item:=by intro X hP hw hK hc i xz s σ H E I hf st hg;subst hP hw hK;obtain⟨xs,x,hq,hx⟩:=hg;obtain⟨aB,rv,p,hz⟩:=I.list hq;obtain⟨u,hu,ru⟩:=rv.get hx;obtain⟨f0,f1,f2,f3,f4,f5⟩:=hf it (by simp);refine wpAny_pyNext_list_item st p.isList (x:=u) (by simpa using hu) λ h' xr sb=>?_;have I1:bd X xz σ H {s with heap:=h'}:=I.turned (t':=s.toks) (λ b o hb e=>(sb.2 b hb).trans e) f0 f1 f3 f4 f5;obtain⟨o,e,c,d⟩:=id xr;exact⟨u,rfl,AB (s:={s with heap:=h'}) e c d (by decide) ⟨x,H,I1,ru,⟨rfl,λ ys hy=>by rw[I.vN hy hq];exact hx⟩,xr,λ b hb=>(hf b hb).1⟩⟩
 done:=by intro X hP hw hK hc i xz s σ H E I hf st hg;subst hP hw hK;obtain⟨xs,hq,hx⟩:=hg;obtain⟨aB,rv,p,hz⟩:=I.list hq;obtain⟨f0,f1,f2,f3,f4,f5⟩:=hf it (by simp);have hl:=rv.length;exact wpAny_pyNext_list_end (I.ok.hd hc) st p.isList (by simp;lia) λ h' eb=>⟨rfl,I.turned (t':=s.toks) (λ b o hb e=>eb b o hb e) f0 f1 f3 f4 f5⟩
 self:=λ _ _ _ _ _ st h=>wpAny_pyIter_listiter st h
theorem xo(a it:ww):Turn P w K tg (XA K a) [it] it (λ i h=>h.IsTupleIter it a i) where
 mem:=by simp
 obj:=λ i h st b hb=>by
  have e:b=it:=by simpa using hb
  subst e;obtain⟨o,e,c,d⟩:=st;exact⟨o,e,λ v z=>by rw[d]at z;cases z⟩
 keep:=λ i h h' st k=>st.at λ o e=>k it (by simp) o e
 item:=by intro X hP hw hK hc i xz s σ H E I hf st hg;subst hP hw hK;obtain⟨xs,x,hq,hx⟩:=hg;obtain⟨aB,rv,p,hz⟩:=I.tuple hq;obtain⟨u,hu,ru⟩:=rv.get hx;obtain⟨f0,f1,f2,f3,f4,f5⟩:=hf it (by simp);refine wpAny_pyNext_tuple_item st (show s.heap.IsTuple a aB.toArray from p) (x:=u) (by simpa using hu) λ h' xr sb=>?_;have I1:bd X xz σ H {s with heap:=h'}:=I.turned (t':=s.toks) (λ b o hb e=>(sb.2 b hb).trans e) f0 f1 f3 f4 f5;obtain⟨o,e,c,d⟩:=id xr;exact⟨u,rfl,AB (s:={s with heap:=h'}) e c d (by decide) ⟨x,H,I1,ru,⟨rfl,λ ys hy=>by rw[I.qY hy hq];exact hx⟩,xr,λ b hb=>(hf b hb).1⟩⟩
 done:=by intro X hP hw hK hc i xz s σ H E I hf st hg;subst hP hw hK;obtain⟨xs,hq,hx⟩:=hg;obtain⟨aB,rv,p,hz⟩:=I.tuple hq;obtain⟨f0,f1,f2,f3,f4,f5⟩:=hf it (by simp);have hl:=rv.length;exact wpAny_pyNext_tuple_end (I.ok.hd hc) st (show s.heap.IsTuple a aB.toArray from p) (by simp;lia) λ h' eb=>⟨rfl,I.turned (t':=s.toks) (λ b o hb e=>eb b o hb e) f0 f1 f3 f4 f5⟩
 self:=λ _ _ _ _ _ st h=>wpAny_pyIter_tupleiter st h
theorem xp(it:ww)(lo:Int)(n:Nat):Turn P w K tg (Vm lo n) [it] it (λ i h=>IsRangeIter h it (lo+(i:Nat)*1) ((n:Int) - (i:Nat)) 1) where
 mem:=by simp
 obj:=λ i h st b hb=>by
  have e:b=it:=by simpa using hb
  subst e;exact⟨_,st,λ v z=>by
   have z':Data.fields _=Data.cell v:=z;cases z'⟩
 keep:=λ i h h' st k=>k it (by simp) _ st
 item:=by intro X hP hw hK hc i xz s σ H E I hf st hg;subst hP hw hK;obtain⟨f0,f1,f2,f3,f4,f5⟩:=hf it (by simp);have W:=Walks.range (prog:=X.prog) (w:=X.w) (I.ok.hd hc) it lo 1 n;refine W.item i s _ _ hg st λ v h' tk hv xr kk=>?_;obtain⟨t,rfl⟩:=hv;have I1:bd X xz σ H {s with heap:=h',toks:=tk}:=I.turned (λ b o hb e=>kk b o (by simpa using hb) e) f0 f1 f3 f4 f5;refine⟨_,rfl,AB (s:={s with heap:=h',toks:=tk}) (n:="range_iterator") xr rfl rfl (by decide) ⟨.int (lo+i),H,I1,⟨t,?_⟩,⟨rfl,rfl⟩,xr,λ b hb=>(hf b hb).1⟩⟩;rw[Int.mul_one]
 done:=by intro X hP hw hK hc i xz s σ H E I hf st hg;subst hP hw hK;obtain⟨f0,f1,f2,f3,f4,f5⟩:=hf it (by simp);exact wpAny_pyNext_range_end (I.ok.hd hc) st (by have:n<=i:=hg;lia) λ h' eb=>⟨rfl,I.turned (t':=s.toks) (λ b o hb e=>eb b o hb e) f0 f1 f3 f4 f5⟩
 self:=λ _ _ _ _ _ st h=>wpAny_pyIter_rangeiter st h
section
variable {X:Cx}
theorem EN{σ:St}{H:Hp}{R:It->Hp->Prop}{hi:Int}{t u v:Tok}{tk:Nat}(I:bd X xz σ H s)(h1: -(2^62)<=lo)(h2:lo < 2^62)(h3: -(2^62)<=hi)(h4:hi < 2^62) (q:R (Vm lo (hi - lo).toNat) H):wpAny (model X.prog X.w) X.A (pyIter (.ref s.heap.objs.size)) (YY X xz σ tg R) E {s with heap:=s.heap.push {cls:=.type "range",data:=.fields #[.int lo t,.int hi u,.int 1 v]},toks:=tk}:=by
 refine wpAny_pyIter_range (IsRange.new ..) (small_one h1 h2 h3 h4) ?_;have I1:bd X xz σ H {s with heap:=s.heap.push {cls:=.type "range",data:=.fields #[.int lo t,.int hi u,.int 1 v]},toks:=tk}:=I.kept λ b o e=>j0 _ e;refine⟨(s.heap.push {cls:=.type "range",data:=.fields #[.int lo t,.int hi u,.int 1 v]}).objs.size,[(s.heap.push {cls:=.type "range",data:=.fields #[.int lo t,.int hi u,.int 1 v]}).objs.size],_,_,H,rfl,
  I1.kept (t':=tk) λ b o e=>j0 _ e,xp _ lo (hi - lo).toNat,?_,λ b hb=>?_,q⟩
 ·have e1:lo+((0:Nat):Int)*1=lo:=by simp
  have e2:(((hi - lo).toNat:Nat):Int) - ((0:Nat):Int)=Builtin.Range.rangeSize lo hi 1:=by rw[rangeSize_one];split <;> lia
  show IsRangeIter _ _ (lo+((0:Nat):Int)*1) ((((hi - lo).toNat:Nat):Int) - ((0:Nat):Int)) 1;rw[e1,e2];exact m8 _ rfl
 ·have e:b=(s.heap.push {cls:=.type "range",data:=.fields #[.int lo t,.int hi u,.int 1 v]}).objs.size:=by simpa using hb
  subst e;exact I1.lB (D9 _) (I1.bt.fresh (D9 _))
def SK(ta:TA):TI:=λ σ H R=>ta σ H λ vs H1=>∃j:Int,vs=[.int j]/\-(2^62)<=j/\j < 2^62/\R (Vm 0 j.toNat) H1
theorem Ca{a:Expr}{ta:TA}{p pos:Pos}(hg:Gl X "range")(hm:X.mg "range"=none)(ha:PA X [a] ta)(hs:starEach [a] X.env=[(false,eval a X.env)]:=by rfl):PI X tg (.Call (.Name "range" p) [a] [] pos) (SK ta):=by
 intro xz s σ H R I h;refine Call_ (gQ I hg hm boot_range (c3 (dA (ha pos xz s σ H _ I h) λ us s1 ⟨vs,H1,I1,r1,q1⟩=>?_) hs rfl));obtain⟨j,e,q1,q2,q⟩:=q1;subst e;cases r1 with
 |cons r rr=>cases rr;obtain⟨t,rfl⟩:=r;exact call_range_1 (EN I1 (by lia) (by lia) q1 q2 (by simpa using q))
def VC(wi:TI)(g:TG)(tb:TS):TS:=λ D σ H=>wi σ H λ J H1=>∃W:Nat->Nat->St->Hp->Prop,(∃m,W 0 m σ H1)/\∀i m σ H,W i m σ H->
 (J.stop i H/\D.nx σ H)\/(J.go i H/\∃N:St->Hp->Prop,(∀σ' H',N σ' H'->∃m',m' < m/\W (i+1) m' σ' H')/\∀x H',J.HM i H x H'->g x σ H' λ σ2 H2=>tb {D with nx:=N,ct:=N,bk:=D.nx} σ2 H2)
def tj(fp:List ww)(h:Heap):List (ww×Obj):=fp.filterMap λ b=>(h.get? b).map λ o=>(b,o)
theorem eC{h:Heap}(hb:b∈fp)(e:h.get? b=some o):(b,o)∈tj fp h:=mem_filterMap.mpr ⟨b,hb,by rw[e];rfl⟩
theorem Ci{h:Heap}{p:ww×Obj}(hp:p∈tj fp h):p.1∈fp/\h.get? p.1=some p.2:=by
 obtain⟨b,hb,e⟩:=mem_filterMap.mp hp;cases q:h.get? b with
 |none=>rw[q]at e;cases e
 |some o=>rw[q]at e;have e':(b,o)=p:=A1 e;subst e';exact⟨hb,q⟩
theorem bd.pinned{σ:St}{H:Hp}(I:bd X xz σ H s)(hf:∀b∈fp,jg X xz H b)(ho:∀b∈fp,∃o,s.heap.get? b=some o/\∀v,o.data≠.cell v):bd X (xz++tj fp s.heap) σ H s:=
 I.kR λ p hp=>(A6.mp hp).elim (λ z=>I.pin p (j7 _ z)) λ z=>by obtain⟨hb,e⟩:=Ci z;obtain⟨f0,f1,f2,_⟩:=hf p.1 hb;obtain⟨o,e',d⟩:=ho p.1 hb;rw[e]at e';cases e';exact⟨e,f0,f1,f2,d⟩
theorem bd.oC{pl:List (ww×Obj)}{σ:St}{H:Hp}(I:bd X (xz++pl) σ H s):bd X xz σ H s:=I.kR λ p hp=>I.pin p (j7 _ (k8 _ hp))
theorem N'{wi:TI}{g:TG}{tb:TS}{pos:Pos}(hp:PassesOwn (model X.prog X.w) X.A X.env X.xe)(hc:X.calm=true)(hi:PI X tg iter wi)(hg:PG X tg g)(hb:wU X body tb) (hs:∀x,foldedSetIterable iter X.env x=pure x:=by intro _;rfl):PS X (.For tg iter body [] pos) (VC wi g tb):=by
 intro xz s σ H D I h;refine wpAny_For (dA (hi xz s σ H _ I h) λ v s1 h1=>dA h1 λ UX s2 h2=>?_) hs;obtain⟨it,fp,tn,J,H2,e,I2,T,Dl,f2,W,⟨m0,w0⟩,turn⟩:=h2;subst e;have ML:∀{H':Hp},(∀b∈fp,H' b=none)->∀b∈fp,jg X xz H' b:=λ hn b hb=>⟨hn b hb,(f2 b hb).2⟩;refine codeAny_forLoop_any (λ n s'=>∃i σ' H',bd X xz σ' H' s'/\tn i s'.heap/\(∀b∈fp,H' b=none)/\W i n σ' H') ?_ m0 ⟨0,σ,H2,I2,Dl,λ b hb=>(f2 b hb).1,w0⟩;rintro n s3 ⟨i,σ3,H3,I3,RB,Tn,w3⟩;rcases turn i n σ3 H3 w3 with⟨stop,qn⟩|⟨go,N,hN,step⟩
 ·refine A3 hp (dA (T.done X rfl rfl rfl hc i xz s3 σ3 H3 X.xe I3 (ML Tn) RB stop) λ r s4 ⟨hr,I4⟩=>?_);subst hr;exact wpAny_execs_nil ⟨σ3,H3,I4,qn⟩
 ·refine A3 hp (dA (T.item X rfl rfl rfl hc i xz s3 σ3 H3 X.xe I3 (ML Tn) RB go) λ r s4 ⟨u,hr,h4⟩=>?_);subst hr;refine A3 hp (dA h4 λ _ s5 ⟨x,H5,I5,r5,y5,Ik,Xl⟩=>?_);have XD:=I5.pinned (ML Xl) (T.obj _ _ Ik);refine A3 hp (dA (hg _ s5 σ3 H5 x u _ XD r5 (step x H5 y5)) λ _ s6 ⟨σ6,H6,I6,q6⟩=>?_);refine A3 hp (dA (hb _ s6 σ6 H6 _ I6 q6) λ f s7 q7=>?_);have again:∀{σ7:St} {H7:Hp},bd X (xz++tj fp s5.heap) σ7 H7 s7->N σ7 H7->∃m,m < n/\∃i σ' H',bd X xz σ' H' s7/\tn i s7.heap/\(∀b∈fp,H' b=none)/\W i m σ' H':=λ{σ7 H7} I7 n7=>by obtain⟨m',hm,w7⟩:=hN σ7 H7 n7;refine⟨m',hm,i+1,σ7,H7,I7.oC,T.keep _ _ _ Ik λ b hb o e=>(I7.pin (b,o) (j7 _ (j7 _ (eC hb e)))).1,λ b hb=>?_,w7⟩;obtain⟨o,e,d⟩:=T.obj _ _ Ik b hb;exact(I7.pin (b,o) (j7 _ (j7 _ (eC hb e)))).2.1
  cases f with
  |next=>obtain⟨σ7,H7,I7,n7⟩:=q7;exact again I7 n7
  |cont=>obtain⟨σ7,H7,I7,n7⟩:=q7;exact again I7 n7
  |brk=>obtain⟨σ7,H7,I7,q7⟩:=q7;exact⟨σ7,H7,I7.oC,q7⟩
  |ret v=>obtain⟨x7,σ7,H7,I7,r7,q7⟩:=q7;exact⟨x7,σ7,H7,I7.oC,r7,q7⟩
end
abbrev R2:=V->V->Hp->VK->Prop
def gh(X:Cx)(f:jp->jp->Sem jp)(r:R2):Prop:=
 ∀(xz:List (ww×Obj)) (s:kt) (σ:St) (H:Hp) (x y:V) (v u:jp) (Q:VK),bd X xz σ H s->bn x v->bn y u->r x y H Q->
  wpAny (model X.prog X.w) X.A (f v u) (EP X xz σ Q) X.xe s
def dw(X:Cx)(f:jp)(r:List V->Hp->VK->Prop):Prop:=
 ∀(xz:List (ww×Obj)) (s:kt) (σ:St) (H:Hp) (xs:List V) (us:List jp) (Q:VK),bd X xz σ H s->ce xs us->r xs H Q->
  wpAny (model X.prog X.w) X.A (call f us) (EP X xz σ Q) X.xe s
def Rw(r:R2)(ta tb:TE):TE:=λ σ H Q=>ta σ H λ x H1=>tb σ H1 λ y H2=>r x y H2 Q
def rI(C:Int->Int->Prop)(g:Int->Int->V):R2:=λ x y H Q=>∃i j,x=.int i/\y=.int j/\C i j/\Q (g i j) H
def Hy(g:Int->Int->V):R2:=λ x y H Q=>∃i j,x=.int i/\y=.int j/\Q (g i j) H
section
variable {X:Cx}{a b:Expr}{ta tb tc:TE}{pos:Pos}
theorem Qs(ha:PE X a ta)(hb:PE X b tb){σ:St}{H:Hp}{R:V->V->Hp->Prop}(I:bd X xz σ H s) (h:ta σ H λ x H1=>tb σ H1 λ y H2=>R x y H2)  {f:jp->jp->Sem jp} (hf:∀v u s2 x y H2,bd X xz σ H2 s2->bn x v->bn y u->R x y H2->wpAny (model X.prog X.w) X.A (f v u) Q X.xe s2):wpAny (model X.prog X.w) X.A (eval a X.env) (λ v s₁=>wpAny (model X.prog X.w) X.A (eval b X.env) (λ u s₂=>wpAny (model X.prog X.w) X.A (f v u) Q X.xe s₂) X.xe s₁) X.xe s:=by refine dA (ha xz s σ H _ I h) λ v s1 ⟨x,H1,I1,r1,q1⟩=>?_;refine dA (hb xz s1 σ H1 _ I1 q1) λ u s2 ⟨y,H2,I2,r2,q2⟩=>?_;exact hf v u s2 x y H2 I2 r1 r2 q2
theorem Sa{op:Operator}{r:R2}(ho:gh X (binaryOp op) r)(ha:PE X a ta)(hb:PE X b tb):PE X (.BinOp a op b pos) (Rw r ta tb):=by intro xz s σ H Q I h;exact wpAny_BinOp (Qs ha hb I h λ v u s2 x y H2 I2 rx ry q=>ho xz s2 σ H2 x y v u Q I2 rx ry q)
theorem UU{f:jp->jp->Sem jp}{g:Int->Int->Int} (rule:∀(i j:Int) (t u:Tok) (s:kt) (Q:jp->kt->Prop) (E:jp->kt->Prop),C i j->Q (.int (g i j) s.toks) {s with toks:=s.toks+1}->wpAny (model X.prog X.w) X.A (f (.int i t) (.int j u)) Q E s):gh X f (rI C λ i j=>.int (g i j)):=by intro xz s σ H x y v u Q I rx ry h;obtain⟨i,j,rfl,rfl,hc,q⟩:=h;obtain⟨t,rfl⟩:=rx;obtain⟨t',rfl⟩:=ry;exact rule i j t t' s _ _ hc ⟨.int (g i j),H,I.tok _,⟨_,rfl⟩,q⟩
theorem OL{f:jp->jp->Sem jp}{g:Int->Int->Int} (rule:∀(i j:Int) (t u:Tok) (s:kt) (Q:jp->kt->Prop) (E:jp->kt->Prop),Q (.int (g i j) s.toks) {s with toks:=s.toks+1}->wpAny (model X.prog X.w) X.A (f (.int i t) (.int j u)) Q E s):gh X f (Hy λ i j=>.int (g i j)):=by intro xz s σ H x y v u Q I rx ry h;obtain⟨i,j,rfl,rfl,q⟩:=h;obtain⟨t,rfl⟩:=rx;obtain⟨t',rfl⟩:=ry;exact rule i j t t' s _ _ ⟨.int (g i j),H,I.tok _,⟨_,rfl⟩,q⟩
theorem OM{f:jp->jp->Sem jp}{g:Int->Int->Bool} (rule:∀(i j:Int) (t u:Tok) (s:kt) (Q:jp->kt->Prop) (E:jp->kt->Prop),Q (.bool (g i j)) s->wpAny (model X.prog X.w) X.A (f (.int i t) (.int j u)) Q E s):gh X f (Hy λ i j=>.bl (g i j)):=by intro xz s σ H x y v u Q I rx ry h;obtain⟨i,j,rfl,rfl,q⟩:=h;obtain⟨t,rfl⟩:=rx;obtain⟨t',rfl⟩:=ry;exact rule i j t t' s _ _ ⟨.bl (g i j),H,I,rfl,q⟩
def QJ(i j:Int):Prop:=0 < j/\j < 1073741824
def Ue(i j:Int):Prop:=0<=j/\j<=1000000/\i.natAbs < 2^64
def uo(i j:Int):Prop:=(-(2^64) < i/\i < 2^64)\/(-(2^64) < j/\j < 2^64)
theorem uo.ok{i j:Int}(h:uo i j):IntMulOk i j:=by
 rcases h with⟨h1,h2⟩|⟨h1,h2⟩
 ·exact .of_left (intBits_le_64 h1 h2)
 ·exact .of_right (intBits_le_64 h1 h2)
theorem OK:gh X (binaryOp .Add) (Hy λ i j=>.int (i+j)):=OL λ _ _ _ _ _ _ _ q=>add_int q
theorem OA:gh X (binaryOp .Sub) (Hy λ i j=>.int (i - j)):=OL λ _ _ _ _ _ _ _ q=>sub_int q
theorem OE:gh X (binaryOp .Mult) (rI uo λ i j=>.int (i*j)):=UU λ _ _ _ _ _ _ _ hc q=>mul_int q hc.ok
theorem JW:gh X (binaryOp .FloorDiv) (rI QJ λ i j=>.int (i / j)):=UU λ i j _ _ _ _ _ hc q=>by have h1:(0:Int) < j:=hc.1;have h2:j < 1073741824:=hc.2;exact floordiv_int (by lia) (by rw[Int.fdiv_eq_ediv_of_nonneg i (by lia)];exact q) (.inl (PyProof.noPylong_small (by lia)))
theorem OF:gh X (binaryOp .Mod) (rI (λ _ j=>0 < j) λ i j=>.int (i % j)):=UU λ i j _ _ _ _ _ hc q=>by have h1:(0:Int) < j:=hc;exact mod_int' (by lia) (by rw[Int.fmod_eq_emod_of_nonneg i (by lia)];exact q)
theorem OC:gh X (binaryOp .Pow) (rI Ue λ i j=>.int (i^j.toNat)):=UU λ _ _ _ _ _ _ _ hc q=>pow_int_small hc.1 hc.2.1 hc.2.2 q
theorem Oz:gh X (binaryOp .BitXor) (Hy λ i j=>.int (Builtin.bitXor i j)):=OL λ _ _ _ _ _ _ _ q=>xor_int q
end
def RF:V->V->Bool
 | .bK,.bK=>true| .bK,.int _=>true| .int _,.bK=>true| .bK,.bl _=>true| .bl _,.bK=>true| .bK,.str _=>true| .str _,.bK=>true
 | .int _,.int _=>true| .bl _,.bl _=>true| .str _,.str _=>true| .He _,.He _=>true
 | .int _,.str _=>true| .str _,.int _=>true| .bl _,.str _=>true| .str _,.bl _=>true
 |_,_=>false
def Zo:R2:=λ x y H Q=>RF x y=true/\Q (.bl (decide (x=y))) H
def Zk:R2:=λ x y H Q=>RF x y=true/\Q (.bl (!decide (x=y))) H
theorem AJ{i j:Int}:decide (V.int i=V.int j)=(i==j):=by rw[y6];simp
theorem GW{i j:Bool}:decide (V.bl i=V.bl j)=(i==j):=by rw[y6];simp
theorem AI{i j:Str}:decide (V.str i=V.str j)=(i==j):=by rw[y6];simp
theorem AK{i j:Array UInt8}:decide (V.He i=V.He j)=(i.toList==j.toList):=by rw[y6];cases i;cases j;simp
section
variable {X:Cx}{a b:Expr}{ta tb tc:TE}{pos:Pos}
theorem bc{σ:St}{H:Hp}{Q:VK}{k k':Bool}(I:bd X xz σ H s)(q:Q (.bl k) H)(e:k=k'):EP X xz σ Q (.bool k') s:=by subst e;exact⟨.bl k,H,I,rfl,q⟩
theorem Sk:gh X (compareOp .Eq) Zo:=by
 intro xz s σ H x y v u Q I rx ry h;obtain⟨hs,q⟩:=h;cases x with
 |bK=>
  cases rx;cases y with
  |bK=>cases ry;exact PySem.EqNone.eq_none_none (bc I q (by simp))
  |bl j=>cases ry;exact PySem.EqNone.eq_none_bool (bc I q (by simp))
  |int j=>obtain⟨t',rfl⟩:=ry;exact PySem.EqNone.eq_none_int (bc I q (by simp))
  |str j=>obtain⟨t',rfl⟩:=ry;exact PySem.EqNone.eq_none_str (bc I q (by simp))
  |_=>exact absurd (show false=true from hs) o6
 |bl i=>
  cases rx;cases y with
  |bK=>cases ry;exact PySem.EqNone.eq_bool_none (bc I q (by simp))
  |bl j=>cases ry;exact eq_bool (bc I q GW)
  |str j=>obtain⟨t',rfl⟩:=ry;exact PySem.EqMixed.eq_bool_str (bc I q (by simp))
  |_=>exact absurd (show false=true from hs) o6
 |int i=>
  obtain⟨t,rfl⟩:=rx;cases y with
  |bK=>cases ry;exact PySem.EqNone.eq_int_none (bc I q (by simp))
  |int j=>obtain⟨t',rfl⟩:=ry;exact eq_int (bc I q AJ)
  |str j=>obtain⟨t',rfl⟩:=ry;exact PySem.EqMixed.eq_int_str (bc I q (by simp))
  |_=>exact absurd (show false=true from hs) o6
 |str i=>
  obtain⟨t,rfl⟩:=rx;cases y with
  |bK=>cases ry;exact PySem.EqNone.eq_str_none (bc I q (by simp))
  |bl j=>cases ry;exact PySem.EqMixed.eq_str_bool (bc I q (by simp))
  |int j=>obtain⟨t',rfl⟩:=ry;exact PySem.EqMixed.eq_str_int (bc I q (by simp))
  |str j=>obtain⟨t',rfl⟩:=ry;exact eq_str (bc I q AI)
  |_=>exact absurd (show false=true from hs) o6
 |He i=>
  obtain⟨t,rfl⟩:=rx;cases y with
  |He j=>obtain⟨t',rfl⟩:=ry;exact PySem.W.eq_bytes (bc I q AK)
  |_=>exact absurd (show false=true from hs) o6
 |_=>cases y <;> exact absurd (show false=true from hs) o6
theorem Sg:gh X (compareOp .NotEq) Zk:=by
 intro xz s σ H x y v u Q I rx ry h;obtain⟨hs,q⟩:=h;cases x with
 |bK=>
  cases rx;cases y with
  |bK=>cases ry;exact PySem.EqNone.ne_none_none (bc I q (by simp))
  |bl j=>cases ry;exact PySem.EqNone.ne_none_bool (bc I q (by simp))
  |int j=>obtain⟨t',rfl⟩:=ry;exact PySem.EqNone.ne_none_int (bc I q (by simp))
  |str j=>obtain⟨t',rfl⟩:=ry;exact PySem.EqNone.ne_none_str (bc I q (by simp))
  |_=>exact absurd (show false=true from hs) o6
 |bl i=>
  cases rx;cases y with
  |bK=>cases ry;exact PySem.EqNone.ne_bool_none (bc I q (by simp))
  |bl j=>cases ry;exact ne_bool (bc I q (H9 not GW))
  |str j=>obtain⟨t',rfl⟩:=ry;exact PySem.EqMixed.ne_bool_str (bc I q (by simp))
  |_=>exact absurd (show false=true from hs) o6
 |int i=>
  obtain⟨t,rfl⟩:=rx;cases y with
  |bK=>cases ry;exact PySem.EqNone.ne_int_none (bc I q (by simp))
  |int j=>obtain⟨t',rfl⟩:=ry;exact ne_int (bc I q (H9 not AJ))
  |str j=>obtain⟨t',rfl⟩:=ry;exact PySem.EqMixed.ne_int_str (bc I q (by simp))
  |_=>exact absurd (show false=true from hs) o6
 |str i=>
  obtain⟨t,rfl⟩:=rx;cases y with
  |bK=>cases ry;exact PySem.EqNone.ne_str_none (bc I q (by simp))
  |bl j=>cases ry;exact PySem.EqMixed.ne_str_bool (bc I q (by simp))
  |int j=>obtain⟨t',rfl⟩:=ry;exact PySem.EqMixed.ne_str_int (bc I q (by simp))
  |str j=>obtain⟨t',rfl⟩:=ry;exact ne_str (bc I q (H9 not AI))
  |_=>exact absurd (show false=true from hs) o6
 |He i=>
  obtain⟨t,rfl⟩:=rx;cases y with
  |He j=>obtain⟨t',rfl⟩:=ry;exact PySem.W.ne_bytes (bc I q (H9 not AK))
  |_=>exact absurd (show false=true from hs) o6
 |_=>cases y <;> exact absurd (show false=true from hs) o6
theorem Sh:gh X (compareOp .Lt) (Hy λ i j=>.bl (decide (i < j))):=OM λ _ _ _ _ _ _ _ q=>lt_int q
theorem Si:gh X (compareOp .Gt) (Hy λ i j=>.bl (decide (j < i))):=OM λ _ _ _ _ _ _ _ q=>gt_int q
theorem Sj:gh X (compareOp .GtE) (Hy λ i j=>.bl (decide (j<=i))):=OM λ _ _ _ _ _ _ _ q=>ge_int q
theorem Cd:gh X (compareOp .In) (λ x y H Q=>∃i j,x=.str i/\y=.str j/\Q (.bl (!(Builtin.Str.occurrences j i 0 j.length 1).isEmpty)) H):=by intro xz s σ H x y v u Q I rx ry h;obtain⟨i,j,rfl,rfl,q⟩:=h;obtain⟨t,rfl⟩:=rx;obtain⟨t',rfl⟩:=ry;exact in_str (bc I q rfl)
theorem OG:gh X (compareOp .Is) (λ x y H Q=>y=.bK/\Q (.bl (decide (x=.bK))) H):=by
 intro xz s σ H x y v u Q I rx ry h;obtain⟨rfl,q⟩:=h;cases ry;refine is_none_gen (bc I q ?_);cases x <;> first
  |(cases rx;rfl)
  |(obtain⟨t,rfl⟩:=rx;rfl)
theorem JU:gh X (compareOp .IsNot) (λ x y H Q=>y=.bK/\Q (.bl (!decide (x=.bK))) H):=by
 intro xz s σ H x y v u Q I rx ry h;obtain⟨rfl,q⟩:=h;cases ry;refine isnot_none_gen (bc I q ?_);cases x <;> first
  |(cases rx;rfl)
  |(obtain⟨t,rfl⟩:=rx;rfl)
theorem gh.or{f:jp->jp->Sem jp}{r r':R2}(h:gh X f r)(h':gh X f r'):gh X f (λ x y H Q=>r x y H Q\/r' x y H Q):=by
 intro xz s σ H x y v u Q I rx ry q;rcases q with q|q
 ·exact h xz s σ H x y v u Q I rx ry q
 ·exact h' xz s σ H x y v u Q I rx ry q
theorem aN(b:Expr){op:CmpOp}(h:op≠.In:=by decide)(h2:op≠.NotIn:=by decide):behindInMarks op b=false:=by
 have e1:(op==CmpOp.In)=false:=by cases op <;> first|rfl|exact absurd rfl h
 have e2:(op==CmpOp.NotIn)=false:=by cases op <;> first|rfl|exact absurd rfl h2
 cases b <;> simp[behindInMarks,e1,e2]
theorem JR{op:CmpOp}{r:R2}(ho:gh X (compareOp op) r)(ha:PE X a ta)(hb:PE X b tb)(hm:behindInMarks op b=false):PE X (.Compare a [op] [b] pos) (Rw r ta tb):=by intro xz s σ H Q I h;exact wpAny_Compare1 (Qs ha hb I h λ v u s2 x y H2 I2 rx ry q=>ho xz s2 σ H2 x y v u Q I2 rx ry q) hm
def Ru(t:TE):TT:=λ σ H Q=>t σ H λ x H'=>∃k,x=.bl k/\Q k H'
theorem JE{op:CmpOp}{r:R2}(ho:gh X (compareOp op) r)(ha:PE X a ta)(hb:PE X b tb)(hm:behindInMarks op b=false):PT X (.Compare a [op] [b] pos) (Ru (Rw r ta tb)):=by
 intro xz s σ H Q I h;refine wpAny_isTrue_Compare1 (dA (ha xz s σ H _ I h) λ v s1 ⟨x,H1,I1,r1,q1⟩=>dA (hb xz s1 σ H1 _ I1 q1) λ u s2 ⟨y,H2,I2,r2,q2⟩=>
  dA (ho xz s2 σ H2 x y v u _ I2 r1 r2 q2) λ c s3 ⟨z,H3,I3,r3,k,e,q3⟩=>?_) hm
 subst e;cases r3;exact wpAny_truthy_bool ⟨H3,I3,q3⟩
theorem md:(sizeLine:Nat) < 2^63:=by rw[G0];decide
theorem xY:gh X (binaryOp .Add) (λ x y H Q=>∃i j,x=.str i/\y=.str j/\i.length+j.length<=sizeLine/\Q (.str (i++j)) H):=by intro xz s σ H x y v u Q I rx ry h;obtain⟨i,j,rfl,rfl,hz,q⟩:=h;obtain⟨t,rfl⟩:=rx;obtain⟨t',rfl⟩:=ry;exact add_str (λ t' tk=>⟨.str (i++j),H,I.tok _,⟨_,rfl⟩,q⟩) hz
theorem vals1{x:V}(r:ce [x] us):∃u,us=[u]/\bn x u:=by
 cases r with
 |cons r1 r2=>cases r2;exact⟨_,rfl,r1⟩
theorem vals2{x y:V}(r:ce [x,y] us):∃u w',us=[u,w']/\bn x u/\bn y w':=by
 cases r with
 |cons r1 r2=>
  cases r2 with
  |cons r3 r4=>cases r4;exact⟨_,_,rfl,r1,r3⟩
theorem C'(hc:X.calm=true):dw X (.builtin "max") (λ xs H Q=>∃i j,xs=[.int i,.int j]/\Q (.int (if j > i then j else i)) H):=by
 intro xz s σ H xs us Q I r h;obtain⟨i,j,rfl,q⟩:=h;obtain⟨u,w',rfl,⟨t,rfl⟩,⟨t',rfl⟩⟩:=vals2 r;refine max_two_ints (I.ok.hd hc) λ h' tk k=>⟨_,H,I.kept k,?_,q⟩;by_cases hj:j > i
 ·rw[J3 hj,J3 hj];exact⟨_,rfl⟩
 ·rw[J4 hj,J4 hj];exact⟨_,rfl⟩
theorem C_(hc:X.calm=true):dw X (.builtin "min") (λ xs H Q=>∃i j,xs=[.int i,.int j]/\Q (.int (if j < i then j else i)) H):=by
 intro xz s σ H xs us Q I r h;obtain⟨i,j,rfl,q⟩:=h;obtain⟨u,w',rfl,⟨t,rfl⟩,⟨t',rfl⟩⟩:=vals2 r;refine min_two_ints (I.ok.hd hc) λ h' tk k=>⟨_,H,I.kept k,?_,q⟩;by_cases hj:j < i
 ·rw[J3 hj,J3 hj];exact⟨_,rfl⟩
 ·rw[J4 hj,J4 hj];exact⟨_,rfl⟩
theorem Dc:dw X (.type "int") (λ xs H Q=>(∃i,xs=[.int i]/\Q (.int i) H)\/∃k,xs=[.bl k]/\Q (.int (if k then 1 else 0)) H):=by
 intro xz s σ H xs us Q I r h;rcases h with⟨i,rfl,q⟩|⟨k,rfl,q⟩
 ·obtain⟨u,rfl,t,rfl⟩:=vals1 r;exact call_int_int ⟨.int i,H,I,⟨_,rfl⟩,q⟩
 ·obtain⟨u,rfl,r1⟩:=vals1 r;cases r1;exact call_int_bool ⟨.int (if k then 1 else 0),H,I.tok _,⟨_,rfl⟩,q⟩
end
theorem mG.some_of{v:V}{o:Option jp}(r:mG (some v) o):∃u,o=some u/\bn v u:=by
 cases o with
 |none=>exact(show False from r).elim
 |some u=>exact⟨u,rfl,r⟩
structure cX(k:Nat)(A:Around):Prop where
 hd:A.handled=none
 dp:A.depth+2*k+5 < recursionLimit
 un:A.units+16*k+200 < cLine
theorem cX.mono(r:cX k A)(h:j<=k):cX j A:=⟨r.hd,by have:=r.dp;lia,by have:=r.un;lia⟩
theorem cX.deeper(r:cX (k+1) A)(env:Env):cX k (A.deeper env):=
 ⟨r.hd,by have:=r.dp;show A.depth+1+2*k+5 < _;lia,by have:=r.un;show A.units+3+16*k+200 < _;lia⟩
theorem cX.depth(r:cX k A):A.depth < recursionLimit:=by have:=r.dp;lia
theorem cX.units(r:cX k A):A.units+64 < cLine:=by have:=r.un;lia
def Rx:TA:=λ _ H Q=>Q [] H
def Ls(ta:TE)(tr:TA):TA:=λ σ H Q=>ta σ H λ x H1=>tr σ H1 λ xs H2=>Q (x::xs) H2
section
variable {X:Cx}{te:TE}{t:TA}{pos:Pos}
theorem lT:PA X [] Rx:=λ _ _ _ _ H Q I h=>Calls.spliced_nil ⟨[],H,I,.nil,h⟩
theorem jn(ha:PE X e te)(hr:PA X es t)(hs:starEach (e::es) X.env=(false,eval e X.env)::starEach es X.env:=by rfl):PA X (e::es) (Ls te t):=by intro pos xz s σ H Q I h;rw[hs];show wpAny _ _ (spliced ((false,eval e X.env)::backTo pos (starEach es X.env))) _ _ s;refine Calls.spliced_cons (dA (ha xz s σ H _ I h) λ u s1 ⟨x,H1,I1,r1,q1⟩=>?_);exact dA (hr pos xz s1 σ H1 _ I1 q1) λ us s2 ⟨xs,H2,I2,r2,q2⟩=>⟨x::xs,H2,I2,.cons r1 r2,q2⟩
def Vv(t:TA):TE:=λ σ H Q=>t σ H λ xs H1=>xs.length<=sizeLine/\∀p,H1 p=none->Q (.ref p) (ci H1 p (.tup xs))
def Vz(t:TA):TE:=λ σ H Q=>t σ H λ xs H1=>xs.length<=sizeLine/\∀p,H1 p=none->Q (.ref p) (ci H1 p (.lst xs))
theorem Oh{x1:_}(h:PA X es t):PE X (.Tuple es x1 pos) (Vv t):=by intro xz s σ H Q I hq;refine wpAny_Tuple_spliced (dA (h pos xz s σ H _ I hq) λ us s1 ⟨xs,H1,I1,r,z,q⟩=>⟨by rw[<- r.length];exact z,?_⟩);have hf:H1 s1.heap.objs.size=none:=I1.bt.fresh (D9 _);refine⟨.ref s1.heap.objs.size,ci H1 s1.heap.objs.size (.tup xs),I1.laid (t':=s1.toks) (λ b u e=>j0 _ e) (D9 _) ?_,rfl,q _ hf⟩;exact⟨z,us,r,⟨_,m8 _ rfl,rfl,_,rfl⟩⟩
theorem Om(h:PA X es t):PE X (.List es pos) (Vz t):=by intro xz s σ H Q I hq;refine wpAny_List_spliced (dA (h pos xz s σ H _ I hq) λ us s1 ⟨xs,H1,I1,r,z,q⟩=>⟨by rw[<- r.length];exact z,?_⟩);have hf:H1 s1.heap.objs.size=none:=I1.bt.fresh (D9 _);refine⟨.ref s1.heap.objs.size,ci H1 s1.heap.objs.size (.lst xs),I1.laid (t':=s1.toks) (λ b u e=>j0 _ e) (D9 _) ?_,rfl,q _ hf⟩;exact⟨z,us,0,r,m8 _ rfl⟩
end
abbrev Sp:=List V->Hp->VK->XK->Prop
abbrev HJ:=List Env->Hp->kt->XK->jp->kt->Prop
structure qj(P:Program)(w:World)(K:J5)(mg:Str->Option jp)(base:Heap)(A:Around)(outer:List Env)(s:kt)(H:Hp):Prop where
 frames:A.frames=some outer
 mod:Mod K mg base
 bs:∀b o,base.get? b=some o->s.heap.get? b=some o/\H b=none
 De:base.objs.size<=s.heap.objs.size
 jU:s.heap.FunFrames base outer
 KY:∀b∈uC outer,H b=none
 bt:iz P w H s.heap
 bare:AllBare s.gens
def CE(outer:List Env)(P:Program)(w:World)(H:Hp)(s:kt)(Q:VK)(u:jp)(s':kt):Prop:=
 ∃v H',s'.os=s.os/\AllBare s'.gens/\Un (uC outer) [] H H' s.heap s'.heap/\iz P w H' s'.heap/\bn v u/\Q v H'
def CR(CX:HJ)(outer:List Env)(P:Program)(w:World)(H:Hp)(s:kt)(Q:VK)(E:XK)(r:Result)(s':kt):Prop:=
 match r with
 | .ok (.ret u)=>CE outer P w H s Q u s'
 | .ok _=>False
 | .error e=>CX outer H s E e s'
structure bT(P:Program)(w:World)(K:J5)(mg:Str->Option jp)(base:Heap)(CX:HJ)(k:Nat)(f:ww)(fd:FuncData)(ps:List Str)(sp:Sp):Prop where
 len:∀vs H Q E,sp vs H Q E->vs.length=ps.length
 run:∀(A:Around) (outer:List Env) (s:kt) (H:Hp) (args:Args) (us:List jp) (vs:List V) (Q:VK) (E:XK),cX k A->qj P w K mg base A outer s H->BindsTo s fd args (ps.zip us)->ce vs us->sp vs H Q E->
  codeAny (model P w) A (.call (.ref f) args) (CR CX outer P w H s Q E) s
section
variable {X:Cx}{σ:St}{H:Hp}
theorem bd.Qd(I:bd X xz σ H s):qj X.prog X.w X.K X.mg X.base X.A X.stack s H:=
 ⟨I.ok.frames,I.ok.mod,I.bs,D1 I.ok.De I.sz,I.stack,I.sJ,I.bt,I.bare⟩
theorem bd.after{Q:VK}(I:bd X xz σ H s)(h:CE X.stack X.prog X.w H s Q u s'):EP X xz σ Q u s':=by obtain⟨v,H',os,bare,un,bt,r,q⟩:=h;obtain⟨hh,g,d,t,Sf⟩:=s';obtain rfl:Sf=s.os:=os;exact⟨v,H',I.call (h':=hh) (g':=g) (d':=d) (t':=t) (ch:=[]) un bt bare (λ b z=>absurd z (by simp)),r,q⟩
end
def Lu(sp:Sp)(uD:List V)(E:XK)(t:TA):TE:=λ σ H Q=>t σ H λ vs H1=>sp (vs++uD) H1 Q E
def Binds(K:J5)(fd:FuncData)(ps:List Str)(ds:List jp):Prop:=
 ∀(s:kt) (us:List jp),K.In s.heap->(us++ds).length=ps.length->BindsTo s fd ⟨us,[]⟩ (ps.zip (us++ds))
theorem Binds.all(h:∀us:List jp,us.length=ps.length->bindArgs fd ⟨us,[]⟩=pure (ps.zip us)):Binds K fd ps []:=λ s us _ hl=>by rw[y7]at hl ⊢;exact .of_eq (h us hl)
def Passes(CX:HJ)(X:Cx)(E:XK):Prop:=∀(xz:List (ww×Obj)) (σ:St) (H:Hp) (s:kt) (e:jp) (s':kt),bd X xz σ H s->CX X.stack H s E e s'->X.xe e s'
section
variable {X:Cx}{CX:HJ}{C:ww}{sp:Sp}{uD:List V}{ds:List jp}{E:XK}{m:Str}{p pos:Pos}{o:Expr}{ta:TE}{t:TA}
theorem Nd{σ:St}{H:Hp}{Q:VK}{vs:List V}(F:bT X.prog X.w X.K X.mg X.base CX k f fd ps sp)(hr:cX k X.A)(hb:Binds X.K fd ps ds)(hd:ce uD ds)(hx:Passes CX X E) (I:bd X xz σ H s) (r:ce vs us) (h:sp (vs++uD) H Q E):wpAny (model X.prog X.w) X.A (call (.ref f) us) (EP X xz σ Q) X.xe s:=by
 have r2:ce (vs++uD) (us++ds):=r.append hd;have hl:(us++ds).length=ps.length:=by rw[<- r2.length];exact F.len _ _ _ _ h
 refine wpAny_call (D6 (F.run X.A X.stack s H ⟨us,[]⟩ (us++ds) (vs++uD) Q E hr I.Qd (hb s us I.LX hl) r2 h) λ r s' hq=>?_);cases r with
 |error e=>exact hx xz σ H s e s' I hq
 |ok fl=>
  cases fl with
  |ret u=>exact I.after hq
  |next=>exact False.elim hq
  |brk=>exact False.elim hq
  |cont=>exact False.elim hq
theorem zT(F:bT X.prog X.w X.K X.mg X.base CX k f fd ps sp)(hr:cX k X.A)(hg:Gl X x)(hm:X.mg x=some (.ref f))(hk:PySem.W.keepIn X.K (.ref f)=true)(hb:Binds X.K fd ps ds)(hd:ce uD ds)(hx:Passes CX X E) (ha:PA X (e::es) t) (hdb:(x==("__debug__":Str))=false:=by decide) (he:starEach (e::es) X.env=(false,eval e X.env)::starEach es X.env:=by rfl) (hpl:(backTo pos (starEach es X.env)).any (·.1)=false:=by rfl):PE X (.Call (.Name x p) (e::es) [] pos) (Lu sp uD E t):=by intro xz s σ H Q I h;refine p9 (Al I hg hm ?_ hdb);refine PySem.W.callWith_K (h₀:=X.base) I.ok.mod.SG hk (dA (ha pos xz s σ H _ I h) λ us s1 ⟨vs,H1,I1,r,q⟩=>⟨I1.LX,?_⟩) he hpl;exact Nd F hr hb hd hx I1 r q
end
structure aJ(N P:List Str)(sc:Scope):Prop where
 kind:sc.kind=.function
 co:sc.isCoroutine=false
 gen:sc.isGenerator=false
 nd:N.Nodup
 pre:N.take P.length=P
 par:∀x∈P,sc.names.lookup x=some .local\/sc.names.lookup x=some .cell
 OZ:∀y∈sc.names,y.2≠.free
theorem sf:∀{binds:List (Str×jp)} {m:Str->Option jp},(∀v,(x,v)∉binds)->bindL kindOf binds m x=m x
 |[],_,_=>rfl
 |(n,v)::r,m,h=>by
  unfold bindL;rw[sf λ w hw=>h w (k5 _ hw)];split
  ·have:x≠n:=by rintro rfl;exact h v n9
   simp[this]
  ·rfl
theorem sh:∀{binds:List (Str×jp)} {m:Str->Option jp},(∀v,(x,v)∉binds)->bindC kindOf binds m x=m x
 |[],_,_=>rfl
 |(n,v)::r,m,h=>by
  unfold bindC;rw[sh λ w hw=>h w (k5 _ hw)];split
  ·rfl
  ·have:x≠n:=by rintro rfl;exact h v n9
   simp[this]
theorem sg{v:jp}:∀{P:List Str} {vs:List jp} {i:Nat} {m:Str->Option jp},P.Nodup->P[i]?=some x->vs[i]?=some v->kindOf x=some .local->
  bindL kindOf (P.zip vs) m x=some v
 |[],_,_,_,_,h,_,_=>by simp at h
 |_::_,[],_,_,_,_,h,_=>by simp at h
 |p::P,w::vs,0,m,nd,h1,h2,hk=>by simp at h1 h2;subst h1;subst h2;show bindL kindOf ((p,w)::P.zip vs) m p=_;unfold bindL;rw[sf λ v hv=>(nodup_cons.mp nd).1 (of_mem_zip hv).1,J3 hk];simp
 |p::P,w::vs,i+1,m,nd,h1,h2,hk=>by show bindL kindOf ((p,w)::P.zip vs) m x=_;unfold bindL;exact sg (i:=i) (nodup_cons.mp nd).2 (by simpa using h1) (by simpa using h2) hk
theorem sj{v:jp}:∀{P:List Str} {vs:List jp} {i:Nat} {m:Str->Option jp},P.Nodup->P[i]?=some x->vs[i]?=some v->kindOf x≠some .local->
  bindC kindOf (P.zip vs) m x=some v
 |[],_,_,_,_,h,_,_=>by simp at h
 |_::_,[],_,_,_,_,h,_=>by simp at h
 |p::P,w::vs,0,m,nd,h1,h2,hk=>by simp at h1 h2;subst h1;subst h2;show bindC kindOf ((p,w)::P.zip vs) m p=_;unfold bindC;rw[sh λ v hv=>(nodup_cons.mp nd).1 (of_mem_zip hv).1,J4 hk];simp
 |p::P,w::vs,i+1,m,nd,h1,h2,hk=>by show bindC kindOf ((p,w)::P.zip vs) m x=_;unfold bindC;exact sj (i:=i) (nodup_cons.mp nd).2 (by simpa using h1) (by simpa using h2) hk
def start(N:List Str)(vs:List V):St:=vs.map some++List.replicate (N.length - vs.length) none
def qH(CX:HJ)(P:Program)(w:World)(K:J5)(mg:Str->Option jp)(base:Heap)(N:List Str)(qual:Str)(scope:Scope)(f:ww)(cd:jp)(A:Around)(outer:List Env)(s:kt)(H:Hp)(E:XK):Cx where
 prog:=P
 w:=w
 K:=K
 mg:=mg
 base:=base
 A:=A.deeper (envOfC qual scope s.heap.objs.size f cd)
 N:=N
 s₀:=s
 H₀:=H
 env:=envOfC qual scope s.heap.objs.size f cd
 outer:=outer
 stack:=envOfC qual scope s.heap.objs.size f cd::outer
 ex:=[]
 calm:=true
 fn:=λ _=>true
 pn:=[]
 xe:=λ e s'=>wpAny (model P w) (A.deeper (envOfC qual scope s.heap.objs.size f cd)) (leaving (envOfC qual scope s.heap.objs.size f cd) e) (λ _ UN=>CX outer H s E e UN) (λ e' UN=>CX outer H s E e' UN) s'
theorem wG{sc:Scope}(h:sc.names.lookup x=some .cell):∃c,(cellsFrom n sc.names []).lookup x=some c:=by have q:=PySem.W.cellsFrom_some sc.names n [] (.inl h);exact Option.isSome_iff_exists.mp q
theorem CB{CX:HJ}{N:List Str}{cd:jp}{outer:List Env}{s1:kt}{H:Hp}{E:XK}{vs:List V} (S:aJ N ps scope) (hd:A.handled=none) (e0:qj P w K mg base A outer s H) (hl:vs.length=ps.length) (r:ce vs us) (x:InCallC s s.heap.objs.size (bindL (envOfC qual scope s.heap.objs.size f cd).kindOf (ps.zip us) λ _=>none) (cellsFrom (s.heap.objs.size+1) scope.names []) (bindC (envOfC qual scope s.heap.objs.size f cd).kindOf (ps.zip us) λ _=>none) s1):bd (qH CX P w K mg base N qual scope f cd A outer s H E) [] (start N vs) H s1:=by
 have hpl:ps.length<=N.length:=by have:=H9 List.length S.pre;rw[x8]at this;lia
 obtain⟨h1,tk,rfl,hk⟩:=x.done;have FE:∀b:ww,b∉(qH CX P w K mg base N qual scope f cd A outer s H E).ex:=λ b z=>absurd (show b∈([]:List ww)from z) (by simp);refine⟨⟨e0.mod,S.kind,rfl,rfl,D9 _,λ y z c h1 h2=>?_,λ y hy=>?_,λ y c _ h=>?_,λ _=>hd,Around.frames_deeper e0.frames,.inr ⟨rfl,rfl⟩,λ b z=>absurd z (FE b),e0.bs,e0.De,λ b _ _=>FE b,λ b z=>absurd z (FE b),e0.jU,e0.KY⟩,
  rfl,e0.bare,Un.kept hk,⟨_,x.toInCall.ns,λ i y v h1 h2 h3=>?_⟩,λ y c h=>⟨_,x.cell y c h⟩,e0.bt.fresh (D9 _),λ y c h=>?_,λ p hp=>absurd (show p∈([]:List (ww×Obj))from hp) (by simp),e0.bt.kept hk,?_⟩
 ·exact name_of_addr x.apart (l7 h1) (l7 h2)
 ·have hy:scope.names.lookup y=some .cell\/scope.names.lookup y=some .free:=hy;rcases hy with hy|hy
  ·exact wG hy
  ·exact absurd rfl (S.OZ _ (l7 hy))
 ·exact D8 (x.above y c (l7 h))
 ·have hi:i < vs.length:=by
   unfold start at h2;by_cases hi:i < vs.length
   ·exact hi
   ·rw[c5 (by simpa using hi)]at h2;rw[i5]at h2;split at h2 <;> cases h2
  have ha:vs[i]?=some v:=by
   unfold start at h2;rw[c7 (by simpa using hi),r0]at h2;cases e:vs[i]? with
   |none=>rw[e]at h2;cases h2
   |some a=>rw[e]at h2;cases h2;rfl
  obtain⟨u,hu,rv⟩:=r.get ha;have hp:ps[i]?=some y:=by rw[<- S.pre,getElem?_take_of_lt (by lia)];exact h1
  have XW:ps.Nodup:=by rw[<- S.pre];exact S.nd.sublist (take_sublist _ _)
  refine⟨u,rv,?_⟩;rcases S.par y (k7 hp)with k|k
  ·exact .inl ⟨k,sg XW hp hu k⟩
  ·obtain⟨c,e⟩:=wG (n:=s.heap.objs.size+1) k;refine .inr ⟨.inl k,c,e,?_⟩;have q:=x.cell y c e;rw[sj XW hp hu (by show scope.names.lookup y≠_;rw[k];decide)]at q;exact q
 ·exact e0.bt.fresh (D8 (x.above y c (l7 h)))
 ·unfold start;show _=N.length;rw[o7,A5,length_replicate];lia
theorem Md{CX:HJ}{P:Program}{w:World}{K:J5}{mg:Str->Option jp}{base:Heap}{k:Nat}{f:ww}{name qual:Str}{params:Arguments}{body:List Stmt}{scope:Scope}{dV kV doc pm dE ct oc:jp}{an od:Option ww} {xW:Array (Option jp)} {N ps:List Str} {sp:Sp} (lk:K.lookup f=some ⟨oc,od,.func (PySem.W.fnOf name qual params body scope dV kV doc pm an dE ct),xW⟩) (hcd:PySem.W.codeIn K dE qual=true) (S:aJ N ps scope) (len:∀vs H Q E,sp vs H Q E->vs.length=ps.length) (eW:∀(A:Around) (outer:List Env) (s:kt) (H:Hp) (vs:List V) (Q:VK) (E:XK),cX k (A.deeper (envOfC qual scope s.heap.objs.size f dE))->sp vs H Q E->
   ∃t,wU (qH CX P w K mg base N qual scope f dE A outer s H E) body t/\t {nx:=λ _ H'=>Q .bK H',rt:=Q} (start N vs) H):
  bT P w K mg base CX (k+1) f (PySem.W.fnOf name qual params body scope dV kV doc pm an dE ct) ps sp:=by
 refine⟨len,λ A outer s H args us vs Q E hr e0 hb r CD=>?_⟩;have hl:=len _ _ _ _ CD;have KX:K.In s.heap:=e0.mod.SG.keeps λ b o e=>(e0.bs b o e).1;have lim:s.heap.NoLimit:=e0.mod.nolimit.keeps λ b o e=>(e0.bs b o e).1;have S7:∀y∈ps.zip us,scope.names.lookup y.1=some .local\/(scope.names.lookup y.1=some .cell/\((cellsFrom (s.heap.objs.size+1) scope.names []).lookup y.1).isSome=true):=λ⟨n,v⟩ hy=>by
  rcases S.par n (of_mem_zip hy).1 with q|q
  ·exact .inl q
  ·exact .inr ⟨q,PySem.W.cellsFrom_some _ _ _ (.inl q)⟩
 refine codeAny_call_function hr.depth (KX _ _ lk) rfl S.co S.gen rfl (PySem.W.codeRec_of KX hcd) (hb _ _ _ _ ?_);refine wpAny_newFunctionEnv_cells S.kind S7 λ env he s1 x=>?_;subst he;refine⟨lim.keeps x.toInCall.keep,codeAny_func ?_⟩;obtain⟨t,ht,hq⟩:=eW A outer s H vs Q E (hr.deeper _) CD;have I:bd (qH CX P w K mg base N qual scope f dE A outer s H E) [] (start N vs) H s1:=CB S hr.hd e0 hl r x;refine G8 (ht [] s1 (start N vs) H _ I hq) (λ fl s' hs=>?_) λ e s' hs=>hs;have fin:∀{σ':St} {H':Hp} {v:V} {u:jp},bd (qH CX P w K mg base N qual scope f dE A outer s H E) [] σ' H' s'->bn v u->Q v H'->CE outer P w H s Q u s':=
  λ{σ' H' v u} J rv q=>⟨v,H',J.os,J.bare,J.base,J.bt,rv,q⟩
 cases fl with
 |ret u=>obtain⟨v,σ',H',J,rv,q⟩:=hs;exact fin J rv q
 |next=>obtain⟨σ',H',J,q⟩:=hs;exact fin (v:=V.bK) (u:=Value.none) J rfl q
 |brk=>obtain⟨_,_,_,q⟩:=hs;exact False.elim q
 |cont=>obtain⟨_,_,_,q⟩:=hs;exact False.elim q
section
variable {X:Cx}{p pos:Pos}{t:TA}{id:String}{r:List V->Hp->VK->Prop}
def Uj(r:List V->Hp->VK->Prop)(t:TA):TE:=λ σ H Q=>t σ H λ vs H1=>r vs H1 Q
theorem vE(hc:dw X (.builtin id) r)(hg:Gl X x)(hm:X.mg x=none)(hv:bootBuiltins x=some (.builtin id))(ha:PA X (e::es) t)(hn:x≠"__name__":=by decide)(hdb:(x==("__debug__":Str))=false:=by decide) (he:starEach (e::es) X.env=(false,eval e X.env)::starEach es X.env:=by rfl) (hpl:(backTo pos (starEach es X.env)).any (·.1)=false:=by rfl):PE X (.Call (.Name x p) (e::es) [] pos) (Uj r t):=by intro xz s σ H Q I h;refine p9 (gQ I hg hm hv ?_ hn hdb);exact PyProof.Rows.callWith_builtin1 (dA (ha pos xz s σ H _ I h) λ us s1 ⟨vs,H1,I1,r1,q1⟩=>hc xz s1 σ H1 vs us Q I1 r1 q1) he hpl
theorem dM(hc:dw X (.type T) r)(hg:Gl X x)(hm:X.mg x=none)(hv:bootBuiltins x=some (.type T))(ha:PA X (e::es) t)(hn:x≠"__name__":=by decide)(hdb:(x==("__debug__":Str))=false:=by decide) (he:starEach (e::es) X.env=(false,eval e X.env)::starEach es X.env:=by rfl) (hpl:(backTo pos (starEach es X.env)).any (·.1)=false:=by rfl):PE X (.Call (.Name x p) (e::es) [] pos) (Uj r t):=by intro xz s σ H Q I h;refine p9 (gQ I hg hm hv ?_ hn hdb);exact c3 (dA (ha pos xz s σ H _ I h) λ us s1 ⟨vs,H1,I1,r1,q1⟩=>hc xz s1 σ H1 vs us Q I1 r1 q1) he hpl
end
end L2
variable {X:L2.Cx}{H H1 H':L2.Hp}{xs:List L2.V}{kvs:List (List L2.Key×L2.V)}{σ:L2.St}{v:L2.V}
namespace HT
open PyProof.Rows
theorem Lc{t:ww}{vs ws:List jp}(ht:IsTup s.heap t vs.toArray)(hb:IsTup s.heap b ws.toArray)(hv:vs≠[]) (h1:ws=[]->Q (.ref t) s) (h2:ws≠[]->Q (.ref s.heap.objs.size) {s with heap:=s.heap.push {cls:=.type "tuple",data:=.seq (vs++ws).toArray}}) (hsz:vs.length+ws.length<=sizeLine):wpAny (model prog w) A (binaryOp .Add (.ref t) (.ref b)) Q E s:=by
 obtain⟨⟨cls,dd,data,sl⟩,ho,hc,n,hd⟩:=id ht;obtain⟨⟨abD,YR,data2,XQ⟩,Q1,Yu,n2,hd2⟩:=id hb;simp only at hc hd Yu hd2;subst hc hd Yu hd2;have e:vs.toArray++ws.toArray=(vs++ws).toArray:=by simp
 by_cases hw:ws=[]
 ·exact concat_meets ⟨_,ho,rfl⟩ ⟨_,Q1,rfl⟩ noFill_tuple_add seq_tuple_add PySem.F.slot_tuple_add PySem.F.entry_tuple_add (PySem.F.args_tuple_add_2 _ _)
   (tuple_addW1 t b vs.toArray ws.toArray n n2 dd YR sl XQ (by simpa using hv) (by simp[hw])) ⟨ho,Q1,h1 hw⟩
 ·refine concat_meets ⟨_,ho,rfl⟩ ⟨_,Q1,rfl⟩ noFill_tuple_add seq_tuple_add PySem.F.slot_tuple_add PySem.F.entry_tuple_add (PySem.F.args_tuple_add_2 _ _)
   (tuple_addW2 t b vs.toArray ws.toArray n n2 dd YR sl XQ (by simpa using hv) (by simpa using hw) (by rw[u9,u9];exact hsz)) ⟨ho,Q1,?_⟩
  rw[e];exact h2 hw
def cT(n d:Nat):Option Int->Nat
 |none=>d
 |some v=>if v < 0 then(v+(n:Int)).toNat else min v.toNat n
theorem xF(n d:Nat)(hd:d<=n)(o:Option Int):cT n d o<=n:=by
 cases o with
 |none=>exact hd
 |some v=>
  show(if v < 0 then(v+(n:Int)).toNat else min v.toNat n)<=n;by_cases hv:v < 0
  ·rw[J3 hv];lia
  ·rw[J4 hv];exact Nat.min_le_right _ _
theorem AY(v:Int)(n d:Nat):(if v < 0 then max (v+(n:Int)) 0 else min v (n:Int))=((cT n d (some v):Nat):Int):=by
 show(if v < 0 then max (v+(n:Int)) 0 else min v (n:Int))=(((if v < 0 then(v+(n:Int)).toNat else min v.toNat n):Nat):Int);by_cases hv:v < 0
 ·simp only[J3 hv];lia
 ·simp only[J4 hv];lia
theorem yU(lo hi:Option Int)(n:Nat):Builtin.Slice.sliceAdjust lo hi 1 (n:Int)=(((cT n 0 lo:Nat):Int),((cT n n hi:Nat):Int)):=by
 have h1:¬((1:Int) < 0):=by lia
 unfold Builtin.Slice.sliceAdjust;simp only[h1,G9];refine Prod.ext ?_ ?_
 ·cases lo with
  |none=>rfl
  |some v=>exact AY v n 0
 ·cases hi with
  |none=>rfl
  |some v=>exact AY v n n
theorem xT(i j:Nat):Builtin.Slice.slicePlaces (i:Int) (j:Int) 1=j - i:=by
 unfold Builtin.Slice.slicePlaces;have h1:(1:Int) > 0:=by lia
 simp only[h1,J1,Int.ediv_one];split <;> lia
theorem oM{v:jp}{o:Option Int}{Q:Option Int->kt->Prop}(p:IsPart v o)(h:Q o s):wpAny (model prog w) A (Builtin.Slice.slicePartIndex v) Q E s:=by
 cases p with
 |none=>exact slicePart_none h
 |int i t=>exact slicePart_int h
theorem gn{sl:ww}{vl vu:jp}{lo hi:Option Int}{Q:Int×Int×Nat->kt->Prop}(hs:s.heap.IsSliceOf sl vl vu .none)(pl:IsPart vl lo)(pu:IsPart vu hi) (h:Q (((cT n 0 lo:Nat):Int),1,cT n n hi - cT n 0 lo) s):wpAny (model prog w) A (Builtin.Slice.sliceApplied (.ref sl) (pure (n:Int))) Q E s:=by obtain⟨os,PB,Ay,GD⟩:=id hs;unfold Builtin.Slice.sliceApplied Builtin.Slice.sliceFields;refine G4 (G4 (G3 PB GD (x:=vl) rfl (G4 (G3 PB GD (x:=vu) rfl (G4 (G3 PB GD (x:=.none) rfl (G5 ?_)))))));refine G4 (slicePart_none ?_);show wpAny _ _ (if((1:Int)==0)=true then _ else _) _ _ s;rw[J4 (by decide)];refine G4 (oM pl (G4 (oM pu (G4 (G5 ?_)))));show wpAny _ _ (match Builtin.Slice.sliceAdjust lo hi 1 (n:Int)with|(lo,hi)=>pure (lo,(1:Int),Builtin.Slice.slicePlaces lo hi 1)) _ _ s;rw[yU lo hi n];show wpAny _ _ (pure (((cT n 0 lo:Nat):Int),(1:Int),Builtin.Slice.slicePlaces ((cT n 0 lo:Nat):Int) ((cT n n hi:Nat):Int) 1)) _ _ s;rw[xT];exact G5 h
theorem Fe(xs:Array jp)(i k:Nat):((List.range k).filterMap λ(m:Nat)=>xs[((i:Int)+(m:Int)*1).toNat]?).toArray=((xs.toList.drop i).take k).toArray:=by
 have e:(λ(m:Nat)=>xs[((i:Int)+(m:Int)*1).toNat]?)=λ m=>xs[i+m]?:=by
  funext m;have:((i:Int)+(m:Int)*1).toNat=i+m:=by lia
  rw[this]
 rw[e];have:=pick_run xs i k;rw[filterMap_map]at this;have e2:((λ x=>xs[x]?)∘λ x=>i+x)=λ m=>xs[i+m]?:=rfl;rw[e2]at this;rw[this]
theorem lA{t sl:ww}{ad:Array jp}{vl vu:jp}{lo hi:Option Int}(ht:IsTup s.heap t ad)(hs:s.heap.IsSliceOf sl vl vu .none)(pl:IsPart vl lo)(pu:IsPart vu hi) (hw:¬(cT ad.size 0 lo=0/\cT ad.size ad.size hi=ad.size)) (h:Q (.ref s.heap.objs.size) {s with heap:=s.heap.push {cls:=.type "tuple",data:=.seq ((ad.toList.drop (cT ad.size 0 lo)).take (cT ad.size ad.size hi - cT ad.size 0 lo)).toArray}}) (hsz:ad.size<=sizeLine):wpAny (model prog w) A (getItem (.ref t) (.ref sl)) Q E s:=by
 have Av:sizeOk (.seq ((ad.toList.drop (cT ad.size 0 lo)).take (cT ad.size ad.size hi - cT ad.size 0 lo)).toArray):=by show((ad.toList.drop (cT ad.size 0 lo)).take (cT ad.size ad.size hi - cT ad.size 0 lo)).toArray.size<=sizeLine;rw[u9,x8,length_drop,l9];lia
 have hj:cT ad.size ad.size hi<=ad.size:=xF _ _ (D9 _) hi;obtain⟨os,PB,Ay,GD⟩:=id hs;have W9:s.TypeIs (.ref sl) "slice":=⟨os,PB,Ay⟩;unfold getItem
 try with_reducible refine B7 ?_
 first|refine G4 (G5 ?_)|skip
 refine G4 (wpAny_sequenceKey ht.typeIs (by decide) ?_);refine G4 (i6 (name:=Str.ofString "__getitem__") ht.typeIs a8
  (x5 a8 ht.typeIs entry_tuple_getitem ?_ (args_tuple_getitem _ _)))
 show wpAny _ _ (Builtin.Tuple.tupleItemsOf (.ref t) >>= _) _ _ s;refine G4 (tupleItemsOf_ ht ?_);refine G4 (D5 W9 ?_);rw[J3 (by decide)];refine G4 (gn hs pl pu ?_);have KP:¬((((cT ad.size 0 lo:Nat):Int)==0&&(1:Int)==1&&(cT ad.size ad.size hi - cT ad.size 0 lo)==ad.size)=true):=by intro q;rw[x6,x6]at q;have q1:((cT ad.size 0 lo:Nat):Int)=0:=eq_of_beq q.1.1;have q2:cT ad.size ad.size hi - cT ad.size 0 lo=ad.size:=eq_of_beq q.2;exact hw ⟨by lia,by lia⟩
 show wpAny _ _ (if(((cT ad.size 0 lo:Nat):Int)==0&&(1:Int)==1&&(cT ad.size ad.size hi - cT ad.size 0 lo)==ad.size)=true then _ else _) _ _ s;rw[J4 KP,Fe]
 first
  |exact G4 (m:=Builtin.Tuple.tupleExact _) (r9 (G5 ⟨_,rfl,G5 h⟩) Av)
  |exact G4 (m:=Builtin.Tuple.tupleExact _) (r9 (G4 (G5 (G5 ⟨_,rfl,G5 h⟩))) Av)
  |exact G4 (G4 (m:=Builtin.Tuple.tupleExact _) (r9 (G5 (G5 ⟨_,rfl,G5 h⟩)) Av))
  |exact G4 (G4 (m:=Builtin.Tuple.tupleExact _) (r9 (G5 ⟨_,rfl,G5 h⟩) Av))
end HT
namespace L2
open PySem.Spec PyProof.Rows
abbrev TO:=St->Hp->(Option Int->Hp->Prop)->Prop
def PO(X:Cx)(e:Option Expr)(t:TO):Prop:=
 ∀(xz:List (ww×Obj)) (s:kt) (σ:St) (H:Hp) (Q:Option Int->Hp->Prop),bd X xz σ H s->t σ H Q->
  wpAny (model X.prog X.w) X.A (evalPart e X.env) (λ u s'=>∃o H',bd X xz σ H' s'/\IsPart u o/\Q o H') X.xe s
def Ig:TO:=λ _ H Q=>Q none H
def Rv(t:TE):TO:=λ σ H Q=>t σ H λ x H1=>∃i,x=.int i/\Q (some i) H1
section
variable {te:TE}{lo hi:Option Expr}{tl th:TO}{pos:Pos}
theorem JK:PO X none Ig:=by intro xz s σ H Q I h;rw[evalPart_none];exact G5 ⟨none,H,I,.none,h⟩
theorem JJ(h:PE X e te):PO X (some e) (Rv te):=by intro xz s σ H Q I hw;rw[evalPart_some];refine dA (h xz s σ H _ I hw) λ u s1 ⟨x,H1,I1,r1,q1⟩=>?_;obtain⟨i,rfl,q⟩:=q1;obtain⟨t,rfl⟩:=r1;exact⟨some i,H1,I1,.int i t,q⟩
def Bg(X:Cx)(r:V->Option Int->Option Int->Hp->VK->Prop):Prop:=
 ∀(xz:List (ww×Obj)) (s:kt) (σ:St) (H:Hp) (x:V) (v vl vu:jp) (lo hi:Option Int) (sl:ww) (Q:VK),bd X xz σ H s->bn x v->s.heap.IsSliceOf sl vl vu .none->IsPart vl lo->IsPart vu hi->r x lo hi H Q->
  ∃T id,typeLookup (.type T) "__getitem__"=pure (some (.builtin id))/\s.TypeIs v T/\wpAny (model X.prog X.w) X.A (getItem v (.ref sl)) (EP X xz σ Q) X.xe s
theorem Bg.or{r r':V->Option Int->Option Int->Hp->VK->Prop}(h:Bg X r)(h':Bg X r'):Bg X (λ x lo hi H Q=>r x lo hi H Q\/r' x lo hi H Q):=by
 intro xz s σ H x v vl vu lo hi sl Q I rx hs pl pu q;rcases q with q|q
 ·exact h xz s σ H x v vl vu lo hi sl Q I rx hs pl pu q
 ·exact h' xz s σ H x v vl vu lo hi sl Q I rx hs pl pu q
def Y_(r:V->Option Int->Option Int->Hp->VK->Prop)(te:TE)(tl th:TO):TE:=λ σ H Q=>te σ H λ x H1=>tl σ H1 λ l H2=>th σ H2 λ u H3=>r x l u H3 Q
theorem Fi{r:V->Option Int->Option Int->Hp->VK->Prop}(hr:Bg X r)(he:PE X e te)(hl:PO X lo tl)(hu:PO X hi th):PE X (.Subscript e (.Slice lo hi none p2) pos) (Y_ r te tl th):=by intro xz s σ H Q I h;refine Subscript_ (dA (he xz s σ H _ I h) λ v s1 ⟨x,H1,I1,r1,q1⟩=>?_);refine wpAny_Slice (dA (hl xz s1 σ H1 _ I1 q1) λ vl s2 ⟨l,H2,I2,pl,q2⟩=>dA (hu xz s2 σ H2 _ I2 q2) λ vu s3 ⟨u,H3,I3,pu,q3⟩=>?_);rw[evalPart_none];refine G5 ?_;have I4:bd X xz σ H3 {s3 with heap:=s3.heap.push {cls:=.type "slice",data:=.fields #[vl,vu,.none]}}:=I3.kept (t':=s3.toks) λ b ob q=>j0 _ q;obtain⟨T,id,hT,ht,hg⟩:=hr xz {s3 with heap:=s3.heap.push {cls:=.type "slice",data:=.fields #[vl,vu,.none]}} σ H3 x v vl vu l u s3.heap.objs.size Q I4 r1 (Heap.IsSliceOf.new ..) pl pu q3;show wpAny (model X.prog X.w) X.A (subscriptTail e (.Slice lo hi none p2) v (.ref s3.heap.objs.size)) (EP X xz σ Q) X.xe {s3 with heap:=s3.heap.push {cls:=.type "slice",data:=.fields #[vl,vu,.none]}};exact tail_any (ops:=[.ref s3.heap.objs.size,v]) ht hT hg (by with_unfolding_all rfl)
def wF(xs:List V)(lo hi:Option Int):List V:=(xs.drop (HT.cT xs.length 0 lo)).take (HT.cT xs.length xs.length hi - HT.cT xs.length 0 lo)
theorem mS(xs:List V)(lo hi:Option Int):(wF xs lo hi).length<=xs.length:=by unfold wF;rw[x8,length_drop];lia
def RK(K:J5):V->Option Int->Option Int->Hp->VK->Prop:=λ x lo hi H Q=>∃a xs,x=.ref a/\iD K H a xs/\
 ¬(HT.cT xs.length 0 lo=0/\HT.cT xs.length xs.length hi=xs.length)/\∀p,H p=none->Q (.ref p) (ci H p (.tup (wF xs lo hi)))
theorem MN:Bg X (RK X.K):=by
 intro xz s σ H x v vl vu lo hi sl Q I rx hs pl pu h;obtain⟨a,xs,rfl,hx,hw,q⟩:=h;cases rx;obtain⟨aB,r,ht,hz⟩:=I.tuple hx;have hlen:aB.toArray.size=xs.length:=by rw[u9];exact r.length.symm
 refine⟨"tuple",_,a8.lookup,ht.typeIs,?_⟩;refine HT.lA ht hs pl pu (by rw[hlen];exact hw) ?_ (by rw[hlen];exact hz);rw[hlen];refine⟨.ref s.heap.objs.size,_,I.laid (t':=s.toks) (o:=.tup (wF xs lo hi)) (λ b ob q=>j0 _ q) (D9 _) ?_,rfl,q _ (I.bt.fresh (D9 _))⟩;exact⟨D1 (mS xs lo hi) hz,_,(r.drop (HT.cT xs.length 0 lo)).take (HT.cT xs.length xs.length hi - HT.cT xs.length 0 lo),IsTup.new _ _⟩
def RU(K:J5):R2:=λ x y H Q=>∃a b xs ys,x=.ref a/\y=.ref b/\iD K H a xs/\iD K H b ys/\xs≠[]/\xs.length+ys.length<=sizeLine/\
 (ys=[]->Q (.ref a) H)/\(ys≠[]->∀p,H p=none->Q (.ref p) (ci H p (.tup (xs++ys))))
theorem ce.tx(r:ce xs us):us=[]↔xs=[]:=by
 cases r with
 |nil=>simp
 |cons _ _=>simp
theorem JX:gh X (binaryOp .Add) (RU X.K):=by intro xz s σ H x y v u Q I rx ry h;obtain⟨a,b,xs,ys,rfl,rfl,ha,hb,hx,hz,q1,q2⟩:=h;cases rx;cases ry;obtain⟨aB,r1,p1,_⟩:=I.tuple ha;obtain⟨Pp,r2,p2,_⟩:=I.tuple hb;refine HT.Lc p1 p2 (λ z=>hx (r1.tx.mp z)) (λ z=>⟨.ref a,H,I,rfl,q1 (r2.tx.mp z)⟩) (λ z=>?_) (by rw[<- r1.length,<- r2.length];exact hz);refine⟨.ref s.heap.objs.size,_,I.laid (t':=s.toks) (o:=.tup (xs++ys)) (λ b ob q=>j0 _ q) (D9 _) ?_,rfl,q2 (λ w=>z (r2.tx.mpr w)) _ (I.bt.fresh (D9 _))⟩;exact⟨by rw[o7];exact hz,_,r1.append r2,IsTup.new _ _⟩
end
def Cw(n:Nat)(i:Int):Option Nat:=if 0<=i then(if i < n then some i.toNat else none)else if -(n:Int)<=i then some (i+n).toNat else none
def ip{α:Type}(xs:List α)(i:Int):Option α:=(Cw xs.length i).bind λ j=>xs[j]?
theorem Ao{i:Int}(h:Cw n i=some j):seqIndex? i n=some j/\j < n/\-(n:Int)<=i/\i < n:=by
 unfold Cw at h;by_cases h0:0<=i
 ·rw[J3 h0]at h;by_cases h1:i < n
  ·rw[J3 h1]at h;have e:i.toNat=j:=A1 h;exact⟨by rw[seqIndex_of h0 h1,e],by lia,by lia,h1⟩
  ·rw[J4 h1]at h;cases h
 ·rw[J4 h0]at h;by_cases h1: -(n:Int)<=i
  ·rw[J3 h1]at h;have e:(i+n).toNat=j:=A1 h;exact⟨by rw[seqIndex_neg (by lia) h1,e],by lia,h1,by lia⟩
  ·rw[J4 h1]at h;cases h
theorem uh{xs:List α}{i:Int}{v:α}(h:ip xs i=some v):∃j,seqIndex? i xs.length=some j/\xs[j]?=some v/\j < xs.length/\-(xs.length:Int)<=i/\i < xs.length:=by
 unfold ip at h;cases e:Cw xs.length i with
 |none=>rw[e]at h;cases h
 |some j=>rw[e]at h;obtain⟨h1,h2,h3,h4⟩:=Ao e;exact⟨j,h1,h,h2,h3,h4⟩
theorem bH{xs:List α}{v:α}(h:xs[j]?=some v):ip xs (j:Int)=some v:=by
 have hj:j < xs.length:=(c9.mp h).1;have e:Cw xs.length (j:Int)=some j:=by unfold Cw;rw[J3 (by lia),J3 (by lia)];simp
 unfold ip;rw[e];exact h
def uj(b:Expr):Prop:=∀o i,subscripted b false o i=operate [o,i] (getItem o i)
def yW(X:Cx)(r:R2):Prop:=
 ∀(value slice:Expr) (xz:List (ww×Obj)) (s:kt) (σ:St) (H:Hp) (x y:V) (v u:jp) (Q:VK),bd X xz σ H s->bn x v->bn y u->r x y H Q->
  subscripted slice false v u=operate [v,u] (getItem v u)->wpAny (model X.prog X.w) X.A (subscriptTail value slice v u) (EP X xz σ Q) X.xe s
def T6(X:Cx)(id:String)(r:V->List V->Hp->VK->Prop):Prop:=
 ∀(xz:List (ww×Obj)) (s:kt) (σ:St) (H:Hp) (x:V) (xs:List V) (v:jp) (us:List jp) (Q:VK),bd X xz σ H s->bn x v->ce xs us->r x xs H Q->
  wpAny (model X.prog X.w) X.A (call (.builtin id) (v::us)) (EP X xz σ Q) X.xe s
section
variable {a b:Expr}{ta tb:TE}{pos:Pos}
theorem yW.or{r r':R2}(h:yW X r)(h':yW X r'):yW X (λ x y H Q=>r x y H Q\/r' x y H Q):=by
 intro value slice xz s σ H x y v u Q I rx ry q hs;rcases q with q|q
 ·exact h value slice xz s σ H x y v u Q I rx ry q hs
 ·exact h' value slice xz s σ H x y v u Q I rx ry q hs
theorem Sb{r:R2}(hr:yW X r)(ha:PE X a ta)(hb:PE X b tb)(hs:uj b):PE X (.Subscript a b pos) (Rw r ta tb):=by intro xz s σ H Q I h;exact Subscript_ (Qs ha hb I h λ v u s2 x y H2 I2 rx ry q=>hr a b xz s2 σ H2 x y v u Q I2 rx ry q (hs _ _))
def RR(K:J5):R2:=λ x y H Q=>∃p xs i v,x=.ref p/\y=.int i/\gB K H p xs/\ip xs i=some v/\Q v H
def RP(K:J5):R2:=λ x y H Q=>∃p xs i v,x=.ref p/\y=.int i/\iD K H p xs/\ip xs i=some v/\Q v H
def RQ:R2:=λ x y H Q=>∃z i c,x=.str z/\y=.int i/\z.length<=sizeLine/\ip z.cps.toList i=some c/\Q (.str ⟨#[c]⟩) H
theorem Kx:yW X (RR X.K):=by
 intro value slice xz s σ H x y v u Q I rx ry h hs;obtain⟨p,xs,i,z,rfl,rfl,hq,he,q⟩:=h;cases rx;obtain⟨t,rfl⟩:=ry;obtain⟨aB,r,pl,hz⟩:=I.list hq;obtain⟨j,h1,h2,h3,h4,h5⟩:=uh he;obtain⟨w,ew,jQ⟩:=r.get h2;have hl:=r.length;have hn:=md;have fin:EP X xz σ Q w s:=⟨z,H,I,jQ,q⟩;by_cases h0:0<=i
 ·have hj:i.toNat=j:=by rw[seqIndex_of h0 h5]at h1;exact A1 h1
  exact item_listR pl.isList h0 (by lia) (by rw[hj];simpa using ew) fin hs
 ·have hj:(i+(aB.toArray.size:Int)).toNat=j:=by rw[seqIndex_neg (by lia) h4]at h1;rw[u9,<- hl];exact A1 h1
  exact subscriptTail_builtinR (x:=w) pl.isList.typeIs slot_list_getitem.lookup
   (wpAny_getItem_list_neg (Q:=λ r s'=>r=w/\EP X xz σ Q r s') pl.isList (by lia) (by rw[u9] <;> lia) (by lia) (by rw[hj];simpa using ew) ⟨rfl,fin⟩) hs
theorem Pk:yW X (RP X.K):=by
 intro value slice xz s σ H x y v u Q I rx ry h hs;obtain⟨p,xs,i,z,rfl,rfl,hq,he,q⟩:=h;cases rx;obtain⟨t,rfl⟩:=ry;obtain⟨aB,r,pl,hz⟩:=I.tuple hq;obtain⟨j,h1,h2,h3,h4,h5⟩:=uh he;obtain⟨w,ew,jQ⟩:=r.get h2;have hl:=r.length;have hn:=md;have fin:EP X xz σ Q w s:=⟨z,H,I,jQ,q⟩;exact subscriptTail_builtinR (x:=w) pl.typeIs slot_tuple_getitem.lookup
  (getItem_tuple (j:=j) (Q:=λ r s'=>r=w/\EP X xz σ Q r s') pl (by lia) (by lia) (by rw[u9,<- hl];exact h1) (by simpa using ew) ⟨rfl,fin⟩) hs
theorem Pm:yW X RQ:=by
 intro value slice xz s σ H x y v u Q I rx ry h hs;obtain⟨z,i,c,rfl,rfl,hz,he,q⟩:=h;obtain⟨t,rfl⟩:=rx;obtain⟨t',rfl⟩:=ry;obtain⟨j,h1,h2,h3,h4,h5⟩:=uh he;have hl:z.cps.toList.length=z.length:=by simp[Str.length]
 rw[hl]at h1 h4 h5;have hn:=md;exact tail_any (typeIs_str s z t) slot_str_getitem.lookup (getItem_str (c:=c) (by
  have e1:decide (i < -(2^63:Int))=false:=y9 (by lia);have e2:decide (i ≥ 2^63)=false:=y9 (by lia);rw[e1,e2,Bool.or_false]) (by rw[h1];simpa using h2) ⟨.str ⟨#[c]⟩,H,I.tok _,⟨_,rfl⟩,q⟩) hs
def Zl(K:J5):R2:=λ x y H Q=>RR K x y H Q\/RP K x y H Q\/RQ x y H Q
theorem Pn:yW X (Zl X.K):=Kx.or (Pk.or Pm)
theorem ya(aB:List jp)(n j:Nat)(u:jp):Obj.mapSeq (·.setIfInBounds j u) {cls:=.type "list",data:=.seq aB.toArray n}={cls:=.type "list",data:=.seq (aB.set j u).toArray n}:=by simp[Obj.mapSeq]
theorem bd.lst(I:bd X xz σ H s)(h:H p=some (.lst xs)):∃(aB:List jp) (n:Nat),ce xs aB/\s.heap.get? p=some {cls:=.type "list",data:=.seq aB.toArray n}/\xs.length<=sizeLine:=by obtain⟨z,aB,n,r,e⟩:=I.bt p _ h;exact⟨aB,n,r,e,z⟩
theorem bd.O6{ys:List V}{aB its':List jp}{n':Nat}{f:Obj->Obj}(I:bd X xz σ H s)(h:H p=some (.lst xs)) (ho:s.heap.get? p=some {cls:=.type "list",data:=.seq aB.toArray n}) (hf:f {cls:=.type "list",data:=.seq aB.toArray n}={cls:=.type "list",data:=.seq its'.toArray n'}) (r:ce ys its') (hz:ys.length<=sizeLine) (t:Nat):bd X xz σ (ci H p (.lst ys)) {s with heap:=s.heap.update p f,toks:=t}:=by
 have e:(s.heap.update p f).get? p=some {cls:=.type "list",data:=.seq its'.toArray n'}:=by rw[j6 f ho (by rw[hf] <;> rfl),hf]
 refine I.write (x:=p) (e:=p) (by rw[h];trivial) (.inl rfl) (λ b u hb q=>(j4 _ _ (J0 hb)).trans q) ⟨_,e⟩ ?_;exact⟨hz,its',n',r,e⟩
def RM:V->V->V->Hp->(Hp->Prop)->Prop:=λ o i v H Q=>∃p xs k j,o=.ref p/\i=.int k/\H p=some (.lst xs)/\Cw xs.length k=some j/\Q (ci H p (.lst (xs.set j v)))
theorem set_list:uk X RM:=by
 intro xz s σ H o i v ov iv u Q I ro ri rv h;obtain⟨p,xs,k,j,rfl,rfl,hp,hj,q⟩:=h;cases ro;obtain⟨t,rfl⟩:=ri;obtain⟨aB,n,r,ho,hz⟩:=I.lst hp;obtain⟨h1,h2,h3,h4⟩:=Ao hj;have hl:=r.length;have hn:=md;have I':bd X xz σ (ci H p (.lst (xs.set j v))) {s with heap:=s.heap.update p (Obj.mapSeq (·.setIfInBounds j u))}:=
  I.O6 hp ho (ya aB n j u) (r.set rv j) (by rw[length_set];exact hz) s.toks
 by_cases h0:0<=k
 ·have hk:k.toNat=j:=by rw[seqIndex_of h0 h4]at h1;exact A1 h1
  exact PySem.W.ki_setAt ho h0 (by lia) (by rw[u9,<- hl];exact h4) (by rw[hk];exact⟨_,I',q⟩)
 ·have hk:(k+(aB.toArray.size:Int)).toNat=j:=by rw[seqIndex_neg (by lia) h3]at h1;rw[u9,<- hl];exact A1 h1
  exact PySem.W.ki_setBack ho (by lia) (by rw[u9,<- hl];exact h3) (by lia) (by rw[hk];exact⟨_,I',q⟩)
theorem kr(lo hi:Option Int)(n:Nat):(sliceBounds lo hi none n).1=((HT.cT n 0 lo:Nat):Int)/\(sliceBounds lo hi none n).2.1=((HT.cT n n hi:Nat):Int)/\(sliceBounds lo hi none n).2.2=1:=by
 refine⟨?_,?_,rfl⟩
 ·cases lo with
  |none=>simp[sliceBounds,HT.cT]
  |some i=>
   simp only[sliceBounds,HT.cT,Option.getD_none,show(1:Int) > 0 by decide,J1];by_cases h:i < 0
   ·simp only[h,J1] <;> lia
   ·simp only[h,G9] <;> lia
 ·cases hi with
  |none=>simp[sliceBounds,HT.cT]
  |some i=>
   simp only[sliceBounds,HT.cT,Option.getD_none,show(1:Int) > 0 by decide,J1];by_cases h:i < 0
   ·simp only[h,J1] <;> lia
   ·simp only[h,G9] <;> lia
theorem qw(aB:List jp)(lo hi:Option Int):slicePick aB.toArray lo hi none=((aB.drop (HT.cT aB.length 0 lo)).take (HT.cT aB.length aB.length hi - HT.cT aB.length 0 lo)).toArray:=by obtain⟨h1,h2,h3⟩:=kr lo hi aB.toArray.size;unfold slicePick;rw[h1,h2,h3];simp only[sliceRange_one,pick_run,u9] <;> rfl
def RL(K:J5):V->Option Int->Option Int->Hp->VK->Prop:=λ x lo hi H Q=>∃a xs,x=.ref a/\gB K H a xs/\∀p,H p=none->Q (.ref p) (ci H p (.lst (wF xs lo hi)))
theorem Io:Bg X (RL X.K):=by intro xz s σ H x v vl vu lo hi sl Q I rx hs pl pu h;obtain⟨a,xs,rfl,hx,q⟩:=h;cases rx;obtain⟨aB,r,ht,hz⟩:=I.list hx;have hlen:=r.length;refine⟨"list",_,slot_list_getitem.lookup,ht.isList.typeIs,?_⟩;refine wpAny_getItem_list_slice ht.isList hs pl pu .none (by simp) ?_ (by rw[u9] <;> lia);rw[qw,<- hlen];refine⟨.ref s.heap.objs.size,_,I.laid (t':=s.toks) (o:=.lst (wF xs lo hi)) (λ b ob q=>j0 _ q) (D9 _) ?_,rfl,q _ (I.bt.fresh (D9 _))⟩;exact⟨D1 (mS xs lo hi) hz,_,0,(r.drop (HT.cT xs.length 0 lo)).take (HT.cT xs.length xs.length hi - HT.cT xs.length 0 lo),m8 _ rfl⟩
def il:V->Bool
 | .bK=>true
 | .bl _=>true
 | .int _=>true
 | .str _=>true
 |_=>false
def Mg:V->V->Bool
 | .bK,.bK=>true
 | .bl a,.bl b=>a==b
 | .bl a,.int b=>(if a then 1 else 0)==b
 | .int a,.bl b=>a==(if b then 1 else 0)
 | .int a,.int b=>a==b
 | .str a,.str b=>a==b
 |_,_=>false
theorem Qc{y x:V}{v:jp}(ry:bn y u)(rx:bn x v)(fy:il y=true)(fx:il x=true):SeqAt.EqAt A s u v (Mg y x):=by
 cases y with
 |bK=>
  cases ry;cases x with
  |bK=>cases rx;exact SeqAt.EqAt.same _
  |bl b=>cases rx;exact SeqAt.EqAt.none_bool b
  |int b=>obtain⟨t,rfl⟩:=rx;exact SeqAt.EqAt.none_int b t
  |str b=>obtain⟨t,rfl⟩:=rx;exact SeqAt.EqAt.none_str b t
  |_=>exact absurd (show false=true from fx) o6
 |bl a=>
  cases ry;cases x with
  |bK=>cases rx;exact SeqAt.EqAt.bool_none a
  |bl b=>cases rx;exact SeqAt.EqAt.bool_bool a b
  |int b=>obtain⟨t,rfl⟩:=rx;exact SeqAt.EqAt.bool_int a b t
  |str b=>obtain⟨t,rfl⟩:=rx;exact SeqAt.EqAt.bool_str a b t
  |_=>exact absurd (show false=true from fx) o6
 |int a=>
  obtain⟨t',rfl⟩:=ry;cases x with
  |bK=>cases rx;exact SeqAt.EqAt.int_none a t'
  |bl b=>cases rx;exact SeqAt.EqAt.int_bool a t' b
  |int b=>obtain⟨t,rfl⟩:=rx;exact SeqAt.EqAt.int_int a t' b t
  |str b=>obtain⟨t,rfl⟩:=rx;exact SeqAt.EqAt.int_str a t' b t
  |_=>exact absurd (show false=true from fx) o6
 |str a=>
  obtain⟨t',rfl⟩:=ry;cases x with
  |bK=>cases rx;exact SeqAt.EqAt.str_none a t'
  |bl b=>cases rx;exact SeqAt.EqAt.str_bool a t' b
  |int b=>obtain⟨t,rfl⟩:=rx;exact SeqAt.EqAt.str_int a t' b t
  |str b=>obtain⟨t,rfl⟩:=rx;exact SeqAt.EqAt.str_str a t' b t
  |_=>exact absurd (show false=true from fx) o6
 |_=>exact absurd (show false=true from fy) o6
def K1(x:V)(u:jp):Bool:=match u with
 | .none=>Mg .bK x
 | .bool b=>Mg (.bl b) x
 | .int i _=>Mg (.int i) x
 | .str z _=>Mg (.str z) x
 |_=>false
theorem GP{x y:V}(r:bn y u)(f:il y=true):K1 x u=Mg y x:=by
 cases y with
 |bK=>cases r;rfl
 |bl b=>cases r;rfl
 |int i=>obtain⟨t,rfl⟩:=r;rfl
 |str z=>obtain⟨t,rfl⟩:=r;rfl
 |_=>exact absurd (show false=true from f) o6
theorem ui{x:V}:∀{xs:List V} {us:List jp},ce xs us->xs.all il=true->us.any (K1 x)=xs.any λ y=>Mg y x
 |_,_,.nil,_=>rfl
 |y::xs,u::us,.cons r t,f=>by rw[all_cons,x6]at f;rw[any_cons,any_cons,GP r f.1,ui t f.2]
theorem pv{x:V}{v:jp}(rx:bn x v)(fx:il x=true):∀{xs:List V} {us:List jp},ce xs us->xs.all il=true->∀u∈us,SeqAt.EqAt A s u v (K1 x u)
 |_,_,.nil,_=>λ u hu=>by cases hu
 |y::xs,u::us,.cons r t,f=>λ u' hu=>by
  rw[all_cons,x6]at f;rcases C4.mp hu with rfl|hu
  ·rw[GP r f.1];exact Qc r rx f.1 fx
  ·exact pv rx fx t f.2 u' hu
def SJ(x:V)(xs:List V):Bool:=xs.any λ y=>Mg y x
def Zm(K:J5)(neg:Bool):R2:=λ x y H Q=>∃p xs,y=.ref p/\(gB K H p xs\/iD K H p xs)/\il x=true/\xs.all il=true/\Q (.bl (if neg then !SJ x xs else SJ x xs)) H
theorem Ce:gh X (compareOp .In) (Zm X.K false):=by
 intro xz s σ H x y v u Q I rx ry h;obtain⟨p,xs,rfl,hq,fx,fs,q⟩:=h;cases ry;rcases hq with hq|hq
 ·obtain⟨aB,r,pl,hz⟩:=I.list hq;refine SeqAt.in_listAt (K1 x) pl.isList (λ w hw=>pv rx fx r fs w (by simpa using hw)) ⟨.bl _,H,I,rfl,?_⟩;rw[show aB.toArray.any (K1 x)=aB.any (K1 x) by simp,ui r fs];exact q
 ·obtain⟨aB,r,pl,hz⟩:=I.tuple hq;refine SeqAt.in_tupleAt (K1 x) pl (λ w hw=>pv rx fx r fs w (by simpa using hw)) ⟨.bl _,H,I,rfl,?_⟩;rw[show aB.toArray.any (K1 x)=aB.any (K1 x) by simp,ui r fs];exact q
theorem tw:gh X (compareOp .NotIn) (λ x y H Q=>∃i j,x=.str i/\y=.str j/\Q (.bl (!(!(Builtin.Str.occurrences j i 0 j.length 1).isEmpty))) H):=by intro xz s σ H x y v u Q I rx ry h;obtain⟨i,j,rfl,rfl,q⟩:=h;obtain⟨t,rfl⟩:=rx;obtain⟨t',rfl⟩:=ry;exact notIn_str ⟨.bl _,H,I,rfl,q⟩
theorem uc:dw X (.builtin "len") (λ xs H Q=>∃p ys,xs=[.ref p]/\(gB X.K H p ys\/iD X.K H p ys)/\Q (.int ys.length) H):=by
 intro xz s σ H xs us Q I r h;obtain⟨p,ys,rfl,hq,q⟩:=h;obtain⟨u,rfl,rx⟩:=vals1 r;cases rx;have hn:=md;rcases hq with hq|hq
 ·obtain⟨aB,r',pl,hz⟩:=I.list hq;have hlen:=r'.length;exact Calls.call_len_list pl.isList (by simp only[u9] <;> lia) ⟨.int ys.length,H,I.tok _,⟨s.toks+1,by rw[u9,hlen]⟩,q⟩
 ·obtain⟨aB,r',pl,hz⟩:=I.tuple hq;have hlen:=r'.length;exact len_tuple pl (by simp only[u9] <;> lia) ⟨.int ys.length,H,I.tok _,⟨s.toks+1,by rw[u9,hlen]⟩,q⟩
theorem t_:dw X (.builtin "len") (λ xs H Q=>∃z,xs=[.str z]/\z.length<=sizeLine/\Q (.int z.length) H):=by intro xz s σ H xs us Q I r h;obtain⟨z,rfl,hz,q⟩:=h;obtain⟨u,rfl,t,rfl⟩:=vals1 r;have hn:=md;exact len_str (by lia) ⟨.int z.length,H,I.tok _,⟨_,rfl⟩,q⟩
theorem dw.or{f:jp}{r r':List V->Hp->VK->Prop}(h:dw X f r)(h':dw X f r'):dw X f (λ xs H Q=>r xs H Q\/r' xs H Q):=by
 intro xz s σ H xs us Q I rs q;rcases q with q|q
 ·exact h xz s σ H xs us Q I rs q
 ·exact h' xz s σ H xs us Q I rs q
theorem tZ:dw X (.type "list") (λ xs H Q=>∃p ys,xs=[.ref p]/\(gB X.K H p ys\/iD X.K H p ys)/\∀l,H l=none->Q (.ref l) (ci H l (.lst ys))):=by
 intro xz s σ H xs us Q I r h;obtain⟨p,ys,rfl,hq,q⟩:=h;obtain⟨u,rfl,rx⟩:=vals1 r;cases rx;have fin:∀(aB:List jp),ce ys aB->ys.length<=sizeLine->∀(h':Heap) (c':Nat),(∀b o',s.heap.get? b=some o'->h'.get? b=some o')->
   h'.get? s.heap.objs.size=some {cls:=.type "list",dict:=none,data:=.seq aB.toArray c',slots:=#[]}->EP X xz σ Q (.ref s.heap.objs.size) {s with heap:=h'}:=λ aB r' hz h' c' kp e=>
  ⟨.ref s.heap.objs.size,_,I.laid (t':=s.toks) kp (D9 _) (show bO X.prog X.w _ h' _ (.lst ys)from⟨hz,aB,c',r',e⟩),rfl,q _ (I.bt.fresh (D9 _))⟩
 rcases hq with hq|hq
 ·obtain⟨aB,r',pl,hz⟩:=I.list hq;have hlen:=r'.length;obtain⟨o,ho,hc,n,hd⟩:=pl.isList;exact call_list_seq p (.inl rfl) ho hc hd (λ h' c' kp e=>fin aB r' hz h' c' kp e) (by simp only[u9] <;> lia)
 ·obtain⟨aB,r',pl,hz⟩:=I.tuple hq;have hlen:=r'.length;obtain⟨o,ho,hc,n,hd⟩:=pl;exact call_list_seq p (.inr rfl) ho hc hd (λ h' c' kp e=>fin aB r' hz h' c' kp e) (by simp only[u9] <;> lia)
theorem qJ:dw X (.type "tuple") (λ xs H Q=>∃p ys,xs=[.ref p]/\((gB X.K H p ys/\∀l,H l=none->Q (.ref l) (ci H l (.tup ys)))\/(iD X.K H p ys/\Q (.ref p) H))):=by
 intro xz s σ H xs us Q I r h;obtain⟨p,ys,rfl,h⟩:=h;obtain⟨u,rfl,rx⟩:=vals1 r;cases rx;rcases h with⟨hq,q⟩|⟨hq,q⟩
 ·obtain⟨aB,r',pl,hz⟩:=I.list hq;have hlen:=r'.length;refine call_tuple_list pl.isList (λ h' kp=>?_) (by simp only[u9] <;> lia);have I1:bd X xz σ H {s with heap:=h'}:=I.kept (t':=s.toks) kp;have I2:bd X xz σ (ci H h'.objs.size (.tup ys)) {s with heap:=h'.push {cls:=.type "tuple",data:=.seq aB.toArray}}:=
   I1.laid (t':=s.toks) (λ b o e=>j0 _ e) (D9 _) (show bO X.prog X.w _ _ _ (.tup ys)from⟨hz,aB,r',IsTup.new _ _⟩)
  exact⟨.ref h'.objs.size,_,I2,rfl,q _ (I1.bt.fresh (D9 _))⟩
 ·obtain⟨aB,r',pl,hz⟩:=I.tuple hq;exact call_tuple_same pl ⟨.ref p,H,I,rfl,q⟩
def Uh(K:J5)(T:String)(x:V)(H:Hp):Prop:=match x with
 | .str _=>T="str"
 | .int _=>T="int"
 | .ref p=>(T="list"/\∃xs,gB K H p xs)\/(T="tuple"/\∃o,K.lookup p=some o/\o.cls=.type "tuple"/\o.dict=none)\/
   (T="dict"/\((∃kvs,H p=some (.dK kvs))\/∃kvs,H p=some (.dT kvs)))\/(T="set"/\∃S n,H p=some (.set S n))
 |_=>False
theorem DJ{x:V}{v:jp}(I:bd X xz σ H s)(r:bn x v)(ty:Uh X.K T x H):s.TypeIs v T/\∀a,v=.ref a->∃ob,s.heap.get? a=some ob/\ob.dict=none:=by
 cases x with
 |str z=>obtain⟨t,rfl⟩:=r;cases(show T="str" from ty);exact⟨typeIs_str s z t,λ _ e=>nomatch e⟩
 |int i=>obtain⟨t,rfl⟩:=r;cases(show T="int" from ty);exact⟨typeIs_int s i t,λ _ e=>nomatch e⟩
 |ref p=>
  cases r;rcases ty with⟨rfl,xs,hq⟩|⟨rfl,o,hk,hc,hd⟩|⟨rfl,hk⟩|⟨rfl,S,n,hk⟩
  ·obtain⟨aB,_,pl,_⟩:=I.list hq;refine⟨pl.isList.typeIs,λ a e=>?_⟩;cases e;obtain⟨o,n,e,c,hd,_⟩:=pl;exact⟨o,e,hd⟩
  ·refine⟨⟨o,I.LX p o hk,hc⟩,λ a e=>?_⟩;cases e;exact⟨o,I.LX _ o hk,hd⟩
  ·have z:∃o,s.heap.get? p=some o/\o.ExactDict:=by
    rcases hk with⟨kvs,hk⟩|⟨kvs,hk⟩
    ·obtain⟨_,_,_,_,o,_,_,e,ex,_⟩:=I.bt p _ hk;exact⟨o,e,ex⟩
    ·obtain⟨_,_,_,_,o,_,_,e,ex,_⟩:=I.bt p _ hk;exact⟨o,e,ex⟩
   obtain⟨o,e,ex⟩:=z;refine⟨⟨o,e,ex.1⟩,λ a e2=>?_⟩;cases e2;exact⟨o,e,ex.2.1⟩
  ·obtain⟨o,_,_,_,e,ex,_⟩:=I.bt p _ hk;refine⟨⟨o,e,ex.1⟩,λ a e2=>?_⟩;cases e2;exact⟨o,e,ex.2.1⟩
 |_=>exact False.elim ty
def VE(K:J5)(T:String)(r:V->List V->Hp->VK->Prop)(to:TE):TE:=λ σ H Q=>to σ H λ x H1=>Uh K T x H1/\r x [] H1 Q
def Ze(K:J5)(T:String)(r:V->List V->Hp->VK->Prop)(to:TE)(t:TA):TE:=λ σ H Q=>to σ H λ x H1=>Uh K T x H1/\t σ H1 λ xs H2=>r x xs H2 Q
variable {o:Expr}{to:TE}{t:TA}{id:String}{r:V->List V->Hp->VK->Prop}
theorem Ov(pa:PlainAttrs T)(slot:Slot T name id)(hty:typeOf (.builtin id)=pure (.type "method_descriptor"))(hm:T6 X id r)(ho:PE X o to) (hbase:attributeBase o name X.env (eval o X.env)=eval o X.env:=by rfl) (hline:(apos.endLine==bS.line)=true:=by rfl):PE X (.Call (.Attribute o name apos) [] [] bS) (VE X.K T r to):=by intro xz s σ H Q I h;refine wpAny_Call_method0_late hbase hline (dA (ho xz s σ H _ I h) λ v s1 ⟨x,H1,I1,r1,ty,q1⟩=>?_);obtain⟨h1,h2⟩:=DJ I1 r1 ty;exact⟨T,id,pa,slot,hty,h1,h2,Calls.callWith_builtin rfl (PySem.evalArgs_none (hm xz s1 σ H1 x [] v [] Q I1 r1 .nil q1))⟩
theorem Sd(pa:PlainAttrs T)(slot:Slot T name id)(hty:typeOf (.builtin id)=pure (.type "method_descriptor"))(hm:T6 X id r)(ho:PE X o to)(ha:PA X (e::es) t) (hbase:attributeBase o name X.env (eval o X.env)=eval o X.env:=by rfl) (hfew:((backTo bS (starEach (e::es) X.env)).all (λ x=>!x.1)&&(backToKw bS (keywordEach [] X.env)).all (λ x=>x.1.isSome)
   &&decide ((e::es).length+([]:List Keyword).length+(if([]:List Keyword).isEmpty then 0 else 1) < 30))=true:=by rfl)
  (hline:(apos.endLine==bS.line)=true:=by rfl) (hs:starEach (e::es) X.env=(false,eval e X.env)::starEach es X.env:=by rfl) (hplain:(backTo bS (starEach es X.env)).any (·.1)=false:=by rfl):
  PE X (.Call (.Attribute o name apos) (e::es) [] bS) (Ze X.K T r to t):=by
 intro xz s σ H Q I h;refine wpAny_Call_method_late hbase hfew hline rfl (dA (ho xz s σ H _ I h) λ v s1 ⟨x,H1,I1,r1,ty,q1⟩=>?_);obtain⟨h1,h2⟩:=DJ I1 r1 ty;refine⟨T,id,pa,slot,hty,h1,h2,?_⟩;have hA:=ha bS xz s1 σ H1 _ I1 q1;rw[hs]at hA ⊢;refine Calls.callWith_builtin (by show(false||(backTo bS (starEach es X.env)).any (·.1))=false;rw[hplain] <;> rfl) (Calls.evalArgs_plain ?_);exact dA hA λ us s2 ⟨vs,H2,I2,r2,q2⟩=>hm xz s2 σ H2 x vs v us Q I2 r1 r2 q2
end
def Mo(X:Cx)(id:String)(r:V->List V->Hp->VK->Prop):Prop:=
 ∀(xz:List (ww×Obj)) (s:kt) (σ:St) (H:Hp) (x:V) (xs:List V) (v:jp) (us:List jp) (Q:VK),bd X xz σ H s->bn x v->ce xs us->r x xs H Q->
  wpAny (model X.prog X.w) X.A (call (.builtin id) (v::us)) (EP X xz σ Q) X.xe s
theorem ce.one:∀{x:V} {us:List jp},ce [x] us->∃u,us=[u]/\bn x u
 |_,_,.cons r .nil=>⟨_,rfl,r⟩
theorem ce.zero:∀{us:List jp},ce [] us->us=[]
 |_,.nil=>rfl
theorem ce.dropLast(h:ce xs us):ce xs.dropLast us.dropLast:=by
 induction h with
 |nil=>exact .nil
 |cons r t ih=>
  cases t with
  |nil=>exact .nil
  |cons q t'=>exact .cons r ih
theorem ce.eraseIdx:∀{xs:List V} {us:List jp} (i:Nat),ce xs us->ce (xs.eraseIdx i) (us.eraseIdx i)
 |_,_,_,.nil=>.nil
 |_,_,0,.cons _ t=>t
 |_,_,i+1,.cons r t=>.cons r (ce.eraseIdx i t)
theorem ce.rep(h:ce xs us):∀k:Nat,ce (List.replicate k xs).flatten (List.replicate k us).flatten
 |0=>.nil
 |k+1=>by rw[l8,l8,s9,s9];exact ce.append h (ce.rep h k)
theorem yx(l:List α):l.eraseIdx (l.length - 1)=l.dropLast:=by
 induction l with
 |nil=>rfl
 |cons a r ih=>
  cases r with
  |nil=>rfl
  |cons b r=>
   have e:(a::b::r).length - 1=((b::r).length - 1)+1:=by have h1:(a::b::r).length=r.length+2:=rfl;have h2:(b::r).length=r.length+1:=rfl;lia
   rw[e,eraseIdx_cons_succ,ih]
   all_goals rfl
theorem rD:∀(l:List α) (i:Nat),(l.eraseIdx i).length<=l.length
 |[],_=>D9 _
 |_::_,0=>Nat.le_succ _
 |_::r,i+1=>Nat.succ_le_succ (rD r i)
theorem foldl_rep(aB:List jp):∀(k:Nat) (zn:List jp),
  List.foldl (λ x1 x2=>x1++x2) zn.toArray (List.replicate k aB.toArray)=(zn++(List.replicate k aB).flatten).toArray
 |0,zn=>by simp
 |k+1,zn=>by
  have e:zn.toArray++aB.toArray=(zn++aB).toArray:=by simp
  have e2:(zn++aB)++(List.replicate k aB).flatten=zn++(List.replicate (k+1) aB).flatten:=by rw[l8,s9,append_assoc]
  rw[<- e2,<- foldl_rep aB k (zn++aB),<- e,l8,foldl_cons]
section
variable {l:ww}{ys zs:List V}
theorem bd.O7{aB its':List jp}{f:Array jp->Array jp}(I:bd X xz σ H s)(hH:H l=some (.lst xs)) (e:s.heap.get? l=some {cls:=.type "list",data:=.seq aB.toArray n}) (hf:f aB.toArray=its'.toArray) (hv:ce ys its') (hz:ys.length<=sizeLine):bd X xz σ (ci H l (.lst ys)) {s with heap:=s.heap.update l (Obj.mapSeq f),toks:=t'}:=by have q:=PySem.IsL.update e f;rw[hf]at q;refine I.write (x:=l) (e:=l) (by rw[hH];exact trivial) (.inl rfl) (λ b' u hb hu=>(j4 s.heap (Obj.mapSeq f) (J0 hb)).trans hu) ⟨_,q⟩ ?_;exact⟨hz,its',_,hv,q⟩
theorem bd.SE{aB:List jp}(I:bd X xz σ H s)(hv:ce ys aB)(hz:ys.length<=sizeLine):bd X xz σ (ci H s.heap.objs.size (.lst ys)) {s with heap:=s.heap.push {cls:=.type "list",data:=.seq aB.toArray},toks:=t'}:=
 I.laid (λ _ _ q=>j0 _ q) (D9 _) ⟨hz,aB,0,hv,m8 _ rfl⟩
theorem bd.fresh(I:bd X xz σ H s):H s.heap.objs.size=none:=I.bt.fresh (D9 _)
theorem bd.Cn(I:bd X xz σ H s)(hH:H l=some (.lst xs)):xs.length<=sizeLine/\∃(aB:List jp) (n:Nat),ce xs aB/\xs.length=aB.length/\s.heap.get? l=some {cls:=.type "list",data:=.seq aB.toArray n}:=by obtain⟨z,aB,n,r,e⟩:=I.bt l _ hH;exact⟨z,aB,n,r,r.length,e⟩
theorem FC(h:n<=sizeLine):Builtin.List.listTooLong n=false:=by unfold Builtin.List.listTooLong;exact y9 (by lia)
end
def zN:V->List V->Hp->VK->Prop:=λ x vs H Q=>∃l xs y,x=.ref l/\vs=[y]/\H l=some (.lst xs)/\xs.length < sizeLine/\Q .bK (ci H l (.lst (xs++[y])))
theorem Cm:Mo X "list.append" zN:=by intro xz s σ H x vs v us Q I rx rv h;obtain⟨l,xs,y,rfl,rfl,hH,hz,q⟩:=h;cases rx;obtain⟨u,rfl,ru⟩:=rv.one;obtain⟨z,aB,n,r,hl,e⟩:=I.Cn hH;refine G7 F.slot_list_append ⟨_,e,rfl⟩ F.entry_list_append (F.args_list_append_2 _ _) (PySem.list_append l aB.toArray n u (by rw[u9];lia)) ⟨e,?_⟩;refine⟨.bK,_,I.O7 (its':=aB++[u]) hH e (by simp) (r.append (.cons ru .nil)) ?_,rfl,q⟩;rw[o7,j8];lia
def VR:V->List V->Hp->VK->Prop:=λ x vs H Q=>∃l xs y,x=.ref l/\vs=[]/\H l=some (.lst xs)/\xs[xs.length - 1]?=some y/\Q y (ci H l (.lst xs.dropLast))
theorem O2:Mo X "list.pop" VR:=by
 intro xz s σ H x vs v us Q I rx rv h;obtain⟨l,xs,y,rfl,rfl,hH,hy,q⟩:=h;cases rx;have Z0:=rv.zero;subst Z0;obtain⟨z,aB,n,r,hl,e⟩:=I.Cn hH;obtain⟨u,hu,ru⟩:=r.get hy;have ym:aB.toArray[aB.toArray.size - 1]?=some u:=by show aB.toArray[aB.length - 1]?=some u;rw[<- j9,<- hl];exact hu
 refine G7 F.slot_list_pop ⟨_,e,rfl⟩ F.entry_list_pop (F.args_list_pop_1 _) (MeetsSeq.list_pop_last l aB.toArray n u ym (by rw[u9];lia)) ⟨e,?_⟩;refine⟨y,_,I.O7 (its':=aB.dropLast) hH e ?_ r.dropLast ?_,ru,q⟩
 ·show aB.toArray.eraseIdxIfInBounds (aB.toArray.size - 1)=aB.dropLast.toArray;rw[u9,eraseIdxIfInBounds_toArray,yx]
 ·rw[length_dropLast];lia
def NC:V->List V->Hp->VK->Prop:=λ x vs H Q=>∃l xs i k y,x=.ref l/\vs=[.int i]/\H l=some (.lst xs)/\-(2^63)<=i/\i < 2^63/\seqIndex? i xs.length=some k/\xs[k]?=some y/\Q y (ci H l (.lst (xs.eraseIdx k)))
theorem FI:Mo X "list.pop" NC:=by
 intro xz s σ H x vs v us Q I rx rv h;obtain⟨l,xs,i,k,y,rfl,rfl,hH,h1,h2,hk,hy,q⟩:=h;cases rx;obtain⟨u,rfl,ru⟩:=rv.one;obtain⟨t,rfl⟩:=ru;obtain⟨z,aB,n,r,hl,e⟩:=I.Cn hH;obtain⟨w,hw,jQ⟩:=r.get hy;refine G7 F.slot_list_pop ⟨_,e,rfl⟩ F.entry_list_pop (F.args_list_pop_2 _ _)
  (MeetsSeq.list_pop_at l aB.toArray n i t k w (fitsIndex_both h1 h2) (by rw[u9,<- hl];exact hk) (by rw[<- j9];exact hw) (by rw[u9];lia)) ⟨e,?_⟩
 refine⟨y,_,I.O7 (its':=aB.eraseIdx k) hH e ?_ (r.eraseIdx k) ?_,jQ,q⟩
 ·show aB.toArray.eraseIdxIfInBounds k=(aB.eraseIdx k).toArray;rw[eraseIdxIfInBounds_toArray]
 ·have:=rD xs k;lia
def VT:R2:=λ x y H Q=>∃l b xs zs,x=.ref l/\y=.ref b/\H l=some (.lst xs)/\H b=some (.lst zs)/\xs.length+zs.length<=sizeLine/\∀p,H p=none->Q (.ref p) (ci H p (.lst (xs++zs)))
theorem OJ:gh X (binaryOp .Add) VT:=by
 intro xz s σ H x y v u Q I rx ry h;obtain⟨l,b,xs,zs,rfl,rfl,hH,hB,hz,q⟩:=h;cases rx;cases ry;obtain⟨z,aB,n,r,hl,e⟩:=I.Cn hH;obtain⟨z2,Pp,n2,r2,Yl,e2⟩:=I.Cn hB;refine PySem.P.add_list e e2 ?_ (by rw[u9,u9];lia);have ea:aB.toArray++Pp.toArray=(aB++Pp).toArray:=by simp
 rw[ea];exact⟨.ref _,_,I.SE (t':=s.toks) (r.append r2) (by rw[o7];lia),rfl,q _ I.fresh⟩
def VQ:R2:=λ x y H Q=>∃l k xs,x=.ref l/\y=.int k/\H l=some (.lst xs)/\-(2^63)<=k/\k < 2^63/\xs.length*k.toNat<=sizeLine/\
 ∀p,H p=none->Q (.ref p) (ci H p (.lst (List.replicate k.toNat xs).flatten))
theorem len_rep(xs:List α)(k:Nat):(List.replicate k xs).flatten.length=k*xs.length:=by
 induction k with
 |zero=>simp
 |succ k ih=>rw[l8,s9,o7,ih,Nat.succ_mul,Nat.add_comm]
theorem OB:gh X (binaryOp .Mult) VQ:=by
 intro xz s σ H x y v u Q I rx ry h;obtain⟨l,k,xs,rfl,rfl,hH,h1,h2,hz,q⟩:=h;cases rx;obtain⟨t,rfl⟩:=ry;obtain⟨z,aB,n,r,hl,e⟩:=I.Cn hH;have hlen:aB.toArray.size*k.toNat<=sizeLine:=by rw[u9,<- hl];exact hz
 have W5:¬aB.toArray.size*k.toNat > (2^63 - 1) / 8:=by
  have:(sizeLine:Nat)<=(2^63 - 1) / 8:=by decide
  lia
 have S9:¬(!Builtin.List.listFitsIndex k)=true:=by rw[fitsIndex_both h1 h2];exact o6
 have S5:¬Builtin.List.listTooLong (aB.toArray.size*k.toNat)=true:=by rw[FC hlen];exact o6
 have Gw:List.foldl (λ x1 x2=>x1++x2) #[] (List.replicate (if aB.toArray.isEmpty=true then 0 else k.toNat) aB.toArray)=(List.replicate k.toNat aB).flatten.toArray:=by
  have f0:∀m:Nat,List.foldl (λ x1 x2=>x1++x2) #[] (List.replicate m aB.toArray)=(List.replicate m aB).flatten.toArray:=λ m=>by have:=foldl_rep aB m [];rw[nil_append]at this;exact this
  rw[f0];cases aB with
  |nil=>simp
  |cons a r'=>rw[J4 (by simp)]
 refine wpAny_binaryOp_repeat_ref (T:="list") (U:="int") (by decide) ⟨_,e,rfl⟩ (λ s'=>typeIs_int s' k t) noFill_list_mul F.fills_int_mul F.slot_int_rmul repeat_list F.slot_int_index.lookup
  (G7 F.slot_int_rmul (typeIs_int s k t) F.entry_int_rmul (F.args_int_rmul_2 _ _) (int___rmul___int_list k t l aB.toArray n)
   ⟨e,rfl,⟨_,e,rfl⟩,G7 F.slot_list_mul ⟨_,e,rfl⟩ F.entry_list_mul (F.args_list_mul_2 _ _) (AutoListH.list___mul___list_int_3 l aB.toArray n k t S9 W5 S5) ⟨e,?_⟩⟩)
 rw[Gw];exact⟨.ref _,_,I.SE (t':=s.toks) (r.rep k.toNat) (by rw[len_rep,Nat.mul_comm];exact hz),rfl,q _ I.fresh⟩
end L2
namespace Y1
open PySem.W PySem.Calls PyProof.Rows
theorem ni{P:Params}{h:Heap}:∀(ns:List Int) (vs:List jp),WellAll P h vs (ns.map WData.int)->IntsAre vs ns:=by
 intro ns
 induction ns with
 |nil=>intro vs w;rw[D4]at w;cases w;exact .nil
 |cons n ns ih=>
  intro vs w;rw[C3]at w;cases w with
  |cons a b=>cases a;exact .cons _ _ (ih _ b)
theorem BL{l:OpenLaw}(hn:l.most=some n){P:Params}{h:Heap}{args:List WData}{vals:List jp} (KI:l.row.toRowW.claim.pre args=true) (Wm:WellAll P h vals args):∃a vs ns,vals=[Value.ref a]/\args=[WData.list (ns.map WData.int)]/\h.get? a=some {cls:=.type "list",data:=.seq vs.toArray}/\IntsAre vs ns/\ns.length<=n:=by
 have Z3:WShape.hasAll [] args [.list .int]=true:=(pre_splitW KI).1;have hc:l.pre.holds [] {args:=args}=true:=(pre_splitW KI).2;obtain⟨d,r,rfl,h1,h2⟩:=hasAllW_cons Z3;obtain rfl:=hasAllW_nil h2;obtain⟨xs,rfl,h3⟩:=hasW_list h1;obtain⟨ns,rfl⟩:=items_int h3;have hlen:ns.length<=n:=by
  unfold OpenLaw.pre at hc;have h4:(WTm.not (.lt (.lit (.int (n:Int))) (.len (.arg 0)))).holds [] {args:=[.list (ns.map .int)]}=true:=by have h4:=(holds_andW hc).1;rw[hn]at h4;exact h4
  have h5:=condW_of h4 (w_not (w_lt w_lit (w_len_list (w_arg rfl))));rw[A5]at h5;refine w9 λ q=>?_;have q':(n:Int) < ((ns.length:Nat):Int):=by lia
  first
   |(rw[B3 q']at h5;exact absurd h5 (by decide))
   |(simp at h5;lia)
 cases Wm with
 |cons w1 w2=>
  cases w2;cases w1 with
  |list ho W7=>exact⟨_,_,ns,rfl,rfl,ho,ni ns _ W7,hlen⟩
theorem BZ(l:OpenLaw)(args:List WData):l.row.toRowW.claim.post args (.bool true) args=true:=
 postW_of (r:=l.row.toRowW) (X:=(true==true))
  (show WShape.has [] (.bool true) .bool=true by first|rfl|decide|simp[WShape.has,WShape.arms,WShape.armsAll])
  (show(WTm.eq .res (.lit (.bool true))).value [] {args:=args,res:=some (.bool true),after:=args}=some (.bool (true==true))from w_eq_bool (w_res rfl) w_lit) rfl
theorem wO{l:OpenLaw}{n:Nat}{q:Program}{loose:List Str}{XP:(Str->Option jp)->Heap->Prop}{YP:World->Heap->Prop}{d:DefRec} (hn:l.most=some n) (S_:d.params.defaults=[]) (call:∀(w:World) (s₀ s₁:kt) (mg mb:Str->Option jp) (fa:ww) (o:Obj) (pm cd doc:jp) (a:ww) (vs:List jp) (ns:List Int),
   Ground q loose [] XP w s₀ mg mb s₁.heap->YP w s₁.heap->
   s₁.heap.get? fa=some o->o.data=.func (docDef d.name d.params d.body d.scope pm cd doc)->s₁.heap.CodeRec cd d.name->mg d.name=some (.ref fa)->
   s₁.heap.get? a=some {cls:=.type "list",data:=.seq vs.toArray}->IntsAre vs ns->ns.length<=n->s₁.gens=#[]->
   codeAny (model l.prog w) callerA (.call (.ref fa) ⟨[.ref a],[]⟩) (λ r s'=>r=.ok (.ret (.bool true))/\OldK s₁.heap s'.heap/\s'.os=s₁.os/\AllBare s'.gens) s₁):
  WalkO q loose XP YP l.row.toRowW d [] (λ f vs=>PySem.call f vs):=by
 intro w s₀ s₁ mg mb G Y fa o pm cd doc dV kV ho hd hcd hD S3 hg args vals as KI aal hrd Wm Yk;obtain rfl:dV=.none:=Dflts.none hD S_;obtain rfl:kV=.none:=Dflts.noKw hD;obtain⟨a,vs,ns,rfl,rfl,Gv,hints,hlen⟩:=BL hn KI Wm;refine enter_call (D6 (call w s₀ s₁ mg mb fa o pm cd doc a vs ns G Y ho (fd_plain hd) hcd S3 Gv hints hlen hg) λ r s' hq=>?_);obtain⟨rfl,h2,h3,h4⟩:=hq;exact⟨.inl ⟨.bool true,.bool true,[],rfl,λ _=>rfl,.bool true,BZ l _,λ _=>⟨List.Pairwise.nil,λ _ hm=>(nomatch hm)⟩⟩,h2,h3,h4⟩
end Y1
namespace L2
open PySem.Spec PyProof.Rows
theorem qV:∀{vs:List jp} {ns:List Int},IntsAre vs ns->ce (ns.map V.int) vs
 |_,_,.nil=>.nil
 |_,_,.cons n t h=>.cons ⟨t,rfl⟩ (qV h)
def cE(s:Stmt):Arguments:=match s with
 | .FunctionDef _ a _ _ _ _ _ _ _ _=>a
 |_=>{posonlyargs:=[],args:=[],vararg:=none,kwonlyargs:=[],kw_defaults:=[],kwarg:=none,defaults:=[]}
def bG(s:Stmt):List Stmt:=match s with
 | .FunctionDef _ _ b _ _ _ _ _ _ _=>b
 |_=>[]
def aq(s:Stmt):Scope:=match s with
 | .FunctionDef _ _ _ _ _ _ sc _ _ _=>sc
 |_=>{kind:=.function,names:=[],isGenerator:=false,isCoroutine:=false}
abbrev eX:HJ:=λ _ _ _ _ _ _=>False
abbrev E0:XK:=λ _ _ _=>False
theorem LN:Passes eX X E0:=λ _ _ _ _ _ _ _ h=>h.elim
structure h_(K:J5)(x qual:Str)(st:Stmt)(f:ww)(fd:FuncData):Prop where
 ex:∃(oc:jp) (od:Option ww) (kV doc pm:jp) (an:Option ww) (dE ct:jp) (xW:Array (Option jp)),
  fd=PySem.W.fnOf x qual (cE st) (bG st) (aq st) .none kV doc pm an dE ct/\K.lookup f=some ⟨oc,od,.func fd,xW⟩/\PySem.W.codeIn K dE qual=true
 kp:PySem.W.keepIn K (.ref f)=true
theorem h_.ok {x qual:Str}{st:Stmt}{f:ww}{fd:FuncData}{N ps:List Str}{k:Nat}{sp:Sp}(F:h_ K x qual st f fd)(S:aJ N ps (aq st))(len:∀vs H Q E,sp vs H Q E->vs.length=ps.length) (eW:∀(dE:jp) (A:Around) (outer:List Env) (s:kt) (H:Hp) (vs:List V) (Q:VK) (E:XK),cX k (A.deeper (envOfC qual (aq st) s.heap.objs.size f dE))->sp vs H Q E->
   ∃t,wU (qH eX P w K mg base N qual (aq st) f dE A outer s H E).Ki (bG st) t/\t {nx:=λ _ H'=>Q .bK H',rt:=Q} (start N vs) H):bT P w K mg base eX (k+1) f fd ps sp:=by
 obtain⟨oc,od,kV,doc,pm,an,dE,ct,xW,rfl,lk,hcd⟩:=F.ex;refine Md lk hcd S len λ A outer s H vs Q E hr CD=>?_;obtain⟨t,h,q⟩:=eW dE A outer s H vs Q E hr CD;exact⟨t,h.Ki,q⟩
theorem h_.binds(F:h_ K x qual st f fd) (h:∀(kV doc pm:jp) (an:Option ww) (dE ct:jp) (us:List jp),us.length=ps.length->bindArgs (PySem.W.fnOf x qual (cE st) (bG st) (aq st) .none kV doc pm an dE ct) ⟨us,[]⟩=pure (ps.zip us)):Binds K fd ps []:=by obtain⟨oc,od,kV,doc,pm,an,dE,ct,xW,rfl,lk,hcd⟩:=F.ex;exact .all (h kV doc pm an dE ct)
theorem P_{oc:jp}{od an:Option ww}{kV doc pm dE ct:jp}(l:K.lookup f=some ⟨oc,od,.func (PySem.W.fnOf x qual (cE st) (bG st) (aq st) .none kV doc pm an dE ct),xW⟩) (c:PySem.W.codeIn K dE qual=true) (k:PySem.W.keepIn K (.ref f)=true):h_ K x qual st f (PySem.W.fnOf x qual (cE st) (bG st) (aq st) .none kV doc pm an dE ct):=⟨⟨oc,od,kV,doc,pm,an,dE,ct,xW,rfl,l,c⟩,k⟩
open PySem.Spec PyProof.Rows
theorem bd.oG{D:ww}{o:HO}(I:bd X xz σ H s)(hn:H D=none)(new:bO X.prog X.w (ci H D o) s.heap D o) (hL:D≠X.env.locals) (hs:X.s₀.heap.objs.size<=D) (hc:∀x c,X.env.cells.lookup x=some c->c≠D) (hp:∀p∈X.pn++xz,p.1≠D):bd X xz σ (ci H D o) s:=by
 have ne:∀{b:ww} {u:HO},H b=some u->b≠D:=λ e=>bQ e hn;have nb:∀(b:ww) (ob:Obj),X.s₀.heap.get? b=some ob->b≠D:=λ b ob e=>C6 (p7 (C7 e) hs);refine⟨I.ok,I.os,I.bare,⟨I.base.keep,I.base.slot,λ b ob e n hx=>?_,I.base.there,λ b xs e=>?_,λ b ob u e=>?_,λ b ps e=>?_⟩,I.loc,I.cell,?_,λ x c e=>?_,λ p SW=>?_,λ b u e=>?_,I.len⟩
 ·rw[aU (nb b ob e)];exact I.base.free b ob e n hx
 ·have q:=I.base.oE b xs e;rw[aU (ne q)];exact q
 ·have q:=I.base.mq b ob u e;rw[aU (ne q)];exact q
 ·obtain⟨m,q⟩:=I.base.mY b ps e;exact⟨m,by rw[aU (ne q)];exact q⟩
 ·rw[aU (J0 hL)];exact I.free
 ·rw[aU (hc x c e)];exact I.gu x c e
 ·obtain⟨e,n,r⟩:=I.pin p SW;exact⟨e,by rw[aU (hp p SW)];exact n,r⟩
 ·by_cases hb:b=D
  ·subst hb;rw[aL]at e;cases e;exact new
  ·rw[aU hb]at e;exact(I.bt b u e).qv (λ c v _ q=>q) (λ c q=>by rw[aU (ne q)];exact q) λ c xs q=>by rw[aU (ne q)];exact q
def bA(cells:List (Str×ww)):List (Str×NameKind)->List (Str×ww)->List (Str×ww)
 |[],zn=>zn
 |(n,k)::r,zn=>if(k==.free)=true then bA cells r ((n,(cells.lookup n).getD 0)::zn)else bA cells r zn
theorem fL:∀(names:List (Str×NameKind)) (zn:List (Str×ww)),(∀n,(n,NameKind.free)∈names->∃c,cells.lookup n=some c)-> (∀x c,zn.lookup x=some c->cells.lookup x=some c)->∀x c,(bA cells names zn).lookup x=some c->cells.lookup x=some c
 |[],zn,_,h,x,c,e=>h x c e
 |(n,k)::r,zn,hc,h,x,c,e=>by
  unfold bA at e;by_cases hk:(k==NameKind.free)=true
  ·rw[J3 hk]at e;refine fL r _ (λ m hm=>hc m (k5 _ hm)) (λ y d q=>?_) x c e;have Q4:k=NameKind.free:=by simpa using hk
   obtain⟨c0,e0⟩:=hc n (by rw[Q4];exact n9);rw[w6]at q;cases hy:(y==n)with
   |true=>
    rw[hy]at q;have yn:y=n:=by simpa using hy
    subst yn;rw[e0]at q;rw[e0];exact q
   |false=>rw[hy]at q;exact h y d q
  ·rw[J4 hk]at e;exact fL r _ (λ m hm=>hc m (k5 _ hm)) h x c e
theorem jd:∀(names:List (Str×NameKind)) (zn:List (Str×ww)),((zn.lookup x).isSome=true)->((bA cells names zn).lookup x).isSome=true
 |[],zn,h=>h
 |(n,k)::r,zn,h=>by
  unfold bA;split
  ·refine jd r _ ?_;rw[w6];cases hy:(x==n)with
   |true=>rfl
   |false=>exact h
  ·exact jd r _ h
theorem gz:∀(names:List (Str×NameKind)) (zn:List (Str×ww)),(x,NameKind.free)∈names->((bA cells names zn).lookup x).isSome=true
 |[],zn,h=>absurd h (by simp)
 |(n,k)::r,zn,h=>by
  unfold bA;rcases C4.mp h with e|h
  ·cases e;rw[J3 (by decide)];refine jd r _ ?_;rw[w6];simp
  ·split
   ·exact gz r _ h
   ·exact gz r _ h
theorem eI{env:Env}(hc:∀n,(n,NameKind.free)∈scope.names->∃c,env.cells.lookup n=some c):closureFor scope env=pure (bA env.cells scope.names []):=by
 unfold closureFor;have all:∀(names:List (Str×NameKind)) (zn:List (Str×ww)),(∀n,(n,NameKind.free)∈names->∃c,env.cells.lookup n=some c)->
   (forIn names zn (λ(x:Str×NameKind) (cs:List (Str×ww))=>(match x with|(name,kind)=>if(kind==.free)=true then(do let c <- cellOf env name;pure (ForInStep.yield ((name,c)::cs)))else pure (ForInStep.yield cs):Sem (ForInStep (List (Str×ww))))))=(pure (bA env.cells names zn):Sem (List (Str×ww))):=by
  intro names
  induction names with
  |nil=>intro zn _;rfl
  |cons y r ih=>
   intro zn hc;obtain⟨n,k⟩:=y;rw[B2];unfold bA;dsimp only;by_cases hk:(k==NameKind.free)=true
   ·rw[J3 hk,J3 hk];have Q4:k=NameKind.free:=by simpa using hk
    obtain⟨c0,e0⟩:=hc n (by rw[Q4];exact n9);unfold cellOf;rw[e0];exact ih _ λ m hm=>hc m (k5 _ hm)
   ·rw[J4 hk,J4 hk];exact ih _ λ m hm=>hc m (k5 _ hm)
 have q:=all scope.names [] hc;refine Eq.trans ?_ (H9 (λ m=>m >>= pure) q);rfl
theorem oX{env:Env}:∀{names:List (Str×NameKind)} {x:Str},names.lookup x=some .free-> (names.map λ(n,k)=>if(k==NameKind.free&&env.scope.kind==.function&&env.kindOf n==some .cell)then(n,NameKind.cell)else(n,k)).lookup x=some .cell\/ (names.map λ(n,k)=>if(k==NameKind.free&&env.scope.kind==.function&&env.kindOf n==some .cell)then(n,NameKind.cell)else(n,k)).lookup x=some .free
 |[],_,h=>by simp at h
 |(n,k)::r,x,h=>by
  have ih:=@oX env r x;rw[C3];dsimp only;cases hx:x==n with
  |true=>
   rw[w6,hx]at h;have h':k=NameKind.free:=by simpa using h
   subst h';split
   ·left;rw[w6,hx]
   ·right;rw[w6,hx]
  |false=>
   rw[w6,hx]at h;have ih:=ih h;split
   ·rw[w6,hx];exact ih
   ·rw[w6,hx];exact ih
theorem tU{prog:Program}{w:World}{A:Around}{R:Result->kt->Prop}{s:kt}{elt target iter:Expr}{ifs:List Expr}{scope:Scope}{pos:Pos}{it zn:jp}{env:Env}(I:Nat->kt->Prop) (turn:∀n s,I n s->wpAny (model prog w) A (pyNext it) (λ r s1=>match r with
   |none=>R (.ok .next) s1
   |some v=>wpAny (model prog w) A (letOwnedTupleGo target it v) (λ _ s2=>wpAny (model prog w) A (assign target env v) (λ _ s3=>
     wpAny (model prog w) A (forIn ifs true λ c r=>if r=true then do let ok <- isTrue c env (eval c env);pure (ForInStep.yield ok)else pure (ForInStep.yield r)) (λ ok s4=>
      if ok=true then wpAny (model prog w) A (eval elt env) (λ x s5=>
       wpAny (model prog w) A (call (.builtin "list.append") [zn,x]) (λ _ s6=>∃m,m < n/\I m s6) (λ _ _=>False) s5) (λ _ _=>False) s4
      else ∃m,m < n/\I m s4) (λ _ _=>False) s3) (λ _ _=>False) s2) (λ _ _=>False) s1) (λ _ _=>False) s)
  (n:Nat) (h:I n s):
  codeAny (model prog w) A (.compLoop (.ListComp elt [⟨target,iter,ifs,0⟩] scope pos) 0 it zn env) R s:=by
 refine codeAny_loop rfl I (λ n s hI=>?_) n h;show wpAny _ A ((compTurn (.ListComp elt [⟨target,iter,ifs,0⟩] scope pos) 0 it zn env).onRaise (λ x=>do noteFrame x env;theTreesLotGoes x)) _ _ s;refine wpAny_noted ?_;rw[compTurn_list];refine wpAny_noRaise (G4 (wpAny_standAt (G4 (G8 (turn n s hI) (λ r s1 h1=>?_) λ _ _ h'=>h'))));cases r with
 |none=>exact G5 h1
 |some v=>
  refine G4 (G8 h1 (λ _ s2 h2=>?_) λ _ _ h'=>h');refine G4 (G8 h2 (λ _ s3 h3=>G4 (G8 h3 (λ ok s4 h4=>?_) λ _ _ h'=>h')) λ _ _ h'=>h');cases ok with
  |false=>exact G5 ⟨rfl,h4⟩
  |true=>exact G4 (G4 (G8 h4 (λ x s5 h5=>G4 (G8 h5 (λ _ s6 h6=>G5 (G5 ⟨rfl,h6⟩)) λ _ _ h'=>h')) λ _ _ h'=>h'))
open PySem.Spec PyProof.Rows
def bE(X:Cx)(scope:Scope)(cl:List (Str×ww))(tgs:List Str)(fr:List Nat)(C:ww)(fp:List ww)(s:kt)(H:Hp):Cx:=
 {X with N:=tgs++fr.map (λ j=>X.N.getD j ""),s₀:=s,H₀:=H,env:=compEnvC scope cl C X.env,outer:=X.stack,ex:=fp,fn:=λ x=>scope.names.lookup x==some .cell,pn:=[]}
def fX(n:Nat)(fr:List Nat)(σ:St):St:=List.replicate n none++fr.map (λ j=>σ.getD j none)
structure Hw(X:Cx)(scope:Scope)(C:ww)(h1:Heap)(cl:List (Str×ww)):Prop where
 look:∀x c,cl.lookup x=some c->X.env.cells.lookup x=some c\/(C < c/\h1.IsCell c none)
 inj:∀x y c,cl.lookup x=some c->cl.lookup y=some c->x=y
 has:∀x,(x,NameKind.free)∈scope.names\/(x,NameKind.cell)∈scope.names->∃c,cl.lookup x=some c
 Qa:∀x c,scope.names.lookup x=some .free->cl.lookup x=some c->X.env.cells.lookup x=some c
 own:∀x c,scope.names.lookup x=some .cell->cl.lookup x=some c->C < c
structure lL(X:Cx)(scope:Scope)(fr:List Nat):Prop where
 kind:scope.kind=.function
 cells:∀y∈scope.names,y.2=.cell->scope.names.lookup y.1=some .cell
 names:∀y∈scope.names,y.2=.local->scope.names.lookup y.1=some .local
 has:∀n,(n,NameKind.free)∈scope.names->X.env.kindOf n=some .cell\/X.env.kindOf n=some .free
 fr:∀j∈fr,j < X.N.length/\scope.names.lookup (X.N.getD j "")=some .free
def ke(n:Nat)(g:TG):Prop:=∀x σ H Q,g x σ H Q->g x σ H λ σ2 H2=>Q σ2 H2/\σ2.length=σ.length/\∀k,n<=k->σ2[k]?=σ[k]?
theorem jv(h:i < n):ke n (de i):=λ x σ H Q q=>⟨q,by simp,λ k hk=>by rw[l0 (by lia)]⟩
def om(n:Nat)(g:Bf):Prop:=∀xs σ H Q,g xs σ H Q->g xs σ H λ σ2 H2=>Q σ2 H2/\σ2.length=σ.length/\∀k,n<=k->σ2[k]?=σ[k]?
theorem GJ:om n tR:=λ xs σ H Q q=>⟨q.1,q.2,rfl,λ _ _=>rfl⟩
def Rh(X:Cx)(ifs:List Expr)(t:TT):Prop:=
 ∀(xz:List (ww×Obj)) (s:kt) (σ:St) (H:Hp) (Q:Bool->Hp->Prop),bd X xz σ H s->t σ H Q->
  wpAny (model X.prog X.w) X.A (forIn ifs true λ c r=>if r=true then do let ok <- isTrue c X.env (eval c X.env);pure (ForInStep.yield ok)else pure (ForInStep.yield r)) (TP X xz σ Q) X.xe s
def Vt:TT:=λ _ H Q=>Q true H
theorem JN:Rh X [] Vt:=λ _ s σ H Q I h=>wpAny_tests_nil ⟨H,I,h⟩
theorem JM{t:TT}(h:PT X c t):Rh X [c] t:=λ xz s σ H Q I q=>wpAny_tests_one (h xz s σ H Q I q)
def uS(wi:TI)(g:TG)(tt:TT)(te:TE)(n:Nat)(fr:List Nat):TE:=λ σ H Q=>wi σ H λ J H1=>∃W:Nat->Nat->List V->Hp->Prop,(∃m,W 0 m [] H1)/\∀i m zn H,W i m zn H->
 zn.length<=sizeLine/\((J.stop i H/\∀p,H p=none->Q (.ref p) (ci H p (.lst zn)))\/
  (J.go i H/\∃N:List V->Hp->Prop,(∀hG H',N hG H'->∃m',m' < m/\W (i+1) m' hG H')/\∀x H',J.HM i H x H'->g x (fX n fr σ) H' λ σ2 H2=>tt σ2 H2 λ b H3=>if b=true then te σ2 H3 λ y H4=>N (zn++[y]) H4 else N zn H3))
theorem iR{env:Env}:∀{names:List (Str×NameKind)} {x:Str} {k0:NameKind}, (names.map λ(n,k)=>if(k==NameKind.free&&env.scope.kind==.function&&env.kindOf n==some .cell)then(n,NameKind.cell)else(n,k)).lookup x=some k0->(k0=.cell\/k0=.free)->(x,NameKind.free)∈names\/(x,NameKind.cell)∈names
 |[],_,_,h,_=>by simp at h
 |(n,k)::r,x,k0,h,hk=>by
  have ih:=@iR env r x k0;rw[C3]at h;dsimp only at h;cases hx:x==n with
  |true=>
   have xn:x=n:=by simpa using hx
   subst xn;by_cases S':(k==NameKind.free&&env.scope.kind==.function&&env.kindOf x==some .cell)=true
   ·have:k=NameKind.free:=by have:=(x6 _ _).mp S';have:=(x6 _ _).mp this.1;simpa using this.1
    subst this;exact .inl n9
   ·rw[J4 S',w6,hx]at h;have h':k=k0:=by simpa using h
    subst h';rcases hk with e|e
    ·subst e;exact .inr n9
    ·subst e;exact .inl n9
  |false=>
   have z:(x,NameKind.free)∈r\/(x,NameKind.cell)∈r:=by
    refine ih ?_ hk;split at h
    ·rw[w6,hx]at h;exact h
    ·rw[w6,hx]at h;exact h
   exact z.imp (k5 _) (k5 _)
theorem jo{n:Str}{zn:List (Str×ww)}{c:ww}(h:((n,a)::zn).lookup x=some c):(x=n/\c=a)\/(x≠n/\zn.lookup x=some c):=by
 rw[w6]at h;cases e:x==n with
 |true=>rw[e]at h;exact .inl ⟨by simpa using e,(A1 h).symm⟩
 |false=>rw[e]at h;exact .inr ⟨by simpa using e,h⟩
set_option tactic.hygienic true in
theorem tX:∀(names:List (Str×NameKind)) (h:Heap) (zn:List (Str×ww)) (x:Str) (c:ww),(cellsFrom h.objs.size names zn).lookup x=some c->zn.lookup x=some c\/(h.objs.size<=c/\(pushCells h names).IsCell c none)
 |[],_,_,_,_,e=>.inl e
 |(n,k)::r,h,zn,x,c,e=>by
  unfold cellsFrom at e;unfold pushCells;split at e
  ·rename_i hk;rw[J3 hk];have sz:=B5 h {cls:=.type "cell",data:=.cell none};rw[<- sz]at e;rcases tX r _ _ x c e with z|z
   ·rcases jo z with⟨_,q⟩|⟨_,q⟩
    ·subst q;exact .inr ⟨D9 _,_,pushCells_keeps r _ _ _ (m8 _ rfl),rfl⟩
    ·exact .inl q
   ·exact .inr ⟨by have:=z.1;rw[sz]at this;lia,z.2⟩
  ·rename_i hk;rw[J4 hk];exact tX r h zn x c e
theorem yK:∀(names:List (Str×NameKind)) (n:Nat) (zn:List (Str×ww)),(∀x c,zn.lookup x=some c->c < n)->(∀x y c,zn.lookup x=some c->zn.lookup y=some c->x=y)->∀x y c,(cellsFrom n names zn).lookup x=some c->(cellsFrom n names zn).lookup y=some c->x=y
 |[],_,_,_,hi=>hi
 |(m,k)::r,n,zn,lt,hi=>by
  unfold cellsFrom;split
  ·refine yK r (n+1) _ (λ x c e=>?_) (λ x y c e1 e2=>?_)
   ·rcases jo e with⟨_,q⟩|⟨_,q⟩
    ·rw[q];exact Nat.lt_succ_self n
    ·exact w5 (lt x c q)
   ·rcases jo e1 with⟨a1,q1⟩|⟨a1,q1⟩ <;> rcases jo e2 with⟨a2,q2⟩|⟨a2,q2⟩
    ·rw[a1,a2]
    ·exact absurd (q1▸lt y c q2) (C0 _)
    ·exact absurd (q2▸lt x c q1) (C0 _)
    ·exact hi x y c q1 q2
  ·exact yK r n zn lt hi
theorem oh:∀(names:List (Str×NameKind)) (n:Nat) (zn:List (Str×ww)),(∃c,zn.lookup x=some c)->∃c,(cellsFrom n names zn).lookup x=some c
 |[],_,_,h=>h
 |(m,k)::r,n,zn,⟨c,h⟩=>by
  unfold cellsFrom;split
  ·refine oh r _ _ ?_;rw[w6];cases x==m with
   |true=>exact⟨_,rfl⟩
   |false=>exact⟨c,h⟩
  ·exact oh r n zn ⟨c,h⟩
theorem yL:∀(names:List (Str×NameKind)) (n:Nat) (zn:List (Str×ww)),(x,NameKind.cell)∈names->∃c,(cellsFrom n names zn).lookup x=some c
 |[],_,_,h=>absurd h (by simp)
 |(m,k)::r,n,zn,h=>by
  unfold cellsFrom;rcases C4.mp h with e|h
  ·cases e;rw[J3 (by decide)];exact oh r _ _ ⟨n,by rw[w6];simp⟩
  ·split
   ·exact yL r _ _ h
   ·exact yL r _ _ h
set_option tactic.hygienic true in
theorem yM:∀(names:List (Str×NameKind)) (n:Nat) (zn:List (Str×ww)),(x,NameKind.cell)∉names->(cellsFrom n names zn).lookup x=zn.lookup x
 |[],_,_,_=>rfl
 |(m,k)::r,n,zn,h=>by
  unfold cellsFrom;split
  ·rename_i hk;rw[yM r _ _ λ z=>h (k5 _ z),w6];cases e:x==m with
   |false=>rfl
   |true=>
    have e1:x=m:=by simpa using e
    have e2:k=.cell:=by simpa using hk
    subst e1 e2;exact absurd n9 h
  ·exact yM r n zn λ z=>h (k5 _ z)
set_option tactic.hygienic true in
theorem yJ{lo:Nat}:∀(names:List (Str×NameKind)) (n:Nat) (zn:List (Str×ww)),lo<=n->((x,NameKind.cell)∈names\/∀c,zn.lookup x=some c->lo<=c)->∀c,(cellsFrom n names zn).lookup x=some c->lo<=c
 |[],_,_,_,h,c,e=>by
  rcases h with h|h
  ·cases h
  ·exact h c e
 |(m,k)::r,n,zn,hn,h,c,e=>by
  unfold cellsFrom at e;split at e
  ·refine yJ r (n+1) _ (by lia) ?_ c e;rcases h with h|h
   ·rcases C4.mp h with q|q
    ·cases q;exact .inr λ c e=>by
      rcases jo e with⟨_,z⟩|⟨z,_⟩
      ·rw[z];exact hn
      ·exact absurd rfl z
    ·exact .inl q
   ·exact .inr λ c e=>by
     rcases jo e with⟨_,z⟩|⟨_,z⟩
     ·rw[z];exact hn
     ·exact h c z
  ·rename_i hk;refine yJ r n zn hn ?_ c e;rcases h with h|h
   ·rcases C4.mp h with q|q
    ·cases q;exact absurd rfl hk
    ·exact .inl q
   ·exact .inr h
section
variable {M:Model}
theorem Ck{globals:ww}{closure:List (Str×ww)}{func:Option ww}{code:jp}{env:Env}{builtins:ww}{Q:Env->kt->Prop} (hQ:Q (newEnv scope s.heap.objs.size globals (cellsFrom (s.heap.objs.size+1) scope.names closure) qual func code (some env) builtins) {s with heap:=pushCells (s.heap.push {cls:=.type "dict",data:=.dict #[]}) scope.names}):wpAny M A (newFunctionEnv scope globals closure [] qual func code (some env) builtins) Q E s:=by simp only[newFunctionEnv,Option.isSome_some,J1];refine G4 (wpAny_alloc ?_);refine G4 (wpAny_layCells _ (λ name kind cells=>by cases hkc:kind==NameKind.cell <;> simp[hkc]) _ _ _ _ ?_);rw[show({s with heap:=s.heap.push {cls:=.type "dict",data:=.dict #[]}}:kt).heap.objs.size=s.heap.objs.size+1 from B5 ..];exact G4 (G5 (G5 hQ))
end
theorem Qp{C:ww}{h1:Heap}(B:lL X scope fr)(L:Hw X scope C h1 cl)(I:bd X xz σ H s)(hC:s.heap.objs.size<=C)(f:∀b∈fp,jg X xz H b)(HB:∀b∈fp,b < s.heap.objs.size): (bE X scope cl tgs fr C fp s H).Ok:=by
 refine⟨I.ok.mod,B.kind,I.ok.glob,I.ok.blt,hC,L.inj,λ x hx=>?_,λ x c h e=>?_,I.ok.hd,I.ok.frames,.inl rfl,λ b hb=>⟨C6 (p7 (HB b hb) hC),λ x c e=>?_⟩,
  I.bs,D1 I.ok.De I.sz,λ b o e hb=>?_,λ b hb hs=>?_,I.stack,I.sJ⟩
 ·rcases hx with hx|hx
  ·exact L.has x (iR hx (.inl rfl))
  ·exact L.has x (iR hx (.inr rfl))
 ·exact D1 hC (D8 (L.own x c (by simpa[bE]using h) e))
 ·rcases L.look x c e with z|z
  ·exact(f b hb).2.2.2.2.1 x c z
  ·exact λ q=>absurd (p6 hC z.1) (Nat.not_lt.mpr (D8 (q▸HB b hb)))
 ·rcases(f b hb).2.2.2.1 with z|z
  ·exact I.ok.Cj b o e z
  ·exact absurd (p7 (C7 e) (D1 I.ok.De z)) (C0 _)
 ·rcases C4.mp (I.oK b hs)with z|z
  ·exact(f b hb).2.1 z
  ·exact(f b hb).2.2.1 z
theorem Lg{s1:kt}{C:ww}{m:Str->Option jp}(B:lL X scope fr)(L:Hw X scope C s1.heap cl)(I:bd X xz σ H s)(hC:s.heap.objs.size<=C)(f:∀b∈fp,jg X xz H b)(HB:∀b∈fp,b < s.heap.objs.size) (ho:s1.os=s.os) (hg:AllBare s1.gens) (hk:∀b o,s.heap.get? b=some o->s1.heap.get? b=some o) (hn:s1.heap.Ns C m):bd (bE X scope cl tgs fr C fp s H) [] (fX tgs.length fr σ) H s1:=by
 refine⟨Qp B L I hC f HB,ho,hg,Un.kept hk,⟨m,hn,λ i x v e1 e2 e3=>?_⟩,λ x c e=>?_,I.bt.fresh hC,λ x c e=>?_,λ p hp=>absurd hp (by simp[bE]),I.bt.kept hk,by simp[fX,bE]⟩
 ·-- a free name:aB Xu value
  have e1:(tgs++fr.map (λ j=>X.N.getD j ""))[i]?=some x:=e1;have hi:tgs.length<=i:=by refine w9 λ iC=>?_;unfold fX at e2;rw[c7 (by simpa using iC),i5,J3 iC]at e2;cases e2
  unfold fX at e2;rw[c5 (by simpa using hi),length_replicate,r0]at e2;rw[c5 hi,r0]at e1;cases ej:fr[i - tgs.length]? with
  |none=>rw[ej]at e1;cases e1
  |some j=>
   rw[ej]at e1 e2;have Xq:X.N.getD j ""=x:=A1 e1;have YO:σ.getD j none=some v:=A1 e2;obtain⟨hj,hl⟩:=B.fr j (k7 ej);have hN:X.N[j]?=some x:=by rw[c6,i0 hj]at Xq;rw[i0 hj];exact H9 some Xq
   have hs:σ[j]?=some (some v):=by
    have U4:j < σ.length:=by rw[I.len];exact hj
    rw[c6,i0 U4]at YO;rw[i0 U4];exact H9 some YO
   rw[Xq]at hl;obtain⟨m0,Q3,hl0⟩:=I.loc;have S4:(x,NameKind.free)∈scope.names:=l7 hl;have kinds:=B.has x S4;obtain⟨u,ru,lu⟩:=hl0 j x v hN hs (by rcases kinds with z|z;exact .inr (.inl z);exact .inr (.inr z));refine⟨u,ru,.inr ⟨oX hl,?_⟩⟩;obtain⟨c,hc⟩:=L.has x (.inl S4);refine⟨c,hc,?_⟩;rcases lu with⟨kl,_⟩|⟨_,c',PN,z⟩
   ·rcases kinds with z|z <;> (rw[z]at kl;cases kl)
   ·have:c=c':=by have:=L.Qa x c hl hc;rw[this]at PN;exact A1 PN
    subst this;obtain⟨o,ho,hd⟩:=z;exact⟨o,hk _ _ ho,hd⟩
 ·rcases L.look x c e with z|z
  ·obtain⟨v,o,CF,hd⟩:=I.cell x c z;exact⟨v,o,hk _ _ CF,hd⟩
  ·exact⟨none,z.2⟩
 ·rcases L.look x c e with z|z
  ·exact I.gu x c z
  ·exact I.bt.fresh (D1 hC (D8 z.1))
theorem Qq{h2:Heap}(B:lL X scope fr)(I:bd X xz σ H s)(hs:s.heap.objs.size<=h2.objs.size):Hw X scope h2.objs.size (pushCells (h2.push {cls:=.type "dict",data:=.dict #[]}) scope.names) (cellsFrom (h2.objs.size+1) scope.names (bA X.env.cells scope.names [])):=by
 have look:∀x c,(bA X.env.cells scope.names []).lookup x=some c->X.env.cells.lookup x=some c:=
  fL scope.names [] (λ n hn=>I.ok.has n (B.has n hn)) λ x c e=>by simp at e
 have sz:=B5 h2 {cls:=.type "dict",data:=.dict #[]};refine⟨λ x c e=>?_,yK _ _ _ (λ x c e=>?_) (λ x y c e1 e2=>I.ok.inj x y c (look x c e1) (look y c e2)),λ x h=>?_,λ x c h e=>?_,λ x c h e=>?_⟩
 ·rw[<- sz]at e;rcases tX _ _ _ x c e with z|z
  ·exact .inl (look x c z)
  ·exact .inr ⟨p7 (by rw[sz];exact Nat.lt_succ_self _) z.1,z.2⟩
 ·obtain⟨v,hv⟩:=I.cell x c (look x c e);exact w5 (p7 hv.lt hs)
 ·rcases h with h|h
  ·exact oh _ _ _ (Option.isSome_iff_exists.mp (gz scope.names [] h))
  ·exact yL _ _ _ h
 ·rw[yM _ _ _ λ z=>by have:=B.cells _ z rfl;rw[h]at this;cases this]at e;exact look x c e
 ·exact yJ (lo:=h2.objs.size+1) _ _ _ (D9 _) (.inl (l7 h)) c e
open PySem.Spec PyProof.Rows
section
variable {elt:Expr}{pos:Pos}{wi:TI}{g:TG}{tt:TT}{te:TE}
theorem toF{M:Model}{t:Sem α}{Q Q':α->kt->Prop}(hE:∀e s,E e s->False)(h:wpAny M A t Q E s)(hQ:∀a s,Q a s->Q' a s):wpAny M A t Q' (λ _ _=>False) s:=
 G8 h hQ hE
theorem rX{xz:List (ww×Obj)}{σ:St}{H:Hp}{s:kt}{R:jp->ww->Result->kt->Prop}{E:jp->kt->Prop}{J:It}{fp:List ww}{it:ww}{tn:Nat->Heap->Prop}{Qe:List V->Hp->Prop} (B:lL X scope fr) (hc:X.calm=true) (hE:∀e s,X.xe e s->False) (hg:∀cl C fp s H,PG (bE X scope cl tgs fr C fp s H) tg g) (gk:ke tgs.length g) (ht:∀cl C fp s H,Rh (bE X scope cl tgs fr C fp s H) ifs tt) (he:∀cl C fp s H,PE (bE X scope cl tgs fr C fp s H) elt te) (I:bd X xz σ H s) (T:Turn X.prog X.w X.K tg J fp it tn) (st:tn 0 s.heap) (f:∀b∈fp,jg X xz H b) (W:Nat->Nat->List V->Hp->Prop) (m0:Nat) (w0:W 0 m0 [] H) (turn:∀i m zn H,W i m zn H->zn.length<=sizeLine/\((J.stop i H/\Qe zn H)\/(J.go i H/\∃N:List V->Hp->Prop,(∀hG H',N hG H'->∃m',m' < m/\W (i+1) m' hG H')/\∀x H',J.HM i H x H'->g x (fX tgs.length fr σ) H' λ σ2 H2=>tt σ2 H2 λ b H3=>
   if b=true then te σ2 H3 λ y H4=>N (zn++[y]) H4 else N zn H3)))
  (fin:∀(D C:ww) (s1:kt) (H1:Hp) (zn:List V) (aB:List jp),s.heap.objs.size<=D->s.heap.objs.size<=C->D≠C->bd X xz σ H1 s1->H1 C=none->H1 D=none->(∃m,s1.heap.Ns C m)->
   s1.heap.PlainList D aB.toArray->ce zn aB->zn.length<=sizeLine->Qe zn H1->R (.ref D) C (.ok .next) s1):
  wpAny (model X.prog X.w) X.A (newList []) (λ zn s3=>wpAny (model X.prog X.w) X.A (newFunctionEnv scope X.env.globals (bA X.env.cells scope.names []) [] X.env.qual none .none (some X.env)) (λ TL s4=>
   codeAny (model X.prog X.w) X.A (.compStart (.ListComp elt [⟨tg,iter,ifs,0⟩] scope pos) 0 (.ref it) zn {TL with scope:=relabel scope X.env}) (R zn TL.locals) s4) E s3) E s:=by
 have HB:∀b∈fp,b < s.heap.objs.size:=λ b hb=>by obtain⟨o,e,_⟩:=T.obj 0 _ st b hb;exact C7 e
 refine r9 (Ck ?_);dsimp only;generalize Xf:s.heap.push {cls:=.type "list",dict:=none,data:=.seq ([]:List jp).toArray}=H2;have hC:H2.objs.size=s.heap.objs.size+1:=by rw[<- Xf,B5]
 have L0:=Qq (h2:=H2) B I (by lia);have SY:(pushCells (H2.push {cls:=.type "dict",data:=.dict #[]}) scope.names).Ns H2.objs.size (λ _=>none):=(Heap.Ns.new H2 (.type "dict")).keeps (pushCells_keeps _ _);have We:∀b o,H2.get? b=some o->(pushCells (H2.push {cls:=.type "dict",data:=.dict #[]}) scope.names).get? b=some o:=λ b o e=>pushCells_keeps _ _ b o (j0 _ e);generalize pushCells (H2.push {cls:=.type "dict",data:=.dict #[]}) scope.names=h1 at L0 SY We ⊢;have PY:s.heap.objs.size≠H2.objs.size:=by lia
 have KU:s.heap.objs.size<=H2.objs.size:=by lia
 have below:∀b,b < s.heap.objs.size->b≠H2.objs.size/\b≠s.heap.objs.size:=λ b hb=>⟨by lia,by lia⟩;have old:∀b o,s.heap.get? b=some o->h1.get? b=some o:=λ b o e=>We b o (Xf▸j0 _ e);have eG:h1.PlainList s.heap.objs.size #[]:=⟨_,We _ _ (Xf▸m8 _ rfl)⟩;have XO:tn 0 h1:=T.keep _ _ _ st λ b _ o e=>old b o e;have Wa:∀x c,(cellsFrom (H2.objs.size+1) scope.names (bA X.env.cells scope.names [])).lookup x=some c->X.env.cells.lookup x=some c\/H2.objs.size < c:=λ x c e=>(L0.look x c e).imp id λ z=>z.1;generalize cellsFrom (H2.objs.size+1) scope.names (bA X.env.cells scope.names [])=cl at L0 Wa ⊢;generalize hCd:H2.objs.size=C at*;generalize Th:s.heap.objs.size=D at*;have hDs:∀b,b < D->b < s.heap.objs.size:=λ b hb=>by rw[Th];exact hb
 have fD:=I.lB (b:=D) (H':=H) (Nat.le_of_eq Th) (I.bt.fresh (Nat.le_of_eq Th));have Lv:∀b,b≠X.env.locals->b∉X.fs->b∉uC X.stack:=λ b h1 h2 hb=>(C4.mp (I.oK b hb)).elim h1 h2;have Ax:∀b∈fp,b∉uC X.stack:=λ b hb=>Lv b (f b hb).2.1 (f b hb).2.2.1;have clt:∀x c,cl.lookup x=some c->c≠D:=λ x c e=>(Wa x c e).elim (fD.2.2.2.2.1 x c) λ z q=>absurd (p6 KU (q▸z)) (C0 _);have loop:∀s3:kt,s3={s with heap:=h1}->
   codeAny (model X.prog X.w) X.A (.compLoop (.ListComp elt [⟨tg,iter,ifs,0⟩] scope pos) 0 (.ref it) (.ref D) (compEnvC scope cl C X.env)) (R (.ref D) C) s3:=by
  rintro s3 rfl;have IY0:bd (bE X scope cl tgs fr C fp s H) [] (fX tgs.length fr σ) H {s with heap:=h1}:=
   Lg B L0 I (by rw[Th];exact KU) f (λ b hb=>hDs b (HB b hb)) rfl I.bare old SY
  refine tU (λ n s'=>∃(i:Nat) (zn:List V) (aB:List jp) (H':Hp),bd (bE X scope cl tgs fr C fp s H) [] (fX tgs.length fr σ) H' s'/\tn i s'.heap/\(∀b∈fp,H' b=none)/\H' D=none/\
   s'.heap.PlainList D aB.toArray/\ce zn aB/\W i n zn H') ?_ m0 ⟨0,[],[],H,IY0,XO,λ b hb=>(f b hb).1,fD.1,eG,.nil,w0⟩
  rintro n s3 ⟨i,zn,aB,H3,I3,RB,Tn,hD3,⟨nl,Gv⟩,UO,w3⟩;obtain⟨hz,h⟩:=turn i n zn H3 w3;have YZ:bd (bE X scope cl tgs fr C fp s H) [(D,{cls:=.type "list",data:=.seq aB.toArray nl})] (fX tgs.length fr σ) H3 s3:=I3.kR λ p hp=>by
   have e:p=(D,{cls:=.type "list",data:=.seq aB.toArray nl}):=by simpa using hp
   subst e;exact⟨Gv,hD3,PY,Lv D fD.2.1 fD.2.2.1,λ v e=>by cases e⟩
  have fY:∀{H':Hp},(∀b∈fp,H' b=none)->∀b∈fp,jg (bE X scope cl tgs fr C fp s H) [(D,{cls:=.type "list",data:=.seq aB.toArray nl})] H' b:=λ hn b hb=>
   ⟨hn b hb,(below b (HB b hb)).1,Ax b hb,.inl hb,λ x c e=>(Wa x c e).elim ((f b hb).2.2.2.2.1 x c) λ z q=>absurd (p7 (HB b hb) (D1 KU (D8 (q▸z)))) (C0 _),λ p hp=>by
    have e:p=(D,{cls:=.type "list",data:=.seq aB.toArray nl}):=by simpa[bE]using hp
    subst e;exact J0 (below b (HB b hb)).2⟩
  rcases h with⟨stop,q⟩|⟨go,N,hN,step⟩
  ·refine dA (T.done (bE X scope cl tgs fr C fp s H) rfl rfl rfl hc i _ s3 _ H3 _ YZ (fY Tn) RB stop) λ r s4 ⟨hr,I4⟩=>?_;subst hr;have pD:=I4.pin (D,{cls:=.type "list",data:=.seq aB.toArray nl}) (by simp);have IX:bd X xz σ H3 s4:=I.TN (ch:=fp) I4.os I4.base I4.bt I4.bare λ b hb=>⟨(f b hb).2.2.2.1,(f b hb).2.1,(f b hb).2.2.2.2.1,(f b hb).2.2.2.2.2⟩;obtain⟨m4,Yh,_⟩:=I4.loc;exact fin D C s4 H3 zn aB (D9 _) KU PY IX I4.free pD.2.1 ⟨m4,Yh⟩ ⟨nl,pD.1⟩ UO hz q
  ·refine dA (T.item (bE X scope cl tgs fr C fp s H) rfl rfl rfl hc i _ s3 _ H3 _ YZ (fY Tn) RB go) λ r s4 ⟨u,hr,h4⟩=>?_;subst hr;refine dA h4 λ _ s5 ⟨x,H5,I5,r5,y5,Ik,Xl⟩=>?_;have XD:=I5.pinned (fY Xl) (T.obj _ _ Ik);refine toF hE (hg _ _ _ _ _ _ s5 _ H5 x u _ XD r5 (gk x _ H5 _ (step x H5 y5))) λ _ s6 ⟨σ6,H6,I6,q6,Wc,k6⟩=>?_;refine toF hE (ht _ _ _ _ _ _ s6 σ6 H6 _ I6 q6) λ ok s7 ⟨H7,I7,q7⟩=>?_;have wk:∀{H':Hp} {s':kt} {pl:List (ww×Obj)},bd (bE X scope cl tgs fr C fp s H) pl σ6 H' s'->bd (bE X scope cl tgs fr C fp s H) pl (fX tgs.length fr σ) H' s':=λ J=>
    J.weak Wc.symm λ k v e=>by
     by_cases hk:tgs.length<=k
     ·rw[k6 k hk];exact e
     ·unfold fX at e;rw[c7 (by simpa using hk),i5,J3 (by lia)]at e;cases e
   cases ok with
   |false=>simp only[o8,G9]at q7 ⊢;obtain⟨m',hm,w7⟩:=hN _ _ q7;have pD:=I7.pin (D,{cls:=.type "list",data:=.seq aB.toArray nl}) (by simp);refine⟨m',hm,i+1,zn,aB,H7,wk (I7.kR (pins':=[]) λ p hp=>absurd hp (by simp)),T.keep _ _ _ Ik λ b hb o e=>(I7.pin (b,o) (j7 _ (j7 _ (eC hb e)))).1,λ b hb=>?_,pD.2.1,⟨nl,pD.1⟩,UO,w7⟩;obtain⟨o,e,d⟩:=T.obj _ _ Ik b hb;exact(I7.pin (b,o) (j7 _ (j7 _ (eC hb e)))).2.1
   |true=>
    simp only[J1]at q7 ⊢;refine toF hE (he _ _ _ _ _ _ s7 σ6 H7 _ I7 q7) λ uy s8 ⟨y,H8,I8,r8,n8⟩=>?_;obtain⟨m',hm,w8⟩:=hN _ _ n8;have pD:=I8.pin (D,{cls:=.type "list",data:=.seq aB.toArray nl}) (by simp);have hits:aB.toArray.size<=sizeLine:=by have:=UO.length;simp only[u9];lia
    refine wpAny_list_append_plain (hsz:=hits) (show s8.heap.PlainList D aB.toArray from⟨nl,pD.1⟩) λ h9 WR X9=>?_;have I9:bd (bE X scope cl tgs fr C fp s H) [] σ6 H8 {s8 with heap:=h9,toks:=s8.toks}:=
     (I8.kR (pins':=[]) λ p hp=>absurd hp (by simp)).turned (it:=D) (λ b o hb e=>X9.extBut b o hb e) pD.2.1 PY (.inr (Nat.le_of_eq Th)) clt λ p hp=>absurd hp (by simp[bE])
    refine⟨m',hm,i+1,zn++[y],aB++[uy],H8,wk I9,T.keep _ _ _ Ik λ b hb o e=>X9.extBut b o (below b (HB b hb)).2 (I8.pin (b,o) (j7 _ (j7 _ (eC hb e)))).1,λ b hb=>?_,pD.2.1,?_,UO.append (.cons r8 .nil),w8⟩
    ·obtain⟨o,e,d⟩:=T.obj _ _ Ik b hb;exact(I8.pin (b,o) (j7 _ (j7 _ (eC hb e)))).2.1
    ·have e:(aB++[uy]).toArray=aB.toArray.push uy:=by simp
     rw[e];exact WR
 exact codeAny_compStart_list (loop _ rfl) (T.self _ 0 _ _ _ XO (loop _ rfl))
theorem tp(B:lL X scope fr)(hc:X.calm=true)(hE:∀e s,X.xe e s->False)(hi:PI X tg iter wi) (hg:∀cl C fp s H,PG (bE X scope cl tgs fr C fp s H) tg g) (gk:ke tgs.length g) (ht:∀cl C fp s H,Rh (bE X scope cl tgs fr C fp s H) ifs tt) (he:∀cl C fp s H,PE (bE X scope cl tgs fr C fp s H) elt te) (hs:∀x,foldedSetIterable iter X.env x=pure x:=by intro _;rfl):PE X (.ListComp elt [⟨tg,iter,ifs,0⟩] scope pos) (uS wi g tt te tgs.length fr):=by intro xz s σ H Q I h;rw[eval_ListComp];have rP:=eI (scope:=scope) (env:=X.env) λ n hn=>I.ok.has n (B.has n hn);refine wpAny_comprehension_free (use:=none) rfl hs rP B.kind B.names (G8 (hi xz s σ H _ I h) (λ xv s1 h1=>G8 h1 (λ UX s2 h2=>?_) λ _ _ e=>e) λ _ _ e=>e);obtain⟨it,fp,tn,J,H2,rfl,I2,T,Dl,f2,W,⟨m0,w0⟩,turn⟩:=h2;refine rX (R:=λ zn C=>compPost (model X.prog X.w) X.A X.xe none (EP X xz σ Q) zn C) (Qe:=λ zn H=>∀p,H p=none->Q (.ref p) (ci H p (.lst zn))) B hc hE hg gk ht he I2 T Dl f2 W m0 w0 turn ?_;intro D C s1 H1 zn aB hD hC PY I1 nC nD ⟨m,hn⟩ hl rv hz q;refine⟨m,hn,λ h' gT=>?_⟩;have fC:=I2.lB (b:=C) (H':=H1) hC nC;have fD:=I2.lB (b:=D) (H':=H1) hD nD;have I3:bd X xz σ H1 {s1 with heap:=h',toks:=s1.toks}:=I1.turned (it:=C) (λ b o hb e=>gT.extBut b o hb e) nC fC.2.1 fC.2.2.2.1 fC.2.2.2.2.1 fC.2.2.2.2.2;obtain⟨k,e⟩:=hl.extBut gT.extBut PY;exact⟨.ref D,ci H1 D (.lst zn),I3.oG nD ⟨hz,aB,k,rv,e⟩ fD.2.1 (D1 I2.sz hD) fD.2.2.2.2.1 fD.2.2.2.2.2,rfl,q D nD⟩
theorem xS{y:Str}{py uU:Pos}(hN:X.N.Nodup)(hiy:X.N[i]?=some y)(hy:Loc X.env.scope y)(B:lL X scope fr)(hc:X.calm=true)(hE:∀e s,X.xe e s->False)(hi:PI X tg iter wi) (hg:∀cl C fp s H,PG (bE X scope cl tgs fr C fp s H) tg g) (gk:ke tgs.length g) (ht:∀cl C fp s H,Rh (bE X scope cl tgs fr C fp s H) ifs tt) (he:∀cl C fp s H,PE (bE X scope cl tgs fr C fp s H) elt te) (hsw:swapsWith (.ListComp elt [⟨tg,iter,ifs,0⟩] scope pos) (some (.Name y py)) uU.line X.env=pure true:=by rfl) (hf:X.fn y=true\/X.env.scope.names.lookup y=some .local:=by first|exact .inl rfl|exact .inr rfl|assumption) (hs:∀x,foldedSetIterable iter X.env x=pure x:=by intro _;rfl):PS X (.Assign [.Name y py] (.ListComp elt [⟨tg,iter,ifs,0⟩] scope pos) uU) (Ih (uS wi g tt te tgs.length fr) (de i)):=by
 intro xz s σ H D0 I h;rw[exec_Assign_Name_used _ _ _ _ hsw];have rP:=eI (scope:=scope) (env:=X.env) λ n hn=>I.ok.has n (B.has n hn);refine G4 (wpAny_standAt (G4 ?_));show wpAny _ X.A (do let _ <- comprehension (.ListComp elt [⟨tg,iter,ifs,0⟩] scope pos) scope X.env _ (newList []) false (eval iter X.env) (some (assign (.Name y py) X.env))) _ _ s;refine G4 (G8 (wpAny_comprehension_free (use:=some (assign (.Name y py) X.env)) (Q:=λ _ s'=>SP X xz D0 .next s') rfl hs rP B.kind B.names
  (G8 (hi xz s σ H _ I h) (λ xv s1 h1=>G8 h1 (λ UX s2 h2=>?_) λ _ _ e=>e) λ _ _ e=>e)) (λ _ s' hq=>G5 (G5 hq)) λ _ _ e=>e)
 obtain⟨it,fp,tn,J,H2,rfl,I2,T,Dl,f2,W,⟨m0,w0⟩,turn⟩:=h2;refine rX (R:=λ zn C=>compPost (model X.prog X.w) X.A X.xe (some (assign (.Name y py) X.env)) (λ _ s'=>SP X xz D0 .next s') zn C) (Qe:=λ zn H=>∀p,H p=none->de i (.ref p) σ (ci H p (.lst zn)) D0.nx) B hc hE hg gk ht he I2 T Dl f2 W m0 w0 turn ?_;intro D C s1 H1 zn aB hD hC PY I1 nC nD ⟨m,hn⟩ hl rv hz q;have fC:=I2.lB (b:=C) (H':=H1) hC nC;have fD:=I2.lB (b:=D) (H':=H1) hD nD;obtain⟨k,e⟩:=hl;have I3:bd X xz σ (ci H1 D (.lst zn)) s1:=I1.oG nD ⟨hz,aB,k,rv,e⟩ fD.2.1 (D1 I2.sz hD) fD.2.2.2.2.1 fD.2.2.2.2.2;show wpAny _ X.A (assign (.Name y py) X.env (.ref D)) _ _ s1;refine wpAny_assign_Name (rh I3 hN hiy hy (show bn (.ref D) (.ref D)from rfl) (λ s2 J2 ⟨a,KG,ha⟩=>?_) hf);have aC:C≠a:=by
  rcases ha with z|z
  ·rw[z];exact fC.2.1
  ·exact J0 (fC.2.2.2.2.1 _ _ z)
 refine⟨m,hn.sameBut KG aC,λ h' gT=>?_⟩;have Zw:(ci H1 D (.lst zn)) C=none:=by rw[aU (J0 PY)];exact nC
 have I4:bd X xz (σ.set i (some (.ref D))) (ci H1 D (.lst zn)) {s2 with heap:=h',toks:=s2.toks}:=J2.turned (it:=C) (λ b o hb e=>gT.extBut b o hb e) Zw fC.2.1 fC.2.2.2.1 fC.2.2.2.2.1 fC.2.2.2.2.2;exact⟨_,_,I4,q D nD⟩
end
open PySem.Spec PyProof.Rows
def yH(x:Str)(lo hi:Option Int):Str:=⟨((x.cps.toList.drop (HT.cT x.length 0 lo)).take (HT.cT x.length x.length hi - HT.cT x.length 0 lo)).toArray⟩
theorem DM(lo hi:Option Int)(n:Nat):Builtin.Str.strSliceIndices lo hi 1 n=sliceRange ((HT.cT n 0 lo:Nat):Int) ((HT.cT n n hi:Nat):Int) 1:=by obtain⟨h1,h2,h3⟩:=kr lo hi n;rw[<- h1,<- h2];rfl
set_option tactic.hygienic true in
theorem BK(x:Str)(lo hi:Option Int):Txt.slice x lo hi=yH x lo hi:=by
 have e:((Builtin.Str.strSliceIndices lo hi 1 x.length).filterMap (x.cps[·]?)).toArray=(yH x lo hi).cps:=by rw[DM,sliceRange_one,pick_run];rfl
 unfold Txt.slice;split
 ·rename_i h;have hl:(Builtin.Str.strSliceIndices lo hi 1 x.length).length=x.length:=by simpa using h
  rw[DM,sliceRange_one,A5,u6]at hl;have b1:=HT.xF x.length 0 (G1 _) lo;have b2:=HT.xF x.length x.length (D9 _) hi;have hlen:x.cps.toList.length=x.length:=by simp[Str.length]
  unfold yH;by_cases h0:x.length=0
  ·have:x.cps.toList=[]:=i7.mp (by lia);rw[this];cases x with
   |mk c=>simp at this;subst this;simp
  ·have ea:HT.cT x.length 0 lo=0:=by lia
   have eb:HT.cT x.length x.length hi=x.length:=by lia
   rw[ea,eb,drop_zero,Nat.sub_zero,i8 (by lia)]
 ·exact H9 Str.mk e
def VP:V->Option Int->Option Int->Hp->VK->Prop:=λ x lo hi H Q=>∃z,x=.str z/\z.length<=sizeLine/\Q (.str (yH z lo hi)) H
theorem yh{h:Heap}{sl:ww}{vl vu:jp}{lo hi:Option Int}(hs:h.IsSliceOf sl vl vu .none)(pl:IsPart vl lo)(pu:IsPart vu hi):∃l u:Option (Int×Tok),h.IsSlice sl l u none/\l.map (·.1)=lo/\u.map (·.1)=hi:=by
 cases pl with
 |none=>
  cases pu with
  |none=>exact⟨none,none,hs,rfl,rfl⟩
  |int i t=>exact⟨none,some (i,t),hs,rfl,rfl⟩
 |int i t=>
  cases pu with
  |none=>exact⟨some (i,t),none,hs,rfl,rfl⟩
  |int j u=>exact⟨some (i,t),some (j,u),hs,rfl,rfl⟩
theorem MP:Bg X VP:=by intro xz s σ H x v vl vu lo hi sl Q I rx hs pl pu h;obtain⟨z,rfl,hz,q⟩:=h;obtain⟨t,rfl⟩:=rx;obtain⟨l,u,Px,rfl,rfl⟩:=yh hs pl pu;refine⟨"str",_,PySem.F.slot_str_getitem.lookup,typeIs_str _ _ _,wpAny_getItem_str_slice (l:=l) (u:=u) (st:=none) Px rfl ?_⟩;rw[<- BK]at q;exact post_val_or_str ⟨D1 (Txt.slice_le z _ _) hz,λ t' k=>⟨.str (Txt.slice z (l.map (·.1)) (u.map (·.1))),H,I.tok k,⟨_,rfl⟩,q⟩⟩
def RO:R2:=λ x y H Q=>∃z n,x=.str z/\y=.int n/\MulOk z n/\Q (.str (Txt.mul z n)) H
theorem xX:gh X (binaryOp .Mult) RO:=by intro xz s σ H x y v u Q I rx ry h;obtain⟨z,n,rfl,rfl,bt,q⟩:=h;obtain⟨t,rfl⟩:=rx;obtain⟨t',rfl⟩:=ry;exact SB.mul bt λ t' k=>⟨.str (Txt.mul z n),H,I.tok k,⟨_,rfl⟩,q⟩
def Ri(x:Str):It:=⟨λ i _=>i < x.cps.size,λ i H v H'=>H'=H/\∃c,x.cps[i]?=some c/\v=.str ⟨#[c]⟩,λ i _=>i=x.cps.size⟩
theorem uP(it:ww)(x:Str)(t:Tok)(ty:String)(hty:["enumerate","zip","dict_itemiterator","dict_reverseitemiterator","odict_iterator","itertools.zip_longest","itertools.pairwise"].contains ty=false) (W:∀A':Around,A'.handled=none->Walks P w A' it [it] [it] x.cps.size (SignAt x) (λ i h=>h.IsStrIter it ty x t i)) (self:∀(A:Around) (i:Nat) (s:kt) (Q:jp->kt->Prop) (E:jp->kt->Prop),s.heap.IsStrIter it ty x t i->Q (.ref it) s->wpAny (model P w) A (pyIter (.ref it)) Q E s):Turn P w K tg (Ri x) [it] it (λ i h=>h.IsStrIter it ty x t i) where
 mem:=by simp
 obj:=λ i h st b hb=>by
  have e:b=it:=by simpa using hb
  subst e;obtain⟨o,e,c,d⟩:=st;exact⟨o,e,λ v z=>by rw[d]at z;cases z⟩
 keep:=λ i h h' st k=>by obtain⟨o,e,c,d⟩:=st;exact⟨o,k it (by simp) o e,c,d⟩
 item:=by intro X hP hw hK hc i xz s σ H E I hf st hg;subst hP hw hK;obtain⟨f0,f1,f2,f3,f4,f5⟩:=hf it (by simp);refine(W X.A (I.ok.hd hc)).item i s _ _ hg st λ v h' tk hv xr kk=>?_;obtain⟨c,u,hx,rfl⟩:=hv;have I1:bd X xz σ H {s with heap:=h',toks:=tk}:=I.turned (λ b o hb e=>kk b o (by simpa using hb) e) f0 f1 f3 f4 f5;obtain⟨o,e,cc,d⟩:=id xr;exact⟨_,rfl,AB (s:={s with heap:=h',toks:=tk}) e cc d hty ⟨.str ⟨#[c]⟩,H,I1,⟨u,rfl⟩,⟨rfl,c,hx,rfl⟩,xr,λ b hb=>(hf b hb).1⟩⟩
 done:=by intro X hP hw hK hc i xz s σ H E I hf st hg;subst hP hw hK;obtain⟨f0,f1,f2,f3,f4,f5⟩:=hf it (by simp);have hg:i=x.cps.size:=hg;subst hg;exact(W X.A (I.ok.hd hc)).done s _ _ st λ h' tk kk=>⟨rfl,I.turned (λ b o hb e=>kk b o (by simpa using hb) e) f0 f1 f3 f4 f5⟩
 self:=self
open PySem.Spec PyProof.Rows
theorem yW.imp{r r':R2}(h:yW X r)(k:∀x y H Q,r' x y H Q->r x y H Q):yW X r':=λ value slice xz s σ H x y v u Q I rx ry q=>h value slice xz s σ H x y v u Q I rx ry (k x y H Q q)
theorem Bg.imp{r r':V->Option Int->Option Int->Hp->VK->Prop}(h:Bg X r)(k:∀x lo hi H Q,r' x lo hi H Q->r x lo hi H Q):Bg X r':=
 λ xz s σ H x v vl vu lo hi sl Q I rx hs pl pu q=>h xz s σ H x v vl vu lo hi sl Q I rx hs pl pu (k x lo hi H Q q)
def aIx(K:J5):R2:=λ x y H Q=>match x,y with
 | .ref p,.int i=>∃xs v,(gB K H p xs\/iD K H p xs)/\ip xs i=some v/\Q v H
 | .str z,.int i=>z.length<=sizeLine/\∃c,ip z.cps.toList i=some c/\Q (.str ⟨#[c]⟩) H
 |_,_=>False
theorem aR:yW X (aIx X.K):=Pn.imp λ x y H Q q=>by
 cases x <;> cases y <;> first
  |exact False.elim q
  |(obtain⟨xs,v,h|h,e,q⟩:=q
    ·exact .inl ⟨_,xs,_,v,rfl,rfl,h,e,q⟩
    ·exact .inr (.inl ⟨_,xs,_,v,rfl,rfl,h,e,q⟩))
  |(obtain⟨hz,c,e,q⟩:=q
    exact .inr (.inr ⟨_,_,c,rfl,rfl,hz,e,q⟩))
def aSl(K:J5):V->Option Int->Option Int->Hp->VK->Prop:=λ x lo hi H Q=>match x with
 | .str z=>z.length<=sizeLine/\Q (.str (yH z lo hi)) H
 | .ref a=>RL K (.ref a) lo hi H Q\/RK K (.ref a) lo hi H Q
 |_=>False
theorem ir:Bg X (aSl X.K):=(MP.or (Io.or MN)).imp λ x lo hi H Q q=>by cases x <;> first|exact False.elim q|exact .inl ⟨_,rfl,q⟩|exact .inr q
open PySem.Spec PyProof.Rows
structure bB(P:Program)(w:World)(K:J5)(mg:Str->Option jp)(base:Heap)(k:Nat)(x:Str)(ps:List Str)(sp:Sp):Prop where
 ex:∃(f:ww) (fd:FuncData),bT P w K mg base eX k f fd ps sp/\mg x=some (.ref f)/\PySem.W.keepIn K (.ref f)=true/\Binds K fd ps []
theorem bB.of{sp:Sp}(F:h_ K x qual st f fd)(G:bT P w K mg base eX k f fd ps sp)(hm:mg x=some (.ref f))(b:Binds K fd ps []):bB P w K mg base k x ps sp:=⟨f,fd,G,hm,F.kp,b⟩
def tD(sp:Sp)(t:TA):TE:=λ σ H Q=>t σ H λ vs H1=>sp vs H1 Q E0
section
variable {p pos:Pos}{t:TA}{sp:Sp}
theorem Ot(d:bB X.prog X.w X.K X.mg X.base k x ps sp)(hr:cX k X.A)(hg:Gl X x)(ha:PA X (e::es) t)(hdb:(x==("__debug__":Str))=false:=by decide)(he:starEach (e::es) X.env=(false,eval e X.env)::starEach es X.env:=by rfl) (hpl:(backTo pos (starEach es X.env)).any (·.1)=false:=by rfl):PE X (.Call (.Name x p) (e::es) [] pos) (tD sp t):=by
 obtain⟨f,fd,G,hm,kp,b⟩:=d.ex;intro xz s σ H Q I h;have h':Lu sp [] E0 t σ H Q:=by
  show t σ H λ vs H1=>sp (vs++[]) H1 Q E0;have e:(λ(vs:List V) (H1:Hp)=>sp (vs++[]) H1 Q E0)=λ vs H1=>sp vs H1 Q E0:=by funext vs H1;rw[y7]
  rw[e];exact h
 exact zT (E:=E0) G hr hg hm kp b .nil LN ha hdb he hpl xz s σ H Q I h'
end
def wN(X:Cx)(scope:Scope)(fr:List Nat):Bool:=
 (scope.kind==.function)&&(scope.names.all λ y=>(y.2 != .cell||scope.names.lookup y.1==some .cell)&&(y.2 != .local||scope.names.lookup y.1==some .local)&&(y.2 != .free||X.env.kindOf y.1==some .cell||X.env.kindOf y.1==some .free))&&
 (fr.all λ j=>decide (j < X.N.length)&&scope.names.lookup (X.N.getD j "")==some .free)
theorem bD(h:wN X scope fr=true):lL X scope fr:=by
 unfold wN at h;rw[x6,x6]at h;obtain⟨⟨h1,h2⟩,h3⟩:=h;rw[y4]at h2 h3;refine⟨by simpa using h1,λ y hy hl=>?_,λ y hy hl=>?_,λ n hn=>?_,λ j hj=>?_⟩
 ·have:=h2 y hy;simp only[x6]at this;have:=this.1.1;rw[hl]at this;simpa using this
 ·have:=h2 y hy;simp only[x6]at this;have:=this.1.2;rw[hl]at this;simpa using this
 ·have:=h2 _ hn;simp only[x6]at this;have:=this.2;simpa using this
 ·have:=h3 j hj;rw[x6]at this;exact⟨by simpa using this.1,by simpa using this.2⟩
def Wj(K:J5)(tl:TE):TI:=λ σ H R=>tl σ H λ x H1=>match x with
 | .str z=>R (Ri z) H1
 | .ref a=>(∃xs,gB K H1 a xs/\R (Vn K a) H1)\/(∃xs,iD K H1 a xs/\R (XA K a) H1)
 |_=>False
theorem Of{l:Expr}{tl:TE}(hl:PE X l tl):PI X tg l (Wj X.K tl):=by
 intro xz s σ H R I h;have uB:PE X l (λ σ' H' Q=>Q=Q/\tl σ' H' Q):=λ xz s σ H Q I q=>hl xz s σ H Q I q.2;refine dA (hl xz s σ H _ I h) λ v s1 ⟨x,H1,I1,r1,q1⟩=>?_;have fp:∀b∈[s1.heap.objs.size],jg X xz H1 b:=λ b hb=>by
  have e:b=s1.heap.objs.size:=by simpa using hb
  subst e;exact I1.lB (D9 _) (I1.bt.fresh (D9 _))
 cases x with
 |str z=>
  have q:R (Ri z) H1:=q1;obtain⟨t,rfl⟩:=r1;cases ha:z.cps.all (· < 128)
  ·exact wpAny_pyIter_wide ha ⟨s1.heap.objs.size,[s1.heap.objs.size],_,Ri z,H1,rfl,I1.kept (t':=s1.toks) λ b o e=>j0 _ e,uP _ z t "str_iterator" (by decide) (λ A' hA=>Walks.strWide hA _ z t) (λ _ _ _ _ _ st h=>wpAny_pyIter_striter_wide st h),⟨_,m8 _ rfl,rfl,rfl⟩,fp,q⟩
  ·exact wpAny_pyIter_ascii ha ⟨s1.heap.objs.size,[s1.heap.objs.size],_,Ri z,H1,rfl,I1.kept (t':=s1.toks) λ b o e=>j0 _ e,uP _ z t "str_ascii_iterator" (by decide) (λ A' hA=>Walks.strAscii hA _ z t) (λ _ _ _ _ _ st h=>wpAny_pyIter_striter_ascii st h),⟨_,m8 _ rfl,rfl,rfl⟩,fp,q⟩
 |ref a=>
  cases(show v=Value.ref a from r1);rcases q1 with⟨xs,hq,q⟩|⟨xs,hq,q⟩
  ·obtain⟨aB,rv,p,hz⟩:=I1.list hq;exact wpAny_pyIter_list p.isList ⟨s1.heap.objs.size,[s1.heap.objs.size],_,_,H1,rfl,I1.kept (t':=s1.toks) λ b o e=>j0 _ e,BC a _,⟨_,m8 _ rfl,rfl,rfl⟩,fp,q⟩
  ·obtain⟨aB,rv,p,hz⟩:=I1.tuple hq;exact wpAny_pyIter_tuple (show s1.heap.IsTuple a aB.toArray from p) ⟨s1.heap.objs.size,[s1.heap.objs.size],_,_,H1,rfl,I1.kept (t':=s1.toks) λ b o e=>j0 _ e,xo a _,⟨_,m8 _ rfl,rfl,rfl⟩,fp,q⟩
 |_=>exact False.elim q1
open PySem.Spec PyProof.Rows
inductive IK where
 |i (n:Int)
 |t (ks:List IK)
noncomputable instance:DecidableEq IK:=λ a b=>Classical.propDecidable (a=b)
mutual
def IK.dep:IK->Nat
 | .i _=>0
 | .t ks=>IK.lE ks+1
def IK.lE:List IK->Nat
 |[]=>0
 |k::ks=>max k.dep (IK.lE ks)
end
mutual
def Gk:IK->Int
 | .i n=>hashInt n
 | .t ks=>reduceHash (Builtin.Tuple.tupleHashOf (tL ks))
def tL:List IK->List Int
 |[]=>[]
 |k::ks=>Gk k::tL ks
end
mutual
def Dm:IK->Nat
 | .i _=>1
 | .t ks=>jb ks+1
def jb:List IK->Nat
 |[]=>0
 |k::ks=>Dm k+jb ks
end
def b2i(b:Bool):Int:=if b then 1 else 0
mutual
def dR(h:Heap):IK->jp->Prop
 | .i n,v=>(∃t,v=.int n t)\/∃b:Bool,v=.bool b/\n=b2i b
 | .t ks,v=>∃(a:ww) (o:Obj) (aB:List jp) (n:Nat),v=.ref a/\h.get? a=some o/\o.cls=.type "tuple"/\o.data=.seq aB.toArray n/\cV h ks aB
def cV(h:Heap):List IK->List jp->Prop
 |[],vs=>vs=[]
 |k::ks,vs=>∃v r,vs=v::r/\dR h k v/\cV h ks r
end
mutual
def wZ:IK->PyData->Prop
 | .i n,d=>d=.int n\/∃b:Bool,d=.bool b/\n=b2i b
 | .t ks,d=>∃ds,d=.tuple ds/\ja ks ds
def ja:List IK->List PyData->Prop
 |[],ds=>ds=[]
 |k::ks,ds=>∃d r,ds=d::r/\wZ k d/\ja ks r
end
theorem vY:∀ks:List IK,tL ks=ks.map Gk
 |[]=>by unfold tL;rfl
 |k::ks=>by unfold tL;rw[vY ks];rfl
theorem vX:∀(ks ls:List IK),jb (ks++ls)=jb ks+jb ls
 |[],ls=>by rw[nil_append];unfold jb;split <;> lia
 |k::ks,ls=>by rw[cons_append];have:=vX ks ls;show Dm k+jb (ks++ls)=Dm k+jb ks+jb ls;lia
theorem Gi(k:IK):jb [k]=Dm k:=by show Dm k+jb []=Dm k;unfold jb;lia
theorem Gj:jb []=0:=by unfold jb;rfl
theorem lD:∀{ks:List IK} {k:IK},k∈ks->k.dep<=IK.lE ks
 |k0::ks,k,h=>by
  show k.dep<=max k0.dep (IK.lE ks);rcases C4.mp h with rfl|h
  ·exact Nat.le_max_left _ _
  ·exact D1 (lD h) (Nat.le_max_right _ _)
theorem rQ{b:Bool}{Q:Int->kt->Prop}(h:Q (hashInt (b2i b)) {s with toks:=s.toks+1}):wpAny (model prog w) A (pyHash (.bool b)) Q E s:=by have hT:s.TypeIs (.bool b) "bool":=rfl;have hr:=rawHash_range (b2i b);unfold pyHash;have hv:[Value.bool b].any Value.onHeap=false:=rfl;refine G4 ?_;rw[cRoomFor,J4 (by rw[hv];exact o6)];refine G5 ?_;refine G4 (B1 hT F.slot_bool_hash.lookup ?_);show wpAny _ _ (if(some (Value.builtin "int.__hash__")==some Value.none)=true then _ else _) Q E s;rw[J4 (by rw[beq_builtin_none];exact o6)];refine G4 (B1 hT F.slot_bool_hash.lookup ?_);show wpAny _ _ (callSpecialIfBoundUnlessNone? (.bool b) "__hash__" _ >>= _) Q E s;refine G4 (wpAny_callSpecialIfBoundUnlessNone?_slot hT F.slot_bool_hash (x5 F.slot_bool_hash hT entry_int_hash (show wpAny _ _ (do ret (<- mkInt (rawHash (b2i b)))) _ _ s from wpAny_ret_mkInt ?_) (args_int_hash _)));show wpAny _ _ (if(decide (-(2:Int)^63<=rawHash (b2i b))&&decide (rawHash (b2i b) < 2^63))=true then _ else _) Q E _;rw[J3 (by rw[B3 hr.1,B3 hr.2];rfl)];exact G5 h
theorem KD:∀(n:Nat) (k:IK),k.dep<=n->∀{A:Around} {E:jp->kt->Prop} {s:kt} {v:jp} {Q:Int->kt->Prop},A.units+k.dep < cLine->dR s.heap k v->Q (Gk k) {s with toks:=s.toks+Dm k}->wpAny (model prog w) A (pyHash v) Q E s:=by
 intro n
 induction n with
 |zero=>
  intro k hk A E s v Q hu hi h;cases k with
  |i m=>
   unfold dR at hi;unfold Gk Dm at h;rcases hi with⟨t,rfl⟩|⟨b,rfl,rfl⟩
   ·exact wpAny_pyHash_int h
   ·exact rQ h
  |t ks=>unfold IK.dep at hk;lia
 |succ n ih=>
  intro k hk A E s v Q hu hi h;cases k with
  |i m=>
   unfold dR at hi;unfold Gk Dm at h;rcases hi with⟨t,rfl⟩|⟨b,rfl,rfl⟩
   ·exact wpAny_pyHash_int h
   ·exact rQ h
  |t ks=>
   unfold dR at hi;obtain⟨a,o,aB,m,rfl,ho,hc,hd,hits⟩:=hi;have ll:IK.lE ks<=n:=by unfold IK.dep at hk;lia
   have hu1:A.units+(IK.lE ks+1) < cLine:=by unfold IK.dep at hu;exact hu
   have hT:s.TypeIs (.ref a) "tuple":=⟨o,ho,hc⟩;unfold pyHash;(first|unfold pyHashByItsType|skip);(first|refine G4 (wpAny_cRoomFor_or (.inr (show A.units < cLine by lia)) ?_)|skip);refine G4 (B1 hT F.slot_tuple_hash.lookup ?_);show wpAny _ _ (if(some (Value.builtin "tuple.__hash__")==some Value.none)=true then _ else _) Q E s;rw[J4 (by rw[beq_builtin_none];exact o6)];refine G4 (B1 hT F.slot_tuple_hash.lookup ?_);show wpAny _ _ (callSpecialIfBoundUnlessNone? (.ref a) "__hash__" _ >>= _) Q E s;refine G4 (wpAny_callSpecialIfBoundUnlessNone?_slot hT F.slot_tuple_hash (x5 F.slot_tuple_hash hT F.entry_tuple_hash ?_ (F.args_tuple_hash_1 _)));show wpAny _ _ (Builtin.Tuple.tupleItemsOf (.ref a) >>= _) _ _ s;refine G4 (wpAny_tupleItemsOf ho hd (G4 ?_));rw[<- Array.forIn_toList];refine wpAny_forIn_list _ (λ rest (b:Array Int) s'=>∃done left,ks=done++left/\cV s.heap left rest/\b.toList=done.map Gk/\s'={s with toks:=s.toks+jb done}) _ ?_ ?_ _ _ ⟨[],ks,rfl,hits,rfl,by rw[Gj];rfl⟩
   ·rintro x rest b s' ⟨done,left,rfl,hl,hb,rfl⟩;cases left with
    |nil=>unfold cV at hl;cases hl
    |cons k1 left=>
     unfold cV at hl;obtain⟨v,r,e,h1,h2⟩:=hl;cases e;have hm:=lD (ks:=done++k1::left) (k:=k1) (by simp);refine G4 (ih k1 (by lia) (A:=A.in1) (show A.units+1+_ < cLine by lia) h1 ?_);have fin:∃d2 l2,done++k1::left=d2++l2/\cV s.heap l2 rest/\(b.push (Gk k1)).toList=d2.map Gk/\({s with toks:=s.toks+jb done+Dm k1}:kt)={s with toks:=s.toks+jb d2}:=
      ⟨done++[k1],left,by simp,h2,by simp[hb],by rw[vX,Gi,Nat.add_assoc]⟩
     first|exact G5 fin|exact G4 (G5 (G5 fin))
   ·rintro b s' ⟨done,left,rfl,hl,hb,rfl⟩;cases left with
    |cons k1 left=>unfold cV at hl;obtain⟨v,r,e,_⟩:=hl;cases e
    |nil=>
     rw[y7]at h;show wpAny _ _ (retInt (Builtin.Tuple.tupleHashOf b.toList)) _ _ _;rw[hb,<- vY];refine wpAny_ret_mkInt ?_;show wpAny _ _ (if(decide (-(2:Int)^63<=Builtin.Tuple.tupleHashOf (tL done))&&decide (Builtin.Tuple.tupleHashOf (tL done) < 2^63))=true then _ else _) Q E _;unfold Gk Dm reduceHash at h;by_cases hr:(decide (-(2:Int)^63<=Builtin.Tuple.tupleHashOf (tL done))&&decide (Builtin.Tuple.tupleHashOf (tL done) < 2^63))=true
     ·rw[J3 hr]at h ⊢;exact G5 (by simpa[Nat.add_assoc]using h)
     ·rw[J4 hr]at h ⊢;exact G4 (G6 (G5 (by simpa[Nat.add_assoc]using h)))
open PySem.Spec PyProof.Rows
mutual
theorem pI{h:Heap}:∀(k:IK) {v:jp},dR h k v->∃d as,wZ k d/\Reads h v d as
 | .i n,v,x=>by
  unfold dR at x;unfold wZ;rcases x with⟨t,rfl⟩|⟨b,rfl,rfl⟩
  ·exact⟨_,_,.inl rfl,Reads.int n t⟩
  ·exact⟨_,_,.inr ⟨b,rfl,rfl⟩,Reads.bool b⟩
 | .t ks,v,x=>by unfold dR at x;obtain⟨a,o,aB,n,rfl,ho,hc,hd,q⟩:=x;obtain⟨ds,as,p,r⟩:=rJ ks q;unfold wZ;exact⟨_,_,⟨ds,rfl,p⟩,reads_tuple_at ho hc hd (by simpa using r)⟩
theorem rJ{h:Heap}:∀(ks:List IK) {vs:List jp},cV h ks vs->∃ds as,ja ks ds/\ReadsAll h vs ds as
 |[],vs,x=>by unfold cV at x;subst x;unfold ja;exact⟨_,_,rfl,ReadsAll.nil⟩
 |k::ks,vs,x=>by unfold cV at x;obtain⟨v,r,rfl,h1,h2⟩:=x;obtain⟨d,as,p,a⟩:=pI k h1;obtain⟨ds,bs,q,b⟩:=rJ ks h2;unfold ja;exact⟨_,_,⟨d,ds,rfl,p,q⟩,ReadsAll.cons a b⟩
end
mutual
theorem yi:∀(k:IK) {d:PyData},wZ k d->d.canLay0=true
 | .i n,d,x=>by unfold wZ at x;rcases x with rfl|⟨b,rfl,_⟩ <;> simp[PyData.canLay0]
 | .t ks,d,x=>by unfold wZ at x;obtain⟨ds,rfl,q⟩:=x;simp only[PyData.canLay0];exact Aq ks q
theorem Aq:∀(ks:List IK) {ds:List PyData},ja ks ds->PyData.canLayAll0 ds=true
 |[],ds,x=>by unfold ja at x;subst x;simp[PyData.canLayAll0]
 |k::ks,ds,x=>by unfold ja at x;obtain⟨d,r,rfl,p,q⟩:=x;simp only[PyData.canLayAll0];rw[yi k p,Aq ks q];rfl
end
mutual
theorem yj:∀(k:IK) {d:PyData},wZ k d->d.depth=k.dep
 | .i n,d,x=>by unfold wZ at x;unfold IK.dep;rcases x with rfl|⟨b,rfl,_⟩ <;> simp[PyData.depth]
 | .t ks,d,x=>by unfold wZ at x;obtain⟨ds,rfl,q⟩:=x;unfold IK.dep;simp only[PyData.depth];rw[Ar ks q]
theorem Ar:∀(ks:List IK) {ds:List PyData},ja ks ds->PyData.depthAll ds=IK.lE ks
 |[],ds,x=>by unfold ja at x;subst x;unfold IK.lE;simp[PyData.depthAll]
 |k::ks,ds,x=>by unfold ja at x;obtain⟨d,r,rfl,p,q⟩:=x;unfold IK.lE;simp only[PyData.depthAll];rw[yj k p,Ar ks q]
end
theorem Kp{n m:Int}{d e:PyData}(x:d=.int n\/∃b:Bool,d=.bool b/\n=b2i b)(y:e=.int m\/∃b:Bool,e=.bool b/\m=b2i b):PyData.eqv d e=true↔n=m:=by
 rcases x with rfl|⟨b,rfl,rfl⟩ <;> rcases y with rfl|⟨c,rfl,rfl⟩
 ·simp[PyData.eqv]
 ·simp[PyData.eqv,b2i]
 ·simp[PyData.eqv,b2i]
 ·cases b <;> cases c <;> simp[PyData.eqv,b2i]
mutual
theorem LZ:∀(a b:IK) {d e:PyData},wZ a d->wZ b e->(PyData.eqv d e=true↔a=b)
 | .i n,.i m,d,e,x,y=>by unfold wZ at x y;rw[Kp x y];simp
 | .i n,.t ks,d,e,x,y=>by unfold wZ at x y;obtain⟨ds,rfl,_⟩:=y;rcases x with rfl|⟨b,rfl,_⟩ <;> simp[PyData.eqv]
 | .t ks,.i n,d,e,x,y=>by unfold wZ at x y;obtain⟨ds,rfl,_⟩:=x;rcases y with rfl|⟨b,rfl,_⟩ <;> simp[PyData.eqv]
 | .t ks,.t ls,d,e,x,y=>by unfold wZ at x y;obtain⟨ds,rfl,p⟩:=x;obtain⟨es,rfl,q⟩:=y;simp only[PyData.eqv,IK.t.injEq];exact Gd ks ls p q
theorem Gd:∀(as bs:List IK) {ds es:List PyData},ja as ds->ja bs es->(PyData.eqvAll ds es=true↔as=bs)
 |[],[],ds,es,x,y=>by unfold ja at x y;subst x;subst y;simp[PyData.eqvAll]
 |[],b::bs,ds,es,x,y=>by unfold ja at x y;obtain⟨d,r,rfl,_⟩:=y;subst x;simp[PyData.eqvAll]
 |a::as,[],ds,es,x,y=>by unfold ja at x y;obtain⟨d,r,rfl,_⟩:=x;subst y;simp[PyData.eqvAll]
 |a::as,b::bs,ds,es,x,y=>by unfold ja at x y;obtain⟨d,r,rfl,p1,p2⟩:=x;obtain⟨e,r2,rfl,q1,q2⟩:=y;simp only[PyData.eqvAll,x6,List.cons.injEq];rw[LZ a b p1 q1,Gd as bs p2 q2]
end
mutual
theorem Gh{h:Heap}:∀(x y:IK) {v:jp},dR h x v->dR h y v->x=y
 | .i n,.i m,v,a,b=>by
  unfold dR at a b;rcases a with⟨t,rfl⟩|⟨c,rfl,rfl⟩ <;> rcases b with⟨u,e⟩|⟨d,e,f⟩ <;> cases e
  ·rfl
  ·rw[f]
 | .i n,.t ks,v,a,b=>by unfold dR at a b;obtain⟨_,_,_,_,e,_⟩:=b;rcases a with⟨t,rfl⟩|⟨c,rfl,rfl⟩ <;> cases e
 | .t ks,.i n,v,a,b=>by unfold dR at a b;obtain⟨_,_,_,_,e,_⟩:=a;rcases b with⟨t,rfl⟩|⟨c,rfl,rfl⟩ <;> cases e
 | .t ks,.t ls,v,a,b=>by unfold dR at a b;obtain⟨a1,o1,i1,n1,rfl,g1,_,d1,q1⟩:=a;obtain⟨a2,o2,i2,n2,e,g2,_,d2,q2⟩:=b;cases e;rw[g1]at g2;cases g2;rw[d1]at d2;cases d2;rw[As ks ls q1 q2]
theorem As{h:Heap}:∀(xs ys:List IK) {vs:List jp},cV h xs vs->cV h ys vs->xs=ys
 |[],[],vs,_,_=>rfl
 |[],y::ys,vs,a,b=>by unfold cV at a b;subst a;obtain⟨_,_,e,_⟩:=b;cases e
 |x::xs,[],vs,a,b=>by unfold cV at a b;subst b;obtain⟨_,_,e,_⟩:=a;cases e
 |x::xs,y::ys,vs,a,b=>by unfold cV at a b;obtain⟨v,r,rfl,a1,a2⟩:=a;obtain⟨v2,r2,e,b1,b2⟩:=b;cases e;rw[Gh x y a1 b1,As xs ys a2 b2]
end
theorem Pt{h:Heap}{k:IK}{v:jp}(x:dR h k v){d:ww}{es:Array DictEntry}(ho:h.get? d=some o)(hd:o.data=.dict es ep)(hs:Heap.SameBut d h h'):dR h' k v:=by
 have gen:∀(n:Nat) (k:IK),k.dep<=n->∀v,dR h k v->dR h' k v:=by
  intro n
  induction n with
  |zero=>
   intro k hk v x;cases k with
   |i m=>unfold dR at x ⊢;exact x
   |t ks=>unfold IK.dep at hk;lia
  |succ n ih=>
   intro k hk v x;cases k with
   |i m=>unfold dR at x ⊢;exact x
   |t ks=>
    unfold dR at x ⊢;obtain⟨a,o',aB,m,e,CF,hc,qt,r⟩:=x;have fN:a≠d:=λ z=>by subst z;rw[ho]at CF;cases CF;rw[hd]at qt;cases qt
    refine⟨a,o',aB,m,e,(hs.2 a fN).trans CF,hc,qt,?_⟩;have ll:IK.lE ks<=n:=by unfold IK.dep at hk;lia
    have all:∀(ls:List IK) (vs:List jp),(∀l∈ls,l.dep<=n)->cV h ls vs->cV h' ls vs:=by
     intro ls
     induction ls with
     |nil=>intro vs _ y;unfold cV at y ⊢;exact y
     |cons l ls ZJ=>intro vs hl y;unfold cV at y ⊢;obtain⟨v,r,e,h1,h2⟩:=y;exact⟨v,r,e,ih l (hl l (n9 ..)) v h1,ZJ r (λ z hz=>hl z (k5 _ hz)) h2⟩
    exact all ks aB (λ l hl=>D1 (lD hl) ll) r
 exact gen k.dep k (D9 _) v x
theorem Gg:∀(n:Nat) (k:IK),k.dep<=n->∀{A:Around} {E:jp->kt->Prop} {s:kt} {v:jp} {Q:Bool->kt->Prop},dR s.heap k v->Q true s->wpAny (model prog w) A (eqIsQuiet n v) Q E s:=by
 intro n
 induction n with
 |zero=>
  intro k hk A E s v Q hi h;cases k with
  |i m=>unfold dR at hi;rcases hi with⟨t,rfl⟩|⟨b,rfl,_⟩ <;> rw[eqIsQuiet_byValue _ rfl] <;> exact G5 h
  |t ks=>unfold IK.dep at hk;lia
 |succ n ih=>
  intro k hk A E s v Q hi h;cases k with
  |i m=>unfold dR at hi;rcases hi with⟨t,rfl⟩|⟨b,rfl,_⟩ <;> rw[eqIsQuiet_byValue _ rfl] <;> exact G5 h
  |t ks=>
   unfold dR at hi;obtain⟨a,o,aB,m,rfl,ho,hc,hd,hits⟩:=hi;have ll:IK.lE ks<=n:=by unfold IK.dep at hk;lia
   have hT:s.TypeIs (.ref a) "tuple":=⟨o,ho,hc⟩;unfold eqIsQuiet;refine G4 (B1 hT F.slot_tuple_eq.lookup ?_);show wpAny _ _ (isInstance (.ref a) (.type "tuple") >>= _) _ _ s;refine G4 (y3 hT isSubtype_tuple_tuple ?_);simp only[Bool.not_true,o8,G9];refine G4 (B4 ho hd (G4 ?_));show wpAny _ _ (forIn aB.toArray _ _) _ _ s;rw[<- Array.forIn_toList];refine wpAny_forIn_list _ (λ rest r s'=>r.1=none/\s'=s/\∃left,(∀l∈left,l∈ks)/\cV s.heap left rest) _ ?_ ?_ _ _ ⟨rfl,rfl,ks,λ l hl=>hl,hits⟩
   ·rintro x rest r s' ⟨hr,rfl,left,Gn,hl⟩;cases left with
    |nil=>unfold cV at hl;cases hl
    |cons k1 left=>unfold cV at hl;obtain⟨v,r',e,h1,h2⟩:=hl;cases e;refine G4 (ih k1 (D1 (lD (Gn k1 (n9 ..))) ll) h1 ?_);simp only[Bool.not_true,o8,G9];exact G5 ⟨rfl,rfl,left,λ l hl=>Gn l (k5 _ hl),h2⟩
   ·rintro⟨r1,r2⟩ s' ⟨hr,rfl,_⟩;simp only at hr;subst hr;exact G5 h
def iG(prog:Program)(w:World):HeapKind prog w IK where
 is:=λ h k a=>k.dep<=5/\dR h k (.ref a)
 hash:=Gk
 draws:=Dm
 room:=λ A=>A.units+8 < cLine
 inj:=λ hx hy=>Gh _ _ hx.2 hy.2
 keeps:=λ x ho hd hs=>⟨x.1,Pt x.2 ho hd hs⟩
 pyHash:=λ hu hk h=>KD 5 _ hk.1 (by have:=hk.1;lia) hk.2 h
 eqBool:=λ{A E s x y a b Q} hu hx hy h=>by
  obtain⟨dx,as,px,ra⟩:=pI x hx.2;obtain⟨dy,bs,py,rb⟩:=pI y hy.2;refine SeqAt.eqAt_reads dx dy A s _ _ _ _ ra rb (yi x px) (yi y py) ?_ prog w E Q ?_
  ·rw[yj x px,yj y py];have:=hx.1;have:=Nat.min_le_left x.dep y.dep;lia
  ·have e:PyData.eqv dx dy=decide (x=y):=by rw[y6,decide_eq_true_eq];exact LZ x y px py
   rw[e];exact h
 quiet:=λ hk h=>Gg 8 _ (D1 hk.1 (by decide)) hk.2 h
open PySem.Spec PyProof.Rows
section
variable {κ:Type}[DecidableEq κ]
def jO(kvs:List (κ×V))(k:κ):Option V:=(kvs.find? λ kv=>decide (kv.1=k)).map (·.2)
def putK(kvs:List (κ×V))(k:κ)(v:V):List (κ×V):=
 if(kvs.any λ kv=>decide (kv.1=k))=true then kvs.map (λ kv=>if kv.1=k then(kv.1,v)else kv)else kvs++[(k,v)]
theorem oy{p:κ×V}{r:List (κ×V)}{k:κ}(e:p.1=k):jO (p::r) k=some p.2:=by simp[jO,y8,e]
theorem oA{p:κ×V}{r:List (κ×V)}{k:κ}(e:¬p.1=k):jO (p::r) k=jO r k:=by simp[jO,y8,e]
theorem oB(k:κ):∀kvs:List (κ×V),(kvs.any λ kv=>decide (kv.1=k))=(jO kvs k).isSome
 |[]=>rfl
 |p::r=>by
  rw[any_cons];by_cases e:p.1=k
  ·simp only[oy e,B3 e,Bool.true_or,Option.isSome_some]
  ·rw[oA e,y9 e,Bool.false_or];exact oB k r
theorem iY(kvs:List (κ×V))(k:κ)(v:V):(putK kvs k v).length<=kvs.length+1:=by
 unfold putK;split
 ·rw[A5];lia
 ·rw[o7,x3,length_nil];lia
theorem mG.fG{o:Option V}{u:Option jp}(r:mG o u):o.isSome=u.isSome:=by
 cases o with
 |none=>cases u with
  |none=>rfl
  |some _=>exact(show False from r).elim
 |some _=>cases u with
  |none=>exact(show False from r).elim
  |some _=>rfl
theorem KV.val{kvs:List (κ×V)}{vs:List (κ×jp)}(r:KV kvs vs)(k:κ):mG (jO kvs k) (valueAt vs k):=by
 unfold KV at r
 induction r with
 |nil=>exact True.intro
 |@cons p q ps qs h t ih=>
  obtain⟨h1,h2⟩:=h;by_cases e:p.1=k
  ·have e':q.1=k:=h1.symm.trans e;have b:valueAt (q::qs) k=some q.2:=by simp[valueAt,y8,e']
   rw[oy e,b];exact h2
  ·have e':¬q.1=k:=λ z=>e (h1.trans z);have b:valueAt (q::qs) k=valueAt qs k:=by simp[valueAt,y8,e']
   rw[oA e,b];exact ih
theorem KV.any{kvs:List (κ×V)}{vs:List (κ×jp)}(r:KV kvs vs)(k:κ):(kvs.any λ kv=>decide (kv.1=k))=vs.any λ kv=>decide (kv.1=k):=by
 unfold KV at r
 induction r with
 |nil=>rfl
 |cons h t ih=>rw[any_cons,any_cons,ih,h.1]
theorem KV.Ep{kvs:List (κ×V)}{vs:List (κ×jp)}(r:KV kvs vs)(k:κ){y:V}(ry:bn y u):KV (kvs.map λ kv=>if kv.1=k then(kv.1,y)else kv) (vs.map λ kv=>if kv.1=k then(kv.1,u)else kv):=by
 unfold KV at r ⊢
 induction r with
 |nil=>exact .nil
 |@cons p q ps qs h t ih=>
  rw[C3,C3];refine .cons ?_ ih;obtain⟨h1,h2⟩:=h;by_cases e:p.1=k
  ·rw[J3 e,J3 (h1.symm.trans e)];exact⟨h1,ry⟩
  ·rw[J4 e,J4 (λ z=>e (h1.trans z))];exact⟨h1,h2⟩
theorem KV.put{kvs:List (κ×V)}{vs:List (κ×jp)}(r:KV kvs vs)(k:κ){y:V}(ry:bn y u):KV (putK kvs k y) (stored vs k u):=by
 unfold putK stored;rw[r.any k];by_cases e:(vs.any λ kv=>decide (kv.1=k))=true
 ·rw[J3 e,J3 e];exact r.Ep k ry
 ·rw[J4 e,J4 e];exact Paired.snoc r ⟨rfl,ry⟩
theorem KV.length{kvs:List (κ×V)}{vs:List (κ×jp)}(r:KV kvs vs):kvs.length=vs.length:=B9 r
end
theorem rF{k:Key}(r:bn (kV k) u):(c_ P w).is k u=true:=by
 cases k with
 |inl i=>obtain⟨t,e⟩:=(show ∃t,u=Value.int i t from r);subst e;exact vM P w i t
 |inr x=>obtain⟨t,e⟩:=(show ∃t,u=Value.str x t from r);subst e;exact vL P w x t
theorem rG:∀{ks:List Key} {us:List jp},ce (ks.map kV) us->ItemsAre (c_ P w) ks us
 |[],_,r=>by rw[D4]at r;cases r;exact .nil
 |k::ks,_,r=>by
  rw[C3]at r;cases r with
  |cons h t=>exact .cons (rF h) (rG t)
abbrev KT(H:Hp):List (List Key×V)->List (List Key×ww×jp)->Prop:=Paired λ p q=>p.1=q.1/\H q.2.1=some (.tup (p.1.map kV))/\bn p.2 q.2.2
theorem KT.val{xs:List (List Key×ww×jp)}(r:KT H kvs xs)(k:List Key):mG (jO kvs k) ((atKey xs k).map (·.2)):=by
 induction r with
 |nil=>exact True.intro
 |@cons p q ps qs h t ih=>
  obtain⟨h1,_,h2⟩:=h;by_cases e:p.1=k
  ·have e':q.1=k:=h1.symm.trans e;have b:atKey (q::qs) k=some q.2:=by simp[atKey,y8,e']
   rw[oy e,b];exact h2
  ·have e':¬q.1=k:=λ z=>e (h1.trans z);have b:atKey (q::qs) k=atKey qs k:=by simp[atKey,y8,e']
   rw[oA e,b];exact ih
theorem KT.Ep{xs:List (List Key×ww×jp)}(r:KT H kvs xs)(k:List Key){y:V}(ry:bn y u):KT H (kvs.map λ kv=>if kv.1=k then(kv.1,y)else kv) (xs.map (putAt k u)):=by
 induction r with
 |nil=>exact .nil
 |@cons p q ps qs h t ih=>
  rw[C3,C3];refine .cons ?_ ih;obtain⟨h1,h2,h3⟩:=h;unfold putAt;by_cases e:p.1=k
  ·rw[J3 e,J3 (h1.symm.trans e)];exact⟨h1,h2,ry⟩
  ·rw[J4 e,J4 (λ z=>e (h1.trans z))];exact⟨h1,h2,h3⟩
theorem KT.put{xs:List (List Key×ww×jp)}(r:KT H kvs xs)(k:List Key){y:V}(hb:H b=some (.tup (k.map kV)))(ry:bn y u):KT H (putK kvs k y) (storedH xs k b u):=by
 have e:(kvs.any λ kv=>decide (kv.1=k))=(atKey xs k).isSome:=by rw[oB,(r.val k).fG,u7]
 unfold putK storedH;rw[e];by_cases q:(atKey xs k).isSome=true
 ·rw[J3 q,J3 q];exact r.Ep k ry
 ·rw[J4 q,J4 q];exact Paired.snoc r ⟨rfl,hb,ry⟩
theorem KT.keeps{xs:List (List Key×ww×jp)}(r:KT H kvs xs)(ht:∀b ys,H b=some (.tup ys)->H' b=some (.tup ys)):KT H' kvs xs:=
 Paired.qA r λ _ _ z=>⟨z.1,ht _ _ z.2.1,z.2.2⟩
section
variable {h:Heap}
theorem LG{u:HO}(ok:iz P w H h)(e:Rd H a u):bO P w H h a u:=e.ok ok
theorem rU{kvs:List (Key×V)}(ok:iz P w H h)(e:Rd H a (.dK kvs)):kvs.length<=sizeLine/\(a==sysModules)=false/\∃vs,KV kvs vs/\h.DictOf (c_ P w) a vs:=
 show bO P w H h a (.dK kvs)from LG ok e
theorem GS{kvs:List (Key×V)}(ok:iz P w H h)(e:H a=some (.dK kvs)):kvs.length<=sizeLine/\(a==sysModules)=false/\∃vs,KV kvs vs/\h.DictOf (c_ P w) a vs:=rU ok (.inl e)
theorem pE{ks:List Key}(ok:iz P w H h)(e:H a=some (.tup (ks.map kV))):(tupleKind (c_ P w)).is h ks a:=by obtain⟨_,aB,r,o,h1,h2,n,h3⟩:=(show bO P w H h a (.tup (ks.map kV))from ok a _ e);exact⟨o,aB.toArray,n,h1,h2,h3,by simpa using rG r⟩
theorem wg(ok:iz P w H h)(e:Rd H a (.dT kvs)):kvs.length<=sizeLine/\(a==sysModules)=false/\
  ∃xs,KT H kvs xs/\h.DictOfH (tupleKind (c_ P w)) a xs:=by
 obtain⟨z,y,xs,r,o,es,ep,h1,h2,h3,h4,h5⟩:=(show bO P w H h a (.dT kvs)from LG ok e);refine⟨z,y,xs,r,o,es,ep,h1,h2,h3,h4,λ x hx=>?_,h5⟩;have all:∀{l:List (List Key×V)} {m:List (List Key×ww×jp)},KT H l m->∀x∈m,(tupleKind (c_ P w)).is h x.1 x.2.1:=by
  intro l m q
  induction q with
  |nil=>intro x hx;exact nomatch hx
  |@cons p q ps qs hq t ih=>
   intro x hx;rcases C4.mp hx with e|hx
   ·subst e;exact pE ok (by rw[<- hq.1];exact hq.2.1)
   ·exact ih x hx
 exact all r x hx
theorem Tt(ok:iz P w H h)(e:H a=some (.dT kvs)):kvs.length<=sizeLine/\(a==sysModules)=false/\
  ∃xs,KT H kvs xs/\h.DictOfH (tupleKind (c_ P w)) a xs:=wg ok (.inl e)
end
def qP(H:Hp)(a:ww)(y:V)(r:Option V):Prop:=
 (∃kvs k,Rd H a (.dK kvs)/\y=kV k/\r=jO kvs k)\/∃kvs k b,Rd H a (.dT kvs)/\y=.ref b/\H b=some (.tup (k.map kV))/\r=jO kvs k
def Hs(H:Hp)(a:ww)(y v:V)(H':Hp):Prop:=
 (∃kvs k,H a=some (.dK kvs)/\y=kV k/\kvs.length < sizeLine/\H'=ci H a (.dK (putK kvs k v)))\/
 ∃kvs k b,H a=some (.dT kvs)/\y=.ref b/\H b=some (.tup (k.map kV))/\kvs.length < sizeLine/\H'=ci H a (.dT (putK kvs k v))
theorem qP.k9{kvs:List (Key×V)}{k:Key}(e:H a=some (.dK kvs)):qP H a (kV k) (jO kvs k):=.inl ⟨kvs,k,.inl e,rfl,rfl⟩
theorem Hs.k9{kvs:List (Key×V)}{k:Key}(e:H a=some (.dK kvs))(hl:kvs.length < sizeLine):Hs H a (kV k) v (ci H a (.dK (putK kvs k v))):=.inl ⟨kvs,k,e,rfl,hl,rfl⟩
section
variable {y:V}{r:jp}{o:Option V}
theorem bd.big(I:bd X xz σ H s):sysModules < s.heap.objs.size:=by have h:mainGlobals < s.heap.objs.size:=(I.mod.glob.keeps I.bk).lt;exact Nat.lt_trans (by decide) h
theorem CS(hu:A.units+1 < cLine)(I:bd X xz σ H s)(g:qP H a y (some v))(ry:bn y u)(h:∀w' s',bd X xz σ H s'->bn v w'->Q w' s'):wpAny (model X.prog X.w) A (getItem (.ref a) u) Q E s:=by
 rcases g with⟨kvs,k,e,ey,l⟩|⟨kvs,k,b,e,ey,eb,l⟩
 ·subst ey;obtain⟨z,hd,vs,rel,dd⟩:=rU I.bt e;obtain⟨w',hw,jQ⟩:=mG.some_of (v:=v) (o:=valueAt vs k) (by rw[l];exact rel.val k);exact wpAny_getItem_of (rF ry) dd.mapOf hw (h w' _ (I.tok _) jQ)
 ·subst ey;cases(show u=Value.ref b from ry);obtain⟨z,hd,xs,rel,dd⟩:=wg I.bt e;obtain⟨w',hw,jQ⟩:=mG.some_of (v:=v) (o:=(atKey xs k).map (·.2)) (by rw[l];exact rel.val k);obtain⟨p,hp,fM⟩:=Option.map_eq_some_iff.mp hw;refine wpAny_getItem_heap (q9 hu) (pE I.bt eb) dd hp ?_;rw[fM];exact h w' _ (I.tok _) jQ
theorem Xs(hu:A.units+1 < cLine)(I:bd X xz σ H s)(g:qP H a y o)(ry:bn y u)(h:∀s',bd X xz σ H s'->Q (.bool o.isSome) s'):wpAny (model X.prog X.w) A (compareOp .In u (.ref a)) Q E s:=by
 rcases g with⟨kvs,k,e,ey,l⟩|⟨kvs,k,b,e,ey,eb,l⟩
 ·subst ey;obtain⟨z,hd,vs,rel,dd⟩:=rU I.bt e;refine wpAny_in_of (rF ry) hd dd.mapOf ?_;rw[<- (rel.val k).fG,<- l];exact h _ (I.tok _)
 ·subst ey;cases(show u=Value.ref b from ry);obtain⟨z,hd,xs,rel,dd⟩:=wg I.bt e;refine wpAny_in_heap (q9 hu) (pE I.bt eb) hd dd ?_;have q:=(rel.val k).fG;rw[u7]at q;rw[<- q,<- l];exact h _ (I.tok _)
theorem K4(hu:A.units+1 < cLine)(I:bd X xz σ H s)(g:qP H a y o)(ry:bn y u)(h:∀s',bd X xz σ H s'->Q (.bool (!o.isSome)) s'):wpAny (model X.prog X.w) A (compareOp .NotIn u (.ref a)) Q E s:=by
 rcases g with⟨kvs,k,e,ey,l⟩|⟨kvs,k,b,e,ey,eb,l⟩
 ·subst ey;obtain⟨z,hd,vs,rel,dd⟩:=rU I.bt e;refine wpAny_notIn_of (rF ry) hd dd.mapOf ?_;rw[<- (rel.val k).fG,<- l];exact h _ (I.tok _)
 ·subst ey;cases(show u=Value.ref b from ry);obtain⟨z,hd,xs,rel,dd⟩:=wg I.bt e;refine wpAny_notIn_heap (q9 hu) (pE I.bt eb) hd dd ?_;have q:=(rel.val k).fG;rw[u7]at q;rw[<- q,<- l];exact h _ (I.tok _)
theorem jB{ob:HO}(I:bd X xz σ H s)(mu:T5 (H a))(hs:Heap.SameBut a s.heap h')(he:∃q,h'.get? a=some q)(new:bO X.prog X.w (ci H a ob) h' a ob):bd X xz σ (ci H a ob) {s with heap:=h',toks:=t'}:=
 I.write (x:=a) (e:=a) mu (.inl rfl) (λ b q hb z=>(hs.2 b hb).trans z) he new
theorem GU{kvs:List (Key×V)}{vs:List (Key×jp)}(z:kvs.length<=sizeLine)(hd:(a==sysModules)=false)(rel:KV kvs vs)(dd:h'.DictOf (c_ P w) a vs):bO P w H' h' a (.dK kvs):=⟨z,hd,vs,rel,dd⟩
theorem CP{Q:Unit->kt->Prop}(hu:A.units+1 < cLine)(I:bd X xz σ H s)(g:Hs H a y v H')(ry:bn y u)(rv:bn v r)(h:∀s',bd X xz σ H' s'->Q () s'):wpAny (model X.prog X.w) A (setItem (.ref a) u r) Q E s:=by
 rcases g with⟨kvs,k,e,ey,l,eH⟩|⟨kvs,k,b,e,ey,eb,l,eH⟩
 ·subst ey eH;obtain⟨z,hd,vs,rel,dd⟩:=GS I.bt e;have hz:vs.length<=sizeLine:=by rw[<- rel.length];exact z
  have hl:(putK kvs k v).length<=sizeLine:=by have:=iY kvs k v;lia
  refine wpAny_setItem_pairs (hsz:=hz) (rF ry) dd λ h' CO hs=>h _ ?_;have he:∃q,h'.get? a=some q:=let⟨q,_,_,hq,_⟩:=CO;⟨q,hq⟩
  exact jB I (by rw[e];exact True.intro) hs he (GU hl hd (rel.put k rv) CO)
 ·subst ey eH;cases(show u=Value.ref b from ry);obtain⟨z,hd,xs,rel,dd⟩:=Tt I.bt e;have hz:xs.length<=sizeLine:=by rw[<- B9 rel];exact z
  have hl:(putK kvs k v).length<=sizeLine:=by have:=iY kvs k v;lia
  refine wpAny_setItem_heap (hsz:=hz) (q9 hu) (pE I.bt eb) dd λ h' CO hs=>h _ ?_;obtain⟨q,es,ep,hq,h2,h3,h4,_,h5⟩:=CO;refine jB I (by rw[e];exact True.intro) hs ⟨q,hq⟩ ⟨hl,hd,_,(rel.put k eb rv).keeps λ c ys ec=>?_,q,es,ep,hq,h2,h3,h4,h5⟩;rw[aU (bM ec e (λ z=>nomatch z))];exact ec
end
section
variable {kvs:List (Key×V)}{k:Key}
theorem Tu(I:bd X xz σ H s)(e:Rd H a (.dK kvs))(h:∀t s',bd X xz σ H s'->Q (.int kvs.length t) s'):wpAny (model X.prog X.w) A (call (.builtin "len") [.ref a]) Q E s:=by obtain⟨z,hd,vs,rel,dd⟩:=rU I.bt e;refine call_len_dict hd dd (by rw[<- rel.length];rw[G0]at z;lia) ?_;rw[<- rel.length];exact h _ _ (I.tok _)
end
theorem wo{y:V}{o:Option V}(I:bd X xz σ H s)(g:qP H a y o):s.TypeIs (.ref a) "dict":=by
 rcases g with⟨kvs,k,e,_,_⟩|⟨kvs,k,b,e,_,_,_⟩
 ·obtain⟨_,_,vs,_,dd⟩:=rU I.bt e;exact dd.typeIs
 ·obtain⟨_,_,xs,_,dd⟩:=wg I.bt e;exact dd.typeIs
theorem wm(h:Heap)(hb:sysModules < h.objs.size):bO P w H (h.push {cls:=.type "dict",data:=.dict #[]}) h.objs.size (.dK []):=
 ⟨G1 _,beq_eq_false_iff_ne.mpr (J0 (C6 hb)),[],.nil,Heap.DictOf.new h⟩
def MI:TE:=λ _ H Q=>∀p,H p=none->Q (.ref p) (ci H p (.dK []))
section
variable {pos:Pos}
theorem Fm:PE X (.Dict [] [] pos) MI:=λ xz s σ H Q I h=>
 wpAny_Dict_empty ⟨.ref s.heap.objs.size,_,I.laid (a:=s.heap.objs.size) (o:=.dK []) (t':=s.toks) (λ _ _ q=>j0 _ q) (D9 _) (wm s.heap I.big),rfl,h _ (I.bt.fresh (D9 _))⟩
end
open PySem.Spec PyProof.Rows
mutual
def gb(K:J5)(H:Hp):IK->V->Prop
 | .i n,v=>v=.int n\/∃b:Bool,v=.bl b/\n=b2i b
 | .t ks,v=>∃p xs,v=.ref p/\iD K H p xs/\iZ K H ks xs
def iZ(K:J5)(H:Hp):List IK->List V->Prop
 |[],xs=>xs=[]
 |k::ks,xs=>∃x r,xs=x::r/\gb K H k x/\iZ K H ks r
end
mutual
theorem mN(I:bd X xz σ H s):∀(k:IK) {v:V} {u:jp},gb X.K H k v->bn v u->dR s.heap k u
 | .i n,v,u,h,r=>by
  unfold gb at h;unfold dR;rcases h with rfl|⟨b,rfl,rfl⟩
  ·exact .inl r
  ·exact .inr ⟨b,r,rfl⟩
 | .t ks,v,u,h,r=>by unfold gb at h;obtain⟨p,xs,rfl,hq,hk⟩:=h;cases(show u=Value.ref p from r);obtain⟨aB,rv,⟨o,ho,hc,n,hd⟩,_⟩:=I.tuple hq;unfold dR;exact⟨p,o,aB,n,rfl,ho,hc,hd,An I ks hk rv⟩
theorem An(I:bd X xz σ H s):∀(ks:List IK) {xs:List V} {us:List jp},iZ X.K H ks xs->ce xs us->cV s.heap ks us
 |[],xs,us,h,r=>by unfold iZ at h;subst h;cases r;unfold cV;rfl
 |k::ks,xs,us,h,r=>by
  unfold iZ at h;obtain⟨x,HN,rfl,h1,h2⟩:=h;cases r with
  |cons r1 r2=>unfold cV;exact⟨_,_,rfl,mN I k h1 r1,An I ks h2 r2⟩
end
abbrev fB:=IK×ww×V
def Xo(x:IK×ww×jp):DictEntry:=⟨Gk x.1,.ref x.2.1,x.2.2⟩
abbrev Dr:List fB->List (IK×ww×jp)->Prop:=Paired λ p q=>p.1=q.1/\p.2.1=q.2.1/\bn p.2.2 q.2.2
def Xr(a:ww)(kvs:List fB)(h:Heap):Prop:=kvs.length<=sizeLine/\(a==sysModules)=false/\∃xs,Dr kvs xs/\∃o es ep,h.get? a=some o/\o.ExactDict/\o.data=.dict es ep/\es.toList=xs.map Xo/\(xs.map (·.1)).Nodup
def nk(a:ww)(kvs:List fB):HO:=.ext (Xr a kvs)
theorem pT{h:Heap}{kvs:List fB}(x:Xr a kvs h):bO P w H h a (nk a kvs):=by obtain⟨z,y,xs,r,o,es,ep,e,c⟩:=id x;exact⟨x,⟨o,e⟩,λ h1 h2 ⟨z,y,xs,r,o,es,ep,e,c⟩ q=>⟨z,y,xs,r,o,es,ep,q o e,c⟩⟩
noncomputable def gj (kvs:List fB)(k:IK):Option V:=(kvs.find? λ p=>decide (p.1=k)).map (·.2.2)
noncomputable def iu (kvs:List fB)(k:IK)(p:ww)(v:V):List fB:=if(gj kvs k).isSome=true then kvs.map (λ x=>if x.1=k then(x.1,x.2.1,v)else x)else kvs++[(k,p,v)]
theorem pd(kvs:List fB)(k:IK)(p:ww)(v:V):(iu kvs k p v).length<=kvs.length+1:=by
 unfold iu;split
 ·simp
 ·simp
theorem Dr.val{kvs:List fB}{xs:List (IK×ww×jp)}(r:Dr kvs xs)(k:IK):mG (gj kvs k) ((atKey xs k).map (·.2)):=by
 induction r with
 |nil=>exact True.intro
 |@cons p q ps qs h t ih=>
  obtain⟨h1,_,h2⟩:=h;unfold gj atKey at ih ⊢;by_cases e:p.1=k
  ·have e':q.1=k:=h1.symm.trans e;simp only[y8,B3 e,B3 e',Option.map_some];exact h2
  ·have e':¬q.1=k:=λ z=>e (h1.trans z);simp only[y8,y9 e,y9 e'];exact ih
theorem Dr.Ep{kvs:List fB}{xs:List (IK×ww×jp)}(r:Dr kvs xs)(k:IK){y:V}(ry:bn y u):Dr (kvs.map λ x=>if x.1=k then(x.1,x.2.1,y)else x) (xs.map (putAt k u)):=by
 induction r with
 |nil=>exact .nil
 |@cons p q ps qs h t ih=>
  rw[C3,C3];refine .cons ?_ ih;obtain⟨h1,h2,h3⟩:=h;unfold putAt;by_cases e:p.1=k
  ·rw[J3 e,J3 (h1.symm.trans e)];exact⟨h1,h2,ry⟩
  ·rw[J4 e,J4 (λ z=>e (h1.trans z))];exact⟨h1,h2,h3⟩
theorem tK{o:Option V}{u:Option jp}(r:mG o u):o.isSome=u.isSome:=r.fG
theorem Dr.put{kvs:List fB}{xs:List (IK×ww×jp)}(r:Dr kvs xs)(k:IK){y:V}(ry:bn y u):Dr (iu kvs k b y) (storedH xs k b u):=by
 have e:(gj kvs k).isSome=(atKey xs k).isSome:=by rw[tK (r.val k),u7]
 unfold iu storedH;rw[e];by_cases q:(atKey xs k).isSome=true
 ·rw[J3 q,J3 q];exact r.Ep k ry
 ·rw[J4 q,J4 q];exact Paired.snoc r ⟨rfl,rfl,ry⟩
structure mH(K:J5)(H:Hp)(a:ww)(kvs:List fB):Prop where
 at_:H a=some (nk a kvs)
 key:∀p∈kvs,p.1.dep<=5/\gb K H p.1 (.ref p.2.1)
section
variable {kvs:List fB}{k:IK}{r:jp}
theorem mH.of(I:bd X xz σ H s)(d:mH X.K H a kvs):kvs.length<=sizeLine/\(a==sysModules)=false/\∃xs,Dr kvs xs/\s.heap.DictOfH (iG X.prog X.w) a xs:=by
 obtain⟨⟨z,y,xs,rel,o,es,ep,h1,h2,h3,h4,h5⟩,_,_⟩:=(show bO X.prog X.w H s.heap a (nk a kvs)from I.bt a _ d.at_);refine⟨z,y,xs,rel,o,es,ep,h1,h2,h3,h4,?_,h5⟩;have all:∀{l:List fB} {m:List (IK×ww×jp)},Dr l m->(∀p∈l,p.1.dep<=5/\gb X.K H p.1 (.ref p.2.1))->∀x∈m,(iG X.prog X.w).is s.heap x.1 x.2.1:=by
  intro l m q
  induction q with
  |nil=>intro _ x hx;cases hx
  |@cons p q ps qs hq t ih=>
   intro hl x hx;rcases C4.mp hx with rfl|hx
   ·obtain⟨c1,c2⟩:=hl p (n9 ..);rw[hq.1,hq.2.1]at c2;rw[hq.1]at c1;exact⟨c1,mN I _ c2 rfl⟩
   ·exact ih (λ p hp=>hl p (k5 _ hp)) x hx
 exact all rel d.key
theorem iP(hu:A.units+64 < cLine):(iG X.prog X.w).room A.in1:=(show A.units+1+8 < cLine by lia)
theorem BH(hu:A.units+64 < cLine)(I:bd X xz σ H s)(d:mH X.K H a kvs)(hk:k.dep<=5)(rM:gb X.K H k (.ref b))(g:gj kvs k=some v)(h:∀w' s',bd X xz σ H s'->bn v w'->Q w' s'):wpAny (model X.prog X.w) A (getItem (.ref a) (.ref b)) Q E s:=by obtain⟨z,hd,xs,rel,dd⟩:=d.of I;obtain⟨w',hw,jQ⟩:=mG.some_of (v:=v) (o:=(atKey xs k).map (·.2)) (by rw[<- g];exact rel.val k);obtain⟨p,hp,fM⟩:=Option.map_eq_some_iff.mp hw;refine wpAny_getItem_heap (iP hu) ⟨hk,mN I k rM rfl⟩ dd hp ?_;rw[fM];exact h w' _ (I.tok _) jQ
theorem Vs(hu:A.units+64 < cLine)(I:bd X xz σ H s)(d:mH X.K H a kvs)(hk:k.dep<=5)(rM:gb X.K H k (.ref b))(h:∀s',bd X xz σ H s'->Q (.bool (gj kvs k).isSome) s'):wpAny (model X.prog X.w) A (compareOp .In (.ref b) (.ref a)) Q E s:=by obtain⟨z,hd,xs,rel,dd⟩:=d.of I;refine wpAny_in_heap (iP hu) ⟨hk,mN I k rM rfl⟩ hd dd ?_;have q:=tK (rel.val k);rw[u7]at q;rw[<- q];exact h _ (I.tok _)
theorem Ie(hu:A.units+64 < cLine)(I:bd X xz σ H s)(d:mH X.K H a kvs)(hk:k.dep<=5)(rM:gb X.K H k (.ref b))(h:∀s',bd X xz σ H s'->Q (.bool (!(gj kvs k).isSome)) s'):wpAny (model X.prog X.w) A (compareOp .NotIn (.ref b) (.ref a)) Q E s:=by obtain⟨z,hd,xs,rel,dd⟩:=d.of I;refine wpAny_notIn_heap (iP hu) ⟨hk,mN I k rM rfl⟩ hd dd ?_;have q:=tK (rel.val k);rw[u7]at q;rw[<- q];exact h _ (I.tok _)
theorem BG{Q:Unit->kt->Prop}(hu:A.units+64 < cLine)(I:bd X xz σ H s)(d:mH X.K H a kvs)(hk:k.dep<=5)(rM:gb X.K H k (.ref b))(hl:kvs.length < sizeLine)(rv:bn v r)(h:∀s',bd X xz σ (ci H a (nk a (iu kvs k b v))) s'->Q () s'):wpAny (model X.prog X.w) A (setItem (.ref a) (.ref b) r) Q E s:=by
 obtain⟨z,hd,xs,rel,dd⟩:=d.of I;have hz:xs.length<=sizeLine:=by rw[<- B9 rel];exact z
 have uB:(iu kvs k b v).length<=sizeLine:=by have:=pd kvs k b v;lia
 refine wpAny_setItem_heap (hsz:=hz) (iP hu) ⟨hk,mN I k rM rfl⟩ dd λ h' CO hs=>h _ ?_;obtain⟨q,es,ep,hq,h2,h3,h4,_,h5⟩:=CO;exact jB I (by rw[d.at_];exact True.intro) hs ⟨q,hq⟩ (pT ⟨uB,hd,_,rel.put k rv,q,es,ep,hq,h2,h3,h4,h5⟩)
end
section
variable {pos:Pos}
theorem AH(h:Heap)(hb:sysModules < h.objs.size):Xr h.objs.size [] (h.push {cls:=.type "dict",data:=.dict #[]}):=
 ⟨G1 _,beq_eq_false_iff_ne.mpr (J0 (C6 hb)),[],.nil,_,#[],0,m8 _ rfl,⟨rfl,rfl,rfl⟩,rfl,rfl,nodup_nil⟩
def MJ:TE:=λ _ H Q=>∀p,H p=none->Q (.ref p) (ci H p (nk p []))
theorem vD:PE X (.Dict [] [] pos) MJ:=λ xz s σ H Q I h=>
 wpAny_Dict_empty ⟨.ref s.heap.objs.size,_,I.laid (a:=s.heap.objs.size) (o:=nk s.heap.objs.size []) (t':=s.toks) (λ _ _ q=>j0 _ q) (D9 _) (pT (AH s.heap I.big)),rfl,h _ (I.bt.fresh (D9 _))⟩
end
theorem NB{d:ww}(hd:(d==sysModules)=false):MeetsIn prog w (Builtin.«dict.__len__» ⟨[.ref d],[]⟩) (λ _ R s=>∃o es ep,s.heap.get? d=some o/\o.data=.dict es ep/\R (.ok (.ret (.int es.size s.toks))) {s with toks:=s.toks+1}):=
 .of_wp λ A R s ⟨o,es,ep,ho,PL,h⟩=>by show wpAny _ _ (dictSize d >>= _) _ _ s;unfold dictSize;refine G4 (G4 (wpAny_dictEntries ho PL (G5 ?_)));show wpAny _ _ (Builtin.Dict.pendingCount d >>= _) _ _ s;refine G4 (wpAny_pendingCount_other hd (wpAny_ret_mkInt ?_));rw[Nat.add_zero];exact h
theorem wJ{d:ww}{es:Array DictEntry}(hd:(d==sysModules)=false)(ho:s.heap.get? d=some o)(hc:o.cls=.type "dict")(PL:o.data=.dict es ep)(hz:es.size<=sizeLine) (h:∀t n,Q (.int es.size t) {s with toks:=n}):wpAny (model prog w) A (call (.builtin "len") [.ref d]) Q E s:=by
 have hT:s.TypeIs (.ref d) "dict":=⟨o,ho,hc⟩;have Px:sizeLine=16777216:=by decide
 have S9:((es.size:Nat):Int) < 2^63:=by lia
 refine Calls.call_function_entry kind_len plain_len entry_len (args_len1 _) ?_;unfold Builtin.«len»;refine G4 (m:=oneArg "len" _) (G5 ?_);refine G4 (m:=callSpecial? (.ref d) (Str.ofString "__len__")) (i6 (name:=Str.ofString "__len__") hT F.slot_dict_len (call_meetsIn F.slot_dict_len hT F.entry_dict_len (F.args_dict_len_1 _) (NB hd) ⟨o,es,ep,ho,PL,?_⟩));show wpAny _ _ _ _ _ {s with toks:=s.toks+1};refine G4 (B7 (G5 (G4 (wpAny_letGo ?_))));show wpAny _ _ (if((es.size:Nat):Int) < 0 then _ else _) _ _ _;rw[J4 (by lia)];show wpAny _ _ (if((es.size:Nat):Int) ≥ 2^63 then _ else _) _ _ _;rw[J4 (by lia)];exact G4 (wpAny_mkInt (G5 ⟨_,rfl,h _ _⟩))
section
variable {kvs:List fB}
theorem Rt(I:bd X xz σ H s)(e:H a=some (nk a kvs))(h:∀t s',bd X xz σ H s'->Q (.int kvs.length t) s'):wpAny (model X.prog X.w) A (call (.builtin "len") [.ref a]) Q E s:=by
 obtain⟨⟨z,y,xs,rel,o,es,ep,h1,h2,h3,h4,h5⟩,_,_⟩:=(show bO X.prog X.w H s.heap a (nk a kvs)from I.bt a _ e);have e1:es.size=kvs.length:=by rw[<- l9,h4,A5];exact(B9 rel).symm
 refine wJ y h1 h2.1 h3 (by rw[e1];exact z) λ t n=>?_;rw[e1];exact h t _ (I.tok _)
end
open PySem.Spec PyProof.Rows
structure ka where
 qual:Str
 params:Arguments
 body:Expr
 scope:Scope
 pm:jp
abbrev mh(f:ww)(L:ka)(c:ww)(cl:List (Str×ww)):Heap->Prop:=λ h=>∃og,h.get? f=some (PySem.W.kla_obj "<lambda>" L.qual L.params L.body L.scope cl L.pm c og)
abbrev tV(c:ww)(q:Str):Heap->Prop:=λ h=>h.CodeRec (.ref c) q
abbrev Hd(c:ww)(v:V):Heap->Prop:=λ h=>∃u,bn v u/\h.IsCell c (some u)
abbrev gZ(o:Obj)(c:ww)(v:V):HO:=.dD o (.dD o (.ext (Hd c v)))
theorem Am{h:Heap}{c:ww}{L:ka}{og:jp}(e:h.get? f=some (PySem.W.kla_obj "<lambda>" L.qual L.params L.body L.scope cl L.pm c og)):∃o,∀{P:Program} {w:World} {H:Hp},bO P w H h f (.dD o (.ext (mh f L c cl))):=
 ⟨_,λ{_ _ _}=>⟨e,⟨og,e⟩,⟨_,e⟩,λ h1 h2 ⟨t,q⟩ k=>⟨t,k _ q⟩⟩⟩
theorem K'{h:Heap}{c:ww}{q:Str}(x:h.CodeRec (.ref c) q):∃o,∀{P:Program} {w:World} {H:Hp},bO P w H h c (.dD o (.ext (tV c q))):=by obtain⟨c',o,vs,t,e,h1,h2,h3⟩:=id x;cases e;exact⟨o,λ{_ _ _}=>⟨h1,x,⟨o,h1⟩,λ a b ⟨c',o,vs,t,e,h1,h2,h3⟩ k=>by cases e;exact⟨_,o,vs,t,rfl,k _ h1,h2,h3⟩⟩⟩
theorem Lb{h:Heap}{c:ww}(r:bn v u)(x:h.IsCell c (some u)):∃o,h.get? c=some o/\∀{P:Program} {w:World} {H:Hp},bO P w H h c (gZ o c v):=by obtain⟨o,h1,h2⟩:=id x;exact⟨o,h1,λ{_ _ _}=>⟨h1,h1,⟨u,r,x⟩,⟨o,h1⟩,λ a b ⟨u,r,o,h1,h2⟩ k=>⟨u,r,o,k _ h1,h2⟩⟩⟩
def oI(cs:List (Pos×ww)):List jp:=cs.flatMap λ p=>[rawInt p.1.line,rawInt p.1.col,.ref p.2]
theorem sH:∀cs,TriplesOk (oI cs)
 |[]=>trivial
 |p::cs=>sH cs
theorem rf{pos:Pos}:∀{cs:List (Pos×ww)},codeAmong pos (oI cs)=some u->∃p∈cs,u=.ref p.2
 |[],e=>by cases e
 |p::cs,e=>by
  have e:(if(((p.1.line:Int)==pos.line)&&((p.1.col:Int)==pos.col))=true then some (Value.ref p.2)else codeAmong pos (oI cs))=some u:=e;split at e
  ·exact⟨p,.head _,(A1 e).symm⟩
  ·obtain⟨q,h,r⟩:=rf e;exact⟨q,.tail _ h,r⟩
structure HG(mg:Str->Option jp)(base:Heap)(c P:ww):Prop where
 bm:∃bm ob,mg "__builtins__"=some (.ref bm)/\bm≠builtinsNs/\base.get? bm=some ob/\ob.cls=.type "module"/\ob.dict=some builtinsNs/\ob.data=.plain
 cd:PySem.W.CodeHd base c P
def Mm(H:Hp)(P:ww)(q:Str):Prop:=∃cs:List (Pos×ww),H P=some (.lN (oI cs).toArray)/\∀p∈cs,∃o,H p.2=some (.dD o (.ext (tV p.2 q)))
theorem Mm.grow{P:ww}{q:Str}(t:Mm H P q)(k:∀b o u,H b=some (.dD o u)->H' b=some (.dD o u))(e:H' P=H P):Mm H' P q:=by obtain⟨cs,h1,h2⟩:=t;exact⟨cs,e.trans h1,λ p hp=>let⟨o,z⟩:=h2 p hp;⟨o,k _ _ _ z⟩⟩
def VA(P:ww)(L:ka)(cells:List (Str×ww)):TE:=λ σ H Q=>Mm H P L.qual/\∀(f c:ww) (H':Hp),H f=none->(∀x d,cells.lookup x=some d->d≠f)->(∀b u,b≠P->H b=some u->H' b=some u)->Mm H' P L.qual->(∃o,H' c=some (.dD o (.ext (tV c L.qual))))->(∃o,H' f=some (.dD o (.ext (mh f L c (bA cells L.scope.names [])))))->Q (.ref f) H'
theorem rg(cs:List (Pos×ww))(pos:Pos)(c:ww):(oI cs).toArray++#[rawInt pos.line,rawInt pos.col,.ref c]=(oI (cs++[(pos,c)])).toArray:=by simp[oI]
theorem Oo{L:ka}{c P:ww}{pos:Pos}(rN:X.env.code=.ref c)(B:HG X.mg X.base c P)(GF:defaultsOf L.params X.env=([],[]))(Q0:L.pm=(X.mg "__name__").getD .none)(hq:X.env.qual++"<lambda>"=L.qual) (Ax:∀n,(n,NameKind.free)∈L.scope.names->X.env.kindOf n=some .cell\/X.env.kindOf n=some .free):PE X (.Lambda L.params L.body L.scope pos) (VA P L X.env.cells):=by
 intro xz s σ H Q I h;obtain⟨⟨cs,hP,Ay⟩,k⟩:=h;refine PySem.W.kla_eval GF ?_;rw[hq];have rP:closureFor L.scope X.env=pure (bA X.env.cells L.scope.names []):=eI λ n hn=>I.ok.has n (Ax n hn);have oP:s.heap.get? P=some (PySem.W.tabObj (oI cs).toArray):=I.bt P _ hP;have hg:s.heap.Ns mainGlobals X.mg:=I.mod.glob.keeps I.bk;have C:=B.cd.keeps I.bk;obtain⟨bm,ob,b1,b2,b3,b4,b5,b6⟩:=B.bm;have hgP:mainGlobals≠P:=λ q=>by obtain⟨o,es,ep,e,hd,_⟩:=id hg;rw[q,oP]at e;cases e;cases hd
 have hbP:bm≠P:=λ q=>by have e:=I.bk _ _ b3;rw[q,oP]at e;cases e;cases b4
 have hbG:bm≠mainGlobals:=λ q=>by obtain⟨o,es,ep,e,hd,_⟩:=id hg;have e2:=I.bk _ _ b3;rw[q,e]at e2;cases e2;rw[hd]at b6;cases b6
 have hb:s.heap.BuiltinsAt X.mg P:=⟨bm,ob,b1,b2,hbG,hbP,I.bk _ _ b3,b4,b5,b6⟩;have YL:∀{f:ww},s.heap.objs.size<=f->∀x d,X.env.cells.lookup x=some d->d≠f:=λ hf x d e z=>by obtain⟨v,o,ho,_⟩:=I.cell x d e;exact absurd (C7 ho) (by rw[z];exact Nat.not_lt.mpr hf)
 cases hc:codeAmong pos (oI cs).toArray.toList with
 |none=>
  refine PySem.W.kla_makeFunction rP I.ok.glob hg rN C oP (by simpa using sH cs) hc hgP hb λ c' og h' tk hx KR iC Wu SN=>?_;rw[<- Q0];have hf:h'.objs.size=h'.objs.size:=rfl;generalize hF:h'.objs.size=f at*;have Ws:s.heap.objs.size<=f:=D1 KR (D8 iC);have nc:H c'=none:=I.bt.fresh KR;have nf:H f=none:=I.bt.fresh Ws;have cf:c'≠f:=C6 iC;have cP:c'≠P:=λ z=>by rw[z,hP]at nc;cases nc
  have fP:f≠P:=λ z=>by rw[z,hP]at nf;cases nf
  have up:∀b o,h'.get? b=some o->(h'.push (PySem.W.kla_obj "<lambda>" L.qual L.params L.body L.scope (bA X.env.cells L.scope.names []) L.pm c' og)).get? b=some o:=λ b o e=>j0 _ e;have hl:(h'.push (PySem.W.kla_obj "<lambda>" L.qual L.params L.body L.scope (bA X.env.cells L.scope.names []) L.pm c' og)).get? f=some (PySem.W.kla_obj "<lambda>" L.qual L.params L.body L.scope (bA X.env.cells L.scope.names []) L.pm c' og):=by rw[<- hF];exact m8 _ rfl
  have SO:(h'.push (PySem.W.kla_obj "<lambda>" L.qual L.params L.body L.scope (bA X.env.cells L.scope.names []) L.pm c' og)).CodeRec (.ref c') L.qual:=by obtain⟨c2,o,vs,t,e,h1,h2,h3⟩:=Wu;exact⟨c2,o,vs,t,e,up _ _ h1,h2,h3⟩
  have SN:=up _ _ SN;rw[rg]at SN;have kp:∀b o,b≠P->s.heap.get? b=some o->(h'.push (PySem.W.kla_obj "<lambda>" L.qual L.params L.body L.scope (bA X.env.cells L.scope.names []) L.pm c' og)).get? b=some o:=λ b o n e=>up b o (hx b o n e);generalize h'.push (PySem.W.kla_obj "<lambda>" L.qual L.params L.body L.scope (bA X.env.cells L.scope.names []) L.pm c' og)=g at*;obtain⟨of,zf⟩:=Am (L:=L) hl;obtain⟨oc,zc⟩:=K' SO;obtain⟨H',eH⟩:∃H':Hp,H'=ci (ci (ci H c' (.dD oc (.ext (tV c' L.qual)))) P (.lN (oI (cs++[(pos,c')])).toArray)) f (.dD of (.ext (mh f L c' (bA X.env.cells L.scope.names [])))):=⟨_,rfl⟩;have Hf:H' f=some (.dD of (.ext (mh f L c' (bA X.env.cells L.scope.names [])))):=by rw[eH];exact aL
  have HP:H' P=some (.lN (oI (cs++[(pos,c')])).toArray):=by rw[eH,aU fP.symm];exact aL
  have Hc:H' c'=some (.dD oc (.ext (tV c' L.qual))):=by rw[eH,aU cf,aU cP];exact aL
  have Ho:∀b,b≠f->b≠P->b≠c'->H' b=H b:=λ b n1 n2 n3=>by rw[eH,aU n1,aU n2,aU n3]
  have old:∀b u,b≠P->H b=some u->H' b=some u:=λ b u n e=>(Ho b (bQ e nf) n (bQ e nc)).trans e;have I2:bd X xz σ H' {s with heap:=g,toks:=tk}:=by
   refine I.un (H':=H') (h':=g) (t':=tk) ⟨λ b o e n _ _=>kp b o (λ z=>by rw[z,hP]at n;cases n) e,λ b o e n _ _=>⟨o.slots,kp b o (λ z=>by rw[z,hP]at n;cases n) e⟩,λ b o e n _=>?_,λ b o e _=>?_,λ b xs e=>old b _ (λ z=>by rw[z,hP]at e;cases e) e,λ b o u e=>old b _ (λ z=>by rw[z,hP]at e;cases e) e,λ b ps e=>?_⟩ λ b u e=>?_
   ·have lt:=C7 e;rw[Ho b (C6 (p7 lt Ws)) (λ z=>by rw[z,hP]at n;cases n) (C6 (p7 lt KR))];exact n
   ·by_cases z:b=P
    ·subst z;exact⟨_,SN⟩
    ·exact⟨o,kp b o z e⟩
   ·by_cases z:b=P
    ·subst z;rw[hP]at e;cases e;exact⟨#[rawInt pos.line,rawInt pos.col,.ref c'],by rw[HP,rg]⟩
    ·exact⟨#[],by rw[old b _ z e];simp⟩
   ·by_cases z1:b=f
    ·subst z1;rw[Hf]at e;cases e;exact zf
    ·by_cases z2:b=P
     ·subst z2;rw[HP]at e;cases e;exact SN
     ·by_cases z3:b=c'
      ·subst z3;rw[Hc]at e;cases e;exact zc
      ·rw[Ho b z1 z2 z3]at e;refine(I.bt b u e).qv (λ d v hd q=>kp d v ?_ q) (λ d q=>old d _ (λ z=>by rw[z,hP]at q;cases q) q) λ d xs q=>old d _ (λ z=>by rw[z,hP]at q;cases q) q;rcases hd with rfl|hd
       ·exact z2
       ·exact λ z=>by rw[z,hP]at hd;cases hd
  refine⟨.ref f,H',I2,rfl,k f c' H' nf (YL Ws) old ⟨_,HP,λ p hp=>?_⟩ ⟨oc,Hc⟩ ⟨of,Hf⟩⟩;rcases A6.mp hp with hp|hp
  ·obtain⟨o,z⟩:=Ay p hp;exact⟨o,old _ _ (λ y=>by rw[y,hP]at z;cases z) z⟩
  ·rw[p8.mp hp];exact⟨oc,Hc⟩
 |some u=>
  obtain⟨p,hp,rfl⟩:=rf (by simpa using hc);refine PySem.W.kla_makeFunctionHit rP I.ok.glob hg rN C oP (by simpa using sH cs) hc hb λ og h' tk hx hsz=>?_;rw[<- Q0];have nf:H h'.objs.size=none:=I.bt.fresh hsz;have fP:h'.objs.size≠P:=λ z=>by rw[z,hP]at nf;cases nf
  have hl:(h'.push (PySem.W.kla_obj "<lambda>" L.qual L.params L.body L.scope (bA X.env.cells L.scope.names []) L.pm p.2 og)).get? h'.objs.size=some (PySem.W.kla_obj "<lambda>" L.qual L.params L.body L.scope (bA X.env.cells L.scope.names []) L.pm p.2 og):=m8 _ rfl;obtain⟨of,zf⟩:=Am (L:=L) hl;have t:∀b u,H b=some u->ci H h'.objs.size (.dD of (.ext (mh h'.objs.size L p.2 (bA X.env.cells L.scope.names [])))) b=some u:=λ b u e=>by rw[aU (bQ e nf)];exact e
  have I2:=I.laid (t':=tk) (a:=h'.objs.size) (h':=h'.push (PySem.W.kla_obj "<lambda>" L.qual L.params L.body L.scope (bA X.env.cells L.scope.names []) L.pm p.2 og)) (λ b u e=>j0 _ (hx b u e)) hsz (o:=.dD of (.ext (mh h'.objs.size L p.2 (bA X.env.cells L.scope.names [])))) zf;obtain⟨oc,zc⟩:=Ay p hp;exact⟨.ref h'.objs.size,_,I2,rfl,k _ p.2 _ nf (YL hsz) (λ b u _ e=>t b u e) ⟨cs,t _ _ hP,λ p hp=>let⟨o,z⟩:=Ay p hp;⟨o,t _ _ z⟩⟩ ⟨oc,t _ _ zc⟩ ⟨of,aL⟩⟩
end L2
variable {L:L2.ka}
namespace L3
open PySem.Spec L2
inductive D where
 |bK|bl (b:Bool)|int (i:Int)|str (x:Str)|ty (n:String)|ref (a:ww)
 |tup (xs:List D)
 |fl (xs:List D)
def HI(K:J5)(H:Hp)(p:ww)(xs:List V):Prop:=
 (∃o,H p=some (.dD o (.lst xs)))\/∃(o:Obj) (aB:Array jp) (n:Nat),K.lookup p=some o/\o.cls=.type "list"/\o.dict=none/\o.data=.seq aB n/\aB.size<=sizeLine/\ce xs aB.toList
theorem HI.sq(h:HI K H p xs):gB K H p xs:=by
 rcases h with h|h
 ·exact .inl (.inr h)
 ·exact .inr h
mutual
def bi(K:J5)(H:Hp):D->V->Prop
 | .bK,v=>v=.bK
 | .bl b,v=>v=.bl b
 | .int i,v=>v=.int i
 | .str x,v=>v=.str x
 | .ty n,v=>v=.ty n
 | .ref a,v=>v=.ref a
 | .tup ds,v=>∃p xs,v=.ref p/\iD K H p xs/\aD K H ds xs
 | .fl ds,v=>∃p xs,v=.ref p/\HI K H p xs/\aD K H ds xs
def aD(K:J5)(H:Hp):List D->List V->Prop
 |[],xs=>xs=[]
 |d::ds,xs=>∃x r,xs=x::r/\bi K H d x/\aD K H ds r
end
structure au(H H':Hp):Prop where
 tup:∀b xs,H b=some (.tup xs)->H' b=some (.tup xs)
 dD:∀b o u,H b=some (.dD o u)->H' b=some (.dD o u)
theorem au.refl(H:Hp):au H H:=⟨λ _ _ h=>h,λ _ _ _ h=>h⟩
theorem au.trans{H2:Hp}(a:au H H1)(b:au H1 H2):au H H2:=⟨λ c xs h=>b.tup c xs (a.tup c xs h),λ c o u h=>b.dD c o u (a.dD c o u h)⟩
theorem au.laid{o:HO}(h:H p=none):au H (ci H p o):=
 ⟨λ b xs e=>by rw[aU (bQ e h)];exact e,λ b ob u e=>by rw[aU (bQ e h)];exact e⟩
theorem au.lst{o:HO}(h:H p=some (.lst xs)):au H (ci H p o):=
 ⟨λ b ys e=>by rw[aU (bM e h (by intro z;cases z))];exact e,λ b ob u e=>by rw[aU (bM e h (by intro z;cases z))];exact e⟩
theorem au.mut{u o:HO}(h:H p=some u)(n1:∀xs,u≠.tup xs)(n2:∀ob w,u≠.dD ob w):au H (ci H p o):=
 ⟨λ b ys e=>by rw[aU (λ z=>by subst z;rw[h]at e;exact n1 ys (A1 e))];exact e,λ b ob w e=>by rw[aU (λ z=>by subst z;rw[h]at e;exact n2 ob w (A1 e))];exact e⟩
structure Dh(H H':Hp):Prop where
 tup:∀b xs,H b=some (.tup xs)->H' b=some (.tup xs)
 ft:∀b o xs,H b=some (.dD o (.tup xs))->H' b=some (.dD o (.tup xs))
 fl:∀b o xs,H b=some (.dD o (.lst xs))->H' b=some (.dD o (.lst xs))
theorem au.sub(t:au H H'):Dh H H':=⟨t.tup,λ b o _=>t.dD b o _,λ b o _=>t.dD b o _⟩
theorem zu(t:Dh H H')(h:iD K H p xs):iD K H' p xs:=by
 rcases h with(h|⟨o,h⟩)|h
 ·exact .inl (.inl (t.tup _ _ h))
 ·exact .inl (.inr ⟨o,t.ft _ _ _ h⟩)
 ·exact .inr h
theorem AF(t:Dh H H')(h:HI K H p xs):HI K H' p xs:=by
 rcases h with⟨o,h⟩|h
 ·exact .inl ⟨o,t.fl _ _ _ h⟩
 ·exact .inr h
theorem DO(t:au H H')(h:iD K H p xs):iD K H' p xs:=zu t.sub h
theorem GL(t:au H H')(h:HI K H p xs):HI K H' p xs:=AF t.sub h
mutual
theorem bi.mon {K:J5}{H H':Hp}(t:Dh H H'):∀(d:D) {v:V},bi K H d v->bi K H' d v
 | .bK,v,h=>by unfold bi at h ⊢;exact h
 | .bl b,v,h=>by unfold bi at h ⊢;exact h
 | .int i,v,h=>by unfold bi at h ⊢;exact h
 | .str x,v,h=>by unfold bi at h ⊢;exact h
 | .ty n,v,h=>by unfold bi at h ⊢;exact h
 | .ref a,v,h=>by unfold bi at h ⊢;exact h
 | .tup ds,v,h=>by unfold bi at h ⊢;obtain⟨p,xs,e,q,r⟩:=h;exact⟨p,xs,e,zu t q,aD.mon t ds r⟩
 | .fl ds,v,h=>by unfold bi at h ⊢;obtain⟨p,xs,e,q,r⟩:=h;exact⟨p,xs,e,AF t q,aD.mon t ds r⟩
theorem aD.mon {K:J5}{H H':Hp}(t:Dh H H'):∀(ds:List D) {xs:List V},aD K H ds xs->aD K H' ds xs
 |[],xs,h=>by unfold aD at h ⊢;exact h
 |d::ds,xs,h=>by unfold aD at h ⊢;obtain⟨x,r,e,a,b⟩:=h;exact⟨x,r,e,bi.mon t d a,aD.mon t ds b⟩
end
theorem bi.mono(t:au H H')(d:D)(h:bi K H d v):bi K H' d v:=bi.mon t.sub d h
theorem aD.mono(t:au H H')(ds:List D)(h:aD K H ds xs):aD K H' ds xs:=aD.mon t.sub ds h
theorem dS:bi K H .bK v↔v=.bK:=by unfold bi;exact Iff.rfl
theorem ba{b:Bool}:bi K H (.bl b) v↔v=.bl b:=by unfold bi;exact Iff.rfl
theorem ax{i:Int}:bi K H (.int i) v↔v=.int i:=by unfold bi;exact Iff.rfl
theorem bg:bi K H (.str x) v↔v=.str x:=by unfold bi;exact Iff.rfl
theorem Qh{n:String}:bi K H (.ty n) v↔v=.ty n:=by unfold bi;exact Iff.rfl
theorem aF:bi K H (.ref a) v↔v=.ref a:=by unfold bi;exact Iff.rfl
theorem a_{ds:List D}:bi K H (.tup ds) v↔∃p xs,v=.ref p/\iD K H p xs/\aD K H ds xs:=by rw[bi]
theorem mw{ds:List D}:bi K H (.fl ds) v↔∃p xs,v=.ref p/\HI K H p xs/\aD K H ds xs:=by rw[bi]
theorem ar:aD K H [] xs↔xs=[]:=by unfold aD;exact Iff.rfl
theorem ah{d:D}{ds:List D}:aD K H (d::ds) xs↔∃x r,xs=x::r/\bi K H d x/\aD K H ds r:=by rw[aD]
theorem aD.length:∀{ds:List D} {xs:List V},aD K H ds xs->xs.length=ds.length
 |[],xs,h=>by rw[ar]at h;subst h;rfl
 |d::ds,xs,h=>by rw[ah]at h;obtain⟨x,r,rfl,_,q⟩:=h;rw[x3,x3,q.length]
theorem aD.get:∀{ds:List D} {xs:List V} {i:Nat} {d:D},aD K H ds xs->ds[i]?=some d->∃x,xs[i]?=some x/\bi K H d x
 |[],xs,i,d,h,e=>by simp at e
 |d0::ds,xs,i,d,h,e=>by
  rw[ah]at h;obtain⟨x,r,rfl,a,q⟩:=h;cases i with
  |zero=>simp at e;subst e;exact⟨x,rfl,a⟩
  |succ i=>obtain⟨y,h1,h2⟩:=aD.get q (by simpa using e);exact⟨y,by simpa using h1,h2⟩
theorem aD.yu:∀{ds:List D} {xs:List V} {i:Nat} {x:V},aD K H ds xs->xs[i]?=some x->∃d,ds[i]?=some d/\bi K H d x
 |[],xs,i,x,h,e=>by rw[ar]at h;subst h;simp at e
 |d0::ds,xs,i,x,h,e=>by
  rw[ah]at h;obtain⟨y,r,rfl,a,q⟩:=h;cases i with
  |zero=>simp at e;subst e;exact⟨d0,rfl,a⟩
  |succ i=>obtain⟨d,h1,h2⟩:=aD.yu q (by simpa using e);exact⟨d,by simpa using h1,h2⟩
theorem aD.append:∀{ds es:List D} {xs ys:List V},aD K H ds xs->aD K H es ys->aD K H (ds++es) (xs++ys)
 |[],es,xs,ys,h,q=>by rw[ar]at h;subst h;exact q
 |d::ds,es,xs,ys,h,q=>by rw[ah]at h;obtain⟨x,r,rfl,a,b⟩:=h;rw[cons_append,cons_append,ah];exact⟨x,_,rfl,a,b.append q⟩
theorem aD.one{d:D}(h:bi K H d v):aD K H [d] [v]:=by rw[ah];exact⟨v,[],rfl,h,by rw[ar]⟩
theorem aD.take:∀{ds:List D} {xs:List V} (n:Nat),aD K H ds xs->aD K H (ds.take n) (xs.take n)
 |ds,xs,0,h=>by simp[ar]
 |[],xs,n+1,h=>by rw[ar]at h;subst h;simp[ar]
 |d::ds,xs,n+1,h=>by rw[ah]at h;obtain⟨x,r,rfl,a,b⟩:=h;rw[take_succ_cons,take_succ_cons,ah];exact⟨x,_,rfl,a,b.take n⟩
theorem aD.drop:∀{ds:List D} {xs:List V} (n:Nat),aD K H ds xs->aD K H (ds.drop n) (xs.drop n)
 |ds,xs,0,h=>h
 |[],xs,n+1,h=>by rw[ar]at h;subst h;simp[ar]
 |d::ds,xs,n+1,h=>by rw[ah]at h;obtain⟨x,r,rfl,a,b⟩:=h;exact b.drop n
theorem aD.set{d:D}{x:V}(hd:bi K H d x):∀{ds:List D} {xs:List V} (n:Nat),aD K H ds xs->aD K H (ds.set n d) (xs.set n x)
 |[],xs,n,h=>by rw[ar]at h;subst h;simp[ar]
 |d0::ds,xs,0,h=>by rw[ah]at h;obtain⟨y,r,rfl,a,b⟩:=h;rw[set_cons_zero,set_cons_zero,ah];exact⟨x,_,rfl,hd,b⟩
 |d0::ds,xs,n+1,h=>by rw[ah]at h;obtain⟨y,r,rfl,a,b⟩:=h;rw[set_cons_succ,set_cons_succ,ah];exact⟨y,_,rfl,a,b.set hd n⟩
theorem jA:∀(ns:List Int),aD K H (ns.map D.int) (ns.map V.int)
 |[]=>by simp[ar]
 |n::ns=>by rw[C3,C3,ah];exact⟨_,_,rfl,ax.mpr rfl,jA ns⟩
theorem wu:∀{bs:List Bool} {xs:List V},aD K H (bs.map D.bl) xs->xs=bs.map V.bl
 |[],xs,h=>by rw[D4,ar]at h;exact h
 |b::bs,xs,h=>by rw[C3,ah]at h;obtain⟨x,r,rfl,a,q⟩:=h;rw[ba]at a;rw[a,wu q];rfl
def jT:Key->D
 | .inl i=>.int i
 | .inr x=>.str x
mutual
def qq:IK->D
 | .i n=>.int n
 | .t ks=>.tup (qB ks)
def qB:List IK->List D
 |[]=>[]
 |k::ks=>qq k::qB ks
end
mutual
theorem mr{K:J5}{H:Hp}:∀(k:IK) {v:V},bi K H (qq k) v->gb K H k v
 | .i n,v,h=>by unfold qq at h;unfold gb;exact .inl (ax.mp h)
 | .t ks,v,h=>by unfold qq at h;obtain⟨p,xs,rfl,hq,hx⟩:=a_.mp h;unfold gb;exact⟨p,xs,rfl,hq,wq ks hx⟩
theorem wq{K:J5}{H:Hp}:∀(ks:List IK) {xs:List V},aD K H (qB ks) xs->iZ K H ks xs
 |[],xs,h=>by unfold qB at h;unfold iZ;exact ar.mp h
 |k::ks,xs,h=>by unfold qB at h;obtain⟨x,r,rfl,h1,h2⟩:=ah.mp h;unfold iZ;exact⟨x,r,rfl,mr k h1,wq ks h2⟩
end
mutual
theorem tM:∀{a b:IK},qq a=qq b->a=b
 | .i n,.i m,h=>by unfold qq at h;cases h;rfl
 | .i n,.t ks,h=>by unfold qq at h;cases h
 | .t ks,.i n,h=>by unfold qq at h;cases h
 | .t ks,.t ls,h=>by unfold qq at h;rw[vZ (D.tup.inj h)]
theorem vZ:∀{as bs:List IK},qB as=qB bs->as=bs
 |[],[],_=>rfl
 |[],b::bs,h=>by unfold qB at h;cases h
 |a::as,[],h=>by unfold qB at h;cases h
 |a::as,b::bs,h=>by
  unfold qB at h;injection h with h1 h2
  rw[tM h1,vZ h2]
end
theorem vT{a b:Key}(h:jT a=jT b):a=b:=by
 cases a with
 |inl i=>cases b with
  |inl j=>have e:D.int i=D.int j:=h;cases e;rfl
  |inr y=>have e:D.int i=D.str y:=h;cases e
 |inr x=>cases b with
  |inl j=>have e:D.str x=D.int j:=h;cases e
  |inr y=>have e:D.str x=D.str y:=h;cases e;rfl
theorem nY{k:Key}(h:bi K H (jT k) v):v=kV k:=by
 cases k with
 |inl i=>exact ax.mp h
 |inr x=>exact bg.mp h
inductive XM where
 |lam (L:ka) (cl:List (Str×ww))|tY (d:D)|lN (q:Str)
  |ug (kvs:List (List Bool×D))
inductive MO where
 |lst (ds:List D)
 |eS (x:XM)
  |cO (t:Bool) (kvs:List (D×D))
abbrev Ht(K:J5)(H:Hp):List (D×D)->List (Key×V)->Prop:=Paired λ p q=>p.1=jT q.1/\bi K H p.2 q.2
abbrev Dk(K:J5)(H:Hp):List (D×D)->List fB->Prop:=Paired λ p q=>p.1=qq q.1/\q.1.dep<=5/\bi K H p.1 (.ref q.2.1)/\bi K H p.2 q.2.2
def Bd(bs:List Bool):IK:=.t (bs.map λ b=>.i (b2i b))
def Rc(bs:List Bool):D:=.tup (bs.map D.bl)
abbrev Lo(K:J5)(H:Hp):List (List Bool×D)->List fB->Prop:=Paired λ p q=>q.1=Bd p.1/\bi K H (Rc p.1) (.ref q.2.1)/\bi K H p.2 q.2.2
theorem Lo.mono(t:au H H'){kvs:List (List Bool×D)}{xs:List fB}(h:Lo K H kvs xs):Lo K H' kvs xs:=Paired.qA h λ p q z=>⟨z.1,bi.mono t _ z.2.1,bi.mono t _ z.2.2⟩
theorem Ht.mono(t:au H H'){kvs:List (D×D)}{xs:List (Key×V)}(h:Ht K H kvs xs):Ht K H' kvs xs:=Paired.qA h λ p q z=>⟨z.1,bi.mono t _ z.2⟩
theorem Dk.mono(t:au H H'){kvs:List (D×D)}{xs:List fB}(h:Dk K H kvs xs):Dk K H' kvs xs:=Paired.qA h λ p q z=>⟨z.1,z.2.1,bi.mono t _ z.2.2.1,bi.mono t _ z.2.2.2⟩
abbrev Mem:=ww->Option MO
def ai(M:Mem)(a:ww)(o:MO):Mem:=λ b=>if b=a then some o else M b
theorem ag{M:Mem}{o:MO}:ai M a o a=some o:=by unfold ai;rw[J3 rfl]
theorem av{M:Mem}{o:MO}(h:b≠a):ai M a o b=M b:=by unfold ai;rw[J4 h]
theorem eh{M:Mem}{o u:MO}:ai (ai M a o) a u=ai M a u:=by funext b;unfold ai;split <;> rfl
def qN(K:J5)(H:Hp)(a:ww):MO->Prop
 | .lst ds=>∃xs,H a=some (.lst xs)/\aD K H ds xs
 | .cO false kvs=>∃xs,H a=some (.dK xs)/\Ht K H kvs xs
 | .cO true kvs=>∃xs,H a=some (nk a xs)/\Dk K H kvs xs
 | .eS (.lam L cl)=>∃c,(∃o,H a=some (.dD o (.ext (mh a L c cl))))/\∃o,H c=some (.dD o (.ext (tV c L.qual)))
 | .eS (.tY d)=>∃o v,H a=some (gZ o a v)/\bi K H d v
 | .eS (.lN q)=>Mm H a q
 | .eS (.ug kvs)=>∃xs,H a=some (nk a xs)/\Lo K H kvs xs
def bv(K:J5)(H:Hp)(M:Mem):Prop:=∀a o,M a=some o->qN K H a o
theorem qN.there{o:MO}(h:qN K H a o):∃u,H a=some u:=by
 cases o with
 |eS x=>
  cases x with
  |lam L cl=>obtain⟨_,⟨o,h⟩,_⟩:=h;exact⟨_,h⟩
  |tY d=>obtain⟨o,v,h,_⟩:=h;exact⟨_,h⟩
  |lN q=>obtain⟨cs,h,_⟩:=h;exact⟨_,h⟩
  |ug kvs=>obtain⟨xs,h,_⟩:=h;exact⟨_,h⟩
 |lst ds=>obtain⟨xs,h,_⟩:=h;exact⟨_,h⟩
 |cO t kvs=>
  cases t with
  |false=>obtain⟨xs,h,_⟩:=h;exact⟨_,h⟩
  |true=>obtain⟨xs,h,_⟩:=h;exact⟨_,h⟩
theorem qN.mono{o:MO}(h:qN K H a o)(t:au H H')(e:H' a=H a):qN K H' a o:=by
 cases o with
 |eS x=>
  cases x with
  |lam L cl=>obtain⟨c,⟨o,h⟩,o',h'⟩:=h;exact⟨c,⟨o,e.trans h⟩,o',t.dD _ _ _ h'⟩
  |tY d=>obtain⟨o,v,h,q⟩:=h;exact⟨o,v,e.trans h,bi.mono t d q⟩
  |lN q=>exact Mm.grow h t.dD e
  |ug kvs=>obtain⟨xs,h,q⟩:=h;exact⟨xs,e.trans h,q.mono t⟩
 |lst ds=>obtain⟨xs,h,q⟩:=h;exact⟨xs,e.trans h,aD.mono t ds q⟩
 |cO b kvs=>
  cases b with
  |false=>obtain⟨xs,h,q⟩:=h;exact⟨xs,e.trans h,q.mono t⟩
  |true=>obtain⟨xs,h,q⟩:=h;exact⟨xs,e.trans h,q.mono t⟩
theorem bv.free{M:Mem}(h:bv K H M)(n:H p=none):M p=none:=by
 cases e:M p with
 |none=>rfl
 |some o=>obtain⟨u,q⟩:=(h p o e).there;rw[n]at q;cases q
theorem bv.laid{M:Mem}(h:bv K H M){o:HO}(n:H p=none):bv K (ci H p o) M:=λ a u e=>by obtain⟨w,q⟩:=(h a u e).there;exact(h a u e).mono (au.laid n) (aU (bQ q n))
theorem bv.put{M:Mem}(h:bv K H M){o:HO}{u:MO}(t:au H (ci H p o))(new:qN K (ci H p o) p u):bv K (ci H p o) (ai M p u):=λ a w e=>by
 by_cases ha:a=p
 ·subst ha;rw[ag]at e;cases e;exact new
 ·rw[av ha]at e;exact(h a w e).mono t (aU ha)
def qM(M M':Mem):Prop:=∀a o,M a=some o->M' a=some o
theorem qM.refl(M:Mem):qM M M:=λ _ _ h=>h
theorem qM.put{M M':Mem}{o:MO}(h:qM M M')(n:M p=none):qM M (ai M' p o):=λ a u e=>by rw[av (λ z=>by subst z;rw[n]at e;cases e)];exact h a u e
theorem bv.sub{M M':Mem}(h:bv K H M')(s:qM M M'):bv K H M:=λ a o e=>h a o (s a o e)
abbrev df:=List (Option D)
structure di(K:J5)(H:Hp)(δ:df)(σ:St):Prop where
 len:δ.length=σ.length
 get:∀(i:Nat) (d:D),δ[i]?=some (some d)->∃v,σ[i]?=some (some v)/\bi K H d v
theorem di.mono{δ:df}(h:di K H δ σ)(t:au H H'):di K H' δ σ:=
 ⟨h.len,λ i d e=>let⟨v,q,r⟩:=h.get i d e;⟨v,q,bi.mono t d r⟩⟩
theorem di.set{δ:df}(h:di K H δ σ){d:D}(r:bi K H d v):di K H (δ.set i (some d)) (σ.set i (some v)):=by
 refine⟨by rw[length_set,length_set];exact h.len,λ j e hj=>?_⟩;by_cases WX:i=j
 ·subst WX;have hi:i < δ.length:=by have:=(c9.mp hj).1;simpa using this
  rw[j5 hi]at hj;cases hj;exact⟨v,by rw[j5 (by rw[<- h.len];exact hi)],r⟩
 ·rw[l0 WX]at hj;obtain⟨u,q,w⟩:=h.get j e hj;exact⟨u,by rw[l0 WX];exact q,w⟩
abbrev bW:=D->Mem->Prop
abbrev cw:=df->Mem->bW->Prop
abbrev gg:=df->Mem->(Bool->Mem->Prop)->Prop
abbrev dF:=df->Mem->(List D->Mem->Prop)->Prop
structure jL where
 nx:df->Mem->Prop
 rt:bW
 bk:df->Mem->Prop:=λ _ _=>False
 ct:df->Mem->Prop:=λ _ _=>False
abbrev lJ:=jL->df->Mem->Prop
def kg(K:J5)(H:Hp)(Q2:bW)(Q:VK):Prop:=∀v H' d M',bi K H' d v->bv K H' M'->au H H'->Q2 d M'->Q v H'
def wW(K:J5)(H:Hp)(Q2:Bool->Mem->Prop)(Q:Bool->Hp->Prop):Prop:=∀b H' M',bv K H' M'->au H H'->Q2 b M'->Q b H'
def Uc(K:J5)(H:Hp)(Q2:List D->Mem->Prop)(Q:List V->Hp->Prop):Prop:=∀vs H' ds M',aD K H' ds vs->bv K H' M'->au H H'->Q2 ds M'->Q vs H'
def mU(K:J5)(H:Hp)(N2:df->Mem->Prop)(N:St->Hp->Prop):Prop:=∀σ' H' δ' M',di K H' δ' σ'->bv K H' M'->au H H'->N2 δ' M'->N σ' H'
structure Bl(K:J5)(H:Hp)(D2:jL)(E:Ends):Prop where
 nx:mU K H D2.nx E.nx
 rt:kg K H D2.rt E.rt
 bk:mU K H D2.bk E.bk
 ct:mU K H D2.ct E.ct
theorem kg.mono{Q2:bW}{Q:VK}(c:kg K H Q2 Q)(t:au H H1):kg K H1 Q2 Q:=λ v H' d M' a b e q=>c v H' d M' a b (t.trans e) q
theorem wW.mono{Q2:Bool->Mem->Prop}{Q:Bool->Hp->Prop}(c:wW K H Q2 Q)(t:au H H1):wW K H1 Q2 Q:=λ v H' M' b e q=>c v H' M' b (t.trans e) q
theorem mU.mono{N2:df->Mem->Prop}{N:St->Hp->Prop}(c:mU K H N2 N)(t:au H H1):mU K H1 N2 N:=λ v H' d M' a b e q=>c v H' d M' a b (t.trans e) q
theorem Bl.mono{D2:jL}{E:Ends}(c:Bl K H D2 E)(t:au H H1):Bl K H1 D2 E:=⟨c.nx.mono t,c.rt.mono t,c.bk.mono t,c.ct.mono t⟩
def up(K:J5)(t:cw):TE:=λ σ H Q=>∃δ M Q2,di K H δ σ/\bv K H M/\t δ M Q2/\kg K H Q2 Q
def Hx(K:J5)(t:gg):TT:=λ σ H Q=>∃δ M Q2,di K H δ σ/\bv K H M/\t δ M Q2/\wW K H Q2 Q
def XG(K:J5)(t:dF):TA:=λ σ H Q=>∃δ M Q2,di K H δ σ/\bv K H M/\t δ M Q2/\Uc K H Q2 Q
def Vp(K:J5)(t:lJ):TS:=λ E σ H=>∃δ M D2,di K H δ σ/\bv K H M/\t D2 δ M/\Bl K H D2 E
abbrev QE(X:Cx)(e:Expr)(t:cw):Prop:=PE X e (up X.K t)
abbrev QT(X:Cx)(e:Expr)(t:gg):Prop:=PT X e (Hx X.K t)
abbrev QW(X:Cx)(e:Expr)(t:gg):Prop:=PW X e (Hx X.K t)
abbrev QA(X:Cx)(es:List Expr)(t:dF):Prop:=PA X es (XG X.K t)
abbrev QS(X:Cx)(st:Stmt)(t:lJ):Prop:=PS X st (Vp X.K t)
abbrev HF(X:Cx)(aH:List Stmt)(t:lJ):Prop:=wU X aH (Vp X.K t)
theorem bJ{t t':TE}(h:PE X e t)(k:∀σ H Q,t' σ H Q->t σ H Q):PE X e t':=λ xz s σ H Q I q=>h xz s σ H Q I (k σ H Q q)
theorem EX{t t':TT}(h:PT X e t)(k:∀σ H Q,t' σ H Q->t σ H Q):PT X e t':=λ xz s σ H Q I q=>h xz s σ H Q I (k σ H Q q)
theorem LK{t t':TT}(h:PW X e t)(k:∀σ H Q,t' σ H Q->t σ H Q):PW X e t':=λ wh xz s σ H Q I q=>h wh xz s σ H Q I (k σ H Q q)
theorem LO{t t':TA}(h:PA X es t)(k:∀σ H Q,t' σ H Q->t σ H Q):PA X es t':=λ pos xz s σ H Q I q=>h pos xz s σ H Q I (k σ H Q q)
theorem kN{t t':TS}(h:PS X st t)(k:∀E σ H,t' E σ H->t E σ H):PS X st t':=λ xz s σ H E I q=>h xz s σ H E I (k E σ H q)
theorem EZ{aH:List Stmt}{t t':TS}(h:wU X aH t)(k:∀E σ H,t' E σ H->t E σ H):wU X aH t':=λ xz s σ H E I q=>h xz s σ H E I (k E σ H q)
end L3
variable {ds:List L3.D}{M M1 M':L3.Mem}{δ:L3.df}{d:L3.D}{ta:L3.dF}{r2:List L3.D->L3.Mem->L3.bW->Prop}{Qe:List L3.D->L3.Mem->Prop}{te to:L3.cw}{N:L3.df->L3.Mem->Prop}{tt tc:L3.gg}{QB:Bool->L3.Mem->Prop}
namespace L3
open PySem.Spec L2
abbrev hX:=D->D->Mem->bW->Prop
def Qx(K:J5)(r:R2)(r2:hX):Prop:=∀x y d e H M Q2 Q,bi K H d x->bi K H e y->bv K H M->r2 d e M Q2->kg K H Q2 Q->r x y H Q
def Qy(K:J5)(r:List V->Hp->VK->Prop)(r2:List D->Mem->bW->Prop):Prop:=∀xs ds H M Q2 Q,aD K H ds xs->bv K H M->r2 ds M Q2->kg K H Q2 Q->r xs H Q
def Xy(K:J5)(r:V->List V->Hp->VK->Prop)(r2:D->List D->Mem->bW->Prop):Prop:=∀x xs d ds H M Q2 Q,bi K H d x->aD K H ds xs->bv K H M->r2 d ds M Q2->kg K H Q2 Q->r x xs H Q
def TY(K:J5)(r:V->Option Int->Option Int->Hp->VK->Prop)(r2:D->Option Int->Option Int->Mem->bW->Prop):Prop:=∀x d lo hi H M Q2 Q,bi K H d x->bv K H M->r2 d lo hi M Q2->kg K H Q2 Q->r x lo hi H Q
def gC(X:Cx)(f:jp->jp->Sem jp)(r2:hX):Prop:=∃r,gh X f r/\Qx X.K r r2
def T9(X:Cx)(r2:hX):Prop:=∃r,yW X r/\Qx X.K r r2
def TZ(X:Cx)(r2:D->Option Int->Option Int->Mem->bW->Prop):Prop:=∃r,Bg X r/\TY X.K r r2
def dZ(X:Cx)(f:jp)(r2:List D->Mem->bW->Prop):Prop:=∃r,dw X f r/\Qy X.K r r2
def QC(X:Cx)(id:String)(r2:D->List D->Mem->bW->Prop):Prop:=∃r,T6 X id r/\Xy X.K r r2
section
variable {a b:Expr}{ta tb tc:cw}{pos:Pos}
def gq(i:Nat):cw:=λ δ M Q=>match δ[i]? with
 |some (some d)=>Q d M
 |_=>False
def sC(d:D):cw:=λ _ M Q=>Q d M
theorem Zq(i:Nat)(hN:X.N[i]?=some x:=by rfl)(hv:Ln X.env.scope x:=by first|exact Or.inl rfl|exact Or.inr (Or.inl rfl)|exact Or.inr (Or.inr rfl))(hd:(x==("__debug__":Str))=false:=by decide) (hcd:(x==("__classdict__":Str))=false:=by decide):QE X (.Name x pos) (gq i):=bJ (Fh hN hv hd hcd) λ σ H Q ⟨δ,M,Q2,hs,hm,q,k⟩=>by
 unfold gq at q;cases e:δ[i]? with
 |none=>rw[e]at q;exact q.elim
 |some o=>
  cases o with
  |none=>rw[e]at q;exact q.elim
  |some d=>rw[e]at q;obtain⟨v,h1,h2⟩:=hs.get i d e;exact⟨v,h1,k v H d M h2 hm (au.refl H) q⟩
theorem R4{i j:_}:QE X (.Constant (.int i) j pos) (sC (.int i)):=bJ Oq λ σ H Q ⟨δ,M,Q2,hs,hm,q,k⟩=>k _ H (.int i) M (ax.mpr rfl) hm (au.refl H) q
theorem VX{i j:_}:QE X (.Constant (.bool i) j pos) (sC (.bl i)):=bJ Se λ σ H Q ⟨δ,M,Q2,hs,hm,q,k⟩=>k _ H (.bl i) M (ba.mpr rfl) hm (au.refl H) q
theorem RY{i j:_}:QE X (.Constant (.str i) j pos) (sC (.str i)):=bJ Oi λ σ H Q ⟨δ,M,Q2,hs,hm,q,k⟩=>k _ H (.str i) M (bg.mpr rfl) hm (au.refl H) q
theorem R0{j:_}:QE X (.Constant .none j pos) (sC .bK):=bJ Ol λ σ H Q ⟨δ,M,Q2,hs,hm,q,k⟩=>k _ H .bK M (dS.mpr rfl) hm (au.refl H) q
def BP(r2:hX)(ta tb:cw):cw:=λ δ M Q=>ta δ M λ d M1=>tb δ M1 λ e M2=>r2 d e M2 Q
theorem nP{r:R2}{r2:hX}(hr:Qx K r r2):∀σ H Q,up K (BP r2 ta tb) σ H Q->Rw r (up K ta) (up K tb) σ H Q:=by rintro σ H Q ⟨δ,M,Q2,hs,hm,q,k⟩;refine⟨δ,M,_,hs,hm,q,λ x H1 d M1 hd bR t1 q1=>?_⟩;refine⟨δ,M1,_,hs.mono t1,bR,q1,λ y H2 e M2 he mP t2 q2=>?_⟩;exact hr x y d e H2 M2 Q2 Q (bi.mono t2 d hd) he mP q2 (k.mono (t1.trans t2))
theorem VU{op:Operator}{r2:hX}(o:gC X (binaryOp op) r2)(ha:QE X a ta)(hb:QE X b tb):QE X (.BinOp a op b pos) (BP r2 ta tb):=by obtain⟨r,ho,hr⟩:=o;exact bJ (Sa ho ha hb) (nP hr)
theorem R6{op:CmpOp}{r2:hX}(o:gC X (compareOp op) r2)(ha:QE X a ta)(hb:QE X b tb)(hm:behindInMarks op b=false):QE X (.Compare a [op] [b] pos) (BP r2 ta tb):=by obtain⟨r,ho,hr⟩:=o;exact bJ (JR ho ha hb hm) (nP hr)
def mM(t:cw):gg:=λ δ M Q=>t δ M λ d M1=>match d with
 | .bl k=>Q k M1
 |_=>False
theorem qZ{Q2:Bool->Mem->Prop}{Q:Bool->Hp->Prop}(k:wW K H Q2 Q):kg K H (λ d M1=>match d with| .bl k=>Q2 k M1|_=>False) (λ x H'=>∃k,x=.bl k/\Q k H'):=λ v H' d M' hd hm t q=>by
 cases d with
 |bl b=>exact⟨b,ba.mp hd,k b H' M' hm t q⟩
 |_=>exact q.elim
theorem NI{op:CmpOp}{r2:hX}(o:gC X (compareOp op) r2)(ha:QE X a ta)(hb:QE X b tb)(hm:behindInMarks op b=false):QT X (.Compare a [op] [b] pos) (mM (BP r2 ta tb)):=by obtain⟨r,ho,hr⟩:=o;refine EX (JE ho ha hb hm) ?_;rintro σ H Q ⟨δ,M,Q2,hs,hm,q,k⟩;exact nP hr σ H _ ⟨δ,M,_,hs,hm,q,qZ k⟩
theorem NG(h:QE X e ta)(he:∀whole,isTrue e X.env whole=(do let v <- whole;standAt e.pos;holding [v] (truthy v)):=by intro _;rfl):QT X e (mM ta):=by refine EX (N7 h he) ?_;rintro σ H Q ⟨δ,M,Q2,hs,hm,q,k⟩;exact⟨δ,M,_,hs,hm,q,qZ k⟩
variable {tA tB:gg}
def Na(t u:gg):gg:=λ δ M Q=>t δ M λ c M1=>if c=true then u δ M1 Q else Q false M1
def UL(t u:gg):gg:=λ δ M Q=>t δ M λ c M1=>if c=true then Q true M1 else u δ M1 Q
def MU(t:gg):gg:=λ δ M Q=>t δ M λ c M1=>Q (!c) M1
theorem Jf(ha:QT X a tA):QW X (.BoolOp .And [a] pos) tA:=JB ha
theorem ND(ha:QT X a tA):QW X (.BoolOp .Or [a] pos) tA:=N4 ha
theorem NF(ha:QT X a tA)(hb:QW X (.BoolOp .And (b::rest) pos) tB):QW X (.BoolOp .And (a::b::rest) pos) (Na tA tB):=LK (N6 ha hb) λ σ H Q ⟨δ,M,Q2,hs,hm,q,k⟩=>by
 refine⟨δ,M,_,hs,hm,q,λ c H1 M1 bR t1 q1=>?_⟩;cases c with
 |true=>rw[J3 rfl]at q1 ⊢;exact⟨δ,M1,Q2,hs.mono t1,bR,q1,k.mono t1⟩
 |false=>rw[J4 o6]at q1 ⊢;exact k _ _ _ bR t1 q1
theorem RV(ha:QT X a tA)(hb:QW X (.BoolOp .Or (b::rest) pos) tB):QW X (.BoolOp .Or (a::b::rest) pos) (UL tA tB):=LK (R9 ha hb) λ σ H Q ⟨δ,M,Q2,hs,hm,q,k⟩=>by
 refine⟨δ,M,_,hs,hm,q,λ c H1 M1 bR t1 q1=>?_⟩;cases c with
 |true=>rw[J3 rfl]at q1 ⊢;exact k _ _ _ bR t1 q1
 |false=>rw[J4 o6]at q1 ⊢;exact⟨δ,M1,Q2,hs.mono t1,bR,q1,k.mono t1⟩
theorem NH(ha:QT X a tA):QT X (.UnaryOp .Not a pos) (MU tA):=EX (N8 ha) λ σ H Q ⟨δ,M,Q2,hs,hm,q,k⟩=>⟨δ,M,_,hs,hm,q,λ c H1 M1 bR t1 q1=>k _ _ _ bR t1 q1⟩
def El(ta tb:cw):cw:=λ δ M Q=>ta δ M λ d M1=>match d with
 | .bl c=>if c=true then tb δ M1 Q else Q (.bl false) M1
 |_=>False
theorem RZ{op:_}(h:QE X a ta):QE X (.BoolOp op [a] pos) ta:=Oj h
theorem R8(ha:QE X a ta)(hb:QE X (.BoolOp .And (b::rest) pos) tb):QE X (.BoolOp .And (a::b::rest) pos) (El ta tb):=bJ (Ow ha hb) λ σ H Q ⟨δ,M,Q2,hs,hm,q,k⟩=>by
 refine⟨δ,M,_,hs,hm,q,λ x H1 d M1 hd bR t1 q1=>?_⟩;cases d with
 |bl c=>
  refine⟨c,ba.mp hd,?_⟩;have q1:if c=true then tb δ M1 Q2 else Q2 (.bl false) M1:=q1
  cases c with
  |true=>rw[J3 rfl]at q1 ⊢;exact⟨δ,M1,Q2,hs.mono t1,bR,q1,k.mono t1⟩
  |false=>rw[J4 o6]at q1 ⊢;exact k _ _ _ _ (ba.mpr rfl) bR t1 q1
 |_=>exact q1.elim
variable {t:dF}
def xD:dF:=λ _ M Q=>Q [] M
def oT(ta:cw)(tr:dF):dF:=λ δ M Q=>ta δ M λ d M1=>tr δ M1 λ ds M2=>Q (d::ds) M2
theorem NR:QA X [] xD:=LO lT λ σ H Q ⟨δ,M,Q2,hs,hm,q,k⟩=>k [] H [] M (by rw[ar]) hm (au.refl H) q
theorem Js(ha:QE X e ta)(hr:QA X es t)(hs:starEach (e::es) X.env=(false,eval e X.env)::starEach es X.env:=by rfl):QA X (e::es) (oT ta t):=LO (jn ha hr hs) λ σ H Q ⟨δ,M,Q2,hs,hm,q,k⟩=>by refine⟨δ,M,_,hs,hm,q,λ x H1 d M1 hd bR t1 q1=>?_⟩;refine⟨δ,M1,_,hs.mono t1,bR,q1,λ xs H2 ds M2 GD mP t2 q2=>?_⟩;exact k (x::xs) H2 (d::ds) M2 (ah.mpr ⟨x,xs,rfl,bi.mono t2 d hd,GD⟩) mP (t1.trans t2) q2
def MS(t:dF):cw:=λ δ M Q=>t δ M λ ds M1=>ds.length<=sizeLine/\Q (.tup ds) M1
theorem gI(hp:H p=none)(h:aD K H ds xs):bi K (ci H p (.tup xs)) (.tup ds) (.ref p):=a_.mpr ⟨p,xs,rfl,iD.of aL,aD.mono (au.laid hp) ds h⟩
theorem RX{x1:_}(h:QA X es t):QE X (.Tuple es x1 pos) (MS t):=bJ (Oh h) λ σ H Q ⟨δ,M,Q2,hs,hm,q,k⟩=>by refine⟨δ,M,_,hs,hm,q,λ xs H1 ds M1 hd bR t1 q1=>?_⟩;refine⟨by rw[hd.length];exact q1.1,λ p hp=>?_⟩;exact k _ _ (.tup ds) M1 (gI hp hd) (bR.laid hp) (t1.trans (au.laid hp)) q1.2
def MV(t:dF):cw:=λ δ M Q=>t δ M λ ds M1=>ds.length<=sizeLine/\∀p,M1 p=none->Q (.ref p) (ai M1 p (.lst ds))
theorem eK(hp:H p=none)(h:aD K H ds xs)(hm:bv K H M):bv K (ci H p (.lst xs)) (ai M p (.lst ds)):=
 hm.put (au.laid hp) ⟨xs,aL,aD.mono (au.laid hp) ds h⟩
theorem R1(h:QA X es t):QE X (.List es pos) (MV t):=bJ (Om h) λ σ H Q ⟨δ,M,Q2,hs,hm,q,k⟩=>by refine⟨δ,M,_,hs,hm,q,λ xs H1 ds M1 hd bR t1 q1=>?_⟩;refine⟨by rw[hd.length];exact q1.1,λ p hp=>?_⟩;exact k _ _ (.ref p) _ (aF.mpr rfl) (eK hp hd bR) (t1.trans (au.laid hp)) (q1.2 p (bR.free hp))
theorem VV{r2:hX}(o:T9 X r2)(ha:QE X a ta)(hb:QE X b tb)(hs:uj b):QE X (.Subscript a b pos) (BP r2 ta tb):=by obtain⟨r,ho,hr⟩:=o;exact bJ (Sb ho ha hb hs) (nP hr)
abbrev HE:=df->Mem->(Option Int->Mem->Prop)->Prop
def Ua(K:J5)(H:Hp)(Q2:Option Int->Mem->Prop)(Q:Option Int->Hp->Prop):Prop:=∀o H' M',bv K H' M'->au H H'->Q2 o M'->Q o H'
def Y3(K:J5)(t:HE):TO:=λ σ H Q=>∃δ M Q2,di K H δ σ/\bv K H M/\t δ M Q2/\Ua K H Q2 Q
abbrev QO(X:Cx)(e:Option Expr)(t:HE):Prop:=PO X e (Y3 X.K t)
theorem Fc{e:Option Expr}{t t':TO}(h:PO X e t)(k:∀σ H Q,t' σ H Q->t σ H Q):PO X e t':=λ xz s σ H Q I q=>h xz s σ H Q I (k σ H Q q)
def nK:HE:=λ _ M Q=>Q none M
def Eh(t:cw):HE:=λ δ M Q=>t δ M λ d M1=>match d with
 | .int i=>Q (some i) M1
 |_=>False
theorem Jl:QO X none nK:=Fc JK λ σ H Q ⟨δ,M,Q2,hs,hm,q,k⟩=>k _ _ _ hm (au.refl H) q
theorem Jk(h:QE X e ta):QO X (some e) (Eh ta):=Fc (JJ h) λ σ H Q ⟨δ,M,Q2,hs,hm,q,k⟩=>by
 refine⟨δ,M,_,hs,hm,q,λ x H1 d M1 hd bR t1 q1=>?_⟩;cases d with
 |int i=>exact⟨i,ax.mp hd,k _ _ _ bR t1 q1⟩
 |_=>exact q1.elim
variable {lo hi:Option Expr}{tl th:HE}
def UK(r2:D->Option Int->Option Int->Mem->bW->Prop)(te:cw)(tl th:HE):cw:=λ δ M Q=>te δ M λ d M1=>tl δ M1 λ l M2=>th δ M2 λ u M3=>r2 d l u M3 Q
theorem Jt{r2:D->Option Int->Option Int->Mem->bW->Prop}(o:TZ X r2)(he:QE X e ta)(hl:QO X lo tl)(hu:QO X hi th):QE X (.Subscript e (.Slice lo hi none p2) pos) (UK r2 ta tl th):=by obtain⟨r,ho,hr⟩:=o;refine bJ (Fi ho he hl hu) ?_;rintro σ H Q ⟨δ,M,Q2,hs,hm,q,k⟩;refine⟨δ,M,_,hs,hm,q,λ x H1 d M1 hd bR t1 q1=>?_⟩;refine⟨δ,M1,_,hs.mono t1,bR,q1,λ l H2 M2 mP t2 q2=>?_⟩;refine⟨δ,M2,_,hs.mono (t1.trans t2),mP,q2,λ u H3 M3 PF t3 q3=>?_⟩;exact hr x d l u H3 M3 Q2 Q (bi.mono (t2.trans t3) d hd) PF q3 (k.mono (t1.trans (t2.trans t3)))
def MZ(r2:List D->Mem->bW->Prop)(t:dF):cw:=λ δ M Q=>t δ M λ ds M1=>r2 ds M1 Q
variable {p:Pos}{id:String}
theorem A_{r:List V->Hp->VK->Prop}(hr:Qy K r r2):∀σ H Q,up K (MZ r2 t) σ H Q->Uj r (XG K t) σ H Q:=by rintro σ H Q ⟨δ,M,Q2,hs,hm,q,k⟩;exact⟨δ,M,_,hs,hm,q,λ xs H1 ds M1 hd bR t1 q1=>hr xs ds H1 M1 Q2 Q hd bR q1 (k.mono t1)⟩
theorem JA(o:dZ X (.builtin id) r2)(hg:Gl X x)(hm:X.mg x=none)(hv:bootBuiltins x=some (.builtin id))(ha:QA X (e::es) t)(hn:x≠"__name__":=by decide)(hdb:(x==("__debug__":Str))=false:=by decide) (he:starEach (e::es) X.env=(false,eval e X.env)::starEach es X.env:=by rfl) (hpl:(backTo pos (starEach es X.env)).any (·.1)=false:=by rfl):QE X (.Call (.Name x p) (e::es) [] pos) (MZ r2 t):=by obtain⟨r,ho,hr⟩:=o;exact bJ (vE ho hg hm hv ha hn hdb he hpl) (A_ hr)
theorem Jx(o:dZ X (.type T) r2)(hg:Gl X x)(hm:X.mg x=none)(hv:bootBuiltins x=some (.type T))(ha:QA X (e::es) t)(hn:x≠"__name__":=by decide)(hdb:(x==("__debug__":Str))=false:=by decide) (he:starEach (e::es) X.env=(false,eval e X.env)::starEach es X.env:=by rfl) (hpl:(backTo pos (starEach es X.env)).any (·.1)=false:=by rfl):QE X (.Call (.Name x p) (e::es) [] pos) (MZ r2 t):=by obtain⟨r,ho,hr⟩:=o;exact bJ (dM ho hg hm hv ha hn hdb he hpl) (A_ hr)
end
open PySem.Spec L2
def QM(T:String)(d:D)(M:Mem):Prop:=match d with
 | .str _=>T="str"
 | .ref a=>T="list"/\∃ds,M a=some (.lst ds)
 |_=>False
theorem QM.v9{x:V}(h:QM T d M)(r:bi K H d x)(hm:bv K H M):Uh K T x H:=by
 cases d with
 |str z=>cases(bg.mp r);exact h
 |ref a=>cases(aF.mp r);obtain⟨e,ds,q⟩:=h;obtain⟨xs,hx,_⟩:=hm a _ q;exact .inl ⟨e,xs,gB.of hx⟩
 |_=>exact h.elim
section
variable {o:Expr}{t:dF}{id:String}
def QQ(T:String)(r2:D->List D->Mem->bW->Prop)(to:cw)(t:dF):cw:=λ δ M Q=>to δ M λ d M1=>QM T d M1/\t δ M1 λ ds M2=>r2 d ds M2 Q
def M_(T:String)(r2:D->List D->Mem->bW->Prop)(to:cw):cw:=λ δ M Q=>to δ M λ d M1=>QM T d M1/\r2 d [] M1 Q
theorem R7{r2:D->List D->Mem->bW->Prop}(pa:PlainAttrs T)(slot:Slot T name id)(hty:typeOf (.builtin id)=pure (.type "method_descriptor"))(hm:QC X id r2)(ho:QE X o to) (hbase:attributeBase o name X.env (eval o X.env)=eval o X.env:=by rfl) (hline:(apos.endLine==bS.line)=true:=by rfl):QE X (.Call (.Attribute o name apos) [] [] bS) (M_ T r2 to):=by obtain⟨r,h1,hr⟩:=hm;refine bJ (Ov pa slot hty h1 ho hbase hline) ?_;rintro σ H Q ⟨δ,M,Q2,hs,hm,q,k⟩;exact⟨δ,M,_,hs,hm,q,λ x H1 d M1 hd bR t1 q1=>⟨q1.1.v9 hd bR,hr x [] d [] H1 M1 Q2 Q hd (by rw[ar]) bR q1.2 (k.mono t1)⟩⟩
theorem VW{r2:D->List D->Mem->bW->Prop}(pa:PlainAttrs T)(slot:Slot T name id)(hty:typeOf (.builtin id)=pure (.type "method_descriptor"))(hm:QC X id r2)(ho:QE X o to)(ha:QA X (e::es) t) (hbase:attributeBase o name X.env (eval o X.env)=eval o X.env:=by rfl) (hfew:((backTo bS (starEach (e::es) X.env)).all (λ x=>!x.1)&&(backToKw bS (keywordEach [] X.env)).all (λ x=>x.1.isSome)
   &&decide ((e::es).length+([]:List Keyword).length+(if([]:List Keyword).isEmpty then 0 else 1) < 30))=true:=by rfl)
  (hline:(apos.endLine==bS.line)=true:=by rfl) (hs:starEach (e::es) X.env=(false,eval e X.env)::starEach es X.env:=by rfl) (hplain:(backTo bS (starEach es X.env)).any (·.1)=false:=by rfl):
  QE X (.Call (.Attribute o name apos) (e::es) [] bS) (QQ T r2 to t):=by
 obtain⟨r,h1,hr⟩:=hm;refine bJ (Sd pa slot hty h1 ho ha hbase hfew hline hs hplain) ?_;rintro σ H Q ⟨δ,M,Q2,hs,hm,q,k⟩;refine⟨δ,M,_,hs,hm,q,λ x H1 d M1 hd bR t1 q1=>⟨q1.1.v9 hd bR,δ,M1,_,hs.mono t1,bR,q1.2,λ xs H2 ds M2 GD mP t2 q2=>?_⟩⟩;exact hr x xs d ds H2 M2 Q2 Q (bi.mono t2 d hd) GD mP q2 (k.mono (t1.trans t2))
end
abbrev fk:=List D->Mem->bW->Prop
def cK(K:J5)(sp:fk):Sp:=λ vs H Q _=>∃ds M Q2,aD K H ds vs/\bv K H M/\sp ds M Q2/\kg K H Q2 Q
def sD(sp:fk)(t:dF):cw:=λ δ M Q=>t δ M λ ds M1=>sp ds M1 Q
abbrev b_(P:Program)(w:World)(K:J5)(mg:Str->Option jp)(base:Heap)(k:Nat)(x:Str)(ps:List Str)(sp:fk):Prop:=bB P w K mg base k x ps (cK K sp)
section
variable {p pos:Pos}{t:dF}{sp:fk}
theorem R5(d:b_ X.prog X.w X.K X.mg X.base k x ps sp)(hr:cX k X.A)(hg:Gl X x)(ha:QA X (e::es) t)(hdb:(x==("__debug__":Str))=false:=by decide)(he:starEach (e::es) X.env=(false,eval e X.env)::starEach es X.env:=by rfl) (hpl:(backTo pos (starEach es X.env)).any (·.1)=false:=by rfl):QE X (.Call (.Name x p) (e::es) [] pos) (sD sp t):=by refine bJ (Ot d hr hg ha hdb he hpl) ?_;rintro σ H Q ⟨δ,M,Q2,hs,hm,q,k⟩;exact⟨δ,M,_,hs,hm,q,λ xs H1 ds M1 hd bR t1 q1=>⟨ds,M1,Q2,hd,bR,q1,k.mono t1⟩⟩
end
def iH(N:List Str)(ds:List D):df:=ds.map some++List.replicate (N.length - ds.length) none
theorem rj{N:List Str}{vs:List V}(h:aD K H ds vs):di K H (iH N ds) (L2.start N vs):=by
 have hl:=h.length;refine⟨by unfold iH L2.start;simp[hl],λ i d e=>?_⟩;unfold iH at e;by_cases hi:i < ds.length
 ·rw[c7 (by simpa using hi),r0]at e;cases q:ds[i]? with
  |none=>rw[q]at e;cases e
  |some d'=>
   rw[q]at e;have e:d'=d:=by simpa using e
   subst e;obtain⟨v,hv,r⟩:=h.get q;refine⟨v,?_,r⟩;unfold L2.start;rw[c7 (by simp;lia),r0,hv];rfl
 ·rw[c5 (by simpa using hi),i5]at e;split at e <;> cases e
def fin2(Q:bW):bW:=λ d M'=>∃oj,qM oj M'/\Q d oj
theorem aw{Q:bW}(q:Q d M):fin2 Q d M:=⟨M,qM.refl M,q⟩
theorem Zt{x qual:Str}{st:Stmt}{f:ww}{fd:FuncData}{N ps:List Str}{k:Nat}{sp:fk}(F:h_ K x qual st f fd)(S:aJ N ps (aq st))(len:∀ds M Q,sp ds M Q->ds.length=ps.length) (eW:∀(dE:jp) (A:Around) (outer:List Env) (s:kt) (H:Hp) (E:XK) (ds:List D) (M:Mem) (Q:bW),cX k (A.deeper (PyProof.Rows.envOfC qual (aq st) s.heap.objs.size f dE))->sp ds M Q->
   ∃t,HF (qH eX P w K mg base N qual (aq st) f dE A outer s H E).Ki (bG st) t/\t {nx:=λ _ M'=>fin2 Q .bK M',rt:=fin2 Q} (iH N ds) M):bT P w K mg base eX (k+1) f fd ps (cK K sp):=by
 refine F.ok S (λ vs H Q E h=>?_) (λ dE A outer s H vs Q E hr h=>?_)
 ·obtain⟨ds,M,Q2,hd,_,hs,_⟩:=h;rw[hd.length];exact len ds M Q2 hs
 ·obtain⟨ds,M,Q2,hd,hm,hs,kk⟩:=h;obtain⟨t,ht,q⟩:=eW dE A outer s H E ds M Q2 hr hs;refine⟨_,ht,iH N ds,M,_,rj hd,hm,q,⟨?_,?_,?_,?_⟩⟩
  ·exact λ σ' H' δ' M' _ fU t' ⟨oj,s,q⟩=>kk _ H' .bK oj (dS.mpr rfl) (fU.sub s) t' q
  ·exact λ v H' d M' qt fU t' ⟨oj,s,q⟩=>kk v H' d oj qt (fU.sub s) t' q
  ·exact λ σ' H' δ' M' _ fU t' q=>q
  ·exact λ σ' H' δ' M' _ fU t' q=>q
section
variable {rest:List Stmt}{t u:lJ}{pos:Pos}
def zD:lJ:=λ E δ M=>E.nx δ M
def Eg(t u:lJ):lJ:=λ E δ M=>t {E with nx:=u E} δ M
theorem Jh:HF X [] zD:=EZ JG λ E σ H ⟨δ,M,D2,hs,hm,q,k⟩=>k.nx σ H δ M hs hm (au.refl H) q
theorem Jg(h:QS X st t):HF X [st] t:=JF h
theorem ER(h1:QS X st t)(h2:HF X rest u):HF X (st::rest) (Eg t u):=EZ (EY h1 h2) λ E σ H ⟨δ,M,D2,hs,hm,q,k⟩=>by refine⟨δ,M,_,hs,hm,q,⟨λ σ' H' δ' M' gT fU t' q'=>?_,k.rt,k.bk,k.ct⟩⟩;exact⟨δ',M',D2,gT,fU,q',k.mono t'⟩
def vd(te:cw):lJ:=λ E δ M=>te δ M λ _ M1=>E.nx δ M1
theorem Ji(he:QE X e te)(hs:swapsWith e none pos.line X.env=pure false:=by rfl):QS X (.Expr e pos) (vd te):=kN (JH he hs) λ E σ H ⟨δ,M,D2,hs,hm,q,k⟩=>
 ⟨δ,M,_,hs,hm,q,λ x H1 d M1 hd bR t1 q1=>k.nx σ H1 δ M1 (hs.mono t1) bR t1 q1⟩
def MT(te:cw):lJ:=λ E δ M=>te δ M E.rt
theorem NL(he:QE X e te):QS X (.Return (some e) pos) (MT te):=kN (N_ he) λ E σ H ⟨δ,M,D2,hs,hm,q,k⟩=>⟨δ,M,_,hs,hm,q,k.rt⟩
def Iv(c:gg)(t u:lJ):lJ:=λ E δ M=>c δ M λ b M1=>if b=true then t E δ M1 else u E δ M1
theorem RW{a b:List Stmt}(hc:QT X c tc)(ha:HF X a t)(hb:HF X b u):QS X (.If c a b pos) (Iv tc t u):=kN (R_ hc ha hb) λ E σ H ⟨δ,M,D2,hs,hm,q,k⟩=>by
 refine⟨δ,M,_,hs,hm,q,λ b H1 M1 bR t1 q1=>?_⟩;cases b with
 |true=>rw[J3 rfl]at q1 ⊢;exact⟨δ,M1,D2,hs.mono t1,bR,q1,k.mono t1⟩
 |false=>rw[J4 o6]at q1 ⊢;exact⟨δ,M1,D2,hs.mono t1,bR,q1,k.mono t1⟩
abbrev jG:=D->df->Mem->(df->Mem->Prop)->Prop
abbrev qg:=List D->df->Mem->(df->Mem->Prop)->Prop
def Lq(K:J5)(t:jG):TG:=λ v σ H Q=>∃d δ M Q2,bi K H d v/\di K H δ σ/\bv K H M/\t d δ M Q2/\mU K H Q2 Q
def Vq(K:J5)(t:qg):Bf:=λ vs σ H Q=>∃ds δ M Q2,aD K H ds vs/\di K H δ σ/\bv K H M/\t ds δ M Q2/\mU K H Q2 Q
abbrev QG(X:Cx)(tg:Expr)(t:jG):Prop:=PG X tg (Lq X.K t)
abbrev T4(X:Cx)(tg:List Expr)(t:qg):Prop:=Qz X tg (Vq X.K t)
theorem Fg{g g':TG}(h:PG X tg g)(k:∀v σ H Q,g' v σ H Q->g v σ H Q):PG X tg g':=λ xz s σ H v u Q I r q=>h xz s σ H v u Q I r (k v σ H Q q)
theorem Ff{tg:List Expr}{g g':Bf}(h:Qz X tg g)(k:∀v σ H Q,g' v σ H Q->g v σ H Q):Qz X tg g':=λ xz s σ H v u Q I r q=>h xz s σ H v u Q I r (k v σ H Q q)
def am(i:Nat):jG:=λ d δ M Q=>Q (δ.set i (some d)) M
theorem lX:∀v σ H Q,Lq K (am i) v σ H Q->de i v σ H Q:=λ v σ H Q ⟨d,δ,M,Q2,hd,hs,hm,q,k⟩=>k _ H _ M (hs.set hd) hm (au.refl H) q
theorem Jr(hN:X.N.Nodup)(hi:X.N[i]?=some x)(hx:Loc X.env.scope x)(hf:X.fn x=true\/X.env.scope.names.lookup x=some .local:=by first|exact .inl rfl|exact .inr rfl|assumption):QG X (.Name x pos) (am i):=
 Fg (aQ hN hi hx hf) lX
def qE:qg:=λ ds δ M Q=>match ds with
 |[]=>Q δ M
 |_=>False
def dv(t:jG)(u:qg):qg:=λ ds δ M Q=>match ds with
 |d::r=>t d δ M λ δ' M'=>u r δ' M' Q
 |_=>False
theorem Jq:T4 X [] qE:=Ff fS λ v σ H Q ⟨ds,δ,M,Q2,hd,hs,hm,q,k⟩=>by
 cases ds with
 |nil=>exact⟨ar.mp hd,k _ H _ M hs hm (au.refl H) q⟩
 |cons d r=>exact q.elim
theorem EU{t:jG}{u:qg}(h1:QG X e t)(h2:T4 X es u) (hs:(assignEach (e::es) X.env).map (·.2)=assign e X.env::(assignEach es X.env).map (·.2):=by rfl):T4 X (e::es) (dv t u):=Ff (bU h1 h2 hs) λ v σ H Q ⟨ds,δ,M,Q2,hd,hs,hm,q,k⟩=>by
 cases ds with
 |nil=>exact q.elim
 |cons d r=>obtain⟨x,xs,rfl,hx,Wl⟩:=ah.mp hd;refine⟨x,xs,rfl,d,δ,M,_,hx,hs,hm,q,λ σ' H' δ' M' gT fU t' q'=>?_⟩;exact⟨r,δ',M',Q2,aD.mono t' r Wl,gT,fU,q',k.mono t'⟩
def qD(n:Nat)(t:qg):jG:=λ d δ M Q=>match d with
 | .tup ds=>ds.length=n/\t ds δ M Q
 |_=>False
theorem NP{t:qg}(hc:X.calm=true)(h:T4 X es t) (hn:(assignEach es X.env).length=n:=by rfl) (hst:(assignEach es X.env).findIdx? (·.1)=none:=by rfl):QG X (.Tuple es k pos) (qD n t):=Fg (iU hc h hn hst) λ v σ H Q ⟨d,δ,M,Q2,hd,hs,hm,q,k⟩=>by
 cases d with
 |tup ds=>obtain⟨p,xs,rfl,hq,hx⟩:=a_.mp hd;exact⟨p,xs,rfl,hq,by rw[hx.length];exact q.1,ds,δ,M,Q2,hx,hs,hm,q.2,k⟩
 |_=>exact q.elim
abbrev lI:=D->D->D->Mem->(Mem->Prop)->Prop
def Ub(K:J5)(H:Hp)(N2:Mem->Prop)(N:Hp->Prop):Prop:=∀H' M',bv K H' M'->au H H'->N2 M'->N H'
def Qw(K:J5)(r:Di)(r2:lI):Prop:=∀o i v d j e H M Q2 Q,bi K H d o->bi K H j i->bi K H e v->bv K H M->r2 d j e M Q2->Ub K H Q2 Q->r o i v H Q
def Hn(X:Cx)(r2:lI):Prop:=∃r,uk X r/\Qw X.K r r2
def hSub(to ti:cw)(t:lI):jG:=λ e δ M Q=>to δ M λ d M1=>ti δ M1 λ j M2=>t d j e M2 λ M3=>Q δ M3
theorem NQ{o i:Expr}{to ti:cw}{t:lI}(ho:QE X o to)(hi:QE X i ti)(hs:Hn X t) (ha:∀v,assign (.Subscript o i pos) X.env v=(do
   let ov <- holding [v] (eval o X.env)
   let iv <- holding [v,ov] (eval i X.env)
   standAt pos
   holding [v,ov,iv] (setItem ov iv v)
   release [v,ov,iv] []):=by intro _;rfl):QG X (.Subscript o i pos) (hSub to ti t):=by
 obtain⟨r,h1,hr⟩:=hs;refine Fg (Og ho hi h1 ha) ?_;rintro v σ H Q ⟨e,δ,M,Q2,hd,hs,hm,q,k⟩;refine⟨δ,M,_,hs,hm,q,λ x H1 d M1 hx bR t1 q1=>?_⟩;refine⟨δ,M1,_,hs.mono t1,bR,q1,λ y H2 j M2 hy mP t2 q2=>?_⟩;exact hr x y v d j e H2 M2 _ _ (bi.mono t2 d hx) hy (bi.mono (t1.trans t2) e hd) mP q2 λ H3 M3 PF t3 q3=>k σ H3 δ M3 (hs.mono (t1.trans (t2.trans t3))) PF (t1.trans (t2.trans t3)) q3
def vf(te:cw)(g:jG):lJ:=λ E δ M=>te δ M λ d M1=>g d δ M1 E.nx
theorem wQ{g:TG}{g2:jG}(hg:∀v σ H Q,Lq K g2 v σ H Q->g v σ H Q):∀E σ H,Vp K (vf te g2) E σ H->Ih (up K te) g E σ H:=by rintro E σ H ⟨δ,M,D2,hs,hm,q,k⟩;exact⟨δ,M,_,hs,hm,q,λ x H1 d M1 hd bR t1 q1=>hg x σ H1 _ ⟨d,δ,M1,_,hd,hs.mono t1,bR,q1,k.nx.mono t1⟩⟩
theorem NN{g:jG}(he:QE X e te)(hg:QG X tg g)(hs:swapsWithSole [tg] e pos.line X.env=pure false:=by rfl)(hw:swappedStores [tg] e X.env=pure none:=by rfl) (h1:(assignEach [tg] X.env).map (·.2)=[assign tg X.env]:=by rfl):QS X (.Assign [tg] e pos) (vf te g):=kN (Ob he hg hs hw h1) (wQ λ _ _ _ _ h=>h)
theorem NJ(hN:X.N.Nodup)(hi:X.N[i]?=some x)(hx:Loc X.env.scope x)(he:QE X e te)(hs:swapsWith e (some (.Name x pos')) pos.line X.env=pure false:=by rfl) (hf:X.fn x=true\/X.env.scope.names.lookup x=some .local:=by first|exact .inl rfl|exact .inr rfl|assumption):QS X (.Assign [.Name x pos'] e pos) (vf te (am i)):=kN (N9 hN hi hx he hs hf) (wQ lX)
end
end L3
variable {g:L3.jG}{sp:L3.fk}
namespace L3
open PySem.Spec L2
inductive Src where
 |fix (ds:List D)
 |at(a:ww)
 |fn (f:Mem->Option (List D))
def ad(s:Src)(M:Mem):Option (List D):=match s with
 | .fix ds=>some ds
 | .at a=>match M a with
  |some (.lst ds)=>some ds
  |_=>none
 | .fn f=>f M
def qO(K:J5)(H1:Hp)(J:It)(src:Src):Prop:=∀H M ds,au H1 H->bv K H M->ad src M=some ds->
 (∀i,i < ds.length->J.go i H)/\(∀i,i=ds.length->J.stop i H)/\(∀i x H',i < ds.length->J.HM i H x H'->au H H'/\bv K H' M/\∃d,ds[i]?=some d/\bi K H' d x)
abbrev sk:=df->Mem->(Src->Mem->Prop)->Prop
def Ug(K:J5)(t:sk):TI:=λ σ H R=>∃δ M R2,di K H δ σ/\bv K H M/\t δ M R2/\∀J H' src M',qO K H' J src->bv K H' M'->au H H'->R2 src M'->R J H'
abbrev QI(X:Cx)(tg iter:Expr)(t:sk):Prop:=PI X tg iter (Ug X.K t)
theorem zS{t t':TI}(h:PI X tg iter t)(k:∀σ H R,t' σ H R->t σ H R):PI X tg iter t':=λ xz s σ H R I q=>h xz s σ H R I (k σ H R q)
def lO(z:Str):List D:=z.cps.toList.map λ c=>D.str ⟨#[c]⟩
def ck(lo:Int)(n:Nat):List D:=(List.range n).map λ i=>D.int (lo+(i:Nat))
theorem cF(lo:Int)(n:Nat):(ck lo n).length=n:=by simp[ck]
theorem pb(h:i < n):(ck lo n)[i]?=some (.int (lo+(i:Nat))):=by simp[ck,h]
theorem FZ{z:Str}:qO K H1 (Ri z) (.fix (lO z)):=λ H M ds t hm e=>by
 cases e;have hl:(lO z).length=z.cps.size:=by simp[lO]
 refine⟨λ i hi=>by rw[hl]at hi;exact hi,λ i hi=>by rw[hl]at hi;exact hi,λ i x H' hi y=>?_⟩;obtain⟨e,c,hc,rfl⟩:=y;subst e;refine⟨au.refl _,hm,.str ⟨#[c]⟩,?_,bg.mpr rfl⟩;simp[lO,hc]
theorem FY(h:iD K H1 a xs)(hd:aD K H1 ds xs):qO K H1 (XA K a) (.fix ds):=λ H M es t hm e=>by cases e;have hq:=DO t h;have hx:=aD.mono t ds hd;have hl:=hx.length;refine⟨λ i hi=>⟨xs,xs[i]'(by lia),hq,by simp[hl,hi]⟩,λ i hi=>⟨xs,hq,by lia⟩,λ i x H' hi y=>?_⟩;obtain⟨e,y⟩:=y;obtain⟨d,h1,h2⟩:=hx.yu (y xs hq);subst e;exact⟨au.refl _,hm,d,h1,h2⟩
theorem F_:qO K H1 (Vn K a) (.at a):=λ H M ds t hm e=>by
 have e:(match M a with|some (.lst ds)=>some ds|_=>none)=some ds:=e;cases q:M a with
 |none=>rw[q]at e;cases e
 |some o=>
  cases o with
  |cO b kvs=>rw[q]at e;cases e
  |eS x=>rw[q]at e;cases e
  |lst es=>rw[q]at e;have e:es=ds:=A1 e;subst e;obtain⟨xs,hx,hd⟩:=hm a _ q;have hq:gB K H a xs:=gB.of hx;have hl:=hd.length;refine⟨λ i hi=>⟨xs,xs[i]'(by lia),hq,by simp[hl,hi]⟩,λ i hi=>⟨xs,hq,by lia⟩,λ i x H' hi y=>?_⟩;obtain⟨e,y⟩:=y;obtain⟨d,h1,h2⟩:=hd.yu (y xs hq);subst e;exact⟨au.refl _,hm,d,h1,h2⟩
theorem Ky(h:HI K H1 a xs)(hd:aD K H1 ds xs):qO K H1 (Vn K a) (.fix ds):=λ H M es t hm e=>by cases e;have hq:=(GL t h).sq;have hx:=aD.mono t ds hd;have hl:=hx.length;refine⟨λ i hi=>⟨xs,xs[i]'(by lia),hq,by simp[hl,hi]⟩,λ i hi=>⟨xs,hq,by lia⟩,λ i x H' hi y=>?_⟩;obtain⟨e,y⟩:=y;obtain⟨d,h1,h2⟩:=hx.yu (y xs hq);subst e;exact⟨au.refl _,hm,d,h1,h2⟩
theorem yf:qO K H1 (Vm lo n) (.fix (ck lo n)):=λ H M ds t hm e=>by cases e;rw[cF];refine⟨λ i hi=>hi,λ i hi=>Nat.le_of_eq hi.symm,λ i x H' hi y=>?_⟩;obtain⟨e,rfl⟩:=y;subst e;exact⟨au.refl _,hm,_,pb hi,ax.mpr rfl⟩
section
variable {l:Expr}{tl:cw}{a b:Expr}{p pos:Pos}
def Ph(tl:cw):sk:=λ δ M R=>tl δ M λ d M1=>match d with
 | .str z=>R (.fix (lO z)) M1
 | .tup ds=>R (.fix ds) M1
 | .fl ds=>R (.fix ds) M1
 | .ref a=>match M1 a with
  |some (.lst _)=>R (.at a) M1
  |_=>False
 |_=>False
theorem NO(hl:QE X l tl):QI X tg l (Ph tl):=zS (Of hl) λ σ H R ⟨δ,M,R2,hs,hm,q,k⟩=>by
 refine⟨δ,M,_,hs,hm,q,λ x H1 d M1 hd bR t1 q1=>?_⟩;cases d with
 |str z=>cases(bg.mp hd);exact k _ H1 _ M1 FZ bR t1 q1
 |tup ds=>obtain⟨p,xs,rfl,hq,hx⟩:=a_.mp hd;exact .inr ⟨xs,hq,k _ H1 _ M1 (FY hq hx) bR t1 q1⟩
 |fl ds=>obtain⟨p,xs,rfl,hq,hx⟩:=mw.mp hd;exact .inl ⟨xs,hq.sq,k _ H1 _ M1 (Ky hq hx) bR t1 q1⟩
 |ref a=>
  cases(aF.mp hd);have q1:(match M1 a with|some (.lst _)=>R2 (.at a) M1|_=>False):=q1;cases e:M1 a with
  |none=>rw[e]at q1;exact q1.elim
  |some o=>
   cases o with
   |cO b kvs=>rw[e]at q1;exact q1.elim
   |eS x=>rw[e]at q1;exact q1.elim
   |lst es=>rw[e]at q1;obtain⟨xs,hx,_⟩:=bR a _ e;exact .inl ⟨xs,gB.of hx,k _ H1 _ M1 F_ bR t1 q1⟩
 |_=>exact q1.elim
def XB(j:Int):Prop:= -(2^62)<=j/\j < 2^62
theorem dh{j:Int}(h0: -1000000000<=j)(h1:j<=1000000000):XB j:=by
 constructor
 ·exact Int.le_trans (by decide) h0
 ·exact q8 h1 (by decide)
def FW(ta:dF):sk:=λ δ M R=>ta δ M λ ds M1=>match ds with
 |[.int j]=>XB j/\R (.fix (ck 0 j.toNat)) M1
 |_=>False
theorem BX(hg:Gl X "range")(hm:X.mg "range"=none)(ha:QA X [a] ta)(hs:starEach [a] X.env=[(false,eval a X.env)]:=by rfl):QI X tg (.Call (.Name "range" p) [a] [] pos) (FW ta):=zS (Ca hg hm ha hs) λ σ H R ⟨δ,M,R2,hs,hm,q,k⟩=>by
 refine⟨δ,M,_,hs,hm,q,λ xs H1 ds M1 hd bR t1 q1=>?_⟩;cases ds with
 |nil=>exact q1.elim
 |cons d r=>
  cases r with
  |cons d2 r2=>cases d <;> exact q1.elim
  |nil=>
   cases d with
   |int j=>obtain⟨x,r,rfl,hx,hr⟩:=ah.mp hd;cases(ar.mp hr);cases(ax.mp hx);obtain⟨⟨b1,b2⟩,q1⟩:=q1;exact⟨j,rfl,b1,b2,k _ H1 _ M1 yf bR t1 q1⟩
   |_=>exact q1.elim
end
end L3
variable {R:L3.Src->L3.Mem->Prop}{wi:L3.sk}
namespace L3
open PySem.Spec L2
def MX(wi:sk)(g:jG)(tb:lJ):lJ:=λ E δ M=>wi δ M λ src M1=>∃(B:Nat) (W:Nat->df->Mem->Prop),W 0 δ M1/\∀i δ M,W i δ M->i<=B/\match ad src M with
 |none=>False
 |some ds=>match ds[i]? with
  |none=>i=ds.length/\E.nx δ M
  |some d=>g d δ M λ δ2 M2=>tb {E with nx:=W (i+1),ct:=W (i+1),bk:=E.nx} δ2 M2
section
variable {tb:lJ}{pos:Pos}
theorem NM(hp:PassesOwn (model X.prog X.w) X.A X.env X.xe)(hc:X.calm=true)(hi:QI X tg iter wi)(hg:QG X tg g)(hb:HF X body tb)(hs:∀x,foldedSetIterable iter X.env x=pure x:=by intro _;rfl):QS X (.For tg iter body [] pos) (MX wi g tb):=kN (N' hp hc hi hg hb hs) λ E σ H ⟨δ,M,D2,hs,hm,q,k⟩=>by
 refine⟨δ,M,_,hs,hm,q,λ J H1 src M1 ok bR t1 q1=>?_⟩;obtain⟨B,W,w0,turn⟩:=q1;refine⟨λ i m σ' H'=>m=B+1 - i/\∃δ' M',di X.K H' δ' σ'/\bv X.K H' M'/\au H1 H'/\W i δ' M',⟨B+1,rfl,δ,M1,hs.mono t1,bR,au.refl _,w0⟩,?_⟩;rintro i m σ' H' ⟨rfl,δ',M',gT,fU,t',w'⟩;obtain⟨hB,h⟩:=turn i δ' M' w';cases ei:ad src M' with
 |none=>rw[ei]at h;exact h.elim
 |some ds=>
  rw[ei]at h;obtain⟨go,stop,HM⟩:=ok H' M' ds t' fU ei;cases ed:ds[i]? with
  |none=>simp only[ed]at h;exact .inl ⟨stop i h.1,k.nx σ' H' δ' M' gT fU (t1.trans t') h.2⟩
  |some d=>
   simp only[ed]at h;have HA:i < ds.length:=(c9.mp ed).1;refine .inr ⟨go i HA,λ σ2 H2=>∃δ2 M2,di X.K H2 δ2 σ2/\bv X.K H2 M2/\au H1 H2/\W (i+1) δ2 M2,λ σ2 H2 ⟨δ2,M2,a,b,c,w2⟩=>⟨B+1 - (i+1),by lia,rfl,δ2,M2,a,b,c,w2⟩,λ x H2 y=>?_⟩;obtain⟨t2,mP,d',e',qt⟩:=HM i x H2 HA y;rw[ed]at e';cases e';refine⟨d,δ',M',_,qt,gT.mono t2,mP,h,λ σ3 H3 δ3 M3 U2 PF t3 q3=>?_⟩;refine⟨δ3,M3,_,U2,PF,q3,⟨?_,?_,?_,?_⟩⟩
   ·exact λ σ4 H4 δ4 M4 a b c w4=>⟨δ4,M4,a,b,t'.trans (t2.trans (t3.trans c)),w4⟩
   ·exact k.rt.mono (t1.trans (t'.trans (t2.trans t3)))
   ·exact k.nx.mono (t1.trans (t'.trans (t2.trans t3)))
   ·exact λ σ4 H4 δ4 M4 a b c w4=>⟨δ4,M4,a,b,t'.trans (t2.trans (t3.trans c)),w4⟩
end
open PySem.Spec L2
def xC(c:gg)(tb:lJ):lJ:=λ E δ M=>∃W:Nat->df->Mem->Prop,(∃m,W m δ M)/\∀m δ M,W m δ M->c δ M λ b M1=>
 if b=true then ∃N:df->Mem->Prop,(∀δ' M',N δ' M'->∃m',m' < m/\W m' δ' M')/\tb {E with nx:=N,ct:=N,bk:=E.nx} δ M1 else E.nx δ M1
section
variable {tb:lJ}{pos:Pos}
theorem ES(hp:PassesOwn (model X.prog X.w) X.A X.env X.xe)(hc:QT X c tc)(hb:HF X body tb):QS X (.While c body [] pos) (xC tc tb):=kN (E_ hp hc hb) λ E σ H ⟨δ,M,D2,hs,hm,q,k⟩=>by
 obtain⟨W,⟨m0,w0⟩,turn⟩:=q;refine⟨λ m σ' H'=>∃δ' M',di X.K H' δ' σ'/\bv X.K H' M'/\au H H'/\W m δ' M',⟨m0,δ,M,hs,hm,au.refl _,w0⟩,?_⟩;rintro m σ' H' ⟨δ',M',gT,fU,t',w'⟩;refine⟨δ',M',_,gT,fU,turn m δ' M' w',λ b H1 M1 bR t1 q1=>?_⟩;cases b with
 |false=>simp only[o8,G9]at q1;exact k.nx σ' H1 δ' M1 (gT.mono t1) bR (t'.trans t1) q1
 |true=>
  simp only[J1]at q1;obtain⟨N,hN,q1⟩:=q1;refine⟨λ σ2 H2=>∃δ2 M2,di X.K H2 δ2 σ2/\bv X.K H2 M2/\au H H2/\N δ2 M2,λ σ2 H2 ⟨δ2,M2,a,b,c,n2⟩=>?_,?_⟩
  ·obtain⟨m',fU,w2⟩:=hN δ2 M2 n2;exact⟨m',fU,δ2,M2,a,b,c,w2⟩
  ·refine⟨δ',M1,_,gT.mono t1,bR,q1,⟨?_,?_,?_,?_⟩⟩
   ·exact λ σ4 H4 δ4 M4 a b c w4=>⟨δ4,M4,a,b,t'.trans (t1.trans c),w4⟩
   ·exact k.rt.mono (t'.trans t1)
   ·exact k.nx.mono (t'.trans t1)
   ·exact λ σ4 H4 δ4 M4 a b c w4=>⟨δ4,M4,a,b,t'.trans (t1.trans c),w4⟩
end
open PySem.Spec L2
def j_(n:Nat)(fr:List Nat)(δ:df):df:=List.replicate n none++fr.map (λ j=>δ.getD j none)
theorem Lf{σ:L2.St}(h:di K H δ σ)(n:Nat)(fr:List Nat):di K H (j_ n fr δ) (fX n fr σ):=by
 refine⟨by simp[j_,fX],λ i d e=>?_⟩;unfold j_ at e;by_cases hi:i < n
 ·rw[c7 (by simpa using hi),i5,J3 hi]at e;cases e
 ·rw[c5 (by simpa using hi),length_replicate,r0]at e;cases ej:fr[i - n]? with
  |none=>rw[ej]at e;cases e
  |some j=>
   rw[ej]at e;have e:δ.getD j none=some d:=A1 e;have hj:j < δ.length:=by refine Nat.lt_of_not_le λ z=>?_;rw[c6,k4 z]at e;cases e
   have e':δ[j]?=some (some d):=by rw[c6,i0 hj]at e;rw[i0 hj];exact H9 some e
   obtain⟨v,hv,r⟩:=h.get j d e';refine⟨v,?_,r⟩;unfold fX;rw[c5 (by simpa using hi),length_replicate,r0,ej];simp[c6,hv]
def oU(wi:sk)(g:jG)(tt:gg)(te:cw)(n:Nat)(fr:List Nat):df->Mem->(List D->Mem->Prop)->Prop:=λ δ M Q=>wi δ M λ src M1=>∃(B:Nat) (W:Nat->List D->Mem->Prop),W 0 [] M1/\∀i zn M,W i zn M->i<=B/\zn.length<=sizeLine/\match ad src M with
 |none=>False
 |some ds=>match ds[i]? with
  |none=>i=ds.length/\Q zn M
  |some d=>g d (j_ n fr δ) M λ δ2 M2=>tt δ2 M2 λ b M3=>if b=true then te δ2 M3 λ y M4=>W (i+1) (zn++[y]) M4 else W (i+1) zn M3
theorem mD{σ:L2.St}{Q:V->Hp->Prop}{gv:TG}(hgl:∀v σ H Q,Lq K g v σ H Q->gv v σ H Q)(hs:di K H δ σ)(hm:bv K H M)(q:oU wi g tt te n fr δ M Qe) (k:∀zn xs H' M' p,aD K H' zn xs->bv K H' M'->au H H'->zn.length<=sizeLine->H' p=none->Qe zn M'->Q (.ref p) (ci H' p (.lst xs))):uS (Ug K wi) gv (Hx K tt) (up K te) n fr σ H Q:=by
 refine⟨δ,M,_,hs,hm,q,λ J H1 src M1 ok bR t1 q1=>?_⟩;obtain⟨B,W,w0,turn⟩:=q1;refine⟨λ i m xs H'=>m=B+1 - i/\∃zn M',aD K H' zn xs/\bv K H' M'/\au H1 H'/\W i zn M',⟨B+1,rfl,[],M1,by rw[ar],bR,au.refl _,w0⟩,?_⟩;rintro i m xs H' ⟨rfl,zn,M',qt,fU,t',w'⟩;obtain⟨hB,hz,h⟩:=turn i zn M' w';refine⟨by rw[qt.length];exact hz,?_⟩;cases ei:ad src M' with
 |none=>rw[ei]at h;exact h.elim
 |some ds=>
  rw[ei]at h;obtain⟨go,stop,HM⟩:=ok H' M' ds t' fU ei;cases ed:ds[i]? with
  |none=>simp only[ed]at h;exact .inl ⟨stop i h.1,λ p hp=>k zn xs H' M' p qt fU (t1.trans t') hz hp h.2⟩
  |some d=>
   simp only[ed]at h;have HA:i < ds.length:=(c9.mp ed).1;refine .inr ⟨go i HA,λ ys H2=>∃Ll M2,aD K H2 Ll ys/\bv K H2 M2/\au H1 H2/\W (i+1) Ll M2,λ ys H2 ⟨Ll,M2,a,b,c,w2⟩=>⟨B+1 - (i+1),by lia,rfl,Ll,M2,a,b,c,w2⟩,λ x H2 y=>?_⟩;obtain⟨t2,mP,d',e',wa⟩:=HM i x H2 HA y;rw[ed]at e';cases e';refine hgl _ _ _ _ ⟨d,j_ n fr δ,M',_,wa,Lf (hs.mono (t1.trans (t'.trans t2))) n fr,mP,h,λ σ3 H3 δ3 M3 U2 PF t3 q3=>?_⟩;refine⟨δ3,M3,_,U2,PF,q3,λ b H4 M4 Yj t4 q4=>?_⟩;cases b with
   |false=>rw[J4 o6]at q4 ⊢;exact⟨zn,M4,aD.mono (t2.trans (t3.trans t4)) zn qt,Yj,t'.trans (t2.trans (t3.trans t4)),q4⟩
   |true=>rw[J3 rfl]at q4 ⊢;exact⟨δ3,M4,_,U2.mono t4,Yj,q4,λ yv H5 y5 M5 ZQ hm5 t5 q5=>⟨zn++[y5],M5,(aD.mono (t2.trans (t3.trans (t4.trans t5))) zn qt).append (aD.one ZQ),hm5,t'.trans (t2.trans (t3.trans (t4.trans t5))),q5⟩⟩
section
variable {elt:Expr}{pos:Pos}
abbrev Vk(X:Cx)(ifs:List Expr)(t:gg):Prop:=Rh X ifs (Hx X.K t)
def xB:gg:=λ _ M Q=>Q true M
theorem Jn:Vk X [] xB:=λ xz s σ H Q I h=>JN xz s σ H Q I (by
 obtain⟨δ,M,Q2,hs,hm,q,k⟩:=h;exact k _ _ _ hm (au.refl H) q)
theorem Jm{t:gg}(h:QT X c t):Vk X [c] t:=JM h
def TV(X:Cx)(scope:Scope)(tgs:List Str)(fr:List Nat)(tg:Expr)(g2:jG):Prop:=
 ∃g:TG,(∀cl C fp s H,PG (bE X scope cl tgs fr C fp s H) tg g)/\ke tgs.length g/\∀v σ H Q,Lq X.K g2 v σ H Q->g v σ H Q
theorem Ic{ps:Pos}(h:∀cl C fp s H,PG (bE X scope cl tgs fr C fp s H) (.Name x ps) (de i))(hi:i < tgs.length):TV X scope tgs fr (.Name x ps) (am i):=⟨_,h,jv hi,lX⟩
def Hq(g:TG):Prop:=∀x σ H Q Q',(∀σ' H',Q σ' H'->Q' σ' H')->g x σ H Q->g x σ H Q'
def um(g:Bf):Prop:=∀xs σ H Q Q',(∀σ' H',Q σ' H'->Q' σ' H')->g xs σ H Q->g xs σ H Q'
theorem fz:Hq (de i):=λ x σ H Q Q' k q=>k _ _ q
theorem pN:um tR:=λ xs σ H Q Q' k q=>⟨q.1,k _ _ q.2⟩
theorem nV{t:TG}{u:Bf}(ht:Hq t)(hu:um u):um (dX t u):=λ xs σ H Q Q' k ⟨v,r,e,q⟩=>⟨v,r,e,ht v σ H _ _ (λ σ' H' q'=>hu r σ' H' _ _ k q') q⟩
theorem lr{t:TG}{u:Bf}(h:ke n t)(k:om n u)(ht:Hq t)(hu:um u):om n (dX t u):=λ xs σ H Q ⟨v,r,e,q⟩=>by refine⟨v,r,e,ht v σ H _ _ (λ σ' H' ⟨q',l',k'⟩=>?_) (h v σ H _ q)⟩;refine hu r σ' H' _ _ (λ σ2 H2 ⟨q2,l2,k2⟩=>⟨q2,l2.trans l',λ j hj=>(k2 j hj).trans (k' j hj)⟩) (k r σ' H' _ q')
theorem GI{t:Bf}(h:om m t):ke m (wc K n t):=λ x σ H Q ⟨a,xs,e,hq,hl,q⟩=>⟨a,xs,e,hq,hl,h xs σ H _ q⟩
theorem BF:∀v σ H Q,Lq K (qD 2 (dv (am i) (dv (am j) qE))) v σ H Q->wc K 2 (dX (de i) (dX (de j) tR)) v σ H Q:=λ v σ H Q ⟨d,δ,M,Q2,hd,hs,hm,q,k⟩=>by
 cases d with
 |tup ds=>
  obtain⟨p,xs,rfl,hq,hx⟩:=a_.mp hd;obtain⟨hl,q⟩:=q
  match ds,hl,hx,q with
  |[a,b],hl,hx,q=>obtain⟨x,r,rfl,ha,hx⟩:=ah.mp hx;obtain⟨y,r,rfl,hb,hx⟩:=ah.mp hx;cases(ar.mp hx);exact⟨p,[x,y],rfl,hq,rfl,x,[y],rfl,y,[],rfl,rfl,k _ H _ M ((hs.set ha).set hb) hm (au.refl H) q⟩
 |_=>exact q.elim
theorem Ib{y:Str}{px py pt:Pos}(h:∀cl C fp s H,PG (bE X scope cl tgs fr C fp s H) (.Tuple [.Name x px,.Name y py] k pt) (wc X.K 2 (dX (de i) (dX (de j) tR))))(hi:i < tgs.length)(hj:j < tgs.length):TV X scope tgs fr (.Tuple [.Name x px,.Name y py] k pt) (qD 2 (dv (am i) (dv (am j) qE))):=
 ⟨_,h,GI (lr (jv hi) (lr (jv hj) GJ fz pN) fz (nV fz pN)),BF⟩
def ql(X:Cx)(scope:Scope)(tgs:List Str)(fr:List Nat)(tg iter:Expr)(ifs:List Expr)(elt:Expr)(wi:sk)(g:jG)(tt:gg)(te:cw):Prop:=
 lL X scope fr/\X.calm=true/\(∀e s,X.xe e s->False)/\QI X tg iter wi/\TV X scope tgs fr tg g/\(∀cl C fp s H,Vk (bE X scope cl tgs fr C fp s H) ifs tt)/\(∀cl C fp s H,QE (bE X scope cl tgs fr C fp s H) elt te)
def ve(wi:sk)(g:jG)(tt:gg)(te:cw)(n:Nat)(fr:List Nat):cw:=λ δ M Q=>oU wi g tt te n fr δ M λ ds M'=>∀p,M' p=none->Q (.ref p) (ai M' p (.lst ds))
theorem N3(C:ql X scope tgs fr tg iter ifs elt wi g tt te)(hs:∀x,foldedSetIterable iter X.env x=pure x:=by intro _;rfl):QE X (.ListComp elt [⟨tg,iter,ifs,0⟩] scope pos) (ve wi g tt te tgs.length fr):=by obtain⟨B,hc,hE,hi,⟨gv,hg,gk,gl⟩,ht,he⟩:=C;refine bJ (tp (tt:=Hx X.K tt) (te:=up X.K te) B hc hE hi hg gk ht he hs) ?_;rintro σ H Q ⟨δ,M,Q2,hs,hm,q,k⟩;exact mD gl hs hm q λ zn xs H' M' p hd fU t' hz hp q'=>k _ _ (.ref p) _ (aF.mpr rfl) (eK hp hd fU) (t'.trans (au.laid hp)) (q' p (fU.free hp))
theorem xQ{y:Str}{py uU:Pos}(hN:X.N.Nodup)(hiy:X.N[i]?=some y)(hy:Loc X.env.scope y)(C:ql X scope tgs fr tg iter ifs elt wi g tt te) (hsw:swapsWith (.ListComp elt [⟨tg,iter,ifs,0⟩] scope pos) (some (.Name y py)) uU.line X.env=pure true:=by rfl) (hf:X.fn y=true\/X.env.scope.names.lookup y=some .local:=by first|exact .inl rfl|exact .inr rfl|assumption) (hs:∀x,foldedSetIterable iter X.env x=pure x:=by intro _;rfl):QS X (.Assign [.Name y py] (.ListComp elt [⟨tg,iter,ifs,0⟩] scope pos) uU) (vf (ve wi g tt te tgs.length fr) (am i)):=by obtain⟨B,hc,hE,hi,⟨gv,hg,gk,gl⟩,ht,he⟩:=C;refine kN (xS (tt:=Hx X.K tt) (te:=up X.K te) hN hiy hy B hc hE hi hg gk ht he hsw hf hs) ?_;rintro E σ H ⟨δ,M,D2,hs,hm,q,k⟩;exact mD gl hs hm q λ zn xs H' M' p hd fU t' hz hp q'=>k.nx _ _ _ _ (((hs.mono t').mono (au.laid hp)).set (aF.mpr rfl)) (eK hp hd fU) (t'.trans (au.laid hp)) (q' p (fU.free hp))
def BO(r3:List D->Mem->bW->Prop)(wi:sk)(g:jG)(tt:gg)(te:cw)(n:Nat)(fr:List Nat):cw:=λ δ M Q=>oU wi g tt te n fr δ M λ ds M'=>r3 ds M' Q
def qe(r2:List D->Mem->bW->Prop)(r3:List D->Mem->bW->Prop):Prop:=∀ds M p Q,M p=none->ds.length<=sizeLine->r3 ds M Q->r2 [.ref p] (ai M p (.lst ds)) (fin2 Q)
theorem GO{Q2:bW}{Q:VK}(k:kg K H Q2 Q):kg K H (fin2 Q2) Q:=λ v H' d M' hd hm t ⟨oj,s,q⟩=>k v H' d oj hd (hm.sub s) t q
variable {p:Pos}{id:String}
theorem uQ{r:List V->Hp->VK->Prop}{r3:List D->Mem->bW->Prop}{gv:TG}(gl:∀v σ H Q,Lq X.K g v σ H Q->gv v σ H Q)(hr:Qy X.K r r2)(h3:qe r2 r3):∀σ H Q,up X.K (BO r3 wi g tt te tgs.length fr) σ H Q->Uj r (Ls (uS (Ug X.K wi) gv (Hx X.K tt) (up X.K te) tgs.length fr) Rx) σ H Q:=by rintro σ H Q ⟨δ,M,Q2,hs,hm,q,k⟩;show uS (Ug X.K wi) gv (Hx X.K tt) (up X.K te) tgs.length fr σ H (λ x H1=>r [x] H1 Q);refine mD gl hs hm q λ zn xs H' M' p hd fU t' hz hp q'=>?_;exact hr [.ref p] [.ref p] _ _ (fin2 Q2) Q (aD.one (aF.mpr rfl)) (eK hp hd fU) (h3 zn M' p Q2 (fU.free hp) hz q') (GO (k.mono (t'.trans (au.laid hp))))
theorem NU{r3:List D->Mem->bW->Prop}(o:dZ X (.builtin id) r2)(h3:qe r2 r3)(hg:Gl X x)(hm:X.mg x=none)(hv:bootBuiltins x=some (.builtin id))(C:ql X scope tgs fr tg iter ifs elt wi g tt te)(hn:x≠"__name__":=by decide)(hdb:(x==("__debug__":Str))=false:=by decide) (hs:∀x,foldedSetIterable iter X.env x=pure x:=by intro _;rfl):QE X (.Call (.Name x p) [.ListComp elt [⟨tg,iter,ifs,0⟩] scope bS] [] pos) (BO r3 wi g tt te tgs.length fr):=by obtain⟨B,hc,hE,hi,⟨gv,WZ,gk,gl⟩,ht,he⟩:=C;obtain⟨r,ho,hr⟩:=o;exact bJ (vE ho hg hm hv (jn (tp (tt:=Hx X.K tt) (te:=up X.K te) B hc hE hi WZ gk ht he hs) lT) hn hdb) (uQ gl hr h3)
theorem NT{r3:List D->Mem->bW->Prop}(o:dZ X (.type T) r2)(h3:qe r2 r3)(hg:Gl X x)(hm:X.mg x=none)(hv:bootBuiltins x=some (.type T))(C:ql X scope tgs fr tg iter ifs elt wi g tt te)(hn:x≠"__name__":=by decide)(hdb:(x==("__debug__":Str))=false:=by decide) (hs:∀x,foldedSetIterable iter X.env x=pure x:=by intro _;rfl):QE X (.Call (.Name x p) [.ListComp elt [⟨tg,iter,ifs,0⟩] scope bS] [] pos) (BO r3 wi g tt te tgs.length fr):=by obtain⟨B,hc,hE,hi,⟨gv,WZ,gk,gl⟩,ht,he⟩:=C;obtain⟨r,ho,hr⟩:=o;exact bJ (dM ho hg hm hv (jn (tp (tt:=Hx X.K tt) (te:=up X.K te) B hc hE hi WZ gk ht he hs) lT) hn hdb) (uQ gl hr h3)
variable {o:Expr}
end
open PySem.Spec L2
def dI(C:Int->Int->Prop)(g:Int->Int->D):hX:=λ x y M Q=>match x,y with
 | .int i,.int j=>C i j/\Q (g i j) M
 |_,_=>False
def K8(g:Int->Int->D):hX:=λ x y M Q=>match x,y with
 | .int i,.int j=>Q (g i j) M
 |_,_=>False
theorem si{f:jp->jp->Sem jp}{g:Int->Int->Int}(h:gh X f (rI C λ i j=>.int (g i j))):gC X f (dI C λ i j=>.int (g i j)):=⟨_,h,λ x y d e H M Q2 Q hd he hm q k=>by
 cases d <;> cases e <;> first
  |exact q.elim
  |(cases(ax.mp hd);cases(ax.mp he);exact⟨_,_,rfl,rfl,q.1,k _ H _ M (ax.mpr rfl) hm (au.refl H) q.2⟩)⟩
theorem XS{f:jp->jp->Sem jp}{g:Int->Int->Int}(h:gh X f (Hy λ i j=>.int (g i j))):gC X f (K8 λ i j=>.int (g i j)):=⟨_,h,λ x y d e H M Q2 Q hd he hm q k=>by
 cases d <;> cases e <;> first
  |exact q.elim
  |(cases(ax.mp hd);cases(ax.mp he);exact⟨_,_,rfl,rfl,k _ H _ M (ax.mpr rfl) hm (au.refl H) q⟩)⟩
theorem VL{f:jp->jp->Sem jp}{g:Int->Int->Bool}(h:gh X f (Hy λ i j=>.bl (g i j))):gC X f (K8 λ i j=>.bl (g i j)):=⟨_,h,λ x y d e H M Q2 Q hd he hm q k=>by
 cases d <;> cases e <;> first
  |exact q.elim
  |(cases(ax.mp hd);cases(ax.mp he);exact⟨_,_,rfl,rfl,k _ H _ M (ba.mpr rfl) hm (au.refl H) q⟩)⟩
theorem zX:gC X (binaryOp .Sub) (K8 λ i j=>.int (i - j)):=XS OA
theorem jK:gC X (binaryOp .Mod) (dI (λ _ j=>0 < j) λ i j=>.int (i % j)):=si OF
theorem xZ:gC X (binaryOp .FloorDiv) (dI QJ λ i j=>.int (i / j)):=si JW
theorem vG:gC X (binaryOp .Pow) (dI Ue λ i j=>.int (i^j.toNat)):=si OC
theorem Su:gC X (binaryOp .BitXor) (K8 λ i j=>.int (Builtin.bitXor i j)):=XS Oz
theorem ph:gC X (compareOp .Lt) (K8 λ i j=>.bl (decide (i < j))):=VL Sh
theorem Sw:gC X (compareOp .Gt) (K8 λ i j=>.bl (decide (j < i))):=VL Si
theorem V3:gC X (compareOp .GtE) (K8 λ i j=>.bl (decide (j<=i))):=VL Sj
def K9:hX:=λ x y M Q=>match x,y with
 | .int i,.int j=>Q (.int (i+j)) M
 | .str i,.str j=>i.length+j.length<=sizeLine/\Q (.str (i++j)) M
 | .tup xs,.tup ys=>xs≠[]/\xs.length+ys.length<=sizeLine/\Q (.tup (xs++ys)) M
 | .ref a,.ref b=>match M a,M b with
  |some (.lst xs),some (.lst ys)=>xs.length+ys.length<=sizeLine/\∀p,M p=none->Q (.ref p) (ai M p (.lst (xs++ys)))
  |_,_=>False
 |_,_=>False
theorem Sy:gC X (binaryOp .Add) K9:=⟨_,OK.or (xY.or (OJ.or JX)),λ x y d e H M Q2 Q hd he hm q k=>by
 cases d with
 |int i=>
  cases e with
  |int j=>cases(ax.mp hd);cases(ax.mp he);exact .inl ⟨_,_,rfl,rfl,k _ H _ M (ax.mpr rfl) hm (au.refl H) q⟩
  |_=>exact q.elim
 |str i=>
  cases e with
  |str j=>cases(bg.mp hd);cases(bg.mp he);exact .inr (.inl ⟨_,_,rfl,rfl,q.1,k _ H _ M (bg.mpr rfl) hm (au.refl H) q.2⟩)
  |_=>exact q.elim
 |tup xs=>
  cases e with
  |tup ys=>
   obtain⟨p,vs,rfl,hp,hx⟩:=a_.mp hd;obtain⟨p2,ws,rfl,fM,hy⟩:=a_.mp he;obtain⟨fN,hlen,q⟩:=q;refine .inr (.inr (.inr ⟨p,p2,vs,ws,rfl,rfl,hp,fM,?_,by rw[hx.length,hy.length];exact hlen,?_⟩))
   ·intro z;have:=hx.length;rw[z]at this;exact fN (i7.mp this.symm)
   ·refine⟨λ hz=>?_,λ hz p3 SU=>?_⟩
    ·have ZR:ys=[]:=by have:=hy.length;rw[hz]at this;exact i7.mp this.symm
     subst ZR;rw[y7]at q;exact k _ H _ M (a_.mpr ⟨p,vs,rfl,hp,hx⟩) hm (au.refl H) q
    ·exact k _ _ _ M (gI SU (hx.append hy)) (hm.laid SU) (au.laid SU) q
  |_=>exact q.elim
 |ref a=>
  cases e with
  |ref b=>
   cases(aF.mp hd);cases(aF.mp he);have q:(match M a,M b with|some (.lst xs),some (.lst ys)=>xs.length+ys.length<=sizeLine/\∀p,M p=none->Q2 (.ref p) (ai M p (.lst (xs++ys)))|_,_=>False):=q;cases ea:M a with
   |none=>rw[ea]at q;exact q.elim
   |some oa=>
    cases eb:M b with
    |none=>rw[ea,eb]at q;cases oa <;> exact q.elim
    |some ob=>
     cases oa with
     |cO b kvs=>rw[ea,eb]at q;exact q.elim
     |eS x=>rw[ea,eb]at q;exact q.elim
     |lst xs=>
      cases ob with
      |cO b kvs=>rw[ea,eb]at q;exact q.elim
      |eS x=>rw[ea,eb]at q;exact q.elim
      |lst ys=>rw[ea,eb]at q;obtain⟨vs,ZX,uD⟩:=hm a _ ea;obtain⟨ws,L1,YQ⟩:=hm b _ eb;refine .inr (.inr (.inl ⟨a,b,vs,ws,rfl,rfl,ZX,L1,by rw[uD.length,YQ.length];exact q.1,λ p hp=>?_⟩));exact k _ _ (.ref p) _ (aF.mpr rfl) (eK hp (uD.append YQ) hm) (au.laid hp) (q.2 p (hm.free hp))
  |_=>exact q.elim
 |_=>exact q.elim⟩
def Qj:hX:=λ x y M Q=>match x,y with
 | .int i,.int j=>uo i j/\Q (.int (i*j)) M
 | .str z,.int n=>MulOk z n/\Q (.str (Txt.mul z n)) M
 |_,_=>False
theorem Sv:gC X (binaryOp .Mult) Qj:=⟨_,OE.or xX,λ x y d e H M Q2 Q hd he hm q k=>by
 cases d <;> cases e <;> first
  |exact q.elim
  |(cases(ax.mp hd);cases(ax.mp he);exact .inl ⟨_,_,rfl,rfl,q.1,k _ H _ M (ax.mpr rfl) hm (au.refl H) q.2⟩)
  |(cases(bg.mp hd);cases(ax.mp he);exact .inr ⟨_,_,rfl,rfl,q.1,k _ H _ M (bg.mpr rfl) hm (au.refl H) q.2⟩)⟩
def rT:D->Option V
 | .bK=>some .bK
 | .bl b=>some (.bl b)
 | .int i=>some (.int i)
 | .str x=>some (.str x)
 |_=>none
theorem rS{x:V}(e:rT d=some v)(h:bi K H d x):x=v:=by
 cases d with
 |bK=>cases e;exact dS.mp h
 |bl b=>cases e;exact ba.mp h
 |int i=>cases e;exact ax.mp h
 |str z=>cases e;exact bg.mp h
 |ty n=>exact absurd e (by intro z;cases z)
 |ref a=>exact absurd e (by intro z;cases z)
 |tup xs=>exact absurd e (by intro z;cases z)
 |fl xs=>exact absurd e (by intro z;cases z)
theorem pQ(e:rT d=some v):il v=true:=by
 cases d with
 |bK=>cases e;rfl
 |bl b=>cases e;rfl
 |int i=>cases e;rfl
 |str z=>cases e;rfl
 |ty n=>exact absurd e (by intro z;cases z)
 |ref a=>exact absurd e (by intro z;cases z)
 |tup xs=>exact absurd e (by intro z;cases z)
 |fl xs=>exact absurd e (by intro z;cases z)
def Qm(neg:Bool):hX:=λ x y M Q=>match x,y with
 | .int i,.int j=>Q (.bl (xor neg (decide (i=j)))) M
 | .bl i,.bl j=>Q (.bl (xor neg (decide (i=j)))) M
 | .str i,.str j=>Q (.bl (xor neg (decide (i=j)))) M
 |_,_=>False
theorem V4:gC X (compareOp .Eq) (Qm false):=⟨_,Sk,λ x y d e H M Q2 Q hd he hm q k=>by
 cases d <;> cases e <;> first
  |exact q.elim
  |(cases(ax.mp hd);cases(ax.mp he);refine⟨rfl,k _ H _ M (ba.mpr rfl) hm (au.refl H) ?_⟩;have q:Q2 (.bl (xor false (decide (_=_)))) M:=q;simpa using q)
  |(cases(ba.mp hd);cases(ba.mp he);refine⟨rfl,k _ H _ M (ba.mpr rfl) hm (au.refl H) ?_⟩;have q:Q2 (.bl (xor false (decide (_=_)))) M:=q;simpa using q)
  |(cases(bg.mp hd);cases(bg.mp he);refine⟨rfl,k _ H _ M (ba.mpr rfl) hm (au.refl H) ?_⟩;have q:Q2 (.bl (xor false (decide (_=_)))) M:=q;simpa using q)⟩
theorem V1:gC X (compareOp .NotEq) (Qm true):=⟨_,Sg,λ x y d e H M Q2 Q hd he hm q k=>by
 cases d <;> cases e <;> first
  |exact q.elim
  |(cases(ax.mp hd);cases(ax.mp he);refine⟨rfl,k _ H _ M (ba.mpr rfl) hm (au.refl H) ?_⟩;have q:Q2 (.bl (xor true (decide (_=_)))) M:=q;simpa using q)
  |(cases(ba.mp hd);cases(ba.mp he);refine⟨rfl,k _ H _ M (ba.mpr rfl) hm (au.refl H) ?_⟩;have q:Q2 (.bl (xor true (decide (_=_)))) M:=q;simpa using q)
  |(cases(bg.mp hd);cases(bg.mp he);refine⟨rfl,k _ H _ M (ba.mpr rfl) hm (au.refl H) ?_⟩;have q:Q2 (.bl (xor true (decide (_=_)))) M:=q;simpa using q)⟩
def yF(neg:Bool):hX:=λ x y M Q=>match y with
 | .bK=>match x with
  | .bK=>Q (.bl (!neg)) M
  |_=>Q (.bl neg) M
 |_=>False
theorem wx{x:V}(h:bi K H d x):decide (x=.bK)=match d with| .bK=>true|_=>false:=by
 cases d with
 |bK=>cases(dS.mp h);rfl
 |bl b=>cases(ba.mp h);rfl
 |int b=>cases(ax.mp h);rfl
 |str b=>cases(bg.mp h);rfl
 |ty b=>cases(Qh.mp h);rfl
 |ref b=>cases(aF.mp h);rfl
 |tup b=>obtain⟨p,xs,rfl,_⟩:=a_.mp h;rfl
 |fl b=>obtain⟨p,xs,rfl,_⟩:=mw.mp h;rfl
theorem zY:gC X (compareOp .Is) (yF false):=⟨_,OG,λ x y d e H M Q2 Q hd he hm q k=>by
 cases e with
 |bK=>refine⟨dS.mp he,?_⟩;rw[wx hd];refine k _ H _ M (ba.mpr rfl) hm (au.refl H) ?_;cases d <;> exact q
 |_=>exact q.elim⟩
theorem OX:gC X (compareOp .IsNot) (yF true):=⟨_,JU,λ x y d e H M Q2 Q hd he hm q k=>by
 cases e with
 |bK=>refine⟨dS.mp he,?_⟩;rw[wx hd];refine k _ H _ M (ba.mpr rfl) hm (au.refl H) ?_;cases d <;> exact q
 |_=>exact q.elim⟩
def rR:List D->Option (List V)
 |[]=>some []
 |d::r=>match rT d,rR r with
  |some v,some vs=>some (v::vs)
  |_,_=>none
theorem pP:∀{ds:List D} {xs vs:List V},rR ds=some vs->aD K H ds xs->xs=vs/\vs.all il=true
 |[],xs,vs,e,h=>by cases e;exact⟨ar.mp h,rfl⟩
 |d::r,xs,vs,e,h=>by
  obtain⟨x,ys,rfl,hx,hy⟩:=ah.mp h;unfold rR at e;cases e1:rT d with
  |none=>rw[e1]at e;cases e
  |some v=>
   cases e2:rR r with
   |none=>rw[e1,e2]at e;cases e
   |some ws=>rw[e1,e2]at e;cases e;obtain⟨h1,h2⟩:=pP e2 hy;exact⟨by rw[rS e1 hx,h1],by rw[all_cons,pQ e1,h2];rfl⟩
def inD(x:D)(ds:List D):Option Bool:=match rT x,rR ds with
 |some v,some vs=>some (SJ v vs)
 |_,_=>none
def YT:hX:=λ x y M Q=>match y with
 | .str j=>match x with
  | .str i=>Q (.bl (!(Builtin.Str.occurrences j i 0 j.length 1).isEmpty)) M
  |_=>False
 | .tup ds=>match inD x ds with
  |some b=>Q (.bl b) M
  |none=>False
 | .ref a=>match M a with
  |some (.lst ds)=>match inD x ds with
   |some b=>Q (.bl b) M
   |none=>False
  |_=>False
 |_=>False
theorem Gf{x:V}{b:Bool}(e:inD d ds=some b)(hd:bi K H d x)(hx:aD K H ds xs):il x=true/\xs.all il=true/\SJ x xs=b:=by
 unfold inD at e;cases e1:rT d with
 |none=>rw[e1]at e;cases e
 |some v=>
  cases e2:rR ds with
  |none=>rw[e1,e2]at e;cases e
  |some vs=>rw[e1,e2]at e;have e:SJ v vs=b:=A1 e;obtain⟨rfl,h2⟩:=pP e2 hx;cases(rS e1 hd);exact⟨pQ e1,h2,e⟩
theorem V2:gC X (compareOp .In) YT:=⟨_,Cd.or Ce,λ x y d e H M Q2 Q hd he hm q k=>by
 cases e with
 |str j=>
  cases(bg.mp he);cases d with
  |str i=>cases(bg.mp hd);exact .inl ⟨_,_,rfl,rfl,k _ H _ M (ba.mpr rfl) hm (au.refl H) q⟩
  |_=>exact q.elim
 |tup ds=>
  obtain⟨p,xs,rfl,hp,hx⟩:=a_.mp he;have q:(match inD d ds with|some b=>Q2 (.bl b) M|none=>False):=q;cases ei:inD d ds with
  |none=>rw[ei]at q;exact q.elim
  |some b=>rw[ei]at q;obtain⟨h1,h2,h3⟩:=Gf ei hd hx;refine .inr ⟨p,xs,rfl,.inr hp,h1,h2,?_⟩;simp only[o8,G9];rw[h3];exact k _ H _ M (ba.mpr rfl) hm (au.refl H) q
 |ref a=>
  cases(aF.mp he);have q:(match M a with|some (.lst ds)=>(match inD d ds with|some b=>Q2 (.bl b) M|none=>False)|_=>False):=q;cases ea:M a with
  |none=>rw[ea]at q;exact q.elim
  |some o=>
   cases o with
   |cO b kvs=>rw[ea]at q;exact q.elim
   |eS x=>rw[ea]at q;exact q.elim
   |lst ds=>
    rw[ea]at q;obtain⟨xs,hx,dx⟩:=hm a _ ea;cases ei:inD d ds with
    |none=>simp only[ei]at q
    |some b=>simp only[ei]at q;obtain⟨h1,h2,h3⟩:=Gf ei hd dx;refine .inr ⟨a,xs,rfl,.inl (gB.of hx),h1,h2,?_⟩;simp only[o8,G9];rw[h3];exact k _ H _ M (ba.mpr rfl) hm (au.refl H) q
 |_=>exact q.elim⟩
open PySem.Spec L2
theorem Li(h:aD K H ds xs){i:Int}(e:ip ds i=some d):∃x,ip xs i=some x/\bi K H d x:=by
 unfold ip at e ⊢;rw[h.length];cases q:Cw ds.length i with
 |none=>rw[q]at e;cases e
 |some j=>rw[q]at e;obtain⟨x,h1,h2⟩:=h.get (i:=j) e;exact⟨x,h1,h2⟩
def bY(M:Mem)(a:ww):Option (List D):=match M a with
 |some (.lst ds)=>some ds
 |_=>none
theorem gs(e:bY M a=some ds)(hm:bv K H M):∃xs,H a=some (.lst xs)/\aD K H ds xs:=by
 unfold bY at e;cases q:M a with
 |none=>rw[q]at e;cases e
 |some o=>
  cases o with
  |cO b kvs=>rw[q]at e;cases e
  |eS x=>rw[q]at e;cases e
  |lst es=>rw[q]at e;cases e;exact hm a _ q
def cA(M:Mem):D->Option (List D)
 | .tup ds=>some ds
 | .fl ds=>some ds
 | .ref a=>bY M a
 |_=>none
theorem iL(e:cA M d=some ds)(hd:bi K H d v)(hm:bv K H M):∃p xs,v=.ref p/\(gB K H p xs\/iD K H p xs)/\aD K H ds xs:=by
 cases d with
 |tup es=>cases e;obtain⟨p,xs,rfl,h,q⟩:=a_.mp hd;exact⟨p,xs,rfl,.inr h,q⟩
 |fl es=>cases e;obtain⟨p,xs,rfl,h,q⟩:=mw.mp hd;exact⟨p,xs,rfl,.inl h.sq,q⟩
 |ref a=>cases(aF.mp hd);obtain⟨xs,h,q⟩:=gs e hm;exact⟨a,xs,rfl,.inl (gB.of h),q⟩
 |_=>cases e
def Ra:hX:=λ x y M Q=>match y with
 | .int i=>match x with
  | .str z=>z.length<=sizeLine/\(match ip z.cps.toList i with
   |some c=>Q (.str ⟨#[c]⟩) M
   |none=>False)
  |x=>match cA M x with
   |some ds=>(match ip ds i with
    |some d=>Q d M
    |none=>False)
   |none=>False
 |_=>False
theorem tJ{x:V}{i:Int}{Q2:bW}{Q:VK}(hd:bi K H d x)(hm:bv K H M)(k:kg K H Q2 Q) (q:match cA M d with|some ds=>(match ip ds i with|some d=>Q2 d M|none=>False)|none=>False):∃p xs v,x=.ref p/\(gB K H p xs\/iD K H p xs)/\ip xs i=some v/\Q v H:=by
 cases e:cA M d with
 |none=>rw[e]at q;exact q.elim
 |some ds=>
  rw[e]at q;cases ei:ip ds i with
  |none=>simp only[ei]at q
  |some d'=>simp only[ei]at q;obtain⟨p,xs,rfl,h,hx⟩:=iL e hd hm;obtain⟨v,h1,h2⟩:=Li hx ei;exact⟨p,xs,v,rfl,h,h1,k v H d' M h2 hm (au.refl H) q⟩
theorem aR:T9 X Ra:=⟨_,L2.aR,λ x y d e H M Q2 Q hd he hm q k=>by
 cases e with
 |int i=>
  cases(ax.mp he);cases d with
  |str z=>
   cases(bg.mp hd);obtain⟨hz,q⟩:=q;refine⟨hz,?_⟩;cases ei:ip z.cps.toList i with
   |none=>rw[ei]at q;exact q.elim
   |some c=>rw[ei]at q;exact⟨c,rfl,k _ H _ M (bg.mpr rfl) hm (au.refl H) q⟩
  |tup ds=>obtain⟨p,xs,v,rfl,h⟩:=tJ (d:=.tup ds) (i:=i) hd hm k q;exact⟨xs,v,h⟩
  |fl ds=>obtain⟨p,xs,v,rfl,h⟩:=tJ (d:=.fl ds) (i:=i) hd hm k q;exact⟨xs,v,h⟩
  |ref a=>obtain⟨p,xs,v,rfl,h⟩:=tJ (d:=.ref a) (i:=i) hd hm k q;exact⟨xs,v,h⟩
  |_=>exact q.elim
 |_=>exact q.elim⟩
def cutD(xs:List D)(lo hi:Option Int):List D:=(xs.drop (HT.cT xs.length 0 lo)).take (HT.cT xs.length xs.length hi - HT.cT xs.length 0 lo)
theorem wD(h:aD K H ds xs)(lo hi:Option Int):aD K H (cutD ds lo hi) (wF xs lo hi):=by unfold cutD wF;rw[h.length];exact(h.drop _).take _
def YS:D->Option Int->Option Int->Mem->bW->Prop:=λ x lo hi M Q=>match x with
 | .str z=>z.length<=sizeLine/\Q (.str (yH z lo hi)) M
 | .tup ds=>¬(HT.cT ds.length 0 lo=0/\HT.cT ds.length ds.length hi=ds.length)/\Q (.tup (cutD ds lo hi)) M
 | .ref a=>match bY M a with
  |some ds=>∀p,M p=none->Q (.ref p) (ai M p (.lst (cutD ds lo hi)))
  |none=>False
 |_=>False
theorem ir:TZ X YS:=⟨_,L2.ir,λ x d lo hi H M Q2 Q hd hm q k=>by
 cases d with
 |str z=>cases(bg.mp hd);exact⟨q.1,k _ H _ M (bg.mpr rfl) hm (au.refl H) q.2⟩
 |tup ds=>obtain⟨p,xs,rfl,h,hx⟩:=a_.mp hd;refine .inr ⟨p,xs,rfl,h,by rw[hx.length];exact q.1,λ p2 fM=>?_⟩;exact k _ _ _ M (gI fM (wD hx lo hi)) (hm.laid fM) (au.laid fM) q.2
 |ref a=>
  cases(aF.mp hd);have q:(match bY M a with|some ds=>∀p,M p=none->Q2 (.ref p) (ai M p (.lst (cutD ds lo hi)))|none=>False):=q;cases e:bY M a with
  |none=>rw[e]at q;exact q.elim
  |some ds=>rw[e]at q;obtain⟨xs,h,hx⟩:=gs e hm;exact .inl ⟨a,xs,rfl,gB.of h,λ p hp=>k _ _ (.ref p) _ (aF.mpr rfl) (eK hp (wD hx lo hi) hm) (au.laid hp) (q p (hm.free hp))⟩
 |_=>exact q.elim⟩
def CT:List D->Mem->bW->Prop:=λ xs M Q=>match xs with
 |[.str z]=>z.length<=sizeLine/\Q (.int z.length) M
 |[x]=>match cA M x with
  |some ds=>Q (.int ds.length) M
  |none=>False
 |_=>False
theorem cb:dZ X (.builtin "len") CT:=⟨_,t_.or uc,λ xs ds H M Q2 Q hd hm q k=>by
 cases ds with
 |nil=>exact q.elim
 |cons d r=>
  cases r with
  |cons d2 r2=>cases d <;> exact q.elim
  |nil=>
   obtain⟨x,r,rfl,hx,hr⟩:=ah.mp hd;cases(ar.mp hr);have seq:(match cA M d with|some ds=>Q2 (.int ds.length) M|none=>False)->∃p ys,[x]=[V.ref p]/\(gB X.K H p ys\/iD X.K H p ys)/\Q (.int ys.length) H:=λ q=>by
    cases e:cA M d with
    |none=>rw[e]at q;exact q.elim
    |some es=>rw[e]at q;obtain⟨p,ys,rfl,h,hy⟩:=iL e hx hm;refine⟨p,ys,rfl,h,?_⟩;rw[hy.length];exact k _ H _ M (ax.mpr rfl) hm (au.refl H) q
   cases d with
   |str z=>cases(bg.mp hx);exact .inl ⟨z,rfl,q.1,k _ H _ M (ax.mpr rfl) hm (au.refl H) q.2⟩
   |tup es=>exact .inr (seq q)
   |fl es=>exact .inr (seq q)
   |ref a=>exact .inr (seq q)
   |_=>exact q.elim⟩
def dList:List D->Mem->bW->Prop:=λ xs M Q=>match xs with
 |[x]=>match cA M x with
  |some ds=>∀p,M p=none->Q (.ref p) (ai M p (.lst ds))
  |none=>False
 |_=>False
theorem yO:dZ X (.type "list") dList:=⟨_,tZ,λ xs ds H M Q2 Q hd hm q k=>by
 cases ds with
 |nil=>exact q.elim
 |cons d r=>
  cases r with
  |cons d2 r2=>exact q.elim
  |nil=>
   obtain⟨x,r,rfl,hx,hr⟩:=ah.mp hd;cases(ar.mp hr);have q:(match cA M d with|some ds=>∀p,M p=none->Q2 (.ref p) (ai M p (.lst ds))|none=>False):=q;cases e:cA M d with
   |none=>rw[e]at q;exact q.elim
   |some es=>
    rw[e]at q;obtain⟨p,ys,rfl,h,hy⟩:=iL e hx hm;exact⟨p,ys,rfl,h,λ l hl=>k _ _ (.ref l) _ (aF.mpr rfl) (eK hl hy hm) (au.laid hl) (q l (hm.free hl))⟩⟩
def yD:List D->Mem->bW->Prop:=λ xs M Q=>match xs with
 |[x]=>match cA M x with
  |some ds=>Q (.tup ds) M
  |none=>False
 |_=>False
theorem br:dZ X (.type "tuple") yD:=⟨_,qJ,λ xs ds H M Q2 Q hd hm q k=>by
 cases ds with
 |nil=>exact q.elim
 |cons d r=>
  cases r with
  |cons d2 r2=>exact q.elim
  |nil=>
   obtain⟨x,r,rfl,hx,hr⟩:=ah.mp hd;cases(ar.mp hr);have q:(match cA M d with|some ds=>Q2 (.tup ds) M|none=>False):=q;cases e:cA M d with
   |none=>rw[e]at q;exact q.elim
   |some es=>
    rw[e]at q;obtain⟨p,ys,rfl,h|h,hy⟩:=iL e hx hm
    ·exact⟨p,ys,rfl,.inl ⟨h,λ l hl=>k _ _ (.tup es) M (gI hl hy) (hm.laid hl) (au.laid hl) q⟩⟩
    ·exact⟨p,ys,rfl,.inr ⟨h,k _ H (.tup es) M (a_.mpr ⟨p,ys,rfl,h,hy⟩) hm (au.refl H) q⟩⟩⟩
theorem cp:qe yD (λ ds M Q=>Q (.tup ds) M):=λ ds M p Q hp hz q=>by
 show(match cA (ai M p (.lst ds)) (.ref p)with|some es=>fin2 Q (.tup es) (ai M p (.lst ds))|none=>False);have e:cA (ai M p (.lst ds)) (.ref p)=some ds:=by show bY (ai M p (.lst ds)) p=some ds;unfold bY;rw[ag]
 rw[e];exact⟨M,(qM.refl M).put hp,q⟩
theorem Co:bY (ai M p (.lst ds)) p=some ds:=by unfold bY;rw[ag]
def HX(M:Mem):D->Option String
 | .bK=>some "NoneType"
 | .bl _=>some "bool"
 | .int _=>some "int"
 | .str _=>some "str"
 | .tup _=>some "tuple"
 | .fl _=>some "list"
 | .ref a=>(bY M a).map λ _=>"list"
 |_=>none
open PySem.Spec L2
def K6:lI:=λ o i v M N=>match o,i with
 | .ref a,.int k=>match bY M a with
  |some ds=>(match Cw ds.length k with
   |some j=>N (ai M a (.lst (ds.set j v)))
   |none=>False)
  |none=>False
 |_,_=>False
theorem oR:Hn X K6:=⟨_,set_list,λ o i v d j e H M Q2 Q hd hj he hm q k=>by
 cases d with
 |ref a=>
  cases j with
  |int n=>
   cases(aF.mp hd);cases(ax.mp hj);have q:(match bY M a with|some ds=>(match Cw ds.length n with|some j=>Q2 (ai M a (.lst (ds.set j e)))|none=>False)|none=>False):=q;cases el:bY M a with
   |none=>rw[el]at q;exact q.elim
   |some ds=>
    rw[el]at q;cases ei:Cw ds.length n with
    |none=>simp only[ei]at q
    |some m=>simp only[ei]at q;obtain⟨xs,h,hx⟩:=gs el hm;refine⟨a,xs,n,m,rfl,rfl,h,by rw[hx.length];exact ei,?_⟩;exact k _ _ (hm.put (u:=.lst (ds.set m e)) (au.lst h) ⟨_,aL,aD.mono (au.lst h) _ (hx.set he m)⟩) (au.lst h) q
  |_=>exact q.elim
 |_=>exact q.elim⟩
open L2
section
variable {Q:bW}{ta tb tc:cw}{r r':hX}{E:jL}{t u:lJ}{c c':gg}{tl:dF}{QL:List D->Mem->Prop}
theorem Nl(h:t {E with nx:=u E} δ M):Eg t u E δ M:=h
theorem EF(h:c δ M λ b M1=>if b=true then t E δ M1 else u E δ M1):Iv c t u E δ M:=h
theorem IH(h:E.nx δ M):zD E δ M:=h
theorem xM(h:ta δ M E.rt):MT ta E δ M:=h
theorem Nz(h:ta δ M λ d M1=>g d δ M1 E.nx):vf ta g E δ M:=h
theorem sW(h:ta δ M λ _ M1=>E.nx δ M1):vd ta E δ M:=h
theorem eJ(h:N (δ.set i (some d)) M):am i d δ M N:=h
theorem Nj{s:lI}(h:ta δ M λ o M1=>tb δ M1 λ j M2=>s o j d M2 λ M3=>N δ M3):hSub ta tb s d δ M N:=h
theorem Nk{k:Int}{v:D}{N:Mem->Prop}(h:M a=some (.lst ds))(e:Cw ds.length k=some j)(q:N (ai M a (.lst (ds.set j v)))):K6 (.ref a) (.int k) v M N:=by
 show(match bY M a with|some ds=>(match Cw ds.length k with|some j=>N (ai M a (.lst (ds.set j v)))|none=>False)|none=>False);have e1:bY M a=some ds:=by unfold bY;rw[h]
 rw[e1];simp only[e];exact q
theorem nL(h:ta δ M λ d M1=>match d with| .bl k=>QB k M1|_=>False):mM ta δ M QB:=h
theorem zH(h:ta δ M λ d M1=>tb δ M1 λ e M2=>r d e M2 Q):BP r ta tb δ M Q:=h
theorem f_(e:δ[i]?=some (some d))(h:Q d M):gq i δ M Q:=by unfold gq;rw[e];exact h
theorem I_(h:Q d M):sC d δ M Q:=h
theorem NA(h:c δ M λ b M1=>if b=true then c' δ M1 QB else QB false M1):Na c c' δ M QB:=h
theorem LF(h:c δ M λ b M1=>if b=true then QB true M1 else c' δ M1 QB):UL c c' δ M QB:=h
theorem Nn(h:c δ M λ b M1=>QB (!b) M1):MU c δ M QB:=h
theorem Jd(h:ta δ M λ d M1=>match d with| .bl c=>(if c=true then tb δ M1 Q else Q (.bl false) M1)|_=>False):El ta tb δ M Q:=h
theorem iS(h:QL [] M):xD δ M QL:=h
theorem kL(h:ta δ M λ d M1=>tl δ M1 λ ds M2=>QL (d::ds) M2):oT ta tl δ M QL:=h
theorem Nh(h:tl δ M λ ds M1=>ds.length<=sizeLine/\Q (.tup ds) M1):MS tl δ M Q:=h
theorem Nt(h:tl δ M λ ds M1=>ds.length<=sizeLine/\∀p,M1 p=none->Q (.ref p) (ai M1 p (.lst ds))):MV tl δ M Q:=h
theorem LI{s:List D->Mem->bW->Prop}(h:tl δ M λ ds M1=>s ds M1 Q):MZ s tl δ M Q:=h
theorem VO(h:tl δ M λ ds M1=>sp ds M1 Q):sD sp tl δ M Q:=h
theorem LD{s:D->Option Int->Option Int->Mem->bW->Prop}{l h':HE}(h:ta δ M λ d M1=>l δ M1 λ i M2=>h' δ M2 λ j M3=>s d i j M3 Q):UK s ta l h' δ M Q:=h
theorem rp{QO:Option Int->Mem->Prop}(h:QO none M):nK δ M QO:=h
theorem IG{QO:Option Int->Mem->Prop}(h:ta δ M λ d M1=>match d with| .int i=>QO (some i) M1|_=>False):Eh ta δ M QO:=h
theorem zM{s:D->List D->Mem->bW->Prop}(h:ta δ M λ d M1=>QM T d M1/\tl δ M1 λ ds M2=>s d ds M2 Q):QQ T s ta tl δ M Q:=h
theorem Ny{s:D->List D->Mem->bW->Prop}(h:ta δ M λ d M1=>QM T d M1/\s d [] M1 Q):M_ T s ta δ M Q:=h
theorem gO(W:df->Mem->Prop)(h1:∀N:df->Mem->Prop,(∀δ' M',W δ' M'->N δ' M')->t {E with nx:=N} δ M)(h2:∀δ' M',W δ' M'->u E δ' M'):Eg t u E δ M:=h1 (u E) h2
set_option tactic.hygienic true in
theorem qW{o:MO}(h:M a=some o):ai M a o=M:=by
 funext b;unfold ai;split
 ·rename_i e;rw[e,h]
 ·rfl
theorem dH{i:Int}(h:M a=some (.lst ds))(e:ip ds i=some d)(q:Q d M):Ra (.ref a) (.int i) M Q:=by
 show(match bY M a with|some ds=>(match ip ds i with|some d=>Q d M|none=>False)|none=>False);have e1:bY M a=some ds:=by unfold bY;rw[h]
 rw[e1];simp only[e];exact q
theorem aK{i:Int}(e:ip ds i=some d)(q:Q d M):Ra (.tup ds) (.int i) M Q:=by show(match ip ds i with|some d=>Q d M|none=>False);rw[e];exact q
theorem EG{g:Int->Int->D}{i j:Int}(h:C i j)(q:Q (g i j) M):dI C g (.int i) (.int j) M Q:=⟨h,q⟩
theorem xN{g:Int->Int->D}{i j:Int}(h:0 < j)(q:Q (g i j) M):dI (λ _ j=>0 < j) g (.int i) (.int j) M Q:=⟨h,q⟩
theorem Nx{g:Int->Int->D}{i j:Int}(h:0 < j)(h2:j < 1073741824)(q:Q (g i j) M):dI QJ g (.int i) (.int j) M Q:=⟨⟨h,h2⟩,q⟩
theorem Qo{i j:Int}(h0: -1000000000000<=i)(h1:i<=1000000000000):uo i j:=.inl ⟨Int.lt_of_lt_of_le (by decide) h0,q8 h1 (by decide)⟩
theorem Hb{i j:Int}(h0: -1000000000000<=j)(h1:j<=1000000000000):uo i j:=.inr ⟨Int.lt_of_lt_of_le (by decide) h0,q8 h1 (by decide)⟩
theorem LH{g:Int->Int->D}{i j:Int}(q:Q (g i j) M):K8 g (.int i) (.int j) M Q:=q
theorem Je{xs ys:List D}(ha:M a=some (.lst xs))(hb:M b=some (.lst ys))(h:xs.length+ys.length<=sizeLine)(q:∀p,M p=none->Q (.ref p) (ai M p (.lst (xs++ys)))):K9 (.ref a) (.ref b) M Q:=by show(match M a,M b with|some (.lst xs),some (.lst ys)=>xs.length+ys.length<=sizeLine/\∀p,M p=none->Q (.ref p) (ai M p (.lst (xs++ys)))|_,_=>False);rw[ha,hb];exact⟨h,q⟩
theorem IL{i j:Int}(h:uo i j)(q:Q (.int (i*j)) M):Qj (.int i) (.int j) M Q:=⟨h,q⟩
theorem Nw{i j:Int}(q:Q (.bl (decide (i=j))) M):Qm false (.int i) (.int j) M Q:=by show Q (.bl (xor false (decide (i=j)))) M;simpa using q
theorem Nv{i j:Str}(q:Q (.bl (decide (i=j))) M):Qm false (.str i) (.str j) M Q:=by show Q (.bl (xor false (decide (i=j)))) M;simpa using q
theorem Np{i j:Int}(q:Q (.bl (!decide (i=j))) M):Qm true (.int i) (.int j) M Q:=by show Q (.bl (xor true (decide (i=j)))) M;simpa using q
theorem Nq{i j:Bool}(q:Q (.bl (!decide (i=j))) M):Qm true (.bl i) (.bl j) M Q:=by show Q (.bl (xor true (decide (i=j)))) M;simpa using q
theorem sU(h:M a=some (.lst ds))(q:Q (.int ds.length) M):CT [.ref a] M Q:=by
 show(match bY M a with|some ds=>Q (.int ds.length) M|none=>False);have e1:bY M a=some ds:=by unfold bY;rw[h]
 rw[e1];exact q
theorem zJ(q:Q (.int ds.length) M):CT [.tup ds] M Q:=q
theorem EB(q:∀p,M p=none->Q (.ref p) (ai M p (.lst ds))):dList [.fl ds] M Q:=q
theorem bf{P:Prop}{inst:Decidable P}{A B:Prop}(h1:P->A)(h2:¬P->B):if @decide P inst=true then A else B:=by
 by_cases h:P
 ·rw[B3 h,J3 rfl];exact h1 h
 ·rw[y9 h,J4 o6];exact h2 h
theorem IS{A B:Prop}(h:A):if true=true then A else B:=by rw[J3 rfl];exact h
theorem zK{A B:Prop}(h:B):if false=true then A else B:=by rw[J4 o6];exact h
theorem jk{b:Bool}{A B:Prop}(h1:b=true->A)(h2:b=false->B):if b=true then A else B:=by
 cases b with
 |true=>rw[J3 rfl];exact h1 rfl
 |false=>rw[J4 o6];exact h2 rfl
end
open L2
section
variable {tb:lJ}{δc:df}{E:jL}
theorem tW(Pv:Nat->List D->Mem->Prop)(h0:Pv 0 [] M1)(hz:∀i zn M,i<=ds.length->Pv i zn M->zn.length<=sizeLine) (hs:∀i d zn M,ds[i]?=some d->Pv i zn M->g d δc M λ δ2 M2=>tt δ2 M2 λ b M3=>if b=true then te δ2 M3 λ y M4=>Pv (i+1) (zn++[y]) M4 else Pv (i+1) zn M3) (hd:∀zn M,Pv ds.length zn M->Qe zn M):∃(B:Nat) (W:Nat->List D->Mem->Prop),W 0 [] M1/\∀i zn M,W i zn M->i<=B/\zn.length<=sizeLine/\match ad (.fix ds) M with
   |none=>False
   |some ds=>match ds[i]? with
    |none=>i=ds.length/\Qe zn M
    |some d=>g d δc M λ δ2 M2=>tt δ2 M2 λ b M3=>if b=true then te δ2 M3 λ y M4=>W (i+1) (zn++[y]) M4 else W (i+1) zn M3:=by
 refine⟨ds.length,λ i zn M=>if i<=ds.length then Pv i zn M else False,by dsimp only;rw[J3 (G1 _)];exact h0,?_⟩;intro i zn M w;by_cases hi:i<=ds.length
 ·rw[J3 hi]at w;refine⟨hi,hz i zn M hi w,?_⟩;show(match ds[i]? with
    |none=>i=ds.length/\Qe zn M
    |some d=>g d δc M λ δ2 M2=>tt δ2 M2 λ b M3=>if b=true then te δ2 M3 λ y M4=>(if i+1<=ds.length then Pv (i+1) (zn++[y]) M4 else False)else(if i+1<=ds.length then Pv (i+1) zn M3 else False))
  cases e:ds[i]? with
  |none=>have:i=ds.length:=A8 hi (g0.mp e);subst this;exact⟨rfl,hd zn M w⟩
  |some d=>have iC:i+1<=ds.length:=(c9.mp e).1;simp only[J3 iC];exact hs i d zn M e w
 ·rw[J4 hi]at w;exact w.elim
theorem jc(Pv:Nat->df->Mem->Prop)(h0:Pv 0 δ M1) (hs:∀i d δ M,ds[i]?=some d->Pv i δ M->g d δ M λ δ2 M2=>tb {E with nx:=Pv (i+1),ct:=Pv (i+1),bk:=E.nx} δ2 M2) (hd:∀δ M,Pv ds.length δ M->E.nx δ M):∃(B:Nat) (W:Nat->df->Mem->Prop),W 0 δ M1/\∀i δ M,W i δ M->i<=B/\match ad (.fix ds) M with
   |none=>False
   |some ds=>match ds[i]? with
    |none=>i=ds.length/\E.nx δ M
    |some d=>g d δ M λ δ2 M2=>tb {E with nx:=W (i+1),ct:=W (i+1),bk:=E.nx} δ2 M2:=by
 refine⟨ds.length,λ i δ M=>if i<=ds.length then Pv i δ M else False,by dsimp only;rw[J3 (G1 _)];exact h0,?_⟩;intro i δ M w;by_cases hi:i<=ds.length
 ·rw[J3 hi]at w;refine⟨hi,?_⟩;show(match ds[i]? with
    |none=>i=ds.length/\E.nx δ M
    |some d=>g d δ M λ δ2 M2=>tb {E with nx:=(λ δ M=>if i+1<=ds.length then Pv (i+1) δ M else False),ct:=(λ δ M=>if i+1<=ds.length then Pv (i+1) δ M else False),bk:=E.nx} δ2 M2)
  cases e:ds[i]? with
  |none=>have:i=ds.length:=A8 hi (g0.mp e);subst this;exact⟨rfl,hd δ M w⟩
  |some d=>have iC:i+1<=ds.length:=(c9.mp e).1;simp only[J3 iC];exact hs i d δ M e w
 ·rw[J4 hi]at w;exact w.elim
theorem wd(Pv:Nat->df->Mem->Prop)(h0:Pv 0 δ M1)(hl:∀i δ M,i<=ds.length->Pv i δ M->M a=some (.lst ds)) (hs:∀i d δ M,ds[i]?=some d->Pv i δ M->g d δ M λ δ2 M2=>tb {E with nx:=Pv (i+1),ct:=Pv (i+1),bk:=E.nx} δ2 M2) (hd:∀δ M,Pv ds.length δ M->E.nx δ M):∃(B:Nat) (W:Nat->df->Mem->Prop),W 0 δ M1/\∀i δ M,W i δ M->i<=B/\match ad (.at a) M with
   |none=>False
   |some ds=>match ds[i]? with
    |none=>i=ds.length/\E.nx δ M
    |some d=>g d δ M λ δ2 M2=>tb {E with nx:=W (i+1),ct:=W (i+1),bk:=E.nx} δ2 M2:=by
 refine⟨ds.length,λ i δ M=>if i<=ds.length then Pv i δ M else False,by dsimp only;rw[J3 (G1 _)];exact h0,?_⟩;intro i δ M w;by_cases hi:i<=ds.length
 ·rw[J3 hi]at w;refine⟨hi,?_⟩;have e0:ad (.at a) M=some ds:=by show(match M a with|some (.lst ds)=>some ds|_=>none)=some ds;rw[hl i δ M hi w]
  rw[e0];show(match ds[i]? with
    |none=>i=ds.length/\E.nx δ M
    |some d=>g d δ M λ δ2 M2=>tb {E with nx:=(λ δ M=>if i+1<=ds.length then Pv (i+1) δ M else False),ct:=(λ δ M=>if i+1<=ds.length then Pv (i+1) δ M else False),bk:=E.nx} δ2 M2)
  cases e:ds[i]? with
  |none=>have:i=ds.length:=A8 hi (g0.mp e);subst this;exact⟨rfl,hd δ M w⟩
  |some d=>have iC:i+1<=ds.length:=(c9.mp e).1;simp only[J3 iC];exact hs i d δ M e w
 ·rw[J4 hi]at w;exact w.elim
end
section
variable {Q:bW}{ta:cw}{E:jL}{tb:lJ}{tl:dF}
theorem Ni{r3:List D->Mem->bW->Prop}(h:wi δ M λ src M1=>∃(B:Nat) (W:Nat->List D->Mem->Prop),W 0 [] M1/\∀i zn M,W i zn M->i<=B/\zn.length<=sizeLine/\match ad src M with
   |none=>False
   |some ds=>match ds[i]? with
    |none=>i=ds.length/\r3 zn M Q
    |some d=>g d (j_ n fr δ) M λ δ2 M2=>tt δ2 M2 λ b M3=>if b=true then te δ2 M3 λ y M4=>W (i+1) (zn++[y]) M4 else W (i+1) zn M3):BO r3 wi g tt te n fr δ M Q:=h
theorem EL{Qe:List D->Mem->Prop}(h:wi δ M λ src M1=>∃(B:Nat) (W:Nat->List D->Mem->Prop),W 0 [] M1/\∀i zn M,W i zn M->i<=B/\zn.length<=sizeLine/\match ad src M with
   |none=>False
   |some ds=>match ds[i]? with
    |none=>i=ds.length/\Qe zn M
    |some d=>g d (j_ n fr δ) M λ δ2 M2=>tt δ2 M2 λ b M3=>if b=true then te δ2 M3 λ y M4=>W (i+1) (zn++[y]) M4 else W (i+1) zn M3):oU wi g tt te n fr δ M Qe:=h
theorem IZ(h:oU wi g tt te n fr δ M λ ds M'=>∀p,M' p=none->Q (.ref p) (ai M' p (.lst ds))):ve wi g tt te n fr δ M Q:=h
theorem Nu(h:wi δ M λ src M1=>∃(B:Nat) (W:Nat->df->Mem->Prop),W 0 δ M1/\∀i δ M,W i δ M->i<=B/\match ad src M with
   |none=>False
   |some ds=>match ds[i]? with
    |none=>i=ds.length/\E.nx δ M
    |some d=>g d δ M λ δ2 M2=>tb {E with nx:=W (i+1),ct:=W (i+1),bk:=E.nx} δ2 M2):MX wi g tb E δ M:=h
theorem IF(h:tl δ M λ ds M1=>match ds with|[.int j]=>XB j/\R (.fix (ck 0 j.toNat)) M1|_=>False):FW tl δ M R:=h
theorem Ng(h:QB true M):xB δ M QB:=h
end
end L3
namespace L4
open PySem.Spec L2 L3
structure WE(X:Cx)(e:Expr)(t:cw):Prop where
 h:QE X e t
structure WT(X:Cx)(e:Expr)(t:gg):Prop where
 h:QT X e t
structure WW(X:Cx)(e:Expr)(t:gg):Prop where
 h:QW X e t
structure WA(X:Cx)(e:List Expr)(t:dF):Prop where
 h:QA X e t
structure WS(X:Cx)(e:Stmt)(t:lJ):Prop where
 h:QS X e t
structure HD(X:Cx)(e:List Stmt)(t:lJ):Prop where
 h:HF X e t
structure WO(X:Cx)(e:Option Expr)(t:HE):Prop where
 h:QO X e t
structure WG(X:Cx)(e:Expr)(t:jG):Prop where
 h:QG X e t
structure Vi(X:Cx)(e:List Expr)(t:qg):Prop where
 h:T4 X e t
structure Xw(X:Cx)(e:List Expr)(t:gg):Prop where
 h:Vk X e t
structure WI(X:Cx)(tg e:Expr)(t:sk):Prop where
 h:QI X tg e t
theorem WW.pt{t:gg}(w:WW X e t):WT X e t:=⟨w.h.pt⟩
structure Lm(X:Cx)(scope:Scope)(tgs:List Str)(fr:List Nat)(tg:Expr)(g:jG):Prop where
 h:TV X scope tgs fr tg g
structure jD(X:Cx)(scope:Scope)(tgs:List Str)(fr:List Nat)(tg iter:Expr)(ifs:List Expr)(elt:Expr)(wi:sk)(g:jG)(tt:gg)(te:cw):Prop where
 b:lL X scope fr
 calm:X.calm=true
 xe:∀e s,X.xe e s->False
 it:WI X tg iter wi
 Y6:Lm X scope tgs fr tg g
 ifs:∀cl C fp s H,Xw (bE X scope cl tgs fr C fp s H) ifs tt
 elt:∀cl C fp s H,WE (bE X scope cl tgs fr C fp s H) elt te
theorem jD.h{elt:Expr}(C:jD X scope tgs fr tg iter ifs elt wi g tt te):ql X scope tgs fr tg iter ifs elt wi g tt te:=
 ⟨C.b,C.calm,C.xe,C.it.h,C.Y6.h,λ cl D fp s H=>(C.ifs cl D fp s H).h,λ cl D fp s H=>(C.elt cl D fp s H).h⟩
section
variable {a b:Expr}{ta tb tc:cw}{pos:Pos}
theorem ak(i:Nat)(hN:X.N[i]?=some x:=by rfl)(hv:Ln X.env.scope x:=by first|exact Or.inl rfl|exact Or.inr (Or.inl rfl)|exact Or.inr (Or.inr rfl))(hd:(x==("__debug__":Str))=false:=by decide)(hcd:(x==("__classdict__":Str))=false:=by decide):WE X (.Name x pos) (gq i):=⟨Zq (i:=i) (hN:=hN) (hv:=hv) (hd:=hd) (hcd:=hcd)⟩
theorem aj{i j:_}:WE X (.Constant (.int i) j pos) (sC (.int i)):=⟨R4⟩
theorem ox{i j:_}:WE X (.Constant (.bool i) j pos) (sC (.bl i)):=⟨VX⟩
theorem zg{i j:_}:WE X (.Constant (.str i) j pos) (sC (.str i)):=⟨RY⟩
theorem mJ{j:_}:WE X (.Constant .none j pos) (sC .bK):=⟨R0⟩
theorem bF{op:Operator}{r2:hX}(o:gC X (binaryOp op) r2)(ha:WE X a ta)(hb:WE X b tb):WE X (.BinOp a op b pos) (BP r2 ta tb):=⟨VU (o:=o) (ha:=ha.h) (hb:=hb.h)⟩
theorem dW{op:CmpOp}{r2:hX}(o:gC X (compareOp op) r2)(ha:WE X a ta)(hb:WE X b tb)(hm:behindInMarks op b=false):WE X (.Compare a [op] [b] pos) (BP r2 ta tb):=⟨R6 (o:=o) (ha:=ha.h) (hb:=hb.h) (hm:=hm)⟩
theorem aS{op:CmpOp}{r2:hX}(o:gC X (compareOp op) r2)(ha:WE X a ta)(hb:WE X b tb)(hm:behindInMarks op b=false):WT X (.Compare a [op] [b] pos) (mM (BP r2 ta tb)):=⟨NI (o:=o) (ha:=ha.h) (hb:=hb.h) (hm:=hm)⟩
theorem sy(h:WE X e ta)(he:∀whole,isTrue e X.env whole=(do let v <- whole;standAt e.pos;holding [v] (truthy v)):=by intro _;rfl):WT X e (mM ta):=⟨NG (h:=h.h) (he:=he)⟩
variable {tA tB:gg}
theorem sv(ha:WT X a tA):WW X (.BoolOp .And [a] pos) tA:=⟨Jf (ha:=ha.h)⟩
theorem xm(ha:WT X a tA):WW X (.BoolOp .Or [a] pos) tA:=⟨ND (ha:=ha.h)⟩
theorem sx(ha:WT X a tA)(hb:WW X (.BoolOp .And (b::rest) pos) tB):WW X (.BoolOp .And (a::b::rest) pos) (Na tA tB):=⟨NF (ha:=ha.h) (hb:=hb.h)⟩
theorem zd(ha:WT X a tA)(hb:WW X (.BoolOp .Or (b::rest) pos) tB):WW X (.BoolOp .Or (a::b::rest) pos) (UL tA tB):=⟨RV (ha:=ha.h) (hb:=hb.h)⟩
theorem DB(ha:WT X a tA):WT X (.UnaryOp .Not a pos) (MU tA):=⟨NH (ha:=ha.h)⟩
theorem DF{op:_}(h:WE X a ta):WE X (.BoolOp op [a] pos) ta:=⟨RZ (h:=h.h)⟩
theorem w_and(ha:WE X a ta)(hb:WE X (.BoolOp .And (b::rest) pos) tb):WE X (.BoolOp .And (a::b::rest) pos) (El ta tb):=⟨R8 (ha:=ha.h) (hb:=hb.h)⟩
variable {t:dF}
theorem ae:WA X [] xD:=⟨NR⟩
theorem aa(ha:WE X e ta)(hr:WA X es t)(hs:starEach (e::es) X.env=(false,eval e X.env)::starEach es X.env:=by rfl):WA X (e::es) (oT ta t):=⟨Js (ha:=ha.h) (hr:=hr.h) (hs:=hs)⟩
theorem eO{x1:_}(h:WA X es t):WE X (.Tuple es x1 pos) (MS t):=⟨RX (h:=h.h)⟩
theorem cZ(h:WA X es t):WE X (.List es pos) (MV t):=⟨R1 (h:=h.h)⟩
theorem aI{r2:hX}(o:T9 X r2)(ha:WE X a ta)(hb:WE X b tb)(hs:uj b):WE X (.Subscript a b pos) (BP r2 ta tb):=⟨VV (o:=o) (ha:=ha.h) (hb:=hb.h) (hs:=hs)⟩
theorem sA:WO X none nK:=⟨Jl⟩
theorem ze(h:WE X e ta):WO X (some e) (Eh ta):=⟨Jk (h:=h.h)⟩
variable {lo hi:Option Expr}{tl th:HE}
theorem sE{r2:D->Option Int->Option Int->Mem->bW->Prop}(o:TZ X r2)(he:WE X e ta)(hl:WO X lo tl)(hu:WO X hi th):WE X (.Subscript e (.Slice lo hi none p2) pos) (UK r2 ta tl th):=⟨Jt (o:=o) (he:=he.h) (hl:=hl.h) (hu:=hu.h)⟩
variable {p:Pos}{id:String}
theorem aO(o:dZ X (.builtin id) r2)(hg:Gl X x)(hm:X.mg x=none)(hv:bootBuiltins x=some (.builtin id))(ha:WA X (e::es) t)(hn:x≠"__name__":=by decide)(hdb:(x==("__debug__":Str))=false:=by decide)(he:starEach (e::es) X.env=(false,eval e X.env)::starEach es X.env:=by rfl)(hpl:(backTo pos (starEach es X.env)).any (·.1)=false:=by rfl):WE X (.Call (.Name x p) (e::es) [] pos) (MZ r2 t):=⟨JA (o:=o) (hg:=hg) (hm:=hm) (hv:=hv) (ha:=ha.h) (hn:=hn) (hdb:=hdb) (he:=he) (hpl:=hpl)⟩
theorem cg(o:dZ X (.type T) r2)(hg:Gl X x)(hm:X.mg x=none)(hv:bootBuiltins x=some (.type T))(ha:WA X (e::es) t)(hn:x≠"__name__":=by decide)(hdb:(x==("__debug__":Str))=false:=by decide)(he:starEach (e::es) X.env=(false,eval e X.env)::starEach es X.env:=by rfl)(hpl:(backTo pos (starEach es X.env)).any (·.1)=false:=by rfl):WE X (.Call (.Name x p) (e::es) [] pos) (MZ r2 t):=⟨Jx (o:=o) (hg:=hg) (hm:=hm) (hv:=hv) (ha:=ha.h) (hn:=hn) (hdb:=hdb) (he:=he) (hpl:=hpl)⟩
end
section
variable {o:Expr}{t:dF}{id:String}
theorem Rp{r2:D->List D->Mem->bW->Prop}(pa:PlainAttrs T)(slot:Slot T name id)(hty:typeOf (.builtin id)=pure (.type "method_descriptor"))(hm:QC X id r2)(ho:WE X o to)(hbase:attributeBase o name X.env (eval o X.env)=eval o X.env:=by rfl)(hline:(apos.endLine==bS.line)=true:=by rfl):WE X (.Call (.Attribute o name apos) [] [] bS) (M_ T r2 to):=⟨R7 (pa:=pa) (slot:=slot) (hty:=hty) (hm:=hm) (ho:=ho.h) (hbase:=hbase) (hline:=hline)⟩
theorem eZ{r2:D->List D->Mem->bW->Prop}(pa:PlainAttrs T)(slot:Slot T name id)(hty:typeOf (.builtin id)=pure (.type "method_descriptor"))(hm:QC X id r2)(ho:WE X o to)(ha:WA X (e::es) t)(hbase:attributeBase o name X.env (eval o X.env)=eval o X.env:=by rfl)(hfew:((backTo bS (starEach (e::es) X.env)).all (λ x=>!x.1)&&(backToKw bS (keywordEach [] X.env)).all (λ x=>x.1.isSome)
   &&decide ((e::es).length+([]:List Keyword).length+(if([]:List Keyword).isEmpty then 0 else 1) < 30))=true:=by rfl) (hline:(apos.endLine==bS.line)=true:=by rfl) (hs:starEach (e::es) X.env=(false,eval e X.env)::starEach es X.env:=by rfl) (hplain:(backTo bS (starEach es X.env)).any (·.1)=false:=by rfl):WE X (.Call (.Attribute o name apos) (e::es) [] bS) (QQ T r2 to t):=⟨VW (pa:=pa) (slot:=slot) (hty:=hty) (hm:=hm) (ho:=ho.h) (ha:=ha.h) (hbase:=hbase) (hfew:=hfew) (hline:=hline) (hs:=hs) (hplain:=hplain)⟩
end
section
variable {p pos:Pos}{t:dF}
theorem aE(d:b_ X.prog X.w X.K X.mg X.base k x ps sp)(hr:cX k X.A)(hg:Gl X x)(ha:WA X (e::es) t)(hdb:(x==("__debug__":Str))=false:=by decide)(he:starEach (e::es) X.env=(false,eval e X.env)::starEach es X.env:=by rfl)(hpl:(backTo pos (starEach es X.env)).any (·.1)=false:=by rfl):WE X (.Call (.Name x p) (e::es) [] pos) (sD sp t):=⟨R5 (d:=d) (hr:=hr) (hg:=hg) (ha:=ha.h) (hdb:=hdb) (he:=he) (hpl:=hpl)⟩
end
section
variable {rest:List Stmt}{t u:lJ}{pos:Pos}
theorem aY:HD X [] zD:=⟨Jh⟩
theorem ao(h:WS X st t):HD X [st] t:=⟨Jg (h:=h.h)⟩
theorem af(h1:WS X st t)(h2:HD X rest u):HD X (st::rest) (Eg t u):=⟨ER (h1:=h1.h) (h2:=h2.h)⟩
theorem cx(he:WE X e te)(hs:swapsWith e none pos.line X.env=pure false:=by rfl):WS X (.Expr e pos) (vd te):=⟨Ji (he:=he.h) (hs:=hs)⟩
theorem aM(he:WE X e te):WS X (.Return (some e) pos) (MT te):=⟨NL (he:=he.h)⟩
theorem cI{a b:List Stmt}(hc:WT X c tc)(ha:HD X a t)(hb:HD X b u):WS X (.If c a b pos) (Iv tc t u):=⟨RW (hc:=hc.h) (ha:=ha.h) (hb:=hb.h)⟩
theorem bu(hN:X.N.Nodup)(hi:X.N[i]?=some x)(hx:Loc X.env.scope x)(hf:X.fn x=true\/X.env.scope.names.lookup x=some .local:=by first|exact .inl rfl|exact .inr rfl|assumption):WG X (.Name x pos) (am i):=⟨Jr (hN:=hN) (hi:=hi) (hx:=hx) (hf:=hf)⟩
theorem gF:Vi X [] qE:=⟨Jq⟩
theorem cz{t:jG}{u:qg}(h1:WG X e t)(h2:Vi X es u)(hs:(assignEach (e::es) X.env).map (·.2)=assign e X.env::(assignEach es X.env).map (·.2):=by rfl):Vi X (e::es) (dv t u):=⟨EU (h1:=h1.h) (h2:=h2.h) (hs:=hs)⟩
theorem jN{t:qg}(hc:X.calm=true)(h:Vi X es t)(hn:(assignEach es X.env).length=n:=by rfl)(hst:(assignEach es X.env).findIdx? (·.1)=none:=by rfl):WG X (.Tuple es k pos) (qD n t):=⟨NP (hc:=hc) (h:=h.h) (hn:=hn) (hst:=hst)⟩
theorem gG{o i:Expr}{to ti:cw}{t:lI}(ho:WE X o to)(hi:WE X i ti)(hs:Hn X t)(ha:∀v,assign (.Subscript o i pos) X.env v=(do
   let ov <- holding [v] (eval o X.env)
   let iv <- holding [v,ov] (eval i X.env)
   standAt pos
   holding [v,ov,iv] (setItem ov iv v)
   release [v,ov,iv] []):=by intro _;rfl):WG X (.Subscript o i pos) (hSub to ti t):=⟨NQ (ho:=ho.h) (hi:=hi.h) (hs:=hs) (ha:=ha)⟩
theorem fH(he:WE X e te)(hg:WG X tg g)(hs:swapsWithSole [tg] e pos.line X.env=pure false:=by rfl)(hw:swappedStores [tg] e X.env=pure none:=by rfl)(h1:(assignEach [tg] X.env).map (·.2)=[assign tg X.env]:=by rfl):WS X (.Assign [tg] e pos) (vf te g):=⟨NN (he:=he.h) (hg:=hg.h) (hs:=hs) (hw:=hw) (h1:=h1)⟩
theorem aA(hN:X.N.Nodup)(hi:X.N[i]?=some x)(hx:Loc X.env.scope x)(he:WE X e te)(hs:swapsWith e (some (.Name x pos')) pos.line X.env=pure false:=by rfl)(hf:X.fn x=true\/X.env.scope.names.lookup x=some .local:=by first|exact .inl rfl|exact .inr rfl|assumption):WS X (.Assign [.Name x pos'] e pos) (vf te (am i)):=⟨NJ (hN:=hN) (hi:=hi) (hx:=hx) (he:=he.h) (hs:=hs) (hf:=hf)⟩
end
section
variable {l:Expr}{tl:cw}{a b:Expr}{p pos:Pos}
theorem dG(hl:WE X l tl):WI X tg l (Ph tl):=⟨NO (hl:=hl.h)⟩
theorem bo(hg:Gl X "range")(hm:X.mg "range"=none)(ha:WA X [a] ta)(hs:starEach [a] X.env=[(false,eval a X.env)]:=by rfl):WI X tg (.Call (.Name "range" p) [a] [] pos) (FW ta):=⟨BX (hg:=hg) (hm:=hm) (ha:=ha.h) (hs:=hs)⟩
end
section
variable {tb:lJ}{pos:Pos}
theorem dO(hp:PassesOwn (model X.prog X.w) X.A X.env X.xe)(hc:X.calm=true)(hi:WI X tg iter wi)(hg:WG X tg g)(hb:HD X body tb)(hs:∀x,foldedSetIterable iter X.env x=pure x:=by intro _;rfl):WS X (.For tg iter body [] pos) (MX wi g tb):=⟨NM (hp:=hp) (hc:=hc) (hi:=hi.h) (hg:=hg.h) (hb:=hb.h) (hs:=hs)⟩
end
section
variable {tb:lJ}{pos:Pos}
theorem eN(hp:PassesOwn (model X.prog X.w) X.A X.env X.xe)(hc:WT X c tc)(hb:HD X body tb):WS X (.While c body [] pos) (xC tc tb):=⟨ES (hp:=hp) (hc:=hc.h) (hb:=hb.h)⟩
end
section
variable {elt:Expr}{pos:Pos}
theorem bC:Xw X [] xB:=⟨Jn⟩
theorem ko{t:gg}(h:WT X c t):Xw X [c] t:=⟨Jm (h:=h.h)⟩
theorem bj{ps:Pos}(h:∀cl C fp s H,PG (bE X scope cl tgs fr C fp s H) (.Name x ps) (de i))(hi:i < tgs.length):Lm X scope tgs fr (.Name x ps) (am i):=⟨Ic (h:=h) (hi:=hi)⟩
theorem gi{y:Str}{px py pt:Pos}(h:∀cl C fp s H,PG (bE X scope cl tgs fr C fp s H) (.Tuple [.Name x px,.Name y py] k pt) (wc X.K 2 (dX (de i) (dX (de j) tR))))(hi:i < tgs.length)(hj:j < tgs.length):Lm X scope tgs fr (.Tuple [.Name x px,.Name y py] k pt) (qD 2 (dv (am i) (dv (am j) qE))):=⟨Ib (h:=h) (hi:=hi) (hj:=hj)⟩
theorem ow(C:jD X scope tgs fr tg iter ifs elt wi g tt te)(hs:∀x,foldedSetIterable iter X.env x=pure x:=by intro _;rfl):WE X (.ListComp elt [⟨tg,iter,ifs,0⟩] scope pos) (ve wi g tt te tgs.length fr):=⟨N3 (C:=C.h) (hs:=hs)⟩
theorem cQ{y:Str}{py uU:Pos}(hN:X.N.Nodup)(hiy:X.N[i]?=some y)(hy:Loc X.env.scope y)(C:jD X scope tgs fr tg iter ifs elt wi g tt te)(hsw:swapsWith (.ListComp elt [⟨tg,iter,ifs,0⟩] scope pos) (some (.Name y py)) uU.line X.env=pure true:=by rfl)(hf:X.fn y=true\/X.env.scope.names.lookup y=some .local:=by first|exact .inl rfl|exact .inr rfl|assumption)(hs:∀x,foldedSetIterable iter X.env x=pure x:=by intro _;rfl):WS X (.Assign [.Name y py] (.ListComp elt [⟨tg,iter,ifs,0⟩] scope pos) uU) (vf (ve wi g tt te tgs.length fr) (am i)):=⟨xQ (hN:=hN) (hiy:=hiy) (hy:=hy) (C:=C.h) (hsw:=hsw) (hf:=hf) (hs:=hs)⟩
variable {p:Pos}{id:String}
theorem Mt{r3:List D->Mem->bW->Prop}(o:dZ X (.builtin id) r2)(h3:qe r2 r3)(hg:Gl X x)(hm:X.mg x=none)(hv:bootBuiltins x=some (.builtin id))(C:jD X scope tgs fr tg iter ifs elt wi g tt te)(hn:x≠"__name__":=by decide)(hdb:(x==("__debug__":Str))=false:=by decide)(hs:∀x,foldedSetIterable iter X.env x=pure x:=by intro _;rfl):WE X (.Call (.Name x p) [.ListComp elt [⟨tg,iter,ifs,0⟩] scope bS] [] pos) (BO r3 wi g tt te tgs.length fr):=⟨NU (o:=o) (h3:=h3) (hg:=hg) (hm:=hm) (hv:=hv) (C:=C.h) (hn:=hn) (hdb:=hdb) (hs:=hs)⟩
theorem eY{r3:List D->Mem->bW->Prop}(o:dZ X (.type T) r2)(h3:qe r2 r3)(hg:Gl X x)(hm:X.mg x=none)(hv:bootBuiltins x=some (.type T))(C:jD X scope tgs fr tg iter ifs elt wi g tt te)(hn:x≠"__name__":=by decide)(hdb:(x==("__debug__":Str))=false:=by decide)(hs:∀x,foldedSetIterable iter X.env x=pure x:=by intro _;rfl):WE X (.Call (.Name x p) [.ListComp elt [⟨tg,iter,ifs,0⟩] scope bS] [] pos) (BO r3 wi g tt te tgs.length fr):=⟨NT (o:=o) (h3:=h3) (hg:=hg) (hm:=hm) (hv:=hv) (C:=C.h) (hn:=hn) (hdb:=hdb) (hs:=hs)⟩
variable {o:Expr}
end
open PySem.Spec L2 L3
theorem ki{x qual:Str}{st:Stmt}{f:ww}{fd:FuncData}{N ps:List Str}{k:Nat}{sp:fk}(F:h_ K x qual st f fd)(S:aJ N ps (aq st))(len:∀ds M Q,sp ds M Q->ds.length=ps.length) (eW:∀(dE:jp) (A:Around) (outer:List Env) (s:kt) (H:Hp) (E:XK) (ds:List D) (M:Mem) (Q:bW),cX k (A.deeper (PyProof.Rows.envOfC qual (aq st) s.heap.objs.size f dE))->sp ds M Q->
   ∃t,HD (qH eX P w K mg base N qual (aq st) f dE A outer s H E).Ki (bG st) t/\t {nx:=λ _ M'=>fin2 Q .bK M',rt:=fin2 Q} (iH N ds) M):bT P w K mg base eX (k+1) f fd ps (cK K sp):=
 Zt F S len λ dE A outer s H E ds M Q hr h=>let⟨t,a,b⟩:=eW dE A outer s H E ds M Q hr h;⟨t,a.h,b⟩
end L4
namespace L5
open PySem
def dN(T:String)(h:Heap)(j l:ww)(i:Nat):Prop:=∃o,h.get? j=some o/\o.cls=.type T/\o.data=.fields #[.ref l,.int i 0]
theorem dN.keep{h:Heap}{j l:ww}(x:dN T h j l i)(k:∀o,h.get? j=some o->h'.get? j=some o):dN T h' j l i:=let⟨o,a,r⟩:=x;⟨o,k o a,r⟩
structure NK(T:String)(Sq:Heap->ww->Array jp->Prop):Prop where
 keep:∀{h h':Heap} {l:ww} {vs:Array jp},Sq h l vs->(∀o,h.get? l=some o->h'.get? l=some o)->Sq h' l vs
 start:∀{prog:Program} {w:World} {A:Around} {E:jp->kt->Prop} {s:kt} {l:ww} {vs:Array jp} {Q:jp->kt->Prop},Sq s.heap l vs->
  Q (.ref s.heap.objs.size) {s with heap:=s.heap.push {cls:=.type T,data:=.fields #[.ref l,.int 0 0]}}->wpAny (model prog w) A (pyIter (.ref l)) Q E s
 item:∀{prog:Program} {w:World} {A:Around} {E:jp->kt->Prop} {s:kt} {j l:ww} {i:Nat} {vs:Array jp} {x:jp} {Q:jp->kt->Prop},dN T s.heap j l i->Sq s.heap l vs->vs[i]?=some x->
  (∀h',dN T h' j l (i+1)->Heap.SameBut j s.heap h'->Q x {s with heap:=h'})->wpAny (model prog w) A (Builtin.SmallTypes.nextOf (.ref j)) Q E s
 stop:∀{prog:Program} {w:World} {A:Around} {E:jp->kt->Prop} {s:kt} {j l:ww} {i:Nat} {vs:Array jp} {Q:jp->kt->Prop},A.handled=none->dN T s.heap j l i->Sq s.heap l vs->vs[i]?=none->
  (∀h' e,Heap.ExtBut j s.heap h'->(∃o,h'.get? e=some o/\o.cls=.type "StopIteration")->E (.ref e) {s with heap:=h'})->wpAny (model prog w) A (Builtin.SmallTypes.nextOf (.ref j)) Q E s
theorem kS:NK "list_iterator" Heap.IsList where
 keep:=λ x k=>x.at k
 start:=λ x q=>wpAny_pyIter_list x q
 item:=λ a b c d=>wpAny_nextOf_list_item a b c d
 stop:=λ a b c d e=>wpAny_nextOf_list_end a b c d e
theorem OY{j q:ww}{x:jp}(ji:s.heap.IsTupleIter j q i)(jt:s.heap.IsTuple q vs)(jx:vs[i]?=some x) (k:∀h',h'.IsTupleIter j q (i+1)->Heap.SameBut j s.heap h'->Q x {s with heap:=h'}):wpAny (model prog w) A (Builtin.SmallTypes.nextOf (.ref j)) Q E s:=by obtain⟨ob,hb,kc,kd⟩:=id ji;obtain⟨ot,ht,_,nt,dt⟩:=jt;unfold Builtin.SmallTypes.nextOf;refine G4 (i6 (name:=Str.ofString "__next__") ji.typeIs c4 (x5 c4 ji.typeIs F.entry_tuple_iterator_next ?_ (F.args_tuple_iterator_next_1 _)));refine G4 (m:=field (.ref j) 0) (G3 hb kd (x:=.ref q) rfl ?_);show wpAny _ _ (if(Value.ref q==Value.none)=true then _ else _) _ _ s;rw[J4 (show(Value.ref q==Value.none)≠true from o6)];refine G4 (m:=field (.ref j) 1) (G3 hb kd (x:=.int i 0) rfl ?_);refine G4 (m:=seqItems? (.ref q)) (B4 ht dt ?_);simp only[r6,jx];refine G4 (B6 hb kd (by simp) (G5 ⟨x,rfl,G5 (k _ ?_ (l5 ..))⟩));refine⟨_,j6 _ hb (Obj.isFreed_of_fields (Obj.data_mapFields kd _)),(Obj.cls_mapFields ..).trans kc,?_⟩;rw[Obj.data_mapFields kd];simp[rawInt]
theorem MM{j q:ww}(hA:A.handled=none)(ji:s.heap.IsTupleIter j q i)(jt:s.heap.IsTuple q vs)(jx:vs[i]?=none) (k:∀h' e,Heap.ExtBut j s.heap h'->(∃o,h'.get? e=some o/\o.cls=.type "StopIteration")->E (.ref e) {s with heap:=h'}):wpAny (model prog w) A (Builtin.SmallTypes.nextOf (.ref j)) Q E s:=by obtain⟨ob,hb,kc,kd⟩:=id ji;obtain⟨ot,ht,_,nt,dt⟩:=jt;unfold Builtin.SmallTypes.nextOf;refine G4 (i6 (name:=Str.ofString "__next__") ji.typeIs c4 (x5 c4 ji.typeIs F.entry_tuple_iterator_next ?_ (F.args_tuple_iterator_next_1 _)));refine G4 (m:=field (.ref j) 0) (G3 hb kd (x:=.ref q) rfl ?_);show wpAny _ _ (if(Value.ref q==Value.none)=true then _ else _) _ _ s;rw[J4 (show(Value.ref q==Value.none)≠true from o6)];refine G4 (m:=field (.ref j) 1) (G3 hb kd (x:=.int i 0) rfl ?_);refine G4 (m:=seqItems? (.ref q)) (B4 ht dt ?_);simp only[r6,jx];refine G4 (G6 (G4 (B6 hb kd (by simp) ?_)));refine G4 (m:=newExc (.type "StopIteration") []) ?_;simp only[newExc,newTuple];refine G4 (r9 (G4 (m:=firstArgMember _ _) (wpAny_of_eq (a:=Value.none) (by first|rfl|(simp only[firstArgMember];rfl)) (r9 ?_ (by size_fits)))) (by size_fits));simp only[raiseNew];refine G4 (wpAny_handled ?_);have hB:A.in1.handled=none:=hA;rw[hB];exact G4 (G5 (wpAny_throw (k _ _ (((l5 ..).extBut.push _).push _) ⟨_,m8 _ rfl,rfl⟩)))
theorem iW:NK "tuple_iterator" Heap.IsTuple where
 keep:=λ x k=>let⟨o,a,r⟩:=x;⟨o,k o a,r⟩
 start:=λ x q=>wpAny_pyIter_tuple x q
 item:=λ a b c d=>OY a b c d
 stop:=λ a b c d e=>MM a b c d e
structure Za(z u v a b l m:ww):Prop where
 uz:u≠z
 vz:v≠z
 az:a≠z
 bz:b≠z
 uv:u≠v
 ua:u≠a
 ub:u≠b
 va:v≠a
 vb:v≠b
 ab:a≠b
 lz:l≠z
 lv:l≠v
 la:l≠a
 lb:l≠b
 mz:m≠z
 mv:m≠v
 ma:m≠a
 mb:m≠b
section
variable {T1 T2:String}{S1 S2:Heap->ww->Array jp->Prop}
theorem Bn{z u v a b l m:ww}{i:Nat}{xs ys:Array jp}{x y c d:jp}{Q:jp->kt->Prop}(k1:NK T1 S1)(k2:NK T2 S2)(D:Za z u v a b l m) (hz:IsZip s.heap z u v .none) (hu:IsPair s.heap u (.ref a) (.ref b)) (hv:IsPair s.heap v c d) (ha:dN T1 s.heap a l i) (hb:dN T2 s.heap b m i) (hl:S1 s.heap l xs) (hm:S2 s.heap m ys) (hx:xs[i]?=some x) (hy:ys[i]?=some y) (k:∀h',IsZip h' z u v (rawInt s.heap.objs.size)->IsPair h' v x y->dN T1 h' a l (i+1)->dN T2 h' b m (i+1)->IsPair h' s.heap.objs.size x y->h'.objs.size=s.heap.objs.size+1->
   (∀f o,f≠z->f≠v->f≠a->f≠b->s.heap.get? f=some o->h'.get? f=some o)->Q (.ref s.heap.objs.size) {s with heap:=h'}):
  wpAny (model prog w) A (Builtin.«zip.__next__» ⟨[.ref z],[]⟩) (λ fin s'=>∃v,fin=.done (.ret v)/\Q v s') E s:=by
 refine G4 (m:=field (.ref z) 2) (G3 hz rfl (x:=.bool false) rfl ?_);refine G4 (m:=field (.ref z) 3) (G3 hz rfl (x:=.ref u) rfl ?_);refine G4 (B4 hu rfl ?_);refine G4 (m:=Builtin.SmallTypes.ownedTupleIsFree (.ref z)) ?_;unfold Builtin.SmallTypes.ownedTupleIsFree;refine G4 (m:=field (.ref z) 0) (G3 hz rfl (x:=.none) rfl (G5 ?_));simp only[J1];refine G4 (G6 (G4 (G3 hz rfl (x:=.ref v) rfl (G4 (p5 hz (by simp) λ g1 z1 s1=>?_)))));have z1:IsZip g1 z u v .ellipsis:=z1;refine G4 ?_;simp only[zipIdx_cons,zipIdx_nil,B2,forIn_nil];refine G4 (G4 (wpAny_onRaise (G4 (m:=Builtin.SmallTypes.nextOf (.ref a)) (k1.item (ha.keep λ o e=>s1.extBut _ _ D.az e) (k1.keep hl λ o e=>s1.extBut _ _ D.lz e) hx λ g2 a2 s2=>G5 ?_))));have v2:IsPair g2 v c d:=s2.extBut _ _ D.va (s1.extBut _ _ D.vz hv);refine G4 (B4 v2 rfl (G4 (wpAny_updateSeq_pair v2 λ g3 v3 s3=>G4 (wpAny_letGo (G5 ?_)))));have v3:IsPair g3 v x d:=v3;have pG:∀f o,f≠z->f≠v->f≠a->s.heap.get? f=some o->g3.get? f=some o:=λ f o n1 n2 n3 e=>s3.extBut _ _ n2 (s2.extBut _ _ n3 (s1.extBut _ _ n1 e));refine G4 (G4 (wpAny_onRaise (G4 (m:=Builtin.SmallTypes.nextOf (.ref b)) (k2.item (hb.keep λ o e=>pG _ _ D.bz D.vb.symm D.ab.symm e) (k2.keep hm λ o e=>pG _ _ D.mz D.mv D.ma e) hy λ g4 b4 s4=>G5 ?_))));have v4:IsPair g4 v x d:=s4.extBut _ _ D.vb v3;refine G4 (B4 v4 rfl (G4 (wpAny_updateSeq_pair v4 λ g5 v5 s5=>G4 (wpAny_letGo (G5 (G5 ?_))))));have v5:IsPair g5 v x y:=v5;refine G4 (B4 v5 rfl (G4 (wpAny_newTuple ?_)));have ez:g5.objs.size=s.heap.objs.size:=by rw[s5.1,s4.1,s3.1,s2.1,s1.1]
 have SI:∀f o,f≠z->f≠v->f≠a->f≠b->s.heap.get? f=some o->g5.get? f=some o:=λ f o n1 n2 n3 n4 e=>s5.extBut _ _ n2 (s4.extBut _ _ n4 (pG f o n1 n2 n3 e));have z5:IsZip g5 z u v .ellipsis:=s5.extBut _ _ D.vz.symm (s4.extBut _ _ D.bz.symm (s3.extBut _ _ D.vz.symm (s2.extBut _ _ D.az.symm z1)));have a5:dN T1 g5 a l (i+1):=a2.keep λ o e=>s5.extBut _ _ D.va.symm (s4.extBut _ _ D.ab (s3.extBut _ _ D.va.symm e));have b5:dN T2 g5 b m (i+1):=b4.keep λ o e=>s5.extBut _ _ D.vb.symm e;have O5:z < g5.objs.size:=C7 z5;refine G4 (m:=Builtin.SmallTypes.ownedTupleHandOut (.ref z) (.ref g5.objs.size)) ?_;unfold Builtin.SmallTypes.ownedTupleHandOut;have z6:IsZip (g5.push {cls:=.type "tuple",data:=.seq #[x,y]}) z u v .ellipsis:=j0 _ z5;refine G4 (p5 z6 (by simp) λ g7 z7 s7=>p5 (show IsZip g7 z u v (rawInt g5.objs.size)from z7) (by simp) λ g8 z8 s8=>?_);have z8:IsZip g8 z u v (rawInt g5.objs.size):=z8;have go:∀f o,f≠z->g5.get? f=some o->g8.get? f=some o:=λ f o n1 e=>s8.extBut _ _ n1 (s7.extBut _ _ n1 (j0 _ e));have t8:IsPair g8 g5.objs.size x y:=s8.extBut _ _ (D7 O5) (s7.extBut _ _ (D7 O5) (m8 _ rfl));have e8:g8.objs.size=g5.objs.size+1:=by rw[s8.1,s7.1,B5]
 rw[ez]at z8 t8 e8;refine G5 ⟨_,rfl,?_⟩;show Q (.ref g5.objs.size) _;rw[ez];exact k g8 z8 (go _ _ D.vz v5) (a5.keep λ o e=>go _ o D.az e) (b5.keep λ o e=>go _ o D.bz e) t8 e8 λ f o n1 n2 n3 n4 e=>go f o n1 (SI f o n1 n2 n3 n4 e)
theorem Dt{z u v l m:ww}{xs ys:Array jp}{c d:jp}{Q:Fin->kt->Prop}(hA:A.handled=none)(k1:NK T1 S1)(k2:NK T2 S2)(D:Za z u v a b l m) (hz:IsZip s.heap z u v .none) (hu:IsPair s.heap u (.ref a) (.ref b)) (hv:IsPair s.heap v c d) (ha:dN T1 s.heap a l i) (hb:dN T2 s.heap b m i) (hl:S1 s.heap l xs) (hm:S2 s.heap m ys) (he:xs[i]?=none\/ys[i]?=none) (k:∀h' e,(∀f o,f≠z->f≠v->f≠a->f≠b->s.heap.get? f=some o->h'.get? f=some o)->(∃o,h'.get? e=some o/\o.cls=.type "StopIteration")->E (.ref e) {s with heap:=h'}):wpAny (model prog w) A (Builtin.«zip.__next__» ⟨[.ref z],[]⟩) Q E s:=by
 refine G4 (m:=field (.ref z) 2) (G3 hz rfl (x:=.bool false) rfl ?_);refine G4 (m:=field (.ref z) 3) (G3 hz rfl (x:=.ref u) rfl ?_);refine G4 (B4 hu rfl ?_);refine G4 (m:=Builtin.SmallTypes.ownedTupleIsFree (.ref z)) ?_;unfold Builtin.SmallTypes.ownedTupleIsFree;refine G4 (m:=field (.ref z) 0) (G3 hz rfl (x:=.none) rfl (G5 ?_));simp only[J1];refine G4 (G6 (G4 (G3 hz rfl (x:=.ref v) rfl (G4 (p5 hz (by simp) λ g1 z1 s1=>?_)))));have z1:IsZip g1 z u v .ellipsis:=z1;refine G4 ?_;simp only[zipIdx_cons,zipIdx_nil,B2,forIn_nil];have W8:=ha.keep (h':=g1) λ o e=>s1.extBut _ _ D.az e;have L8:=k1.keep (h':=g1) hl λ o e=>s1.extBut _ _ D.lz e;refine G4 (G4 (wpAny_onRaise ?_));cases hx:xs[i]? with
 |none=>
  refine G4 (m:=Builtin.SmallTypes.nextOf (.ref a)) (k1.stop hA W8 L8 hx λ g2 e s2 oe=>?_);obtain⟨ob,GC,Dn⟩:=oe;have z2:IsZip g2 z u v .ellipsis:=s2 _ _ D.az.symm z1;have ne:e≠z:=λ q=>by subst q;rw[z2]at GC;cases GC;simp at Dn
  exact p5 z2 (by simp) λ g3 _ s3=>k g3 e (λ f o n1 _ n3 _ q=>s3.extBut _ _ n1 (s2 _ _ n3 (s1.extBut _ _ n1 q))) ⟨ob,s3.extBut _ _ ne GC,Dn⟩
 |some x=>
  have hy:ys[i]?=none:=by rcases he with q|q;rw[hx]at q;cases q;exact q
  refine G4 (m:=Builtin.SmallTypes.nextOf (.ref a)) (k1.item W8 L8 hx λ g2 a2 s2=>G5 ?_);have v2:IsPair g2 v c d:=s2.extBut _ _ D.va (s1.extBut _ _ D.vz hv);refine G4 (B4 v2 rfl (G4 (wpAny_updateSeq_pair v2 λ g3 v3 s3=>G4 (wpAny_letGo (G5 ?_)))));have pG:∀f o,f≠z->f≠v->f≠a->s.heap.get? f=some o->g3.get? f=some o:=λ f o n1 n2 n3 e=>s3.extBut _ _ n2 (s2.extBut _ _ n3 (s1.extBut _ _ n1 e));refine G4 (G4 (wpAny_onRaise (G4 (m:=Builtin.SmallTypes.nextOf (.ref b)) (k2.stop hA (hb.keep λ o e=>pG _ _ D.bz D.vb.symm D.ab.symm e) (k2.keep hm λ o e=>pG _ _ D.mz D.mv D.ma e) hy λ g4 e s4 oe=>?_))));obtain⟨ob,GC,Dn⟩:=oe;have z4:IsZip g4 z u v .ellipsis:=s4 _ _ D.bz.symm (s3.extBut _ _ D.vz.symm (s2.extBut _ _ D.az.symm z1));have ne:e≠z:=λ q=>by subst q;rw[z4]at GC;cases GC;simp at Dn
  exact p5 z4 (by simp) λ g5 _ s5=>k g5 e (λ f o n1 n2 n3 n4 q=>s5.extBut _ _ n1 (s4 _ _ n4 (pG f o n1 n2 n3 q))) ⟨ob,s5.extBut _ _ ne GC,Dn⟩
theorem FG{z u v a b l m:ww}{i:Nat}{xs ys:Array jp}{x y c d:jp}{Q:Option jp->kt->Prop}(k1:NK T1 S1)(k2:NK T2 S2)(D:Za z u v a b l m) (hz:IsZip s.heap z u v .none) (hu:IsPair s.heap u (.ref a) (.ref b)) (hv:IsPair s.heap v c d) (ha:dN T1 s.heap a l i) (hb:dN T2 s.heap b m i) (hl:S1 s.heap l xs) (hm:S2 s.heap m ys) (hx:xs[i]?=some x) (hy:ys[i]?=some y) (k:∀h',IsZip h' z u v (rawInt s.heap.objs.size)->IsPair h' v x y->dN T1 h' a l (i+1)->dN T2 h' b m (i+1)->IsPair h' s.heap.objs.size x y->h'.objs.size=s.heap.objs.size+1->
   (∀f o,f≠z->f≠v->f≠a->f≠b->s.heap.get? f=some o->h'.get? f=some o)->Q (some (.ref s.heap.objs.size)) {s with heap:=h'}):wpAny (model prog w) A (pyNext (.ref z)) Q E s:=by
 have ty:s.TypeIs (.ref z) "zip":=⟨_,hz,rfl⟩;unfold pyNext;refine G4 (B8 (i6 (name:=Str.ofString "__next__") ty B0 (x5 B0 ty F.entry_zip_next ?_ (F.args_zip_next_1 _))));exact Bn k1 k2 D hz hu hv ha hb hl hm hx hy λ h' a1 a2 a3 a4 a5 a6 a7=>G5 (k h' a1 a2 a3 a4 a5 a6 a7)
theorem FR{z u v l m:ww}{xs ys:Array jp}{c d:jp}{Q:Option jp->kt->Prop}(hA:A.handled=none)(k1:NK T1 S1)(k2:NK T2 S2)(D:Za z u v a b l m) (hz:IsZip s.heap z u v .none) (hu:IsPair s.heap u (.ref a) (.ref b)) (hv:IsPair s.heap v c d) (ha:dN T1 s.heap a l i) (hb:dN T2 s.heap b m i) (hl:S1 s.heap l xs) (hm:S2 s.heap m ys) (he:xs[i]?=none\/ys[i]?=none) (k:∀h',(∀f o,f≠z->f≠v->f≠a->f≠b->s.heap.get? f=some o->h'.get? f=some o)->Q none {s with heap:=h'}):wpAny (model prog w) A (pyNext (.ref z)) Q E s:=by have ty:s.TypeIs (.ref z) "zip":=⟨_,hz,rfl⟩;unfold pyNext;refine G4 (B8 (i6 (name:=Str.ofString "__next__") ty B0 (x5 B0 ty F.entry_zip_next ?_ (F.args_zip_next_1 _))));refine Dt hA k1 k2 D hz hu hv ha hb hl hm he λ h' e q oe=>?_;obtain⟨ob,GC,Dn⟩:=oe;exact G4 (y3 (T:="StopIteration") (b:=true) ⟨ob,GC,Dn⟩ isSubtype_stop (G5 (k _ q)))
end
abbrev za(T:String)(h:Heap)(l:ww):Heap:=h.push {cls:=.type T,data:=.fields #[.ref l,.int 0 0]}
abbrev Rl(T1 T2:String)(h:Heap)(l m:ww):Heap:=(za T2 (za T1 h l) m).push {cls:=.type "tuple",data:=.seq #[.ref h.objs.size,.ref (za T1 h l).objs.size]}
abbrev Rk(T1 T2:String)(h:Heap)(l m:ww):Heap:=(Rl T1 T2 h l m).push {cls:=.type "tuple",data:=.seq #[.none,.none]}
abbrev Mr(T1 T2:String)(h:Heap)(l m:ww):Heap:=(Rk T1 T2 h l m).push {cls:=.type "zip",data:=.fields #[.none,.bool false,.bool false,.ref (za T2 (za T1 h l) m).objs.size,.ref (Rl T1 T2 h l m).objs.size]}
theorem Bm{T1 T2:String}{S1 S2:Heap->ww->Array jp->Prop}(k1:NK T1 S1)(k2:NK T2 S2)(l m:ww)(xs ys:Array jp):Meets (Builtin.«zip.__new__» ⟨[.type "zip",.ref l,.ref m],[]⟩) (λ _ R s=>S1 s.heap l xs/\S2 s.heap m ys/\R (.ok (.ret (.ref (Rk T1 T2 s.heap l m).objs.size))) {s with heap:=Mr T1 T2 s.heap l m}):=
 .of_wp λ prog w A R s h=>by
  obtain⟨hp,g,d,tk,os⟩:=s;obtain⟨a1,a2,h⟩:=h;have sz:=sub_zip;have b1:S1 (Shared.heap ⟨hp,g,d,tk,os⟩) l xs:=a1;have b2:S2 (Shared.heap ⟨hp.push {cls:=.type T1,data:=.fields #[.ref l,.int 0 0]},g,d,tk,os⟩) m ys:=k2.keep a2 λ o e=>j0 _ e
  wp_walk using k1.start b1,k2.start b2
  exact⟨_,rfl,h⟩
theorem O4{prog:Program}{w:World}{A:Around}{E:jp->kt->Prop}{s:kt}{T1 T2:String}{S1 S2:Heap->ww->Array jp->Prop}(k1:NK T1 S1)(k2:NK T2 S2){l m:ww}{xs ys:Array jp}{Q:jp->kt->Prop}(a1:S1 s.heap l xs)(a2:S2 s.heap m ys) (k:∀h',IsZip h' (s.heap.objs.size+4) (s.heap.objs.size+2) (s.heap.objs.size+3) .none->IsPair h' (s.heap.objs.size+2) (.ref s.heap.objs.size) (.ref (s.heap.objs.size+1))->IsPair h' (s.heap.objs.size+3) .none .none->
   dN T1 h' s.heap.objs.size l 0->dN T2 h' (s.heap.objs.size+1) m 0->h'.objs.size=s.heap.objs.size+5->(∀f o,s.heap.get? f=some o->h'.get? f=some o)->Q (.ref (s.heap.objs.size+4)) {s with heap:=h'}):
  wpAny (model prog w) A (call (.type "zip") [.ref l,.ref m]) Q E s:=by
 refine callType_new F.called_zip (by decide) (F.typeCall_zip_2 _ _) (F.newCall_zip_2 _ _) (λ ob=>F.args_object_init_3 ob _ _) F.entry_zip_new (Bm k1 k2 l m xs ys) ⟨a1,a2,?_⟩;have e1:(za T1 s.heap l).objs.size=s.heap.objs.size+1:=B5 ..;have e2:(za T2 (za T1 s.heap l) m).objs.size=s.heap.objs.size+2:=by rw[B5,e1]
 have e3:(Rl T1 T2 s.heap l m).objs.size=s.heap.objs.size+3:=by rw[B5,e2]
 have e4:(Rk T1 T2 s.heap l m).objs.size=s.heap.objs.size+4:=by rw[B5,e3]
 have e5:(Mr T1 T2 s.heap l m).objs.size=s.heap.objs.size+5:=by rw[B5,e4]
 have up1:∀f o,(Rk T1 T2 s.heap l m).get? f=some o->(Mr T1 T2 s.heap l m).get? f=some o:=λ f o e=>j0 _ e;have XJ:∀f o,(Rl T1 T2 s.heap l m).get? f=some o->(Mr T1 T2 s.heap l m).get? f=some o:=λ f o e=>up1 f o (j0 _ e);have XI:∀f o,(za T2 (za T1 s.heap l) m).get? f=some o->(Mr T1 T2 s.heap l m).get? f=some o:=λ f o e=>XJ f o (j0 _ e);have XH:∀f o,(za T1 s.heap l).get? f=some o->(Mr T1 T2 s.heap l m).get? f=some o:=λ f o e=>XI f o (j0 _ e);have g5:(Mr T1 T2 s.heap l m).get? (Rk T1 T2 s.heap l m).objs.size=some _:=m8 _ rfl;have g4:=up1 _ _ (m8 (Rl T1 T2 s.heap l m) rfl);have g3:=XJ _ _ (m8 (za T2 (za T1 s.heap l) m) rfl);have g2:=XI _ _ (m8 (za T1 s.heap l) rfl);have g1:=XH _ _ (m8 (s.heap) rfl);show _/\_;rw[e2,e3,e4]at g5;rw[e1,e2]at g3;rw[e3]at g4;rw[e1]at g2;rw[e4];exact⟨⟨_,g5,rfl⟩,k _ g5 g3 g4 ⟨_,g1,rfl,rfl⟩ ⟨_,g2,rfl,rfl⟩ e5 λ f o x=>XH f o (j0 _ x)⟩
end L5
namespace L2
open PySem.Spec PyProof.Rows L5
def Sq(b:Bool)(K:J5)(H:Hp)(a:ww)(xs:List V):Prop:=match b with
 |true=>iD K H a xs
 |false=>gB K H a xs
def QK(b:Bool):String:=match b with
 |true=>"tuple_iterator"
 |false=>"list_iterator"
def lh(b:Bool):Heap->ww->Array jp->Prop:=match b with
 |true=>Heap.IsTuple
 |false=>Heap.IsList
theorem eU:∀b,NK (QK b) (lh b)
 |true=>iW
 |false=>kS
section
variable {v:ww}{ys:List V}
theorem e_(I:bd X xz σ H s):∀{b:Bool},Sq b X.K H a xs->∃aB:List jp,ce xs aB/\lh b s.heap a aB.toArray
 |true,h=>let⟨aB,r,p,_⟩:=I.tuple h;⟨aB,r,p⟩
 |false,h=>let⟨aB,r,p,_⟩:=I.list h;⟨aB,r,p.isList⟩
theorem xt(I:bd X xz σ H s):∀{b:Bool},Sq b X.K H a xs->Sq b X.K H a ys->xs=ys
 |true,h,q=>I.qY h q
 |false,h,q=>I.vN h q
theorem zF{u:HO}(h:Rd H a u):∃o,H a=some o:=by
 rcases h with h|⟨o,h⟩
 ·exact⟨_,h⟩
 ·exact⟨_,h⟩
theorem DN:∀{b:Bool} {K:J5},Sq b K H a xs->(∃o,H a=some o)\/∃o,K.lookup a=some o
 |true,K,h=>by
  rcases h with h|⟨o,aB,n,hk,_⟩
  ·exact .inl (zF h)
  ·exact .inr ⟨o,hk⟩
 |false,K,h=>by
  rcases h with h|⟨o,aB,n,hk,_⟩
  ·exact .inl (zF h)
  ·exact .inr ⟨o,hk⟩
theorem iI(I:bd X xz σ H s)(f:jg X xz H v){b:Bool}(h:Sq b X.K H a xs):a≠v:=λ e=>by
 subst e;rcases DN h with⟨o,q⟩|⟨o,q⟩
 ·rw[f.1]at q;cases q
 ·have q:=I.ok.mod.SG a o q;rcases f.2.2.2.1 with z|z
  ·exact I.ok.Cj a o q z
  ·exact absurd (p7 (C7 q) (D1 I.ok.De z)) (C0 _)
theorem qX(I:bd X xz σ H s)(k:∀b o,b∉ch->s.heap.get? b=some o->h'.get? b=some o)(hf:∀b∈ch,jg X xz H b):bd X xz σ H {s with heap:=h',toks:=t'}:=by
 have SA:∀b u,H b=some u->b∉ch:=λ b u e z=>by rw[(hf b z).1]at e;cases e
 refine I.step (g':=s.gens) (d':=s.drawn) (ch:=ch) (λ b hb=>?_) (λ b o _ _ hc e _=>k b o hc e) (λ b o _ _ hc e _=>⟨o.slots,k b o hc e⟩) (λ _ _ _ _ n=>n)
  (λ b o hc e=>⟨o,k b o hc e⟩) (λ _ _ e=>e) (λ _ _ _ e=>e) (λ b ps e=>⟨#[],by rw[e];simp⟩) (λ m hm=>?_) (λ b u e=>?_) I.bare
 ·obtain⟨f0,f1,f2,f3,f4,f5⟩:=hf b hb;exact⟨f3,f1,f4,f5⟩
 ·obtain⟨o,es,ep,ho,r⟩:=hm;exact⟨o,es,ep,k _ o (λ z=>(hf _ z).2.1 rfl) ho,r⟩
 ·refine(I.bt b u e).qv (λ c v hc q=>k c v ?_ q) (λ _ q=>q) λ _ _ q=>q;rcases hc with z|z
  ·rw[z];exact SA b u e
  ·exact SA c _ z
end
def Vl(K:J5)(b1 b2:Bool)(l m:ww):It:=
 ⟨λ i H=>∃xs ys x y,Sq b1 K H l xs/\Sq b2 K H m ys/\xs[i]?=some x/\ys[i]?=some y,
  λ i H v H'=>∃(p:ww) (x y:V),H p=none/\v=.ref p/\H'=ci H p (.tup [x,y])/\(∀xs,Sq b1 K H l xs->xs[i]?=some x)/\∀ys,Sq b2 K H m ys->ys[i]?=some y,
  λ i H=>∃xs ys,Sq b1 K H l xs/\Sq b2 K H m ys/\(xs.length<=i\/ys.length<=i)⟩
structure Zb(z u v a b:ww):Prop where
 uz:u≠z
 vz:v≠z
 az:a≠z
 bz:b≠z
 uv:u≠v
 ua:u≠a
 ub:u≠b
 va:v≠a
 vb:v≠b
 ab:a≠b
def Y4(b1 b2:Bool)(z u v a b l m:ww)(i:Nat)(h:Heap):Prop:=IsZip h z u v .none/\IsPair h u (.ref a) (.ref b)/\(∃c d,IsPair h v c d)/\dN (QK b1) h a l i/\dN (QK b2) h b m i
theorem Lp{b1 b2:Bool}{z u v l m:ww}{ys:List V}(I:bd X xz σ H s)(B:Zb z u v a b)(hf:∀c∈[z,u,v,a,b],jg X xz H c)(hl:Sq b1 X.K H l xs)(hm:Sq b2 X.K H m ys):Za z u v a b l m:=
 ⟨B.uz,B.vz,B.az,B.bz,B.uv,B.ua,B.ub,B.va,B.vb,B.ab,iI I (hf z (by simp)) hl,iI I (hf v (by simp)) hl,iI I (hf a (by simp)) hl,iI I (hf b (by simp)) hl,
  iI I (hf z (by simp)) hm,iI I (hf v (by simp)) hm,iI I (hf a (by simp)) hm,iI I (hf b (by simp)) hm⟩
theorem DK{k0}{pos:Pos}(b1 b2:Bool){z u v:ww}(B:Zb z u v a b)(l m:ww):Turn P w K (.Tuple es k0 pos) (Vl K b1 b2 l m) [z,u,v,a,b] z (Y4 b1 b2 z u v a b l m) where
 mem:=by simp
 obj:=λ i h st c hc=>by
  obtain⟨hz,hu,⟨x,y,hv⟩,⟨oa,ha,_,da⟩,⟨ob,hb,_,db⟩⟩:=st;rcases C4.mp hc with rfl|hc
  ·exact⟨_,hz,λ v z=>by cases z⟩
  rcases C4.mp hc with rfl|hc
  ·exact⟨_,hu,λ v z=>by cases z⟩
  rcases C4.mp hc with rfl|hc
  ·exact⟨_,hv,λ v z=>by cases z⟩
  rcases C4.mp hc with rfl|hc
  ·exact⟨_,ha,λ v z=>by rw[da]at z;cases z⟩
  rcases C4.mp hc with rfl|hc
  ·exact⟨_,hb,λ v z=>by rw[db]at z;cases z⟩
  ·cases hc
 keep:=λ i h h' st q=>by obtain⟨hz,hu,⟨x,y,hv⟩,ha,hb⟩:=st;exact⟨q z (by simp) _ hz,q u (by simp) _ hu,⟨x,y,q v (by simp) _ hv⟩,ha.keep λ o e=>q a (by simp) o e,hb.keep λ o e=>q b (by simp) o e⟩
 item:=by
  intro X hP hw hK hc i xz s σ H E I hf st hg;subst hP hw hK;obtain⟨xs,ys,x,y,hl,hm,hx,hy⟩:=hg;obtain⟨hz,hu,⟨c,d,hv⟩,ha,hb⟩:=st;obtain⟨KA,r1,p1⟩:=e_ I hl;obtain⟨UY,r2,p2⟩:=e_ I hm;obtain⟨u1,e1,q1⟩:=r1.get hx;obtain⟨u2,e2,q2⟩:=r2.get hy;have D:=Lp I B hf hl hm;refine FG (eU b1) (eU b2) D hz hu hv ha hb p1 p2 (x:=u1) (y:=u2) (by simpa using e1) (by simpa using e2) λ g g1 g2 g3 g4 g5 g6 g7=>?_;have hn:H s.heap.objs.size=none:=I.bt.fresh (D9 _);have CH:∀c∈[z,v,a,b],jg X xz H c:=λ c hc=>hf c (by simp at hc ⊢;rcases hc with rfl|rfl|rfl|rfl <;> simp);have I1:bd X xz σ H {s with heap:=g}:=qX (t':=s.toks) I (λ c o hc e=>g7 c o (λ z=>hc (by simp[z])) (λ z=>hc (by simp[z])) (λ z=>hc (by simp[z])) (λ z=>hc (by simp[z])) e) CH;refine⟨_,rfl,wpAny_letOwnedTupleGo_zip (s:={s with heap:=g}) g1 λ g' z' sb=>?_⟩;have I2:bd X xz σ H {s with heap:=g'}:=qX (s:={s with heap:=g}) (t':=s.toks) (ch:=[z]) I1 (λ c o hc e=>sb.extBut _ _ (λ z=>hc (by simp[z])) e) (λ c hc=>CH c (by simp at hc ⊢;exact .inl hc));have fo:=I.lB (H':=H) (D9 s.heap.objs.size) hn;have O5:z < s.heap.objs.size:=C7 hz;have t5:IsPair g' s.heap.objs.size u1 u2:=sb.extBut _ _ (D7 O5) g5;have I3:bd X xz σ (ci H s.heap.objs.size (.tup [x,y])) {s with heap:=g'}:=bd.oG I2 hn ⟨show 2<=sizeLine by decide,[u1,u2],.cons q1 (.cons q2 .nil),⟨_,t5,rfl,_,rfl⟩⟩ fo.2.1 (D1 I.sz (D9 _)) fo.2.2.2.2.1 fo.2.2.2.2.2;refine⟨.ref s.heap.objs.size,_,I3,rfl,⟨s.heap.objs.size,x,y,hn,rfl,rfl,λ HN h'=>by rw[xt I h' hl];exact hx,λ Ro h'=>by rw[xt I h' hm];exact hy⟩,?_,λ c hc=>?_⟩
  ·exact⟨z',sb.extBut _ _ B.uz (g7 _ _ B.uz B.uv B.ua B.ub hu),⟨_,_,sb.extBut _ _ B.vz g2⟩,g3.keep λ o e=>sb.extBut _ _ B.az e,g4.keep λ o e=>sb.extBut _ _ B.bz e⟩
  ·have iC:∀c∈[z,u,v,a,b],c < s.heap.objs.size:=λ c hc=>by
    obtain⟨_,qa,_⟩:=ha;obtain⟨_,qb,_⟩:=hb;simp at hc;rcases hc with rfl|rfl|rfl|rfl|rfl
    ·exact C7 hz
    ·exact C7 hu
    ·exact C7 hv
    ·exact C7 qa
    ·exact C7 qb
   rw[aU (C6 (iC c hc))];exact(hf c hc).1
 done:=by
  intro X hP hw hK hc i xz s σ H E I hf st hg;subst hP hw hK;obtain⟨xs,ys,hl,hm,he⟩:=hg;obtain⟨hz,hu,⟨c,d,hv⟩,ha,hb⟩:=st;obtain⟨KA,r1,p1⟩:=e_ I hl;obtain⟨UY,r2,p2⟩:=e_ I hm;have D:=Lp I B hf hl hm;have l1:=r1.length;have l2:=r2.length;refine FR (I.ok.hd hc) (eU b1) (eU b2) D hz hu hv ha hb p1 p2 ?_ λ g g7=>⟨rfl,qX (t':=s.toks) (ch:=[z,v,a,b]) I (λ c o hc e=>g7 c o (λ z=>hc (by simp[z])) (λ z=>hc (by simp[z])) (λ z=>hc (by simp[z])) (λ z=>hc (by simp[z])) e) λ c hc=>hf c (by simp at hc ⊢;rcases hc with rfl|rfl|rfl|rfl <;> simp)⟩;rcases he with q|q
  ·exact .inl (by simp;lia)
  ·exact .inr (by simp;lia)
 self:=λ _ _ _ _ _ st h=>wpAny_pyIter_zip st.1 h
section
variable {k0:_}{a b:Expr}{ta:TA}{p pos:Pos}
def Wi(K:J5)(ta:TA):TI:=λ σ H R=>ta σ H λ vs H1=>∃(b1 b2:Bool) (l m:ww),vs=[.ref l,.ref m]/\(∃xs,Sq b1 K H1 l xs)/\(∃ys,Sq b2 K H1 m ys)/\R (Vl K b1 b2 l m) H1
theorem Oe(hg:Gl X "zip")(hm:X.mg "zip"=none)(ha:PA X [a,b] ta)(hs:starEach [a,b] X.env=[(false,eval a X.env),(false,eval b X.env)]:=by rfl)(mn:starEach [b] X.env=[(false,eval b X.env)]:=by rfl):PI X (.Tuple es k0 oH) (.Call (.Name "zip" p) [a,b] [] pos) (Wi X.K ta):=by
 intro xz s σ H R I h;refine Call_ (gQ I hg hm boot_zip (c3 (dA (ha pos xz s σ H _ I h) λ us s1 ⟨vs,H1,I1,r1,q1⟩=>?_) (by rw[hs,mn]) (by rw[mn];rfl)));obtain⟨b1,b2,l,m,e,⟨xs,hl⟩,⟨ys,hm⟩,q⟩:=q1;subst e;obtain⟨u1,u2,rfl,r,r'⟩:=vals2 r1;cases(show u1=Value.ref l from r);cases(show u2=Value.ref m from r');obtain⟨KA,r1,p1⟩:=e_ I1 hl;obtain⟨UY,r2,p2⟩:=e_ I1 hm;refine O4 (eU b1) (eU b2) p1 p2 λ g g1 g2 g3 g4 g5 g6 g7=>wpAny_pyIter_zip (s:={s1 with heap:=g}) g1 ?_;have I2:bd X xz σ H1 {s1 with heap:=g}:=I1.kept (t':=s1.toks) g7;have fr:∀c,s1.heap.objs.size<=c->jg X xz H1 c:=λ c hc=>I1.lB hc (I1.bt.fresh hc);refine⟨_,[s1.heap.objs.size+4,s1.heap.objs.size+2,s1.heap.objs.size+3,s1.heap.objs.size,s1.heap.objs.size+1],_,_,H1,rfl,I2,DK b1 b2 ⟨?_,?_,?_,?_,?_,?_,?_,?_,?_,?_⟩ l m,⟨g1,g2,⟨_,_,g3⟩,g4,g5⟩,λ c hc=>fr c ?_,q⟩
 any_goals (show(_:Nat)≠_;lia)
 simp at hc;rcases hc with rfl|rfl|rfl|rfl|rfl <;> lia
end
end L2
namespace L3
open PySem.Spec L2 L5
def mW(ds es:List D):List D:=(ds.zip es).map λ p=>D.tup [p.1,p.2]
theorem uG(ds es:List D):(mW ds es).length=min ds.length es.length:=by simp[mW]
end L3
namespace L5
open PySem
theorem H_:fillsNumberSlot (.type "tuple") "mul"=pure false:=fillsNumberSlot_seq (id:="tuple.__mul__") (r:=some (.builtin "tuple.__rmul__")) F.slot_tuple_mul.lookup (by decide+kernel) F.slot_tuple_rmul.lookup (by decide+kernel)
theorem Mz:seqRepeat? (.type "tuple")=pure (some (.builtin "tuple.__mul__")):=by unfold seqRepeat?;rw[seqSlot_of (T:="tuple") (name:="__mul__") (id:="tuple.__mul__") F.slot_tuple_mul.lookup (by decide+kernel),seqSlot_of (T:="tuple") (name:="__rmul__") (id:="tuple.__rmul__") F.slot_tuple_rmul.lookup (by decide+kernel)];rfl
theorem MB(a:Int)(t:Tok)(l:ww)(aB:Array jp)(n:Nat)(dd:Option ww)(sl:Array (Option jp)):Meets (Builtin.«int.__rmul__» ⟨[.int a t,.ref l],[]⟩) (λ _ R s=>s.heap.get? l=some {cls:=.type "tuple",dict:=dd,data:=.seq aB n,slots:=sl}/\R (.ok (.ret Value.notImplemented)) s):=
 .of_wp λ prog w A R s h=>by
  obtain⟨hp,g,d,tk,os⟩:=s;obtain⟨hl,h⟩:=h
  wp_walk
  exact⟨_,rfl,h⟩
theorem MA(l:ww)(aB:Array jp)(n:Nat)(dd:Option ww)(sl:Array (Option jp))(u:Tok):Meets (Builtin.«tuple.__mul__» ⟨[.ref l,.int 1 u],[]⟩) (λ _ R s=>s.heap.get? l=some {cls:=.type "tuple",dict:=dd,data:=.seq aB n,slots:=sl}/\R (.ok (.ret (.ref l))) s):=
 .of_wp λ prog w A R s h=>by
  obtain⟨hp,g,d,tk,os⟩:=s;obtain⟨hl,h⟩:=h
  wp_walk
  exact⟨_,rfl,h⟩
theorem HZ(l:ww)(aB:Array jp)(n:Nat)(dd:Option ww)(sl:Array (Option jp))(x:Int)(u:Tok)(hx:x≠1)(h1: -(2^63)<=x)(h2:x < 2^63)(hi:aB.isEmpty=false)(hz:aB.size*x.toNat<=sizeLine):
  Meets (Builtin.«tuple.__mul__» ⟨[.ref l,.int x u],[]⟩) (λ _ R s=>s.heap.get? l=some {cls:=.type "tuple",dict:=dd,data:=.seq aB n,slots:=sl}/\
   R (.ok (.ret (.ref s.heap.objs.size))) {s with heap:=s.heap.push {cls:=.type "tuple",data:=.seq ((List.replicate x.toNat aB).foldl (·++·) #[])}}):=
 .of_wp λ prog w A R s h=>by
  obtain⟨hp,g,d,tk,os⟩:=s;obtain⟨hl,h⟩:=h
  wp_walk
  rw[J4 (by simp;lia)]
  wp_walk
  by_cases ZV:x<=0
  ·rw[J3 (by simp[ZV])]
   wp_walk
   have e:x.toNat=0:=by lia
   rw[e]at h;exact⟨_,rfl,h⟩
  ·rw[J4 (by simp[hi];lia)];have ez:((aB.size:Int)*x)=((aB.size*x.toNat:Nat):Int):=by rw[Int.natCast_mul,Int.toNat_of_nonneg (by lia)]
   have ZP:=hz;rw[G0]at ZP;rw[J4 (by rw[ez];lia)]
   wp_walk
   rw[J4 (by unfold Builtin.Tuple.tupleTooMany;rw[ez,decide_eq_true_eq,G0];lia)];have hsz:(List.foldl (λ x1 x2=>x1++x2) #[] (List.replicate x.toNat aB)).size<=sizeLine:=by
    have f0:∀(m:Nat) (zn:Array jp),(List.foldl (λ x1 x2=>x1++x2) zn (List.replicate m aB)).size=zn.size+m*aB.size:=by
     intro m
     induction m with
     |zero=>intro zn;simp
     |succ m ih=>intro zn;rw[l8,foldl_cons,ih,Array.size_append,Nat.succ_mul];lia
    rw[f0,Nat.mul_comm];simpa using hz
   wp_walk
   exact⟨_,rfl,h⟩
end L5
namespace L2
open PySem.Spec PyProof.Rows L5
theorem JT:gh X (binaryOp .Mult) (λ x y H Q=>∃l k xs,x=.ref l/\y=.int k/\iD X.K H l xs/\xs≠[]/\-(2^63)<=k/\k < 2^63/\xs.length*k.toNat<=sizeLine/\(k=1->Q (.ref l) H)/\(k≠1->∀p,H p=none->Q (.ref p) (ci H p (.tup (List.replicate k.toNat xs).flatten)))):=by
 intro xz s σ H x y v u Q I rx ry h;obtain⟨l,k,xs,rfl,rfl,hH,fN,h1,h2,hz,q1,q2⟩:=h;cases rx;obtain⟨t,rfl⟩:=ry;obtain⟨aB,r,⟨⟨c,dd,da,sl⟩,e,hc,n,hd⟩,_⟩:=I.tuple hH;have hl:=r.length;cases(show c=.type "tuple" from hc);cases(show da=.seq aB.toArray n from hd);refine wpAny_binaryOp_repeat_ref (T:="tuple") (U:="int") (by decide) ⟨_,e,rfl⟩ (λ s'=>typeIs_int s' k t) H_ F.fills_int_mul F.slot_int_rmul Mz F.slot_int_index.lookup
  (G7 F.slot_int_rmul (typeIs_int s k t) F.entry_int_rmul (F.args_int_rmul_2 _ _) (MB k t l aB.toArray n dd sl) ⟨e,rfl,⟨_,e,rfl⟩,?_⟩)
 by_cases hk:k=1
 ·subst hk;exact G7 F.slot_tuple_mul ⟨_,e,rfl⟩ F.entry_tuple_mul (F.args_tuple_mul_2 _ _) (MA l aB.toArray n dd sl t) ⟨e,.ref l,H,I,rfl,q1 rfl⟩
 ·refine G7 F.slot_tuple_mul ⟨_,e,rfl⟩ F.entry_tuple_mul (F.args_tuple_mul_2 _ _) (HZ l aB.toArray n dd sl k t hk h1 h2 ?_ (by rw[u9,<- hl];exact hz)) ⟨e,?_⟩
  ·cases aB with
   |nil=>cases r;exact absurd rfl fN
   |cons a b=>rfl
  ·have Gw:List.foldl (λ x1 x2=>x1++x2) #[] (List.replicate k.toNat aB.toArray)=(List.replicate k.toNat aB).flatten.toArray:=by have:=foldl_rep aB k.toNat [];rw[nil_append]at this;exact this
   rw[Gw];have fr:=I.fresh;refine⟨.ref s.heap.objs.size,_,I.laid (t':=s.toks) (o:=.tup (List.replicate k.toNat xs).flatten) (λ b o e=>j0 _ e) (D9 _) ⟨?_,_,r.rep k.toNat,⟨_,m8 _ rfl,rfl,_,rfl⟩⟩,rfl,q2 hk _ fr⟩;rw[len_rep,Nat.mul_comm];exact hz
end L2
namespace L3
open PySem.Spec L2 L5 PyProof.Rows
mutual
def toP:D->PyData
 | .bK=>.none
 | .bl b=>.bool b
 | .int i=>.int i
 | .str x=>.str x
 | .ty _=>.none
 | .ref _=>.none
 | .tup ds=>.tuple (toPs ds)
 | .fl ds=>.list (toPs ds)
def toPs:List D->List PyData
 |[]=>[]
 |d::ds=>toP d::toPs ds
end
mutual
def nr:D->Bool
 | .bK=>true
 | .bl _=>true
 | .int _=>true
 | .str _=>true
 | .ty _=>false
 | .ref _=>false
 | .tup ds=>x_ ds
 | .fl ds=>x_ ds
def x_:List D->Bool
 |[]=>true
 |d::ds=>nr d&&x_ ds
end
section
variable {σ:L2.St}
mutual
theorem UQ(I:bd X xz σ H s):∀(d:D) {x:V} {u:jp},nr d=true->bi X.K H d x->bn x u->∃as,Reads s.heap u (toP d) as
 | .bK,x,u,_,h,r=>by cases(dS.mp h);cases r;unfold toP;exact⟨_,Reads.none⟩
 | .bl b,x,u,_,h,r=>by cases(ba.mp h);cases r;unfold toP;exact⟨_,Reads.bool b⟩
 | .int i,x,u,_,h,r=>by cases(ax.mp h);obtain⟨t,rfl⟩:=r;unfold toP;exact⟨_,Reads.int i t⟩
 | .str z,x,u,_,h,r=>by cases(bg.mp h);obtain⟨t,rfl⟩:=r;unfold toP;exact⟨_,Reads.str z t⟩
 | .ty _,x,u,n,h,r=>by unfold nr at n;cases n
 | .ref _,x,u,n,h,r=>by unfold nr at n;cases n
 | .tup ds,x,u,n,h,r=>by unfold nr at n;obtain⟨p,xs,rfl,hq,hd⟩:=a_.mp h;cases(show u=Value.ref p from r);obtain⟨aB,rv,⟨o,ho,hc,m,PM⟩,_⟩:=I.tuple hq;obtain⟨as,ra⟩:=xP I ds n hd rv;unfold toP;exact⟨_,reads_tuple_at ho hc PM ra⟩
 | .fl ds,x,u,n,h,r=>by unfold nr at n;obtain⟨p,xs,rfl,hq,hd⟩:=mw.mp h;cases(show u=Value.ref p from r);obtain⟨aB,rv,pl,_⟩:=I.list hq.sq;obtain⟨o,ho,hc,m,PM⟩:=pl.isList;obtain⟨as,ra⟩:=xP I ds n hd rv;unfold toP;exact⟨_,reads_list_at ho hc PM ra⟩
theorem xP(I:bd X xz σ H s):∀(ds:List D) {xs:List V} {us:List jp},x_ ds=true->aD X.K H ds xs->ce xs us->∃as,ReadsAll s.heap us (toPs ds) as
 |[],xs,us,_,h,r=>by cases(ar.mp h);cases r;unfold toPs;exact⟨_,ReadsAll.nil⟩
 |d::ds,xs,us,n,h,r=>by
  unfold x_ at n;rw[x6]at n;obtain⟨x,HN,rfl,h1,h2⟩:=ah.mp h;cases r with
  |cons r1 r2=>obtain⟨as,a⟩:=UQ I d n.1 h1 r1;obtain⟨bs,b⟩:=xP I ds n.2 h2 r2;unfold toPs;exact⟨_,ReadsAll.cons a b⟩
end
end
def Rg(K:J5)(H:Hp)(x:V)(a:PyData):Prop:=(∃d,nr d=true/\bi K H d x/\toP d=a)\/∃p ds xs,x=.ref p/\gB K H p xs/\aD K H ds xs/\x_ ds=true/\a=.list (toPs ds)
def vo(M:Mem)(d:D):Option PyData:=match d with
 | .ref a=>match M a with
  |some (.lst ds)=>if x_ ds=true then some (.list (toPs ds))else none
  |_=>none
 |d=>if nr d=true then some (toP d)else none
theorem nN{x:V}{a:PyData}(e:vo M d=some a)(h:bi K H d x)(hm:bv K H M):Rg K H x a:=by
 cases d with
 |ref p=>
  cases(aF.mp h);unfold vo at e;cases q:M p with
  |none=>simp[q]at e
  |some o=>
   cases o with
   |cO b kvs=>simp[q]at e
   |eS x=>simp[q]at e
   |lst ds=>
    simp only[q]at e;by_cases n:x_ ds=true
    ·rw[J3 n]at e;cases e;obtain⟨xs,hx,hd⟩:=hm p _ q;exact .inr ⟨p,ds,xs,rfl,gB.of hx,hd,n,rfl⟩
    ·rw[J4 n]at e;cases e
 |bK=>exact .inl ⟨_,rfl,h,by simpa[vo,nr]using e⟩
 |bl _=>exact .inl ⟨_,rfl,h,by simpa[vo,nr]using e⟩
 |int _=>exact .inl ⟨_,rfl,h,by simpa[vo,nr]using e⟩
 |str _=>exact .inl ⟨_,rfl,h,by simpa[vo,nr]using e⟩
 |ty _=>simp[vo,nr]at e
 |tup ds=>
  by_cases n:x_ ds=true
  ·exact .inl ⟨.tup ds,by unfold nr;exact n,h,by simpa[vo,nr,n]using e⟩
  ·simp[vo,nr,n]at e
 |fl ds=>
  by_cases n:x_ ds=true
  ·exact .inl ⟨.fl ds,by unfold nr;exact n,h,by simpa[vo,nr,n]using e⟩
  ·simp[vo,nr,n]at e
theorem jl{σ:L2.St}(I:bd X xz σ H s){x:V}{a:PyData}(h:Rg X.K H x a)(r:bn x u):∃as,Reads s.heap u a as:=by
 rcases h with⟨d,n,hd,rfl⟩|⟨p,ds,xs,rfl,hq,hd,n,rfl⟩
 ·exact UQ I d n hd r
 ·cases(show u=Value.ref p from r);obtain⟨aB,rv,pl,_⟩:=I.list hq;obtain⟨o,ho,hc,m,PM⟩:=pl.isList;obtain⟨as,ra⟩:=xP I ds n hd rv;exact⟨_,reads_list_at ho hc PM ra⟩
def Xt(neg:Bool):hX:=λ x y M Q=>∃a b,vo M x=some a/\vo M y=some b/\SeqAt.shaped a=true/\SeqAt.shaped b=true/\Q (.bl (if neg then !PyData.eqv a b else PyData.eqv a b)) M
theorem OI(hu:X.A.units+64 < cLine):gh X (compareOp .Eq) (λ x y H Q=>∃a b,Rg X.K H x a/\Rg X.K H y b/\SeqAt.shaped a=true/\SeqAt.shaped b=true/\Q (.bl (PyData.eqv a b)) H):=by intro xz s σ H x y v u Q I rx ry h;obtain⟨a,b,ha,hb,sa,sb,q⟩:=h;obtain⟨as,ra⟩:=jl I ha rx;obtain⟨bs,rb⟩:=jl I hb ry;exact eq_dataH ra rb sa sb hu ⟨.bl (PyData.eqv a b),H,I,rfl,q⟩
theorem OD(hu:X.A.units+64 < cLine):gh X (compareOp .NotEq) (λ x y H Q=>∃a b,Rg X.K H x a/\Rg X.K H y b/\SeqAt.shaped a=true/\SeqAt.shaped b=true/\Q (.bl (!PyData.eqv a b)) H):=by intro xz s σ H x y v u Q I rx ry h;obtain⟨a,b,ha,hb,sa,sb,q⟩:=h;obtain⟨as,ra⟩:=jl I ha rx;obtain⟨bs,rb⟩:=jl I hb ry;exact ne_dataH ra rb sa sb hu ⟨.bl (!PyData.eqv a b),H,I,rfl,q⟩
theorem gC.or{f:jp->jp->Sem jp}{r r':hX}(h:gC X f r)(h':gC X f r'):gC X f (λ x y M Q=>r x y M Q\/r' x y M Q):=by
 obtain⟨a,h1,h2⟩:=h;obtain⟨b,g1,g2⟩:=h';refine⟨_,h1.or g1,λ x y d e H M Q2 Q hd he hm q k=>?_⟩;rcases q with q|q
 ·exact .inl (h2 x y d e H M Q2 Q hd he hm q k)
 ·exact .inr (g2 x y d e H M Q2 Q hd he hm q k)
def tT(neg:Bool):hX:=λ x y M Q=>Qm neg x y M Q\/Xt neg x y M Q
theorem eT(hu:X.A.units+64 < cLine):gC X (compareOp .Eq) (tT false):=V4.or ⟨_,OI hu,λ x y d e H M Q2 Q hd he hm q k=>by
 obtain⟨a,b,ha,hb,sa,sb,q⟩:=q;exact⟨a,b,nN ha hd hm,nN hb he hm,sa,sb,k _ H _ M (ba.mpr rfl) hm (au.refl H) q⟩⟩
theorem ij(hu:X.A.units+64 < cLine):gC X (compareOp .NotEq) (tT true):=V1.or ⟨_,OD hu,λ x y d e H M Q2 Q hd he hm q k=>by
 obtain⟨a,b,ha,hb,sa,sb,q⟩:=q;exact⟨a,b,nN ha hd hm,nN hb he hm,sa,sb,k _ H _ M (ba.mpr rfl) hm (au.refl H) q⟩⟩
def n_:D->List D->Mem->bW->Prop:=λ x vs M Q=>∃p ds y,x=.ref p/\vs=[y]/\M p=some (.lst ds)/\ds.length < sizeLine/\Q .bK (ai M p (.lst (ds++[y])))
theorem bL:QC X "list.append" n_:=⟨zN,Cm,λ x xs d ds H M Q2 Q hx hd hm q k=>by
 obtain⟨p,es,y,rfl,rfl,hM,hz,q⟩:=q;cases(aF.mp hx);obtain⟨v,r,rfl,hv,hr⟩:=ah.mp hd;cases(ar.mp hr);obtain⟨zs,h1,h2⟩:=hm p _ hM;have t:=au.lst (o:=.lst (zs++[v])) h1;refine⟨p,zs,v,rfl,rfl,h1,by rw[h2.length];exact hz,k _ _ .bK _ (dS.mpr rfl) (hm.put (u:=.lst (es++[y])) t ⟨_,aL,?_⟩) t q⟩;exact(aD.mono t es h2).append (aD.one (bi.mono t y hv))⟩
theorem jX:∀{ns:List Int} {xs:List V},aD K H (ns.map D.int) xs->xs=ns.map V.int
 |[],xs,h=>by rw[D4,ar]at h;exact h
 |b::bs,xs,h=>by rw[C3,ah]at h;obtain⟨x,r,rfl,a,q⟩:=h;rw[ax]at a;rw[a,jX q];rfl
def Tx:List D->Mem->bW->Prop:=λ xs M Q=>∃i j,xs=[.int i,.int j]/\Q (.int (if j < i then j else i)) M
theorem TQ(hc:X.calm=true):dZ X (.builtin "min") Tx:=⟨_,C_ hc,λ xs ds H M Q2 Q hd hm q k=>by
 obtain⟨i,j,rfl,q⟩:=q;obtain⟨v,r,rfl,hv,hr⟩:=ah.mp hd;obtain⟨v2,r2,rfl,Gm,KH⟩:=ah.mp hr;cases(ar.mp KH);cases(ax.mp hv);cases(ax.mp Gm);exact⟨i,j,rfl,k _ H _ M (ax.mpr rfl) hm (au.refl H) q⟩⟩
def Tw:hX:=λ x y M Q=>∃ds k,x=.tup ds/\y=.int k/\ds≠[]/\-(2^63)<=k/\k < 2^63/\ds.length*k.toNat<=sizeLine/\Q (.tup (List.replicate k.toNat ds).flatten) M
theorem pW(h:aD K H ds xs):∀k:Nat,aD K H (List.replicate k ds).flatten (List.replicate k xs).flatten
 |0=>by simp[ar]
 |k+1=>by rw[l8,l8,s9,s9];exact h.append (pW h k)
def AS:hX:=λ x y M Q=>Qj x y M Q\/Tw x y M Q
theorem OW:gC X (binaryOp .Mult) AS:=Sv.or ⟨_,JT,λ x y d e H M Q2 Q hd he hm q k=>by
 obtain⟨ds,n,rfl,rfl,fN,h1,h2,hz,q⟩:=q;obtain⟨p,xs,rfl,hq,hx⟩:=a_.mp hd;cases(ax.mp he);refine⟨p,n,xs,rfl,rfl,hq,λ z=>?_,h1,h2,by rw[hx.length];exact hz,λ e1=>?_,λ _ l hl=>?_⟩
 ·have:=hx.length;rw[z]at this;exact fN (i7.mp this.symm)
 ·subst e1;rw[show(1:Int).toNat=1 from rfl,show(List.replicate 1 ds).flatten=ds by simp]at q;exact k _ H _ M (a_.mpr ⟨p,xs,rfl,hq,hx⟩) hm (au.refl H) q
 ·exact k _ _ (.tup _) M (gI hl (pW hx _)) (hm.laid hl) (au.laid hl) q⟩
open PySem.Spec L2 L5
section
variable {Q:bW}
theorem IW{i j:Int}(q:Q (.bl (decide (i=j))) M):tT false (.int i) (.int j) M Q:=.inl (Nw q)
theorem IV{i j:Str}(q:Q (.bl (decide (i=j))) M):tT false (.str i) (.str j) M Q:=.inl (Nv q)
theorem II{i j:Int}(q:Q (.bl (!decide (i=j))) M):tT true (.int i) (.int j) M Q:=.inl (Np q)
theorem zI{i j:Bool}(q:Q (.bl (!decide (i=j))) M):tT true (.bl i) (.bl j) M Q:=.inl (Nq q)
theorem Ey{i j:Int}(h:uo i j)(q:Q (.int (i*j)) M):AS (.int i) (.int j) M Q:=.inl (IL h q)
theorem Ex{k:Int}(h0:0<=k)(h1:k<=10000)(q:Q (.tup (List.replicate k.toNat d)) M):AS (.tup [d]) (.int k) M Q:=.inr ⟨[d],k,rfl,rfl,by simp,Int.le_trans (by decide) h0,q8 h1 (by decide),D1 (show 1*k.toNat<=10000 by lia) (by decide),by
 rw[show(List.replicate k.toNat [d]).flatten=List.replicate k.toNat d by simp];exact q⟩
theorem Nr{i j:Int}(q:Q (.int (if j < i then j else i)) M):Tx [.int i,.int j] M Q:=⟨i,j,rfl,q⟩
theorem fK{y:D}(h:M p=some (.lst ds))(hz:ds.length < sizeLine)(q:Q .bK (ai M p (.lst (ds++[y])))):n_ (.ref p) [y] M Q:=⟨p,ds,y,rfl,rfl,h,hz,q⟩
abbrev row(ns:List Int):D:=.tup (ns.map D.int)
theorem ID{a b:D}(h:N ((δ.set i (some a)).set j (some b)) M):qD 2 (dv (am i) (dv (am j) qE)) (.tup [a,b]) δ M N:=⟨rfl,h⟩
theorem EC{A B:Prop}(h:B):if(!true)=true then A else B:=by rw[Bool.not_true,J4 o6];exact h
theorem ED{A B:Prop}(h:A):if(!false)=true then A else B:=by rw[Bool.not_false,J3 rfl];exact h
theorem eR{c:gg}{tb:lJ}{E:jL}{δ:df}(h:∃W:Nat->df->Mem->Prop,(∃m,W m δ M)/\∀m δ M,W m δ M->c δ M λ b M1=>
  if b=true then ∃N:df->Mem->Prop,(∀δ' M',N δ' M'->∃m',m' < m/\W m' δ' M')/\tb {E with nx:=N,ct:=N,bk:=E.nx} δ M1 else E.nx δ M1):xC c tb E δ M:=h
theorem TK{δc:df}(Pv:Nat->List D->Mem->Prop)(h0:Pv 0 [] M1)(hl:∀i zn M,i<=ds.length->Pv i zn M->M a=some (.lst ds))(hz:∀i zn M,i<=ds.length->Pv i zn M->zn.length<=sizeLine) (hs:∀i d zn M,ds[i]?=some d->Pv i zn M->g d δc M λ δ2 M2=>tt δ2 M2 λ b M3=>if b=true then te δ2 M3 λ y M4=>Pv (i+1) (zn++[y]) M4 else Pv (i+1) zn M3) (hd:∀zn M,Pv ds.length zn M->Qe zn M):∃(B:Nat) (W:Nat->List D->Mem->Prop),W 0 [] M1/\∀i zn M,W i zn M->i<=B/\zn.length<=sizeLine/\match ad (.at a) M with
   |none=>False
   |some ds=>match ds[i]? with
    |none=>i=ds.length/\Qe zn M
    |some d=>g d δc M λ δ2 M2=>tt δ2 M2 λ b M3=>if b=true then te δ2 M3 λ y M4=>W (i+1) (zn++[y]) M4 else W (i+1) zn M3:=by
 refine⟨ds.length,λ i zn M=>if i<=ds.length then Pv i zn M else False,by dsimp only;rw[J3 (G1 _)];exact h0,?_⟩;intro i zn M w;by_cases hi:i<=ds.length
 ·rw[J3 hi]at w;refine⟨hi,hz i zn M hi w,?_⟩;have e0:ad (.at a) M=some ds:=by show(match M a with|some (.lst ds)=>some ds|_=>none)=some ds;rw[hl i zn M hi w]
  rw[e0];show(match ds[i]? with
    |none=>i=ds.length/\Qe zn M
    |some d=>g d δc M λ δ2 M2=>tt δ2 M2 λ b M3=>if b=true then te δ2 M3 λ y M4=>(if i+1<=ds.length then Pv (i+1) (zn++[y]) M4 else False)else(if i+1<=ds.length then Pv (i+1) zn M3 else False))
  cases e:ds[i]? with
  |none=>have:i=ds.length:=A8 hi (g0.mp e);subst this;exact⟨rfl,hd zn M w⟩
  |some d=>have iC:i+1<=ds.length:=(c9.mp e).1;simp only[J3 iC];exact hs i d zn M e w
 ·rw[J4 hi]at w;exact w.elim
end
end L3
namespace L5
open PySem
open PySem.AutoSeq1 (wpAny_loadPart')
abbrev Vf(T:String)(h:Heap)(l:ww):Heap:=h.push {cls:=.type T,data:=.fields #[.ref l,.int 0 0]}
abbrev Xp(T:String)(h:Heap)(l:ww):Heap:=(Vf T h l).push {cls:=.type "enumerate",data:=.fields #[.none,.bool false,.ref h.objs.size,rawInt 0,.none,.none]}
set_option tactic.hygienic true in
theorem yy(k:NK T S)(l:ww)(vs:Array jp):Meets (Builtin.«enumerate.__new__» ⟨[.type "enumerate",.ref l],[]⟩) (λ _ R s=>S s.heap l vs/\R (.ok (.ret (.ref (Vf T s.heap l).objs.size))) {s with heap:=Xp T s.heap l}):=
 .of_wp λ prog w A R s h=>by
  obtain⟨hp,g,d,tk,os⟩:=s;obtain⟨a1,h⟩:=h;have se:=sub_enumerate;have aT:S (Shared.heap ⟨hp,g,d,tk,os⟩) l vs:=a1
  wp_walk using k.start aT
  refine wpAny_stack_any λ st=>G5 ?_;split
  ·rename_i c _ _ _ _ _;cases(c==Value.type "enumerate")
   all_goals
    wp_walk using k.start aT
    exact⟨_,rfl,h⟩
  ·wp_walk using k.start aT
   exact⟨_,rfl,h⟩
theorem Kk(kk:NK T S){l:ww}(a1:S s.heap l vs) (k:∀h',IsEnum h' (s.heap.objs.size+1) s.heap.objs.size 0 .none->dN T h' s.heap.objs.size l 0->(∀f o,s.heap.get? f=some o->h'.get? f=some o)->Q (.ref (s.heap.objs.size+1)) {s with heap:=h'}):wpAny (model prog w) A (call (.type "enumerate") [.ref l]) Q E s:=by refine callType_new F.called_enumerate (by decide) (F.typeCall_enumerate_1 _) (F.newCall_enumerate_1 _) (λ ob=>F.args_object_init_2 ob _) F.entry_enumerate_new (yy kk l vs) ⟨a1,?_⟩;have e1:(Vf T s.heap l).objs.size=s.heap.objs.size+1:=B5 ..;have g2:(Xp T s.heap l).get? (Vf T s.heap l).objs.size=some _:=m8 _ rfl;have g1:(Xp T s.heap l).get? s.heap.objs.size=some _:=j0 _ (m8 s.heap rfl);rw[e1]at g2;show _/\_;rw[e1];exact⟨⟨_,g2,rfl⟩,k _ g2 ⟨_,g1,rfl,rfl⟩ λ f o x=>j0 _ (j0 _ x)⟩
theorem FF(k:NK T S)(hA:A.handled=none)(j l:ww)(ne:l≠j)(vs:Array jp):Draws prog w A j [j,l] vs.size (λ i v=>vs[i]?=some v) (λ i h=>dN T h j l i/\S h l vs) where
 live:=λ _ _ st=>let⟨⟨o,ho,_⟩,_⟩:=st;⟨o,ho⟩
 frame:=λ _ _ _ st q=>let⟨⟨o,ho,r⟩,su⟩:=st;⟨⟨o,q j (by simp) o ho,r⟩,k.keep su λ o e=>q l (by simp) o e⟩
 item:=λ i s Q E hi st kk=>k.item st.1 st.2 (c8 hi) λ h' a b=>kk _ h' s.toks (c8 hi) ⟨a,k.keep st.2 λ o e=>b.extBut _ _ ne e⟩ b
 done:=λ s Q E st kk=>k.stop hA st.1 st.2 (i9 (D9 _)) kk
end L5
namespace L2
open PySem.Spec PyProof.Rows L5
def Vo(K:J5)(b:Bool)(l:ww):It:=
 ⟨λ i H=>∃xs x,Sq b K H l xs/\xs[i]?=some x,
  λ i H v H'=>∃(p:ww) (x:V),H p=none/\v=.ref p/\H'=ci H p (.tup [.int i,x])/\∀xs,Sq b K H l xs->xs[i]?=some x,
  λ i H=>∃xs,Sq b K H l xs/\xs.length<=i⟩
def Y5(b:Bool)(e j l:ww)(i:Nat)(h:Heap):Prop:=(∃old,IsEnum h e j i old)/\dN (QK b) h j l i
theorem BD{k0}{pos:Pos}{e j:ww}(b:Bool)(B:e≠j)(l:ww):Turn P w K (.Tuple es k0 pos) (Vo K b l) [e,j] e (Y5 b e j l) where
 mem:=by simp
 obj:=λ i h st c hc=>by
  obtain⟨⟨old,he⟩,⟨oa,ha,_,da⟩⟩:=st;rcases C4.mp hc with rfl|hc
  ·exact⟨_,he,λ v z=>by cases z⟩
  rcases C4.mp hc with rfl|hc
  ·exact⟨_,ha,λ v z=>by rw[da]at z;cases z⟩
  ·cases hc
 keep:=λ i h h' st q=>by obtain⟨⟨old,he⟩,⟨oa,ha,r⟩⟩:=st;exact⟨⟨old,q e (by simp) _ he⟩,⟨oa,q j (by simp) _ ha,r⟩⟩
 item:=by
  intro X hP hw hK hc i xz s σ H E I hf st hg;subst hP hw hK;obtain⟨xs,x,hl,hx⟩:=hg;obtain⟨⟨old,he⟩,hj⟩:=st;obtain⟨KA,r1,p1⟩:=e_ I hl;obtain⟨u1,e1,q1⟩:=r1.get hx;have lj:l≠j:=iI I (hf j (by simp)) hl;have le:l≠e:=iI I (hf e (by simp)) hl;have hi:i < KA.toArray.size:=by have:=(c9.mp e1).1;simpa using this
  refine wpAny_pyNext_enum_itemD (FF (eU b) (A:=X.A.in1) (I.ok.hd hc) j l lj KA.toArray) he ⟨hj,p1⟩ hi B (by simp;exact⟨B,J0 le⟩) λ y g tk g1 g2 g3 g4 g5 g6=>?_;have ey:y=u1:=by rw[getElem?_toArray,e1]at g1;cases g1;rfl
  subst ey;have hn:H s.heap.objs.size=none:=I.bt.fresh (D9 _);have I1:bd X xz σ H {s with heap:=g,toks:=tk+1}:=qX (t':=tk+1) I (ch:=[e,j]) (λ c o hc e=>g6 c o (λ z=>hc (by simp[z])) (λ z=>hc (by simp[z])) e) hf;refine⟨_,rfl,wpAny_letOwnedTupleGo_enum (s:={s with heap:=g,toks:=tk+1}) g2 λ g' e' sb=>?_⟩;have I2:bd X xz σ H {s with heap:=g',toks:=tk+1}:=qX (s:={s with heap:=g,toks:=tk+1}) (t':=tk+1) (ch:=[e]) I1 (λ c o hc q=>sb.extBut _ _ (λ z=>hc (by simp[z])) q) (λ c hc=>hf c (by simp at hc ⊢;exact .inl hc));have fo:=I.lB (H':=H) (D9 s.heap.objs.size) hn;have XZ:e < s.heap.objs.size:=C7 he;have Zy:j < s.heap.objs.size:=let⟨_,q,_⟩:=hj;C7 q
  have t5:=sb.extBut _ _ (D7 XZ) g4;have I3:bd X xz σ (ci H s.heap.objs.size (.tup [.int i,x])) {s with heap:=g',toks:=tk+1}:=bd.oG I2 hn ⟨show 2<=sizeLine by decide,[.int i tk,y],.cons ⟨tk,rfl⟩ (.cons q1 .nil),⟨_,t5,rfl,_,rfl⟩⟩ fo.2.1 (D1 I.sz (D9 _)) fo.2.2.2.2.1 fo.2.2.2.2.2;refine⟨.ref s.heap.objs.size,_,I3,rfl,⟨s.heap.objs.size,x,hn,rfl,rfl,λ HN h'=>by rw[xt I h' hl];exact hx⟩,⟨⟨_,by simpa using e'⟩,?_⟩,λ c hc=>?_⟩
  ·obtain⟨o,ho,r⟩:=g3.1;exact⟨o,sb.extBut _ _ (J0 B) ho,r⟩
  ·have iC:c < s.heap.objs.size:=by
    simp at hc;rcases hc with rfl|rfl
    ·exact XZ
    ·exact Zy
   rw[aU (C6 iC)];exact(hf c hc).1
 done:=by intro X hP hw hK hc i xz s σ H E I hf st hg;subst hP hw hK;obtain⟨xs,hl,hx⟩:=hg;obtain⟨⟨old,he⟩,hj⟩:=st;obtain⟨KA,r1,p1⟩:=e_ I hl;have l1:=r1.length;have lj:l≠j:=iI I (hf j (by simp)) hl;have hT:s.TypeIs (.ref e) "enumerate":=⟨_,he,rfl⟩;unfold pyNext;refine G4 (B8 (i6 (name:=Str.ofString "__next__") hT F.slot_enumerate_next (x5 F.slot_enumerate_next hT F.entry_enumerate_next ?_ (F.args_enumerate_next_1 _))));refine G4 (m:=field (.ref e) 2) (G3 he rfl (x:=.ref j) rfl ?_);refine G4 ((eU b).stop (A:=X.A.in1) (I.ok.hd hc) hj p1 (i9 (by simp;lia)) λ g c g1 g2=>?_);obtain⟨o,ho,PN⟩:=g2;refine G4 (y3 (T:="StopIteration") (b:=true) ⟨o,ho,PN⟩ isSubtype_stop (G5 ⟨rfl,?_⟩));exact qX (t':=s.toks) (ch:=[j]) I (λ b o hb q=>g1 b o (λ z=>hb (by simp[z])) q) λ b hb=>hf b (by simp at hb ⊢;exact .inr hb)
 self:=λ _ _ _ _ _ st h=>wpAny_pyIter_enum st.1.choose_spec h
section
variable {k0:_}{a:Expr}{ta:TA}{p pos:Pos}
def SM(K:J5)(ta:TA):TI:=λ σ H R=>ta σ H λ vs H1=>∃(b:Bool) (l:ww),vs=[.ref l]/\(∃xs,Sq b K H1 l xs)/\R (Vo K b l) H1
theorem JO(hg:Gl X "enumerate")(hm:X.mg "enumerate"=none)(ha:PA X [a] ta)(hs:starEach [a] X.env=[(false,eval a X.env)]:=by rfl)(mn:starEach [] X.env=[]:=by rfl):PI X (.Tuple es k0 oH) (.Call (.Name "enumerate" p) [a] [] pos) (SM X.K ta):=by
 intro xz s σ H R I h;refine Call_ (gQ I hg hm boot_enumerate (c3 (dA (ha pos xz s σ H _ I h) λ us s1 ⟨vs,H1,I1,r1,q1⟩=>?_) (by rw[hs,mn]) (by rw[mn];rfl)));obtain⟨b,l,e,⟨xs,hl⟩,q⟩:=q1;subst e;obtain⟨u1,rfl,r⟩:=vals1 r1;cases(show u1=Value.ref l from r);obtain⟨KA,r1,p1⟩:=e_ I1 hl;refine Kk (eU b) p1 λ g g1 g2 g7=>wpAny_pyIter_enum (s:={s1 with heap:=g}) g1 ?_;have I2:bd X xz σ H1 {s1 with heap:=g}:=I1.kept (t':=s1.toks) g7;have fr:∀c,s1.heap.objs.size<=c->jg X xz H1 c:=λ c hc=>I1.lB hc (I1.bt.fresh hc);have ne:s1.heap.objs.size+1≠s1.heap.objs.size:=by lia
 refine⟨_,[s1.heap.objs.size+1,s1.heap.objs.size],_,_,H1,rfl,I2,BD b ne l,⟨⟨_,g1⟩,g2⟩,λ c hc=>fr c ?_,q⟩;simp at hc;rcases hc with rfl|rfl <;> lia
end
end L2
namespace L3
open PySem.Spec L2 L5
def dY(ds:List D):List D:=(List.range ds.length).map λ(i:Nat)=>D.tup [.int (i:Int),ds.getD i D.bK]
theorem cu(ds:List D):(dY ds).length=ds.length:=by simp[dY]
def kindB:D->Bool
 | .tup _=>true
 |_=>false
theorem gM{x:V}(e:cA M d=some ds)(h:bi K H d x)(hm:bv K H M):∃p xs,x=.ref p/\Sq (kindB d) K H p xs/\aD K H ds xs:=by
 cases d with
 |tup es=>cases(show some es=some ds from e);obtain⟨p,xs,rfl,h1,h2⟩:=a_.mp h;exact⟨p,xs,rfl,h1,h2⟩
 |fl es=>cases(show some es=some ds from e);obtain⟨p,xs,rfl,h1,h2⟩:=mw.mp h;exact⟨p,xs,rfl,h1.sq,h2⟩
 |ref a=>cases(aF.mp h);obtain⟨xs,h1,h2⟩:=gs (show bY M a=some ds from e) hm;exact⟨a,xs,rfl,gB.of h1,h2⟩
 |_=>cases e
def fV(x:D)(M:Mem):Option (List D):=(cA M x).map dY
theorem Cz{x:D}(hx:bi K H1 x (.ref a)):qO K H1 (Vo K (kindB x) a) (.fn (fV x)):=λ H M fs t hm e=>by
 have e:(cA M x).map dY=some fs:=e;cases e1:cA M x with
 |none=>rw[e1]at e;cases e
 |some ds=>rw[e1]at e;cases e;obtain⟨p,xs,e3,q1,x1⟩:=gM e1 (bi.mono t x hx) hm;cases e3;have l1:=x1.length;rw[cu];refine⟨λ i hi=>⟨xs,xs[i]'(by lia),q1,by simp⟩,λ i hi=>⟨xs,q1,by lia⟩,λ i v H' hi y=>?_⟩;obtain⟨p,v,hp,rfl,rfl,hx⟩:=y;obtain⟨d,d1,d2⟩:=x1.yu (hx xs q1);refine⟨au.laid hp,hm.laid hp,.tup [.int i,d],?_,gI hp (ah.mpr ⟨.int i,[v],rfl,ax.mpr rfl,aD.one d2⟩)⟩;obtain⟨z1,w1⟩:=c9.mp d1;simp[dY,z1,w1]
def FX(ta:dF):sk:=λ δ M R=>ta δ M λ ds M1=>match ds with
 |[.tup xs]=>R (.fix (dY xs)) M1
 |[x]=>(∃zs,cA M1 x=some zs)/\R (.fn (fV x)) M1
 |_=>False
section
variable {k0:_}{a:Expr}{p pos:Pos}
theorem Jp(hg:Gl X "enumerate")(hm:X.mg "enumerate"=none)(ha:QA X [a] ta)(hs:starEach [a] X.env=[(false,eval a X.env)]:=by rfl)(mn:starEach [] X.env=[]:=by rfl):QI X (.Tuple es k0 oH) (.Call (.Name "enumerate" p) [a] [] pos) (FX ta):=zS (JO hg hm ha hs mn) λ σ H R ⟨δ,M,R2,hs,hm,q,k⟩=>by
 refine⟨δ,M,_,hs,hm,q,λ xs H1 ds M1 hd bR t1 q1=>?_⟩;have go:∀x,ds=[x]->(∃zs,cA M1 x=some zs)->(∀J,qO X.K H1 J (.fn (fV x))->R J H1)->∃(b:Bool) (l:ww),xs=[.ref l]/\(∃xs,Sq b X.K H1 l xs)/\R (Vo X.K b l) H1:=by rintro x rfl ⟨zs,hz⟩ hR;obtain⟨vx,r,rfl,hx,hr⟩:=ah.mp hd;cases(ar.mp hr);obtain⟨p,vs,rfl,q1,_⟩:=gM hz hx bR;exact⟨_,p,rfl,⟨vs,q1⟩,hR _ (Cz hx)⟩
 match ds,q1 with
 |[x],q1=>
  by_cases ht:∃xs,x=.tup xs
  ·obtain⟨xs,rfl⟩:=ht;exact go _ rfl ⟨_,rfl⟩ λ J hJ=>k J H1 (.fix (dY xs)) M1 (λ H M ds t hm e=>hJ H M ds t hm e) bR t1 q1
  ·have q2:(∃zs,cA M1 x=some zs)/\R2 (.fn (fV x)) M1:=by cases x <;> first|exact q1|exact absurd ⟨_,rfl⟩ ht
   exact go x rfl q2.1 λ J hJ=>k J H1 _ M1 hJ bR t1 q2.2
 |[],q1=>exact q1.elim
 |x::y::r,q1=>cases x <;> exact q1.elim
end
end L3
namespace L4
open PySem.Spec L2 L3 L5
section
variable {k0:_}{a:Expr}{p pos:Pos}
theorem fQ(hg:Gl X "enumerate")(hm:X.mg "enumerate"=none)(ha:WA X [a] ta)(hs:starEach [a] X.env=[(false,eval a X.env)]:=by rfl)(mn:starEach [] X.env=[]:=by rfl):WI X (.Tuple es k0 oH) (.Call (.Name "enumerate" p) [a] [] pos) (FX ta):=⟨Jp hg hm ha.h hs mn⟩
end
end L4
namespace L2
open PySem.Spec PyProof.Rows
theorem JY:gh X (binaryOp .Add) (λ x y H Q=>∃a b ys,x=.ref a/\y=.ref b/\iD X.K H a []/\iD X.K H b ys/\Q (.ref b) H):=by intro xz s σ H x y v u Q I rx ry h;obtain⟨a,b,ys,rfl,rfl,ha,hb,q⟩:=h;cases rx;cases ry;obtain⟨i1,r1,p1,_⟩:=I.tuple ha;obtain⟨i2,r2,p2,_⟩:=I.tuple hb;cases r1;obtain⟨⟨c1,d1,a1,l1⟩,o1,k1,n1,e1⟩:=id p1;obtain⟨⟨c2,d2,a2,l2⟩,o2,k2,n2,e2⟩:=id p2;cases(show c1=.type "tuple" from k1);cases(show a1=_ from e1);cases(show c2=.type "tuple" from k2);cases(show a2=_ from e2);exact concat_meets ⟨_,o1,rfl⟩ ⟨_,o2,rfl⟩ noFill_tuple_add seq_tuple_add PySem.F.slot_tuple_add PySem.F.entry_tuple_add (PySem.F.args_tuple_add_2 _ _) (tuple_addW0 a b #[] i2.toArray n1 n2 d1 d2 l1 l2 rfl) ⟨o1,o2,⟨.ref b,H,I,rfl,q⟩⟩
end L2
namespace L3
open PySem.Spec L2
def AU:hX:=λ x y M Q=>K9 x y M Q\/∃ys,x=.tup []/\y=.tup ys/\Q (.tup ys) M
theorem bP:gC X (binaryOp .Add) AU:=by
 obtain⟨r,h1,h2⟩:=(Sy:gC X (binaryOp .Add) K9);refine⟨_,h1.or JY,λ x y d e H M Q2 Q hd he hm q k=>?_⟩;rcases q with q|⟨ys,rfl,rfl,q⟩
 ·exact .inl (h2 x y d e H M Q2 Q hd he hm q k)
 ·obtain⟨p,vs,rfl,hp,hx⟩:=a_.mp hd;obtain⟨p2,ws,rfl,fM,hy⟩:=a_.mp he;cases(ar.mp hx);exact .inr ⟨p,p2,ws,rfl,rfl,hp,fM,k _ H _ M (a_.mpr ⟨p2,ws,rfl,fM,hy⟩) hm (au.refl H) q⟩
section
variable {Q:bW}
theorem vn{i j:Int}(q:Q (.int (i+j)) M):AU (.int i) (.int j) M Q:=.inl q
theorem EM{xs ys:List D}(ha:M a=some (.lst xs))(hb:M b=some (.lst ys))(h:xs.length+ys.length<=sizeLine)(q:∀p,M p=none->Q (.ref p) (ai M p (.lst (xs++ys)))):AU (.ref a) (.ref b) M Q:=.inl (Je ha hb h q)
theorem vm{xs ys:List D}(h:xs.length+ys.length<=sizeLine)(q:Q (.tup (xs++ys)) M):AU (.tup xs) (.tup ys) M Q:=by
 cases xs with
 |nil=>exact .inr ⟨ys,rfl,rfl,q⟩
 |cons x xs=>exact .inl ⟨by simp,h,q⟩
end
open L2
section
variable {δc:df}
theorem XN(h:n<=10000):n<=sizeLine:=D1 h (by decide)
theorem gY{β:Type}{xs:List α}{enc:α->D}(yz:β->D)(I:List β->Mem->Prop)(hn:xs.length<=10000)(h0:I [] M1) (hs:∀(i:Nat) (x:α) (ys:List β) (M:Mem) (N:D->Mem->Prop),xs[i]?=some x->ys.length=i->I ys M->(∀b M',I (ys++[b]) M'->N (yz b) M')->g (enc x) δc M λ δ2 M2=>te δ2 M2 N) (hd:∀ys M,ys.length=xs.length->I ys M->Qe (ys.map yz) M):∃(B:Nat) (W:Nat->List D->Mem->Prop),W 0 [] M1/\∀i zn M,W i zn M->i<=B/\zn.length<=sizeLine/\match ad (.fix (xs.map enc)) M with
   |none=>False
   |some ds=>match ds[i]? with
    |none=>i=ds.length/\Qe zn M
    |some d=>g d δc M λ δ2 M2=>xB δ2 M2 λ b M3=>if b=true then te δ2 M3 λ y M4=>W (i+1) (zn++[y]) M4 else W (i+1) zn M3:=by
 refine tW (λ i zn M=>∃ys:List β,zn=ys.map yz/\ys.length=i/\I ys M) ⟨[],rfl,rfl,h0⟩ (λ i zn M hi h=>?_) (λ i d zn M hd h=>?_) (λ zn M h=>?_)
 ·obtain⟨ys,rfl,h1,_⟩:=h;rw[A5]at hi ⊢;exact XN (by lia)
 ·obtain⟨ys,rfl,h1,h2⟩:=h;rw[r0]at hd;cases e:xs[i]? with
  |none=>rw[e]at hd;cases hd
  |some x=>rw[e]at hd;cases hd;refine hs i x ys M _ e h1 h2 λ b M' hb=>⟨ys++[b],by rw[A7];rfl,by simp[h1],hb⟩
 ·obtain⟨ys,rfl,h1,h2⟩:=h;rw[A5]at h1;exact hd ys M h1 h2
theorem pZ{β:Type}{xs:List α}(enc:α->D)(yz:β->D)(I:List β->Mem->Prop)(hn:xs.length<=10000)(h0:I [] M1)(hl:∀ys M,I ys M->M a=some (.lst (xs.map enc))) (hs:∀(i:Nat) (x:α) (ys:List β) (M:Mem) (N:D->Mem->Prop),xs[i]?=some x->ys.length=i->I ys M->(∀b M',I (ys++[b]) M'->N (yz b) M')->g (enc x) δc M λ δ2 M2=>te δ2 M2 N) (hd:∀ys M,ys.length=xs.length->I ys M->Qe (ys.map yz) M):∃(B:Nat) (W:Nat->List D->Mem->Prop),W 0 [] M1/\∀i zn M,W i zn M->i<=B/\zn.length<=sizeLine/\match ad (.at a) M with
   |none=>False
   |some ds=>match ds[i]? with
    |none=>i=ds.length/\Qe zn M
    |some d=>g d δc M λ δ2 M2=>xB δ2 M2 λ b M3=>if b=true then te δ2 M3 λ y M4=>W (i+1) (zn++[y]) M4 else W (i+1) zn M3:=by
 refine TK (ds:=xs.map enc) (λ i zn M=>∃ys:List β,zn=ys.map yz/\ys.length=i/\I ys M) ⟨[],rfl,rfl,h0⟩ (λ i zn M hi h=>?_) (λ i zn M hi h=>?_) (λ i d zn M hd h=>?_) (λ zn M h=>?_)
 ·obtain⟨ys,rfl,h1,h2⟩:=h;exact hl ys M h2
 ·obtain⟨ys,rfl,h1,_⟩:=h;rw[A5]at hi ⊢;exact XN (by lia)
 ·obtain⟨ys,rfl,h1,h2⟩:=h;rw[r0]at hd;cases e:xs[i]? with
  |none=>rw[e]at hd;cases hd
  |some x=>rw[e]at hd;cases hd;refine hs i x ys M _ e h1 h2 λ b M' hb=>⟨ys++[b],by rw[A7];rfl,by simp[h1],hb⟩
 ·obtain⟨ys,rfl,h1,h2⟩:=h;rw[A5]at h1;exact hd ys M h1 h2
theorem take_one{l:List α}{a:α}(h:l[i]?=some a):l.take (i+1)=l.take i++[a]:=by rw[take_add_one,h];rfl
theorem gX{xs:List α}{enc:α->D}(out:α->D)(hn:xs.length<=10000) (hs:∀(i:Nat) (x:α) (N:D->Mem->Prop),xs[i]?=some x->N (out x) M1->g (enc x) δc M1 λ δ2 M2=>te δ2 M2 N) (hd:Qe (xs.map out) M1):∃(B:Nat) (W:Nat->List D->Mem->Prop),W 0 [] M1/\∀i zn M,W i zn M->i<=B/\zn.length<=sizeLine/\match ad (.fix (xs.map enc)) M with
   |none=>False
   |some ds=>match ds[i]? with
    |none=>i=ds.length/\Qe zn M
    |some d=>g d δc M λ δ2 M2=>xB δ2 M2 λ b M3=>if b=true then te δ2 M3 λ y M4=>W (i+1) (zn++[y]) M4 else W (i+1) zn M3:=by
 refine gY (β:=α) out (λ ys M=>M=M1/\ys=xs.take ys.length) hn ⟨rfl,rfl⟩ (λ i x ys M N hx hy h k=>?_) (λ ys M hy h=>?_)
 ·obtain⟨rfl,h⟩:=h;refine hs i x N hx (k x M ⟨rfl,?_⟩);rw[o7,j8,take_one (a:=x) (by rw[hy];exact hx),<- h]
 ·obtain⟨rfl,h⟩:=h;rw[hy,x4]at h;rw[h];exact hd
theorem jC{xs:List α}(enc out:α->D)(hn:xs.length<=10000)(hl:M1 a=some (.lst (xs.map enc))) (hs:∀(i:Nat) (x:α) (N:D->Mem->Prop),xs[i]?=some x->N (out x) M1->g (enc x) δc M1 λ δ2 M2=>te δ2 M2 N) (hd:Qe (xs.map out) M1):∃(B:Nat) (W:Nat->List D->Mem->Prop),W 0 [] M1/\∀i zn M,W i zn M->i<=B/\zn.length<=sizeLine/\match ad (.at a) M with
   |none=>False
   |some ds=>match ds[i]? with
    |none=>i=ds.length/\Qe zn M
    |some d=>g d δc M λ δ2 M2=>xB δ2 M2 λ b M3=>if b=true then te δ2 M3 λ y M4=>W (i+1) (zn++[y]) M4 else W (i+1) zn M3:=by
 refine pZ (β:=α) enc out (λ ys M=>M=M1/\ys=xs.take ys.length) hn ⟨rfl,rfl⟩ (λ ys M h=>by rw[h.1];exact hl) (λ i x ys M N hx hy h k=>?_) (λ ys M hy h=>?_)
 ·obtain⟨rfl,h⟩:=h;refine hs i x N hx (k x M ⟨rfl,?_⟩);rw[o7,j8,take_one (a:=x) (by rw[hy];exact hx),<- h]
 ·obtain⟨rfl,h⟩:=h;rw[hy,x4]at h;rw[h];exact hd
end
abbrev QR(i:Nat):D:=.int ((0:Int)+(i:Nat))
theorem cL(n:Nat):ck 0 n=(List.range n).map QR:=rfl
def Qu(R:Src->Mem->Prop)(d:D)(M1:Mem):Prop:=match d with
 | .str z=>R (.fix (lO z)) M1
 | .tup ds=>R (.fix ds) M1
 | .fl ds=>R (.fix ds) M1
 | .ref a=>(match M1 a with
  |some (.lst _)=>R (.at a) M1
  |_=>False)
 |_=>False
theorem Jb{ta:cw}(h:ta δ M (Qu R)):Ph ta δ M R:=h
theorem Jc(h:R (.fix ds) M):Qu R (.tup ds) M:=h
theorem sX(hM:M a=some (.lst ds))(h:R (.at a) M):Qu R (.ref a) M:=by show(match M a with|some (.lst _)=>R (.at a) M|_=>False);rw[hM];exact h
end L3
namespace KK
open L3 L4 L5
open L2 hiding aR ir
def Mf(c:ww)(p b sd ct:Int):List D:=[.ref c,.int p,.int b,.int sd,.int ct]
structure Flow(M:Mem)(f c:ww):Prop where
 ex:∃(ns:List Int) (p b sd ct:Int),M f=some (.lst (Mf c p b sd ct))/\M c=some (.lst (ns.map D.int))/\c≠f/\0<=p/\0<=b/\0<=sd/\sd < 2147483647
def iJ:fk:=λ ds M Q=>∃(f c:ww) (n:Int),ds=[.ref f,.int n]/\Flow M f c/\0 < n/\n < 1073741824/\∀(d:Int) (o:MO),0<=d->d < n->Flow (ai M f o) f c->Q (.int d) (ai M f o)
structure Fl(f c:ww)(M M':Mem):Prop where
 bh:Flow M' f c
 mv:∀b o,b≠f->M b=some o->M' b=some o
theorem Fl.trans{c:ww}{M2:Mem}(a:Fl f c M M1)(b:Fl f c M1 M2):Fl f c M M2:=⟨b.bh,λ c o h e=>b.mv c o h (a.mv c o h e)⟩
theorem Fl.pick{c:ww}{o:MO}(h:Flow (ai M f o) f c):Fl f c M (ai M f o):=⟨h,λ b o' hb e=>by rw[av hb];exact e⟩
theorem Flow.there{c:ww}(h:Flow M f c):∃o,M f=some o:=by obtain⟨ns,p,b,sd,ct,h,_⟩:=h;exact⟨_,h⟩
theorem Flow.ME{c:ww}(h:Flow M f c):∃o,M c=some o:=by obtain⟨ns,p,b,sd,ct,_,h,_⟩:=h;exact⟨_,h⟩
theorem Flow.put{c q:ww}{o:MO}(h:Flow M f c)(n:M q=none):Flow (ai M q o) f c:=by obtain⟨ns,p,b,sd,ct,h1,h2,h3⟩:=h;exact⟨ns,p,b,sd,ct,by rw[av (λ z=>by rw[z,n]at h1;cases h1)];exact h1,by rw[av (λ z=>by rw[z,n]at h2;cases h2)];exact h2,h3⟩
theorem Fl.put{c q:ww}{o:MO}(h:Flow M f c)(n:M q=none):Fl f c M (ai M q o):=⟨h.put n,λ b o' hb e=>by rw[av (λ z=>by rw[z,n]at e;cases e)];exact e⟩
theorem Flow.ne{c q:ww}(h:Flow M f c)(n:M q=none):q≠f/\q≠c:=by
 constructor
 ·intro z;subst z;obtain⟨o,e⟩:=h.there;rw[n]at e;cases e
 ·intro z;subst z;obtain⟨o,e⟩:=h.ME;rw[n]at e;cases e
theorem Fl.own{c q:ww}{o:MO}(h:Fl f c M M')(h0:Flow M f c)(n:M q=none):Fl f c M (ai M' q o):=by obtain⟨n1,n2⟩:=h0.ne n;obtain⟨ns,p,b,sd,ct,h1,h2,h3⟩:=h.bh;refine⟨⟨ns,p,b,sd,ct,by rw[av (J0 n1)];exact h1,by rw[av (J0 n2)];exact h2,h3⟩,λ b o' hb e=>?_⟩;rw[av (λ z=>by rw[z,n]at e;cases e)];exact h.mv b o' hb e
theorem small(h:n<=10000):n<=sizeLine:=D1 h (by decide)
theorem fE(h:(ck lo n)[i]?=some d):i < n/\d=.int (lo+(i:Nat)):=by
 have hi:i < n:=by have:=(c9.mp h).1;rwa [cF]at this
 rw[pb hi]at h;exact⟨hi,(A1 h).symm⟩
def plus(as bs:List Int):List Int:=List.zipWith (·+·) as bs
theorem Mq{as bs:List Int}(h:(mW (as.map D.int) (bs.map D.int))[i]?=some d):∃a b,as[i]?=some a/\bs[i]?=some b/\d=.tup [.int a,.int b]:=by
 unfold mW at h;rw[r0]at h;cases e:((as.map D.int).zip (bs.map D.int))[i]? with
 |none=>rw[e]at h;cases h
 |some p=>
  rw[e]at h;obtain⟨e1,e2⟩:=getElem?_zip_eq_some.mp e;rw[r0]at e1 e2;cases e3:as[i]? with
  |none=>rw[e3]at e1;cases e1
  |some a=>
   cases e4:bs[i]? with
   |none=>rw[e4]at e2;cases e2
   |some b=>rw[e3]at e1;rw[e4]at e2;have e1:D.int a=p.1:=A1 e1;have e2:D.int b=p.2:=A1 e2;refine⟨a,b,rfl,rfl,?_⟩;rw[e1,e2];exact(A1 h).symm
theorem zP{as bs:List Int}{x y:Int}(h:as[i]?=some x)(q:bs[i]?=some y):(plus as bs)[i]?=some (x+y):=by unfold plus;rw[getElem?_zipWith,h,q]
theorem take_snoc{l:List α}{a:α}(h:l[i]?=some a):l.take (i+1)=l.take i++[a]:=by rw[take_add_one,h];rfl
theorem HL(as bs:List Int):(mW (as.map D.int) (bs.map D.int)).length=(plus as bs).length:=by rw[uG];simp[plus]
theorem Hj(h:i < ns.length):ip (ns.map D.int) (i:Int)=some (.int (ns.getD i 0)):=by refine bH ?_;simp[c6,h]
theorem cq{Q:bW}(h:M p=some (.lst ds))(q:Q (.tup ds) M):yD [.ref p] M Q:=by show(match bY M p with|some ds=>Q (.tup ds) M|none=>False);unfold bY;rw[h];exact q
theorem V'(h:∀b o,M b=some o->M' b=some o){q:ww}(n:M' q=none)(x:MO):∀b o,M b=some o->ai M' q x b=some o:=λ b o e=>by rw[av (λ z=>by rw[<- z,h b o e]at n;cases n)];exact h b o e
theorem Hi{d:Int}(h0:0<=d)(h1:d < ns.length):∃x,x∈ns/\ip (ns.map D.int) d=some (.int x):=by
 have hl:d.toNat < ns.length:=by lia
 have e:((d.toNat:Nat):Int)=d:=by lia
 have q:ip (ns.map D.int) ((d.toNat:Nat):Int)=some (.int ns[d.toNat]):=bH (by simp[hl]);rw[e]at q;exact⟨_,x9 hl,q⟩
def zA:fk:=λ ds M Q=>∃(f c:ww) (n:Nat),ds=[.ref f,.int n]/\Flow M f c/\n<=1000/\∀(ms:List Int) (M':Mem),ms.length=n->(∀x∈ms,0<=x/\x<=10^30)->Fl f c M M'->Q (row ms) M'
theorem sT{Q:bW}(h:HX M d≠some "NoneType")(q:Q (.bl false) M):yF false d .bK M Q:=by
 cases d with
 |bK=>exact absurd rfl h
 |_=>exact q
theorem jz(h:(dY ds)[i]?=some d):i < ds.length/\d=.tup [.int (i:Int),ds.getD i D.bK]:=by
 have hi:i < ds.length:=by have:=(c9.mp h).1;rwa [cu]at this
 refine⟨hi,?_⟩;unfold dY at h;rw[r0,l6 hi]at h;exact(A1 h).symm
def be(M M':Mem):Prop:=∀b o,M b=some o->M' b=some o
theorem be.own(h:be M M'){q:ww}{x:MO}(n:M q=none):be M (ai M' q x):=λ b o e=>by rw[av (λ z=>by rw[z,n]at e;cases e)];exact h b o e
end KK
namespace HT
open PySem.Spec PyProof.Rows
theorem jF{t sl:ww}{ad:Array jp}{vl vu:jp}{lo hi:Option Int}(ht:IsTup s.heap t ad)(hs:s.heap.IsSliceOf sl vl vu .none)(pl:IsPart vl lo)(pu:IsPart vu hi) (hw:cT ad.size 0 lo=0/\cT ad.size ad.size hi=ad.size) (h:Q (.ref t) s):wpAny (model prog w) A (getItem (.ref t) (.ref sl)) Q E s:=by
 obtain⟨os,PB,Ay,GD⟩:=id hs;have W9:s.TypeIs (.ref sl) "slice":=⟨os,PB,Ay⟩;unfold getItem
 try with_reducible refine B7 ?_
 first|refine G4 (G5 ?_)|skip
 refine G4 (wpAny_sequenceKey ht.typeIs (by decide) ?_);refine G4 (i6 (name:=Str.ofString "__getitem__") ht.typeIs a8
  (x5 a8 ht.typeIs entry_tuple_getitem ?_ (args_tuple_getitem _ _)))
 show wpAny _ _ (Builtin.Tuple.tupleItemsOf (.ref t) >>= _) _ _ s;refine G4 (tupleItemsOf_ ht ?_);refine G4 (D5 W9 ?_);rw[J3 (by decide)];refine G4 (gn hs pl pu ?_);have Wk:(((cT ad.size 0 lo:Nat):Int)==0&&(1:Int)==1&&(cT ad.size ad.size hi - cT ad.size 0 lo)==ad.size)=true:=by rw[hw.1,hw.2];simp
 show wpAny _ _ (if(((cT ad.size 0 lo:Nat):Int)==0&&(1:Int)==1&&(cT ad.size ad.size hi - cT ad.size 0 lo)==ad.size)=true then _ else _) _ _ s;rw[J3 Wk];unfold Builtin.Tuple.tupleIsExact;refine G4 (G4 (D5 ht.typeIs (G5 ?_)));rw[J3 (by decide)];exact G4 (G6 (G5 ⟨_,rfl,G5 h⟩))
end HT
namespace L2
open PySem.Spec PyProof.Rows
theorem Im:Bg X (λ x lo hi H Q=>∃a xs,x=.ref a/\iD X.K H a xs/\(HT.cT xs.length 0 lo=0/\HT.cT xs.length xs.length hi=xs.length)/\Q (.ref a) H):=by
 intro xz s σ H x v vl vu lo hi sl Q I rx hs pl pu h;obtain⟨a,xs,rfl,hx,hw,q⟩:=h;cases rx;obtain⟨aB,r,ht,hz⟩:=I.tuple hx;have hlen:aB.toArray.size=xs.length:=by rw[u9];exact r.length.symm
 exact⟨"tuple",_,a8.lookup,ht.typeIs,HT.jF ht hs pl pu (by rw[hlen];exact hw) ⟨.ref a,H,I,rfl,q⟩⟩
end L2
namespace L3
open PySem.Spec L2
def yE:D->Option Int->Option Int->Mem->bW->Prop:=λ x lo hi M Q=>match x with
 | .str z=>z.length<=sizeLine/\Q (.str (yH z lo hi)) M
 | .tup ds=>Q (.tup (cutD ds lo hi)) M
 | .ref a=>match bY M a with
  |some ds=>∀p,M p=none->Q (.ref p) (ai M p (.lst (cutD ds lo hi)))
  |none=>False
 |_=>False
theorem Ed:TZ X yE:=by
 obtain⟨r,h1,h2⟩:=(ir:TZ X YS);refine⟨_,h1.or Im,λ x d lo hi H M Q2 Q hd hm q k=>?_⟩;cases d with
 |tup ds=>
  by_cases hw:HT.cT ds.length 0 lo=0/\HT.cT ds.length ds.length hi=ds.length
  ·have q:Q2 (.tup (cutD ds lo hi)) M:=q;have e:cutD ds lo hi=ds:=by unfold cutD;rw[hw.1,hw.2];simp
   rw[e]at q;obtain⟨p,xs,rfl,h,hx⟩:=a_.mp hd;exact .inr ⟨p,xs,rfl,h,by rw[hx.length];exact hw,k _ H _ M (a_.mpr ⟨p,xs,rfl,h,hx⟩) hm (au.refl H) q⟩
  ·exact .inl (h2 x (.tup ds) lo hi H M Q2 Q hd hm ⟨hw,q⟩ k)
 |str z=>exact .inl (h2 x (.str z) lo hi H M Q2 Q hd hm q k)
 |ref a=>exact .inl (h2 x (.ref a) lo hi H M Q2 Q hd hm q k)
 |_=>exact q.elim
section
variable {Q:bW}
theorem AV{i:Int}(h0:0<=i):cutD ds none (some i)=ds.take i.toNat:=by
 unfold cutD;have e:HT.cT ds.length ds.length (some i)=min i.toNat ds.length:=by show(if i < 0 then(i+(ds.length:Int)).toNat else min i.toNat ds.length)=_;rw[J4 (by lia)]
 rw[e];show(ds.drop 0).take (min i.toNat ds.length - 0)=_;rw[drop_zero,Nat.sub_zero,take_eq_take_iff];lia
theorem CU{i:Int}(h0:0<=i):cutD ds (some i) none=ds.drop i.toNat:=by
 unfold cutD;have e:HT.cT ds.length 0 (some i)=min i.toNat ds.length:=by show(if i < 0 then(i+(ds.length:Int)).toNat else min i.toNat ds.length)=_;rw[J4 (by lia)]
 rw[e];show(ds.drop (min i.toNat ds.length)).take (ds.length - min i.toNat ds.length)=_;rw[i8 (by rw[length_drop];lia)];by_cases h:i.toNat<=ds.length
 ·rw[Nat.min_eq_left h]
 ·rw[Nat.min_eq_right (by lia),drop_length,drop_of_length_le (by lia)]
theorem Eu{i:Int}(h0:0<=i)(q:Q (.tup (ds.take i.toNat)) M):yE (.tup ds) none (some i) M Q:=by show Q (.tup (cutD ds none (some i))) M;rw[AV h0];exact q
theorem xJ{i:Int}(h0:0<=i)(q:Q (.tup (ds.drop i.toNat)) M):yE (.tup ds) (some i) none M Q:=by show Q (.tup (cutD ds (some i) none)) M;rw[CU h0];exact q
theorem zG{lo hi:Option Int}(h:M a=some (.lst ds))(q:∀p,M p=none->Q (.ref p) (ai M p (.lst (cutD ds lo hi)))):yE (.ref a) lo hi M Q:=by show(match bY M a with|some ds=>∀p,M p=none->Q (.ref p) (ai M p (.lst (cutD ds lo hi)))|none=>False);unfold bY;rw[h];exact q
theorem BU{i:Int}(h:M a=some (.lst ds))(h0:0<=i)(q:∀p,M p=none->Q (.ref p) (ai M p (.lst (ds.take i.toNat)))):yE (.ref a) none (some i) M Q:=by refine zG h ?_;rw[AV h0];exact q
end
open PySem.Spec L2 L5
section
variable {tb:lJ}{δc:df}{E:jL}
theorem Qb{src:Src}(Pv:Nat->df->Mem->Prop)(h0:Pv 0 δ M1)(hl:∀i δ M,i<=ds.length->Pv i δ M->ad src M=some ds) (hs:∀i d δ M,ds[i]?=some d->Pv i δ M->g d δ M λ δ2 M2=>tb {E with nx:=Pv (i+1),ct:=Pv (i+1),bk:=E.nx} δ2 M2) (hd:∀δ M,Pv ds.length δ M->E.nx δ M):∃(B:Nat) (W:Nat->df->Mem->Prop),W 0 δ M1/\∀i δ M,W i δ M->i<=B/\match ad src M with
   |none=>False
   |some ds=>match ds[i]? with
    |none=>i=ds.length/\E.nx δ M
    |some d=>g d δ M λ δ2 M2=>tb {E with nx:=W (i+1),ct:=W (i+1),bk:=E.nx} δ2 M2:=by
 refine⟨ds.length,λ i δ M=>if i<=ds.length then Pv i δ M else False,by dsimp only;rw[J3 (G1 _)];exact h0,?_⟩;intro i δ M w;by_cases hi:i<=ds.length
 ·rw[J3 hi]at w;refine⟨hi,?_⟩;rw[hl i δ M hi w];show(match ds[i]? with
    |none=>i=ds.length/\E.nx δ M
    |some d=>g d δ M λ δ2 M2=>tb {E with nx:=(λ δ M=>if i+1<=ds.length then Pv (i+1) δ M else False),ct:=(λ δ M=>if i+1<=ds.length then Pv (i+1) δ M else False),bk:=E.nx} δ2 M2)
  cases e:ds[i]? with
  |none=>have:i=ds.length:=A8 hi (g0.mp e);subst this;exact⟨rfl,hd δ M w⟩
  |some d=>have iC:i+1<=ds.length:=(c9.mp e).1;simp only[J3 iC];exact hs i d δ M e w
 ·rw[J4 hi]at w;exact w.elim
theorem yI{src:Src}(Pv:Nat->List D->Mem->Prop)(h0:Pv 0 [] M1)(hl:∀i zn M,i<=ds.length->Pv i zn M->ad src M=some ds)(hz:∀i zn M,i<=ds.length->Pv i zn M->zn.length<=sizeLine) (hs:∀i d zn M,ds[i]?=some d->Pv i zn M->g d δc M λ δ2 M2=>tt δ2 M2 λ b M3=>if b=true then te δ2 M3 λ y M4=>Pv (i+1) (zn++[y]) M4 else Pv (i+1) zn M3) (hd:∀zn M,Pv ds.length zn M->Qe zn M):∃(B:Nat) (W:Nat->List D->Mem->Prop),W 0 [] M1/\∀i zn M,W i zn M->i<=B/\zn.length<=sizeLine/\match ad src M with
   |none=>False
   |some ds=>match ds[i]? with
    |none=>i=ds.length/\Qe zn M
    |some d=>g d δc M λ δ2 M2=>tt δ2 M2 λ b M3=>if b=true then te δ2 M3 λ y M4=>W (i+1) (zn++[y]) M4 else W (i+1) zn M3:=by
 refine⟨ds.length,λ i zn M=>if i<=ds.length then Pv i zn M else False,by dsimp only;rw[J3 (G1 _)];exact h0,?_⟩;intro i zn M w;by_cases hi:i<=ds.length
 ·rw[J3 hi]at w;refine⟨hi,hz i zn M hi w,?_⟩;rw[hl i zn M hi w];show(match ds[i]? with
    |none=>i=ds.length/\Qe zn M
    |some d=>g d δc M λ δ2 M2=>tt δ2 M2 λ b M3=>if b=true then te δ2 M3 λ y M4=>(if i+1<=ds.length then Pv (i+1) (zn++[y]) M4 else False)else(if i+1<=ds.length then Pv (i+1) zn M3 else False))
  cases e:ds[i]? with
  |none=>have:i=ds.length:=A8 hi (g0.mp e);subst this;exact⟨rfl,hd zn M w⟩
  |some d=>have iC:i+1<=ds.length:=(c9.mp e).1;simp only[J3 iC];exact hs i d zn M e w
 ·rw[J4 hi]at w;exact w.elim
end
def mV(x y:D)(M:Mem):Option (List D):=match cA M x,cA M y with
 |some xs,some ys=>some (mW xs ys)
 |_,_=>none
def FV(ta:dF):sk:=λ δ M R=>ta δ M λ ds M1=>match ds with
 |[.tup xs,.tup ys]=>R (.fix (mW xs ys)) M1
 |[x,y]=>(∃zs,mV x y M1=some zs)/\R (.fn (mV x y)) M1
 |_=>False
theorem qR{x y:D}{zs:List D}(h:mV x y M=some zs):∃xs ys,cA M x=some xs/\cA M y=some ys/\zs=mW xs ys:=by
 unfold mV at h;cases e1:cA M x with
 |none=>rw[e1]at h;cases h
 |some xs=>
  cases e2:cA M y with
  |none=>rw[e1,e2]at h;cases h
  |some ys=>rw[e1,e2]at h;cases h;exact⟨xs,ys,rfl,rfl,rfl⟩
theorem Cy{x y:D}(hx:bi K H1 x (.ref a))(hy:bi K H1 y (.ref b)):qO K H1 (Vl K (kindB x) (kindB y) a b) (.fn (mV x y)):=λ H M zs t hm e=>by obtain⟨ds,es,e1,e2,rfl⟩:=qR (show mV x y M=some zs from e);obtain⟨p,xs,e3,q1,x1⟩:=gM e1 (bi.mono t x hx) hm;cases e3;obtain⟨p,ys,e3,q2,x2⟩:=gM e2 (bi.mono t y hy) hm;cases e3;have l1:=x1.length;have l2:=x2.length;rw[uG];refine⟨λ i hi=>⟨xs,ys,xs[i]'(by lia),ys[i]'(by lia),q1,q2,by simp,by simp⟩,λ i hi=>⟨xs,ys,q1,q2,by lia⟩,λ i v H' hi z=>?_⟩;obtain⟨p,vx,vy,hp,rfl,rfl,wa,ym⟩:=z;obtain⟨d,d1,d2⟩:=x1.yu (wa xs q1);obtain⟨e,e1,e2⟩:=x2.yu (ym ys q2);refine⟨au.laid hp,hm.laid hp,.tup [d,e],?_,gI hp (ah.mpr ⟨vx,[vy],rfl,d2,aD.one e2⟩)⟩;obtain⟨z1,w1⟩:=c9.mp d1;obtain⟨z2,w2⟩:=c9.mp e1;simp[mW,hi,w1,w2,z1,z2]
section
variable {k0:_}{a b:Expr}{p pos:Pos}
theorem Jo(hg:Gl X "zip")(hm:X.mg "zip"=none)(ha:QA X [a,b] ta)(hs:starEach [a,b] X.env=[(false,eval a X.env),(false,eval b X.env)]:=by rfl)(mn:starEach [b] X.env=[(false,eval b X.env)]:=by rfl):QI X (.Tuple es k0 oH) (.Call (.Name "zip" p) [a,b] [] pos) (FV ta):=zS (Oe hg hm ha hs mn) λ σ H R ⟨δ,M,R2,hs,hm,q,k⟩=>by
 refine⟨δ,M,_,hs,hm,q,λ xs H1 ds M1 hd bR t1 q1=>?_⟩;have go:∀x y,ds=[x,y]->(∃zs,mV x y M1=some zs)->(∀J,qO X.K H1 J (.fn (mV x y))->R J H1)->∃(b1 b2:Bool) (l m:ww),xs=[.ref l,.ref m]/\(∃xs,Sq b1 X.K H1 l xs)/\(∃ys,Sq b2 X.K H1 m ys)/\R (Vl X.K b1 b2 l m) H1:=by rintro x y rfl ⟨zs,hz⟩ hR;obtain⟨vx,r,rfl,hx,hr⟩:=ah.mp hd;obtain⟨vy,r,rfl,hy,hr⟩:=ah.mp hr;cases(ar.mp hr);obtain⟨xs,ys,e1,e2,_⟩:=qR hz;obtain⟨p,vs,rfl,q1,_⟩:=gM e1 hx bR;obtain⟨p2,ws,rfl,q2,_⟩:=gM e2 hy bR;exact⟨_,_,p,p2,rfl,⟨vs,q1⟩,⟨ws,q2⟩,hR _ (Cy hx hy)⟩
 match ds,q1 with
 |[x,y],q1=>
  by_cases ht:∃xs ys,x=.tup xs/\y=.tup ys
  ·obtain⟨xs,ys,rfl,rfl⟩:=ht;refine go _ _ rfl ⟨_,rfl⟩ λ J hJ=>k J H1 (.fix (mW xs ys)) M1 (λ H M ds t hm e=>hJ H M ds t hm e) bR t1 q1
  ·have q2:(∃zs,mV x y M1=some zs)/\R2 (.fn (mV x y)) M1:=by cases x <;> first|exact q1|(cases y <;> first|exact q1|exact absurd ⟨_,_,rfl,rfl⟩ ht)
   exact go x y rfl q2.1 λ J hJ=>k J H1 _ M1 hJ bR t1 q2.2
 |[],q1=>exact q1.elim
 |[x],q1=>cases x <;> exact q1.elim
 |x::y::z::r,q1=>cases x <;> first|exact q1.elim|(cases y <;> exact q1.elim)
end
end L3
namespace L4
open PySem.Spec L2 L3 L5
section
variable {k0:_}{a b:Expr}{p pos:Pos}
theorem HV(hg:Gl X "zip")(hm:X.mg "zip"=none)(ha:WA X [a,b] ta)(hs:starEach [a,b] X.env=[(false,eval a X.env),(false,eval b X.env)]:=by rfl)(mn:starEach [b] X.env=[(false,eval b X.env)]:=by rfl):WI X (.Tuple es k0 oH) (.Call (.Name "zip" p) [a,b] [] pos) (FV ta):=⟨Jo hg hm ha.h hs mn⟩
end
end L4
namespace L3
open PySem.Spec L2 L5 PyProof.Rows
def Pl:Nat->D->Prop
 |0,d=>d=.bK\/(∃i,d=.int i)\/∃x,d=.str x/\PyData.strOk x=true
 |k+1,d=>d=.bK\/(∃i,d=.int i)\/(∃x,d=.str x/\PyData.strOk x=true)\/∃ds,d=.tup ds/\∀e∈ds,Pl k e
theorem dB(k:Nat)(i:Int):Pl k (.int i):=by
 cases k with
 |zero=>exact .inr (.inl ⟨i,rfl⟩)
 |succ k=>exact .inr (.inl ⟨i,rfl⟩)
theorem Fd(h:∀e∈ds,Pl k e):Pl (k+1) (.tup ds):=.inr (.inr (.inr ⟨ds,rfl,h⟩))
theorem ff{xs:List α}{enc:α->D}(h:∀x∈xs,Pl k (enc x)):∀e∈xs.map enc,Pl k e:=λ e he=>by obtain⟨x,hx,rfl⟩:=C8.mp he;exact h x hx
structure YW(k:Nat)(d:D):Prop where
 nr:nr d=true
 lay:(toP d).canLay0=true
 dep:(toP d).depth<=k
structure Xz(k:Nat)(ds:List D):Prop where
 nr:x_ ds=true
 lay:PyData.canLayAll0 (toPs ds)=true
 dep:PyData.depthAll (toPs ds)<=k
theorem kQ:∀{ds:List D},(∀e∈ds,YW k e)->Xz k ds
 |[],_=>⟨by unfold x_;rfl,by unfold toPs;simp[PyData.canLayAll0],by unfold toPs;simp[PyData.depthAll]⟩
 |d::ds,h=>by
  have h1:=h d (n9 ..);have h2:=kQ (ds:=ds) λ e he=>h e (k5 _ he);refine⟨?_,?_,?_⟩
  ·unfold x_;rw[h1.nr,h2.nr];rfl
  ·unfold toPs;simp only[PyData.canLayAll0];rw[h1.lay,h2.lay];rfl
  ·unfold toPs;simp only[PyData.depthAll];exact Nat.max_le.mpr ⟨h1.dep,h2.dep⟩
theorem Pl.f9:∀{k:Nat} {d:D},Pl k d->YW k d
 |0,d,h=>by
  rcases h with rfl|⟨i,rfl⟩|⟨x,rfl,hx⟩
  ·exact⟨by unfold L3.nr;rfl,by unfold toP;simp[PyData.canLay0],by unfold toP;simp[PyData.depth]⟩
  ·exact⟨by unfold L3.nr;rfl,by unfold toP;simp[PyData.canLay0],by unfold toP;simp[PyData.depth]⟩
  ·exact⟨by unfold L3.nr;rfl,by unfold toP;simp[PyData.canLay0,hx],by unfold toP;simp[PyData.depth]⟩
 |k+1,d,h=>by
  rcases h with rfl|⟨i,rfl⟩|⟨x,rfl,hx⟩|⟨ds,rfl,h⟩
  ·exact⟨by unfold L3.nr;rfl,by unfold toP;simp[PyData.canLay0],by unfold toP;simp[PyData.depth]⟩
  ·exact⟨by unfold L3.nr;rfl,by unfold toP;simp[PyData.canLay0],by unfold toP;simp[PyData.depth]⟩
  ·exact⟨by unfold L3.nr;rfl,by unfold toP;simp[PyData.canLay0,hx],by unfold toP;simp[PyData.depth]⟩
  ·have q:=kQ λ e he=>Pl.f9 (h e he);refine⟨?_,?_,?_⟩
   ·unfold L3.nr;exact q.nr
   ·unfold toP;simp only[PyData.canLay0];exact q.lay
   ·unfold toP;simp only[PyData.depth];have:=q.dep;lia
theorem pR(ih:∀x y:D,Pl k x->Pl k y->(PyData.eqv (toP x) (toP y)=true↔x=y)):∀{ds es:List D},(∀e∈ds,Pl k e)->(∀e∈es,Pl k e)->(PyData.eqvAll (toPs ds) (toPs es)=true↔ds=es)
 |[],[],_,_=>by unfold toPs;simp[PyData.eqvAll]
 |[],e::es,_,_=>by unfold toPs;simp[PyData.eqvAll]
 |d::ds,[],_,_=>by unfold toPs;simp[PyData.eqvAll]
 |d::ds,e::es,h1,h2=>by have a:=ih d e (h1 d (n9 ..)) (h2 e (n9 ..));have b:=pR ih (ds:=ds) (es:=es) (λ x hx=>h1 x (k5 _ hx)) (λ x hx=>h2 x (k5 _ hx));unfold toPs;simp only[PyData.eqvAll,x6,a,b,List.cons.injEq]
theorem jy:∀{k:Nat} (x y:D),Pl k x->Pl k y->(PyData.eqv (toP x) (toP y)=true↔x=y)
 |0,x,y,hx,hy=>by rcases hx with rfl|⟨i,rfl⟩|⟨z,rfl,_⟩ <;> rcases hy with rfl|⟨j,rfl⟩|⟨w,rfl,_⟩ <;> simp[toP,PyData.eqv]
 |k+1,x,y,hx,hy=>by
  rcases hx with rfl|⟨i,rfl⟩|⟨z,rfl,_⟩|⟨ds,rfl,hd⟩ <;> rcases hy with rfl|⟨j,rfl⟩|⟨w,rfl,_⟩|⟨es,rfl,he⟩ <;> first
   |(simp[toP,PyData.eqv];done)
   |(have:=pR (λ x y=>jy (k:=k) x y) hd he
     unfold toP;simp only[PyData.eqv,D.tup.injEq];exact this)
theorem pS{x y:D}(hx:Pl k x)(hy:Pl k y){b:Bool}(hb:b=true↔x=y):PyData.eqv (toP x) (toP y)=b:=by rw[y6];exact(jy x y hx hy).trans hb.symm
theorem jj(h:Pl k d)(hk:k<=60):SeqAt.shaped (toP d)=true:=by have f:=h.f9;unfold SeqAt.shaped;rw[f.lay,B3 (by have:=f.dep;lia)];rfl
theorem oN(h:∀e∈ds,Pl k e)(hk:k<=60):SeqAt.shaped (.list (toPs ds))=true:=by
 have f:=kQ λ e he=>(h e he).f9;have h1:(PyData.list (toPs ds)).canLay0=true:=by simp only[PyData.canLay0];exact f.lay
 have h2:(PyData.list (toPs ds)).depth<=64:=by simp only[PyData.depth];have:=f.dep;lia
 unfold SeqAt.shaped;rw[h1,B3 h2];rfl
theorem sY(h:Pl k d):vo M d=some (toP d):=by
 have f:=h.f9.nr;cases d with
 |ref a=>unfold nr at f;cases f
 |_=>unfold vo;dsimp only;rw[J3 f]
section
variable {Q:bW}
theorem IY{x y:D}{b:Bool}(hx:Pl k x)(hy:Pl k y)(hk:k<=60)(hb:b=true↔x=y)(q:Q (.bl b) M):tT false x y M Q:=by refine .inr ⟨_,_,sY hx,sY hy,jj hx hk,jj hy hk,?_⟩;rw[pS hx hy hb];exact q
theorem IJ{x y:D}{b:Bool}(hx:Pl k x)(hy:Pl k y)(hk:k<=60)(hb:b=true↔x=y)(q:Q (.bl (!b)) M):tT true x y M Q:=by refine .inr ⟨_,_,sY hx,sY hy,jj hx hk,jj hy hk,?_⟩;rw[pS hx hy hb];exact q
theorem zO(hM:M p=some (.lst ds))(h:∀e∈ds,Pl k e):vo M (.ref p)=some (.list (toPs ds)):=by have f:=kQ λ e he=>(h e he).f9;unfold vo;simp only[hM];rw[J3 f.nr]
theorem CL{es:List D}(h1:∀e∈ds,Pl k e)(h2:∀e∈es,Pl k e){b:Bool}(hb:b=true↔ds=es):PyData.eqv (.list (toPs ds)) (.list (toPs es))=b:=by rw[y6];have:=pR (λ x y=>jy (k:=k) x y) h1 h2;simp only[PyData.eqv];exact this.trans hb.symm
theorem nM{p2:ww}{es:List D}{b:Bool}(hM:M p=some (.lst ds))(Xd:M p2=some (.lst es))(h1:∀e∈ds,Pl k e)(h2:∀e∈es,Pl k e)(hk:k<=60)(hb:b=true↔ds=es)(q:Q (.bl (!b)) M):tT true (.ref p) (.ref p2) M Q:=by refine .inr ⟨_,_,zO hM h1,zO Xd h2,oN h1 hk,oN h2 hk,?_⟩;rw[CL h1 h2 hb];exact q
end
theorem lY{v:jp}{y:PyData}{bs:List ww}(ry:Reads s.heap v y bs)(cy:y.canLay0=true)(hu:A.units+y.depth < cLine):∀{ds:List D} {us:List jp} {as:List ww},ReadsAll s.heap us (toPs ds) as->PyData.canLayAll0 (toPs ds)=true->
  ∃e:jp->Bool,(∀u∈us,SeqAt.EqAt A s u v (e u))/\us.map e=ds.map λ d=>PyData.eqv (toP d) y:=by
 intro ds us as ra cl;refine⟨λ u=>PyData.eqv (SeqAt.readOf s.heap u) y,λ u Z1=>?_,?_⟩
 ·obtain⟨d,bs',rd,cd,_⟩:=SeqAt.readsAll_mem _ _ _ cl ra u Z1;have e:=SeqAt.readOf_eq cd rd;dsimp only;rw[e];exact SeqAt.eqAt_reads d y A s u v _ _ rd ry cd cy (by lia)
 ·have e:=SeqAt.readsAll_map _ _ _ cl ra;have f:∀(us:List jp) (ds:List D),us.map (SeqAt.readOf s.heap)=toPs ds->us.map (λ u=>PyData.eqv (SeqAt.readOf s.heap u) y)=ds.map λ d=>PyData.eqv (toP d) y:=by
   intro us
   induction us with
   |nil=>
    intro ds q;cases ds with
    |nil=>rfl
    |cons d r=>unfold toPs at q;cases q
   |cons u us ih=>
    intro ds q;cases ds with
    |nil=>unfold toPs at q;cases q
    |cons d r=>
     unfold toPs at q;rw[C3]at q;injection q with q1 q2
     rw[C3,C3,ih r q2,q1]
  exact f us ds e
structure T'(K:J5)(H:Hp)(b:Bool)(p:ww)(xs:List V)(ds:List D)(x:V)(d:D):Prop where
 sq:Sq b K H p xs
 K3:aD K H ds xs
 dat:bi K H d x
 ns:x_ ds=true
 n:nr d=true
 Cq:PyData.canLayAll0 (toPs ds)=true
 lay:(toP d).canLay0=true
 dep:(toP d).depth < 62
theorem any_map(us:List α)(e:α->Bool)(bs:List Bool)(h:us.map e=bs):us.any e=bs.any id:=by rw[<- h,List.any_map];rfl
theorem OH(neg:Bool)(hu:X.A.units+64 < cLine):gh X (compareOp (if neg then .NotIn else .In)) (λ x y H Q=>∃(b:Bool) (p:ww) (xs:List V) (ds:List D) (d:D),y=.ref p/\T' X.K H b p xs ds x d/\Q (.bl (if neg then !ds.any (λ e=>PyData.eqv (toP e) (toP d))else ds.any λ e=>PyData.eqv (toP e) (toP d))) H):=by
 intro xz s σ H x y v u Q I rx ry h;obtain⟨b,p,xs,ds,d,rfl,ok,q⟩:=h;cases ry;obtain⟨bs,rb⟩:=UQ I d ok.n ok.dat rx;have hd:=ok.dep;cases b with
 |false=>
  obtain⟨aB,r,pl,hz⟩:=I.list ok.sq;obtain⟨as,ra⟩:=xP I ds ok.ns ok.K3 r;obtain⟨e,e1,e2⟩:=lY (A:=X.A.in1) rb ok.lay (by show X.A.units+1+_ < _;lia) ra ok.Cq;have e3:aB.toArray.any e=ds.any λ e=>PyData.eqv (toP e) (toP d):=by rw[show aB.toArray.any e=aB.any e by simp,any_map _ _ _ e2,List.any_map];rfl
  cases neg with
  |false=>exact SeqAt.in_listAt e pl.isList (λ w hw=>e1 w (by simpa using hw)) ⟨.bl _,H,I,rfl,by rw[e3];exact q⟩
  |true=>exact SeqAt.notIn_listAt e pl.isList (λ w hw=>e1 w (by simpa using hw)) ⟨.bl _,H,I,rfl,by rw[e3];exact q⟩
 |true=>
  obtain⟨aB,r,pl,hz⟩:=I.tuple ok.sq;obtain⟨as,ra⟩:=xP I ds ok.ns ok.K3 r;obtain⟨e,e1,e2⟩:=lY (A:=X.A.in1) rb ok.lay (by show X.A.units+1+_ < _;lia) ra ok.Cq;have e3:aB.toArray.any e=ds.any λ e=>PyData.eqv (toP e) (toP d):=by rw[show aB.toArray.any e=aB.any e by simp,any_map _ _ _ e2,List.any_map];rfl
  cases neg with
  |false=>exact SeqAt.in_tupleAt e pl (λ w hw=>e1 w (by simpa using hw)) ⟨.bl _,H,I,rfl,by rw[e3];exact q⟩
  |true=>exact SeqAt.notIn_tupleAt e pl (λ w hw=>e1 w (by simpa using hw)) ⟨.bl _,H,I,rfl,by rw[e3];exact q⟩
end L3
namespace L2
open PySem.Spec PyProof.Rows L5
theorem wK(hc:X.calm=true):dw X (.builtin "any") (λ xs H Q=>∃(p:ww) (bs:List Bool),xs=[.ref p]/\gB X.K H p (bs.map V.bl)/\Q (.bl (bs.any id)) H):=by
 intro xz s σ H xs us Q I r h;obtain⟨p,bs,rfl,hq,q⟩:=h;obtain⟨u,rfl,r1⟩:=vals1 r;cases r1;obtain⟨aB,rv,pl,hz⟩:=I.list hq;refine call_any_walk (wpAny_pyIter_list pl.isList ?_);have fN:p≠s.heap.objs.size:=by obtain⟨o,n,e,_⟩:=pl;exact C6 (C7 e)
 have hlen:aB.length=bs.length:=by rw[<- rv.length,A5]
 refine⟨s.heap.objs.size,_,_,_,_,_,λ i=>(bs[i]?).getD false,rfl,Walks.list (A:=X.A.in1) (show X.A.in1.handled=none from I.ok.hd hc) s.heap.objs.size p fN aB.toArray,⟨⟨_,m8 _ rfl,rfl,rfl⟩,pl.isList.at λ o e=>j0 _ e⟩,?_,λ h' tk hk=>?_⟩
 ·intro i v s' Q' E' hP hQ;have YA:aB[i]?=some v:=by simpa using hP
  have hi:i < bs.length:=by rw[<- hlen];exact(c9.mp YA).1
  have hb:(bs.map V.bl)[i]?=some (V.bl bs[i]):=by simp[hi]
  obtain⟨u,hu,ru⟩:=rv.get hb;rw[YA]at hu;cases hu;have e:v=Value.bool bs[i]:=ru;subst e;have:(bs[i]?).getD false=bs[i]:=by simp[hi]
  dsimp only at hQ;rw[this]at hQ;exact wpAny_truthy_bool hQ
 ·refine⟨.bl (bs.any id),H,I.kept (t':=tk) λ b o e=>hk b o (by simpa using C6 (C7 e)) (j0 _ e),?_,q⟩;show Value.bool _=Value.bool _;congr 1;rw[u9,hlen];rw[y6];simp only[List.any_eq_true,mem_range,id];constructor
  ·rintro⟨i,hi,h⟩;exact⟨bs[i],x9 hi,by simpa[hi]using h⟩
  ·rintro⟨b,hb,h⟩;obtain⟨i,hi,rfl⟩:=mem_iff_getElem.mp hb;exact⟨i,hi,by simpa[hi]using h⟩
end L2
namespace L3
open PySem.Spec L2 L5 PyProof.Rows
def TH:List D->Mem->bW->Prop:=λ xs M Q=>∃(a:ww) (bs:List Bool),xs=[.ref a]/\bY M a=some (bs.map D.bl)/\Q (.bl (bs.any id)) M
theorem TU(hc:X.calm=true):dZ X (.builtin "any") TH:=⟨_,wK hc,λ xs ds H M Q2 Q hd hm q k=>by
 obtain⟨a,bs,rfl,hM,q⟩:=q;obtain⟨x,r,rfl,hx,hr⟩:=ah.mp hd;cases(ar.mp hr);cases(aF.mp hx);obtain⟨ys,h,hy⟩:=gs hM hm;exact⟨a,bs,rfl,gB.of (by rw[h,wu hy]),k _ H _ M (ba.mpr rfl) hm (au.refl H) q⟩⟩
def TF:List D->Mem->bW->Prop:=λ ds M Q=>∃bs:List Bool,ds=bs.map D.bl/\Q (.bl (bs.any id)) M
theorem HY:qe TH TF:=λ ds M p Q hp hz q=>by obtain⟨bs,rfl,q⟩:=q;exact⟨p,bs,rfl,Co,M,(qM.refl M).put hp,q⟩
def Mi:List D->Mem->bW->Prop:=λ xs M Q=>∃i j,xs=[.int i,.int j]/\Q (.int (max i j)) M
theorem TR(hc:X.calm=true):dZ X (.builtin "max") Mi:=⟨_,C' hc,λ xs ds H M Q2 Q hd hm q k=>by
 obtain⟨i,j,rfl,q⟩:=q;obtain⟨v,r,rfl,hv,hr⟩:=ah.mp hd;obtain⟨v2,r2,rfl,Gm,KH⟩:=ah.mp hr;cases(ar.mp KH);cases(ax.mp hv);cases(ax.mp Gm);refine⟨i,j,rfl,k _ H _ M (ax.mpr rfl) hm (au.refl H) ?_⟩;have e:(if j > i then j else i)=max i j:=by split <;> lia
 rw[e];exact q⟩
def Mj:List D->Mem->bW->Prop:=λ xs M Q=>(∃b,xs=[.bl b]/\Q (.int (if b then 1 else 0)) M)\/∃i,xs=[.int i]/\Q (.int i) M
theorem yP:dZ X (.type "int") Mj:=⟨_,Dc,λ xs ds H M Q2 Q hd hm q k=>by
 rcases q with⟨b,rfl,q⟩|⟨b,rfl,q⟩
 ·obtain⟨v,r,rfl,hv,hr⟩:=ah.mp hd;cases(ar.mp hr);cases(ba.mp hv);exact .inr ⟨b,rfl,k _ H _ M (ax.mpr rfl) hm (au.refl H) q⟩
 ·obtain⟨v,r,rfl,hv,hr⟩:=ah.mp hd;cases(ar.mp hr);cases(ax.mp hv);exact .inl ⟨b,rfl,k _ H _ M (ax.mpr rfl) hm (au.refl H) q⟩⟩
def Tv:hX:=λ x y M Q=>∃l k ds,x=.ref l/\y=.int k/\M l=some (.lst ds)/\-(2^63)<=k/\k < 2^63/\ds.length*k.toNat<=sizeLine/\∀p,M p=none->Q (.ref p) (ai M p (.lst (List.replicate k.toNat ds).flatten))
def G_:hX:=λ x y M Q=>AS x y M Q\/Tv x y M Q
theorem lU:gC X (binaryOp .Mult) G_:=OW.or ⟨_,OB,λ x y d e H M Q2 Q hd he hm q k=>by
 obtain⟨l,n,ds,rfl,rfl,hM,h1,h2,hz,q⟩:=q;cases(aF.mp hd);cases(ax.mp he);obtain⟨xs,hx,Yt⟩:=hm l _ hM;exact⟨l,n,xs,rfl,rfl,hx,h1,h2,by rw[Yt.length];exact hz,λ p hp=>k _ _ (.ref p) _ (aF.mpr rfl) (eK hp (pW Yt n.toNat) hm) (au.laid hp) (q p (hm.free hp))⟩⟩
structure XC(M:Mem)(x y:D)(ds:List D):Prop where
 sq:cA M y=some ds
 ns:x_ ds=true
 n:nr x=true
 Cq:PyData.canLayAll0 (toPs ds)=true
 lay:(toP x).canLay0=true
 dep:(toP x).depth < 62
def Ql(neg:Bool):hX:=λ x y M Q=>∃ds,XC M x y ds/\Q (.bl (if neg then !ds.any (λ e=>PyData.eqv (toP e) (toP x))else ds.any λ e=>PyData.eqv (toP e) (toP x))) M
theorem LQ(neg:Bool)(hu:X.A.units+64 < cLine):gC X (compareOp (if neg then .NotIn else .In)) (Ql neg):=⟨_,OH neg hu,λ x y d e H M Q2 Q hd he hm q k=>by
 obtain⟨ds,ok,q⟩:=q;obtain⟨p,xs,rfl,q1,x1⟩:=gM ok.sq he hm;exact⟨_,p,xs,ds,d,rfl,⟨q1,x1,hd,ok.ns,ok.n,ok.Cq,ok.lay,ok.dep⟩,k _ H _ M (ba.mpr rfl) hm (au.refl H) q⟩⟩
def K7:hX:=λ x y M Q=>YT x y M Q\/Ql false x y M Q
theorem zZ(hu:X.A.units+64 < cLine):gC X (compareOp .In) K7:=V2.or (LQ false hu)
def AQ:hX:=λ x y M Q=>∃i j,x=.str i/\y=.str j/\Q (.bl (!(!(Builtin.Str.occurrences j i 0 j.length 1).isEmpty))) M
theorem Fz:gC X (compareOp .NotIn) AQ:=⟨_,tw,λ x y d e H M Q2 Q hd he hm q k=>by
 obtain⟨i,j,rfl,rfl,q⟩:=q;cases(bg.mp hd);cases(bg.mp he);exact⟨i,j,rfl,rfl,k _ H _ M (ba.mpr rfl) hm (au.refl H) q⟩⟩
def nZ:hX:=λ x y M Q=>AQ x y M Q\/Ql true x y M Q
theorem gr(hu:X.A.units+64 < cLine):gC X (compareOp .NotIn) nZ:=Fz.or (LQ true hu)
structure T_(ds:List D)(y:D)(j:Nat):Prop where
 lt:j < ds.length
 hit:∀e,ds[j]?=some e->PyData.eqv (toP e) (toP y)=true
 no:∀m e,m < j->ds[m]?=some e->PyData.eqv (toP e) (toP y)=false
def yG:D->List D->Mem->bW->Prop:=λ x vs M Q=>∃p ds y j,x=.ref p/\vs=[y]/\M p=some (.lst ds)/\XC M y x ds/\T_ ds y j/\Q (.int (j:Nat)) M
theorem gP(hu:X.A.units+64 < cLine):QC X "list.index" yG:=⟨λ x vs H Q=>∃p ds xs d y j,x=.ref p/\vs=[y]/\T' X.K H false p xs ds y d/\T_ ds d j/\Q (.int (j:Nat)) H,by
  intro xz s σ H x xs v us Q I rx rv h;obtain⟨p,ds,zs,d,y,j,rfl,rfl,ok,ix,q⟩:=h;cases(show v=Value.ref p from rx);obtain⟨u,rfl,ru⟩:=rv.one;have hd:=ok.dep;obtain⟨bs,rb⟩:=UQ I d ok.n ok.dat ru;obtain⟨aB,r,pl,hz⟩:=I.list ok.sq;obtain⟨as,ra⟩:=xP I ds ok.ns ok.K3 r;obtain⟨e,e1,e2⟩:=lY (A:=X.A.in1) rb ok.lay (by show X.A.units+1+_ < _;lia) ra ok.Cq;obtain⟨⟨c,dd,da,sl⟩,ho,hc,n,PM⟩:=pl.isList;cases(show c=.type "list" from hc);cases(show da=.seq aB.toArray n from PM);have l1:=r.length;have l2:=ok.K3.length;have iC:=ix.lt;have at_:∀m (hm:m < aB.length) (mP:m < ds.length),e aB[m]=PyData.eqv (toP ds[m]) (toP d):=λ m hm mP=>by have:=H9 (·[m]?) e2;simp only[r0,i0 hm,i0 mP,Option.map_some,Option.some.injEq]at this;exact this
  have hs:ds.length<=16777216:=by
   have h2:zs.length<=sizeLine:=hz;have h3:sizeLine=16777216:=by decide
   lia
  refine G7 PySem.F.slot_list_index ⟨_,ho,rfl⟩ PySem.F.entry_list_index (PySem.F.args_list_index_2 _ _) (SeqAt.list_indexAt p aB.toArray n dd sl u e j (by simp;lia) (by lia) ?_ ?_) ⟨ho,λ y hy=>e1 y (by simpa using hy),?_⟩
  ·have:=at_ j (by lia) iC;simp only[getElem_toArray];rw[this];exact ix.hit _ (i0 iC)
  ·intro m hm hmj;have fU:m < aB.length:=by simpa using hm
   have:=at_ m fU (by lia);simp only[getElem_toArray];rw[this];exact ix.no m _ hmj (i0 (by lia))
  ·exact⟨.int _,H,I.tok _,⟨_,rfl⟩,q⟩,λ x xs d ds H M Q2 Q hx hd hm q k=>by
  obtain⟨p,es,y,j,rfl,rfl,hM,ok,ix,q⟩:=q;cases(aF.mp hx);obtain⟨v,r,rfl,hv,hr⟩:=ah.mp hd;cases(ar.mp hr);obtain⟨zs,hz,qt⟩:=hm p _ hM;exact⟨p,es,zs,y,v,j,rfl,rfl,⟨gB.of hz,qt,hv,ok.ns,ok.n,ok.Cq,ok.lay,ok.dep⟩,ix,k _ H _ M (ax.mpr rfl) hm (au.refl H) q⟩⟩
def Qi:D->List D->Mem->bW->Prop:=λ x vs M Q=>(∃p ds y,x=.ref p/\vs=[]/\M p=some (.lst ds)/\ds[ds.length - 1]?=some y/\Q y (ai M p (.lst ds.dropLast)))\/
 ∃p ds i k y,x=.ref p/\vs=[.int i]/\M p=some (.lst ds)/\-(2^63)<=i/\i < 2^63/\seqIndex? i ds.length=some k/\ds[k]?=some y/\Q y (ai M p (.lst (ds.eraseIdx k)))
theorem aD.eraseIdx:∀{ds:List D} {xs:List V} (n:Nat),aD K H ds xs->aD K H (ds.eraseIdx n) (xs.eraseIdx n)
 |[],xs,n,h=>by rw[ar]at h;subst h;simp[ar]
 |d::ds,xs,0,h=>by obtain⟨x,r,rfl,a,b⟩:=ah.mp h;exact b
 |d::ds,xs,n+1,h=>by obtain⟨x,r,rfl,a,b⟩:=ah.mp h;rw[eraseIdx_cons_succ,eraseIdx_cons_succ,ah];exact⟨x,_,rfl,a,b.eraseIdx n⟩
theorem aD.dropLast(h:aD K H ds xs):aD K H ds.dropLast xs.dropLast:=by rw[dropLast_eq_take,dropLast_eq_take,h.length];exact h.take _
theorem Mo.or{id:String}{r r':V->List V->Hp->VK->Prop}(h:Mo X id r)(h':Mo X id r'):Mo X id (λ x vs H Q=>r x vs H Q\/r' x vs H Q):=by
 intro xz s σ H x xs v us Q I a b q;rcases q with q|q
 ·exact h xz s σ H x xs v us Q I a b q
 ·exact h' xz s σ H x xs v us Q I a b q
theorem LR:QC X "list.pop" Qi:=⟨_,Mo.or O2 FI,λ x xs d ds H M Q2 Q hx hd hm q k=>by
 rcases q with⟨p,es,y,rfl,rfl,hM,hy,q⟩|⟨p,es,i,j,y,rfl,rfl,hM,h1,h2,hs,hy,q⟩
 ·cases(aF.mp hx);cases(ar.mp hd);obtain⟨zs,h1,h2⟩:=hm p _ hM;obtain⟨v,hv,Wo⟩:=h2.get hy;have t:=au.lst (o:=.lst zs.dropLast) h1;exact .inl ⟨p,zs,v,rfl,rfl,h1,by rw[h2.length];exact hv,k _ _ y _ (bi.mono t y Wo) (hm.put (u:=.lst es.dropLast) t ⟨_,aL,aD.mono t _ h2.dropLast⟩) t q⟩
 ·cases(aF.mp hx);obtain⟨v0,r,rfl,ZZ,hr⟩:=ah.mp hd;cases(ar.mp hr);cases(ax.mp ZZ);obtain⟨zs,g1,g2⟩:=hm p _ hM;obtain⟨v,hv,Wo⟩:=g2.get hy;have t:=au.lst (o:=.lst (zs.eraseIdx j)) g1;exact .inr ⟨p,zs,i,j,v,rfl,rfl,g1,h1,h2,by rw[g2.length];exact hs,hv,k _ _ y _ (bi.mono t y Wo) (hm.put (u:=.lst (es.eraseIdx j)) t ⟨_,aL,aD.mono t _ (g2.eraseIdx j)⟩) t q⟩⟩
theorem BE{l:Nat}:∀v σ H Q,Lq K (qD 3 (dv (am i) (dv (am j) (dv (am l) qE)))) v σ H Q->wc K 3 (dX (de i) (dX (de j) (dX (de l) tR))) v σ H Q:=λ v σ H Q ⟨d,δ,M,Q2,hd,hs,hm,q,k⟩=>by
 cases d with
 |tup ds=>
  obtain⟨p,xs,rfl,hq,hx⟩:=a_.mp hd;obtain⟨hl,q⟩:=q
  match ds,hl,hx,q with
  |[a,b,c],hl,hx,q=>obtain⟨x,r,rfl,ha,hx⟩:=ah.mp hx;obtain⟨y,r,rfl,hb,hx⟩:=ah.mp hx;obtain⟨z,r,rfl,hc,hx⟩:=ah.mp hx;cases(ar.mp hx);exact⟨p,[x,y,z],rfl,hq,rfl,x,[y,z],rfl,y,[z],rfl,z,[],rfl,rfl,k _ H _ M (((hs.set ha).set hb).set hc) hm (au.refl H) q⟩
 |_=>exact q.elim
theorem Ia{l:Nat}{y z:Str}{px py pz pt:Pos}(h:∀cl C fp s H,PG (bE X scope cl tgs fr C fp s H) (.Tuple [.Name x px,.Name y py,.Name z pz] k pt) (wc X.K 3 (dX (de i) (dX (de j) (dX (de l) tR)))))(hi:i < tgs.length)(hj:j < tgs.length)(hl:l < tgs.length):TV X scope tgs fr (.Tuple [.Name x px,.Name y py,.Name z pz] k pt) (qD 3 (dv (am i) (dv (am j) (dv (am l) qE)))):=
 ⟨_,h,GI (lr (jv hi) (lr (jv hj) (lr (jv hl) GJ fz pN) fz (nV fz pN)) fz (nV fz (nV fz pN))),BE⟩
end L3
namespace L4
open PySem.Spec L2 L3 L5
theorem DA{l:Nat}{y z:Str}{px py pz pt:Pos}(h:∀cl C fp s H,PG (bE X scope cl tgs fr C fp s H) (.Tuple [.Name x px,.Name y py,.Name z pz] k pt) (wc X.K 3 (dX (de i) (dX (de j) (dX (de l) tR)))))(hi:i < tgs.length)(hj:j < tgs.length)(hl:l < tgs.length):Lm X scope tgs fr (.Tuple [.Name x px,.Name y py,.Name z pz] k pt) (qD 3 (dv (am i) (dv (am j) (dv (am l) qE)))):=⟨Ia h hi hj hl⟩
end L4
namespace L3
open PySem.Spec L2 L5 PyProof.Rows
section
variable {Q:bW}
theorem IC{l:Nat}{a b c:D}(h:N (((δ.set i (some a)).set j (some b)).set l (some c)) M):qD 3 (dv (am i) (dv (am j) (dv (am l) qE))) (.tup [a,b,c]) δ M N:=⟨rfl,h⟩
theorem IM{i j:Int}(q:Q (.int (max i j)) M):Mi [.int i,.int j] M Q:=⟨i,j,rfl,q⟩
theorem EE{b:Bool}(q:Q (.int (if b then 1 else 0)) M):Mj [.bl b] M Q:=.inl ⟨b,rfl,q⟩
theorem oZ{i j:Int}(h:uo i j)(q:Q (.int (i*j)) M):G_ (.int i) (.int j) M Q:=.inl (Ey h q)
theorem vj{k:Int}(h0:0<=k)(h1:k<=10000)(q:Q (.tup (List.replicate k.toNat d)) M):G_ (.tup [d]) (.int k) M Q:=.inl (Ex h0 h1 q)
theorem dg(h:M a=some (.lst ds)):cA M (.ref a)=some ds:=by show bY M a=some ds;unfold bY;rw[h]
theorem mj{x y:D}(hs:cA M y=some ds)(hx:Pl k x)(hd:∀e∈ds,Pl k e)(hk:k<=60):XC M x y ds:=by have f:=kQ λ e he=>(hd e he).f9;exact⟨hs,f.nr,hx.f9.nr,f.lay,hx.f9.lay,by have:=hx.f9.dep;lia⟩
theorem Hl{x:D}(hx:Pl k x)(hd:∀e∈ds,Pl k e){b:Bool}(hb:b=true↔x∈ds):(ds.any λ e=>PyData.eqv (toP e) (toP x))=b:=by
 rw[y6,hb,List.any_eq_true];constructor
 ·rintro⟨e,he,h⟩;rw[<- (jy e x (hd e he) hx).mp h];exact he
 ·intro h;exact⟨x,h,(jy x x hx hx).mpr rfl⟩
theorem sV{x y:D}{b:Bool}(hs:cA M y=some ds)(hx:Pl k x)(hd:∀e∈ds,Pl k e)(hk:k<=60)(hb:b=true↔x∈ds)(q:Q (.bl b) M):K7 x y M Q:=by refine .inr ⟨ds,mj hs hx hd hk,?_⟩;rw[Hl hx hd hb];exact q
theorem oY{x y:D}{b:Bool}(hs:cA M y=some ds)(hx:Pl k x)(hd:∀e∈ds,Pl k e)(hk:k<=60)(hb:b=true↔x∈ds)(q:Q (.bl (!b)) M):nZ x y M Q:=by refine .inr ⟨ds,mj hs hx hd hk,?_⟩;rw[Hl hx hd hb];exact q
theorem tG{xs:List α}{enc:α->D}(inj:∀a b,enc a=enc b->a=b)(a:α):enc a∈xs.map enc↔a∈xs:=by
 rw[C8];constructor
 ·rintro⟨b,hb,e⟩;rw[<- inj _ _ e];exact hb
 ·intro h;exact⟨a,h,rfl⟩
theorem kJ[DecidableEq α]{xs:List α}{a:α}(enc:α->D)(inj:∀a b,enc a=enc b->a=b)(hM:M p=some (.lst (xs.map enc)))(ha:a∈xs)(hp:∀a,Pl k (enc a))(hk:k<=60)(q:Q (.int (xs.idxOf a:Nat)) M):yG (.ref p) [enc a] M Q:=by
 have iC:xs.idxOf a < xs.length:=idxOf_lt_length_of_mem ha;refine⟨p,xs.map enc,enc a,xs.idxOf a,rfl,rfl,hM,mj (dg hM) (hp a) (ff λ x _=>hp x) hk,⟨by rw[A5];exact iC,λ e he=>?_,λ m e hm he=>?_⟩,q⟩
 ·rw[r0,i0 iC,getElem_idxOf]at he;cases he;exact(jy _ _ (hp a) (hp a)).mpr rfl
 ·rw[r0,i0 (by lia)]at he;cases he;refine pS (hp _) (hp a) ⟨(λ z=>by cases z),λ z=>?_⟩;have:=inj _ _ z;have fN:=not_of_lt_findIdx (p:=(·==a)) (xs:=xs) (i:=m) hm;exact absurd (show(xs[m]==a)=true by rw[this];simp) (by simpa using fN)
theorem Nm{y:D}(hM:M p=some (.lst (ds++[y])))(q:Q y (ai M p (.lst ds))):Qi (.ref p) [] M Q:=by refine .inl ⟨p,ds++[y],y,rfl,rfl,hM,by simp,?_⟩;rw[dropLast_concat];exact q
theorem Ew{y:D}(hM:M p=some (.lst ds))(hj:ds[j]?=some y)(hz:ds.length<=10000)(q:Q y (ai M p (.lst (ds.eraseIdx j)))):Qi (.ref p) [.int (j:Int)] M Q:=by have hl:j < ds.length:=(c9.mp hj).1;exact .inr ⟨p,ds,j,j,y,rfl,rfl,hM,Int.le_trans (by decide) (Int.natCast_nonneg j),q8 (show(j:Int)<=10000 by lia) (by decide),by rw[seqIndex_of (by lia) (by lia)];simp,hj,q⟩
end
open PySem.Spec L2 L5 PyProof.Rows
def Ek(i:Nat)(te:cw):lJ:=λ E δ M=>∃a,δ[i]?=some (some (.int a))/\te δ M λ d M1=>∃b,d=.int b/\E.nx (δ.set i (some (.int (a+b)))) M1
section
variable {pos:Pos}
theorem Jj(hN:X.N.Nodup)(hi:X.N[i]?=some x)(hx:Loc X.env.scope x)(he:QE X e te)(hf:X.fn x=true\/X.env.scope.names.lookup x=some .local:=by first|exact .inl rfl|exact .inr rfl|assumption):QS X (.AugAssign (.Name x pos') .Add e pos) (Ek i te):=kN (Oa hN hi hx he Pq hf) λ E σ H ⟨δ,M,D2,hs,hm,⟨a,ea,q⟩,k⟩=>by obtain⟨v,ev,hv⟩:=hs.get i _ ea;cases(ax.mp hv);refine⟨_,ev,δ,M,_,hs,hm,q,λ y H1 d M1 hd bR t1 q1=>?_⟩;obtain⟨b,rfl,q1⟩:=q1;cases(ax.mp hd);exact⟨_,_,rfl,rfl,k.nx _ _ _ _ ((hs.mono t1).set (ax.mpr rfl)) bR t1 q1⟩
end
theorem Ja{E:jL}{a:Int}(ea:δ[i]?=some (some (.int a)))(h:te δ M λ d M1=>∃b,d=.int b/\E.nx (δ.set i (some (.int (a+b)))) M1):Ek i te E δ M:=⟨a,ea,h⟩
def GQ(R:Src->Mem->Prop)(ds:List D)(M1:Mem):Prop:=match ds with
 |[.tup xs]=>R (.fix (dY xs)) M1
 |[x]=>(∃zs,cA M1 x=some zs)/\R (.fn (fV x)) M1
 |_=>False
theorem EI(h:ta δ M (GQ R)):FX ta δ M R:=h
theorem EJ{xs:List D}(h:R (.fix (dY xs)) M):GQ R [.tup xs] M:=h
theorem EK{xs:List D}(hM:M a=some (.lst xs))(h:R (.fn (fV (.ref a))) M):GQ R [.ref a] M:=⟨⟨xs,dg hM⟩,h⟩
def Rj(R:Src->Mem->Prop)(ds:List D)(M1:Mem):Prop:=match ds with
 |[.tup xs,.tup ys]=>R (.fix (mW xs ys)) M1
 |[x,y]=>(∃zs,mV x y M1=some zs)/\R (.fn (mV x y)) M1
 |_=>False
theorem IA(h:ta δ M (Rj R)):FV ta δ M R:=h
theorem Et{xs ys:List D}(h:R (.fix (mW xs ys)) M):Rj R [.tup xs,.tup ys] M:=h
end L3
namespace L4
open PySem.Spec L2 L3 L5
section
variable {pos:Pos}
theorem HU(hN:X.N.Nodup)(hi:X.N[i]?=some x)(hx:Loc X.env.scope x)(he:WE X e te)(hf:X.fn x=true\/X.env.scope.names.lookup x=some .local:=by first|exact .inl rfl|exact .inr rfl|assumption):WS X (.AugAssign (.Name x pos') .Add e pos) (Ek i te):=⟨Jj hN hi hx he.h hf⟩
end
end L4
namespace L2
open PySem.Spec PyProof.Rows
def VS(K:J5)(x y:V)(H:Hp)(Q:Bool->Prop):Prop:=(∃a o,y=.ref a/\qP H a x o/\Q o.isSome)\/∃a b kvs k,y=.ref a/\x=.ref b/\mH K H a kvs/\k.dep<=5/\gb K H k (.ref b)/\Q (gj kvs k).isSome
theorem JV(neg:Bool)(hu:X.A.units+64 < cLine):gh X (compareOp (if neg then .NotIn else .In)) (λ x y H Q=>VS X.K x y H λ b=>Q (.bl (if neg then !b else b)) H):=by
 intro xz s σ H x y v u Q I rx ry h;rcases h with⟨a,o,rfl,g,q⟩|⟨a,b,kvs,k,rfl,rfl,d,hk,rM,q⟩
 ·cases(show u=Value.ref a from ry);cases neg with
  |false=>exact Xs (by lia) I g rx λ s3 I3=>⟨.bl o.isSome,H,I3,rfl,q⟩
  |true=>exact K4 (by lia) I g rx λ s3 I3=>⟨.bl (!o.isSome),H,I3,rfl,q⟩
 ·cases(show u=Value.ref a from ry);cases(show v=Value.ref b from rx);cases neg with
  |false=>exact Vs hu I d hk rM λ s3 I3=>⟨.bl (gj kvs k).isSome,H,I3,rfl,q⟩
  |true=>exact Ie hu I d hk rM λ s3 I3=>⟨.bl (!(gj kvs k).isSome),H,I3,rfl,q⟩
def RT(K:J5)(x y:V)(H:Hp)(Q:VK):Prop:=(∃a v,x=.ref a/\qP H a y (some v)/\Q v H)\/∃a b kvs k v,x=.ref a/\y=.ref b/\mH K H a kvs/\k.dep<=5/\gb K H k (.ref b)/\gj kvs k=some v/\Q v H
theorem Po(hu:X.A.units+64 < cLine):yW X (λ x y H Q=>RT X.K x y H Q):=by
 intro value slice xz s σ H x y v u Q I rx ry h hs;rcases h with⟨a,w,rfl,g,q⟩|⟨a,b,kvs,k,w,rfl,rfl,d,hk,rM,g,q⟩
 ·cases(show v=Value.ref a from rx);refine tail_any (ops:=[.ref a,u]) (wo I g) PySem.F.slot_dict_getitem.lookup ?_ hs;exact CS (by lia) I g ry λ w' s3 I3 jQ=>⟨w,H,I3,jQ,q⟩
 ·cases(show v=Value.ref a from rx);cases(show u=Value.ref b from ry);obtain⟨_,_,xs,_,dd⟩:=d.of I;refine tail_any (ops:=[.ref a,.ref b]) dd.typeIs PySem.F.slot_dict_getitem.lookup ?_ hs;exact BH hu I d hk rM g λ w' s3 I3 jQ=>⟨w,H,I3,jQ,q⟩
def RS(K:J5):Di:=λ o i v H Q=>(∃a H',o=.ref a/\Hs H a i v H'/\Q H')\/∃a b kvs k,o=.ref a/\i=.ref b/\mH K H a kvs/\k.dep<=5/\gb K H k (.ref b)/\kvs.length < sizeLine/\Q (ci H a (nk a (iu kvs k b v)))
theorem Iu(hu:X.A.units+64 < cLine):uk X (RS X.K):=by
 intro xz s σ H o i v ov iv u Q I ro ri rv h;rcases h with⟨a,H',rfl,g,q⟩|⟨a,b,kvs,k,rfl,rfl,d,hk,rM,hl,q⟩
 ·cases(show ov=Value.ref a from ro);exact CP (by lia) I g ri rv λ s3 I3=>⟨H',I3,q⟩
 ·cases(show ov=Value.ref a from ro);cases(show iv=Value.ref b from ri);exact BG hu I d hk rM hl rv λ s3 I3=>⟨_,I3,q⟩
theorem yN:dw X (.builtin "len") (λ xs H Q=>∃a,xs=[.ref a]/\((∃kvs,H a=some (.dK kvs)/\Q (.int kvs.length) H)\/∃kvs,H a=some (nk a kvs)/\Q (.int kvs.length) H)):=by
 intro xz s σ H xs us Q I r h;obtain⟨a,rfl,h⟩:=h;obtain⟨u,rfl,ru⟩:=vals1 r;cases(show u=Value.ref a from ru);rcases h with⟨kvs,e,q⟩|⟨kvs,e,q⟩
 ·exact Tu I (.inl e) λ t s' I'=>⟨.int kvs.length,H,I',⟨t,rfl⟩,q⟩
 ·exact Rt I e λ t s' I'=>⟨.int kvs.length,H,I',⟨t,rfl⟩,q⟩
end L2
namespace L3
open PySem.Spec L2 L5 PyProof.Rows
noncomputable instance abd:DecidableEq D:=λ a b=>Classical.propDecidable (a=b)
noncomputable def dC (kvs:List (D×D))(k:D):Option D:=(kvs.find? λ p=>decide (p.1=k)).map (·.2)
noncomputable def putD (kvs:List (D×D))(k v:D):List (D×D):=if(dC kvs k).isSome=true then kvs.map (λ p=>if p.1=k then(p.1,v)else p)else kvs++[(k,v)]
def je(t:Bool)(x:D):Prop:=match t with
 |false=>∃k:Key,x=jT k
 |true=>∃ks:List IK,x=qq (.t ks)/\(IK.t ks).dep<=5
def yX(K:J5)(H:Hp):Option D->Option V->Prop
 |none,none=>True
 |some d,some v=>bi K H d v
 |_,_=>False
theorem Ht.look{kvs:List (D×D)}{xs:List (Key×V)}(h:Ht K H kvs xs)(k:Key):yX K H (dC kvs (jT k)) (jO xs k):=by
 induction h with
 |nil=>exact True.intro
 |@cons p q ps qs jE t ih=>
  obtain⟨h1,h2⟩:=jE;unfold dC jO at ih ⊢;by_cases e:q.1=k
  ·have e':p.1=jT k:=by rw[h1,e]
   simp only[y8,B3 e,B3 e',Option.map_some];exact h2
  ·have e':¬p.1=jT k:=λ z=>e (vT (h1.symm.trans z));simp only[y8,y9 e,y9 e'];exact ih
theorem Dk.look{kvs:List (D×D)}{xs:List fB}(h:Dk K H kvs xs)(k:IK):yX K H (dC kvs (qq k)) (gj xs k):=by
 induction h with
 |nil=>exact True.intro
 |@cons p q ps qs jE t ih=>
  obtain⟨h1,_,_,h2⟩:=jE;unfold dC gj at ih ⊢;by_cases e:q.1=k
  ·have e':p.1=qq k:=by rw[h1,e]
   simp only[y8,B3 e,B3 e',Option.map_some];exact h2
  ·have e':¬p.1=qq k:=λ z=>e (tM (h1.symm.trans z));simp only[y8,y9 e,y9 e'];exact ih
theorem yX.isSome{o:Option D}{u:Option V}(h:yX K H o u):o.isSome=u.isSome:=by
 cases o with
 |none=>cases u with
  |none=>rfl
  |some _=>exact(show False from h).elim
 |some _=>cases u with
  |none=>exact(show False from h).elim
  |some _=>rfl
theorem yX.some_of{u:Option V}(h:yX K H (some d) u):∃v,u=some v/\bi K H d v:=by
 cases u with
 |none=>exact(show False from h).elim
 |some v=>exact⟨v,rfl,h⟩
theorem Dk.keys{kvs:List (D×D)}{xs:List fB}(h:Dk K H kvs xs)(e:H a=some (nk a xs)):mH K H a xs:=by
 refine⟨e,?_⟩;clear e
 induction h with
 |nil=>intro p hp;cases hp
 |@cons p q ps qs jE t ih=>
  intro x hx;rcases C4.mp hx with rfl|hx
  ·obtain⟨h1,h2,h3,_⟩:=jE;rw[h1]at h3;exact⟨h2,mr _ h3⟩
  ·exact ih x hx
theorem EW(xs:List (Key×V))(k:Key)(v:V):putK xs k v=if(jO xs k).isSome=true then xs.map (λ kv=>if kv.1=k then(kv.1,v)else kv)else xs++[(k,v)]:=by unfold putK;rw[oB]
theorem Ht.put{kvs:List (D×D)}{xs:List (Key×V)}(h:Ht K H kvs xs)(k:Key)(hd:bi K H d v):Ht K H (putD kvs (jT k) d) (putK xs k v):=by
 rw[EW];unfold putD;rw[(h.look k).isSome];by_cases e:(jO xs k).isSome=true
 ·rw[J3 e,J3 e];clear e
  induction h with
  |nil=>exact .nil
  |@cons p q ps qs jE t ih=>
   rw[C3,C3];refine .cons ?_ ih;obtain⟨h1,h2⟩:=jE;by_cases e:q.1=k
   ·rw[J3 e,J3 (by rw[h1,e])];exact⟨h1,hd⟩
   ·rw[J4 e,J4 (λ z=>e (vT (h1.symm.trans z)))];exact⟨h1,h2⟩
 ·rw[J4 e,J4 e];exact Paired.snoc h ⟨rfl,hd⟩
theorem Dk.put{kvs:List (D×D)}{xs:List fB}(h:Dk K H kvs xs)(k:IK)(hk:k.dep<=5)(hb:bi K H (qq k) (.ref b))(hd:bi K H d v):Dk K H (putD kvs (qq k) d) (iu xs k b v):=by
 unfold putD iu;rw[(h.look k).isSome];by_cases e:(gj xs k).isSome=true
 ·rw[J3 e,J3 e];clear e
  induction h with
  |nil=>exact .nil
  |@cons p q ps qs jE t ih=>
   rw[C3,C3];refine .cons ?_ ih;obtain⟨h1,h2,h3,h4⟩:=jE;by_cases e:q.1=k
   ·rw[J3 e,J3 (by rw[h1,e])];exact⟨h1,h2,h3,hd⟩
   ·rw[J4 e,J4 (λ z=>e (tM (h1.symm.trans z)))];exact⟨h1,h2,h3,h4⟩
 ·rw[J4 e,J4 e];exact Paired.snoc h ⟨rfl,hk,hb,hd⟩
def Qn(neg:Bool):hX:=λ x y M Q=>∃a t kvs,y=.ref a/\M a=some (.cO t kvs)/\je t x/\Q (.bl (if neg then !(dC kvs x).isSome else(dC kvs x).isSome)) M
theorem nH{ks:List IK}(h:bi K H (qq (.t ks)) v):∃b,v=.ref b:=by unfold qq at h;obtain⟨p,xs,rfl,_⟩:=a_.mp h;exact⟨p,rfl⟩
theorem FA(neg:Bool)(hu:X.A.units+64 < cLine):gC X (compareOp (if neg then .NotIn else .In)) (Qn neg):=⟨_,JV neg hu,λ x y d e H M Q2 Q hd he hm q k=>by
 obtain⟨a,t,kvs,rfl,hM,ok,q⟩:=q;cases(aF.mp he);have hr:=hm a _ hM;cases t with
 |false=>obtain⟨xs,hx,rel⟩:=hr;obtain⟨kk,rfl⟩:=ok;rw[nY hd];refine .inl ⟨a,_,rfl,qP.k9 hx,k _ H _ M (ba.mpr rfl) hm (au.refl H) ?_⟩;rw[<- (rel.look kk).isSome];exact q
 |true=>
  obtain⟨xs,hx,rel⟩:=hr;obtain⟨ks,rfl,ll⟩:=ok;obtain⟨b,rfl⟩:=nH hd;refine .inr ⟨a,b,xs,_,rfl,rfl,rel.keys hx,ll,mr _ hd,k _ H _ M (ba.mpr rfl) hm (au.refl H) ?_⟩;rw[<- (rel.look _).isSome];exact q⟩
def Tz:hX:=λ x y M Q=>K7 x y M Q\/Qn false x y M Q
theorem vI(hu:X.A.units+64 < cLine):gC X (compareOp .In) Tz:=(zZ hu).or (FA false hu)
def AR:hX:=λ x y M Q=>nZ x y M Q\/Qn true x y M Q
theorem vH(hu:X.A.units+64 < cLine):gC X (compareOp .NotIn) AR:=(gr hu).or (FA true hu)
def TC:hX:=λ x y M Q=>∃a t kvs d,x=.ref a/\M a=some (.cO t kvs)/\je t y/\dC kvs y=some d/\Q d M
def Qk:hX:=λ x y M Q=>Ra x y M Q\/TC x y M Q
theorem cj(hu:X.A.units+64 < cLine):T9 X Qk:=by
 obtain⟨r,h1,h2⟩:=(L3.aR:T9 X Ra);refine⟨_,h1.or (Po hu),λ x y d e H M Q2 Q hd he hm q k=>?_⟩;rcases q with q|⟨a,t,kvs,w,rfl,hM,ok,hl,q⟩
 ·exact .inl (h2 x y d e H M Q2 Q hd he hm q k)
 ·cases(aF.mp hd);have hr:=hm a _ hM;cases t with
  |false=>obtain⟨xs,hx,rel⟩:=hr;obtain⟨kk,rfl⟩:=ok;have hv:=rel.look kk;rw[hl]at hv;obtain⟨v,e1,e2⟩:=hv.some_of;rw[nY he];exact .inr (.inl ⟨a,v,rfl,by rw[<- e1];exact qP.k9 hx,k _ H _ M e2 hm (au.refl H) q⟩)
  |true=>obtain⟨xs,hx,rel⟩:=hr;obtain⟨ks,rfl,ll⟩:=ok;have hv:=rel.look (.t ks);rw[hl]at hv;obtain⟨v,e1,e2⟩:=hv.some_of;obtain⟨b,rfl⟩:=nH he;exact .inr (.inr ⟨a,b,xs,_,v,rfl,rfl,rel.keys hx,ll,mr _ he,e1,k _ H _ M e2 hm (au.refl H) q⟩)
def TB:lI:=λ o i v M N=>∃a t kvs,o=.ref a/\M a=some (.cO t kvs)/\je t i/\kvs.length < sizeLine/\N (ai M a (.cO t (putD kvs i v)))
def Mh:lI:=λ o i v M N=>K6 o i v M N\/TB o i v M N
theorem uk.or{t u:Di}(h:uk X t)(g:uk X u):uk X (λ o i v H Q=>t o i v H Q\/u o i v H Q):=by
 intro xz s σ H o i v ov iv uu Q I ro ri rv q;rcases q with q|q
 ·exact h xz s σ H o i v ov iv uu Q I ro ri rv q
 ·exact g xz s σ H o i v ov iv uu Q I ro ri rv q
theorem xA(hu:X.A.units+64 < cLine):Hn X Mh:=by
 obtain⟨r,h1,h2⟩:=(oR:Hn X K6);refine⟨_,uk.or h1 (Iu hu),λ o i v d j e H M Q2 Q hd hj he hm q k=>?_⟩;rcases q with q|⟨a,t,kvs,rfl,hM,ok,hl,q⟩
 ·exact .inl (h2 o i v d j e H M Q2 Q hd hj he hm q k)
 ·cases(aF.mp hd);have hr:=hm a _ hM;cases t with
  |false=>obtain⟨xs,hx,rel⟩:=hr;obtain⟨kk,rfl⟩:=ok;rw[nY hj];have t:=au.mut (o:=.dK (putK xs kk v)) hx (λ _ z=>by cases z) (λ _ _ z=>by cases z);refine .inr (.inl ⟨a,_,rfl,Hs.k9 hx (by rw[<- B9 rel];exact hl),k _ _ (hm.put (u:=.cO false (putD kvs (jT kk) e)) t ⟨_,aL,(rel.put kk he).mono t⟩) t q⟩)
  |true=>obtain⟨xs,hx,rel⟩:=hr;obtain⟨ks,rfl,ll⟩:=ok;obtain⟨b,rfl⟩:=nH hj;have t:=au.mut (o:=nk a (iu xs (.t ks) b v)) hx (λ _ z=>by cases z) (λ _ _ z=>by cases z);refine .inr (.inr ⟨a,b,xs,_,rfl,rfl,rel.keys hx,ll,mr _ hj,by rw[<- B9 rel];exact hl,k _ _ (hm.put (u:=.cO true (putD kvs (qq (.t ks)) e)) t ⟨_,aL,(rel.put (.t ks) ll hj he).mono t⟩) t q⟩)
def G':List D->Mem->bW->Prop:=λ xs M Q=>CT xs M Q\/∃a t kvs,xs=[.ref a]/\M a=some (.cO t kvs)/\Q (.int (kvs.length:Nat)) M
theorem qc:dZ X (.builtin "len") G':=by
 obtain⟨r,h1,h2⟩:=(L3.cb:dZ X (.builtin "len") CT);refine⟨_,h1.or yN,λ xs ds H M Q2 Q hd hm q k=>?_⟩;rcases q with q|⟨a,t,kvs,rfl,hM,q⟩
 ·exact .inl (h2 xs ds H M Q2 Q hd hm q k)
 ·obtain⟨x,r,rfl,hx,hr⟩:=ah.mp hd;cases(ar.mp hr);cases(aF.mp hx);have hr:=hm a _ hM;cases t with
  |false=>obtain⟨xs,hx,rel⟩:=hr;exact .inr ⟨a,rfl,.inl ⟨xs,hx,by rw[<- B9 rel];exact k _ H _ M (ax.mpr rfl) hm (au.refl H) q⟩⟩
  |true=>obtain⟨xs,hx,rel⟩:=hr;exact .inr ⟨a,rfl,.inr ⟨xs,hx,by rw[<- B9 rel];exact k _ H _ M (ax.mpr rfl) hm (au.refl H) q⟩⟩
def LC(t:Bool):cw:=λ _ M Q=>∀p,M p=none->Q (.ref p) (ai M p (.cO t []))
theorem NY(t:Bool){pos:Pos}:QE X (.Dict [] [] pos) (LC t):=by
 cases t with
 |false=>refine bJ Fm λ σ H Q ⟨δ,M,Q2,hs,hm,q,k⟩ p hp=>?_;exact k _ _ (.ref p) _ (aF.mpr rfl) (hm.put (u:=.cO false []) (au.laid hp) ⟨[],aL,.nil⟩) (au.laid hp) (q p (hm.free hp))
 |true=>refine bJ vD λ σ H Q ⟨δ,M,Q2,hs,hm,q,k⟩ p hp=>?_;exact k _ _ (.ref p) _ (aF.mpr rfl) (hm.put (u:=.cO true []) (au.laid hp) ⟨[],aL,.nil⟩) (au.laid hp) (q p (hm.free hp))
end L3
namespace L4
open PySem.Spec L2 L3 L5
theorem Mx(t:Bool){pos:Pos}:WE X (.Dict [] [] pos) (LC t):=⟨NY t⟩
end L4
namespace L2
open PySem.Spec PySem.W PyProof.Rows L5
theorem Fn{k v:Expr}{tk tv:TE}{pos:Pos}(hu:X.A.units+64 < cLine)(hk:PE X k tk)(hv:PE X v tv):PE X (.Dict [some k] [v] pos) (λ σ H Q=>∀p,H p=none->tk σ (ci H p (nk p [])) λ x H1=>tv σ H1 λ y H2=>∃b ik,x=.ref b/\H2 p=some (nk p [])/\ik.dep<=5/\gb X.K H2 ik (.ref b)/\Q (.ref p) (ci H2 p (nk p (iu [] ik b y)))):=by
 intro xz s σ H Q I h;refine wpAny_Dict_any rfl rfl (by simp) (by simp) ?_;have I0:=I.laid (a:=s.heap.objs.size) (o:=nk s.heap.objs.size []) (t':=s.toks) (λ _ _ q=>j0 _ q) (D9 _) (pT (AH s.heap I.big));refine pairTrees_cons_walk (dA (hk xz _ σ _ _ I0 (h _ (I.bt.fresh (D9 _)))) λ kv s1 ⟨x,H1,I1,r1,q1⟩=>dA (hv xz s1 σ H1 _ I1 q1) λ vv s2 ⟨y,H2,I2,r2,q2⟩=>pairTrees_nil_walk ?_);obtain⟨b,ik,rfl,hp,hd,rM,q⟩:=q2;cases(show kv=Value.ref b from r1);generalize s.heap.objs.size=p at*;obtain⟨z,nm,xs,rel,dd⟩:=mH.of I2 (kvs:=[]) ⟨hp,λ _ z=>by cases z⟩;cases rel;have uB:(iu [] ik b y).length<=sizeLine:=by have:=pd [] ik b y;exact D1 this (by decide)
 unfold storeAll;rw[B2];refine G4 (G4 (wpAny_dictSet_heap (knd:=iG X.prog X.w) (hsz:=G1 _) (show X.A.units+8 < cLine by lia) ⟨hd,mN I2 ik rM rfl⟩ dd λ h' CO hs=>G5 ?_));dsimp only;rw[forIn_nil];obtain⟨q',es,ep,hq,h2,h3,h4,_,h5⟩:=CO;exact G5 ⟨.ref p,_,jB I2 (by rw[hp];exact True.intro) hs ⟨q',hq⟩ (pT ⟨uB,nm,_,Dr.put .nil ik r2,q',es,ep,hq,h2,h3,h4,h5⟩),rfl,q⟩
end L2
namespace L3
open PySem.Spec L2 L5 PyProof.Rows
def MY(tk tv:cw):cw:=λ δ M Q=>∀p,M p=none->tk δ (ai M p (.cO true [])) λ x M1=>tv δ M1 λ y M2=>M2 p=some (.cO true [])/\je true x/\Q (.ref p) (ai M2 p (.cO true [(x,y)]))
theorem Jw{k v:Expr}{tk tv:cw}{pos:Pos}(hu:X.A.units+64 < cLine)(hk:QE X k tk)(hv:QE X v tv):QE X (.Dict [some k] [v] pos) (MY tk tv):=by refine bJ (Fn hu hk hv) ?_;rintro σ H Q ⟨δ,M,Q2,hs,hm,q,k⟩ p hp;have t0:au H (ci H p (nk p [])):=au.laid hp;refine⟨δ,ai M p (.cO true []),_,hs.mono t0,hm.put (u:=.cO true []) t0 ⟨[],aL,.nil⟩,q p (hm.free hp),λ x H1 d M1 hd bR t1 q1=>?_⟩;refine⟨δ,M1,_,(hs.mono t0).mono t1,bR,q1,λ y H2 e M2 he mP t2 q2=>?_⟩;obtain⟨fM,⟨ks,rfl,ll⟩,q2⟩:=q2;have hd2:=bi.mono t2 _ hd;obtain⟨b,rfl⟩:=nH hd2;obtain⟨xs,hx,rel⟩:=mP p _ fM;cases rel;have t:=au.mut (o:=nk p (iu [] (.t ks) b y)) hx (λ _ z=>by cases z) (λ _ _ z=>by cases z);exact⟨b,.t ks,rfl,hx,ll,mr _ hd2,k _ _ _ _ (aF.mpr rfl) (mP.put (u:=.cO true [(qq (.t ks),e)]) t ⟨_,aL,((Dk.put (kvs:=[]) .nil (.t ks) ll hd2 he):Dk X.K H2 [(qq (.t ks),e)] (iu [] (.t ks) b y)).mono t⟩) ((t0.trans t1).trans (t2.trans t)) q2⟩
section
variable {Q:bW}{kvs:List (D×D)}{x y v:D}{t:Bool}{N:Mem->Prop}{xs:List D}
theorem rn(h:M a=some (.cO t kvs))(hk:je t x)(q:Q (.bl (!(dC kvs x).isSome)) M):AR x (.ref a) M Q:=.inr ⟨a,t,kvs,rfl,h,hk,q⟩
theorem bx(h:Ra x y M Q):Qk x y M Q:=.inl h
theorem jR(h:M a=some (.cO t kvs))(hk:je t x)(e:dC kvs x=some d)(q:Q d M):Qk (.ref a) x M Q:=.inr ⟨a,t,kvs,d,rfl,h,hk,e,q⟩
theorem sS(h:M a=some (.cO t kvs))(hk:je t x)(hl:kvs.length < sizeLine)(q:N (ai M a (.cO t (putD kvs x v)))):Mh (.ref a) x v M N:=.inr ⟨a,t,kvs,rfl,h,hk,hl,q⟩
theorem iT(h:CT xs M Q):G' xs M Q:=.inl h
end
end L3
namespace KK
open L3 L4 L5
open L2 hiding aR ir
abbrev Row:=List Int
end KK
variable {x0 r q:List KK.Row}{ls cD:KK.Row}
namespace KK
open L3 L4 L5
open L2 hiding aR ir
theorem be.free(h:be M M')(hp:M' p=none):M p=none:=by
 cases e:M p with
 |none=>rfl
 |some o=>rw[h p o e]at hp;cases hp
theorem be.trans{M2:Mem}(h:be M M1)(g:be M1 M2):be M M2:=λ b o e=>g b o (h b o e)
theorem be.new(h:be M M')(hp:M' p=none)(x:MO):be M (ai M' p x):=V' h hp x
theorem bM{q:ww}{x:MO}(h:M p=some x)(g:M q=none):p≠q:=λ z=>by subst z;rw[h]at g;cases g
open L3 L4 L5
open L2 hiding aR ir
theorem RH{ds:List α}{X:Prop}(h:ds.length<=16)(q:X):ds.length<=sizeLine/\X:=⟨D1 h (by decide),q⟩
theorem o_{Q:bW}(q:Q (.bl true) M):yF false .bK .bK M Q:=q
open L3 L4 L5
open L2 hiding aR ir
theorem HQ(a:Nat):∀b:Nat,(a^^^b)+2*(a&&& b)=a+b:=by
 induction a using Nat.strongRecOn with
 |ind a ih=>
  intro b;by_cases h:a=0
  ·subst h;simp
  ·have h1:=ih (a / 2) (by lia) (b / 2);rw[<- Nat.xor_div_two,<- Nat.and_div_two]at h1;have x1:(a^^^b) % 2=1↔¬(a % 2=1↔b % 2=1):=Nat.xor_mod_two_eq_one;have x2:(a&&& b) % 2=1↔a % 2=1/\b % 2=1:=Nat.and_mod_two_eq_one;lia
theorem yQ(a b:Nat):Builtin.bitXor (a:Int) (b:Int)=((a^^^b:Nat):Int):=by rw[PyProof.Rows.bitXor_and,PyProof.Rows.bitAnd_pp (by lia) (by lia)];have:=HQ a b;simp only[r6];lia
open L3 L4 L5
open L2 hiding aR ir
structure Tb(m h:Nat)(x0:List Row):Prop where
 len:x0.length=m
 pos:0 < m
 cY:m<=300
 tS:h<=12
 row:∀r∈x0,r.length=h/\∀x∈r,0<=x/\x < (m:Int)
def bI(x0:List Row)(ls:Row):D:=.tup [.tup (x0.map row),row ls]
def aG(x0:List Row)(h x:Nat):Nat:=((x0.getD x []).getD h 0).toNat
theorem Tb.at{h:Nat}(T:Tb m h x0){x:Nat}(hx:x < m)(hi:i < h):(x0.getD x []).length=h/\(x0.getD x []).getD i 0=(aG x0 i x:Int)/\aG x0 i x < m:=by
 have wa:x < x0.length:=by rw[T.len];exact hx
 have e:x0.getD x []=x0[x]:=by rw[c6,i0 wa];rfl
 have hr:=T.row _ (x9 wa);unfold aG;rw[e];have Q5:i < (x0[x]).length:=by rw[hr.1];exact hi
 have e2:(x0[x]).getD i 0=(x0[x])[i]:=by rw[c6,i0 Q5];rfl
 have hb:=hr.2 _ (x9 Q5);rw[e2];exact⟨hr.1,by lia,by lia⟩
def du(f:Nat->Nat):Nat->Nat->Nat
 |0,x=>x
 |n+1,x=>du f n (f x)
theorem kZ(f:Nat->Nat):∀a b x,du f (a+b) x=du f b (du f a x)
 |0,b,x=>by rw[D3];rfl
 |a+1,b,x=>by rw[Nat.succ_add];exact kZ f a b (f x)
theorem Ga(f:Nat->Nat)(n x:Nat):du f (n+1) x=f (du f n x):=kZ f n 1 x
theorem i_{f:Nat->Nat}(hf:∀x,x < m->f x < m):∀n x,x < m->du f n x < m
 |0,x,h=>h
 |n+1,x,h=>i_ hf n (f x) (hf x h)
theorem CA{f:Nat->Nat}{x a L:Nat}(ha:a < L)(e:du f L x=du f a x)(hn:L<=n):du f (a+(n - a) % (L - a)) x=du f n x:=by
 have hp:0 < L - a:=by lia
 have one:∀k y,du f (a+y+k*(L - a)) x=du f (a+y) x:=by
  intro k
  induction k with
  |zero=>intro y;rw[Nat.zero_mul];rfl
  |succ k ih=>intro y;rw[Nat.succ_mul,show a+y+(k*(L - a)+(L - a))=L+(y+k*(L - a)) by lia,kZ,e,<- kZ,show a+(y+k*(L - a))=a+y+k*(L - a) by lia];exact ih y
 have h:=one ((n - a) / (L - a)) ((n - a) % (L - a));rw[<- h];congr 1;have:=Nat.div_add_mod (n - a) (L - a);rw[Nat.mul_comm]at this;lia
def fI(x0:List Row):Nat->Nat->Row->Nat
 |_,x,[]=>x
 |i,x,c::cs=>fI x0 (i+1) (du (aG x0 i) c.toNat x) cs
theorem Tb.gL{h:Nat}(T:Tb m h x0)(hi:i < h):∀x,x < m->aG x0 i x < m:=λ x hx=>(T.at hx hi).2.2
theorem jP{h:Nat}(T:Tb m h x0):∀(cs:Row) (i x:Nat),i+cs.length<=h->x < m->fI x0 i x cs < m
 |[],i,x,_,hx=>hx
 |c::cs,i,x,hi,hx=>by rw[x3]at hi;exact jP T cs (i+1) _ (by lia) (i_ (T.gL (by lia)) _ _ hx)
theorem uR(x0:List Row):∀(cs:Row) (i x:Nat) (c:Int),fI x0 i x (cs++[c])=du (aG x0 (i+cs.length)) c.toNat (fI x0 i x cs)
 |[],i,x,c=>rfl
 |d::cs,i,x,c=>by show fI x0 (i+1) _ (cs++[c])=_;rw[uR x0 cs (i+1),x3,show i+1+cs.length=i+(cs.length+1) by lia];rfl
end KK
namespace L2
open PySem.Spec PyProof.Rows
theorem BB{x:V}(r:ce (x::xs) us):∃u ws,us=u::ws/\bn x u/\ce xs ws:=by
 cases r with
 |cons a b=>exact⟨_,_,rfl,a,b⟩
open PySem.Spec PySem.W PySem.Calls PyProof.Rows L5
theorem yl:∀(vs:List jp) (ns:List Int),vs.length=ns.length->(∀(j:Nat) (v:jp) (n:Int),vs[j]?=some v->ns[j]?=some n->∃t:Tok,v=Value.int n t)->IntsAre vs ns
 |[],[],_,_=>.nil
 |[],_::_,h,_=>by cases h
 |_::_,[],h,_=>by cases h
 |v::vs,n::ns,h,k=>by obtain⟨t,rfl⟩:=k 0 v n rfl rfl;exact .cons n t (yl vs ns (by simpa using h) λ j v n a b=>k (j+1) v n (by simpa using a) (by simpa using b))
theorem pJ{vs:List jp}(h:IntsAre vs ns):ce (ns.map V.int) vs:=by
 induction h with
 |nil=>exact .nil
 |cons n t _ ih=>exact .cons ⟨t,rfl⟩ ih
theorem k_:∀{ns:List Int} {vs:List jp},ce (ns.map V.int) vs->IntsAre vs ns
 |[],_,h=>by cases h;exact .nil
 |n::ns,_,h=>by obtain⟨u,us,rfl,ru,r⟩:=BB h;obtain⟨t,rfl⟩:=ru;exact .cons n t (k_ r)
theorem wI(hc:X.calm=true):dw X (.builtin "sorted") (λ xs H Q=>∃(a:ww) (kvs:List (Key×V)) (ns:List Int),xs=[.ref a]/\H a=some (.dK kvs)/\kvs.map (·.1)=ns.map Sum.inl/\ns.length < 64/\∀(fh:List Int) (p:ww),fh.Perm ns->fh.Pairwise (·<=·)->H p=none->Q (.ref p) (ci H p (.lst (fh.map V.int)))):=by
 intro xz s σ H xs us Q I r ⟨a,kvs,ns,e,hd,hk,Mb,q⟩;subst e;obtain⟨u,rfl,rx⟩:=vals1 r;cases(show u=Value.ref a from rx);obtain⟨z,nm,vs,rel,dd⟩:=GS I.bt hd;obtain⟨ep,PU⟩:=dd.dictAt;have len:vs.length=ns.length:=by rw[<- B9 rel];have:=H9 List.length hk;simpa using this
 refine call_function_entry kind_sorted plain_sorted entry_sorted (args_sorted1 _) ?_;unfold Builtin.«sorted»;refine G4 (m:=checkCount "sorted" 1 1 _) (G5 (G4 (kdu_collect (A:=X.A.in1) (kdl_dict (knd:=c_ X.prog X.w) (kvs:=vs) (ep:=ep) nm) (show X.A.in1.handled=none from I.ok.hd hc) PU (by rw[G0];lia) λ h' tk zn WU eG=>?_)));have hl:zn.toList.length=ns.length:=by rw[l9,eG.1,len]
 have keys:vs.map (·.1)=ns.map Sum.inl:=by
  rw[<- hk];clear hk hd PU dd eG len q z
  induction rel with
  |nil=>rfl
  |cons p _ ih=>rw[C3,C3,ih,p.1]
 have hI:IntsAre zn.toList ns:=yl _ _ hl λ j v n a b=>by
  obtain⟨k,x,e1,e2⟩:=eG.2 j v (by rw[<- j9];exact a);have e3:k=Sum.inl n:=by have:=H9 (λ l=>l[j]?) keys;simp only[r0,e1,b,Option.map_some,Option.some.injEq]at this;exact this
  subst e3;rcases bZ (show pF (Sum.inl n) v=true from e2)with⟨i,t,h1,rfl⟩|⟨x,t,h1,rfl⟩
  ·cases h1;exact⟨t,rfl⟩
  ·cases h1
 refine G4 (wpAny_newList ?_ (by rw[hl,G0];lia));have KO:(h'.push (seqObj "list" zn.toList.toArray 0)).get? h'.objs.size=some (seqObj "list" zn.toList.toArray 0):=m8 _ rfl;refine G4 (B7 (x5 slot_list_sort ⟨_,KO,rfl⟩ entry_list_sort (list_sort_tree KO hI (by lia) λ out fh a1 a2 a3=>⟨_,rfl,?_⟩) (args_list_sort _)));refine G5 ⟨_,rfl,?_⟩;obtain⟨c,L_⟩:=sortedHeap_at (out:=out) KO;have I0:bd X xz σ H {s with heap:=h',toks:=tk}:=I.kept (t':=tk) WU;have kp:∀b o,h'.get? b=some o->(sortedHeap (h'.push (seqObj "list" zn.toList.toArray 0)) h'.objs.size zn.toList out).get? b=some o:=λ b o e=>by rw[sortedHeap_old (C6 (C7 e)) (by rw[size_push'];exact w5 (C7 e))];exact j0 _ e
 exact⟨.ref h'.objs.size,_,I0.laid (t':=tk) kp (D9 _) (show bO X.prog X.w _ _ _ (.lst (fh.map V.int))from⟨by rw[A5,a2.length_eq,G0];lia,out.toList,c,pJ a1,by rw[Array.toArray_toList];exact L_⟩),rfl,q fh _ a2 a3 (I0.bt.fresh (D9 _))⟩
theorem wH:dw X (.builtin "sorted") (λ xs H Q=>∃(a:ww) (ns:List Int),xs=[.ref a]/\gB X.K H a (ns.map V.int)/\ns.length < 64/\∀(fh:List Int) (p:ww),fh.Perm ns->fh.Pairwise (·<=·)->H p=none->Q (.ref p) (ci H p (.lst (fh.map V.int)))):=by intro xz s σ H xs us Q I r ⟨a,ns,e,hq,Mb,q⟩;subst e;obtain⟨u,rfl,rx⟩:=vals1 r;cases(show u=Value.ref a from rx);obtain⟨aB,r',pl,hz⟩:=I.list hq;have hI:=k_ r';have hl:=r'.length;rw[A5]at hl;refine sorted_ints pl.isList hI (by lia) λ out fh a1 a2 a3=>?_;obtain⟨c,L_⟩:=sortedAll_at s.heap aB out;exact⟨.ref (s.heap.objs.size+1),_,I.laid (t':=s.toks) (λ _ _=>sortedAll_old) (Nat.le_succ _) (show bO X.prog X.w _ _ _ (.lst (fh.map V.int))from⟨by rw[A5,a2.length_eq,G0];lia,out.toList,c,pJ a1,by rw[Array.toArray_toList];exact L_⟩),rfl,q fh _ a2 a3 (I.bt.fresh (Nat.le_succ _))⟩
end L2
namespace L3
open PySem.Spec L2 L5 PyProof.Rows
def GZ:List D->Mem->bW->Prop:=λ xs M Q=>∃(a:ww) (ns:List Int),xs=[.ref a]/\((∃kvs,M a=some (.cO false kvs)/\kvs.map (·.1)=ns.map D.int)\/M a=some (.lst (ns.map D.int)))/\ns.length < 64/\∀(fh:List Int) (p:ww),fh.Perm ns->fh.Pairwise (·<=·)->M p=none->Q (.ref p) (ai M p (.lst (fh.map D.int)))
theorem rE:∀{xs:List Key} {ns:List Int},xs.map jT=ns.map D.int->xs=ns.map Sum.inl
 |[],[],_=>rfl
 |[],_::_,h=>by cases h
 |_::_,[],h=>by cases h
 |x::xs,n::ns,h=>by
  rw[C3,C3,List.cons.injEq]at h;rw[C3,rE h.2];cases x with
  |inl i=>have:=h.1;simp only[jT,D.int.injEq]at this;rw[this]
  |inr i=>have:=h.1;simp[jT]at this
theorem Ld(hc:X.calm=true):dZ X (.builtin "sorted") GZ:=⟨_,(wI hc).or wH,λ xs ds H M Q2 Q hd hm q k=>by
 obtain⟨a,ns,rfl,hs,Mb,q⟩:=q;obtain⟨x,r,rfl,hx,hr⟩:=ah.mp hd;cases(ar.mp hr);cases(aF.mp hx);have fin:∀(fh:List Int) (p:ww),fh.Perm ns->fh.Pairwise (·<=·)->H p=none->Q (.ref p) (ci H p (.lst (fh.map V.int))):=λ fh p a1 a2 hp=>k _ _ (.ref p) _ (aF.mpr rfl) (eK hp (jA fh) hm) (au.laid hp) (q fh p a1 a2 (hm.free hp));rcases hs with⟨kvs,hM,hk⟩|hM
 ·obtain⟨ys,hy,rel⟩:=hm a _ hM;refine .inl ⟨a,ys,ns,rfl,hy,?_,Mb,fin⟩;refine rE ?_;rw[<- hk];clear hk hy hM q fin
  induction rel with
  |nil=>rfl
  |cons p _ ih=>rw[C3,C3,C3,ih,p.1]
 ·obtain⟨ys,hy,PJ⟩:=hm a _ hM;rw[jX PJ]at hy;exact .inr ⟨a,ns,rfl,gB.of hy,Mb,fin⟩⟩
theorem BS{Q:bW}(ns:List Int)(h:M a=some (.lst (ns.map D.int)))(Mb:ns.length < 64)(q:∀(fh:List Int) (p:ww),fh.Perm ns->fh.Pairwise (·<=·)->M p=none->Q (.ref p) (ai M p (.lst (fh.map D.int)))):GZ [.ref a] M Q:=⟨a,ns,rfl,.inr h,Mb,q⟩
end L3
namespace L4
open L2 L3
theorem X2{A:Type}{P:List A->Prop}(h:∀a t,t.length=n->P (a::t)):∀us:List A,us.length=n+1->P us
 |[],e=>nomatch e
 |a::t,e=>h a t (Nat.succ.inj e)
theorem X3{A:Type}{P:List A->Prop}(h:∀a,P [a]):∀us:List A,us.length=1->P us:=X2 λ a t e=>by rw[a9 e];exact h a
theorem ln2{A:Type}{P:List A->Prop}(h:∀a b,P [a,b]):∀us:List A,us.length=2->P us:=X2 λ a=>X3 (P:=λ t=>P (a::t)) (h a)
end L4
namespace L2
open PySem.Spec PyProof.Rows
section
open PySem.AutoSeq1 (wpAny_loadPart')
theorem qI{Q:List jp->kt->Prop}{r:ww}{a b c:Int}{t u v:Tok}(hh:A.handled=none)(hr:IsRange s.heap r a b c t u v)(pK:Builtin.Range.small a b c=true)(hn:Builtin.Range.rangeSize a b c=n)(hlen:n<=2^24) (hQ:∀h' tk zn,(∀b o,s.heap.get? b=some o->h'.get? b=some o)->ItemsOf (λ i v=>∃t,v=.int (a+i*c) t) zn n->Q zn.toList {s with heap:=h',toks:=tk}):wpAny (model prog w) A (collect (.ref r)) Q E s:=by
 unfold collect;refine G4 (wpAny_runValue (A4 F.entry_proto_collect ?_));rw[k9 F.plain_proto_collect _];show wpAny _ A.in1 (newList [] >>= λ l=>again (.builtin "list.__iadd__" ⟨[l,.ref r],[]⟩)) _ _ s;refine G4 (r9 ?_);refine G5 ⟨plainId_quiet F.plain_list_iadd _,A4 F.entry_list_iadd ?_⟩;rw[k9 F.plain_list_iadd _];show wpAny _ A.in1 (Builtin.List.listExtendWith (.ref s.heap.objs.size) (.ref r) (.ref s.heap.objs.size)) _ _ _;have hS:(s.heap.push {cls:=.type "list",data:=.seq ([]:List jp).toArray}).get? s.heap.objs.size=some {cls:=.type "list",data:=.seq #[] 0}:=m8 _ rfl;have To:∀(h':Heap) (tk:Nat) (hG:Array jp) (c':Nat),(∀b o,b≠s.heap.objs.size->(s.heap.push {cls:=.type "list",data:=.seq ([]:List jp).toArray}).get? b=some o->h'.get? b=some o)->h'.get? s.heap.objs.size=some {cls:=.type "list",dict:=none,data:=.seq hG c',slots:=#[]}->ItemsOf (λ i v=>∃t,v=.int (a+i*c) t) hG n->
   wpAny (model prog w) A (match Value.ref s.heap.objs.size with
   |Value.ref a=>do
    match(<- load a).data with
     |Data.seq xs _=>pure xs.toList
     |_=>unsupported "internal:collect"
   |_=>unsupported "internal:collect") Q E {s with heap:=h',toks:=tk}:=λ h' tk hG c' hk HC eG=>by
  show wpAny _ A (load s.heap.objs.size >>= _) _ _ _;refine G4 (wpAny_load HC ?_);exact G5 (hQ h' tk hG (λ b o e=>hk b o (C6 (C7 e)) (j0 _ e)) eG)
 refine G8 (wpAny_extend_range (A:=A) (R:=λ r s'=>∃h' tk hG c',r=.ok (.ret (.ref s.heap.objs.size))/\s'={s with heap:=h',toks:=tk}/\(∀b o,b≠s.heap.objs.size->(s.heap.push {cls:=.type "list",data:=.seq ([]:List jp).toArray}).get? b=some o->h'.get? b=some o)/\h'.get? s.heap.objs.size=some {cls:=.type "list",dict:=none,data:=.seq hG c',slots:=#[]}/\ItemsOf (λ i v=>∃t,v=.int (a+i*c) t) hG n)
  (s:={s with heap:=s.heap.push {cls:=.type "list",data:=.seq ([]:List jp).toArray}}) hh (j0 _ hr) pK hn hlen s.heap.objs.size _ 0 hS λ h' tk hG c' hk HC eG=>⟨h',tk,hG,c',rfl,rfl,hk,HC,eG⟩) (λ fin s' h=>?_) (λ e s' h=>?_)
 ·cases fin with
  |done f=>obtain⟨h',tk,hG,c',e,rfl,hk,HC,eG⟩:=h;cases e;exact To h' tk hG c' hk HC eG
  |again c''=>exact⟨h.1,D6 h.2 λ r UN hr=>by obtain⟨h',tk,hG,c',rfl,rfl,hk,HC,eG⟩:=hr;exact To h' tk hG c' hk HC eG⟩
 ·obtain⟨_,_,_,_,e,_⟩:=h;cases e
theorem mX(r:ww){a b c:Int}{t u v:Tok}(pK:Builtin.Range.small a b c=true)(hn:Builtin.Range.rangeSize a b c=n)(hlen:n<=2^24)(hz:n<=sizeLine):Meets (Builtin.«tuple.__new__» ⟨[.type "tuple",.ref r],[]⟩)
   (λ A R s=>A.handled=none/\IsRange s.heap r a b c t u v/\∀(h':Heap) (tk:Nat) (zn:Array jp),(∀b o',s.heap.get? b=some o'->h'.get? b=some o')->ItemsOf (λ i v=>∃t,v=.int (a+i*c) t) zn n->R (.ok (.ret (.ref h'.objs.size))) {s with heap:=h'.push {cls:=.type "tuple",data:=.seq zn},toks:=tk}):=
 .of_wp λ prog w A R s h=>by
  obtain⟨hp,g,d,tk,os⟩:=s;obtain⟨hh,hr,h⟩:=h;have Gn:=sub_tuple_self;have Yp:=init_tuple_lookup;have hmh:=madeHere_tuple;have hT:Shared.TypeIs ⟨hp,g,d,tk,os⟩ (.ref r) "range":=⟨_,hr,rfl⟩
  wp_walk using z9 hr,D5 hT,qI (A:=A.in1) hh hr pK hn hlen
  intro h' MD zn hk eG;show wpAny _ _ (Builtin.Tuple.tupleExact zn.toList.toArray >>= λ v=>ret v) _ _ _;unfold Builtin.Tuple.tupleExact;have e:zn.toList.toArray=zn:=by simp
  have el:zn.size=n:=eG.1;refine G4 (r9 ?_ (by show zn.toList.toArray.size<=sizeLine;rw[e,el];exact hz));refine G5 ⟨_,rfl,?_⟩;rw[e];exact h h' MD zn hk eG
theorem mE{r:ww}{a b c:Int}{t u v:Tok}(hh:A.handled=none)(hr:IsRange s.heap r a b c t u v)(pK:Builtin.Range.small a b c=true)(hn:Builtin.Range.rangeSize a b c=n)(hlen:n<=2^24)(hz:n<=sizeLine) (h:∀(h':Heap) (tk:Nat) (zn:Array jp),(∀b o',s.heap.get? b=some o'->h'.get? b=some o')->ItemsOf (λ i v=>∃t,v=.int (a+i*c) t) zn n->Q (.ref h'.objs.size) {s with heap:=h'.push {cls:=.type "tuple",data:=.seq zn},toks:=tk}):wpAny (model prog w) A (call (.type "tuple") [.ref r]) Q E s:=
 callType_new F.called_tuple (by decide) (F.typeCall_tuple_1 _) (F.newCall_tuple_1 _) (λ obj=>F.args_object_init_2 obj _) F.entry_tuple_new
  (mX r pK hn hlen hz) ⟨hh,hr,λ h' tk zn hk eG=>⟨⟨_,m8 _ rfl,rfl⟩,h h' tk zn hk eG⟩⟩
end
def lS(lo:Int)(n:Nat):List V:=(List.range n).map λ(i:Nat)=>V.int (lo+(i:Int))
theorem rl{zn:Array jp}(h:ItemsOf (λ i v=>∃t,v=Value.int (lo+(i:Int)*1) t) zn n):ce (lS lo n) zn.toList:=by
 obtain⟨hl,hv⟩:=h;have go:∀(m:Nat) (vs:List jp) (k:Nat),vs.length=m->(∀j v,vs[j]?=some v->∃t,v=Value.int (lo+((k+j:Nat):Int)) t)->ce ((List.range' k m).map λ(i:Nat)=>V.int (lo+(i:Int))) vs:=by
  intro m
  induction m with
  |zero=>intro vs k hl _;rw[a9 hl];exact .nil
  |succ m ih=>
   intro vs k hl hv;cases vs with
   |nil=>cases hl
   |cons v vs=>rw[range'_succ,C3];obtain⟨t,rfl⟩:=hv 0 v rfl;refine .cons ⟨t,by simp⟩ (ih vs (k+1) (by simpa using hl) λ j u hj=>?_);obtain⟨t,e⟩:=hv (j+1) u (by simpa using hj);refine⟨t,?_⟩;rw[e];congr 1;lia
 have:=go n zn.toList 0 (by simpa using hl) (λ j v hj=>by
  obtain⟨t,e⟩:=hv j v (by simpa using hj);refine⟨t,?_⟩;rw[e,D3,Int.mul_one])
 rw[<- range_eq_range']at this;exact this
theorem CV(hc:X.calm=true):dw X (.type "tuple") (λ xs H Q=>∃r lo hi,xs=[.ref r]/\H r=some (.xH lo hi)/\(-100000000<=lo/\lo<=100000000)/\(-100000000<=hi/\hi<=100000000)/\(hi - lo).toNat<=10000/\∀p,H p=none->Q (.ref p) (ci H p (.tup (lS lo (hi - lo).toNat)))):=by
 intro xz s σ H xs us Q I rr ⟨r,lo,hi,e,hr,h1,h2,hn,q⟩;subst e;obtain⟨u,rfl,rx⟩:=vals1 rr;cases rx;obtain⟨t,u,v,ho⟩:=I.bt r _ hr;have es:Builtin.Range.rangeSize lo hi 1=(((hi - lo).toNat:Nat):Int):=by rw[rangeSize_one];split <;> lia
 refine mE (a:=lo) (b:=hi) (c:=1) (t:=t) (u:=u) (v:=v) (n:=(hi - lo).toNat) (I.ok.hd hc) ho (small_one (by lia) (by lia) (by lia) (by lia)) es (by lia) (D1 hn (by decide)) λ h' tk zn kp eG=>?_;have I1:bd X xz σ H {s with heap:=h',toks:=tk}:=I.kept (t':=tk) kp;have hv:=rl eG;have I2:bd X xz σ (ci H h'.objs.size (.tup (lS lo (hi - lo).toNat))) {s with heap:=h'.push {cls:=.type "tuple",data:=.seq zn},toks:=tk}:=
  I1.laid (t':=tk) (λ b o e=>j0 _ e) (D9 _) (show bO X.prog X.w _ _ _ (.tup (lS lo (hi - lo).toNat))from⟨by unfold lS;rw[A5,u6];exact D1 hn (by decide),zn.toList,hv,by rw[show zn.toList.toArray=zn by simp];exact IsTup.new _ _⟩)
 exact⟨.ref h'.objs.size,_,I2,rfl,q _ (I1.bt.fresh (D9 _))⟩
theorem rY:dw X (.type "range") (λ xs H Q=>∃j:Int,xs=[.int j]/\∀r,H r=none->Q (.ref r) (ci H r (.xH 0 j))):=by intro xz s σ H xs us Q I rr ⟨j,e,q⟩;subst e;obtain⟨u,rfl,t,rfl⟩:=vals1 rr;refine call_range_1 ⟨.ref s.heap.objs.size,_,I.laid (t':=s.toks+1+1) (o:=.xH 0 j) (λ b o e=>j0 _ e) (D9 _) ⟨_,_,_,m8 _ rfl⟩,rfl,q _ (I.bt.fresh (D9 _))⟩
theorem CZ:dw X (.type "range") (λ xs H Q=>∃i j:Int,xs=[.int i,.int j]/\∀r,H r=none->Q (.ref r) (ci H r (.xH i j))):=by intro xz s σ H xs us Q I rr ⟨i,j,e,q⟩;subst e;obtain⟨u,u2,rfl,⟨t,rfl⟩,⟨t2,rfl⟩⟩:=vals2 rr;refine call_range_2 ⟨.ref s.heap.objs.size,_,I.laid (t':=s.toks+1) (o:=.xH i j) (λ b o e=>j0 _ e) (D9 _) ⟨_,_,_,m8 _ rfl⟩,rfl,q _ (I.bt.fresh (D9 _))⟩
end L2
namespace L3
open PySem.Spec PyProof.Rows L2
section
variable {a:Expr}{p pos:Pos}
def Ee(ta:dF):cw:=λ δ M Q=>ta δ M λ ds M1=>∃n:Nat,ds=[.int n]/\n<=10000/\Q (.tup (ck 0 n)) M1
theorem pV(lo:Int)(n:Nat):aD K H (ck lo n) (lS lo n):=by
 unfold ck lS;generalize List.range n=l
 induction l with
 |nil=>exact ar.mpr rfl
 |cons x l ih=>exact ah.mpr ⟨_,_,rfl,ax.mpr rfl,ih⟩
theorem NS(hc:X.calm=true)(hg:Gl X "tuple")(hm:X.mg "tuple"=none)(GB:Gl X "range")(Gy:X.mg "range"=none)(ha:QA X [a] ta)(hs:starEach [a] X.env=[(false,eval a X.env)]:=by rfl):QE X (.Call (.Name "tuple" p) [.Call (.Name "range" p2) [a] [] cU] [] pos) (Ee ta):=by
 refine bJ (dM (CV hc) hg hm (by decide+kernel) (jn (dM rY GB Gy (by decide+kernel) ha (by decide) (by decide) (by rw[hs];rfl)) lT)) ?_;rintro σ H Q ⟨δ,M,Q2,hs,hm,q,k⟩;refine⟨δ,M,_,hs,hm,q,λ xs H1 ds M1 hd bR t1 ⟨n,e,hn,q1⟩=>?_⟩;subst e;obtain⟨x,r,rfl,hx,hr⟩:=ah.mp hd;cases(ar.mp hr);cases(ax.mp hx);refine⟨n,rfl,λ r Hz=>?_⟩;refine⟨r,0,n,rfl,aL,⟨by decide,by decide⟩,⟨by lia,by lia⟩,by lia,λ p hp=>?_⟩;have Wy:p≠r:=λ z=>by subst z;rw[aL]at hp;cases hp
 have t2:au H1 (ci H1 r (.xH 0 n)):=au.laid Hz;have t3:=au.laid (o:=.tup (lS 0 ((n:Int) - 0).toNat)) hp;refine k _ _ _ M1 (a_.mpr ⟨p,_,rfl,.inl (.inl aL),?_⟩) ((bR.laid Hz).laid hp) (t1.trans (t2.trans t3)) q1;rw[show((n:Int) - 0).toNat=n by lia];exact pV 0 n
end
end L3
namespace L4
open L2 L3
theorem Ms{a:Expr}{p pos:Pos}(hc:X.calm=true)(hg:Gl X "tuple")(hm:X.mg "tuple"=none)(GB:Gl X "range")(Gy:X.mg "range"=none)(ha:WA X [a] ta)(hs:starEach [a] X.env=[(false,eval a X.env)]:=by rfl):WE X (.Call (.Name "tuple" p) [.Call (.Name "range" p2) [a] [] cU] [] pos) (Ee ta):=⟨NS hc hg hm GB Gy ha.h hs⟩
theorem IB{Q:bW}(h:ta δ M λ ds M1=>∃n:Nat,ds=[.int n]/\n<=10000/\Q (.tup (ck 0 n)) M1):Ee ta δ M Q:=h
end L4
namespace L2
open PySem.Spec PyProof.Rows L5
open PySem.AutoSeq1 (wpAny_loadPart')
section
variable {T1 T2:String}{S1 S2:Heap->ww->Array jp->Prop}
theorem fO{M:Model}{Q:Option Obj->kt->Prop}(h:Q (s.heap.get? a) s):wpAny M A (loadIfAlive a) Q E s:=λ Γ p hΓ=>by unfold loadIfAlive;simp only[Sem.wp_loadIfAlive];exact G5 h Γ p hΓ
abbrev jf(h:Heap)(z u v r:ww)(f1:Bool):Prop:=h.get? z=some {cls:=.type "zip",dict:=none,data:=.fields #[rawInt r,.bool f1,.bool false,.ref u,.ref v],slots:=#[]}
end
open PySem.Spec PyProof.Rows L5
open PySem.AutoSeq1 (wpAny_loadPart')
theorem xa:typeLookup (.type "zip") "__len__"=pure none:=by rw[typeLookup_type,builtinLookup_eq_fast];kernel_rfl
theorem uF:typeLookup (.type "zip") "__length_hint__"=pure none:=by rw[typeLookup_type,builtinLookup_eq_fast];kernel_rfl
open PySem.Spec PyProof.Rows L5
section
variable {e2:Expr}{ta:TA}{p pos:Pos}
theorem uN:∀ps:List ww,ce (ps.map V.ref) (ps.map Value.ref)
 |[]=>.nil
 |p::ps=>.cons rfl (uN ps)
end
end L2
namespace L3
open PySem.Spec PyProof.Rows L2 L5
theorem sO{xs:List D}(hm:bv K H M)(e:cA M d=some xs)(hd:bi K H d v):∃(b:Bool) (l:ww) (xv:List V),v=.ref l/\Sq b K H l xv/\aD K H xs xv:=by
 obtain⟨p,xv,rfl,h1,h2⟩:=iL e hd hm;cases h1 with
 |inl h1=>exact⟨false,p,xv,rfl,h1,h2⟩
 |inr h1=>exact⟨true,p,xv,rfl,h1,h2⟩
end L3
namespace L5
open L2
structure Sr where
 a:ww
 l:ww
 k:Bool
 xs:Array jp
def Sr.on (q:Sr)(h:Heap)(i:Nat):Prop:=match q.k with
 |true=>dN "tuple_iterator" h q.a q.l i/\Heap.IsTuple h q.l q.xs
 |false=>dN "list_iterator" h q.a q.l i/\Heap.IsList h q.l q.xs
theorem Sr.keep{q:Sr}{h:Heap}(x:q.on h i)(k1:∀o,h.get? q.a=some o->h'.get? q.a=some o)(k2:∀o,h.get? q.l=some o->h'.get? q.l=some o):q.on h' i:=by
 unfold Sr.on at x ⊢;split at x
 ·exact⟨x.1.keep k1,iW.keep x.2 k2⟩
 ·exact⟨x.1.keep k1,kS.keep x.2 k2⟩
structure Ap(qs:List Sr):Prop where
 nd:(qs.map (·.a)).Nodup
 la:∀q∈qs,∀r∈qs,q.l≠r.a
theorem Ap.tail{q:Sr}{qs:List Sr}(D:Ap (q::qs)):Ap qs:=⟨(nodup_cons.mp D.nd).2,λ a ha b hb=>D.la a (.tail _ ha) b (.tail _ hb)⟩
theorem Ap.ne{q r:Sr}{qs:List Sr}(D:Ap (q::qs))(h:r∈qs):r.a≠q.a:=λ e=>(nodup_cons.mp D.nd).1 (by show q.a∈_;rw[<- e];exact List.mem_map_of_mem (f:=λ x:Sr=>x.a) h)
abbrev rowAt(qs:List Sr)(i:Nat):List jp:=qs.map λ q=>q.xs.getD i .none
set_option tactic.hygienic true in
theorem Sr.item{q:Sr}(x:q.on s.heap i)(lt:i < q.xs.size)(n:q.l≠q.a) (k:∀h',q.on h' (i+1)->Heap.SameBut q.a s.heap h'->Q (q.xs.getD i .none) {s with heap:=h'}):wpAny (model prog w) A (Builtin.SmallTypes.nextOf (.ref q.a)) Q E s:=by
 have e:q.xs[i]?=some (q.xs.getD i .none):=by rw[c8 lt,Array.getD_eq_getD_getElem?,c8 lt];rfl
 unfold Sr.on at x;split at x
 ·rename_i hk;exact iW.item x.1 x.2 e λ h' a s'=>k h' (by unfold Sr.on;rw[hk];exact⟨a,iW.keep x.2 λ o e=>s'.extBut _ _ n e⟩) s'
 ·rename_i hk;exact kS.item x.1 x.2 e λ h' a s'=>k h' (by unfold Sr.on;rw[hk];exact⟨a,kS.keep x.2 λ o e=>s'.extBut _ _ n e⟩) s'
theorem Sr.stop{q:Sr}(hA:A.handled=none)(x:q.on s.heap i)(ge:q.xs.size<=i) (k:∀h' e,Heap.ExtBut q.a s.heap h'->(∃o,h'.get? e=some o/\o.cls=.type "StopIteration")->E (.ref e) {s with heap:=h'}):wpAny (model prog w) A (Builtin.SmallTypes.nextOf (.ref q.a)) Q E s:=by
 have e:q.xs[i]?=none:=i9 ge;unfold Sr.on at x;split at x
 ·exact iW.stop hA x.1 x.2 e k
 ·exact kS.stop hA x.1 x.2 e k
theorem wj{σ:Type}{b:jp->σ->Sem (ForInStep σ)}{mk:Array jp->σ}(hb:∀(a:ww) (zn:Array jp) (s:kt) (Q:ForInStep σ->kt->Prop),wpAny (model prog w) A (Builtin.SmallTypes.nextOf (.ref a)) (λ x s'=>Q (.yield (mk (zn.push x))) s') E s->wpAny (model prog w) A (b (.ref a) (mk zn)) Q E s):∀(qs:List Sr) (zn:Array jp) (s:kt) (Q:σ->kt->Prop),Ap qs->(∀q∈qs,q.on s.heap i)->(∀q∈qs,i < q.xs.size)->
   (∀h',(∀q∈qs,q.on h' (i+1))->h'.objs.size=s.heap.objs.size->(∀f o,(∀q∈qs,f≠q.a)->s.heap.get? f=some o->h'.get? f=some o)->Q (mk (zn++(rowAt qs i).toArray)) {s with heap:=h'})->
   wpAny (model prog w) A (forIn (qs.map λ q=>Value.ref q.a) (mk zn) b) Q E s
 |[],zn,s,Q,D,hq,lt,k=>by have:=k s.heap (λ q h=>nomatch h) rfl λ f o _ e=>e;simp only[rowAt,D4,Array.append_empty]at this;exact G5 this
 |q::qs,zn,s,Q,D,hq,lt,k=>by
  have nl:=D.la q (.head _) q (.head _);rw[C3,B2];refine G4 (hb _ _ _ _ (Sr.item (hq q (.head _)) (lt q (.head _)) nl λ h1 o1 s1=>?_));refine wj hb qs _ _ _ D.tail (λ r hr=>Sr.keep (hq r (.tail _ hr)) (λ o e=>s1.extBut _ _ (D.ne hr) e) λ o e=>s1.extBut _ _ (D.la r (.tail _ hr) q (.head _)) e) (λ r hr=>lt r (.tail _ hr)) λ h2 o2 z2 k2=>?_;have:=k h2 (λ r hr=>?_) (z2.trans s1.1) λ f o nf e=>k2 f o (λ r hr=>nf r (.tail _ hr)) (s1.extBut _ _ (nf q (.head _)) e)
  ·rw[show zn.push (q.xs.getD i Value.none)++(rowAt qs i).toArray=zn++(rowAt (q::qs) i).toArray by simp[rowAt]];exact this
  ·rcases C4.mp hr with e|hr
   ·subst e;exact Sr.keep o1 (λ o e=>k2 _ o (λ t ht=>(D.ne ht).symm) e) λ o e=>k2 _ o (λ t ht=>D.la r (.head _) t (.tail _ ht)) e
   ·exact o2 r hr
theorem pU{σ:Type}{b:jp->σ->Sem (ForInStep σ)}{mk:Array jp->σ}(hb:∀(a:ww) (zn:Array jp) (s:kt) (Q:ForInStep σ->kt->Prop),wpAny (model prog w) A (Builtin.SmallTypes.nextOf (.ref a)) (λ x s'=>Q (.yield (mk (zn.push x))) s') E s->wpAny (model prog w) A (b (.ref a) (mk zn)) Q E s)(hA:A.handled=none):∀(qs:List Sr) (zn:Array jp) (s:kt) (Q:σ->kt->Prop),Ap qs->(∀q∈qs,q.on s.heap i)->(∃q∈qs,q.xs.size<=i)->
   (∀h' e,(∀f o,(∀q∈qs,f≠q.a)->s.heap.get? f=some o->h'.get? f=some o)->(∃o,h'.get? e=some o/\o.cls=.type "StopIteration")->E (.ref e) {s with heap:=h'})->
   wpAny (model prog w) A (forIn (qs.map λ q=>Value.ref q.a) (mk zn) b) Q E s
 |[],zn,s,Q,D,hq,ge,k=>by obtain⟨q,h,_⟩:=ge;cases h
 |q::qs,zn,s,Q,D,hq,ge,k=>by
  have nl:=D.la q (.head _) q (.head _);rw[C3,B2];by_cases lt:i < q.xs.size
  ·refine G4 (hb _ _ _ _ (Sr.item (hq q (.head _)) lt nl λ h1 o1 s1=>?_));refine pU hb hA qs _ _ _ D.tail (λ r hr=>Sr.keep (hq r (.tail _ hr)) (λ o e=>s1.extBut _ _ (D.ne hr) e) λ o e=>s1.extBut _ _ (D.la r (.tail _ hr) q (.head _)) e) ?_ λ h2 e k2 oe=>?_
   ·obtain⟨r,hr,z⟩:=ge;rcases C4.mp hr with e|hr
    ·subst e;exact absurd lt (Nat.not_lt.mpr z)
    ·exact⟨r,hr,z⟩
   ·exact k h2 e (λ f o nf e=>k2 f o (λ r hr=>nf r (.tail _ hr)) (s1.extBut _ _ (nf q (.head _)) e)) oe
  ·refine G4 (hb _ _ _ _ (Sr.stop hA (hq q (.head _)) (w9 lt) λ h1 e s1 oe=>k h1 e (λ f o nf z=>s1 _ _ (nf q (.head _)) z) oe))
end L5
variable {qs:List L5.Sr}
namespace L5
open L2
abbrev gD(h:Heap)(T:ww)(vs:List jp):Prop:=h.get? T=some {cls:=.type "tuple",data:=.seq vs.toArray}
structure Zn(z u v:ww)(qs:List Sr):Prop where
 ap:Ap qs
 uz:u≠z
 vz:v≠z
 uv:u≠v
 s:∀q∈qs,q.a≠z/\q.a≠u/\q.a≠v/\q.l≠z/\q.l≠v
section
variable {z u v:ww}
theorem Zn.kz(D:Zn z u v qs){h:Heap}(s1:Heap.SameBut z h h')(hq:∀q∈qs,q.on h i):∀q∈qs,q.on h' i:=λ q h=>Sr.keep (hq q h) (λ o e=>s1.extBut _ _ (D.s q h).1 e) λ o e=>s1.extBut _ _ (D.s q h).2.2.2.1 e
theorem yZ{σ:Type}{b:jp->σ->Sem (ForInStep σ)}{mk:Array jp->σ}{c:σ->Sem PySem.Fin}{r:ww}{Q:jp->kt->Prop}{s0:kt}(D:Zn z u v qs)(cY:qs.length<=100) (hb:∀(a:ww) (zn:Array jp) (s:kt) (Q:ForInStep σ->kt->Prop),wpAny (model prog w) A (Builtin.SmallTypes.nextOf (.ref a)) (λ x s'=>Q (.yield (mk (zn.push x))) s') E s->wpAny (model prog w) A (b (.ref a) (mk zn)) Q E s) (hc:∀zn,c (mk zn)=newTuple zn.toList >>= ret) (hz:jf s.heap z u v r true) (e0:Heap.SameBut z s0.heap s.heap) (e1:s={s0 with heap:=s.heap}) (hq:∀q∈qs,q.on s0.heap i) (lt:∀q∈qs,i < q.xs.size) (k:∀h',jf h' z u v r true->(∀q∈qs,q.on h' (i+1))->gD h' s0.heap.objs.size (rowAt qs i)->h'.objs.size=s0.heap.objs.size+1->
   (∀f o,f≠z->(∀q∈qs,f≠q.a)->s0.heap.get? f=some o->h'.get? f=some o)->Q (.ref s0.heap.objs.size) {s0 with heap:=h'}):
  wpAny (model prog w) A (forIn (qs.map λ q=>Value.ref q.a) (mk #[]) b >>= c) (λ fin s'=>∃v,fin=.done (.ret v)/\Q v s') E s:=by
 refine G4 (wj hb qs #[] s _ D.ap (D.kz e0 hq) lt λ h' o' z' k'=>?_);rw[hc];have z2:jf h' z u v r true:=k' _ _ (λ q h=>(D.s q h).1.symm) hz;have e:(#[]++(rowAt qs i).toArray).toList=rowAt qs i:=by simp
 rw[e];refine G4 (wpAny_newTuple ?_ (by show(rowAt qs i).length<=sizeLine;rw[A5];exact D1 cY (by decide)));refine G5 ⟨_,rfl,?_⟩;have ez:h'.objs.size=s0.heap.objs.size:=z'.trans e0.1;have up:∀f o,h'.get? f=some o->(h'.push {cls:=.type "tuple",data:=.seq (rowAt qs i).toArray}).get? f=some o:=λ f o e=>j0 _ e;have t4:gD (h'.push {cls:=.type "tuple",data:=.seq (rowAt qs i).toArray}) h'.objs.size (rowAt qs i):=m8 _ rfl;rw[ez]at t4;have:=k _ (up _ _ z2) (λ q h=>Sr.keep (o' q h) (λ o e=>up _ o e) λ o e=>up _ o e) t4 (by rw[B5,ez]) λ f o n1 n2 e=>up f o (k' f o n2 (e0.extBut _ _ n1 e));show Q (.ref h'.objs.size) {s with heap:=_};rw[ez,e1];exact this
theorem HK{r:ww}{f1:Bool}{o:Obj}{Q:jp->kt->Prop}(D:Zn z u v qs)(fN:qs≠[])(cY:qs.length<=100)(hz:jf s.heap z u v r f1)(hr:s.heap.get? r=some o)(hu:gD s.heap u (qs.map λ q=>.ref q.a))(hq:∀q∈qs,q.on s.heap i)(lt:∀q∈qs,i < q.xs.size) (k:∀h',jf h' z u v r true->(∀q∈qs,q.on h' (i+1))->gD h' s.heap.objs.size (rowAt qs i)->h'.objs.size=s.heap.objs.size+1->
   (∀f o,f≠z->(∀q∈qs,f≠q.a)->s.heap.get? f=some o->h'.get? f=some o)->Q (.ref s.heap.objs.size) {s with heap:=h'}):
  wpAny (model prog w) A (Builtin.«zip.__next__» ⟨[.ref z],[]⟩) (λ fin s'=>∃v,fin=.done (.ret v)/\Q v s') E s:=by
 refine G4 (m:=field (.ref z) 2) (G3 hz rfl (x:=.bool false) rfl ?_);refine G4 (m:=field (.ref z) 3) (G3 hz rfl (x:=.ref u) rfl ?_);refine G4 (B4 hu rfl ?_);have em:(qs.map λ q=>Value.ref q.a).toArray.isEmpty=false:=by cases qs with|nil=>exact absurd rfl fN|cons q qs=>rfl
 simp only[em];refine G4 (m:=Builtin.SmallTypes.ownedTupleIsFree (.ref z)) ?_;unfold Builtin.SmallTypes.ownedTupleIsFree;refine G4 (m:=field (.ref z) 0) (G3 hz rfl (x:=rawInt r) rfl ?_);show wpAny _ _ (loadIfAlive (r:Int).toNat >>= _) _ _ _;rw[r6];refine G4 (fO ?_);rw[hr];show wpAny _ _ (field (.ref z) 1 >>= _) _ _ _;refine G4 (m:=field (.ref z) 1) (G3 hz rfl (x:=.bool f1) rfl ?_);cases f1 with
 |false=>
  refine G4 (p5 hz (by simp) λ g1 z1 s1=>?_);refine G5 ?_;rw[J4 (by decide)];rw[List.forIn_toArray];refine yZ (mk:=λ zn=>((none,zn):Option PySem.Fin×Array jp)) (s0:=s) (s:={s with heap:=g1}) (r:=r) D cY ?_ ?_ z1 s1 rfl hq lt k
  rotate_left
  ·intro zn;rfl
  intro a zn s Q h;exact G4 (B7 (G4 (G8 h (λ x s' h'=>G5 (G5 h')) λ _ _ e=>e)))
 |true=>
  refine G5 ?_;rw[J4 (by decide)];rw[List.forIn_toArray];refine yZ (mk:=λ zn=>((none,zn):Option PySem.Fin×Array jp)) (s0:=s) (s:=s) (r:=r) D cY ?_ ?_ hz ⟨rfl,λ _ _=>rfl⟩ rfl hq lt k
  rotate_left
  ·intro zn;rfl
  intro a zn s Q h;exact G4 (B7 (G4 (G8 h (λ x s' h'=>G5 (G5 h')) λ _ _ e=>e)))
theorem uE{r:ww}{f1:Bool}{Q:PySem.Fin->kt->Prop}(hA:A.handled=none)(D:Zn z u v qs)(hz:jf s.heap z u v r f1)(hr:s.heap.get? r=some o)(hu:gD s.heap u (qs.map λ q=>.ref q.a))(hq:∀q∈qs,q.on s.heap i)(ge:∃q∈qs,q.xs.size<=i)
  (k:∀h' e,(∀f o,f≠z->(∀q∈qs,f≠q.a)->s.heap.get? f=some o->h'.get? f=some o)->(∃o,h'.get? e=some o/\o.cls=.type "StopIteration")->E (.ref e) {s with heap:=h'}):
  wpAny (model prog w) A (Builtin.«zip.__next__» ⟨[.ref z],[]⟩) Q E s:=by
 refine G4 (m:=field (.ref z) 2) (G3 hz rfl (x:=.bool false) rfl ?_);refine G4 (m:=field (.ref z) 3) (G3 hz rfl (x:=.ref u) rfl ?_);refine G4 (B4 hu rfl ?_);have em:(qs.map λ q=>Value.ref q.a).toArray.isEmpty=false:=by
  cases qs with
  |nil=>obtain⟨q,h,_⟩:=ge;cases h
  |cons q qs=>rfl
 simp only[em];refine G4 (m:=Builtin.SmallTypes.ownedTupleIsFree (.ref z)) ?_;unfold Builtin.SmallTypes.ownedTupleIsFree;refine G4 (m:=field (.ref z) 0) (G3 hz rfl (x:=rawInt r) rfl ?_);show wpAny _ _ (loadIfAlive (r:Int).toNat >>= _) _ _ _;rw[r6];refine G4 (fO ?_);rw[hr];show wpAny _ _ (field (.ref z) 1 >>= _) _ _ _;refine G4 (m:=field (.ref z) 1) (G3 hz rfl (x:=.bool f1) rfl ?_);cases f1 with
 |false=>refine G4 (p5 hz (by simp) λ g1 z1 s1=>?_);refine G5 ?_;rw[J4 (by decide)];rw[List.forIn_toArray];refine G4 (pU (mk:=λ zn=>((none,zn):Option PySem.Fin×Array jp)) ?_ hA qs #[] {s with heap:=g1} _ D.ap (D.kz s1 hq) ge λ h' e kp oe=>k h' e (λ f o n1 n2 e=>kp f o n2 (s1.extBut _ _ n1 e)) oe);intro a zn s Q h;exact G4 (B7 (G4 (G8 h (λ x s' h'=>G5 (G5 h')) λ _ _ e=>e)))
 |true=>refine G5 ?_;rw[J4 (by decide)];rw[List.forIn_toArray];refine G4 (pU (mk:=λ zn=>((none,zn):Option PySem.Fin×Array jp)) ?_ hA qs #[] s _ D.ap hq ge λ h' e kp oe=>k h' e (λ f o n1 n2 e=>kp f o n2 e) oe);intro a zn s Q h;exact G4 (B7 (G4 (G8 h (λ x s' h'=>G5 (G5 h')) λ _ _ e=>e)))
theorem zU{σ:Type}{b:jp×Nat->σ->Sem (ForInStep σ)}{st:σ}(hb:∀(a:ww) (j:Nat) (cs:List jp) (s:kt) (Q:ForInStep σ->kt->Prop),(∃o,s.heap.get? z=some o)->wpAny (model prog w) A (Builtin.SmallTypes.nextOf (.ref a)) (λ x s'=>∃cs:List jp,cs.length<=100/\gD s'.heap v cs/\∀h',gD h' v (cs.set j x)->Heap.SameBut v s'.heap h'->Q (.yield st) {s' with heap:=h'}) (λ _ _=>False) s->wpAny (model prog w) A (b (.ref a,j) st) Q E s):∀(rs:List Sr) (j:Nat) (cs:List jp) (s:kt) (Q:σ->kt->Prop),Ap rs->(∀q∈rs,q.a≠v/\q.l≠v/\q.a≠z)->gD s.heap v cs->cs.length<=100->j+rs.length<=cs.length->(∃o,s.heap.get? z=some o)->(∀q∈rs,q.on s.heap i)->(∀q∈rs,i < q.xs.size)->v≠z->
   (∀h',(∀q∈rs,q.on h' (i+1))->h'.objs.size=s.heap.objs.size->gD h' v (cs.take j++rowAt rs i++cs.drop (j+rs.length))->(∀f o,f≠v->(∀q∈rs,f≠q.a)->s.heap.get? f=some o->h'.get? f=some o)->Q st {s with heap:=h'})->
   wpAny (model prog w) A (forIn ((rs.map λ q=>Value.ref q.a).zipIdx j) st b) Q E s
 |[],j,cs,s,Q,D,ne,hv,cY,hj,hz,hq,lt,vz,k=>by have:=k s.heap (λ q h=>nomatch h) rfl (by simpa[rowAt]using hv) λ f o _ _ e=>e;exact G5 this
 |q::rs,j,cs,s,Q,D,ne,hv,cY,hj,hz,hq,lt,vz,k=>by
  have nl:=D.la q (.head _) q (.head _);obtain⟨n1,n2,n3⟩:=ne q (.head _);rw[C3,zipIdx_cons,B2];refine G4 (hb _ _ cs _ _ hz (Sr.item (hq q (.head _)) (lt q (.head _)) nl λ h1 o1 s1=>⟨cs,cY,s1.extBut _ _ n1.symm hv,λ h2 v2 s2=>?_⟩));have kp:∀f o,f≠v->f≠q.a->s.heap.get? f=some o->h2.get? f=some o:=λ f o m1 m2 e=>s2.extBut _ _ m1 (s1.extBut _ _ m2 e);obtain⟨oz,ez⟩:=hz;rw[x3]at hj;refine zU hb rs (j+1) (cs.set j (q.xs.getD i .none)) _ _ D.tail (λ r hr=>ne r (.tail _ hr)) v2 (by rw[length_set];exact cY) (by rw[length_set];lia) ⟨oz,kp _ _ vz.symm n3.symm ez⟩ (λ r hr=>Sr.keep (hq r (.tail _ hr)) (λ o e=>kp _ o (ne r (.tail _ hr)).1 (D.ne hr) e) λ o e=>kp _ o (ne r (.tail _ hr)).2.1 (D.la r (.tail _ hr) q (.head _)) e) (λ r hr=>lt r (.tail _ hr)) vz λ h3 o3 z3 v3 k3=>?_;refine k h3 (λ r hr=>?_) (z3.trans (s2.1.trans s1.1)) ?_ λ f o m1 m2 e=>k3 f o m1 (λ r hr=>m2 r (.tail _ hr)) (kp f o m1 (m2 q (.head _)) e)
  ·rcases C4.mp hr with e|hr
   ·subst e;exact Sr.keep o1 (λ o e=>k3 _ o n1 (λ t ht=>(D.ne ht).symm) (s2.extBut _ _ n1 e)) λ o e=>k3 _ o n2 (λ t ht=>D.la r (.head _) t (.tail _ ht)) (s2.extBut _ _ n2 e)
   ·exact o3 r hr
  ·have e:(cs.set j (q.xs.getD i .none)).take (j+1)++rowAt rs i++(cs.set j (q.xs.getD i .none)).drop (j+1+rs.length)=cs.take j++rowAt (q::rs) i++cs.drop (j+(rs.length+1)):=by
    have e1:(cs.set j (q.xs.getD i .none)).take (j+1)=cs.take j++[q.xs.getD i .none]:=by rw[take_add_one,take_set_of_le (D9 _),j5 (by lia)];rfl
    have e2:(cs.set j (q.xs.getD i .none)).drop (j+1+rs.length)=cs.drop (j+(rs.length+1)):=by rw[drop_set_of_lt (by lia),show j+1+rs.length=j+(rs.length+1) by lia]
    rw[e1,e2];simp[rowAt]
   rw[x3,<- e];exact v3
end
open L2 PyProof.Rows
section
variable {z u v:ww}
theorem Ds{cs:List jp}{Q:jp->kt->Prop}(D:Zn z u v qs)(fN:qs≠[])(cY:qs.length<=100)(hz:IsZip s.heap z u v .none)(hu:gD s.heap u (qs.map λ q=>.ref q.a))(hv:gD s.heap v cs)(hl:cs.length=qs.length)(hq:∀q∈qs,q.on s.heap i)(lt:∀q∈qs,i < q.xs.size) (k:∀h',jf h' z u v s.heap.objs.size false->(∀q∈qs,q.on h' (i+1))->gD h' s.heap.objs.size (rowAt qs i)->h'.objs.size=s.heap.objs.size+1->
   (∀f o,f≠z->f≠v->(∀q∈qs,f≠q.a)->s.heap.get? f=some o->h'.get? f=some o)->Q (.ref s.heap.objs.size) {s with heap:=h'}):
  wpAny (model prog w) A (Builtin.«zip.__next__» ⟨[.ref z],[]⟩) (λ fin s'=>∃v,fin=.done (.ret v)/\Q v s') E s:=by
 refine G4 (m:=field (.ref z) 2) (G3 hz rfl (x:=.bool false) rfl ?_);refine G4 (m:=field (.ref z) 3) (G3 hz rfl (x:=.ref u) rfl ?_);refine G4 (B4 hu rfl ?_);have em:(qs.map λ q=>Value.ref q.a).toArray.isEmpty=false:=by cases qs with|nil=>exact absurd rfl fN|cons q qs=>rfl
 simp only[em];refine G4 (m:=Builtin.SmallTypes.ownedTupleIsFree (.ref z)) ?_;unfold Builtin.SmallTypes.ownedTupleIsFree;refine G4 (m:=field (.ref z) 0) (G3 hz rfl (x:=.none) rfl (G5 ?_));simp only[J1];refine G4 (G6 (G4 (G3 hz rfl (x:=.ref v) rfl (G4 (p5 hz (by simp) λ g1 z1 s1=>?_)))));have z1:IsZip g1 z u v .ellipsis:=z1;refine G4 (zU (v:=v) (z:=z) (i:=i) ?_ qs 0 cs {s with heap:=g1} _ D.ap (λ q h=>⟨(D.s q h).2.2.1,(D.s q h).2.2.2.2,(D.s q h).1⟩) (s1.extBut _ _ D.vz hv) (by rw[hl];exact cY) (by rw[hl];lia) ⟨_,z1⟩ (D.kz s1 hq) lt D.vz λ g2 o2 e2 v2 k2=>?_)
 ·intro a j cs s2 Q2 hz2 h;refine G4 (wpAny_onRaise (G4 (m:=Builtin.SmallTypes.nextOf (.ref a)) (G8 h (λ x s' h'=>G5 ?_) λ _ _ e=>e.elim)));obtain⟨cs',h0,h1,h2⟩:=h';refine G4 (B4 h1 rfl (G4 (A9 h1 rfl (G4 (wpAny_letGo (G5 (h2 _ ?_ (l5 ..))))) (by rw[u9];exact D1 h0 (by decide)) (by rw[Array.size_setIfInBounds,u9];exact D1 h0 (by decide)))));unfold gD;rw[j6 _ h1 rfl];simp[Obj.mapSeq]
 ·rw[take_zero,nil_append,drop_eq_nil_of_le (by rw[hl];lia),y7]at v2;refine G4 (B4 v2 rfl (G4 (wpAny_newTuple ?_ (by show(rowAt qs i).length<=sizeLine;rw[A5];exact D1 cY (by decide)))));have ez:g2.objs.size=s.heap.objs.size:=e2.trans s1.1;have z2:IsZip g2 z u v .ellipsis:=k2 _ _ D.vz.symm (λ q h=>(D.s q h).1.symm) z1;have O5:z < g2.objs.size:=C7 z2;refine G4 (m:=Builtin.SmallTypes.ownedTupleHandOut (.ref z) (.ref g2.objs.size)) ?_;unfold Builtin.SmallTypes.ownedTupleHandOut;have z6:IsZip (g2.push {cls:=.type "tuple",data:=.seq (rowAt qs i).toArray}) z u v .ellipsis:=j0 _ z2;refine G4 (p5 z6 (by simp) λ g7 z7 s7=>p5 (show IsZip g7 z u v (rawInt g2.objs.size)from z7) (by simp) λ g8 z8 s8=>?_);have z8:IsZip g8 z u v (rawInt g2.objs.size):=z8;have go:∀f o,f≠z->g2.get? f=some o->g8.get? f=some o:=λ f o n1 e=>s8.extBut _ _ n1 (s7.extBut _ _ n1 (j0 _ e));have t8:gD g8 g2.objs.size (rowAt qs i):=s8.extBut _ _ (D7 O5) (s7.extBut _ _ (D7 O5) (m8 _ rfl));have e8:g8.objs.size=g2.objs.size+1:=by rw[s8.1,s7.1,B5]
  rw[ez]at z8 t8 e8;refine G5 ⟨_,rfl,?_⟩;show Q (.ref g2.objs.size) _;rw[ez];exact k g8 z8 (λ q h=>Sr.keep (o2 q h) (λ o e=>go _ o (D.s q h).1 e) λ o e=>go _ o (D.s q h).2.2.2.1 e) t8 e8 λ f o n1 n2 n3 e=>go f o n1 (k2 f o n2 n3 (s1.extBut _ _ n1 e))
def qL(h:Heap)(z u v:ww)(qs:List Sr)(i N0:Nat):Prop:=gD h u (qs.map λ q=>.ref q.a)/\(∀q∈qs,q.on h i)/\
 ((i=0/\IsZip h z u v .none/\∃cs,gD h v cs/\cs.length=qs.length)\/∃(r:ww) (f1:Bool) (o:Obj),jf h z u v r f1/\h.get? r=some o/\N0<=r)
def wR(h:Heap)(qs:List Sr)(N0:Nat)(ps:List ww):Prop:=ps.Nodup/\∀(j:Nat) (p:ww),ps[j]?=some p->N0<=p/\gD h p (rowAt qs j)
theorem O0{N0:Nat}{Q:Option jp->kt->Prop}(D:Zn z u v qs)(fN:qs≠[])(cY:qs.length<=100)(hN:N0<=s.heap.objs.size)(hz:z < N0)(hv:v < N0)(yo:∀q∈qs,q.a < N0)(Z:qL s.heap z u v qs i N0)(lt:∀q∈qs,i < q.xs.size) (k:∀h',qL h' z u v qs (i+1) N0->gD h' s.heap.objs.size (rowAt qs i)->h'.objs.size=s.heap.objs.size+1->(∀f o,f≠z->f≠v->(∀q∈qs,f≠q.a)->s.heap.get? f=some o->h'.get? f=some o)->Q (some (.ref s.heap.objs.size)) {s with heap:=h'}):wpAny (model prog w) A (pyNext (.ref z)) Q E s:=by
 obtain⟨hu,hq,zz⟩:=Z;have ku:∀h':Heap,(∀f o,f≠z->f≠v->(∀q∈qs,f≠q.a)->s.heap.get? f=some o->h'.get? f=some o)->gD h' u (qs.map λ q=>.ref q.a):=λ h' kp=>kp _ _ D.uz D.uv (λ q h=>(D.s q h).2.1.symm) hu;have ty:s.TypeIs (.ref z) "zip":=by
  rcases zz with⟨_,q,_⟩|⟨r,f1,o,q,_⟩
  ·exact⟨_,q,rfl⟩
  ·exact⟨_,q,rfl⟩
 unfold pyNext;refine G4 (B8 (i6 (name:=Str.ofString "__next__") ty B0 (x5 B0 ty F.entry_zip_next ?_ (F.args_zip_next_1 _))));rcases zz with⟨rfl,q,cs,q2,q3⟩|⟨r,f1,o,q,q2,q3⟩
 ·exact Ds D fN cY q hu q2 q3 hq lt λ h' a1 a2 a3 a4 a5=>G5 (k h' ⟨ku h' a5,a2,.inr ⟨s.heap.objs.size,false,_,a1,a3,hN⟩⟩ a3 a4 a5)
 ·refine HK D fN cY q q2 hu hq lt λ h' a1 a2 a3 a4 a5=>G5 (k h' ⟨ku h' λ f o n1 _ n3 e=>a5 f o n1 n3 e,a2,.inr ⟨r,true,o,a1,a5 _ _ (D7 (p7 hz q3)) (λ t ht=>D7 (p7 (yo t ht) q3)) q2,q3⟩⟩ a3 a4 λ f o n1 _ n3 e=>a5 f o n1 n3 e)
theorem O_{N0:Nat}{Q:Option jp->kt->Prop}(hA:A.handled=none)(D:Zn z u v qs)(Z:qL s.heap z u v qs i N0)(hi:i≠0)(ge:∃q∈qs,q.xs.size<=i) (k:∀h',(∀f o,f≠z->f≠v->(∀q∈qs,f≠q.a)->s.heap.get? f=some o->h'.get? f=some o)->Q none {s with heap:=h'}):wpAny (model prog w) A (pyNext (.ref z)) Q E s:=by
 obtain⟨hu,hq,zz⟩:=Z;rcases zz with⟨z0,_⟩|⟨r,f1,o,q,q2,q3⟩
 ·exact absurd z0 hi
 ·have ty:s.TypeIs (.ref z) "zip":=⟨_,q,rfl⟩;unfold pyNext;refine G4 (B8 (i6 (name:=Str.ofString "__next__") ty B0 (x5 B0 ty F.entry_zip_next ?_ (F.args_zip_next_1 _))));refine uE hA D q q2 hu hq ge λ h' e kp oe=>?_;obtain⟨ob,GC,Dn⟩:=oe;exact G4 (y3 (T:="StopIteration") (b:=true) ⟨ob,GC,Dn⟩ isSubtype_stop (G5 (k _ λ f o n1 _ n3 e=>kp f o n1 n3 e)))
theorem qL.keep{h:Heap}{S:ww}{N0:Nat}(x:qL h z u v qs i N0)(hS:S < N0)(n1:S≠z)(n2:S≠u)(n3:S≠v)(n4:∀q∈qs,S≠q.a/\S≠q.l)(k:∀f o,f≠S->h.get? f=some o->h'.get? f=some o):qL h' z u v qs i N0:=by
 obtain⟨a1,a2,a4⟩:=x;refine⟨k _ _ n2.symm a1,λ q hq=>Sr.keep (a2 q hq) (λ o e=>k _ o (n4 q hq).1.symm e) λ o e=>k _ o (n4 q hq).2.symm e,?_⟩;rcases a4 with⟨z0,q,cs,q2,q3⟩|⟨r,f1,o,q1,q2,q3⟩
 ·exact .inl ⟨z0,k _ _ n1.symm q,cs,k _ _ n3.symm q2,q3⟩
 ·exact .inr ⟨r,f1,o,k _ _ n1.symm q1,k _ _ (D7 (p7 hS q3)) q2,q3⟩
theorem Tp{R:Result->kt->Prop}{S:ww}{N0:Nat}(hA:A.in1.handled=none)(D:Zn z u v qs)(fN:qs≠[])(cY:qs.length<=100)(hn:n<=10000)(Q3:n≠0)(hsz:∀q∈qs,q.xs.size=n) (hz:z < N0) (hv:v < N0) (yo:∀q∈qs,q.a < N0) (hS:S < N0) (n1:S≠z) (n2:S≠u) (n3:S≠v) (n4:∀q∈qs,S≠q.a/\S≠q.l) (res:jp):∀(k i:Nat) (s:kt) (ps:List ww) (c:Nat),n - i=k->i<=n->ps.length=i->N0<=s.heap.objs.size->qL s.heap z u v qs i N0->
   s.heap.get? S=some {cls:=.type "list",dict:=none,data:=.seq (ps.map Value.ref).toArray c,slots:=#[]}->wR s.heap qs N0 ps->
   (∀(h':Heap) (Oc:List ww) (c':Nat),(∀f o,f≠z->f≠v->(∀q∈qs,f≠q.a)->f≠S->s.heap.get? f=some o->h'.get? f=some o)->h'.get? S=some {cls:=.type "list",dict:=none,data:=.seq (Oc.map Value.ref).toArray c',slots:=#[]}->Oc.length=n->wR h' qs N0 Oc->R (.ok (.ret res)) {s with heap:=h'})->
   codeAny (model prog w) A (.builtin "list.extend.loop" ⟨[.ref S,.ref z,res],[]⟩) R s:=by
 intro k
 induction k with
 |zero=>intro i s ps c hk hi hp hN Z Xb pr hR;refine A4 F.entry_extend_loop ?_;rw[k9 m9 _];show wpAny _ A.in1 (pyNext (.ref z) >>= _) _ _ s;obtain⟨q0,h0⟩:=exists_mem_of_ne_nil _ fN;refine G4 (O_ hA D Z (by lia) ⟨q0,h0,by rw[hsz q0 h0];lia⟩ λ h' kp=>G5 ?_);refine hR h' ps c (λ f o m1 m2 m3 _ e=>kp f o m1 m2 m3 e) (kp _ _ n1 n3 (λ q h=>(n4 q h).1) Xb) (by lia) ⟨pr.1,λ j p e=>?_⟩;obtain⟨tO,e3⟩:=pr.2 j p e;exact⟨tO,kp _ _ (D7 (p7 hz tO)) (D7 (p7 hv tO)) (λ q h=>D7 (p7 (yo q h) tO)) e3⟩
 |succ k ih=>
  intro i s ps c hk hi hp hN Z Xb pr hR;refine A4 F.entry_extend_loop ?_;rw[k9 m9 _];show wpAny _ A.in1 (pyNext (.ref z) >>= _) _ _ s;refine G4 (O0 D fN cY hN hz hv yo Z (λ q h=>by rw[hsz q h];lia) λ h' Z' t1 sz kp=>?_);have HC:=kp _ _ n1 n3 (λ q h=>(n4 q h).1) Xb;show wpAny _ A.in1 (updateSeq S (·.push (.ref s.heap.objs.size)) >>= λ _=>again (.builtin "list.extend.loop" ⟨[.ref S,.ref z,res],[]⟩)) _ _ _;refine G4 ?_;have hlen:(ps.map Value.ref).toArray.size=i:=by rw[u9,A5,hp]
  have ot:∀f o,f≠S->h'.get? f=some o->(h'.update S (Obj.mapSeq (·.push (.ref s.heap.objs.size)))).get? f=some o:=λ f o ne e=>(j4 _ _ (J0 ne)).trans e;refine A9 HC rfl (G5 ⟨plainId_quiet m9 _,ih (i+1) _ (ps++[s.heap.objs.size]) (c+1) (by lia) (by lia) (by rw[o7,hp];rfl) ?_ (Z'.keep hS n1 n2 n3 n4 ot) ?_ ?_ ?_⟩) (by rw[hlen];exact D1 (show i<=10000 by lia) (by decide)) (by rw[Array.size_push,hlen];exact D1 (show i+1<=10001 by lia) (by decide))
  ·show N0<=(h'.update S _).objs.size;rw[Heap.size_update,sz];exact Nat.le_succ_of_le hN
  ·rw[j6 _ HC rfl];simp[Obj.mapSeq]
  ·refine⟨nodup_append.mpr ⟨pr.1,by simp,λ q hq q' Wx ee=>?_⟩,?_⟩
   ·obtain⟨j,hj⟩:=mem_iff_getElem?.mp hq;have lt:=C7 (pr.2 j q hj).2;rw[ee,p8.mp Wx]at lt;exact C0 _ lt
   intro j p e;by_cases hj:j < ps.length
   ·rw[c7 hj]at e;obtain⟨tO,e3⟩:=pr.2 j p e;exact⟨tO,ot _ _ (D7 (p7 hS tO)) (kp _ _ (D7 (p7 hz tO)) (D7 (p7 hv tO)) (λ q h=>D7 (p7 (yo q h) tO)) e3)⟩
   ·rw[c5 (by lia)]at e;have hj0:j - ps.length=0:=by have:=(c9.mp e).1;simp at this;lia
    rw[hj0]at e;have ep:s.heap.objs.size=p:=by simpa using e
    have ej:j=i:=by lia
    subst ej;rw[<- ep];exact⟨hN,ot _ _ (D7 (p7 hS hN)) t1⟩
  ·intro h2 Oc c' ZD mn Yl Zr;exact hR h2 Oc c' (λ f o m1 m2 m3 m5 e=>ZD f o m1 m2 m3 m5 (ot f o m5 (kp f o m1 m2 m3 e))) mn Yl Zr
end
open L2 PyProof.Rows
theorem oD(a b c:jp):checkTypeCall "zip" ⟨[a,b,c],[]⟩=pure ():=by kernel_rfl
theorem qy(a b c:jp):checkBuiltinCall "zip.__new__" ⟨[.type "zip",a,b,c],[]⟩=pure ():=by kernel_rfl
theorem j'(a b c d:jp):argsOk "object.__init__" ⟨[a,b,c,d],[]⟩:=by unfold argsOk;rw[signature?_of (id:="object.__init__") (n:=['_','_','t','i','n','i','_','_']) (o:=['t','c','e','j','b','o']) (by kernel_rfl) F.owner_object];kernel_rfl
abbrev zh(b:Bool)(h:Heap)(l:ww):Heap:=h.push {cls:=.type (QK b),data:=.fields #[.ref l,.int 0 0]}
abbrev z3(b c d:Bool)(h:Heap)(l m n:ww):Heap:=zh d (zh c (zh b h l) m) n
abbrev z4(b c d:Bool)(h:Heap)(l m n:ww):Heap:=(z3 b c d h l m n).push {cls:=.type "tuple",data:=.seq #[.ref h.objs.size,.ref (zh b h l).objs.size,.ref (zh c (zh b h l) m).objs.size]}
abbrev z5(b c d:Bool)(h:Heap)(l m n:ww):Heap:=(z4 b c d h l m n).push {cls:=.type "tuple",data:=.seq #[.none,.none,.none]}
abbrev z6(b c d:Bool)(h:Heap)(l m n:ww):Heap:=(z5 b c d h l m n).push {cls:=.type "zip",data:=.fields #[.none,.bool false,.bool false,.ref (z3 b c d h l m n).objs.size,.ref (z4 b c d h l m n).objs.size]}
theorem xb(b c d:Bool)(l m n:ww)(xs ys zs:Array jp):Meets (Builtin.«zip.__new__» ⟨[.type "zip",.ref l,.ref m,.ref n],[]⟩) (λ _ R s=>lh b s.heap l xs/\lh c s.heap m ys/\lh d s.heap n zs/\R (.ok (.ret (.ref (z5 b c d s.heap l m n).objs.size))) {s with heap:=z6 b c d s.heap l m n}):=
 .of_wp λ prog w A R s h=>by
  obtain⟨hp,g,dr,tk,os⟩:=s;obtain⟨a1,a2,a3,h⟩:=h;have sz:=sub_zip;have b1:lh b (Shared.heap ⟨hp,g,dr,tk,os⟩) l xs:=a1;have b2:lh c (Shared.heap ⟨zh b hp l,g,dr,tk,os⟩) m ys:=(eU c).keep a2 λ o e=>j0 _ e;have b3:lh d (Shared.heap ⟨zh c (zh b hp l) m,g,dr,tk,os⟩) n zs:=(eU d).keep a3 λ o e=>j0 _ (j0 _ e)
  wp_walk using(eU b).start b1,(eU c).start b2,(eU d).start b3
  exact⟨_,rfl,h⟩
theorem Sr.new{h:Heap}{l:ww}{b:Bool}{xs:Array jp}(h1:dN (QK b) h a l 0)(h2:lh b h l xs):Sr.on ⟨a,l,b,xs⟩ h 0:=by
 cases b
 ·exact⟨h1,h2⟩
 ·exact⟨h1,h2⟩
theorem sL{b:Bool}{h:Heap}{l:ww}{xs:Array jp}(x:lh b h l xs):l < h.objs.size:=by
 cases b
 ·obtain⟨o,e,_⟩:=x;exact C7 e
 ·obtain⟨o,e,_⟩:=x;exact C7 e
theorem Kj{b c d:Bool}{l m n:ww}{xs ys zs:Array jp}{Q:jp->kt->Prop}(a1:lh b s.heap l xs)(a2:lh c s.heap m ys)(a3:lh d s.heap n zs) (k:∀(h':Heap) (qs:List Sr),qs=[⟨s.heap.objs.size,l,b,xs⟩,⟨s.heap.objs.size+1,m,c,ys⟩,⟨s.heap.objs.size+2,n,d,zs⟩]->Zn (s.heap.objs.size+5) (s.heap.objs.size+3) (s.heap.objs.size+4) qs->IsZip h' (s.heap.objs.size+5) (s.heap.objs.size+3) (s.heap.objs.size+4) .none->(∀N,qL h' (s.heap.objs.size+5) (s.heap.objs.size+3) (s.heap.objs.size+4) qs 0 N)->
   h'.objs.size=s.heap.objs.size+6->(∀f o,s.heap.get? f=some o->h'.get? f=some o)->Q (.ref (s.heap.objs.size+5)) {s with heap:=h'}):
  wpAny (model prog w) A (call (.type "zip") [.ref l,.ref m,.ref n]) Q E s:=by
 refine callType_new F.called_zip (by decide) (oD _ _ _) (qy _ _ _) (λ ob=>j' ob _ _ _) F.entry_zip_new (xb b c d l m n xs ys zs) ⟨a1,a2,a3,?_⟩;have e1:(zh b s.heap l).objs.size=s.heap.objs.size+1:=B5 ..;have e2:(zh c (zh b s.heap l) m).objs.size=s.heap.objs.size+2:=by rw[B5,e1]
 have e3:(z3 b c d s.heap l m n).objs.size=s.heap.objs.size+3:=by rw[B5,e2]
 have e4:(z4 b c d s.heap l m n).objs.size=s.heap.objs.size+4:=by rw[B5,e3]
 have e5:(z5 b c d s.heap l m n).objs.size=s.heap.objs.size+5:=by rw[B5,e4]
 have e6:(z6 b c d s.heap l m n).objs.size=s.heap.objs.size+6:=by rw[B5,e5]
 have u5:∀f o,(z5 b c d s.heap l m n).get? f=some o->(z6 b c d s.heap l m n).get? f=some o:=λ f o e=>j0 _ e;have u4:∀f o,(z4 b c d s.heap l m n).get? f=some o->(z6 b c d s.heap l m n).get? f=some o:=λ f o e=>u5 f o (j0 _ e);have u3:∀f o,(z3 b c d s.heap l m n).get? f=some o->(z6 b c d s.heap l m n).get? f=some o:=λ f o e=>u4 f o (j0 _ e);have u2:∀f o,(zh c (zh b s.heap l) m).get? f=some o->(z6 b c d s.heap l m n).get? f=some o:=λ f o e=>u3 f o (j0 _ e);have u1:∀f o,(zh b s.heap l).get? f=some o->(z6 b c d s.heap l m n).get? f=some o:=λ f o e=>u2 f o (j0 _ e);have u0:∀f o,s.heap.get? f=some o->(z6 b c d s.heap l m n).get? f=some o:=λ f o e=>u1 f o (j0 _ e);have g6:(z6 b c d s.heap l m n).get? (z5 b c d s.heap l m n).objs.size=some _:=m8 _ rfl;have g5:=u5 _ _ (m8 (z4 b c d s.heap l m n) rfl);have g4:=u4 _ _ (m8 (z3 b c d s.heap l m n) rfl);have g3:=u3 _ _ (m8 (zh c (zh b s.heap l) m) rfl);have g2:=u2 _ _ (m8 (zh b s.heap l) rfl);have g1:=u1 _ _ (m8 s.heap rfl);rw[e3,e4,e5]at g6;rw[e4]at g5;rw[e1,e2,e3]at g4;rw[e2]at g3;rw[e1]at g2;show _/\_;rw[e5];refine⟨⟨_,g6,rfl⟩,k _ _ rfl ?_ g6 (λ N=>⟨g4,?_,.inl ⟨rfl,g6,_,g5,rfl⟩⟩) e6 u0⟩
 ·have lo:∀{x:ww} (i:Nat),x < s.heap.objs.size->x≠s.heap.objs.size+i:=λ i h=>C6 (p7 h (y0 _ i));have ne:∀i j:Nat,i≠j->s.heap.objs.size+i≠s.heap.objs.size+j:=λ i j h e=>h (Nat.add_left_cancel e);have hl:=sL a1;have hm:=sL a2;have hn:=sL a3;refine⟨⟨?_,?_⟩,ne 3 5 (by decide),ne 4 5 (by decide),ne 3 4 (by decide),?_⟩
  ·refine nodup_cons.mpr ⟨?_,nodup_cons.mpr ⟨?_,by simp⟩⟩
   ·simp only[C3,D4,C4,not_mem_nil,or_false];exact λ z=>z.elim (ne 0 1 (by decide)) (ne 0 2 (by decide))
   ·simp only[C3,D4,C4,not_mem_nil,or_false];exact ne 1 2 (by decide)
  ·simp only[C4,not_mem_nil,or_false,forall_eq_or_imp,forall_eq];exact⟨⟨lo 0 hl,lo 1 hl,lo 2 hl⟩,⟨lo 0 hm,lo 1 hm,lo 2 hm⟩,lo 0 hn,lo 1 hn,lo 2 hn⟩
  ·simp only[C4,not_mem_nil,or_false,forall_eq_or_imp,forall_eq];exact⟨⟨ne 0 5 (by decide),ne 0 3 (by decide),ne 0 4 (by decide),lo 5 hl,lo 4 hl⟩,⟨ne 1 5 (by decide),ne 1 3 (by decide),ne 1 4 (by decide),lo 5 hm,lo 4 hm⟩,ne 2 5 (by decide),ne 2 3 (by decide),ne 2 4 (by decide),lo 5 hn,lo 4 hn⟩
 ·simp only[C4,not_mem_nil,or_false,forall_eq_or_imp,forall_eq];exact⟨Sr.new ⟨_,g1,rfl,rfl⟩ ((eU b).keep a1 λ o e=>u0 _ o e),Sr.new ⟨_,g2,rfl,rfl⟩ ((eU c).keep a2 λ o e=>u0 _ o e),Sr.new ⟨_,g3,rfl,rfl⟩ ((eU d).keep a3 λ o e=>u0 _ o e)⟩
open L2 PyProof.Rows
theorem qK{z u v:ww}(hA:A.handled=none)(D:Zn z u v qs)(fN:qs≠[])(cY:qs.length<=100)(hn:n<=10000)(Q3:n≠0)(hsz:∀q∈qs,q.xs.size=n) (hz:z < s.heap.objs.size) (hu:u < s.heap.objs.size) (hv:v < s.heap.objs.size) (yo:∀q∈qs,q.a < s.heap.objs.size/\q.l < s.heap.objs.size) (hZ:IsZip s.heap z u v .none) (Z:∀N,qL s.heap z u v qs 0 N) (hQ:∀(h':Heap) (ps:List ww) (c:Nat),(∀f o,f≠z->f≠v->(∀q∈qs,f≠q.a)->s.heap.get? f=some o->h'.get? f=some o)->h'.get? s.heap.objs.size=some {cls:=.type "list",data:=.seq (ps.map Value.ref).toArray c}->ps.length=n->wR h' qs (s.heap.objs.size+1) ps->Q (.ref s.heap.objs.size) {s with heap:=h'}):wpAny (model prog w) A (call (.type "list") [.ref z]) Q E s:=by
 have Z:=Z (s.heap.objs.size+1);refine callType_codes (Q₁:=λ obj s₁=>obj=.ref s.heap.objs.size/\s₁={s with heap:=s.heap.push {cls:=.type "list",data:=.seq #[]}}) F.called_list (F.typeCall_list_1 _) F.entry_list_init
  (code_list_new _ ⟨rfl,rfl⟩) λ obj s₁ h₁=>?_
 obtain⟨rfl,rfl⟩:=h₁;have up:∀f o,s.heap.get? f=some o->(s.heap.push {cls:=.type "list",data:=.seq #[]}).get? f=some o:=λ f o e=>j0 _ e;have hS:(s.heap.push {cls:=.type "list",data:=.seq #[]}).get? s.heap.objs.size=some {cls:=.type "list",data:=.seq #[]}:=m8 _ rfl;have sz:(s.heap.push {cls:=.type "list",data:=.seq #[]}).objs.size=s.heap.objs.size+1:=B5 ..;have Z:qL (s.heap.push {cls:=.type "list",data:=.seq #[]}) z u v qs 0 (s.heap.objs.size+1):=Z.keep (Nat.lt_succ_self _) (D7 hz) (D7 hu) (D7 hv) (λ q h=>⟨D7 (yo q h).1,D7 (yo q h).2⟩) λ f o _ e=>up f o e;have hZ:=up _ _ hZ;refine⟨⟨_,hS,rfl⟩,F.args_list_init_2 _ _,?_⟩;have hQ:∀(h':Heap) (ps:List ww) (c:Nat),(∀f o,f≠z->f≠v->(∀q∈qs,f≠q.a)->f≠s.heap.objs.size->(s.heap.push {cls:=.type "list",data:=.seq #[]}).get? f=some o->h'.get? f=some o)->h'.get? s.heap.objs.size=some {cls:=.type "list",data:=.seq (ps.map Value.ref).toArray c}->ps.length=n->wR h' qs (s.heap.objs.size+1) ps->Q (.ref s.heap.objs.size) {s with heap:=h'}:=
  λ h' ps c kp a b d=>hQ h' ps c (λ f o n1 n2 n3 e=>kp f o n1 n2 n3 (C6 (C7 e)) (up f o e)) a b d
 generalize s.heap.push {cls:=.type "list",data:=.seq #[]}=g at*;generalize hN:s.heap.objs.size=N at*;show wpAny _ _ (do let old <- Builtin.List.listItems (.ref N);Builtin.List.listUpdate (.ref N) (λ _=>#[]);letGo old.toList.reverse;Builtin.List.listExtendWith (.ref N) (.ref z) .none) _ _ _;refine G4 ?_;unfold Builtin.List.listItems;refine G4 (B4 hS rfl (G5 ?_));show wpAny _ _ (updateSeq N (λ _=>#[]) >>= λ _=>letGo (#[]:Array jp).toList.reverse >>= λ _=>Builtin.List.listExtendWith (.ref N) (.ref z) .none) _ _ _;refine G4 (A9 hS rfl ?_);have Yz:=j6 (Obj.mapSeq (λ _=>(#[]:Array jp))) hS rfl;have o2:∀b o,b≠N->g.get? b=some o->(g.update N (Obj.mapSeq (λ _=>(#[]:Array jp)))).get? b=some o:=λ b o hb e=>(j4 _ _ (J0 hb)).trans e;have s2:(g.update N (Obj.mapSeq (λ _=>(#[]:Array jp)))).objs.size=N+1:=by rw[Heap.size_update,sz]
 refine G4 (wpAny_letGo ?_);have nz:N≠z:=D7 hz;have Z2:=Z.keep (Nat.lt_succ_self _) nz (D7 hu) (D7 hv) (λ q h=>⟨D7 (yo q h).1,D7 (yo q h).2⟩) o2;have U_:=o2 _ _ nz.symm hZ;have hQ:∀(h':Heap) (ps:List ww) (c:Nat),(∀f o,f≠z->f≠v->(∀q∈qs,f≠q.a)->f≠N->(g.update N (Obj.mapSeq (λ _=>(#[]:Array jp)))).get? f=some o->h'.get? f=some o)->h'.get? N=some {cls:=.type "list",data:=.seq (ps.map Value.ref).toArray c}->ps.length=n->wR h' qs (N+1) ps->Q (.ref N) {s with heap:=h'}:=
  λ h' ps c kp a b d=>hQ h' ps c (λ f o n1 n2 n3 n4 e=>kp f o n1 n2 n3 n4 (o2 f o n4 e)) a b d
 generalize g.update N (Obj.mapSeq (λ _=>(#[]:Array jp)))=g2 at*;have hT:Shared.TypeIs {s with heap:=g2} (.ref z) "zip":=⟨_,U_,rfl⟩;unfold Builtin.List.listExtendWith;refine G4 (D5 hT ?_);have h1:Builtin.List.listSameRef (.ref N) (.ref z)=false:=by simp[Builtin.List.listSameRef,nz]
 have h2:(Value.type "zip"==Value.type "list")=false:=by decide
 have h3:(Value.type "zip"==Value.type "tuple")=false:=by decide
 simp only[h1,h2,h3,Bool.or_false,o8,G9];refine G4 (wpAny_pyIter_zip U_ ?_);refine G4 (B7 ?_);unfold Builtin.List.listLengthHint;refine G4 (B1 hT xa ?_);show wpAny _ _ (specialOf (Value.ref z) (Str.ofString "__length_hint__") >>= _) _ _ _;refine G4 (B1 hT uF ?_);refine G5 ?_;show wpAny _ _ (rule "list.extend.makes-room" >>= λ _=>Builtin.List.listTouch (.ref N) >>= λ _=>again (.builtin "list.extend.loop" ⟨[.ref N,.ref z,.none],[]⟩)) _ _ _;refine G4 (G6 ?_);refine G4 ?_;show wpAny _ _ (updateSeq N (·.push .none) >>= λ _=>updateSeq N (·.pop)) _ _ _;refine G4 (A9 Yz rfl ?_ (by size_fits) (by simp[Obj.mapSeq]));have Yy:=j6 (Obj.mapSeq (·.push Value.none)) Yz rfl;refine A9 (hz:=by seq_fits) Yy rfl ?_;have hS4:=j6 (Obj.mapSeq (·.pop)) Yy rfl;have o4:∀b o,b≠N->g2.get? b=some o->((g2.update N (Obj.mapSeq (·.push Value.none))).update N (Obj.mapSeq (·.pop))).get? b=some o:=
  λ b o hb e=>(j4 _ _ (J0 hb)).trans ((j4 _ _ (J0 hb)).trans e)
 have Z4:=Z2.keep (Nat.lt_succ_self _) nz (D7 hu) (D7 hv) (λ q h=>⟨D7 (yo q h).1,D7 (yo q h).2⟩) o4;refine G5 ⟨plainId_quiet m9 _,?_⟩;have lt:∀{x:Nat},x < N->x < N+1:=λ h=>w5 h;refine Tp (prog:=prog) (w:=w) (A:=A.in1) (R:=wants (λ r s₂=>r=Value.none/\Q (Value.ref N) s₂) E) (S:=N) (N0:=N+1) hA D fN cY hn Q3 hsz (lt hz) (lt hv) (λ q h=>lt (yo q h).1) (Nat.lt_succ_self _) nz (D7 hu) (D7 hv) (λ q h=>⟨D7 (yo q h).1,D7 (yo q h).2⟩) _ _ 0 {s with heap:=(g2.update N (Obj.mapSeq (·.push Value.none))).update N (Obj.mapSeq (·.pop))} [] _ rfl (G1 _) rfl ?_ Z4 hS4 ⟨.nil,λ j p e=>by simp at e⟩ λ h' Oc c' kp gT uB Zs=>⟨rfl,?_⟩
 ·show N+1<=_;rw[Heap.size_update,Heap.size_update,s2];exact D9 _
 ·exact hQ h' Oc c' (λ f o n1 n2 n3 n4 e=>kp f o n1 n2 n3 n4 (o4 f o n4 e)) gT uB Zs
end L5
namespace L2
open PySem.Spec PyProof.Rows L5
def oo{α:Type}:List α->List α->List α->List (List α)
 |x::xs,y::ys,z::zs=>[x,y,z]::oo xs ys zs
 |_,_,_=>[]
theorem y_:∀{xs ys zs:List α} {j:Nat} {r:List α},(oo xs ys zs)[j]?=some r->∃x y z,xs[j]?=some x/\ys[j]?=some y/\zs[j]?=some z/\r=[x,y,z]
 |x::xs,y::ys,z::zs,0,r,e=>⟨x,y,z,rfl,rfl,rfl,(A1 e).symm⟩
 |x::xs,y::ys,z::zs,j+1,r,e=>y_ (xs:=xs) (ys:=ys) (zs:=zs) (j:=j) e
 |[],_,_,j,r,e=>by simp[oo]at e
 |_::_,[],_,j,r,e=>by simp[oo]at e
 |_::_,_::_,[],j,r,e=>by simp[oo]at e
theorem Du:∀{xs ys zs:List α},xs.length=n->ys.length=n->zs.length=n->(oo xs ys zs).length=n:=by
 induction n with
 |zero=>intro xs ys zs h1 h2 h3;rw[a9 h1];rfl
 |succ n ih=>
  intro xs ys zs h1 h2 h3;cases xs with
  |nil=>cases h1
  |cons x xs=>cases ys with
   |nil=>cases h2
   |cons y ys=>cases zs with
    |nil=>cases h3
    |cons z zs=>exact H9 (·+1) (ih (Nat.succ.inj h1) (Nat.succ.inj h2) (Nat.succ.inj h3))
inductive Mn:Hp->List (List V)->List ww->Hp->Prop
 |nil {H:_}:Mn H [] [] H
 |cons {H r rs p ps H':_}:H p=none->Mn (ci H p (.tup r)) rs ps H'->Mn H (r::rs) (p::ps) H'
theorem oF(I0:bd X xz σ H s):∀(ps:List ww) (rs:List (List V)) (H1:Hp),bd X xz σ H1 {s with heap:=h'}->ps.length=rs.length->ps.Nodup->(∀p∈ps,s.heap.objs.size<=p/\H1 p=none)-> (∀(j:Nat) (p:ww) (r:List V),ps[j]?=some p->rs[j]?=some r->r.length<=sizeLine/\∃us,ce r us/\gD h' p us)->∃H2,Mn H1 rs ps H2/\bd X xz σ H2 {s with heap:=h'}/\∀b,b∉ps->H2 b=H1 b
 |[],rs,H1,I,hl,_,_,_=>by
  cases rs with
  |nil=>exact⟨H1,.nil,I,λ b _=>rfl⟩
  |cons r rs=>cases hl
 |p::ps,rs,H1,I,hl,nd,hf,pr=>by
  cases rs with
  |nil=>cases hl
  |cons r rs=>
   obtain⟨f1,us,q1,t⟩:=pr 0 p r rfl rfl;obtain⟨tO,fM⟩:=hf p n9;have fo:=I0.lB (H':=H1) tO fM;have I1:bd X xz σ (ci H1 p (.tup r)) {s with heap:=h'}:=bd.oG I fM ⟨f1,us,q1,⟨_,t,rfl,_,rfl⟩⟩ fo.2.1 (D1 I0.sz tO) fo.2.2.2.2.1 fo.2.2.2.2.2;have XX:=nodup_cons.mp nd;obtain⟨H2,z1,z2,z3⟩:=oF I0 ps rs (ci H1 p (.tup r)) I1 (by simpa using hl) XX.2 (λ p' SW=>by
    obtain⟨a1,a2⟩:=hf p' (k5 _ SW);exact⟨a1,by rw[aU (λ e:p'=p=>XX.1 (by rw[<- e];exact SW))];exact a2⟩) λ j p' r' e e'=>pr (j+1) p' r' (by simpa using e) (by simpa using e')
   refine⟨H2,.cons fM z1,z2,λ b hb=>?_⟩;rw[z3 b λ z=>hb (k5 _ z),aU (λ e:b=p=>hb (by rw[e];exact n9))]
section
variable {e2 e3:Expr}{ta:TA}{p pos:Pos}
theorem vals3{x y z:V}(r:ce [x,y,z] us):∃a b c,us=[a,b,c]/\bn x a/\bn y b/\bn z c:=by
 cases r with
 |cons a r=>cases r with
  |cons b r=>cases r with
   |cons c r=>cases r with
    |nil=>exact⟨_,_,_,rfl,a,b,c⟩
def Zc(K:J5)(ta:TA):TE:=λ σ H Q=>ta σ H λ vs H1=>∃(b c d:Bool) (l m n:ww) (xs ys zs:List V) (k:Nat),vs=[.ref l,.ref m,.ref n]/\Sq b K H1 l xs/\Sq c K H1 m ys/\Sq d K H1 n zs/\xs.length=k/\ys.length=k/\zs.length=k/\k≠0/\k<=10000/\
 ∀(ps:List ww) (H2:Hp) (r:ww),Mn H1 (oo xs ys zs) ps H2->H2 r=none->Q (.ref r) (ci H2 r (.lst (ps.map V.ref)))
theorem JP(hc:X.calm=true)(hg:Gl X "list")(hm:X.mg "list"=none)(GA:Gl X "zip")(Gx:X.mg "zip"=none)(ha:PA X [e1,e2,e3] ta) (hs:starEach [e1,e2,e3] X.env=[(false,eval e1 X.env),(false,eval e2 X.env),(false,eval e3 X.env)]:=by rfl) (mn:starEach [e2,e3] X.env=[(false,eval e2 X.env),(false,eval e3 X.env)]:=by rfl) (he:starEach [.Call (.Name "zip" p2) [e1,e2,e3] [] cU] X.env=(false,eval (.Call (.Name "zip" p2) [e1,e2,e3] [] cU) X.env)::starEach [] X.env:=by rfl):PE X (.Call (.Name "list" p) [.Call (.Name "zip" p2) [e1,e2,e3] [] cU] [] pos) (Zc X.K ta):=by
 intro xz s σ H Q I h;refine p9 (gQ I hg hm (show bootBuiltins "list"=some (.type "list") by decide+kernel) ?_);refine c3 ?_ he rfl;rw[he];show wpAny _ _ (spliced ((false,eval (.Call (.Name "zip" p2) [e1,e2,e3] [] cU) X.env)::backTo pos (starEach [] X.env))) _ _ s;refine Calls.spliced_cons ?_;refine Call_ (gQ I GA Gx boot_zip (c3 (dA (ha cU xz s σ H _ I h) λ us s1 ⟨vs,H1,I1,r1,q1⟩=>?_) (by rw[hs,mn]) (by rw[mn];rfl)));obtain⟨b,c,d,l,m,n,xs,ys,zs,k,ev,hl,fU,hn,lx,ly,lz,k0,cY,q⟩:=q1;subst ev;obtain⟨u1,u2,u3,rfl,r,r',Zp⟩:=vals3 r1;cases(show u1=Value.ref l from r);cases(show u2=Value.ref m from r');cases(show u3=Value.ref n from Zp);obtain⟨KA,v1,p1⟩:=e_ I1 hl;obtain⟨UY,v2,XT⟩:=e_ I1 fU;obtain⟨ZG,v3,p3⟩:=e_ I1 hn;refine Kj p1 XT p3 λ g qs eq D ZO Z g6 g7=>?_;refine Calls.spliced_nil ?_;have VI:KA.length=k:=v1.length.symm.trans lx;have Zh:UY.length=k:=v2.length.symm.trans ly;have Zg:ZG.length=k:=v3.length.symm.trans lz;have lt:∀{b:Bool} {l:ww} {xs:Array jp},lh b s1.heap l xs->l < g.objs.size:=λ x=>by rw[g6];exact p7 (sL x) (y0 _ _)
 have Ko:∀j:Nat,j < 6->s1.heap.objs.size+j < g.objs.size:=λ j h=>by rw[g6];exact Nat.add_lt_add_left h _
 have ok:=qK (prog:=X.prog) (w:=X.w) (A:=X.A) (E:=X.xe) (s:={s1 with heap:=g}) (Q:=EP X xz σ Q) (n:=k) (I1.ok.hd hc) D (by rw[eq];simp) (by rw[eq];show 3<=100;decide) cY k0;refine ok ?_ (Ko 5 (by decide)) (Ko 3 (by decide)) (Ko 4 (by decide)) ?_ ZO Z ?_
 ·rw[eq];simp only[C4,not_mem_nil,or_false,forall_eq_or_imp,forall_eq,u9];exact⟨VI,Zh,Zg⟩
 ·rw[eq];simp only[C4,not_mem_nil,or_false,forall_eq_or_imp,forall_eq];exact⟨⟨Ko 0 (by decide),lt p1⟩,⟨Ko 1 (by decide),lt XT⟩,Ko 2 (by decide),lt p3⟩
 ·intro h' ps c' kp hS uB pr;have WM:∀b o,s1.heap.get? b=some o->h'.get? b=some o:=λ b o e=>by have lt:∀k,b≠s1.heap.objs.size+k:=λ k=>C6 (p7 (C7 e) (y0 _ k));refine kp b o (lt 5) (lt 4) ?_ (g7 b o e);rw[eq];simp only[C4,not_mem_nil,or_false,forall_eq_or_imp,forall_eq];exact⟨lt 0,lt 1,lt 2⟩
  have I3:bd X xz σ H1 {s1 with heap:=h'}:=I1.kept (t':=s1.toks) WM;have ge:∀j p,ps[j]?=some p->s1.heap.objs.size<=p:=λ j p hj=>D1 (by show s1.heap.objs.size<=g.objs.size+1;rw[g6];exact y0 _ 7) (pr.2 j p hj).1;obtain⟨H2,z1,I4,z3⟩:=oF (s:=s1) (h':=h') I1 ps (oo xs ys zs) H1 I3 (by rw[uB,Du lx ly lz]) pr.1 (λ p hp=>by
    obtain⟨j,hj⟩:=mem_iff_getElem?.mp hp;exact⟨ge j p hj,I1.bt.fresh (ge j p hj)⟩) λ j p r hj hr=>by
     obtain⟨x,y,z,ex,ey,ez,rfl⟩:=y_ hr;obtain⟨a,ea,ra⟩:=v1.get ex;obtain⟨b,eb,rb⟩:=v2.get ey;obtain⟨c,ec,rc⟩:=v3.get ez;refine⟨by show 3<=sizeLine;decide,[a,b,c],.cons ra (.cons rb (.cons rc .nil)),?_⟩;have t:=(pr.2 j p hj).2;rw[eq]at t;have gd:∀{is:List jp} {u:jp},is[j]?=some u->is.toArray.getD j .none=u:=λ e=>by simp[Array.getD_eq_getD_getElem?,e]
     simp only[rowAt,C3,D4,gd ea,gd eb,gd ec]at t;exact t
  have nS:∀p∈ps,p≠g.objs.size:=λ p hp e=>by obtain⟨j,hj⟩:=mem_iff_getElem?.mp hp;have:=(pr.2 j p hj).1;rw[e]at this;exact absurd this (Nat.not_succ_le_self _)
  have fr:s1.heap.objs.size<=g.objs.size:=by rw[g6];exact y0 _ 6
  have PD:H2 g.objs.size=none:=(z3 _ λ h=>nS _ h rfl).trans (I1.bt.fresh fr);have fo:=I1.lB (H':=H2) fr PD;have I5:bd X xz σ (ci H2 g.objs.size (.lst (ps.map V.ref))) {s1 with heap:=h'}:=bd.oG I4 PD ⟨by rw[A5,uB];exact D1 cY (by decide),ps.map Value.ref,c',uN ps,hS⟩ fo.2.1 (D1 I1.sz fr) fo.2.2.2.2.1 fo.2.2.2.2.2;exact⟨.ref g.objs.size,_,I5,rfl,q ps H2 _ z1 PD⟩
end
open PySem.Spec PyProof.Rows
theorem rZ(hc:X.calm=true):dw X (.type "list") (λ xs H Q=>∃r lo hi,xs=[.ref r]/\H r=some (.xH lo hi)/\(-100000000<=lo/\lo<=100000000)/\(-100000000<=hi/\hi<=100000000)/\(hi - lo).toNat<=10000/\∀p,H p=none->Q (.ref p) (ci H p (.lst (lS lo (hi - lo).toNat)))):=by
 intro xz s σ H xs us Q I rr ⟨r,lo,hi,e,hr,h1,h2,hn,q⟩;subst e;obtain⟨u,rfl,rx⟩:=vals1 rr;cases rx;obtain⟨t,u,v,ho⟩:=I.bt r _ hr;have es:Builtin.Range.rangeSize lo hi 1=(((hi - lo).toNat:Nat):Int):=by rw[rangeSize_one];split <;> lia
 refine call_list_range (a:=lo) (b:=hi) (c:=1) (t:=t) (u:=u) (v:=v) (n:=(hi - lo).toNat) (I.ok.hd hc) ho (small_one (by lia) (by lia) (by lia) (by lia)) es (by lia) λ h' tk zn c' kp hS eG=>?_;have hf:=I.bt.fresh (D9 s.heap.objs.size);have fo:=I.lB (H':=H) (D9 s.heap.objs.size) hf;have I2:bd X xz σ (ci H s.heap.objs.size (.lst (lS lo (hi - lo).toNat))) {s with heap:=h',toks:=tk}:=
  bd.oG (I.kept (t':=tk) kp) hf ⟨by unfold lS;rw[A5,u6];exact D1 hn (by decide),zn.toList,c',rl eG,by rw[show zn.toList.toArray=zn by simp];exact hS⟩ fo.2.1 I.sz fo.2.2.2.2.1 fo.2.2.2.2.2
 exact⟨.ref s.heap.objs.size,_,I2,rfl,q _ hf⟩
end L2
namespace L3
open PySem.Spec PyProof.Rows L2 L5
def uH(xs ys zs:List D):List D:=(oo xs ys zs).map D.tup
theorem vA{rs:List (List V)}{ps:List ww}(h:Mn H rs ps H'):au H H':=by
 induction h with
 |nil=>exact au.refl _
 |cons hn _ ih=>exact(au.laid hn).trans ih
theorem JL{rs:List (List V)}{ps:List ww}(h:Mn H rs ps H')(r:bv K H M):bv K H' M:=by
 induction h with
 |nil=>exact r
 |cons hn _ ih=>exact ih (r.laid hn)
theorem vB:∀{rd:List (List D)} {rs:List (List V)} {ps:List ww} {H H2:Hp},Mn H rs ps H2->Paired (λ r v=>aD K H r v) rd rs->aD K H2 (rd.map D.tup) (ps.map V.ref)
 |_,_,_,_,_,.nil,.nil=>ar.mpr rfl
 |_,_,_,H,H2,.cons (r:=v) (p:=p) hn z,.cons (a:=r) a t=>by have t1:au H (ci H p (.tup v)):=au.laid hn;have t2:=vA z;exact ah.mpr ⟨.ref p,_,rfl,a_.mpr ⟨p,v,rfl,.inl (.inl (t2.tup _ _ aL)),aD.mono (t1.trans t2) _ a⟩,vB z (Paired.qA t λ r v h=>aD.mono t1 r h)⟩
theorem qS:∀{xs ys zs:List D} {xv yv zv:List V},aD K H xs xv->aD K H ys yv->aD K H zs zv->Paired (λ r v=>aD K H r v) (oo xs ys zs) (oo xv yv zv)
 |[],ys,zs,xv,yv,zv,h1,h2,h3=>by cases(ar.mp h1);exact .nil
 |x::xs,[],zs,xv,yv,zv,h1,h2,h3=>by obtain⟨a,r,rfl,_,_⟩:=ah.mp h1;cases(ar.mp h2);exact .nil
 |x::xs,y::ys,[],xv,yv,zv,h1,h2,h3=>by obtain⟨a,r,rfl,_,_⟩:=ah.mp h1;obtain⟨b,q,rfl,_,_⟩:=ah.mp h2;cases(ar.mp h3);exact .nil
 |x::xs,y::ys,z::zs,xv,yv,zv,h1,h2,h3=>by obtain⟨a,r,rfl,ha,hr⟩:=ah.mp h1;obtain⟨b,q,rfl,hb,hq⟩:=ah.mp h2;obtain⟨c,t,rfl,hc,ht⟩:=ah.mp h3;exact .cons (ah.mpr ⟨a,_,rfl,ha,ah.mpr ⟨b,_,rfl,hb,aD.one hc⟩⟩) (qS hr hq ht)
section
variable {e2 e3:Expr}{p pos:Pos}
def Ei(ta:dF):cw:=λ δ M Q=>ta δ M λ ds M1=>∃(d1 d2 d3:D) (xs ys zs:List D) (n:Nat),ds=[d1,d2,d3]/\cA M1 d1=some xs/\cA M1 d2=some ys/\cA M1 d3=some zs/\xs.length=n/\ys.length=n/\zs.length=n/\n≠0/\n<=10000/\∀p,M1 p=none->Q (.ref p) (ai M1 p (.lst (uH xs ys zs)))
theorem NW(hc:X.calm=true)(hg:Gl X "list")(hm:X.mg "list"=none)(GA:Gl X "zip")(Gx:X.mg "zip"=none)(ha:QA X [e1,e2,e3] ta) (hs:starEach [e1,e2,e3] X.env=[(false,eval e1 X.env),(false,eval e2 X.env),(false,eval e3 X.env)]:=by rfl) (mn:starEach [e2,e3] X.env=[(false,eval e2 X.env),(false,eval e3 X.env)]:=by rfl) (he:starEach [.Call (.Name "zip" p2) [e1,e2,e3] [] cU] X.env=(false,eval (.Call (.Name "zip" p2) [e1,e2,e3] [] cU) X.env)::starEach [] X.env:=by rfl):QE X (.Call (.Name "list" p) [.Call (.Name "zip" p2) [e1,e2,e3] [] cU] [] pos) (Ei ta):=by refine bJ (JP hc hg hm GA Gx ha hs mn he) ?_;rintro σ H Q ⟨δ,M,Q2,hs,hm,q,k⟩;refine⟨δ,M,_,hs,hm,q,λ vs H1 ds M1 hd bR t1 ⟨d1,d2,d3,xs,ys,zs,n,e,s1,s2,s3,l1,l2,l3,n0,cY,q1⟩=>?_⟩;subst e;obtain⟨v1,r,rfl,QY,hr⟩:=ah.mp hd;obtain⟨v2,r2,rfl,Gm,KH⟩:=ah.mp hr;obtain⟨v3,r3,rfl,ZY,Z7⟩:=ah.mp KH;cases(ar.mp Z7);obtain⟨b1,l,xv,rfl,q3,dx⟩:=sO bR s1 QY;obtain⟨b2,m,yv,rfl,q4,dy⟩:=sO bR s2 Gm;obtain⟨b3,n',zv,rfl,q5,dz⟩:=sO bR s3 ZY;refine⟨b1,b2,b3,l,m,n',xv,yv,zv,n,rfl,q3,q4,q5,by rw[dx.length,l1],by rw[dy.length,l2],by rw[dz.length,l3],n0,cY,λ ps H2 r z hn=>?_⟩;have t2:=vA z;have t3:au H2 (ci H2 r (.lst (ps.map V.ref))):=au.laid hn;have m2:=JL z bR;exact k _ _ _ _ (aF.mpr rfl) (m2.put (u:=.lst (uH xs ys zs)) t3 ⟨_,aL,aD.mono t3 _ (vB z (qS dx dy dz))⟩) (t1.trans (t2.trans t3)) (q1 r (m2.free hn))
def Ej(ta:dF):cw:=λ δ M Q=>ta δ M λ ds M1=>∃i j:Int,ds=[.int i,.int j]/\(-10000<=i/\i<=10000)/\(-10000<=j/\j<=10000)/\(j - i).toNat<=10000/\∀p,M1 p=none->Q (.ref p) (ai M1 p (.lst (ck i (j - i).toNat)))
theorem NX(hc:X.calm=true)(hg:Gl X "list")(hm:X.mg "list"=none)(GB:Gl X "range")(Gy:X.mg "range"=none)(ha:QA X [e1,e2] ta)(hs:starEach [e1,e2] X.env=[(false,eval e1 X.env),(false,eval e2 X.env)]:=by rfl)(mn:starEach [e2] X.env=[(false,eval e2 X.env)]:=by rfl):QE X (.Call (.Name "list" p) [.Call (.Name "range" p2) [e1,e2] [] cU] [] pos) (Ej ta):=by refine bJ (dM (rZ hc) hg hm (by decide+kernel) (jn (dM CZ GB Gy (by decide+kernel) ha (by decide) (by decide) (by rw[hs,mn]) (by rw[mn];rfl)) lT)) ?_;rintro σ H Q ⟨δ,M,Q2,hs,hm,q,k⟩;refine⟨δ,M,_,hs,hm,q,λ xs H1 ds M1 hd bR t1 ⟨i,j,e,hi,hj,hn,q1⟩=>?_⟩;subst e;obtain⟨x,r,rfl,hx,hr⟩:=ah.mp hd;obtain⟨y,r2,rfl,hy,KH⟩:=ah.mp hr;cases(ar.mp KH);cases(ax.mp hx);cases(ax.mp hy);refine⟨i,j,rfl,λ r Hz=>?_⟩;refine⟨r,i,j,rfl,aL,⟨by lia,by lia⟩,⟨by lia,by lia⟩,hn,λ p hp=>?_⟩;have t2:au H1 (ci H1 r (.xH i j)):=au.laid Hz;have t3:=au.laid (o:=.lst (lS i (j - i).toNat)) hp;exact k _ _ _ _ (aF.mpr rfl) ((bR.laid Hz).put (u:=.lst (ck i (j - i).toNat)) t3 ⟨_,aL,pV i _⟩) (t1.trans (t2.trans t3)) (q1 p ((bR.laid Hz).free hp))
end
end L3
namespace L4
open L2 L3
section
variable {e2 e3:Expr}{p pos:Pos}
theorem Mv(hc:X.calm=true)(hg:Gl X "list")(hm:X.mg "list"=none)(GA:Gl X "zip")(Gx:X.mg "zip"=none)(ha:WA X [e1,e2,e3] ta) (hs:starEach [e1,e2,e3] X.env=[(false,eval e1 X.env),(false,eval e2 X.env),(false,eval e3 X.env)]:=by rfl) (mn:starEach [e2,e3] X.env=[(false,eval e2 X.env),(false,eval e3 X.env)]:=by rfl) (he:starEach [.Call (.Name "zip" p2) [e1,e2,e3] [] cU] X.env=(false,eval (.Call (.Name "zip" p2) [e1,e2,e3] [] cU) X.env)::starEach [] X.env:=by rfl):WE X (.Call (.Name "list" p) [.Call (.Name "zip" p2) [e1,e2,e3] [] cU] [] pos) (Ei ta):=⟨NW hc hg hm GA Gx ha.h hs mn he⟩
theorem Mw(hc:X.calm=true)(hg:Gl X "list")(hm:X.mg "list"=none)(GB:Gl X "range")(Gy:X.mg "range"=none)(ha:WA X [e1,e2] ta)(hs:starEach [e1,e2] X.env=[(false,eval e1 X.env),(false,eval e2 X.env)]:=by rfl)(mn:starEach [e2] X.env=[(false,eval e2 X.env)]:=by rfl):WE X (.Call (.Name "list" p) [.Call (.Name "range" p2) [e1,e2] [] cU] [] pos) (Ej ta):=⟨NX hc hg hm GB Gy ha.h hs mn⟩
end
theorem IP{Q:bW}(h:ta δ M λ ds M1=>∃(d1 d2 d3:D) (xs ys zs:List D) (n:Nat),ds=[d1,d2,d3]/\cA M1 d1=some xs/\cA M1 d2=some ys/\cA M1 d3=some zs/\xs.length=n/\ys.length=n/\zs.length=n/\n≠0/\n<=10000/\∀p,M1 p=none->Q (.ref p) (ai M1 p (.lst (uH xs ys zs)))):Ei ta δ M Q:=h
theorem IQ{Q:bW}(h:ta δ M λ ds M1=>∃i j:Int,ds=[.int i,.int j]/\(-10000<=i/\i<=10000)/\(-10000<=j/\j<=10000)/\(j - i).toNat<=10000/\∀p,M1 p=none->Q (.ref p) (ai M1 p (.lst (ck i (j - i).toNat)))):Ej ta δ M Q:=h
end L4
namespace L2
open PySem.Spec PyProof.Rows
abbrev jh:=ww->Option (Obj×V)
def jV(H:Hp)(C:jh):Hp:=λ b=>match C b with
 |some p=>some (gZ p.1 b p.2)
 |none=>H b
def iq(H:Hp)(C:jh):Hp:=λ b=>match C b with
 |some _=>none
 |none=>H b
theorem jw{C:jh}{p:Obj×V}(e:C b=some p):jV H C b=some (gZ p.1 b p.2):=by unfold jV;rw[e]
theorem bN{C:jh}(e:C b=none):jV H C b=H b:=by unfold jV;rw[e]
theorem gH{C:jh}{p:Obj×V}(e:C b=some p):iq H C b=none:=by unfold iq;rw[e]
theorem bq{C:jh}(e:C b=none):iq H C b=H b:=by unfold iq;rw[e]
theorem aP(C:jh)(b:ww):C b=none\/∃p,C b=some p:=by
 cases e:C b with
 |none=>exact .inl rfl
 |some p=>exact .inr ⟨p,rfl⟩
def qm(C:jh)(h:Heap):Prop:=∀b p,C b=some p->h.get? b=some p.1/\Hd b p.2 h
theorem AZ{h:Heap}(x:Hd b v h)(k:∀o,h.get? b=some o->h'.get? b=some o):Hd b v h':=by obtain⟨u,r,o,h1,h2⟩:=x;exact⟨u,r,o,k _ h1,h2⟩
theorem qm.obj{C:jh}{h:Heap}(c:qm C h){p:Obj×V}(e:C b=some p):bO P w H h b (gZ p.1 b p.2):=
 ⟨(c b p e).1,(c b p e).1,(c b p e).2,⟨_,(c b p e).1⟩,λ h1 h2 x k=>AZ x k⟩
section
variable {outer:List Env}{C:jh}
theorem iz.DI{h:Heap}(x:iz P w H h)(hC:∀b p,C b=some p->∃o u,H b=some (.dD o u)):iz P w (iq H C) h:=λ b u e=>by
 rcases aP C b with z|⟨p,z⟩
 ·rw[bq z]at e;refine(x b u e).qv (λ c v _ q=>q) (λ c q=>?_) λ c xs q=>?_
  ·rcases aP C c with y|⟨p,y⟩
   ·rw[bq y];exact q
   ·obtain⟨o,u,r⟩:=hC c p y;rw[r]at q;cases q
  ·rcases aP C c with y|⟨p,y⟩
   ·rw[bq y];exact q
   ·obtain⟨o,u,r⟩:=hC c p y;rw[r]at q;cases q
 ·rw[gH z]at e;cases e
theorem iz.dD{h:Heap}(x:iz P w H h)(hC:∀b p,C b=some p->H b=none)(c:qm C h):iz P w (jV H C) h:=λ b u e=>by
 rcases aP C b with z|⟨p,z⟩
 ·rw[bN z]at e;refine(x b u e).qv (λ c v _ q=>q) (λ c q=>?_) λ c xs q=>?_
  ·rcases aP C c with y|⟨p,y⟩
   ·rw[bN y];exact q
   ·rw[hC c p y]at q;cases q
  ·rcases aP C c with y|⟨p,y⟩
   ·rw[bN y];exact q
   ·rw[hC c p y]at q;cases q
 ·rw[jw z]at e;cases e;exact c.obj z
theorem qj.dD(e:qj P w K mg base A outer s H)(hC:∀b p,C b=some p->H b=none/\base.get? b=none/\b∉uC outer)(c:qm C s.heap):qj P w K mg base A outer s (jV H C):=by
 refine⟨e.frames,e.mod,λ b o q=>?_,e.De,e.jU,λ b hb=>?_,e.bt.dD (λ b p z=>(hC b p z).1) c,e.bare⟩
 ·rcases aP C b with z|⟨p,z⟩
  ·rw[bN z];exact e.bs b o q
  ·rw[(hC b p z).2.1]at q;cases q
 ·rcases aP C b with z|⟨p,z⟩
  ·rw[bN z];exact e.KY b hb
  ·exact absurd hb (hC b p z).2.2
theorem CE.DI{Q:VK}(h:CE outer P w (jV H C) s Q u s')(hC:∀b p,C b=some p->H b=none/\b∉uC outer)(c:qm C s.heap):CE outer P w H s (λ v H2=>∃H',H2=iq H' C/\(∀b p,C b=some p->H' b=some (gZ p.1 b p.2))/\Q v H') u s':=by
 obtain⟨v,H',os,bare,un,bt,r,q⟩:=h;have hf:∀b p,C b=some p->H' b=some (gZ p.1 b p.2):=λ b p z=>un.mq b _ _ (jw z);have ne:∀b o,H b=some o->C b=none:=λ b o e=>by
  rcases aP C b with z|⟨p,z⟩
  ·exact z
  ·rw[(hC b p z).1]at e;cases e
 refine⟨v,iq H' C,os,bare,⟨λ b o e n hb hx=>?_,λ b o e n hb hx=>?_,λ b o e n hx=>?_,un.there,λ b xs e=>?_,λ b o x e=>?_,λ b ps e=>?_⟩,bt.DI λ b p z=>⟨_,_,hf b p z⟩,r,H',rfl,hf,q⟩
 ·rcases aP C b with z|⟨p,z⟩
  ·exact un.keep b o e (by rw[bN z];exact n) hb hx
  ·rw[(c b p z).1]at e;cases e;exact(bt b _ (hf b p z)).1
 ·rcases aP C b with z|⟨p,z⟩
  ·exact un.slot b o e (by rw[bN z];exact n) hb hx
  ·exact absurd hb (hC b p z).2
 ·rcases aP C b with z|⟨p,z⟩
  ·rw[bq z];exact un.free b o e (by rw[bN z];exact n) hx
  ·exact gH z
 ·rw[bq (ne b _ e)];exact un.oE b xs (by rw[bN (ne b _ e)];exact e)
 ·rw[bq (ne b _ e)];exact un.mq b o x (by rw[bN (ne b _ e)];exact e)
 ·rw[bq (ne b _ e)];exact un.mY b ps (by rw[bN (ne b _ e)];exact e)
theorem qj.DI(e:qj P w K mg base A outer s H)(hC:∀b p,C b=some p->H b=some (gZ p.1 b p.2)):qj P w K mg base A outer s (iq H C):=by
 refine⟨e.frames,e.mod,λ b o q=>⟨(e.bs b o q).1,?_⟩,e.De,e.jU,λ b hb=>?_,e.bt.DI λ b p z=>⟨_,_,hC b p z⟩,e.bare⟩
 ·rcases aP C b with z|⟨p,z⟩
  ·rw[bq z];exact(e.bs b o q).2
  ·exact gH z
 ·rcases aP C b with z|⟨p,z⟩
  ·rw[bq z];exact e.KY b hb
  ·exact gH z
theorem CE.dD{Q:VK}(h:CE outer P w (iq H C) s (λ v H'=>(∀b p,C b=some p->H' b=none)->Q v (jV H' C)) u s')(KL:iz P w H s.heap)(hC:∀b p,C b=some p->H b=some (gZ p.1 b p.2))(Ax:∀b∈uC outer,H b=none):CE outer P w H s Q u s':=by
 obtain⟨v,H',os,bare,un,bt,r,q⟩:=h;have nf:∀b p,C b=some p->b∉uC outer:=λ b p z hb=>by have:=hC b p z;rw[Ax b hb]at this;cases this
 have kc:∀b p,C b=some p->s'.heap.get? b=some p.1:=λ b p z=>un.keep b _ (KL b _ (hC b p z)).1 (gH z) (nf b p z) (by simp);have fr:∀b p,C b=some p->H' b=none:=λ b p z=>un.free b _ (KL b _ (hC b p z)).1 (gH z) (by simp);have ne:∀b,H b=none->C b=none:=λ b e=>by
  rcases aP C b with z|⟨p,z⟩
  ·exact z
  ·rw[hC b p z]at e;cases e
 have co:qm C s'.heap:=λ b p z=>⟨kc b p z,AZ (KL b _ (hC b p z)).2.2.1 λ o e=>by rw[(KL b _ (hC b p z)).1]at e;cases e;exact kc b p z⟩;refine⟨v,jV H' C,os,bare,⟨λ b o e n hb hx=>un.keep b o e (by rw[bq (ne b n)];exact n) hb hx,λ b o e n hb hx=>un.slot b o e (by rw[bq (ne b n)];exact n) hb hx,λ b o e n hx=>by rw[bN (ne b n)];exact un.free b o e (by rw[bq (ne b n)];exact n) hx,un.there,λ b xs e=>?_,λ b o x e=>?_,λ b ps e=>?_⟩,bt.dD fr co,r,q fr⟩
 ·rcases aP C b with z|⟨p,z⟩
  ·rw[bN z];exact un.oE b xs (by rw[bq z];exact e)
  ·rw[hC b p z]at e;cases e
 ·rcases aP C b with z|⟨p,z⟩
  ·rw[bN z];exact un.mq b o x (by rw[bq z];exact e)
  ·rw[hC b p z]at e;rw[jw z];exact e
 ·rcases aP C b with z|⟨p,z⟩
  ·rw[bN z];exact un.mY b ps (by rw[bq z];exact e)
  ·rw[hC b p z]at e;cases e
end
open PySem.Spec PyProof.Rows
structure lK(ps fv:List Str)(sc:Scope):Prop where
 kind:sc.kind=.function
 co:sc.isCoroutine=false
 gen:sc.isGenerator=false
 nd:(ps++fv).Nodup
 par:∀x∈ps,sc.names.lookup x=some .local
 FD:∀y∈sc.names,y.2≠.cell
 Qa:∀x∈fv,sc.names.lookup x=some .free
 all:∀x,sc.names.lookup x=some .free->x∈fv
def wC(P:Program)(w:World)(K:J5)(mg:Str->Option jp)(base:Heap)(N:List Str)(qual:Str)(scope:Scope)(f c:ww)(cl:List (Str×ww))(A:Around)(outer:List Env)(s:kt)(H:Hp):Cx where
 prog:=P
 w:=w
 K:=K
 mg:=mg
 base:=base
 A:=A.deeper (PySem.W.envX qual scope s.heap.objs.size f (.ref c) cl)
 N:=N
 s₀:=s
 H₀:=H
 env:=PySem.W.envX qual scope s.heap.objs.size f (.ref c) cl
 outer:=outer
 stack:=PySem.W.envX qual scope s.heap.objs.size f (.ref c) cl::outer
 ex:=[]
 calm:=true
 fn:=λ _=>false
 pn:=[]
 xe:=λ _ _=>False
abbrev TX:=List V->List V->Hp->VK->Prop
structure QH(h:Heap)(H:Hp)(cl:List (Str×ww))(fv:List Str)(iw:List V):Prop where
 len:iw.length=fv.length
 val:∀(i:Nat) (x:Str) (v:V),fv[i]?=some x->iw[i]?=some v->∃d,cl.lookup x=some d/\Hd d v h
 inj:∀x y d,cl.lookup x=some d->cl.lookup y=some d->x=y
 free:∀x d,cl.lookup x=some d->x∈fv/\H d=none
structure sm(P:Program)(w:World)(K:J5)(mg:Str->Option jp)(base:Heap)(k:Nat)(L:ka)(ps fv:List Str)(sp:TX):Prop where
 len:∀vs iw H Q,sp vs iw H Q->vs.length=ps.length
 run:∀(A:Around) (outer:List Env) (s:kt) (H:Hp) (f c:ww) (cl:List (Str×ww)) (us:List jp) (vs iw:List V) (Q:VK),cX k A->qj P w K mg base A outer s H->mh f L c cl s.heap->tV c L.qual s.heap->QH s.heap H cl fv iw->ce vs us->sp vs iw H Q->
  codeAny (model P w) A (.call (.ref f) ⟨us,[]⟩) (CR (λ _ _ _ _ _ _=>False) outer P w H s Q λ _ _ _=>False) s
theorem Mp:∀{ps:List Str} {us:List jp} {i:Nat},ps.Nodup->ps[i]?=some x->us[i]?=some u->(ps.zip us).reverse.lookup x=some u:=by
 intro ps us i nd h1 h2;have mem:(x,u)∈ps.zip us:=by have:(ps.zip us)[i]?=some (x,u):=getElem?_zip_eq_some.mpr ⟨h1,h2⟩;exact k7 this
 have un:∀v,(x,v)∈ps.zip us->v=u:=λ v hv=>by obtain⟨j,hj⟩:=mem_iff_getElem?.mp hv;obtain⟨a,b⟩:=getElem?_zip_eq_some.mp hj;have:=iV nd h1 a;subst this;rw[h2]at b;exact(A1 b).symm
 have go:∀l:List (Str×jp),(x,u)∈l->(∀v,(x,v)∈l->v=u)->l.lookup x=some u:=by
  intro l
  induction l with
  |nil=>intro h;cases h
  |cons p l ih=>
   intro h hu;obtain⟨y,v⟩:=p;rw[w6];cases hy:x==y with
   |true=>
    have:x=y:=by simpa using hy
    subst this;rw[hu v (.head _)]
   |false=>
    rcases C4.mp h with e|h
    ·cases e;simp at hy
    ·exact ih h λ w hw=>hu w (.tail _ hw)
 exact go _ (mem_reverse.mpr mem) λ v hv=>un v (mem_reverse.mp hv)
theorem O'{P:Program}{w:World}{K:J5}{mg:Str->Option jp}{base:Heap}{k:Nat}{L:ka}{ps fv:List Str}{sp:TX}(S:lK ps fv L.scope)(len:∀vs iw H Q,sp vs iw H Q->vs.length=ps.length) (pL:∀(cl:List (Str×ww)) (c:ww) (og:jp) (us:List jp),us.length=ps.length->bindArgs (PySem.W.kla_fn "<lambda>" L.qual L.params L.body L.scope cl L.pm (.ref c) og) ⟨us,[]⟩=pure (ps.zip us)) (eW:∀(A:Around) (outer:List Env) (s:kt) (H:Hp) (f c:ww) (cl:List (Str×ww)) (vs iw:List V) (Q:VK),cX k (A.deeper (PySem.W.envX L.qual L.scope s.heap.objs.size f (.ref c) cl))->sp vs iw H Q->
   ∃t,PE (wC P w K mg base (ps++fv) L.qual L.scope f c cl A outer s H) L.body t/\t ((vs++iw).map some) H Q):sm P w K mg base (k+1) L ps fv sp:=by
 refine⟨len,λ A outer s H f c cl us vs iw Q hr e0 hf hc hC r CD=>?_⟩;have hl:=len _ _ _ _ CD;have lim:s.heap.NoLimit:=e0.mod.nolimit.keeps λ b o e=>(e0.bs b o e).1;obtain⟨og,ef⟩:=hf;refine PySem.W.kla_callFunE hr.depth ef rfl S.co S.gen rfl hc ?_;rw[pL cl c og us (by rw[<- r.length];exact hl)];refine G5 (wpAny_newFunctionEnv S.FD (λ y hy=>S.par _ (of_mem_zip (show(y.1,y.2)∈ps.zip us from hy)).1) (λ h1 WC KG=>⟨lim.fresh _ KG,?_⟩) S.kind);show codeAny _ _ (.expr L.body (PySem.W.envX L.qual L.scope s.heap.objs.size f (.ref c) cl)) _ _;have PH:∀b o,s.heap.get? b=some o->h1.get? b=some o:=λ b o e=>KG.extBut b o (C6 (C7 e)) (j0 _ e);obtain⟨t,ht,hq⟩:=eW A outer s H f c cl vs iw Q (hr.deeper _) CD;have I:bd (wC P w K mg base (ps++fv) L.qual L.scope f c cl A outer s H) [] ((vs++iw).map some) H {s with heap:=h1,toks:=s.toks+(ps.zip us).length}:=by
  have FE:∀b:ww,b∉(wC P w K mg base (ps++fv) L.qual L.scope f c cl A outer s H).ex:=λ b z=>absurd (show b∈([]:List ww)from z) (by simp);refine⟨⟨e0.mod,S.kind,rfl,rfl,D9 _,hC.inj,λ y hy=>?_,λ y d z=>(by cases z),λ _=>hr.hd,Around.frames_deeper e0.frames,.inr ⟨rfl,rfl⟩,λ b z=>absurd z (FE b),e0.bs,e0.De,λ b _ _=>FE b,λ b z=>absurd z (FE b),e0.jU,e0.KY⟩,
   rfl,e0.bare,Un.kept PH,⟨_,WC,λ i y v q1 q2 q3=>?_⟩,λ y d q=>?_,e0.bt.fresh (D9 _),λ y d q=>(hC.free y d q).2,λ p hp=>absurd (show p∈([]:List (ww×Obj))from hp) (by simp),e0.bt.kept PH,?_⟩
  ·have hy:L.scope.names.lookup y=some .cell\/L.scope.names.lookup y=some .free:=hy;rcases hy with hy|hy
   ·exact absurd rfl (S.FD _ (l7 hy))
   ·obtain⟨i,hi⟩:=mem_iff_getElem?.mp (S.all y hy);have lt:i < iw.length:=by rw[hC.len];exact(c9.mp hi).1
    obtain⟨d,q,_⟩:=hC.val i y _ hi (i0 lt);exact⟨d,q⟩
  ·have q2:(vs++iw)[i]?=some v:=by
    rw[r0]at q2;cases z:(vs++iw)[i]? with
    |none=>rw[z]at q2;cases q2
    |some a=>rw[z]at q2;cases q2;rfl
   have q1:(ps++fv)[i]?=some y:=q1;by_cases hi:i < ps.length
   ·rw[c7 hi]at q1;rw[c7 (by rw[hl];exact hi)]at q2;obtain⟨u,hu,rv⟩:=r.get q2;exact⟨u,rv,.inl ⟨S.par y (k7 q1),Mp (nodup_append.mp S.nd).1 q1 hu⟩⟩
   ·rw[c5 (by lia)]at q1;rw[c5 (by lia),hl]at q2;obtain⟨d,q,u,rv,ic⟩:=hC.val _ y v q1 q2;exact⟨u,rv,.inr ⟨.inr (S.Qa y (k7 q1)),d,q,let⟨o,a,b⟩:=ic;⟨o,PH _ _ a,b⟩⟩⟩
  ·obtain⟨i,hi⟩:=mem_iff_getElem?.mp (hC.free y d q).1;have lt:i < iw.length:=by rw[hC.len];exact(c9.mp hi).1
   obtain⟨d',q',u,_,ic⟩:=hC.val i y _ hi (i0 lt);have:d'=d:=A1 (q'.symm.trans q);subst this;exact⟨some u,let⟨o,a,b⟩:=ic;⟨o,PH _ _ a,b⟩⟩
  ·show _=(ps++fv).length;rw[A5,o7,o7,hl,hC.len]
 refine PySem.W.kla_codeExpr (G8 (ht [] _ _ H Q I hq) (λ u s' hs=>?_) λ e s' hs=>False.elim hs);obtain⟨v,H',J,rv,q⟩:=hs;exact⟨v,H',J.os,J.bare,J.base,J.bt,rv,q⟩
open PySem.Spec PyProof.Rows
structure Ud(cells:List (Str×ww))(cn:List (Str×Nat))(σ:St)(C:jh):Prop where
 has:∀x j,(x,j)∈cn->∃d o v,cells.lookup x=some d/\σ[j]?=some (some v)/\C d=some (o,v)
 only:∀d p,C d=some p->∃x j,(x,j)∈cn/\cells.lookup x=some d
theorem bd.TM(I:bd X xz σ H s):∀(cn:List (Str×Nat)),(∀x j,(x,j)∈cn->X.env.kindOf x=some .cell/\X.N[j]?=some x/\∃v,σ[j]?=some (some v))->X.N.Nodup->∃C,Ud X.env.cells cn σ C/\qm C s.heap
 |[],_,_=>⟨λ _=>none,⟨(λ _ _ h=>nomatch h),(λ _ _ h=>nomatch h)⟩,(λ _ _ h=>nomatch h)⟩
 |(x,j)::cn,h,nd=>by
  obtain⟨C,h1,h2⟩:=I.TM cn (λ y i hy=>h y i (.tail _ hy)) nd;obtain⟨hk,hN,v,hv⟩:=h x j (.head _);obtain⟨m,hn,hl⟩:=I.loc;obtain⟨u,r,lk⟩:=hl j x v hN hv (.inr (.inl hk));rcases lk with⟨q,_⟩|⟨_,d,hd,hc⟩
  ·rw[hk]at q;cases q
  obtain⟨o,ho,hz⟩:=Lb r hc;refine⟨λ b=>if b=d then some (o,v)else C b,⟨λ y i hy=>?_,λ b p hb=>?_⟩,λ b p hb=>?_⟩
  ·rcases C4.mp hy with e|X4
   ·cases e;exact⟨d,o,v,hd,hv,J3 rfl⟩
   ·obtain⟨d',o',v',e1,e2,e3⟩:=h1.has y i X4;by_cases z:d'=d
    ·subst z;have exy:y=x:=I.ok.inj _ _ _ e1 hd;subst exy;obtain⟨_,hN',_⟩:=h y i (.tail _ X4);have:i=j:=iV nd hN' hN;subst this;exact⟨d',o,v,hd,hv,J3 rfl⟩
    ·exact⟨d',o',v',e1,e2,(J4 z).trans e3⟩
  ·by_cases z:b=d
   ·subst z;exact⟨x,j,.head _,hd⟩
   ·have hb:C b=some p:=(J4 z).symm.trans hb;obtain⟨y,i,m1,m2⟩:=h1.only b p hb;exact⟨y,i,.tail _ m1,m2⟩
  ·by_cases z:b=d
   ·subst z;have hb:some (o,v)=some p:=(J3 rfl).symm.trans hb;cases hb;exact⟨ho,u,r,hc⟩
   ·exact h2 b p ((J4 z).symm.trans hb)
section
variable {sp:Sp}{uD:List V}{ds:List jp}{p pos:Pos}{t:TA}
def MK(sp:Sp)(uD:List V)(cells:List (Str×ww))(cn:List (Str×Nat))(t:TA):TE:=λ σ H Q=>t σ H λ vs H1=>(∀x j,(x,j)∈cn->∃v,σ[j]?=some (some v))/\
 ∀C,Ud cells cn σ C->(∀x j y i b,(x,j)∈cn->(y,i)∈cn->cells.lookup x=some b->cells.lookup y=some b->j=i)->(∀b p,C b=some p->H1 b=none)->sp (vs++uD) (jV H1 C) (λ v H'=>Q v (iq H' C)) E0
theorem Fp(F:bT X.prog X.w X.K X.mg X.base eX k f fd ps sp)(hr:cX k X.A)(hg:Gl X x)(hm:X.mg x=some (.ref f))(hk:PySem.W.keepIn X.K (.ref f)=true)(hb:Binds X.K fd ps ds)(hd:ce uD ds) (rO:∀x j,(x,j)∈cn->X.env.kindOf x=some .cell/\X.N[j]?=some x/\X.fn x=true) (hN:X.N.Nodup) (ha:PA X (e::es) t) (hdb:(x==("__debug__":Str))=false:=by decide) (he:starEach (e::es) X.env=(false,eval e X.env)::starEach es X.env:=by rfl) (hpl:(backTo pos (starEach es X.env)).any (·.1)=false:=by rfl):PE X (.Call (.Name x p) (e::es) [] pos) (MK sp uD X.env.cells cn t):=by
 intro xz s σ H Q I h;refine p9 (Al I hg hm ?_ hdb);refine PySem.W.callWith_K (h₀:=X.base) I.ok.mod.SG hk (dA (ha pos xz s σ H _ I h) λ us s1 ⟨vs,H1,I1,r,hv,q⟩=>⟨I1.LX,?_⟩) he hpl;obtain⟨C,hC,YU⟩:=I1.TM cn (λ x j hx=>⟨(rO x j hx).1,(rO x j hx).2.1,hv x j hx⟩) hN;have fr:∀b p,C b=some p->H1 b=none/\X.base.get? b=none/\b∉uC X.stack:=λ b p hb=>by
  obtain⟨y,j,m1,m2⟩:=hC.only b p hb;have ge:=I1.ok.Rb y b (rO y j m1).2.2 m2;refine⟨I1.gu y b m2,Heap.get?_none_of_le (D1 I1.ok.De ge),λ z=>?_⟩;rcases C4.mp (I1.oK b z)with z|z
  ·exact I1.Mk y b m2 z
  ·obtain⟨_,o,ho,_⟩:=I1.ok.jU.mem z;exact absurd (C7 ho) (Nat.not_lt.mpr ge)
 have q:=q C hC (λ y j z i b m1 m2 e1 e2=>by have:=I1.ok.inj _ _ _ e1 e2;subst this;exact iV hN (rO _ _ m1).2.1 (rO _ _ m2).2.1) λ b p hb=>(fr b p hb).1;have r2:ce (vs++uD) (us++ds):=r.append hd;have hl:(us++ds).length=ps.length:=by rw[<- r2.length];exact F.len _ _ _ _ q
 refine wpAny_call (D6 (F.run X.A X.stack s1 (jV H1 C) ⟨us,[]⟩ (us++ds) (vs++uD) _ E0 hr (I1.Qd.dD fr YU) (hb s1 us I1.LX hl) r2 q) λ r s' hq=>?_);cases r with
 |error e=>exact False.elim hq
 |ok fl=>
  cases fl with
  |ret u=>have hq:=CE.DI hq (λ b p hb=>⟨(fr b p hb).1,(fr b p hb).2.2⟩) YU;obtain⟨v,H2,I2,rv,H',e,hf,q⟩:=I1.after hq;exact⟨v,H2,I2,rv,by rw[e];exact q⟩
  |next=>exact False.elim hq
  |brk=>exact False.elim hq
  |cont=>exact False.elim hq
end
section
variable {p pos:Pos}{t:TA}
structure T7(H:Hp)(f:ww)(L:ka)(fv:List Str)(iw:List V)(C:jh):Prop where
 ex:∃c cl,(∃o,H f=some (.dD o (.ext (mh f L c cl))))/\(∃o,H c=some (.dD o (.ext (tV c L.qual))))/\(∀x y d,cl.lookup x=some d->cl.lookup y=some d->x=y)/\(∀x d,cl.lookup x=some d->x∈fv/\∃p,C d=some p)/\
  ∀(i:Nat) (x:Str) (v:V),fv[i]?=some x->iw[i]?=some v->∃d o,cl.lookup x=some d/\C d=some (o,v)
 len:iw.length=fv.length
 dD:∀b p,C b=some p->H b=some (gZ p.1 b p.2)
def Zd(P:Program)(w:World)(K:J5)(mg:Str->Option jp)(base:Heap)(k:Nat)(i:Nat)(t:TA):TE:=λ σ H Q=>∃f,σ[i]?=some (some (.ref f))/\(∃o L c cl,H f=some (.dD o (.ext (mh f L c cl))))/\t σ H λ vs H1=>∃(L:ka) (ps fv:List Str) (sp:TX) (iw:List V) (C:jh),
 sm P w K mg base k L ps fv sp/\T7 H1 f L fv iw C/\sp vs iw (iq H1 C) λ v H'=>(∀b p,C b=some p->H' b=none)->Q v (jV H' C)
theorem Me{h:Heap}{c:ww}(bt:iz P w H h)(e:H f=some (.dD o (.ext (mh f L c cl)))):mh f L c cl h:=(bt f _ e).2.1
theorem AG{h:Heap}{c:ww}(x:mh f L c cl h):PySem.W.FnAt f h:=let⟨og,e⟩:=x;⟨_,_,_,_,e⟩
theorem Fo(hr:cX k X.A)(hi:X.N[i]?=some x)(hv:Ln X.env.scope x)(ha:PA X (e::es) t)(hd:(x==("__debug__":Str))=false:=by decide)(hcd:(x==("__classdict__":Str))=false:=by decide) (he:starEach (e::es) X.env=(false,eval e X.env)::starEach es X.env:=by rfl) (hpl:(backTo pos (starEach es X.env)).any (·.1)=false:=by rfl):PE X (.Call (.Name x p) (e::es) [] pos) (Zd X.prog X.w X.K X.mg X.base k i t):=by
 intro xz s σ H Q I h;obtain⟨f,ef,⟨o0,L0,c0,YV,e0⟩,h⟩:=h;refine p9 (dA (Fh hi hv hd hcd xz s σ H (λ v H'=>v=.ref f/\H'=H) I ⟨.ref f,ef,rfl,rfl⟩) λ u s0 ⟨v,H0,I0,rv,ev,eH⟩=>?_);subst ev;subst eH;cases(show u=Value.ref f from rv);have hf0:=Me I0.bt e0;refine PySem.W.callWith_F (AG hf0) (dA (ha pos xz s0 σ H0 _ I0 h) λ us s1 ⟨vs,H1,I1,r,L,ps,fv,sp,iw,C,ok,at',q⟩=>?_) he hpl;obtain⟨c,cl,⟨o1,h1⟩,⟨o2,h2⟩,inj,Qa,val⟩:=at'.ex;have Ys:=Me I1.bt h1;have hc1:tV c L.qual s1.heap:=(I1.bt c _ h2).2.1;refine⟨AG Ys,wpAny_call (D6 (ok.run X.A X.stack s1 (iq H1 C) f c cl us vs iw _ hr (I1.Qd.DI at'.dD) Ys hc1 ⟨at'.len,λ i x v a b=>?_,inj,λ x d z=>?_⟩ r q) λ r s' hq=>?_)⟩
 ·obtain⟨d,o,e1,e2⟩:=val i x v a b;exact⟨d,e1,(I1.bt d _ (at'.dD d _ e2)).2.2.1⟩
 ·obtain⟨a,b,z2⟩:=Qa x d z;exact⟨a,gH z2⟩
 ·cases r with
  |error e=>exact False.elim hq
  |ok fl=>
   cases fl with
   |ret u=>exact I1.after (CE.dD hq I1.bt at'.dD I1.sJ)
   |next=>exact False.elim hq
   |brk=>exact False.elim hq
   |cont=>exact False.elim hq
end
end L2
namespace L3
open PySem.Spec PyProof.Rows L2 L5
abbrev CM:=ww->Option D
def gA(M:Mem)(C:CM):Mem:=λ b=>match C b with
 |some d=>some (.eS (.tY d))
 |none=>M b
def fA(M:Mem)(C:CM):Mem:=λ b=>match C b with
 |some _=>none
 |none=>M b
theorem lH{C:CM}(e:C b=some d):gA M C b=some (.eS (.tY d)):=by unfold gA;rw[e]
theorem g_{C:CM}(e:C b=none):gA M C b=M b:=by unfold gA;rw[e]
theorem K2{C:CM}(e:C b=some d):fA M C b=none:=by unfold fA;rw[e]
theorem lF{C:CM}(e:C b=none):fA M C b=M b:=by unfold fA;rw[e]
theorem cW(C:CM)(b:ww):C b=none\/∃d,C b=some d:=by
 cases e:C b with
 |none=>exact .inl rfl
 |some p=>exact .inr ⟨p,rfl⟩
structure Hv(K:J5)(H:Hp)(C:jh)(M:CM):Prop where
 l:∀b p,C b=some p->∃d,M b=some d/\bi K H d p.2
 r:∀b d,M b=some d->∃p,C b=some p
theorem Hv.none{C:jh}{M:CM}(h:Hv K H C M)(b:ww):C b=Option.none↔M b=Option.none:=by
 constructor
 ·intro e;rcases cW M b with z|⟨d,z⟩
  ·exact z
  ·obtain⟨p,q⟩:=h.r b d z;rw[q]at e;cases e
 ·intro e;rcases aP C b with z|⟨p,z⟩
  ·exact z
  ·obtain⟨d,q,_⟩:=h.l b p z;rw[q]at e;cases e
section
variable {C:jh}{N:CM}
theorem sI(hC:∀b p,C b=some p->∃o v,H b=some (gZ o b v)):Dh H (iq H C):=by
 have ne:∀b u,H b=some u->(∀o v,u≠gZ o b v)->C b=none:=λ b u e n=>by
  rcases aP C b with z|⟨p,z⟩
  ·exact z
  ·obtain⟨o,v,q⟩:=hC b p z;rw[q]at e;exact absurd (A1 e).symm (n o v)
 exact⟨λ b xs e=>by rw[bq (ne b _ e λ o v z=>by cases z)];exact e,λ b o xs e=>by rw[bq (ne b _ e λ o v z=>by cases z)];exact e,λ b o xs e=>by rw[bq (ne b _ e λ o v z=>by cases z)];exact e⟩
theorem nW(hC:∀b p,C b=some p->H b=none):au H (jV H C):=by
 have ne:∀b u,H b=some u->C b=none:=λ b u e=>by
  rcases aP C b with z|⟨p,z⟩
  ·exact z
  ·rw[hC b p z]at e;cases e
 exact⟨λ b xs e=>by rw[bN (ne b _ e)];exact e,λ b o xs e=>by rw[bN (ne b _ e)];exact e⟩
theorem qN.DI{o:MO}(h:qN K H a o)(hC:∀b p,C b=some p->∃o v,H b=some (gZ o b v))(ha:C a=none):qN K (iq H C) a o:=by
 have ts:=sI hC;have kp:∀b u,H b=some u->(∀o v,u≠gZ o b v)->iq H C b=some u:=λ b u e n=>by
  rcases aP C b with z|⟨p,z⟩
  ·rw[bq z];exact e
  ·obtain⟨o,v,q⟩:=hC b p z;rw[q]at e;exact absurd (A1 e).symm (n o v)
 have ea:iq H C a=H a:=bq ha;cases o with
 |lst ds=>obtain⟨xs,h,q⟩:=h;exact⟨xs,ea.trans h,aD.mon ts ds q⟩
 |cO b kvs=>
  cases b with
  |false=>obtain⟨xs,h,q⟩:=h;exact⟨xs,ea.trans h,Paired.qA q λ p q z=>⟨z.1,bi.mon ts _ z.2⟩⟩
  |true=>obtain⟨xs,h,q⟩:=h;exact⟨xs,ea.trans h,Paired.qA q λ p q z=>⟨z.1,z.2.1,bi.mon ts _ z.2.2.1,bi.mon ts _ z.2.2.2⟩⟩
 |eS x=>
  cases x with
  |lam L cl=>obtain⟨c,⟨o,h⟩,o',h'⟩:=h;exact⟨c,⟨o,ea.trans h⟩,o',kp _ _ h' λ o v z=>by cases z⟩
  |tY d=>obtain⟨o,v,h,q⟩:=h;exact⟨o,v,ea.trans h,bi.mon ts d q⟩
  |lN q=>obtain⟨cs,h1,h2⟩:=h;exact⟨cs,ea.trans h1,λ p hp=>let⟨o,z⟩:=h2 p hp;⟨o,kp _ _ z λ o v y=>by cases y⟩⟩
  |ug kvs=>obtain⟨xs,h,q⟩:=h;exact⟨xs,ea.trans h,Paired.qA q λ p q z=>⟨z.1,bi.mon ts _ z.2.1,bi.mon ts _ z.2.2⟩⟩
theorem bv.dD(h:bv K H M)(hC:∀b p,C b=some p->H b=none)(c:Hv K H C N):bv K (jV H C) (gA M N):=λ a o e=>by
 have t:=nW hC;rcases cW N a with z|⟨d,z⟩
 ·rw[g_ z]at e;exact(h a o e).mono t (bN ((c.none a).mpr z))
 ·rw[lH z]at e;cases e;obtain⟨p,q⟩:=c.r a d z;obtain⟨d',q',r⟩:=c.l a p q;rw[z]at q';cases q';exact⟨_,_,jw q,bi.mono t _ r⟩
theorem bv.DI(h:bv K H M)(hC:∀b p,C b=some p->∃o v,H b=some (gZ o b v))(c:∀b,C b=none↔N b=none):bv K (iq H C) (fA M N):=λ a o e=>by
 rcases cW N a with z|⟨d,z⟩
 ·rw[lF z]at e;exact(h a o e).DI hC ((c a).mpr z)
 ·rw[K2 z]at e;cases e
end
section
variable {c P:ww}{pos:Pos}
def MW(P:ww)(L:ka)(cells:List (Str×ww)):cw:=λ _ M Q=>M P=some (.eS (.lN L.qual))/\∀f,M f=none->(∀x d,cells.lookup x=some d->d≠f)->Q (.ref f) (ai M f (.eS (.lam L (bA cells L.scope.names []))))
theorem R3(rN:X.env.code=.ref c)(B:HG X.mg X.base c P)(GF:defaultsOf L.params X.env=([],[]))(Q0:L.pm=(X.mg "__name__").getD .none)(hq:X.env.qual++"<lambda>"=L.qual) (Ax:∀n,(n,NameKind.free)∈L.scope.names->X.env.kindOf n=some .cell\/X.env.kindOf n=some .free):QE X (.Lambda L.params L.body L.scope pos) (MW P L X.env.cells):=by
 refine bJ (Oo rN B GF Q0 hq Ax) ?_;rintro σ H Q ⟨δ,M,Q2,hs,hm,⟨hP,q⟩,k⟩;have tb:Mm H P L.qual:=hm P _ hP;obtain⟨cs,eP,Ay⟩:=id tb;refine⟨tb,λ f c H' nf hf old Y8 hc hl=>?_⟩;have t:au H H':=⟨λ b xs e=>old b _ (λ z=>by rw[z,eP]at e;cases e) e,λ b o u e=>old b _ (λ z=>by rw[z,eP]at e;cases e) e⟩;refine k _ H' _ _ (aF.mpr rfl) (λ a o e=>?_) t (q f (hm.free nf) hf);by_cases z:a=f
 ·subst z;rw[ag]at e;cases e;exact⟨c,hl,hc⟩
 ·rw[av z]at e;by_cases y:a=P
  ·subst y;rw[hP]at e;cases e;exact Y8
  ·obtain⟨u,hu⟩:=(hm a o e).there;exact(hm a o e).mono t (by rw[hu];exact old a u y hu)
end
structure Hu(cells:List (Str×ww))(cn:List (Str×Nat))(δ:df)(C:CM):Prop where
 has:∀x j,(x,j)∈cn->∃b d,cells.lookup x=some b/\δ[j]?=some (some d)/\C b=some d
 only:∀b d,C b=some d->∃x j,(x,j)∈cn/\cells.lookup x=some b
 inj:∀x j y i b,(x,j)∈cn->(y,i)∈cn->cells.lookup x=some b->cells.lookup y=some b->x=y
section
variable {p pos:Pos}{t:dF}
def VN(sp:fk)(cells:List (Str×ww))(cn:List (Str×Nat))(t:dF):cw:=λ δ M Q=>t δ M λ ds M1=>(∀x j,(x,j)∈cn->∃d,δ[j]?=some (some d))/\∀C,Hu cells cn δ C->(∀b d,C b=some d->M1 b=none)->sp ds (gA M1 C) λ d M'=>Q d (fA M' C)
set_option tactic.hygienic true in
theorem Jz(d:b_ X.prog X.w X.K X.mg X.base k x ps sp)(hr:cX k X.A)(hg:Gl X x)(rO:∀x j,(x,j)∈cn->X.env.kindOf x=some .cell/\X.N[j]?=some x/\X.fn x=true)(hN:X.N.Nodup)(ha:QA X (e::es) t) (hdb:(x==("__debug__":Str))=false:=by decide) (he:starEach (e::es) X.env=(false,eval e X.env)::starEach es X.env:=by rfl) (hpl:(backTo pos (starEach es X.env)).any (·.1)=false:=by rfl):QE X (.Call (.Name x p) (e::es) [] pos) (VN sp X.env.cells cn t):=by
 obtain⟨f,fd,G,hm,kp,b⟩:=d.ex;refine bJ (Fp (cn:=cn) G hr hg hm kp b .nil rO hN ha hdb he hpl) ?_;rintro σ H Q ⟨δ,M,Q2,hs,hm,q,k⟩;refine⟨δ,M,_,hs,hm,q,λ vs H1 ds M1 hd bR t1 ⟨hv,q1⟩=>⟨λ x j hx=>?_,λ C hC un hn=>?_⟩⟩
 ·obtain⟨d,e⟩:=hv x j hx;obtain⟨v,e',_⟩:=hs.get j d e;exact⟨v,e'⟩
 ·have ex:∀b p,C b=some p->∃d,(∃x j,(x,j)∈cn/\X.env.cells.lookup x=some b/\δ[j]?=some (some d))/\bi X.K H1 d p.2:=λ b p hb=>by obtain⟨y,i,m1,m2⟩:=hC.only b p hb;obtain⟨b',o,v,l1,l2,l3⟩:=hC.has y i m1;rw[m2]at l1;cases l1;rw[hb]at l3;cases l3;obtain⟨d,e⟩:=hv y i m1;obtain⟨v',e',r⟩:=hs.get i d e;rw[l2]at e';cases e';exact⟨d,⟨y,i,m1,m2,e⟩,bi.mono t1 d r⟩
  let N:CM:=λ b=>match h:C b with
   |some p=>some (ex b p h).choose
   |none=>none
  have N1:∀b p (h:C b=some p),N b=some (ex b p h).choose:=λ b p h=>by
   show(match h:C b with|some p=>some (ex b p h).choose|none=>none)=_;split
   ·rename_i p' h';have:=h.symm.trans h';cases this;rfl
   ·rename_i h';rw[h]at h';cases h'
  have N2:∀b,C b=none->N b=none:=λ b h=>by
   show(match h:C b with|some p=>some (ex b p h).choose|none=>none)=_;split
   ·rename_i p' h';rw[h]at h';cases h'
   ·rfl
  have cr:Hv X.K H1 C N:=⟨λ b p h=>⟨_,N1 b p h,(ex b p h).choose_spec.2⟩,λ b d h=>by
   rcases aP C b with z|⟨p,z⟩
   ·rw[N2 b z]at h;cases h
   ·exact⟨p,z⟩⟩
  have cm:Hu X.env.cells cn δ N:=by
   refine⟨λ y i hy=>?_,λ b d hb=>?_,λ x1 j1 y1 i1 b h1 h2 h3 h4=>by
    have e1:=(rO x1 j1 h1).2.1;rw[un x1 j1 y1 i1 b h1 h2 h3 h4,(rO y1 i1 h2).2.1]at e1;exact(A1 e1).symm⟩
   ·obtain⟨b,o,v,l1,l2,l3⟩:=hC.has y i hy;obtain⟨⟨y',i',m1,m2,m3⟩,_⟩:=(ex b (o,v) l3).choose_spec;refine⟨b,(ex b (o,v) l3).choose,l1,?_,N1 b _ l3⟩;have:i'=i:=un y' i' y i b m1 hy m2 l1;rw[<- this];exact m3
   ·obtain⟨p,z⟩:=cr.r b d hb;obtain⟨y,i,m1,m2⟩:=hC.only b p z;exact⟨y,i,m1,m2⟩
  have PD:∀b d,N b=some d->M1 b=none:=λ b d hb=>let⟨p,z⟩:=cr.r b d hb;bR.free (hn b p z)
  have cN:∀b,C b=none↔N b=none:=cr.none;refine⟨ds,gA M1 N,_,?_,bR.dD hn cr,q1 N cm PD,λ v H' d M' qt fU t' q'=>?_⟩
  ·rw[y7];exact aD.mono (nW hn) ds hd
  ·have hf:∀b p,C b=some p->∃o v,H' b=some (gZ o b v):=λ b p z=>⟨_,_,t'.dD _ _ _ (jw z)⟩;have ts:=sI hf;refine k v (iq H' C) d (fA M' N) (bi.mon ts d qt) (fU.DI hf cN) (t1.trans ?_) q';have tt:=(nW hn).trans t';have ne:∀b u,H1 b=some u->C b=none:=λ b u e=>by
    rcases aP C b with z|⟨p,z⟩
    ·exact z
    ·rw[hn b p z]at e;cases e
   exact⟨λ b xs e=>by rw[bq (ne b _ e)];exact tt.tup b xs e,λ b o u e=>by rw[bq (ne b _ e)];exact tt.dD b o u e⟩
end
open PySem.Spec PyProof.Rows L2 L5
abbrev mF:=List D->List D->Mem->bW->Prop
def Rq(K:J5)(sp:mF):TX:=λ vs iw H Q=>∃ds cs M Q2,aD K H ds vs/\aD K H cs iw/\bv K H M/\sp ds cs M Q2/\kg K H Q2 Q
abbrev qh(P:Program)(w:World)(K:J5)(mg:Str->Option jp)(base:Heap)(k:Nat)(L:ka)(ps fv:List Str)(sp:mF):Prop:=sm P w K mg base k L ps fv (Rq K sp)
structure nF(M:Mem)(f:ww)(L:ka)(fv:List Str)(cs:List D)(C:CM):Prop where
 ex:∃cl,M f=some (.eS (.lam L cl))/\(∀x y b,cl.lookup x=some b->cl.lookup y=some b->x=y)/\(∀x b,cl.lookup x=some b->x∈fv/\∃d,C b=some d)/\∀(i:Nat) (x:Str) (d:D),fv[i]?=some x->cs[i]?=some d->∃b,cl.lookup x=some b/\C b=some d
 len:cs.length=fv.length
 tY:∀b d,C b=some d->M b=some (.eS (.tY d))
theorem AL:∀{ds:List D} {vs:List V},ds.length=vs.length->(∀(i:Nat) (d:D) (v:V),ds[i]?=some d->vs[i]?=some v->bi K H d v)->aD K H ds vs
 |[],[],_,_=>ar.mpr rfl
 |d::ds,v::vs,hl,h=>ah.mpr ⟨v,vs,rfl,h 0 d v rfl rfl,AL (by simpa using hl) λ i d' v' a b=>h (i+1) d' v' (by simpa using a) (by simpa using b)⟩
section
variable {p pos:Pos}{t:dF}
def UM(P:Program)(w:World)(K:J5)(mg:Str->Option jp)(base:Heap)(k:Nat)(i:Nat)(t:dF):cw:=λ δ M Q=>∃f,δ[i]?=some (some (.ref f))/\(∃L cl,M f=some (.eS (.lam L cl)))/\t δ M λ ds M1=>∃(L:ka) (ps fv:List Str) (sp:mF) (cs:List D) (C:CM),
 qh P w K mg base k L ps fv sp/\nF M1 f L fv cs C/\sp ds cs (fA M1 C) λ d M'=>Q d (gA M' C)
set_option tactic.hygienic true in
theorem Jy(hr:cX k X.A)(hi:X.N[i]?=some x)(hv:Ln X.env.scope x)(ha:QA X (e::es) t)(hd:(x==("__debug__":Str))=false:=by decide)(hcd:(x==("__classdict__":Str))=false:=by decide) (he:starEach (e::es) X.env=(false,eval e X.env)::starEach es X.env:=by rfl) (hpl:(backTo pos (starEach es X.env)).any (·.1)=false:=by rfl):QE X (.Call (.Name x p) (e::es) [] pos) (UM X.prog X.w X.K X.mg X.base k i t):=by
 refine bJ (Fo hr hi hv ha hd hcd he hpl) ?_;rintro σ H Q ⟨δ,M,Q2,hs,hm,⟨f,ef,⟨L0,YV,el⟩,q⟩,kk⟩;obtain⟨v,ev,rv⟩:=hs.get i _ ef;cases(aF.mp rv);obtain⟨c0,⟨o0,h0⟩,_⟩:=hm f _ el;refine⟨f,ev,⟨o0,L0,c0,YV,h0⟩,δ,M,_,hs,hm,q,λ vs H1 ds M1 hd bR t1 ⟨L,ps,fv,sp,cs,C,ok,at',q1⟩=>?_⟩;obtain⟨cl,hl,inj,Qa,val⟩:=at'.ex;obtain⟨c,hf,hc⟩:=bR f _ hl;have ex:∀b d,C b=some d->∃p:Obj×V,H1 b=some (gZ p.1 b p.2)/\bi X.K H1 d p.2:=λ b d z=>let⟨o,v,a,r⟩:=bR b _ (at'.tY b d z);⟨(o,v),a,r⟩
 let N:jh:=λ b=>match h:C b with
  |some d=>some (ex b d h).choose
  |none=>none
 have N1:∀b d (h:C b=some d),N b=some (ex b d h).choose:=λ b d h=>by
  show(match h:C b with|some d=>some (ex b d h).choose|none=>none)=_;split
  ·rename_i p' h';have:=h.symm.trans h';cases this;rfl
  ·rename_i h';rw[h]at h';cases h'
 have N2:∀b,C b=none->N b=none:=λ b h=>by
  show(match h:C b with|some d=>some (ex b d h).choose|none=>none)=_;split
  ·rename_i p' h';rw[h]at h';cases h'
  ·rfl
 have Nb:∀b p,N b=some p->∃d,C b=some d/\H1 b=some (gZ p.1 b p.2)/\bi X.K H1 d p.2:=λ b p h=>by
  rcases cW C b with z|⟨d,z⟩
  ·rw[N2 b z]at h;cases h
  ·rw[N1 b d z]at h;cases h;exact⟨d,z,(ex b d z).choose_spec⟩
 have hN:∀b,N b=none↔C b=none:=λ b=>by
  constructor
  ·intro h;rcases cW C b with z|⟨d,z⟩
   ·exact z
   ·rw[N1 b d z]at h;cases h
  ·exact N2 b
 have Ta:∀b p,N b=some p->∃o v,H1 b=some (gZ o b v):=λ b p h=>let⟨_,_,a,_⟩:=Nb b p h;⟨_,_,a⟩
 have ts:=sI Ta;let iw:List V:=fv.map λ y=>((cl.lookup y).bind N).elim V.bK (·.2)
 have cv:∀(j:Nat) (y:Str) (d:D),fv[j]?=some y->cs[j]?=some d->∃b p,cl.lookup y=some b/\C b=some d/\N b=some p/\iw[j]?=some p.2:=λ j y d h1 h2=>by obtain⟨b,a1,a2⟩:=val j y d h1 h2;refine⟨b,_,a1,a2,N1 b d a2,?_⟩;show(fv.map _)[j]?=_;rw[r0,h1];show some (((cl.lookup y).bind N).elim V.bK (·.2))=_;rw[a1];show some ((N b).elim V.bK (·.2))=_;rw[N1 b d a2];rfl
 have lc:iw.length=fv.length:=A5 ..;refine⟨L,ps,fv,_,iw,N,ok,⟨⟨c,cl,hf,hc,inj,λ y b h=>?_,λ j y v h1 h2=>?_⟩,lc,λ b p h=>(Nb b p h).choose_spec.2.1⟩,ds,cs,fA M1 C,_,aD.mon ts ds hd,?_,bR.DI Ta hN,q1,λ v H' d M' qt fU t' q' Ax=>?_⟩
 ·obtain⟨a,d,b'⟩:=Qa y b h;exact⟨a,_,N1 b d b'⟩
 ·have lt:j < cs.length:=by rw[at'.len];exact(c9.mp h1).1
  obtain⟨b,p,a1,a2,a3,a4⟩:=cv j y _ h1 (i0 lt);rw[h2]at a4;cases a4;exact⟨b,p.1,a1,a3⟩
 ·refine AL (by rw[lc,at'.len]) λ j d v h1 h2=>?_;have lt:j < fv.length:=by rw[<- at'.len];exact(c9.mp h1).1
  obtain⟨b,p,a1,a2,a3,a4⟩:=cv j _ d (i0 lt) h1;rw[h2]at a4;cases a4;obtain⟨d',z1,_,z2⟩:=Nb b p a3;rw[a2]at z1;cases z1;exact bi.mon ts d z2
 ·have cr:Hv X.K H' N C:=⟨λ b p h=>let⟨d,z,_,r⟩:=Nb b p h;⟨d,z,bi.mono t' d (bi.mon ts d r)⟩,λ b d z=>⟨_,N1 b d z⟩⟩;have t2:=nW Ax;refine kk v (jV H' N) d (gA M' C) (bi.mono t2 d qt) (fU.dD Ax cr) (t1.trans ⟨λ b xs e=>?_,λ b o u e=>?_⟩) q'
  ·rcases aP N b with z|⟨p,z⟩
   ·rw[bN z];exact t'.tup b xs (by rw[bq z];exact e)
   ·obtain⟨_,_,a,_⟩:=Nb b p z;rw[a]at e;cases e
  ·rcases aP N b with z|⟨p,z⟩
   ·rw[bN z];exact t'.dD b o u (by rw[bq z];exact e)
   ·obtain⟨_,_,a,_⟩:=Nb b p z;rw[a]at e;rw[jw z];exact e
end
theorem Kt{P:Program}{w:World}{K:J5}{mg:Str->Option jp}{base:Heap}{k:Nat}{L:ka}{ps fv:List Str}{sp:mF}(S:lK ps fv L.scope)(len:∀ds cs M Q,sp ds cs M Q->ds.length=ps.length) (pL:∀(cl:List (Str×ww)) (c:ww) (og:jp) (us:List jp),us.length=ps.length->bindArgs (PySem.W.kla_fn "<lambda>" L.qual L.params L.body L.scope cl L.pm (.ref c) og) ⟨us,[]⟩=pure (ps.zip us)) (eW:∀(A:Around) (outer:List Env) (s:kt) (H:Hp) (f c:ww) (cl:List (Str×ww)) (ds cs:List D) (M:Mem) (Q:bW),cX k (A.deeper (PySem.W.envX L.qual L.scope s.heap.objs.size f (.ref c) cl))->sp ds cs M Q->
   ∃t,QE (wC P w K mg base (ps++fv) L.qual L.scope f c cl A outer s H) L.body t/\t ((ds++cs).map some) M Q):qh P w K mg base (k+1) L ps fv sp:=by
 refine O' S (λ vs iw H Q h=>?_) pL λ A outer s H f c cl vs iw Q hr h=>?_
 ·obtain⟨ds,cs,M,Q2,hd,_,_,hs,_⟩:=h;rw[hd.length];exact len ds cs M Q2 hs
 ·obtain⟨ds,cs,M,Q2,hd,hc,hm,hs,kk⟩:=h;obtain⟨t,ht,q⟩:=eW A outer s H f c cl ds cs M Q2 hr hs;refine⟨_,ht,(ds++cs).map some,M,Q2,⟨?_,λ i d e=>?_⟩,hm,q,kk⟩
  ·rw[A5,A5,(hd.append hc).length]
  ·rw[r0]at e;cases z:(ds++cs)[i]? with
   |none=>rw[z]at e;cases e
   |some d'=>rw[z]at e;cases e;obtain⟨v,a,r⟩:=(hd.append hc).get z;exact⟨v,by rw[r0,a];rfl,r⟩
end L3
namespace L2
open PySem.Spec PyProof.Rows
structure jI(K:J5)(x qual:Str)(st:Stmt)(dV:jp)(c f:ww)(fd:FuncData):Prop where
 ex:∃(oc:jp) (od:Option ww) (kV doc pm:jp) (an:Option ww) (ct:jp) (xW:Array (Option jp)),
  fd=PySem.W.fnOf x qual (cE st) (bG st) (aq st) dV kV doc pm an (.ref c) ct/\K.lookup f=some ⟨oc,od,.func fd,xW⟩/\PySem.W.codeIn K (.ref c) qual=true
 kp:PySem.W.keepIn K (.ref f)=true
theorem jI.ok {x qual:Str}{st:Stmt}{dV:jp}{c f:ww}{fd:FuncData}{N ps:List Str}{k:Nat}{sp:Sp}(F:jI K x qual st dV c f fd)(S:aJ N ps (aq st))(len:∀vs H Q E,sp vs H Q E->vs.length=ps.length) (eW:∀(A:Around) (outer:List Env) (s:kt) (H:Hp) (vs:List V) (Q:VK) (E:XK),cX k (A.deeper (envOfC qual (aq st) s.heap.objs.size f (.ref c)))->sp vs H Q E->
   ∃t,wU (qH eX P w K mg base N qual (aq st) f (.ref c) A outer s H E).Ki (bG st) t/\t {nx:=λ _ H'=>Q .bK H',rt:=Q} (start N vs) H):bT P w K mg base eX (k+1) f fd ps sp:=by
 obtain⟨oc,od,kV,doc,pm,an,ct,xW,rfl,lk,hcd⟩:=F.ex;refine Md lk hcd S len λ A outer s H vs Q E hr CD=>?_;obtain⟨t,h,q⟩:=eW A outer s H vs Q E hr CD;exact⟨t,h.Ki,q⟩
theorem KW{c:ww}{oc:jp}{od an:Option ww}{kV doc pm ct:jp}(l:K.lookup f=some ⟨oc,od,.func (PySem.W.fnOf x qual (cE st) (bG st) (aq st) dV kV doc pm an (.ref c) ct),xW⟩) (e:PySem.W.codeIn K (.ref c) qual=true) (k:PySem.W.keepIn K (.ref f)=true):jI K x qual st dV c f (PySem.W.fnOf x qual (cE st) (bG st) (aq st) dV kV doc pm an (.ref c) ct):=⟨⟨oc,od,kV,doc,pm,an,ct,xW,rfl,l,e⟩,k⟩
theorem jI.binds{c:ww}{ds:List jp}(F:jI K x qual st dV c f fd) (h:∀(kV doc pm:jp) (an:Option ww) (ct:jp) (s:kt),K.In s.heap->∀(us:List jp),(us++ds).length=ps.length->BindsTo s (PySem.W.fnOf x qual (cE st) (bG st) (aq st) dV kV doc pm an (.ref c) ct) ⟨us,[]⟩ (ps.zip (us++ds))):Binds K fd ps ds:=by obtain⟨oc,od,kV,doc,pm,an,ct,xW,rfl,lk,hcd⟩:=F.ex;exact λ s us hk hl=>h kV doc pm an ct s hk us hl
theorem bB.Sn{sp:Sp}{c:ww}(F:jI K x qual st dV c f fd)(G:bT P w K mg base eX k f fd ps sp)(hm:mg x=some (.ref f))(b:Binds K fd ps []):bB P w K mg base k x ps sp:=⟨f,fd,G,hm,F.kp,b⟩
def kX(s:Stmt)(j:Nat)(q:Str)(mg:Str->Option jp):ka:=match bG s with
 |ss=>match ss.getLast? with
  |some (.Return (some (.Call _ es _ _)) _)=>match es[j]? with
   |some (.Lambda a b c _)=>⟨q,a,b,c,(mg "__name__").getD .none⟩
   |_=>⟨q,cE s,.Constant .none 0 ⟨0,0,0,0⟩,aq s,.none⟩
  |_=>⟨q,cE s,.Constant .none 0 ⟨0,0,0,0⟩,aq s,.none⟩
end L2
namespace L4
open PySem.Spec L2 L3
theorem VZ{x qual:Str}{st:Stmt}{dV:jp}{c f:ww}{fd:FuncData}{N ps:List Str}{k:Nat}{sp:fk}(F:jI K x qual st dV c f fd)(S:aJ N ps (aq st))(len:∀ds M Q,sp ds M Q->ds.length=ps.length) (eW:∀(A:Around) (outer:List Env) (s:kt) (H:Hp) (E:XK) (ds:List D) (M:Mem) (Q:bW),cX k (A.deeper (PyProof.Rows.envOfC qual (aq st) s.heap.objs.size f (.ref c)))->sp ds M Q->
   ∃t,HD (qH eX P w K mg base N qual (aq st) f (.ref c) A outer s H E).Ki (bG st) t/\t {nx:=λ _ M'=>fin2 Q .bK M',rt:=fin2 Q} (iH N ds) M):bT P w K mg base eX (k+1) f fd ps (cK K sp):=by
 refine F.ok S (λ vs H Q E h=>?_) (λ A outer s H vs Q E hr h=>?_)
 ·obtain⟨ds,M,Q2,hd,_,hs,_⟩:=h;rw[hd.length];exact len ds M Q2 hs
 ·obtain⟨ds,M,Q2,hd,hm,hs,kk⟩:=h;obtain⟨t,ht,q⟩:=eW A outer s H E ds M Q2 hr hs;refine⟨_,ht.h,iH N ds,M,_,rj hd,hm,q,⟨?_,?_,?_,?_⟩⟩
  ·exact λ σ' H' δ' M' _ fU t' ⟨oj,s,q⟩=>kk _ H' .bK oj (dS.mpr rfl) (fU.sub s) t' q
  ·exact λ v H' d M' qt fU t' ⟨oj,s,q⟩=>kk v H' d oj qt (fU.sub s) t' q
  ·exact λ σ' H' δ' M' _ fU t' q=>q
  ·exact λ σ' H' δ' M' _ fU t' q=>q
theorem Pb{k:Nat}{L:ka}{ps fv:List Str}{sp:mF}(S:lK ps fv L.scope)(len:∀ds cs M Q,sp ds cs M Q->ds.length=ps.length) (pL:∀(cl:List (Str×ww)) (c:ww) (og:jp) (us:List jp),us.length=ps.length->bindArgs (PySem.W.kla_fn "<lambda>" L.qual L.params L.body L.scope cl L.pm (.ref c) og) ⟨us,[]⟩=pure (ps.zip us)) (eW:∀(A:Around) (outer:List Env) (s:kt) (H:Hp) (f c:ww) (cl:List (Str×ww)) (ds cs:List D) (M:Mem) (Q:bW),cX k (A.deeper (PySem.W.envX L.qual L.scope s.heap.objs.size f (.ref c) cl))->sp ds cs M Q->
   ∃t,WE (wC P w K mg base (ps++fv) L.qual L.scope f c cl A outer s H) L.body t/\t ((ds++cs).map some) M Q):qh P w K mg base (k+1) L ps fv sp:=
 Kt S len pL λ A outer s H f c cl ds cs M Q hr h=>let⟨t,a,b⟩:=eW A outer s H f c cl ds cs M Q hr h;⟨t,a.h,b⟩
section
variable {c P:ww}{pos p:Pos}{t:dF}
theorem DG(rN:X.env.code=.ref c)(B:HG X.mg X.base c P)(GF:defaultsOf L.params X.env=([],[]))(Q0:L.pm=(X.mg "__name__").getD .none)(hq:X.env.qual++"<lambda>"=L.qual) (Ax:∀n,(n,NameKind.free)∈L.scope.names->X.env.kindOf n=some .cell\/X.env.kindOf n=some .free):WE X (.Lambda L.params L.body L.scope pos) (MW P L X.env.cells):=⟨R3 rN B GF Q0 hq Ax⟩
theorem zk(d:b_ X.prog X.w X.K X.mg X.base k x ps sp)(hr:cX k X.A)(hg:Gl X x)(rO:∀x j,(x,j)∈cn->X.env.kindOf x=some .cell/\X.N[j]?=some x/\X.fn x=true)(hN:X.N.Nodup)(ha:WA X (e::es) t) (hdb:(x==("__debug__":Str))=false:=by decide) (he:starEach (e::es) X.env=(false,eval e X.env)::starEach es X.env:=by rfl) (hpl:(backTo pos (starEach es X.env)).any (·.1)=false:=by rfl):WE X (.Call (.Name x p) (e::es) [] pos) (VN sp X.env.cells cn t):=⟨Jz d hr hg rO hN ha.h hdb he hpl⟩
theorem zj(hr:cX k X.A)(hi:X.N[i]?=some x)(hv:Ln X.env.scope x)(ha:WA X (e::es) t)(hd:(x==("__debug__":Str))=false:=by decide)(hcd:(x==("__classdict__":Str))=false:=by decide) (he:starEach (e::es) X.env=(false,eval e X.env)::starEach es X.env:=by rfl) (hpl:(backTo pos (starEach es X.env)).any (·.1)=false:=by rfl):WE X (.Call (.Name x p) (e::es) [] pos) (UM X.prog X.w X.K X.mg X.base k i t):=⟨Jy hr hi hv ha.h hd hcd he hpl⟩
end
theorem xO{P:ww}{Q:bW}(h:M P=some (.eS (.lN L.qual)))(q:∀f,M f=none->(∀x d,cells.lookup x=some d->d≠f)->Q (.ref f) (ai M f (.eS (.lam L (bA cells L.scope.names []))))):MW P L cells δ M Q:=⟨h,q⟩
theorem RI{t:dF}{Q:bW}(h:t δ M λ ds M1=>(∀x j,(x,j)∈cn->∃d,δ[j]?=some (some d))/\∀C,Hu cells cn δ C->(∀b d,C b=some d->M1 b=none)->sp ds (gA M1 C) λ d M'=>Q d (fA M' C)):VN sp cells cn t δ M Q:=h
theorem EH{t:dF}{Q:bW}(e:δ[i]?=some (some (.ref f)))(hl:∃L cl,M f=some (.eS (.lam L cl))) (h:t δ M λ ds M1=>∃(L:ka) (ps fv:List Str) (sp:mF) (cs:List D) (C:CM),qh P w K mg base k L ps fv sp/\nF M1 f L fv cs C/\sp ds cs (fA M1 C) λ d M'=>Q d (gA M' C)):UM P w K mg base k i t δ M Q:=⟨f,e,hl,h⟩
end L4
namespace L2
open PySem.Spec PyProof.Rows
def Bj(H:Hp)(ts:List ww):Prop:=(∀b,H b=none\/(∃o xs,H b=some (.dD o (.lst xs)))\/H b=some (.lN #[]))/\∀t∈ts,H t=some (.lN #[])
theorem Ct{mb:Str->Option jp}{CX:HJ}{fa:ww}{sp:Sp}{s₁:kt}{vs:List jp} (KX:K.In s₁.heap) (WC:s₁.heap.Ns mainGlobals mg) (hb:s₁.heap.Ns builtinsNs mb) (hbb:∀x:Str,x≠"__name__"->mb x=bootBuiltins x) (WN:s₁.heap.NoLimit) (hg:s₁.gens=#[]) (hbm:∃bm ob,mg "__builtins__"=some (.ref bm)/\bm≠builtinsNs/\s₁.heap.get? bm=some ob/\ob.cls=.type "module"/\ob.dict=some builtinsNs/\ob.data=.plain) (hT:∀q∈tabs,s₁.heap.get? q.2=some (PySem.W.tabObj #[])/\K.lookup q.2=none/\PySem.W.CodeHd s₁.heap q.1 q.2) (ha:s₁.heap.get? a=some {cls:=.type "list",data:=.seq vs.toArray}) (hi:IntsAre vs ns) (hl:ns.length<=sizeLine) (hr:cX k callerA) (F:∀base:Heap,K.In base->(∀q∈tabs,HG mg base q.1 q.2)->bT P w K mg base CX k fa fd [x] sp) (pL:∀(s:kt) (u:jp),BindsTo s fd ⟨[u],[]⟩ [(x,u)]) (CD:∀H:Hp,Bj H (tabs.map (·.2))->gB K H a (ns.map V.int)->sp [.ref a] H (λ v _=>v=.bl true) λ _ _ _=>False) (Xh:∀H e s',CX [] H s₁ (λ _ _ _=>False) e s'->False):codeAny (model P w) callerA (.call (.ref fa) ⟨[.ref a],[]⟩) (λ r s'=>r=.ok (.ret (.bool true))/\OldK s₁.heap s'.heap/\s'.os=s₁.os/\AllBare s'.gens) s₁:=by
 have rv:=qV hi;have Wb:=hi.length;have tg:∀t∈tabs.map (·.2),s₁.heap.get? t=some (PySem.W.tabObj #[])/\K.lookup t=none:=λ t ht=>by obtain⟨q,hq,rfl⟩:=C8.mp ht;exact⟨(hT q hq).1,(hT q hq).2.1⟩
 have at':a∉tabs.map (·.2):=λ h=>by have:=(tg a h).1;rw[ha]at this;cases this
 have core:∀H:Hp,Bj H (tabs.map (·.2))->gB K H a (ns.map V.int)->iz P w H s₁.heap->(∀b,H b≠none->b=a\/b∈tabs.map (·.2))->(H a≠none->K.lookup a=none)->
   codeAny (model P w) callerA (.call (.ref fa) ⟨[.ref a],[]⟩) (λ r s'=>r=.ok (.ret (.bool true))/\OldK s₁.heap s'.heap/\s'.os=s₁.os/\AllBare s'.gens) s₁:=by
  intro H hO hS bt hA hK;have oi:∀{b:ww} {o:Obj},s₁.heap.get? b=some o->H b=none->(qC s₁.heap H).get? b=some o:=λ e n=>Gz e n;have FE:∀{b:ww} {o:Obj},s₁.heap.get? b=some o->o≠PySem.W.tabObj #[]->(∀us n,o.data≠.seq us n)->H b=none:=λ{b o} e d1 d2=>by
   cases q:H b with
   |none=>rfl
   |some u=>
    rcases hA b (by rw[q];simp)with e'|e'
    ·subst e';rw[ha]at e;cases e;exact absurd rfl (d2 _ _)
    ·rw[(tg b e').1]at e;cases e;exact absurd rfl d1
  have Zu:∀{b:ww} {o:Obj} {es:Array DictEntry} {ep:Nat},s₁.heap.get? b=some o->o.data=.dict es ep->H b=none:=λ{b o es ep} e d=>FE e (λ z=>by rw[z]at d;cases d) λ us n z=>by rw[d]at z;cases z
  have V6:∀{b:ww} {m:Str->Option jp},s₁.heap.Ns b m->(qC s₁.heap H).Ns b m:=λ{b m} ⟨o,es,ep,e,d,r⟩=>⟨o,es,ep,oi e (Zu e d),d,r⟩;have YB:K.In (qC s₁.heap H):=λ b o e=>oi (KX b o e) (by
   cases q:H b with
   |none=>rfl
   |some u=>
    rcases hA b (by rw[q];simp)with e'|e'
    ·subst e';rw[hK (by rw[q];simp)]at e;cases e
    ·rw[(tg b e').2]at e;cases e)
  have hM:Mod K mg (qC s₁.heap H):=⟨YB,V6 WC,⟨mb,V6 hb,hbb⟩,let⟨mc,h1,h2⟩:=WN;⟨mc,V6 h1,h2⟩⟩;have Vb:∀q∈tabs,HG mg (qC s₁.heap H) q.1 q.2:=λ q hq=>by
   refine⟨?_,?_⟩
   ·obtain⟨bm,ob,b1,b2,b3,b4,b5,b6⟩:=hbm;exact⟨bm,ob,b1,b2,oi b3 (FE b3 (λ z=>by rw[z]at b4;cases b4) λ us n z=>by rw[b6]at z;cases z),b4,b5,b6⟩
   ·obtain⟨o,vs,file,tf,flags,tg,U0,text,tt,e,e1,e2,r⟩:=(hT q hq).2.2;exact⟨o,vs,file,tf,flags,tg,U0,text,tt,oi e (FE e (λ z=>by rw[z]at e1;cases e1) λ us n z=>by rw[e2]at z;cases z),e1,e2,r⟩
  have e0:qj P w K mg (qC s₁.heap H) callerA [] s₁ H:=⟨rfl,hM,λ b o e=>Kh e,Nat.le_of_eq (CG _ _),trivial,λ b hb=>absurd (show b∈([]:List ww)from hb) (by simp),bt,.of_eq hg⟩;refine D6 ((F _ YB Vb).run callerA [] s₁ H ⟨[.ref a],[]⟩ [.ref a] [.ref a] _ _ hr e0 (pL s₁ (.ref a)) (.cons rfl .nil) (CD H hO hS)) λ r s' h=>?_;cases r with
  |error e=>exact(Xh H e s' h).elim
  |ok fl=>
   cases fl with
   |next=>exact False.elim h
   |brk=>exact False.elim h
   |cont=>exact False.elim h
   |ret u=>
    obtain⟨v,H',os,bare,un,SX,r',q⟩:=h;have q':v=.bl true:=q;subst q';obtain rfl:u=Value.bool true:=r';refine⟨rfl,⟨λ b o e=>?_,λ b o e=>un.there b o e (by simp)⟩,os,bare⟩;cases q:H b with
    |none=>exact .inl (un.keep b o e q (by intro z;exact absurd (show b∈([]:List ww)from z) (by simp)) (by simp))
    |some u=>
     rcases hO.1 b with z|⟨ob,xs,z⟩|z
     ·rw[q]at z;cases z
     ·have z2:=un.mq b ob _ z;obtain⟨e1,_⟩:=bt b _ z;obtain⟨e2,_⟩:=SX b _ z2;rw[e]at e1;cases e1;exact .inl e2
     ·obtain⟨more,z2⟩:=un.mY b _ z;have e1:s₁.heap.get? b=some (PySem.W.tabObj #[]):=bt b _ z;have e2:s'.heap.get? b=some (PySem.W.tabObj (#[]++more)):=SX b _ z2;rcases hA b (by rw[q];simp)with e'|e'
      ·subst e';rw[ha]at e1;cases e1
      ·obtain⟨t,ht,rfl⟩:=C8.mp e';rw[e]at e1;cases e1;exact .inr (.inl ⟨((hT t ht).2.2.tab (hT t ht).1).isCodeTable,rfl,#[],more,rfl,e2⟩)
 cases hk:K.lookup a with
 |some o=>
  have e:=KX a o hk;rw[ha]at e;cases e;refine core (λ b=>if b∈tabs.map (·.2)then some (.lN #[])else none) ⟨λ b=>?_,λ t ht=>J3 ht⟩ (.inr ⟨_,vs.toArray,_,hk,rfl,rfl,rfl,by rw[u9,Wb];exact hl,by simpa using rv⟩) (λ b u z=>?_) (λ b z=>?_) λ z=>absurd (J4 at') z
  ·by_cases hb:b∈tabs.map (·.2)
   ·exact .inr (.inr (J3 hb))
   ·exact .inl (J4 hb)
  ·by_cases hb:b∈tabs.map (·.2)
   ·have z':=(J3 hb).symm.trans z;cases z';exact(tg b hb).1
   ·have z':=(J4 hb).symm.trans z;cases z'
  ·by_cases hb:b∈tabs.map (·.2)
   ·exact .inr hb
   ·exact absurd (J4 hb) z
 |none=>
  refine core (λ b=>if b=a then some (.dD {cls:=.type "list",data:=.seq vs.toArray} (.lst (ns.map V.int)))else if b∈tabs.map (·.2)then some (.lN #[])else none) ⟨λ b=>?_,λ t ht=>?_⟩ (.inl (.inr ⟨{cls:=.type "list",data:=.seq vs.toArray},J3 rfl⟩)) (λ b u z=>?_) (λ b z=>?_) λ _=>hk
  ·by_cases hb:b=a
   ·exact .inr (.inl ⟨_,_,J3 hb⟩)
   ·by_cases ht:b∈tabs.map (·.2)
    ·exact .inr (.inr ((J4 hb).trans (J3 ht)))
    ·exact .inl ((J4 hb).trans (J4 ht))
  ·exact(J4 (λ z=>at' (by rw[<- z];exact ht))).trans (J3 ht)
  ·by_cases hb:b=a
   ·have z':=(J3 hb).symm.trans z;cases z';subst hb;exact⟨ha,by rw[A5];exact hl,vs,_,rv,ha⟩
   ·have z:=(J4 hb).symm.trans z;by_cases ht:b∈tabs.map (·.2)
    ·have z':=(J3 ht).symm.trans z;cases z';exact(tg b ht).1
    ·have z':=(J4 ht).symm.trans z;cases z'
  ·by_cases hb:b=a
   ·exact .inl hb
   ·by_cases ht:b∈tabs.map (·.2)
    ·exact .inr ht
    ·exact absurd ((J4 hb).trans (J4 ht)) z
theorem DE{l:PySem.W.OpenLaw}{n k:Nat}{q:Program}{loose:List Str}{XP:(Str->Option jp)->Heap->Prop}{YP:World->Heap->Prop}{d:DefRec}{K:Params->J5}{CX:World->HJ}{sp:World->Sp}{x:Str}{tabs:List (ww×ww)}
  (hn:l.most=some n) (PD:n<=sizeLine) (S_:d.params.defaults=[]) (hr:cX k callerA)
  (hY:∀(w:World) (h:Heap),YP w h->(K w.params).In h/\∀q∈tabs,h.get? q.2=some (PySem.W.tabObj #[])/\(K w.params).lookup q.2=none/\PySem.W.CodeHd h q.1 q.2)
  (F:∀(w:World) (mg:Str->Option jp) (fa:ww) (h:Heap),(K w.params).In h->h.Ns mainGlobals mg->mg d.name=some (.ref fa)->
   ∃fd:FuncData,(∀(s:kt) (u:jp),BindsTo s fd ⟨[u],[]⟩ [(x,u)])/\
    ∀base:Heap,(K w.params).In base->(∀q∈tabs,HG mg base q.1 q.2)->bT l.prog w (K w.params) mg base (CX w) k fa fd [x] (sp w))
  (CD:∀(w:World) (H:Hp) (a:ww) (ns:List Int),ns.length<=n->Bj H (tabs.map (·.2))->gB (K w.params) H a (ns.map V.int)->sp w [.ref a] H (λ v _=>v=.bl true) λ _ _ _=>False)
  (Xh:∀(w:World) (H:Hp) (s:kt) (e:jp) (s':kt),CX w [] H s (λ _ _ _=>False) e s'->False):
  PySem.W.WalkO q loose XP YP l.row.toRowW d [] (λ f vs=>PySem.call f vs):=by
 refine Y1.wO hn S_ λ w s₀ s₁ mg mb fa o pm cd doc a vs ns G Y ho hd hcd S3 Gv hints hlen hg=>?_;obtain⟨KX,hT⟩:=hY w _ Y;obtain⟨fd,hb,hF⟩:=F w mg fa _ KX G.T.g S3;exact Ct KX G.T.g G.T.b G.T.builtins G.T.nolimit hg G.T.bmain hT Gv hints (D1 hlen PD) hr hF hb (λ H hO hS=>CD w H a ns hlen hO hS) λ H e s'=>Xh w H s₁ e s'
open PySem.Spec PyProof.Rows
def La(X:Cx)(cn:List (Str×Nat)):Bool:=cn.all λ p=>X.env.kindOf p.1==some .cell&&X.N[p.2]?==some p.1&&X.fn p.1
theorem Ml(h:La X cn=true):∀x j,(x,j)∈cn->X.env.kindOf x=some .cell/\X.N[j]?=some x/\X.fn x=true:=λ x j hx=>by have:=y4.mp h _ hx;rw[x6,x6]at this;exact⟨by simpa using this.1.1,by simpa using this.1.2,this.2⟩
def KZ(X:Cx)(ns:List (Str×NameKind)):Bool:=ns.all λ y=>y.2 != .free||X.env.kindOf y.1==some .cell||X.env.kindOf y.1==some .free
theorem GK{ns:List (Str×NameKind)}(h:KZ X ns=true):∀n,(n,NameKind.free)∈ns->X.env.kindOf n=some .cell\/X.env.kindOf n=some .free:=λ n hn=>by
 have:=y4.mp h _ hn;rw[Bool.or_eq_true,Bool.or_eq_true]at this;rcases this with(h|h)|h
 ·cases h
 ·exact .inl (by simpa using h)
 ·exact .inr (by simpa using h)
theorem sm.mono{sp:TX}(h:sm P w K mg base j L ps fv sp)(hk:j<=k):sm P w K mg base k L ps fv sp:=
 ⟨h.len,λ A outer s H f c cl us vs iw Q hr=>h.run A outer s H f c cl us vs iw Q (hr.mono hk)⟩
open PySem.Spec PySem.W PyProof.Rows L5
theorem Ox{t u:TE}(h:PE X e t)(g:PE X e u):PE X e (λ σ H Q=>t σ H Q\/u σ H Q):=λ xz s σ H Q I q=>q.elim (h xz s σ H Q I) (g xz s σ H Q I)
theorem Cb{k v:Expr}{tk tv:TE}{pos:Pos}(hk:PE X k tk)(hv:PE X v tv):PE X (.Dict [some k] [v] pos) (λ σ H Q=>∀p,H p=none->tk σ (ci H p (.dK [])) λ x H1=>tv σ H1 λ y H2=>∃ky,x=kV ky/\H2 p=some (.dK [])/\Q (.ref p) (ci H2 p (.dK (putK [] ky y)))):=by
 intro xz s σ H Q I h;refine wpAny_Dict_any rfl rfl (by simp) (by simp) ?_;have I0:bd X xz σ (ci H s.heap.objs.size (.dK [])) {s with heap:=s.heap.push {cls:=.type "dict",data:=.dict #[]}}:=I.laid (a:=s.heap.objs.size) (o:=.dK []) (t':=s.toks) (λ _ _ q=>j0 _ q) (D9 _) (wm s.heap I.big);refine pairTrees_cons_walk (dA (hk xz _ σ _ _ I0 (h _ (I.bt.fresh (D9 _)))) λ kv s1 ⟨x,H1,I1,r1,q1⟩=>dA (hv xz s1 σ H1 _ I1 q1) λ vv s2 ⟨y,H2,I2,r2,q2⟩=>pairTrees_nil_walk ?_);obtain⟨ky,rfl,hp,q⟩:=q2;generalize s.heap.objs.size=p at*;obtain⟨z,nm,xs,rel,dd⟩:=GS I2.bt hp;cases rel;have uB:(putK [] ky y).length<=sizeLine:=by have:=iY [] ky y;exact D1 this (by decide)
 unfold storeAll;rw[B2];refine G4 (G4 (wpAny_dictSet_pairs (hsz:=G1 _) (rF r1) dd λ h' CO hs=>G5 ?_));dsimp only;rw[forIn_nil];have he:∃q,h'.get? p=some q:=let⟨q,_,_,hq,_⟩:=CO;⟨q,hq⟩
 exact G5 ⟨.ref p,_,jB I2 (by rw[hp];exact True.intro) hs he (GU uB nm (KV.put .nil ky r2) CO),rfl,q⟩
end L2
namespace L3
open PySem.Spec L2 L5 PyProof.Rows
def xG(tk tv:cw):cw:=λ δ M Q=>∃t:Bool,∀p,M p=none->tk δ (ai M p (.cO t [])) λ x M1=>tv δ M1 λ y M2=>M2 p=some (.cO t [])/\je t x/\Q (.ref p) (ai M2 p (.cO t [(x,y)]))
theorem Jv{k v:Expr}{tk tv:cw}{pos:Pos}(hu:X.A.units+64 < cLine)(hk:QE X k tk)(hv:QE X v tv):QE X (.Dict [some k] [v] pos) (xG tk tv):=by
 refine bJ (Ox (Jw (pos:=pos) hu hk hv) (Cb (pos:=pos) hk hv)) ?_;rintro σ H Q ⟨δ,M,Q2,hs,hm,⟨t,q⟩,k⟩;cases t with
 |true=>exact .inl ⟨δ,M,Q2,hs,hm,q,k⟩
 |false=>refine .inr λ p hp=>?_;have t0:au H (ci H p (.dK [])):=au.laid hp;refine⟨δ,ai M p (.cO false []),_,hs.mono t0,hm.put (u:=.cO false []) t0 ⟨[],aL,.nil⟩,q p (hm.free hp),λ x H1 d M1 hd bR t1 q1=>?_⟩;refine⟨δ,M1,_,(hs.mono t0).mono t1,bR,q1,λ y H2 e M2 he mP t2 q2=>?_⟩;obtain⟨fM,⟨ky,rfl⟩,q2⟩:=q2;obtain⟨xs,hx,rel⟩:=mP p _ fM;cases rel;have t:=au.mut (o:=.dK (putK [] ky y)) hx (λ _ z=>by cases z) (λ _ _ z=>by cases z);exact⟨ky,nY hd,hx,k _ _ _ _ (aF.mpr rfl) (mP.put (u:=.cO false [(jT ky,e)]) t ⟨_,aL,((Ht.put (kvs:=[]) .nil ky he):Ht X.K H2 [(jT ky,e)] (putK [] ky y)).mono t⟩) ((t0.trans t1).trans (t2.trans t)) q2⟩
end L3
namespace L4
open PySem.Spec L2 L3 L5
theorem zi{k v:Expr}{tk tv:cw}{pos:Pos}(hu:X.A.units+64 < cLine)(hk:WE X k tk)(hv:WE X v tv):WE X (.Dict [some k] [v] pos) (xG tk tv):=⟨Jv hu hk.h hv.h⟩
theorem vk{tk tv:cw}{Q:bW}(t:Bool)(h:∀p,M p=none->tk δ (ai M p (.cO t [])) λ x M1=>tv δ M1 λ y M2=>M2 p=some (.cO t [])/\je t x/\Q (.ref p) (ai M2 p (.cO t [(x,y)]))):xG tk tv δ M Q:=⟨t,h⟩
end L4
namespace L2
open PySem.Spec PyProof.Rows
def fu(ps fv:List Str)(sc:Scope):Bool:=sc.kind==.function&&!sc.isCoroutine&&!sc.isGenerator&&(ps.all λ x=>sc.names.lookup x==some .local)&&(fv.all λ x=>sc.names.lookup x==some .free)&&sc.names.all λ y=>y.2 != .cell&&(y.2 != .free||fv.contains y.1)
theorem FJ{sc:Scope}(h:fu ps fv sc=true)(nd:(ps++fv).Nodup):lK ps fv sc:=by unfold fu at h;simp only[x6,y4]at h;obtain⟨⟨⟨⟨⟨h1,h2⟩,h3⟩,h4⟩,h5⟩,h6⟩:=h;refine⟨by simpa using h1,by simpa using h2,by simpa using h3,nd,λ x hx=>by simpa using h4 x hx,λ y hy=>by simpa using(h6 y hy).1,λ x hx=>by simpa using h5 x hx,λ x hx=>?_⟩;have:=(h6 _ (l7 hx)).2;simpa using this
theorem Hh{args:Args}{binds:List (Str×jp)}{T:ww}{ad:Array jp}{k:Option (Array jp)->Sem (List (Str×jp))}(hk:K.In s.heap)(hd:fd.defaults=.ref T)(l:K.lookup T=some o)(hs:o.data=.seq ad n) (h1:bindArgs fd args=seqItems? fd.defaults >>= k) (h2:k (some ad)=pure binds):BindsTo s fd args binds:=.of_defaults hd (hk _ _ l) hs h1 h2
end L2
namespace L3
open L2
theorem GV{C:CM}(h:∀b o,gA M C b=some o->M' b=some o)(n:∀b d,C b=some d->M b=none):∀b o,M b=some o->fA M' C b=some o:=λ b o e=>by
 rcases cW C b with z|⟨d,z⟩
 ·rw[lF z];exact h b o (by rw[g_ z];exact e)
 ·rw[n b d z]at e;cases e
end L3
namespace L2
open PySem
theorem jI.yR{c:ww}(F:jI K x qual st dV c f fd) (h:∀(kV doc pm:jp) (an:Option ww) (ct:jp) (s:kt),K.In s.heap->∀(us:List jp),us.length=ps.length->BindsTo s (PySem.W.fnOf x qual (cE st) (bG st) (aq st) dV kV doc pm an (.ref c) ct) ⟨us,[]⟩ (ps.zip us)):Binds K fd ps []:=
 F.binds λ kV doc pm an ct s hk us hl=>by rw[y7]at hl ⊢;exact h kV doc pm an ct s hk us hl
end L2
namespace KK
abbrev Cs:=List Nat
def inc:Cs->Nat->Cs
 |[],_=>[]
 |a::as,0=>(a+1)::as
 |a::as,l+1=>a::inc as l
theorem ju:∀(p:Cs) (l:Nat),(inc p l).length=p.length
 |[],_=>rfl
 |a::as,0=>rfl
 |a::as,l+1=>by show(inc as l).length+1=_;rw[ju as l];rfl
theorem fT:∀{p:Cs} {l:Nat},l < p.length->(inc p l).sum=p.sum+1
 |a::as,0,_=>by show a+1+as.sum=a+as.sum+1;lia
 |a::as,l+1,h=>by have:=fT (p:=as) (l:=l) (by simpa using h);show a+(inc as l).sum=a+as.sum+1;lia
def yb:Cs->Cs->Prop
 |a::as,b::bs=>b < a\/(a=b/\yb as bs)
 |_,_=>False
theorem tH:∀p:Cs,¬yb p p
 |[],h=>h
 |a::as,h=>h.elim (λ h=>C0 _ h) λ h=>tH as h.2
theorem rC:∀{p q r:Cs},yb p q->yb q r->yb p r
 |a::as,b::bs,c::cs,h,g=>by
  rcases h with h|⟨rfl,h⟩
  ·rcases g with g|⟨rfl,g⟩
   ·exact .inl (by lia)
   ·exact .inl h
  ·rcases g with g|⟨rfl,g⟩
   ·exact .inl g
   ·exact .inr ⟨rfl,rC h g⟩
 |[],_,_,h,_=>h.elim
 |_::_,[],_,h,_=>h.elim
 |_::_,_::_,[],_,g=>g.elim
theorem Ai:∀{p q:Cs},p.length=q.length->p=q\/yb p q\/yb q p
 |[],[],_=>.inl rfl
 |a::as,b::bs,h=>by
  rcases Nat.lt_trichotomy a b with z|z|z
  ·exact .inr (.inr (.inl z))
  ·subst z;rcases Ai (p:=as) (q:=bs) (by simpa using h)with e|e|e
   ·exact .inl (by rw[e])
   ·exact .inr (.inl (.inr ⟨rfl,e⟩))
   ·exact .inr (.inr (.inr ⟨rfl,e⟩))
  ·exact .inr (.inl (.inl z))
theorem Ak:∀{p q:Cs} {l:Nat},yb p q->yb (inc p l) (inc q l)
 |a::as,b::bs,0,h=>by
  rcases h with h|⟨rfl,h⟩
  ·exact .inl (by lia)
  ·exact .inr ⟨rfl,h⟩
 |a::as,b::bs,l+1,h=>by
  rcases h with h|⟨rfl,h⟩
  ·exact .inl h
  ·exact .inr ⟨rfl,Ak h⟩
 |[],_,_,h=>h.elim
 |_::_,[],_,h=>h.elim
theorem vO:∀{p:Cs} {i j:Nat},i < j->i < p.length->yb (inc p i) (inc p j)
 |a::as,0,j+1,_,_=>.inl (by lia)
 |a::as,i+1,j+1,h,g=>.inr ⟨rfl,vO (by lia) (by simpa using g)⟩
def zb(p:Cs)(l:Nat):Prop:=∀j,l < j->p.getD j 0=0
theorem Rm{a:Nat}{as:Cs}{l:Nat}(h:zb (a::as) (l+1)):zb as l:=λ j g=>by
 have:=h (j+1) (by lia)
 rwa [getD_cons_succ]at this
theorem Rn:∀{as:Cs},(∀j,as.getD j 0=0)->as.sum=0
 |[],_=>rfl
 |a::as,h=>by
  have h0:=h 0;rw[getD_cons_zero]at h0;have:=Rn (as:=as) λ j=>by have:=h (j+1);rwa [getD_cons_succ]at this
  show a+as.sum=0;lia
theorem LV:∀{p q:Cs},p.sum=0->¬yb p q
 |a::as,b::bs,h,g=>by
  have h:a+as.sum=0:=h;rcases g with g|⟨rfl,g⟩
  ·lia
  ·exact LV (by lia) g
 |[],_,_,h=>h.elim
 |_::_,[],_,h=>h.elim
theorem Aj:∀{a p:Cs} {h l:Nat},yb a p->a.sum=p.sum->zb p l->yb (inc a h) (inc p l)
 |a::as,b::bs,h,0,g,e,z=>by
  have e:a+as.sum=b+bs.sum:=e;have:bs.sum=0:=Rn λ j=>by have:=z (j+1) (by lia);rwa [getD_cons_succ]at this
  rcases g with g|⟨rfl,g⟩
  ·lia
  ·exact absurd g (LV (by lia))
 |a::as,b::bs,h,l+1,g,e,z=>by
  have e:a+as.sum=b+bs.sum:=e;cases h with
  |zero=>exact .inl (by rcases g with g|g <;> lia)
  |succ h=>
   rcases g with g|⟨rfl,g⟩
   ·exact .inl g
   ·exact .inr ⟨rfl,Aj g (by lia) (Rm z)⟩
 |[],_,_,_,h,_,_=>h.elim
 |_::_,[],_,_,h,_,_=>h.elim
def Ah(p q:Cs):Prop:=p.sum < q.sum\/(p.sum=q.sum/\yb p q)
theorem Ah.UZ{p:Cs}(h:Ah p p):False:=h.elim (λ h=>C0 _ h) λ h=>tH _ h.2
theorem Ah.trans{p q r:Cs}(h:Ah p q)(g:Ah q r):Ah p r:=by
 rcases h with h|⟨e,h⟩
 ·rcases g with g|⟨f,g⟩
  ·exact .inl (by lia)
  ·exact .inl (by lia)
 ·rcases g with g|⟨f,g⟩
  ·exact .inl (by lia)
  ·exact .inr ⟨by lia,rC h g⟩
theorem Ah.not{p q:Cs}(h:Ah p q)(g:Ah q p):False:=(h.trans g).UZ
theorem Ah.Vr{p q:Cs}(h:p.length=q.length):p=q\/Ah p q\/Ah q p:=by
 rcases Nat.lt_trichotomy p.sum q.sum with z|z|z
 ·exact .inr (.inl (.inl z))
 ·rcases Ai h with e|e|e
  ·exact .inl e
  ·exact .inr (.inl (.inr ⟨z,e⟩))
  ·exact .inr (.inr (.inr ⟨z.symm,e⟩))
 ·exact .inr (.inr (.inl z))
theorem Ah.inc{p q:Cs}{l:Nat}(h:Ah p q)(hp:l < p.length)(hq:l < q.length):Ah (inc p l) (inc q l):=by
 have a:=fT hp;have b:=fT hq;rcases h with h|⟨e,h⟩
 ·exact .inl (by lia)
 ·exact .inr ⟨by lia,Ak h⟩
theorem Ah.par{a p:Cs}{h l:Nat}(g:Ah a p)(z:zb p l)(hh:h < a.length)(hl:l < p.length):Ah (KK.inc a h) (KK.inc p l):=by
 have x:=fT hh;have y:=fT hl;rcases g with g|⟨e,g⟩
 ·exact .inl (by lia)
 ·exact .inr ⟨by lia,Aj g e z⟩
theorem Ah.Wh{p:Cs}(h:i < j)(hj:j < p.length):Ah (KK.inc p i) (KK.inc p j):=
 .inr ⟨by rw[fT hj,fT (by lia)],vO h (by lia)⟩
theorem lastOf:∀{q:Cs},0 < q.sum->∃p l,l < q.length/\p.length=q.length/\q=inc p l/\zb p l
 |[],h=>absurd h (by decide)
 |c::cs,h=>by
  have h:0 < c+cs.sum:=h;by_cases z:cs.sum=0
  ·refine⟨(c - 1)::cs,0,by simp,by simp,?_,λ j hj=>?_⟩
   ·show c::cs=(c - 1+1)::cs;rw[show c - 1+1=c by lia]
   ·obtain⟨j,rfl⟩:∃k,j=k+1:=⟨j - 1,by lia⟩;rw[getD_cons_succ,c6];cases e:cs[j]? with
    |none=>rfl
    |some v=>
     have hv:=k7 e;have:∀{xs:Cs},xs.sum=0->∀v∈xs,v=0:=λ{xs}=>by
      induction xs with
      |nil=>intro _ v hv;cases hv
      |cons x xs ih=>
       intro h v hv;have h:x+xs.sum=0:=h;rcases C4.mp hv with rfl|hv
       ·lia
       ·exact ih (by lia) v hv
     exact this z v hv
  ·obtain⟨p,l,hl,hp,e,zz⟩:=lastOf (q:=cs) (by lia);refine⟨c::p,l+1,by simp;lia,by simp[hp],by rw[e];rfl,λ j hj=>?_⟩;obtain⟨j,rfl⟩:∃k,j=k+1:=⟨j - 1,by lia⟩;rw[getD_cons_succ];exact zz j (by lia)
def Ts(T:Nat):List Nat:=(List.range (T+1)).map (T - ·)
def mL:Nat->Nat->List Cs
 |0,T=>if T=0 then[[]]else[]
 |k+1,T=>(Ts T).flatMap λ n=>(mL k (T - n)).map (n::·)
theorem Ae{T:Nat}:n∈Ts T↔n<=T:=by
 unfold Ts;rw[C8];constructor
 ·rintro⟨a,_,rfl⟩;lia
 ·intro h;exact⟨T - n,mem_range.mpr (by lia),by lia⟩
set_option tactic.hygienic true in
theorem fF:∀{k T:Nat} {p:Cs},p∈mL k T↔p.length=k/\p.sum=T
 |0,T,p=>by
  unfold mL;split
  ·rename_i h;subst h;rw[p8];exact⟨λ h=>by subst h;exact⟨rfl,rfl⟩,λ h=>i7.mp h.1⟩
  ·rename_i h;refine⟨λ h=>(by cases h),λ g=>?_⟩;have:=i7.mp g.1;subst this;exact absurd g.2.symm h
 |k+1,T,p=>by
  unfold mL;rw[mem_flatMap];constructor
  ·rintro⟨n,hn,h⟩;rw[C8]at h;obtain⟨r,hr,rfl⟩:=h;rw[fF]at hr;rw[Ae]at hn;refine⟨by simp[hr.1],?_⟩;show n+r.sum=T;lia
  ·rintro⟨hl,hs⟩;cases p with
   |nil=>cases hl
   |cons n r=>have hs:n+r.sum=T:=hs;refine⟨n,Ae.mpr (by lia),C8.mpr ⟨r,fF.mpr ⟨by simpa using hl,by lia⟩,rfl⟩⟩
theorem N5(T:Nat):(Ts T).Pairwise (· > ·):=by unfold Ts;rw[pairwise_map];have h:(List.range (T+1)).Pairwise (· < ·):=pairwise_lt_range;refine List.Pairwise.imp_of_mem (λ{a b} ha hb L'=>?_) h;rw[mem_range]at hb;show T - b < T - a;lia
theorem vp:∀(k T:Nat),(mL k T).Pairwise yb
 |0,T=>by unfold mL;split <;> simp
 |k+1,T=>by
  unfold mL;rw[pairwise_flatMap];refine⟨λ n _=>?_,?_⟩
  ·rw[pairwise_map];exact(vp k (T - n)).imp λ h=>.inr ⟨rfl,h⟩
  ·refine(N5 T).imp λ{a b} h x hx y hy=>?_;rw[C8]at hx hy;obtain⟨r,_,rfl⟩:=hx;obtain⟨s,_,rfl⟩:=hy;exact .inl h
def Lj(h T:Nat):List Cs:=(List.range T).flatMap (mL h)
theorem kU{h T:Nat}{p:Cs}:p∈Lj h T↔p.length=h/\p.sum < T:=by
 unfold Lj;rw[mem_flatMap];constructor
 ·rintro⟨n,hn,hp⟩;rw[fF]at hp;rw[mem_range]at hn;exact⟨hp.1,by lia⟩
 ·rintro⟨a,b⟩;exact⟨p.sum,mem_range.mpr b,fF.mpr ⟨a,rfl⟩⟩
theorem JC(h T:Nat):(Lj h T).Pairwise Ah:=by
 unfold Lj;rw[pairwise_flatMap];refine⟨λ n _=>?_,?_⟩
 ·refine List.Pairwise.imp_of_mem (λ{a b} ha hb L'=>?_) (vp h n);rw[fF]at ha hb;exact .inr ⟨by lia,L'⟩
 ·refine(pairwise_lt_range (n:=T)).imp λ{a b} h x hx y hy=>?_;rw[fF]at hx hy;exact .inl (by lia)
theorem vq{R:α->α->Prop}{Q:α->Prop}:∀{l:List α},l.Pairwise R->(∃x∈l,Q x)->∃x∈l,Q x/\∀y∈l,Q y->y=x\/R x y
 |[],_,h=>by obtain⟨x,hx,_⟩:=h;cases hx
 |a::l,hp,h=>by
  rw[pairwise_cons]at hp;by_cases ha:Q a
  ·refine⟨a,by simp,ha,λ y hy _=>?_⟩;rcases C4.mp hy with z|z
   ·exact .inl z
   ·exact .inr (hp.1 y z)
  ·obtain⟨x,hx,hq,hm⟩:=vq hp.2 (by
    obtain⟨x,hx,hq⟩:=h;rcases C4.mp hx with rfl|z
    ·exact absurd hq ha
    ·exact⟨x,z,hq⟩)
   refine⟨x,k5 _ hx,hq,λ y hy ym=>?_⟩;rcases C4.mp hy with rfl|z
   ·exact absurd ym ha
   ·exact hm y z ym
end KK
variable {ac:List (KK.Cs×Nat)}
namespace KK
def nh{α:Type}(f:α->α):Nat->α->α
 |0,x=>x
 |n+1,x=>nh f n (f x)
theorem pH(f:α->α):∀(n:Nat) (x:α),nh f (n+1) x=f (nh f n x)
 |0,x=>rfl
 |n+1,x=>by show nh f (n+1) (f x)=_;rw[pH f n];rfl
def fi{α:Type}(F:Nat->α->α):Nat->α->Cs->α
 |_,s,[]=>s
 |i,s,c::cs=>fi F (i+1) (nh (F i) c s) cs
structure mI{α:Type}(S:α->Prop)(h:Nat)(F:Nat->α->α):Prop where
 cl:∀s i,i < h->S s->S (F i s)
 cm:∀s i j,i < h->j < h->S s->F i (F j s)=F j (F i s)
section
variable {S:α->Prop}{h:Nat}{F:Nat->α->α}
theorem mI.nh(C:mI S h F)(hi:i < h):∀(n:Nat) (s:α),S s->S (nh (F i) n s)
 |0,s,hs=>hs
 |n+1,s,hs=>C.nh hi n _ (C.cl s i hi hs)
theorem mI.yg(C:mI S h F)(hi:i < h)(hj:j < h):∀(n:Nat) (s:α),S s->KK.nh (F i) n (F j s)=F j (KK.nh (F i) n s)
 |0,s,hs=>rfl
 |n+1,s,hs=>by show KK.nh (F i) n (F i (F j s))=F j (KK.nh (F i) n (F i s));rw[C.cm s i j hi hj hs,C.yg hi hj n _ (C.cl s i hi hs)]
theorem mI.fi(C:mI S h F):∀(cs:Cs) (i:Nat) (s:α),i+cs.length<=h->S s->S (fi F i s cs)
 |[],i,s,_,hs=>hs
 |c::cs,i,s,hl,hs=>by rw[x3]at hl;exact C.fi cs (i+1) _ (by lia) (C.nh (by lia) _ _ hs)
theorem mI.YK(C:mI S h F)(hj:j < h):∀(cs:Cs) (i:Nat) (s:α),i+cs.length<=h->S s->KK.fi F i (F j s) cs=F j (KK.fi F i s cs)
 |[],i,s,_,hs=>rfl
 |c::cs,i,s,hl,hs=>by rw[x3]at hl;show KK.fi F (i+1) (KK.nh (F i) c (F j s)) cs=F j (KK.fi F (i+1) (KK.nh (F i) c s) cs);rw[C.yg (by lia) hj c s hs,C.YK hj cs (i+1) _ (by lia) (C.nh (by lia) _ _ hs)]
theorem mI.inc(C:mI S h F):∀(cs:Cs) (i l:Nat) (s:α),i+cs.length<=h->l < cs.length->S s->KK.fi F i s (KK.inc cs l)=F (i+l) (KK.fi F i s cs)
 |c::cs,i,0,s,hl,_,hs=>by rw[x3]at hl;show KK.fi F (i+1) (KK.nh (F i) (c+1) s) cs=F i (KK.fi F (i+1) (KK.nh (F i) c s) cs);rw[pH,C.YK (by lia) cs (i+1) _ (by lia) (C.nh (by lia) _ _ hs)]
 |c::cs,i,l+1,s,hl,hc,hs=>by rw[x3]at hl hc;show KK.fi F (i+1) (KK.nh (F i) c s) (KK.inc cs l)=F (i+(l+1)) (KK.fi F (i+1) (KK.nh (F i) c s) cs);rw[C.inc cs (i+1) l _ (by lia) (by lia) (C.nh (by lia) _ _ hs),show i+1+l=i+(l+1) by lia]
def km(F:Nat->α->α)(s0:α)(h:Nat)(p:Cs):Prop:=p.length=h/\∀q:Cs,q.length=h->Ah q p->fi F 0 s0 q≠fi F 0 s0 p
theorem km.uniq{s0:α}{p q:Cs}(a:km F s0 h p)(b:km F s0 h q)(e:fi F 0 s0 p=fi F 0 s0 q):p=q:=by
 rcases Ah.Vr (p:=p) (q:=q) (by rw[a.1,b.1])with z|z|z
 ·exact z
 ·exact absurd e (b.2 p a.1 z)
 ·exact absurd e.symm (a.2 q b.1 z)
theorem km.ex(F:Nat->α->α)(s0:α)(h:Nat){p:Cs}(hp:p.length=h):∃q,km F s0 h q/\fi F 0 s0 q=fi F 0 s0 p/\(p=q\/Ah q p):=by
 obtain⟨q,hq,e,hm⟩:=vq (Q:=λ q=>fi F 0 s0 q=fi F 0 s0 p) (JC h (p.sum+1)) ⟨p,kU.mpr ⟨hp,by lia⟩,rfl⟩;have Wx:=kU.mp hq;refine⟨q,⟨Wx.1,λ r hr ha er=>?_⟩,e,hm p (kU.mpr ⟨hp,by lia⟩) rfl⟩;have hs:r.sum<=q.sum:=by rcases ha with z|z <;> lia
 rcases hm r (kU.mpr ⟨hr,by lia⟩) (er.trans e)with z|z
 ·subst z;exact ha.UZ
 ·exact ha.not z
theorem km.dn(C:mI S h F){s0:α}(h0:S s0){p:Cs}{l:Nat}(hl:l < p.length)(a:km F s0 h (KK.inc p l)):km F s0 h p:=by
 have hp:p.length=h:=by rw[<- ju p l];exact a.1
 refine⟨hp,λ q hq ha e=>?_⟩;refine a.2 (KK.inc q l) (by rw[ju];exact hq) (ha.inc (by lia) hl) ?_;rw[C.inc q 0 l s0 (by lia) (by lia) h0,C.inc p 0 l s0 (by lia) hl h0,e]
def iB(h:Nat):Cs:=List.replicate h 0
theorem sr:∀{p:Cs},p.sum=0->p=iB p.length
 |[],_=>rfl
 |a::as,e=>by have e:a+as.sum=0:=e;have:=sr (p:=as) (by lia);show a::as=List.replicate (as.length+1) 0;rw[l8,show a=0 by lia];exact H9 _ this
theorem nG(h:Nat):(iB h).sum=0:=by unfold iB;simp
theorem tP(F:Nat->α->α)(s:α):∀(h i:Nat),fi F i s (iB h)=s
 |0,i=>rfl
 |h+1,i=>by show fi F (i+1) s (iB h)=s;exact tP F s h (i+1)
theorem km.iB(F:Nat->α->α)(s0:α)(h:Nat):km F s0 h (iB h):=by
 refine⟨by simp[KK.iB],λ q hq ha=>?_⟩;rcases ha with z|z
 ·rw[nG]at z;lia
 ·rw[nG]at z;have:=sr z.1;rw[hq]at this;rw[this]at z;exact absurd z.2 (tH _)
theorem km.par(C:mI S h F){s0:α}(h0:S s0){q:Cs}(a:km F s0 h q)(hz:q≠KK.iB h):∃p l,l < h/\p.length=h/\q=KK.inc p l/\zb p l/\km F s0 h p/\p.sum < q.sum:=by
 have hs:0 < q.sum:=Nat.pos_of_ne_zero λ z=>hz (by have:=sr z;rwa [a.1]at this);obtain⟨p,l,hl,hp,e,z⟩:=lastOf hs;have uB:l < p.length:=by lia
 subst e;refine⟨p,l,by rw[<- a.1];exact hl,by rw[hp];exact a.1,rfl,z,a.dn C h0 uB,by rw[fT uB];lia⟩
structure QF(F:Nat->α->α)(s0:α)(h:Nat)(ac:List (Cs×α)):Prop where
 ent:∀e∈ac,km F s0 h e.1/\fi F 0 s0 e.1=e.2
 VJ:(ac.map (·.1)).Pairwise Ah
 low:∀q,km F s0 h q->q∉ac.map (·.1)->∀k∈ac.map (·.1),Ah k q
 iE:ac[0]?=some (KK.iB h,s0)
structure uq(F:Nat->α->α)(s0:α)(h:Nat)(ac:List (Cs×α))(d i:Nat):Prop where
 gE:QF F s0 h ac
 up:∀q p l,km F s0 h q->q∉ac.map (·.1)->q=KK.inc p l->p.length=h->l < h->zb p l->∀j e,ac[j]?=some e->e.1=p->d < j\/(j=d/\i<=l)
theorem uq.start(F:Nat->α->α)(s0:α)(h:Nat):uq F s0 h [(KK.iB h,s0)] 0 0:=by
 refine⟨⟨λ e he=>?_,by simp,λ q hq hn k hk=>?_,rfl⟩,λ q p l _ _ _ _ _ _ j e hj _=>?_⟩
 ·rw[p8.mp he];exact⟨km.iB F s0 h,tP F s0 h 0⟩
 ·rw[map_singleton,p8]at hk hn;subst hk;rcases Ah.Vr (p:=q) (q:=KK.iB h) (by rw[hq.1];simp[KK.iB])with z|z|z
  ·exact absurd z hn
  ·rcases z with z|z
   ·rw[nG]at z;lia
   ·rw[nG]at z;have:=sr z.1;rw[hq.1]at this;exact absurd this hn
  ·exact z
 ·cases j with
  |zero=>exact .inr ⟨rfl,by lia⟩
  |succ j=>exact .inl (by lia)
theorem uq.turn{s0:α}{ac:List (Cs×α)}{d:Nat}(b:uq F s0 h ac d h):uq F s0 h ac (d+1) 0:=
 ⟨b.gE,λ q p l hq hn e hp hl hz j x hj hx=>by
  rcases b.up q p l hq hn e hp hl hz j x hj hx with z|z
  ·by_cases g:j=d+1
   ·exact .inr ⟨g,by lia⟩
   ·exact .inl (by lia)
  ·lia⟩
theorem QF.at{s0:α}{ac:List (Cs×α)}(b:QF F s0 h ac){x y:Cs×α}(hi:ac[i]?=some x)(hj:ac[j]?=some y)(l:i < j):Ah x.1 y.1:=by
 have Q5:(ac.map (·.1))[i]?=some x.1:=by rw[r0,hi];rfl
 have U4:(ac.map (·.1))[j]?=some y.1:=by rw[r0,hj];rfl
 obtain⟨a,ha⟩:=c9.mp Q5;obtain⟨c,hc⟩:=c9.mp U4;have:=pairwise_iff_getElem.mp b.VJ i j a c l;rw[ha,hc]at this;exact this
theorem uq.next(C:mI S h F){s0:α}(h0:S s0){ac:List (Cs×α)}{d:Nat}(b:uq F s0 h ac d i)(hi:i < h){a:Cs}{s:α}(hd:ac[d]?=some (a,s)){q:Cs}(hq:km F s0 h q)(hn:q∉ac.map (·.1)):q=KK.inc a i\/Ah (KK.inc a i) q:=by
 have hz:q≠KK.iB h:=λ z=>hn (by
  rw[C8];exact⟨_,k7 b.gE.iE,z.symm⟩)
 have ha:=(b.gE.ent _ (k7 hd)).1;have U8:a.length=h:=ha.1;obtain⟨p,l,hl,hp,e,z,fp,_⟩:=hq.par C h0 hz;subst e;have key:Ah a p->Ah (KK.inc a i) (KK.inc p l):=λ g=>g.par z (by lia) (by lia);by_cases hm:p∈ac.map (·.1)
 ·obtain⟨x,hx,rfl⟩:=C8.mp hm;obtain⟨j,hj⟩:=getElem?_of_mem hx;rcases b.up _ x.1 l hq hn rfl hp hl z j x hj rfl with g|⟨rfl,g⟩
  ·exact .inr (key (b.gE.at hd hj g))
  ·rw[hd]at hj;cases hj;by_cases e:i=l
   ·exact .inl (by rw[e])
   ·exact .inr (Ah.Wh (by lia) (by lia))
 ·exact .inr (key (b.gE.low p fp hm a (C8.mpr ⟨_,k7 hd,rfl⟩)))
theorem uq.old(C:mI S h F){s0:α}(h0:S s0){ac:List (Cs×α)}{d:Nat}(b:uq F s0 h ac d i)(hi:i < h){a:Cs}{s:α}(hd:ac[d]?=some (a,s))(hk:F i s∈ac.map (·.2)):uq F s0 h ac d (i+1):=by
 refine⟨b.gE,λ q p l hq hn e hp hl hz j x hj hx=>?_⟩;have ha:=b.gE.ent _ (k7 hd);have U8:a.length=h:=ha.1.1;rcases b.up q p l hq hn e hp hl hz j x hj hx with z|⟨rfl,z⟩
 ·exact .inl z
 ·refine .inr ⟨rfl,?_⟩;by_cases g:i=l
  ·exfalso;subst g;rw[hd]at hj;cases hj;subst hx;obtain⟨y,hy,ey⟩:=C8.mp hk;have ym:=b.gE.ent y hy;refine hn (C8.mpr ⟨y,hy,ym.1.uniq hq ?_⟩);rw[ym.2,ey,e,C.inc a 0 i s0 (by lia) (by lia) h0,ha.2,D3]
  ·lia
theorem uq.new(C:mI S h F){s0:α}(h0:S s0){ac:List (Cs×α)}{d:Nat}(b:uq F s0 h ac d i)(hi:i < h){a:Cs}{s:α}(hd:ac[d]?=some (a,s))(hk:F i s∉ac.map (·.2)):uq F s0 h (ac++[(KK.inc a i,F i s)]) d (i+1):=by
 have ha:=b.gE.ent _ (k7 hd);have U8:a.length=h:=ha.1.1;have hc:fi F 0 s0 (KK.inc a i)=F i s:=by rw[C.inc a 0 i s0 (by lia) (by lia) h0,ha.2,D3]
 have rP:(KK.inc a i).length=h:=by rw[ju];exact U8
 have fc:km F s0 h (KK.inc a i):=by
  obtain⟨q,fq,e,hq⟩:=km.ex F s0 h rP;have hn:q∉ac.map (·.1):=λ hm=>by obtain⟨y,hy,rfl⟩:=C8.mp hm;refine hk (C8.mpr ⟨y,hy,?_⟩);rw[<- (b.gE.ent y hy).2,e,hc]
  rcases b.next C h0 hi hd fq hn with z|z
  ·rw[<- z];exact fq
  ·rcases hq with g|g
   ·rw[g];exact fq
   ·exact(z.not g).elim
 have rO:KK.inc a i∉ac.map (·.1):=λ hm=>by obtain⟨y,hy,e⟩:=C8.mp hm;exact hk (C8.mpr ⟨y,hy,by rw[<- (b.gE.ent y hy).2,e,hc]⟩)
 have KS:d < ac.length:=(c9.mp hd).1;refine⟨⟨λ e he=>?_,?_,λ q fq hn k Q4=>?_,?_⟩,λ q p l hq hn e hp hl hz j x hj hx=>?_⟩
 ·rcases A6.mp he with z|z
  ·exact b.gE.ent e z
  ·rw[p8.mp z];exact⟨fc,hc⟩
 ·rw[A7,pairwise_append];refine⟨b.gE.VJ,by simp,λ x hx y hy=>?_⟩;rw[map_singleton,p8]at hy;subst hy;exact b.gE.low _ fc rO x hx
 ·rw[A7,A6]at hn Q4;rw[not_or]at hn;rcases Q4 with z|z
  ·exact b.gE.low q fq hn.1 k z
  ·rw[map_singleton,p8]at z;subst z;rcases b.next C h0 hi hd fq hn.1 with g|g
   ·exact absurd (by rw[g];simp) hn.2
   ·exact g
 ·rw[c7 (by lia)];exact b.gE.iE
 ·rw[A7,A6,not_or]at hn;by_cases g:j < ac.length
  ·rw[c7 g]at hj;rcases b.up q p l hq hn.1 e hp hl hz j x hj hx with z|⟨rfl,z⟩
   ·exact .inl z
   ·refine .inr ⟨rfl,?_⟩;by_cases g:i=l
    ·exfalso;subst g;rw[hd]at hj;cases hj;subst hx;exact hn.2 (by rw[e];simp)
    ·lia
  ·exact .inl (by lia)
theorem uq.all(C:mI S h F){s0:α}(h0:S s0){ac:List (Cs×α)}{d:Nat}(b:uq F s0 h ac d 0)(hd:ac.length<=d):∀(n:Nat) (q:Cs),q.sum < n->km F s0 h q->q∈ac.map (·.1)
 |0,q,hs,_=>by lia
 |n+1,q,hs,fq=>by
  refine Decidable.byContradiction λ hn=>?_;have hz:q≠KK.iB h:=λ z=>hn (by
   rw[C8];exact⟨_,k7 b.gE.iE,z.symm⟩)
  obtain⟨p,l,hl,hp,e,z,fp,gT⟩:=fq.par C h0 hz;have:=b.all C h0 hd n p (by lia) fp;obtain⟨x,hx,ex⟩:=C8.mp this;obtain⟨j,hj⟩:=getElem?_of_mem hx;have Ym:j < ac.length:=(c9.mp hj).1;rcases b.up q p l fq hn e hp hl z j x hj ex with g|g <;> lia
theorem QF.nd{s0:α}{ac:List (Cs×α)}(b:QF F s0 h ac):(ac.map (·.2)).Nodup:=by
 have h2:(ac.map (·.1)).Pairwise λ x y=>x≠y:=b.VJ.imp λ a e=>by subst e;exact a.UZ
 have h1:ac.Pairwise λ x y=>x.1≠y.1:=pairwise_map.mp h2;unfold List.Nodup;rw[pairwise_map];refine List.Pairwise.imp_of_mem (λ{x y} hx hy ZS=>?_) h1;intro e;have a:=b.ent x hx;have c:=b.ent y hy;exact ZS (a.1.uniq c.1 (by rw[a.2,c.2,e]))
end
open L3 L4 L5
inductive jH{α:Type}(F:Nat->α->α)(h:Nat)(s0:α):α->Prop
 |zero:jH F h s0 s0
 |step {s:α} {i:Nat}:jH F h s0 s->i < h->jH F h s0 (F i s)
set_option tactic.hygienic true in
theorem jH.sum{S:α->Prop}{h:Nat}{F:Nat->α->α}{s0:α}(C:mI S h F)(h0:S s0){s:α}(r:jH F h s0 s):∃p:Cs,p.length=h/\fi F 0 s0 p=s:=by
 induction r with
 |zero=>exact⟨iB h,by simp[iB],tP F s0 h 0⟩
 |step r hi ih=>obtain⟨p,hp,e⟩:=ih;rename_i i;exact⟨inc p i,by rw[ju];exact hp,by rw[C.inc p 0 i s0 (by lia) (by lia) h0,e,D3]⟩
theorem jH.ok{S:α->Prop}{h:Nat}{F:Nat->α->α}{s0:α}(C:mI S h F)(h0:S s0){s:α}(r:jH F h s0 s):S s:=by
 induction r with
 |zero=>exact h0
 |step r hi ih=>exact C.cl _ _ hi ih
structure cM(m h:Nat)(x0:List Row):Prop where
 tb:Tb m h x0
 fW:mI (· < m) h (aG x0)
 ur:∀x,x < m->jH (aG x0) h 0 x
structure cJ{α:Type}(F:Nat->α->α)(aH:List α)(s:α)(i:Nat)(r:Row):Prop where
 len:r.length=i
 at':∀j,j < i->∃k:Nat,r[j]?=some (k:Int)/\aH[k]?=some (F j s)
theorem cJ.app{F:Nat->α->α}{aH ts:List α}{s:α}{r:Row}(a:cJ F aH s i r):cJ F (aH++ts) s i r:=
 ⟨a.len,λ j hj=>by
  obtain⟨k,e,h⟩:=a.at' j hj;exact⟨k,e,by rw[c7 (c9.mp h).1];exact h⟩⟩
theorem cJ.next{F:Nat->α->α}{aH:List α}{s:α}{r:Row}(a:cJ F aH s i r)(hk:aH[k]?=some (F i s)):cJ F aH s (i+1) (r++[(k:Int)]):=by
 refine⟨by simp[a.len],λ j hj=>?_⟩;by_cases g:j < i
 ·obtain⟨k,e,h⟩:=a.at' j g;exact⟨k,by rw[c7 (by rw[a.len];exact g)];exact e,h⟩
 ·have:j=i:=by lia
  subst this;refine⟨k,?_,hk⟩;rw[c5 (by rw[a.len];exact D9 _),a.len,Nat.sub_self];rfl
theorem cJ.nil(F:Nat->α->α)(aH:List α)(s:α):cJ F aH s 0 []:=⟨rfl,λ j hj=>absurd hj (by lia)⟩
structure qi{α:Type}(F:Nat->α->α)(s0:α)(h:Nat)(U aH:List α)(x0:List Row):Prop where
 nd:aH.Nodup
 iE:aH[0]?=some s0
 ur:∀s∈aH,jH F h s0 s
 sub:∀s∈aH,s∈U
 row:∀(d:Nat) (r:Row),x0[d]?=some r->∃s,aH[d]?=some s/\cJ F aH s h r
section
variable {F:Nat->α->α}{s0:α}{h:Nat}{U aH:List α}
theorem qi.start(hU:s0∈U):qi F s0 h U [s0] []:=
 ⟨by simp,rfl,λ s hs=>by rw[p8.mp hs];exact .zero,λ s hs=>by rw[p8.mp hs];exact hU,λ d r e=>by cases e⟩
theorem qi.add(e:qi F s0 h U aH x0){d:Nat}{s:α}(hd:aH[d]?=some s)(hi:i < h)(hU:F i s∈U)(hn:F i s∉aH):qi F s0 h U (aH++[F i s]) x0:=by
 refine⟨nodup_append.mpr ⟨e.nd,by simp,λ a ha b hb z=>hn (by rw[<- p8.mp hb,<- z];exact ha)⟩,?_,λ t ht=>?_,λ t ht=>?_,λ j r hj=>?_⟩
 ·rw[c7 (c9.mp e.iE).1];exact e.iE
 ·rcases A6.mp ht with z|z
  ·exact e.ur t z
  ·rw[p8.mp z];exact .step (e.ur s (k7 hd)) hi
 ·rcases A6.mp ht with z|z
  ·exact e.sub t z
  ·rw[p8.mp z];exact hU
 ·obtain⟨t,ht,hr⟩:=e.row j r hj;exact⟨t,by rw[c7 (c9.mp ht).1];exact ht,hr.app⟩
theorem qi.next(e:qi F s0 h U aH x0){s:α}{r:Row}(hd:aH[x0.length]?=some s)(hr:cJ F aH s h r):qi F s0 h U aH (x0++[r]):=by
 refine⟨e.nd,e.iE,e.ur,e.sub,λ j q hj=>?_⟩;by_cases g:j < x0.length
 ·rw[c7 g]at hj;exact e.row j q hj
 ·have hl:=(c9.mp hj).1;rw[o7,j8]at hl;have:j=x0.length:=by lia
  subst this;rw[c5 (D9 _),Nat.sub_self]at hj;cases hj;exact⟨s,hd,hr⟩
theorem qi.cY(e:qi F s0 h U aH x0):aH.length<=U.length:=List.Nodup.length_le_of_subset e.nd e.sub
theorem rB{l:List α}(h:l.Nodup){x:α}(a:l[i]?=some x)(b:l[j]?=some x):i=j:=by obtain⟨hi,_⟩:=c9.mp a;exact(getElem?_inj hi h).mp (a.trans b.symm)
theorem qi.at(e:qi F s0 h U aH x0)(hl:x0.length=aH.length){d:Nat}{s:α}(hd:aH[d]?=some s)(hi:i < h):aH[aG x0 i d]?=some (F i s):=by have KS:=(c9.mp hd).1;obtain⟨t,ht,hr⟩:=e.row d x0[d] (i0 (by lia));rw[hd]at ht;cases ht;obtain⟨k,e1,e2⟩:=hr.at' i hi;unfold aG;rw[c6 (l:=x0),i0 (l:=x0) (i:=d) (by lia)];show aH[((x0[d]).getD i 0).toNat]?=_;rw[c6,e1];exact e2
theorem qi.tb{S:α->Prop}(C:mI S h F)(h0:S s0)(e:qi F s0 h U aH x0)(hl:x0.length=aH.length)(hU:U.length<=300)(hh:h<=12):cM x0.length h x0:=by
 have h1:0 < aH.length:=(c9.mp e.iE).1;have lt:∀{d i:Nat},d < x0.length->i < h->aG x0 i d < x0.length:=λ{d i} hd hi=>by rw[hl];exact(c9.mp (e.at hl (i0 (show d < aH.length by lia)) hi)).1
 refine⟨⟨rfl,by lia,by have:=e.cY;lia,hh,λ r hr=>?_⟩,⟨λ x i hi hx=>lt hx hi,λ x i j hi hj hx=>?_⟩,λ x hx=>?_⟩
 ·obtain⟨d,hd⟩:=getElem?_of_mem hr;obtain⟨s,hs,Gq⟩:=e.row d r hd;refine⟨Gq.len,λ x hx=>?_⟩;obtain⟨j,hj⟩:=getElem?_of_mem hx;have Ym:=(c9.mp hj).1;obtain⟨k,e1,e2⟩:=Gq.at' j (by rw[<- Gq.len];exact Ym);rw[hj]at e1;cases e1;have:=(c9.mp e2).1;lia
 ·have hs:=i0 (show x < aH.length by lia);have ss:=(e.ur _ (k7 hs)).ok C h0;refine rB e.nd (x:=F i (F j aH[x])) (e.at hl (e.at hl hs hj) hi) ?_;rw[C.cm _ i j hi hj ss];exact e.at hl (e.at hl hs hi) hj
 ·have hs:=i0 (show x < aH.length by lia);have key:∀s,jH F h s0 s->∃k,aH[k]?=some s/\jH (aG x0) h 0 k:=λ s r=>by
   induction r with
   |zero=>exact⟨0,e.iE,.zero⟩
   |step r hi ih=>obtain⟨k,hk,hr⟩:=ih;exact⟨_,e.at hl hk hi,.step hr hi⟩
  obtain⟨k,hk,hr⟩:=key _ (e.ur _ (k7 hs));rw[rB e.nd hs hk];exact hr
end
def FsF(m h:Nat)(x0:List Row)(f:Nat->Cs):Prop:=∀x,x < m->km (aG x0) 0 h (f x)/\fi (aG x0) 0 0 (f x)=x
theorem cM.fst{h:Nat}(T:cM m h x0):∃f,FsF m h x0 f:=by
 have:∀x:Nat,∃p:Cs,x < m->km (aG x0) 0 h p/\fi (aG x0) 0 0 p=x:=λ x=>by
  by_cases hx:x < m
  ·obtain⟨p,hp,e⟩:=(T.ur x hx).sum T.fW T.tb.pos;obtain⟨q,fq,eq,_⟩:=km.ex (aG x0) 0 h hp;exact⟨q,λ _=>⟨fq,by rw[eq,e]⟩⟩
  ·exact⟨[],λ g=>absurd g hx⟩
 exact⟨λ x=>Classical.choose (this x),λ x hx=>Classical.choose_spec (this x) hx⟩
abbrev nD(v:Nat):D:=.int (v:Int)
def gV(p:Cs):D:=.tup (p.map nD)
theorem K_(p:Cs):gV p=row (p.map λ v:Nat=>(v:Int)):=by unfold gV row;rw[C9];rfl
theorem gJ(x0:List Row):∀(p:Cs) (i x:Nat),fI x0 i x (p.map λ v:Nat=>(v:Int))=fi (aG x0) i x p
 |[],i,x=>rfl
 |c::cs,i,x=>by
  have e:∀n y,du (aG x0 i) n y=nh (aG x0 i) n y:=λ n=>by
   induction n with
   |zero=>exact λ y=>rfl
   |succ n ih=>exact λ y=>by show du (aG x0 i) n (aG x0 i y)=_;rw[ih];rfl
  show fI x0 (i+1) (du (aG x0 i) c x) (cs.map _)=fi (aG x0) (i+1) (nh (aG x0 i) c x) cs;rw[gJ x0 cs,e]
open L3 L4 L5
open L2 hiding aR ir
theorem gc{c:ww}(h:be M M')(F:Flow M f c):Fl f c M M':=by obtain⟨ns,p,b,sd,ct,h1,h2,h3⟩:=F;exact⟨⟨ns,p,b,sd,ct,h _ _ h1,h _ _ h2,h3⟩,λ b o _ e=>h b o e⟩
theorem be.rfl:be M M:=λ _ _ e=>e
structure Enc{α:Type}(k:Nat)(enc:α->D):Prop where
 inj:∀a b,enc a=enc b->a=b
 pl:∀a,Pl k (enc a)
structure Sx{α:Type}(enc:α->D)(F:Nat->α->α)(s0:α)(h:Nat)(U:List α)(p q:ww)(aH:List α)(x0:List Row)(M0 M:Mem):Prop where
 ext:be M0 M
 np:M0 p=none
 nq:M0 q=none
 pq:p≠q
 st:M p=some (.lst (aH.map enc))
 jQ:M q=some (.lst (x0.map row))
 ex:qi F s0 h U aH x0
 le:x0.length<=aH.length
section
variable {enc:α->D}{F:Nat->α->α}{s0:α}{h:Nat}{U:List α}{q r:ww}{aH:List α}{M0:Mem}
theorem Sx.new(x:Sx enc F s0 h U p q aH x0 M0 M)(hr:M r=none)(o:MO):Sx enc F s0 h U p q aH x0 M0 (ai M r o):=
 ⟨x.ext.new hr o,x.np,x.nq,x.pq,by rw[av (bM x.st hr)];exact x.st,by rw[av (bM x.jQ hr)];exact x.jQ,x.ex,x.le⟩
theorem Sx.free(x:Sx enc F s0 h U p q aH x0 M0 M)(hr:M r=none):M0 r=none/\p≠r/\q≠r:=⟨x.ext.free hr,bM x.st hr,bM x.jQ hr⟩
theorem Sx.own(x:Sx enc F s0 h U p q aH x0 M0 M)(hr:M0 r=none/\p≠r/\q≠r)(o:MO):Sx enc F s0 h U p q aH x0 M0 (ai M r o):=
 ⟨x.ext.own hr.1,x.np,x.nq,x.pq,by rw[av hr.2.1];exact x.st,by rw[av hr.2.2];exact x.jQ,x.ex,x.le⟩
theorem Sx.add(x:Sx enc F s0 h U p q aH x0 M0 M){d:Nat}{s:α}(hd:aH[d]?=some s)(hi:i < h)(hU:F i s∈U)(hn:F i s∉aH):Sx enc F s0 h U p q (aH++[F i s]) x0 M0 (ai M p (.lst (aH.map enc++[enc (F i s)]))):=
 ⟨x.ext.own x.np,x.np,x.nq,x.pq,by rw[ag,A7];rfl,by rw[av (J0 x.pq)];exact x.jQ,x.ex.add hd hi hU hn,by rw[o7];have:=x.le;lia⟩
theorem Sx.next(x:Sx enc F s0 h U p q aH x0 M0 M){s:α}{r:Row}(hd:aH[x0.length]?=some s)(hr:cJ F aH s h r):Sx enc F s0 h U p q aH (x0++[r]) M0 (ai M q (.lst (x0.map row++[row r]))):=
 ⟨x.ext.own x.nq,x.np,x.nq,x.pq,by rw[av x.pq];exact x.st,by rw[ag,A7];rfl,x.ex.next hd hr,by
  have:=(c9.mp hd).1;rw[o7,j8];lia⟩
theorem Sx.cY(x:Sx enc F s0 h U p q aH x0 M0 M):aH.length<=U.length/\x0.length<=U.length:=by have:=x.ex.cY;have:=x.le;lia
end
theorem gS[DecidableEq α]{xs:List α}{a:α}(h:a∈xs):xs[xs.idxOf a]?=some a:=by rw[i0 (idxOf_lt_length_of_mem h),getElem_idxOf]
def cnt(v lo w:Nat):Nat:=if v < lo+w then v else lo+(v - lo) % w
theorem Ha{v lo w:Nat}(h:0 < w):cnt v lo w < lo+w:=by
 unfold cnt;split
 ·lia
 ·have:=Nat.mod_lt (v - lo) h;lia
theorem AX{v a lo w:Nat}(h:0 < w):cnt (cnt v lo w+a) lo w=cnt (v+a) lo w:=by
 unfold cnt;by_cases g:v < lo+w
 ·rw[J3 g]
 ·rw[J4 g];have hm:=Nat.mod_lt (v - lo) h;have e2:((v - lo) % w+a) % w=(v+a - lo) % w:=by rw[Nat.mod_add_mod];congr 1;lia
  by_cases g2:lo+(v - lo) % w+a < lo+w
  ·rw[J3 g2,J4 (by lia),<- e2,Nat.mod_eq_of_lt (show(v - lo) % w+a < w by lia)];lia
  ·rw[J4 g2,J4 (by lia),<- e2,show lo+(v - lo) % w+a - lo=(v - lo) % w+a by lia]
theorem AW{v a b lo w:Nat}(h:0 < w):cnt (cnt (v+a) lo w+b) lo w=cnt (cnt (v+b) lo w+a) lo w:=by rw[AX h,AX h,show v+a+b=v+b+a by lia]
def iy(m:Nat)(ls:Row):Prop:=ls.Pairwise (· < ·)/\∀x∈ls,0<=x/\x < (m:Int)
theorem iy.nil(m:Nat):iy m []:=⟨.nil,λ x h=>by cases h⟩
theorem iy.up(h:iy m ls):iy (m+1) ls:=⟨h.1,λ x hx=>by have:=h.2 x hx;lia⟩
theorem iy.add(h:iy m ls):iy (m+1) (ls++[(m:Int)]):=by
 refine⟨pairwise_append.mpr ⟨h.1,by simp,λ x hx y hy=>?_⟩,λ x hx=>?_⟩
 ·rw[p8.mp hy];exact(h.2 x hx).2
 ·rcases A6.mp hx with z|z
  ·have:=h.2 x z;lia
  ·rw[p8.mp z];lia
theorem iy.cY:∀{ls:Row},iy m ls->ls.length<=m:=λ{ls} h=>by
 have nd:(ls.map Int.toNat).Nodup:=by unfold List.Nodup;rw[pairwise_map];refine List.Pairwise.imp_of_mem (λ{a b} ha hb L'=>?_) h.1;have:=h.2 a ha;have:=h.2 b hb;lia
 have:=List.Nodup.length_le_of_subset nd (l₂:=List.range m) λ x hx=>by obtain⟨y,hy,rfl⟩:=C8.mp hx;have:=h.2 y hy;exact mem_range.mpr (by lia)
 rwa [A5,u6]at this
open L3 L4 L5
open L2 hiding aR ir
theorem nI[DecidableEq α]{enc:α->D}{F:Nat->α->α}{s0:α}{h:Nat}{U:List α}{q pw:ww}{aH:List α}{M0:Mem}{r:Row}{s:α}{jt js jr:Nat}{E:jL} (en:Enc k enc) (hk:k<=60) (X:Sx enc F s0 h U p q aH x0 M0 M) (hb:U.length<=300) (hh:h<=12) (fw:M0 pw=none/\p≠pw/\q≠pw) (hw:M pw=some (.lst (r.map D.int))) (hr:cJ F aH s i r) (hd:aH[x0.length]?=some s) (hi:i < h) (hU:F i s∈U) (et:δ[jt]?=some (some (enc (F i s)))) (es:δ[js]?=some (some (.ref p))) (er:δ[jr]?=some (some (.ref pw))) (kk:∀(gK:List α) (r':Row) (M':Mem),Sx enc F s0 h U p q gK x0 M0 M'->M' pw=some (.lst (r'.map D.int))->cJ F gK s (i+1) r'->gK[x0.length]?=some s->E.nx δ M'):Eg (Iv (mM (BP nZ (gq jt) (gq js))) (vd (QQ "list" n_ (gq js) (oT (gq jt) xD))) zD) (vd (QQ "list" n_ (gq jr) (oT (QQ "list" yG (gq js) (oT (gq jt) xD)) xD))) E δ M:=by
 have vt:∀{M:Mem} {Q:bW},Q (enc (F i s)) M->gq jt δ M Q:=λ q=>f_ et q;have vs:∀{M:Mem} {Q:bW},Q (.ref p) M->gq js δ M Q:=λ q=>f_ es q;have vr:∀{M:Mem} {Q:bW},Q (.ref pw) M->gq jr δ M Q:=λ q=>f_ er q;refine gO (λ δ' M'=>δ'=δ/\∃gK,Sx enc F s0 h U p q gK x0 M0 M'/\M' pw=some (.lst (r.map D.int))/\cJ F gK s i r/\gK[x0.length]?=some s/\F i s∈gK) (λ N hN=>?_) ?_
 ·refine EF (nL (zH (vt (vs ?_))));refine oY (k:=k) (b:=decide (F i s∈aH)) (ds:=aH.map enc) (dg X.st) (en.pl _) (ff λ x _=>en.pl x) hk (by rw[decide_eq_true_iff];exact(tG en.inj _).symm) ?_;refine jk (λ hn=>?_) (λ hn=>?_)
  ·have hn:F i s∉aH:=by simpa using hn
   refine sW (zM (vs ⟨⟨rfl,_,X.st⟩,kL (vt (iS ?_))⟩));refine fK X.st (by rw[A5];have:=X.cY;exact p6 (show aH.length<=300 by lia) (by decide)) ?_;exact hN _ _ ⟨rfl,aH++[F i s],X.add hd hi hU hn,by rw[av (J0 fw.2.1)];exact hw,hr.app,by rw[c7 (c9.mp hd).1];exact hd,by simp⟩
  ·have hn:F i s∈aH:=by simpa using hn
   exact hN _ _ ⟨rfl,aH,X,hw,hr,hd,hn⟩
 ·rintro δ' M' ⟨rfl,gK,X,hw,hr,hd,hm⟩;refine sW (zM (vr ⟨⟨rfl,_,hw⟩,kL (zM (vs ⟨⟨rfl,_,X.st⟩,kL (vt (iS ?_))⟩))⟩));refine kJ enc en.inj X.st hm en.pl hk ?_;refine iS (fK hw (by rw[A5,hr.len];exact p6 (show i<=300 by lia) (by decide)) ?_);exact kk gK (r++[((gK.idxOf (F i s):Nat):Int)]) _ (X.own fw _) (by rw[ag,A7];rfl) (hr.next (gS hm)) hd
open L3 L4 L5
open L2 hiding aR ir
theorem cG:Enc 0 nD:=⟨λ a b z=>Int.ofNat.inj (D.int.inj z),λ a=>dB 0 _⟩
theorem lC:Enc 1 gV:=by refine⟨λ a b z=>?_,λ a=>Fd λ e he=>by obtain⟨x,_,rfl⟩:=C8.mp he;exact dB 0 _⟩;have:=D.tup.inj z;exact List.map_inj_right (f:=nD) (λ a b z=>cG.inj a b z) |>.mp this
def pD(p:Nat×Nat):D:=.tup [.int (p.1:Int),.int (p.2:Int)]
theorem GR:Enc 1 pD:=by
 refine⟨λ a b z=>?_,λ a=>Fd λ e he=>?_⟩
 ·have:=D.tup.inj z;injection this with h1 h2
  injection h2 with h2 _
  exact Prod.ext (cG.inj _ _ h1) (cG.inj _ _ h2)
 ·rcases C4.mp he with rfl|he
  ·exact dB 0 _
  ·rw[p8.mp he];exact dB 0 _
def stC:List (Nat×Nat)->Cs->Cs->Cs
 |(lo,w)::cs,a::ws,v::s=>cnt (v+a) lo w::stC cs ws s
 |_,_,_=>[]
def ue:List (Nat×Nat)->List Cs
 |[]=>[[]]
 |(lo,w)::cs=>(List.range (lo+w)).flatMap λ x=>(ue cs).map (x::·)
theorem zq:∀{cs:List (Nat×Nat)} {ws s:Cs},ws.length=cs.length->s.length=cs.length->(stC cs ws s).length=cs.length
 |[],[],[],_,_=>rfl
 |(lo,w)::cs,a::ws,v::s,h,g=>by show(stC cs ws s).length+1=_;rw[zq (cs:=cs) (by simpa using h) (by simpa using g)];rfl
theorem zr:∀{cs:List (Nat×Nat)} {ws us s:Cs},(∀c∈cs,0 < c.2)->ws.length=cs.length->us.length=cs.length->s.length=cs.length->stC cs ws (stC cs us s)=stC cs us (stC cs ws s)
 |[],_,_,_,_,_,_,_=>rfl
 |(lo,w)::cs,a::ws,b::us,v::s,hc,h1,h2,h3=>by show cnt (cnt (v+b) lo w+a) lo w::stC cs ws (stC cs us s)=cnt (cnt (v+a) lo w+b) lo w::stC cs us (stC cs ws s);rw[AW (hc (lo,w) (by simp)),zr (λ c hh=>hc c (by simp[hh])) (by simpa using h1) (by simpa using h2) (by simpa using h3)]
theorem zt:∀{cs:List (Nat×Nat)} {ws s:Cs},(∀c∈cs,0 < c.2)->ws.length=cs.length->s.length=cs.length->stC cs ws s∈ue cs
 |[],[],[],_,_,_=>by simp[stC,ue]
 |(lo,w)::cs,a::ws,v::s,hc,h1,h2=>by show cnt (v+a) lo w::stC cs ws s∈(List.range (lo+w)).flatMap λ x=>(ue cs).map (x::·);rw[mem_flatMap];exact⟨_,mem_range.mpr (Ha (hc (lo,w) (by simp))),C8.mpr ⟨_,zt (λ c hh=>hc c (by simp[hh])) (by simpa using h1) (by simpa using h2),rfl⟩⟩
theorem yY:∀{cs:List (Nat×Nat)},(∀c∈cs,0 < c.2)->iB cs.length∈ue cs
 |[],_=>by simp[iB,ue]
 |(lo,w)::cs,hc=>by show 0::iB cs.length∈(List.range (lo+w)).flatMap λ x=>(ue cs).map (x::·);rw[mem_flatMap];have:=hc (lo,w) (by simp);exact⟨0,mem_range.mpr (by show 0 < lo+w;have:0 < w:=this;lia),C8.mpr ⟨_,yY λ c hh=>hc c (by simp[hh]),rfl⟩⟩
theorem ud(cs:List (Nat×Nat))(lo w:Nat):(ue ((lo,w)::cs)).length=(lo+w)*(ue cs).length:=by show((List.range (lo+w)).flatMap λ x=>(ue cs).map (x::·)).length=_;rw[length_flatMap];simp only[A5];rw[map_const',u6,sum_replicate_nat]
abbrev Xx:=Nat×Nat×Nat×Nat
def xq:List (Nat×Nat)->Cs->Cs->List Xx
 |c::cs,a::ws,v::s=>(v,a,c)::xq cs ws s
 |_,_,_=>[]
def DL(t:Xx):D:=.tup [.int (t.1:Int),.int (t.2.1:Int),pD t.2.2]
theorem zl:∀{cs:List (Nat×Nat)} {ws s:Cs},ws.length=cs.length->s.length=cs.length->uH (s.map nD) (ws.map nD) (cs.map pD)=(xq cs ws s).map DL/\stC cs ws s=(xq cs ws s).map λ t=>cnt (t.1+t.2.1) t.2.2.1 t.2.2.2
 |[],[],[],_,_=>⟨rfl,rfl⟩
 |c::cs,a::ws,v::s,h,g=>by
  have ih:=zl (cs:=cs) (ws:=ws) (s:=s) (by simpa using h) (by simpa using g);refine⟨?_,?_⟩
  ·show DL (v,a,c)::uH (s.map nD) (ws.map nD) (cs.map pD)=DL (v,a,c)::(xq cs ws s).map DL;rw[ih.1]
  ·show cnt (v+a) c.1 c.2::stC cs ws s=cnt (v+a) c.1 c.2::(xq cs ws s).map _;rw[ih.2]
theorem zm:∀{cs:List (Nat×Nat)} {ws s:Cs} {t:Xx},t∈xq cs ws s->t.2.2∈cs
 |c::cs,a::ws,v::s,t,h=>by
  rcases C4.mp (show t∈(v,a,c)::xq cs ws s from h)with e|e
  ·rw[e];simp
  ·exact k5 _ (zm e)
 |[],_,_,_,h=>by cases h
 |_::_,[],_,_,h=>by cases h
 |_::_,_::_,[],_,h=>by cases h
theorem zo:∀{cs:List (Nat×Nat)} {ws s:Cs},(xq cs ws s).length<=cs.length
 |c::cs,a::ws,v::s=>by show(xq cs ws s).length+1<=cs.length+1;exact Nat.succ_le_succ zo
 |[],_,_=>D9 _
 |_::_,[],_=>G1 _
 |_::_,_::_,[]=>G1 _
def mT(cs:List (Nat×Nat)):Prop:=(∃lo w,cs=[(lo,w)]/\lo<=3/\1<=w/\w<=4)\/∃lo w QU w',cs=[(lo,w),(QU,w')]/\lo<=2/\1<=w/\w<=2/\QU<=2/\1<=w'/\w'<=2
theorem mT.pos(h:mT cs):∀c∈cs,0 < c.2:=by
 rcases h with⟨lo,w,rfl,_,h,_⟩|⟨lo,w,QU,w',rfl,_,h,_,_,h',_⟩
 ·intro c hc;rw[p8.mp hc];exact h
 ·intro c hc;rcases C4.mp hc with rfl|hc
  ·exact h
  ·rw[p8.mp hc];exact h'
theorem mT.box(h:mT cs):(ue cs).length<=16/\1<=cs.length/\cs.length<=2:=by
 rcases h with⟨lo,w,rfl,h1,h2,h3⟩|⟨lo,w,QU,w',rfl,h1,h2,h3,h4,h5,h6⟩
 ·rw[ud];show(lo+w)*1<=16/\1<=1/\1<=2;lia
 ·rw[ud,ud];show(lo+w)*((QU+w')*1)<=16/\1<=2/\2<=2;refine⟨D1 (Nat.mul_le_mul (show lo+w<=4 by lia) (show(QU+w')*1<=4 by lia)) (by decide),by lia,by lia⟩
theorem mT.fW(h:mT cs){ws:List Cs}(hw:∀w∈ws,w.length=cs.length):mI (λ s:Cs=>s.length=cs.length) ws.length (λ i s=>stC cs (ws.getD i []) s):=by
 have hl:∀{i},i < ws.length->(ws.getD i []).length=cs.length:=λ{i} hi=>by rw[c6,i0 hi];exact hw _ (x9 hi)
 exact⟨λ s i hi hs=>zq (hl hi) hs,λ s i j hi hj hs=>zr h.pos (hl hi) (hl hj) hs⟩
def stN(L:Nat)(sz:Cs)(i:Nat)(s:Nat×Nat):Nat×Nat:=(s.1^^^sz.getD i 0,max s.2 (if 1 < sz.getD i 0 then 1 else 0)*L)
def Hg:List (Nat×Nat):=(List.range 8).flatMap λ a=>(List.range 2).map λ b=>(a,b)
theorem Af{s:Nat×Nat}:s∈Hg↔s.1 < 8/\s.2 < 2:=by
 unfold Hg;rw[mem_flatMap];constructor
 ·rintro⟨a,ha,h⟩;obtain⟨b,hb,rfl⟩:=C8.mp h;exact⟨mem_range.mp ha,mem_range.mp hb⟩
 ·rintro⟨h1,h2⟩;exact⟨s.1,mem_range.mpr h1,C8.mpr ⟨s.2,mem_range.mpr h2,rfl⟩⟩
theorem Ii{L h:Nat}{sz:Cs}(hL:L<=1)(hs:∀x∈sz,x < 5):mI (λ s=>s∈Hg) h (stN L sz):=by
 have hz:∀i,sz.getD i 0 < 5:=λ i=>by
  rw[c6];cases e:sz[i]? with
  |none=>decide
  |some v=>exact hs v (k7 e)
 refine⟨λ s i _ hs=>?_,λ s i j _ _ _=>?_⟩
 ·rw[Af]at hs ⊢;refine⟨Nat.xor_lt_two_pow (n:=3) hs.1 (by have:=hz i;show sz.getD i 0 < 8;lia),?_⟩;show max s.2 (if 1 < sz.getD i 0 then 1 else 0)*L < 2;have:max s.2 (if 1 < sz.getD i 0 then 1 else 0)<=1:=by refine Nat.max_le.mpr ⟨by lia,?_⟩;split <;> lia
  exact p6 (Nat.mul_le_mul this hL) (by decide)
 ·unfold stN;dsimp only;refine Prod.ext ?_ ?_
  ·show s.1^^^_^^^_=s.1^^^_^^^_;rw[Nat.xor_assoc,Nat.xor_assoc,Nat.xor_comm (sz.getD j 0)]
  ·show max (max s.2 _*L) _*L=max (max s.2 _*L) _*L;rcases Nat.le_one_iff_eq_zero_or_eq_one.mp hL with e|e
   ·subst e;simp
   ·subst e;simp only[Nat.mul_one];rw[Nat.max_assoc,Nat.max_assoc,Nat.max_comm (if 1 < sz.getD j 0 then 1 else 0)]
def QP(x0:List Row)(w:Nat)(ws:Cs)(i:Nat)(s:Nat×Nat):Nat×Nat:=(aG x0 i s.1,(s.2+ws.getD i 0) % w)
def Dd(m w:Nat):List (Nat×Nat):=(List.range m).flatMap λ a=>(List.range w).map λ b=>(a,b)
theorem nT{w:Nat}{s:Nat×Nat}:s∈Dd m w↔s.1 < m/\s.2 < w:=by
 unfold Dd;rw[mem_flatMap];constructor
 ·rintro⟨a,ha,h⟩;obtain⟨b,hb,rfl⟩:=C8.mp h;exact⟨mem_range.mp ha,mem_range.mp hb⟩
 ·rintro⟨h1,h2⟩;exact⟨s.1,mem_range.mpr h1,C8.mpr ⟨s.2,mem_range.mpr h2,rfl⟩⟩
theorem Le(m w:Nat):(Dd m w).length=m*w:=by unfold Dd;rw[length_flatMap];simp only[A5,u6];rw[map_const',u6,sum_replicate_nat]
theorem Ij{h w:Nat}{ws:Cs}(T:cM m h x0)(hw:0 < w):mI (λ s=>s∈Dd m w) h (QP x0 w ws):=by
 refine⟨λ s i hi hs=>?_,λ s i j hi hj hs=>?_⟩
 ·rw[nT]at hs ⊢;exact⟨T.fW.cl _ _ hi hs.1,Nat.mod_lt _ hw⟩
 ·rw[nT]at hs;refine Prod.ext (T.fW.cm _ _ _ hi hj hs.1) ?_;show((s.2+ws.getD j 0) % w+ws.getD i 0) % w=((s.2+ws.getD i 0) % w+ws.getD j 0) % w;rw[Nat.mod_add_mod,Nat.mod_add_mod,Nat.add_right_comm]
theorem sG{h:Nat}(T:Tb m h x0){x:Nat}(hx:x < m)(hi:i < h):ip (x0.map row) (x:Int)=some (row (x0.getD x []))/\ip ((x0.getD x []).map D.int) (i:Int)=some (.int (aG x0 i x)):=by
 have wa:x < x0.length:=by rw[T.len];exact hx
 have a:=T.at hx hi;refine⟨bH (by rw[r0,i0 wa,c6,i0 wa];rfl),?_⟩;rw[Hj (by rw[a.1];exact hi),a.2.1]
theorem RG{h:Nat}{rk:List Row}{ord:List Nat}(T:cM m h x0)(hp:ord.Perm (List.range m))(h0:ord[0]?=some 0)(hl:rk.length=m)(hr:∀(d:Nat) (r:Row),rk[d]?=some r->∃x,ord[d]?=some x/\cJ (aG x0) ord x h r):cM m h rk:=by
 have e:qi (aG x0) 0 h (List.range m) ord rk:=⟨hp.nodup_iff.mpr nodup_range,h0,λ s hs=>T.ur s (mem_range.mp (hp.mem_iff.mp hs)),λ s hs=>hp.mem_iff.mp hs,hr⟩;have ol:ord.length=m:=by rw[hp.length_eq,u6]
 have:=e.tb T.fW T.tb.pos (by rw[hl,ol]) (by rw[u6];exact T.tb.cY) T.tb.tS
 rwa [hl]at this
theorem EA{Q:bW}(h:M p=some (.lst ds))(q:∀p,M p=none->Q (.ref p) (ai M p (.lst ds))):dList [.ref p] M Q:=by show(match cA M (.ref p)with|some ds=>∀p,M p=none->Q (.ref p) (ai M p (.lst ds))|none=>False);rw[dg h];exact q
theorem O8{xs:Row}(h:xs.Pairwise (·<=·))(nd:xs.Nodup)(hb:∀x∈xs,0<=x/\x < (m:Int)):iy m xs:=by refine⟨?_,hb⟩;have:=List.Pairwise.and h nd;exact this.imp λ{a b} z=>by have:=z.1;have:=z.2;lia
theorem Fs(hm:0 < m){ns:List Nat}(h:ns.Perm ((List.range (m - 1)).map (·+1))):(0::ns).Perm (List.range m):=by obtain⟨k,rfl⟩:∃k,m=k+1:=⟨m - 1,by lia⟩;rw[range_succ_eq_map];exact h.cons 0
def fe(ord:List Nat)(r:Row):Row:=r.map λ y=>(ord.idxOf y.toNat:Int)
theorem Iz{h:Nat}{ord:List Nat}(G:cM m h x0)(hp:ord.Perm (List.range m)){x:Nat}(hx:x < m):cJ (aG x0) ord x h (fe ord (x0.getD x [])):=by
 have wa:x < x0.length:=by rw[G.tb.len];exact hx
 have e:(x0.getD x []).length=h:=by rw[c6,i0 wa];exact(G.tb.row _ (x9 wa)).1
 refine⟨by unfold fe;rw[A5];exact e,λ j hj=>⟨ord.idxOf (aG x0 j x),?_,gS (hp.mem_iff.mpr (mem_range.mpr (G.fW.cl _ _ hj hx)))⟩⟩;unfold fe aG;rw[r0,i0 (by lia),c6 (l:=x0.getD x []),i0 (by lia)];rfl
theorem Er{xs:Row}{ord:List Nat}(hp:ord.Perm (List.range m))(L:iy m ls)(h:xs.Perm (fe ord ls))(hs:xs.Pairwise (·<=·)):iy m xs:=by
 have KJ:ord.length=m:=by rw[hp.length_eq,u6]
 have wb:∀y∈ls,y.toNat∈ord:=λ y hy=>hp.mem_iff.mpr (mem_range.mpr (by have:=L.2 y hy;lia));refine O8 hs (h.nodup_iff.mpr ?_) λ x hx=>?_
 ·unfold fe List.Nodup;rw[pairwise_map];refine List.Pairwise.imp_of_mem (λ{a b} ha hb L'=>?_) L.1;intro e;have e:ord.idxOf a.toNat=ord.idxOf b.toNat:=by lia
  have h1:=gS (wb a ha);rw[e,gS (wb b hb)]at h1;have:=A1 h1;have:=L.2 a ha;have:=L.2 b hb;lia
 ·obtain⟨y,hy,rfl⟩:=C8.mp (h.mem_iff.mp hx);have:=idxOf_lt_length_of_mem (wb y hy);lia
theorem FH{ns:List Nat}{b:Bool}(h:b=true↔ns=[]):b=true↔ns.map nD=[]:=by rw[h,map_eq_nil_iff]
theorem Ag{β:Type}(f:α->β):∀(l:List α) (j:Nat),(l.map f).eraseIdx j=(l.eraseIdx j).map f
 |[],_=>rfl
 |a::l,0=>rfl
 |a::l,j+1=>by show f a::(l.map f).eraseIdx j=f a::(l.eraseIdx j).map f;rw[Ag f l j]
theorem vC:∀{l:List α} {j:Nat} (h:j < l.length),([l[j]]++l.eraseIdx j).Perm l
 |a::l,0,_=>.refl _
 |a::l,j+1,h=>by have:=vC (l:=l) (j:=j) (by simpa using h);show(l[j]'(by simpa using h)::a::l.eraseIdx j).Perm (a::l);exact(List.Perm.swap _ _ _).trans (this.cons a)
open L3 L4 L5
open L2 hiding aR ir
def mR{α:Type}(enc:α->D)(kvs:List (α×D)):List (D×D):=kvs.map λ p=>(enc p.1,p.2)
section
variable [DecidableEq α]{enc:α->D}
theorem pA(inj:∀a b,enc a=enc b->a=b)(x:α):∀kvs:List (α×D),dC (mR enc kvs) (enc x)=(kvs.find? λ p=>decide (p.1=x)).map (·.2)
 |[]=>rfl
 |p::kvs=>by
  have ih:=pA inj x kvs;unfold dC mR at ih ⊢;rw[C3,y8,y8];by_cases z:p.1=x
  ·rw[B3 z,B3 (by rw[z])];rfl
  ·rw[y9 z,y9 (λ h=>z (inj _ _ h))];exact ih
theorem l_(inj:∀a b,enc a=enc b->a=b){kvs:List (α×D)}{x:α}(h:x∉kvs.map (·.1)):dC (mR enc kvs) (enc x)=none:=by
 rw[pA inj,find?_eq_none.mpr]
 ·rfl
 ·intro p hp;rw[decide_eq_true_iff];exact λ e=>h (C8.mpr ⟨p,hp,e⟩)
theorem lZ(inj:∀a b,enc a=enc b->a=b){kvs:List (α×D)}{x:α}(nd:(kvs.map (·.1)).Nodup)(h:(x,d)∈kvs):dC (mR enc kvs) (enc x)=some d:=by
 rw[pA inj];cases e:kvs.find? λ p=>decide (p.1=x)with
 |none=>have:=find?_eq_none.mp e _ h;simp at this
 |some q=>
  have h1:=find?_some e;have h2:=mem_of_find?_eq_some e;rw[decide_eq_true_iff]at h1;obtain⟨i,hi⟩:=getElem?_of_mem h;obtain⟨j,hj⟩:=getElem?_of_mem h2;have e1:(kvs.map (·.1))[i]?=some x:=by rw[r0,hi];rfl
  have e2:(kvs.map (·.1))[j]?=some x:=by rw[r0,hj,<- h1];rfl
  have:=rB nd e1 e2;subst this;rw[hi]at hj;cases hj;rfl
theorem sZ(inj:∀a b,enc a=enc b->a=b){kvs:List (α×D)}{x:α}(v:D)(h:x∉kvs.map (·.1)):putD (mR enc kvs) (enc x) v=mR enc (kvs++[(x,v)]):=by unfold putD;rw[l_ inj h,J4 (by simp)];unfold mR;rw[A7];rfl
end
theorem eD(x:Nat):je false (nD x):=⟨.inl x,rfl⟩
theorem Ge:∀{p:Cs} {i c:Nat},p[i]?=some c->p.take i++[c+1]++p.drop (i+1)=inc p i
 |a::p,0,c,h=>by cases h;rfl
 |a::p,i+1,c,h=>by have:=Ge (p:=p) (i:=i) (c:=c) (by simpa using h);show a::(p.take i++[c+1]++p.drop (i+1))=a::inc p i;rw[this]
def jW{α:Type}(enc:α->D)(e:Cs×α):D:=.tup [gV e.1,enc e.2]
theorem be.tY{C:CM}(h:∀b d,C b=some d->M1 b=some (.eS (.tY d)))(e:be (fA M1 C) M'):be M1 (gA M' C):=λ b o eo=>by
 rcases cW C b with z|⟨d,z⟩
 ·rw[g_ z];exact e b o (by rw[lF z];exact eo)
 ·rw[lH z,<- h b d z];exact eo
theorem kY{cs:List D}{C:CM}(h:nF M f L fv cs C)(e:be M M1):nF M1 f L fv cs C:=by obtain⟨cl,h1,h2⟩:=h.ex;exact⟨⟨cl,e _ _ h1,h2⟩,h.len,λ b d z=>e _ _ (h.tY b d z)⟩
structure wV{α:Type}(F:Nat->α->α)(s0:α)(h:Nat)(most:Nat)(ac:List (Cs×α)):Prop where
 gE:QF F s0 h ac
 Tr:most<=ac.length\/∀q,km F s0 h q->q∈ac.map (·.1)
end KK
namespace L2
open PySem.Spec PyProof.Rows
theorem gW:∀(names:List (Str×NameKind)) (zn:List (Str×ww)) (x:Str) (c:ww),(bA cells names zn).lookup x=some c->(x,NameKind.free)∈names\/zn.lookup x=some c
 |[],zn,x,c,e=>.inr e
 |(n,k)::r,zn,x,c,e=>by
  unfold bA at e;by_cases z:(k==NameKind.free)=true
  ·rw[J3 z]at e;have z:k=.free:=by simpa using z
   subst z;rcases gW r _ x c e with h|h
   ·exact .inl (k5 _ h)
   ·by_cases y:x=n
    ·subst y;exact .inl (n9 ..)
    ·rw[w6]at h;have:(x==n)=false:=by simpa using y
     rw[this]at h;exact .inr h
  ·rw[J4 z]at e;rcases gW r _ x c e with h|h
   ·exact .inl (k5 _ h)
   ·exact .inr h
end L2
namespace L3
open L2
theorem Ks{lf:ww}{cs:List D}{C:CM} (h:fu ps fv L.scope=true) (rO:fv=cn.map (·.1)) (hl:cs.length=cn.length) (Ay:∀(i:Nat) (x:Str) (j:Nat) (d:D),cn[i]?=some (x,j)->cs[i]?=some d->δ[j]?=some (some d)) (hC:Hu cells cn δ C) (hM:M lf=some (.eS (.lam L (bA cells L.scope.names [])))) (hn:∀b d,C b=some d->M b=none):nF (gA M C) lf L fv cs C:=by
 unfold fu at h;simp only[x6,y4]at h;obtain⟨⟨_,h5⟩,h6⟩:=h;have fr:∀x,(x,NameKind.free)∈L.scope.names->x∈fv:=λ x hx=>by simpa using(h6 _ hx).2
 have KC:∀x∈fv,∃j,(x,j)∈cn:=λ x hx=>by rw[rO]at hx;obtain⟨p,hp,rfl⟩:=C8.mp hx;exact⟨p.2,hp⟩
 have hc:∀n,(n,NameKind.free)∈L.scope.names->∃c,cells.lookup n=some c:=λ n hx=>by obtain⟨j,hj⟩:=KC n (fr n hx);obtain⟨b,_,e,_⟩:=hC.has n j hj;exact⟨b,e⟩
 have look:=fL (cells:=cells) L.scope.names [] hc λ x c e=>by simp at e
 have free:=λ x c e=>(gW (cells:=cells) L.scope.names [] x c e).elim (fr x) λ z=>by simp at z
 have KQ:C lf=none:=by
  rcases cW C lf with z|⟨d,z⟩
  ·exact z
  ·rw[hn lf d z]at hM;cases hM
 refine⟨⟨bA cells L.scope.names [],by rw[g_ KQ];exact hM,λ x y b e1 e2=>?_,λ x b e=>⟨free x b e,?_⟩,λ i x d ex ed=>?_⟩,by rw[hl,rO,A5],λ b d e=>lH e⟩
 ·obtain⟨j,hj⟩:=KC x (free x b e1);obtain⟨i,hi⟩:=KC y (free y b e2);exact hC.inj x j y i b hj hi (look x b e1) (look y b e2)
 ·obtain⟨j,hj⟩:=KC x (free x b e);obtain⟨b',d,e1,_,e3⟩:=hC.has x j hj;rw[look x b e]at e1;cases e1;exact⟨d,e3⟩
 ·rw[rO,r0]at ex;obtain⟨p,hp,rfl⟩:=Option.map_eq_some_iff.mp ex;have hx:p.1∈fv:=by rw[rO];exact C8.mpr ⟨p,k7 hp,rfl⟩
  have hm:(p.1,NameKind.free)∈L.scope.names:=by have:=h5 _ hx;exact l7 (by simpa using this)
  obtain⟨b,hb⟩:=Option.isSome_iff_exists.mp (gz (cells:=cells) L.scope.names [] hm);obtain⟨b',d',e1,e2,e3⟩:=hC.has p.1 p.2 (k7 hp);rw[look _ b hb]at e1;cases e1;rw[Ay i p.1 p.2 d hp ed]at e2;cases e2;exact⟨b,hb,e3⟩
theorem be.Lr{C:CM}(e:∀b o,gA M C b=some o->M' b=some o)(n:∀b d,C b=some d->M b=none):∀b o,M b=some o->fA M' C b=some o:=GV e n
theorem Qg{C:CM}{o:MO}(h:M' b=some o)(n:C b=none):fA M' C b=some o:=by rw[lF n];exact h
end L3
namespace KK
open L3 L4 L5
theorem wV.len{h:Nat}(G:cM m h x0)(f:wV (aG x0) 0 h m ac):ac.length=m:=by
 have iC:∀e∈ac,e.2 < m:=λ e he=>by have:=f.gE.ent e he;rw[<- this.2];exact G.fW.fi e.1 0 0 (by rw[this.1.1];lia) G.tb.pos
 have h1:=List.Nodup.length_le_of_subset f.gE.nd (l₂:=List.range m) λ x hx=>by obtain⟨e,he,rfl⟩:=C8.mp hx;exact mem_range.mpr (iC e he)
 rw[A5,u6]at h1;rcases f.Tr with h2|h2
 ·lia
 ·obtain⟨g,hg⟩:=G.fst;have h3:=List.Nodup.length_le_of_subset (nodup_range (n:=m)) (l₂:=ac.map (·.2)) λ x hx=>by have hx:=mem_range.mp hx;obtain⟨e,he,ee⟩:=C8.mp (h2 _ (hg x hx).1);have:=(f.gE.ent e he).2;rw[ee,(hg x hx).2]at this;exact C8.mpr ⟨e,he,this.symm⟩
  rw[A5,u6]at h3;lia
def zB:fk:=λ ds M Q=>∃ns:List Int,ds=[.fl (ns.map D.int)]/\∀f c M',Flow M' f c->be M M'->Q (.ref f) M'
theorem tu{c:ww}{x:XM}(F:Fl f c M M')(h:M b=some (.eS x))(hf:Flow M f c):M' b=some (.eS x):=by refine F.mv b _ (λ z=>?_) h;subst z;obtain⟨ns,p,bb,sd,ct,h1,_⟩:=hf;rw[h]at h1;cases h1
end KK
namespace L2
open PySem
abbrev Bh(l:List Nat):Prop:=l.Pairwise (· < ·)
theorem sR{l:List Nat}(h:Bh l){x:Nat}(hi:l[i]?=some x)(hj:l[j]?=some y)(lt:i < j):x < y:=by obtain⟨a,ha⟩:=c9.mp hi;obtain⟨b,hb⟩:=c9.mp hj;have:=pairwise_iff_getElem.mp h i j a b lt;rw[ha,hb]at this;exact this
theorem qd{xs:Array Nat}(h:Bh xs.toList):∀(fuel lo hi:Nat),lo<=hi->hi<=xs.size->hi - lo<=fuel->(∀(i:Nat) (v:Nat),i < lo->xs.toList[i]?=some v->v < j)->(∀(i:Nat) (v:Nat),hi<=i->xs.toList[i]?=some v->j<=v)->
  SetTable.below.go xs j fuel lo hi<=xs.size/\(∀(i:Nat) (v:Nat),i < SetTable.below.go xs j fuel lo hi->xs.toList[i]?=some v->v < j)/\(∀(i:Nat) (v:Nat),SetTable.below.go xs j fuel lo hi<=i->xs.toList[i]?=some v->j<=v)
 |0,lo,hi,h1,h2,h3,h4,h5=>by
  have:lo=hi:=by lia
  subst this;exact⟨h2,h4,h5⟩
 |fuel+1,lo,hi,h1,h2,h3,h4,h5=>by
  unfold SetTable.below.go;by_cases hl:lo < hi
  ·rw[J3 hl];have hm:(lo+hi) / 2 < xs.size:=by lia
   have hg:xs.getD ((lo+hi) / 2) j=xs[(lo+hi) / 2]:=by simp[Array.getD,hm]
   have hv:xs.toList[(lo+hi) / 2]?=some xs[(lo+hi) / 2]:=by rw[j9,c8 hm]
   dsimp only;rw[hg];by_cases hc:xs[(lo+hi) / 2] < j
   ·rw[J3 hc];refine qd h fuel _ hi (by lia) h2 (by lia) (λ i v Q5 e=>?_) h5;by_cases z:i=(lo+hi) / 2
    ·subst z;rw[hv]at e;cases e;exact hc
    ·exact Nat.lt_trans (sR h e hv (by lia)) hc
   ·rw[J4 hc];refine qd h fuel lo _ (by lia) (by lia) (by lia) h4 (λ i v Q5 e=>?_);by_cases z:i=(lo+hi) / 2
    ·subst z;rw[hv]at e;cases e;lia
    ·have:=sR h hv e (by lia);lia
  ·rw[J4 hl];have:lo=hi:=by lia
   subst this;exact⟨h2,h4,h5⟩
theorem lG{xs:Array Nat}(h:Bh xs.toList)(j:Nat):SetTable.below xs j<=xs.size/\(∀(i:Nat) (v:Nat),i < SetTable.below xs j->xs.toList[i]?=some v->v < j)/\(∀(i:Nat) (v:Nat),SetTable.below xs j<=i->xs.toList[i]?=some v->j<=v):=
 qd h xs.size 0 xs.size (G1 _) (D9 _) (by lia) (λ i v h=>absurd h (by lia)) λ i v h e=>by rw[k4 (by rw[l9];exact h)]at e;cases e
theorem below_at{xs:Array Nat}(h:Bh xs.toList)(e:xs.toList[i]?=some j):SetTable.below xs j=i:=by
 obtain⟨_,h1,h2⟩:=lG h j;refine A8 (w9 λ z=>?_) (w9 λ z=>?_)
 ·exact C0 _ (h1 i j z e)
 ·have hl:=(c9.mp e).1;have e2:=i0 (l:=xs.toList) (i:=SetTable.below xs j) (by lia);have a:=h2 _ _ (D9 _) e2;have b:=sR h e2 e z;lia
theorem yT{xs:Array Nat}(h:Bh xs.toList)(e:xs.toList[i]?=some j):SetTable.below xs (j+1)=i+1:=by
 obtain⟨h0,h1,h2⟩:=lG h (j+1);have hl:=(c9.mp e).1;refine A8 (w9 λ z=>?_) (w9 λ z=>?_)
 ·have hs:i+1 < xs.toList.length:=by rw[l9];lia
  have e2:=i0 hs;have a:=h1 (i+1) _ z e2;have b:=sR h e e2 (by lia);lia
 ·have:=h2 i j (by lia) e;lia
theorem yS{xs:Array Nat}(h:Bh xs.toList):SetTable.below xs 0=0:=by
 obtain⟨h0,h1,h2⟩:=lG h 0;refine Decidable.byContradiction λ z=>?_;have hs:0 < xs.toList.length:=by rw[l9];lia
 exact absurd (h1 0 _ (by lia) (i0 hs)) (by lia)
theorem BJ(h:Bh t.place.toList)(e:t.place.toList[i]?=some j):t.slot j=.live i:=by unfold SetTable.slot;dsimp only;rw[below_at h e,<- j9,e];simp
theorem xw(hd:t.dummies=#[])(h:Bh t.place.toList)(n:j∉t.place.toList):t.slot j=.empty:=by
 unfold SetTable.slot;dsimp only;have:(t.place[SetTable.below t.place j]?==some j)=false:=by rw[beq_eq_false_iff_ne];intro e;rw[<- j9]at e;exact n (k7 e)
 rw[this,hd];simp[SetTable.has,SetTable.below]
theorem Iy{xs:Array Nat}(h:Bh xs.toList)(n:j∉xs.toList):Bh (SetTable.insertAt xs (SetTable.below xs j) j).toList:=by
 rw[SetTable.toList_insertAt];obtain⟨h0,h1,h2⟩:=lG h j;generalize SetTable.below xs j=b at*;have hp:Bh (xs.toList.take b++xs.toList.drop b):=by rw[take_append_drop];exact h
 unfold Bh at hp ⊢;rw[pairwise_append]at hp ⊢;refine⟨hp.1,pairwise_cons.mpr ⟨λ y hy=>?_,hp.2.1⟩,λ x hx y hy=>?_⟩
 ·obtain⟨i,hi⟩:=getElem?_of_mem hy;rw[getElem?_drop]at hi;have:=h2 (b+i) y (by lia) hi;by_cases z:j=y
  ·subst z;exact absurd (k7 hi) n
  ·lia
 ·obtain⟨i,hi⟩:=getElem?_of_mem hx;have Yr:i < b:=by have:=(c9.mp hi).1;rw[x8]at this;lia
  rw[getElem?_take_of_lt Yr]at hi;have ZU:=h1 i x Yr hi;rcases C4.mp hy with rfl|hy
  ·exact ZU
  ·exact hp.2.2 x hx y hy
theorem Kl{xs:Array Nat}{p:Nat}:k∈(SetTable.insertAt xs p j).toList↔k=j\/k∈xs.toList:=by have:=(SetTable.insertAt_perm xs p j).mem_iff (a:=k);rw[this,Array.toList_push,A6,p8];exact⟨λ h=>h.symm,λ h=>h.symm⟩
def oV(mask i:Nat):List Nat:=(List.range (SetTable.runEnd mask i+1 - i)).map (i+·)
def jZ(mask:Nat):Nat->Nat×Nat->List Nat
 |0,_=>[]
 |B+1,(i,pt)=>oV mask i++jZ mask B (SetTable.leap mask i pt)
def iQ(mask B:Nat)(p:SetTable.Probe):List Nat:=(List.range (p.more+1)).map (p.j+·)++jZ mask B (SetTable.leap mask p.i p.perturb)
theorem lQ(mask i:Nat):i<=SetTable.runEnd mask i/\SetTable.runEnd mask i<=i+9:=by unfold SetTable.runEnd;split <;> lia
theorem En(mask i:Nat):1<=(oV mask i).length/\(oV mask i).length<=10:=by unfold oV;rw[A5,u6];have:=lQ mask i;lia
theorem wL(mask:Nat):∀(B:Nat) (q:Nat×Nat),(jZ mask B q).length<=10*B
 |0,_=>D9 _
 |B+1,(i,pt)=>by show(oV mask i++jZ mask B (SetTable.leap mask i pt)).length<=_;rw[o7];have:=(En mask i).2;have:=wL mask B (SetTable.leap mask i pt);lia
theorem oW{B pt:Nat}{d:Option Nat}:iQ mask B {j:=i,more:=SetTable.runEnd mask i - i,i:=i,perturb:=pt,dummy:=d}=jZ mask (B+1) (i,pt):=by unfold iQ;show _=oV mask i++jZ mask B (SetTable.leap mask i pt);unfold oV;have:=lQ mask i;rw[show SetTable.runEnd mask i - i+1=SetTable.runEnd mask i+1 - i by lia]
theorem BQ{B:Nat}{p:SetTable.Probe}(h:0 < p.more):iQ t.mask B p=p.j::iQ t.mask B (t.advance p)/\(t.advance p).dummy=p.dummy:=by
 unfold SetTable.advance;rw[J3 h];refine⟨?_,rfl⟩;unfold iQ;dsimp only;rw[range_succ_eq_map,C3,C9,cons_append,Nat.add_zero,show p.more - 1+1=p.more by lia];have e:((p.j+·)∘Nat.succ)=(p.j+1+·):=funext λ x=>by show p.j+(x+1)=p.j+1+x;lia
 rw[e]
theorem BR{B:Nat}{p:SetTable.Probe}(h:p.more=0):iQ t.mask (B+1) p=p.j::iQ t.mask B (t.advance p)/\(t.advance p).dummy=p.dummy:=by
 have hn:¬p.more > 0:=by lia
 unfold SetTable.advance;rw[J4 hn];refine⟨?_,rfl⟩;have e1:iQ t.mask (B+1) p=(List.range (p.more+1)).map (p.j+·)++jZ t.mask (B+1) (SetTable.leap t.mask p.i p.perturb):=rfl;rw[e1,h];show _::jZ t.mask (B+1) ((SetTable.leap t.mask p.i p.perturb).1,(SetTable.leap t.mask p.i p.perturb).2)=_;rw[<- oW (d:=p.dummy)];rfl
theorem Es{p:SetTable.Probe}(h:p.more=0):iQ mask 0 p=[p.j]:=by unfold iQ;rw[h];rfl
theorem GH(hd:t.dummies=#[])(hr:Bh t.place.toList){hashAt:Nat->Int}{h:Int}:∀(fuel B:Nat) (p:SetTable.Probe),(iQ t.mask B p).length<=fuel->p.dummy=none->(∃e∈iQ t.mask B p,e∉t.place.toList)->
  ∃pre j post,iQ t.mask B p=pre++j::post/\(∀k∈pre,∃i,t.place.toList[i]?=some k/\hashAt i≠h)/\
   ((j∉t.place.toList/\SetTable.probe.go t hashAt h fuel p=some (.empty j none))\/
    (∃i B' next,t.place.toList[i]?=some j/\hashAt i=h/\SetTable.probe.go t hashAt h fuel p=some (.candidate j i next)/\next.dummy=none/\(post≠[]->iQ t.mask B' next=post)))
 |0,B,p,hl,_,⟨e,he,_⟩=>by rw[i7.mp (Nat.le_zero.mp hl)]at he;cases he
 |fuel+1,B,p,hl,hp,⟨e,he,fN⟩=>by
  have st:∃rest,iQ t.mask B p=p.j::rest/\(t.advance p).dummy=none/\(rest≠[]->∃B',iQ t.mask B' (t.advance p)=rest):=by
   by_cases hm:0 < p.more
   ·obtain⟨e1,e2⟩:=BQ (t:=t) (B:=B) hm;exact⟨_,e1,e2.trans hp,λ _=>⟨B,rfl⟩⟩
   ·have hm:p.more=0:=by lia
    cases B with
    |zero=>
     have:(t.advance p).dummy=p.dummy:=by unfold SetTable.advance;rw[J4 (by lia)]
     exact⟨[],Es hm,this.trans hp,λ z=>absurd rfl z⟩
    |succ B=>obtain⟨e1,e2⟩:=BR (t:=t) (B:=B) hm;exact⟨_,e1,e2.trans hp,λ _=>⟨B,rfl⟩⟩
  obtain⟨rest,e1,e2,e3⟩:=st;rw[e1]at hl he ⊢;unfold SetTable.probe.go;by_cases hj:p.j∈t.place.toList
  ·obtain⟨i,hi⟩:=getElem?_of_mem hj;rw[BJ hr hi];dsimp only;by_cases hh:hashAt i=h
   ·rw[J3 (by simpa using hh)];by_cases L7:rest=[]
    ·exact⟨[],p.j,rest,rfl,λ k hk=>(by cases hk),.inr ⟨i,0,_,hi,hh,rfl,e2,λ z=>absurd L7 z⟩⟩
    ·obtain⟨B',Ti⟩:=e3 L7;exact⟨[],p.j,rest,rfl,λ k hk=>(by cases hk),.inr ⟨i,B',_,hi,hh,rfl,e2,λ _=>Ti⟩⟩
   ·rw[J4 (by simpa using hh)];have U6:e∈rest:=by
     rcases C4.mp he with z|z
     ·subst z;exact absurd hj fN
     ·exact z
    obtain⟨B',Ti⟩:=e3 (ne_nil_of_mem U6);obtain⟨pre,j,post,f1,f2,f3⟩:=GH hd hr fuel B' (t.advance p) (by rw[Ti];simpa using hl) e2 ⟨e,by rw[Ti];exact U6,fN⟩;rw[Ti]at f1;refine⟨p.j::pre,j,post,by rw[f1];rfl,λ k hk=>?_,f3⟩;rcases C4.mp hk with rfl|z
    ·exact⟨i,hi,hh⟩
    ·exact f2 k z
  ·rw[xw hd hr hj];dsimp only;rw[hp];exact⟨[],p.j,rest,rfl,λ k hk=>(by cases hk),.inl ⟨hj,rfl⟩⟩
open PySem
def Vg(m i:Nat):Nat:=(i*5+1) % m
def yg(m:Nat):Nat->Nat->Nat
 |0,i=>i
 |k+1,i=>yg m k (Vg m i)
theorem nU(m:Nat):∀(a b i:Nat),yg m (a+b) i=yg m b (yg m a i)
 |0,b,i=>by rw[D3];rfl
 |a+1,b,i=>by rw[Nat.add_right_comm];show yg m (a+b) (Vg m i)=yg m b (yg m a (Vg m i));exact nU m a b _
def VY(m:Nat):Nat->Nat->List Nat
 |0,_=>[]
 |k+1,i=>i::VY m k (Vg m i)
theorem zV(m:Nat):∀(n i j:Nat),j∈VY m n i->∃k,k < n/\yg m k i=j
 |0,i,j,h=>by cases h
 |n+1,i,j,h=>by
  rcases C4.mp h with rfl|h
  ·exact⟨0,Nat.succ_pos _,rfl⟩
  ·obtain⟨k,hk,e⟩:=zV m n _ j h;exact⟨k+1,Nat.succ_lt_succ hk,e⟩
abbrev QD(m:Nat):Prop:=m=7\/m=31\/m=127
theorem zW(h:QD m):((List.range (m+1)).all λ j=>(VY (m+1) (m+1) 0).contains j)=true/\yg (m+1) (m+1) 0=0:=by
 rcases h with rfl|rfl|rfl
 ·exact⟨by decide+kernel,by decide+kernel⟩
 ·exact⟨by decide+kernel,by decide+kernel⟩
 ·exact⟨by decide+kernel,by decide+kernel⟩
theorem vW(h:QD m)(hj:j<=m):∃k,k < m+1/\yg (m+1) k 0=j:=by have:=y4.mp (zW h).1 j (mem_range.mpr (by lia));exact zV _ _ _ _ (by simpa using this)
theorem Kz(h:QD m)(hi:i<=m)(hj:j<=m):∃k,k < m+1/\yg (m+1) k i=j:=by
 obtain⟨a,ha,ea⟩:=vW h hi;obtain⟨b,hb,eb⟩:=vW h hj;by_cases z:a<=b
 ·refine⟨b - a,by lia,?_⟩;rw[<- ea,<- nU,show a+(b - a)=b by lia];exact eb
 ·refine⟨m+1 - a+b,by lia,?_⟩;rw[nU,<- ea,<- nU _ a (m+1 - a),show a+(m+1 - a)=m+1 by lia,(zW h).2];exact eb
def lp(mask:Nat):Nat->Nat×Nat->Nat×Nat
 |0,q=>q
 |k+1,q=>lp mask k (SetTable.leap mask q.1 q.2)
theorem FO(m:Nat):∀(a b:Nat) (q:Nat×Nat),lp m (a+b) q=lp m b (lp m a q)
 |0,b,i=>by rw[D3];rfl
 |a+1,b,i=>by rw[Nat.add_right_comm];exact FO m a b _
theorem LU:∀(k:Nat) (q:Nat×Nat),q.1<=m->(lp m k q).1<=m
 |0,_,h=>h
 |k+1,q,_=>LU k _ (Nat.le_of_lt_succ (Nat.mod_lt _ (Nat.succ_pos _)))
theorem FL:∀(k:Nat) (q:Nat×Nat),(lp m k q).2=q.2 / 32^k
 |0,q=>by rw[Nat.pow_zero,Nat.div_one];rfl
 |k+1,q=>by show(lp m k (SetTable.leap m q.1 q.2)).2=_;rw[FL k,Nat.pow_succ,Nat.mul_comm,<- Nat.div_div_eq_div_mul];rfl
theorem FN:∀(k i:Nat),lp m k (i,0)=(yg (m+1) k i,0)
 |0,_=>rfl
 |k+1,i=>by show lp m k ((i*5+1+0 / 32) % (m+1),0 / 32)=_;exact FN k _
theorem Em:i∈oV m i:=by unfold oV;have:=lQ m i;exact C8.mpr ⟨0,mem_range.mpr (by lia),rfl⟩
theorem Ba:∀(B k:Nat) (q:Nat×Nat),k < B->(lp m k q).1∈jZ m B q
 |0,k,q,h=>by lia
 |B+1,0,(i,pt),_=>k8 _ Em
 |B+1,k+1,(i,pt),h=>j7 _ (Ba B k _ (by lia))
theorem wM{pt:Nat}(h:QD m)(hi:i<=m)(hp:pt < 2^64)(hj:j<=m):j∈jZ m (m+15) (i,pt):=by
 have e:lp m 13 (i,pt)=((lp m 13 (i,pt)).1,0):=by refine Prod.ext rfl ?_;rw[FL];exact Nat.div_eq_of_lt (p7 hp (by decide))
 obtain⟨k,hk,ek⟩:=Kz h (LU 13 (i,pt) hi) hj;have e2:(lp m (13+k) (i,pt)).1=j:=by rw[FO,e,FN];exact ek
 rw[<- e2];exact Ba _ _ _ (by lia)
theorem Nc(hi:i<=m)(h:j∈oV m i):j<=m:=by unfold oV at h;obtain⟨k,hk,rfl⟩:=C8.mp h;rw[mem_range]at hk;unfold SetTable.runEnd at hk;split at hk <;> lia
theorem uf:∀(B:Nat) (q:Nat×Nat),q.1<=m->j∈jZ m B q->j<=m
 |0,_,_,h=>by cases h
 |B+1,(i,pt),hi,h=>by
  rcases A6.mp h with h|h
  ·exact Nc hi h
  ·exact uf B _ (Nat.le_of_lt_succ (Nat.mod_lt _ (Nat.succ_pos _))) h
theorem Bb(h:Int):SetTable.bits h < 2^64:=by unfold SetTable.bits;have:=A0 h (b:=2^64) (by decide);have:=p4 h (b:=2^64) (by decide);lia
theorem BI{l:List Nat}(h:l.length<=m):∃j,j<=m/\j∉l:=by
 refine Decidable.byContradiction λ z=>?_;have hs:List.range (m+1)⊆l:=λ j hj=>by refine Decidable.byContradiction λ n=>z ⟨j,?_,n⟩;have:=mem_range.mp hj;lia
 have:=List.Nodup.length_le_of_subset nodup_range hs;rw[u6]at this;lia
structure Tab0(t:SetTable)(n:Nat):Prop where
 dm:t.dummies=#[]
 UP:Bh t.place.toList
 sz:t.place.size=n
 le:∀j∈t.place.toList,j<=t.mask
 pl:t.plain=true
 XY:QD t.mask
theorem CK(T:Tab0 t n)(hn:n<=t.mask)(h:Int):∃j,j<=t.mask/\j∉t.place.toList/\t.freeSlot h=some (j,false):=by
 have hi:SetTable.bits h % (t.mask+1)<=t.mask:=Nat.le_of_lt_succ (Nat.mod_lt _ (Nat.succ_pos _));obtain⟨e,he,fN⟩:=BI (l:=t.place.toList) (m:=t.mask) (by rw[l9,T.sz];exact hn);have em:e∈jZ t.mask (t.mask+15) (SetTable.bits h % (t.mask+1),SetTable.bits h):=wM T.XY hi (Bb h) he;have rs:iQ t.mask (t.mask+14) (t.probeStart h)=jZ t.mask (t.mask+15) (SetTable.bits h % (t.mask+1),SetTable.bits h):=oW;obtain⟨pre,j,post,e1,e2,e3⟩:=GH T.dm T.UP (hashAt:=λ _=>h+1) (h:=h) (10*SetTable.turns t.mask) (t.mask+14) (t.probeStart h) (by rw[rs];exact wL _ _ _) rfl ⟨e,by rw[rs];exact em,fN⟩;have jm:j<=t.mask:=by refine uf (t.mask+15) (SetTable.bits h % (t.mask+1),SetTable.bits h) hi ?_;rw[<- rs,e1];exact j7 _ n9
 rcases e3 with⟨a,b⟩|⟨i,B',next,_,z,_⟩
 ·refine⟨j,jm,a,?_⟩;unfold SetTable.freeSlot SetTable.probe;rw[b];rfl
 ·exact absurd z (by show ¬h+1=h;lia)
theorem JD(T:Tab0 t n)(hj:j<=t.mask)(nj:j∉t.place.toList):Tab0 (t.put j).1 (n+1)/\(t.put j).1.mask=t.mask/\(t.put j).1.led=t.led:=by
 have hd:SetTable.has t.dummies j=false:=by rw[T.dm];simp[SetTable.has,SetTable.below]
 unfold SetTable.put;dsimp only;rw[hd];refine⟨⟨T.dm,Iy T.UP nj,?_,λ k hk=>?_,T.pl,T.XY⟩,rfl,rfl⟩
 ·have:=(SetTable.insertAt_perm t.place (SetTable.below t.place j) j).length_eq;rw[l9,l9,Array.size_push,T.sz]at this;exact this
 ·rcases Kl.mp hk with rfl|hk
  ·exact hj
  ·exact T.le k hk
theorem Tab0.fits(T:Tab0 t n)(hn:n<=t.mask):t.fits n=true:=by unfold SetTable.fits SetTable.fill;rw[T.sz,T.dm];simp[hn]
theorem Kq(T:Tab0 t n)(hn:n+1<=t.mask){es:Array (Int×jp)}(PJ:es.size=n)(h:Int)(x:jp):∃nX t1,layNew t es h x=(nX,t1,false,false)/\Tab0 t1 (n+1)/\t1.mask=t.mask/\t1.led=t.led/\nX.size=n+1:=by
 obtain⟨j,hj,nj,e⟩:=CK T (by lia) h;obtain⟨T1,m1,l1⟩:=JD T hj nj;have sz:(SetTable.insertAt es (t.put j).2 (h,x)).size=n+1:=by have:=(SetTable.insertAt_perm es (t.put j).2 (h,x)).length_eq;rw[l9,l9,Array.size_push,PJ]at this;exact this
 have hf:(t.put j).1.fits (n+1)=true:=T1.fits (by rw[m1];exact hn);refine⟨SetTable.insertAt es (t.put j).2 (h,x),(t.put j).1,?_,T1,m1,l1,sz⟩;unfold layNew;rw[e];dsimp only;rw[sz];unfold SetTable.orStandIn;rw[hf];rfl
theorem AE:∀(fuel i pt:Nat),(∃e∈jZ mask fuel (i,pt),(owner.getD e (some 0)).isNone=true)->
  ∃j∈jZ mask fuel (i,pt),(owner.getD j (some 0)).isNone=true/\SetTable.layClean.free mask owner fuel i pt=some j
 |0,i,pt,⟨e,he,_⟩=>by cases he
 |fuel+1,i,pt,⟨e,he,hn⟩=>by
  unfold SetTable.layClean.free;cases hf:(List.range (SetTable.runEnd mask i+1 - i)).find? λ k=>(owner.getD (i+k) (some 0)).isNone with
  |some k=>refine⟨i+k,k8 _ (C8.mpr ⟨k,mem_of_find?_eq_some hf,rfl⟩),(find?_some (p:=λ k=>(owner.getD (i+k) (some 0)).isNone) hf),rfl⟩
  |none=>
   rcases A6.mp he with he|he
   ·obtain⟨k,hk,rfl⟩:=C8.mp he;exact absurd hn (find?_eq_none.mp hf k hk)
   ·obtain⟨j,a,b,c⟩:=AE fuel (SetTable.leap mask i pt).1 (SetTable.leap mask i pt).2 ⟨e,he,hn⟩;exact⟨j,j7 _ a,b,c⟩
def m_(mask:Nat)(owner:Array (Option Nat)):List Nat:=(List.range (mask+1)).filterMap λ j=>owner.getD j none
theorem pO{f g:Nat->Option Nat}:∀(l:List Nat),(∀j∈l,f j=g j)->l.filterMap f=l.filterMap g
 |[],_=>rfl
 |a::l,h=>by rw[n6,n6,h a n9,pO l λ j hj=>h j (k5 _ hj)]
theorem GN{f:Nat->Option Nat}:∀(l:List Nat),(∀j∈l,f j≠none)->(l.filterMap f).length=l.length
 |[],_=>rfl
 |a::l,h=>by
  cases e:f a with
  |none=>exact absurd e (h a n9)
  |some b=>rw[filterMap_cons_some e,x3,x3,GN l λ j hj=>h j (k5 _ hj)]
theorem Fq(hs:owner.size=mask+1)(hp:(m_ mask owner).Perm (List.range k))(hk:k<=mask):∃j,j<=mask/\(owner.getD j (some 0)).isNone=true:=by
 refine Decidable.byContradiction λ z=>?_;have:=GN (f:=λ j=>owner.getD j none) (List.range (mask+1)) λ j hj e=>by
  have lt:=mem_range.mp hj;refine z ⟨j,by lia,?_⟩;have h1:j < owner.size:=by lia
  simp only[Array.getD,h1,dite_true]at e ⊢;rw[e];rfl
 have h2:(m_ mask owner).length=k:=by rw[hp.length_eq,u6]
 unfold m_ at h2;rw[u6]at this;lia
theorem JS(hs:owner.size=mask+1)(hp:(m_ mask owner).Perm (List.range k))(hj:j<=mask)(hn:(owner.getD j (some 0)).isNone=true): (owner.setIfInBounds j (some k)).size=mask+1/\(m_ mask (owner.setIfInBounds j (some k))).Perm (List.range (k+1)):=by
 refine⟨by rw[Array.size_setIfInBounds];exact hs,?_⟩;have h1:j < owner.size:=by lia
 have hnn:owner.getD j none=none:=by simp only[Array.getD,h1,dite_true]at hn ⊢;exact Option.isNone_iff_eq_none.mp hn
 obtain⟨l1,l2,e⟩:=append_of_mem (mem_range.mpr (show j < mask+1 by lia));have nd:(l1++j::l2).Nodup:=by rw[<- e];exact nodup_range
 have n1:j∉l1:=λ z=>by have:=(nodup_append.mp nd).2.2 j z j n9;exact this rfl
 have n2:j∉l2:=(nodup_cons.mp (nodup_append.mp nd).2.1).1;have eS:∀i,i≠j->(owner.setIfInBounds j (some k)).getD i none=owner.getD i none:=λ i hi=>by
  simp only[Array.getD,Array.size_setIfInBounds];by_cases h2:i < owner.size
  ·simp only[h2,dite_true];have:(owner.setIfInBounds j (some k))[i]?=owner[i]?:=by rw[Array.getElem?_setIfInBounds,J4 (J0 hi)]
   rw[c8 h2,c8 (by rw[Array.size_setIfInBounds];exact h2)]at this;exact A1 this
  ·simp only[h2,dite_false]
 have at':(owner.setIfInBounds j (some k)).getD j none=some k:=by
  simp only[Array.getD,Array.size_setIfInBounds,h1,dite_true];have:(owner.setIfInBounds j (some k))[j]?=some (some k):=by rw[Array.getElem?_setIfInBounds,J3 rfl,J3 h1]
  rw[c8 (by rw[Array.size_setIfInBounds];exact h1)]at this;exact A1 this
 unfold m_ at hp ⊢;rw[e,filterMap_append,filterMap_cons_none (f:=λ j=>owner.getD j none) hnn]at hp;rw[e,filterMap_append,filterMap_cons_some (f:=λ i=>(owner.setIfInBounds j (some k)).getD i none) at',pO l1 λ i hi=>eS i λ z=>n1 (z▸hi),pO l2 λ i hi=>eS i λ z=>n2 (z▸hi),range_succ];exact perm_middle.trans ((hp.cons k).trans (perm_append_singleton k (List.range k)).symm)
theorem Cr(M:QD mask)(hashes:Array Int)(hn:hashes.size<=mask+1):∃owner,SetTable.layClean mask hashes=some owner/\owner.size=mask+1/\(m_ mask owner).Perm (List.range hashes.size):=by
 have gen:∀(l:List Int) (owner:Array (Option Nat)) (k:Nat),owner.size=mask+1->(m_ mask owner).Perm (List.range k)->k+l.length<=mask+1->
   ∃xV,l.foldl (init:=some (owner,k)) (λ zn h=>do
    let(owner,k) <- zn
    let j <- SetTable.layClean.free mask owner (SetTable.turns mask) (SetTable.bits h % (mask+1)) (SetTable.bits h)
    pure (owner.setIfInBounds j (some k),k+1))=some (xV,k+l.length)/\xV.size=mask+1/\(m_ mask xV).Perm (List.range (k+l.length)):=by
  intro l
  induction l with
  |nil=>exact λ owner k h1 h2 _=>⟨owner,rfl,h1,h2⟩
  |cons h l ih=>
   intro owner k h1 h2 h3;rw[x3]at h3;have hi:SetTable.bits h % (mask+1)<=mask:=Nat.le_of_lt_succ (Nat.mod_lt _ (Nat.succ_pos _));obtain⟨e,he,fN⟩:=Fq h1 h2 (by lia);obtain⟨j,j1,j2,j3⟩:=AE (mask:=mask) (owner:=owner) (SetTable.turns mask) (SetTable.bits h % (mask+1)) (SetTable.bits h) ⟨e,wM M hi (Bb h) he,fN⟩;have jm:=uf (mask+15) (SetTable.bits h % (mask+1),SetTable.bits h) hi j1;obtain⟨h4,h5⟩:=JS h1 h2 jm j2;obtain⟨o',f1,f2,f3⟩:=ih _ (k+1) h4 h5 (by lia);refine⟨o',?_,f2,?_⟩
   ·rw[foldl_cons];have:(do let(owner,k) <- some (owner,k);let j <- SetTable.layClean.free mask owner (SetTable.turns mask) (SetTable.bits h % (mask+1)) (SetTable.bits h);pure (owner.setIfInBounds j (some k),k+1):Option (Array (Option Nat)×Nat))=some (owner.setIfInBounds j (some k),k+1):=by show(SetTable.layClean.free mask owner (SetTable.turns mask) (SetTable.bits h % (mask+1)) (SetTable.bits h)).bind _=_;rw[j3];rfl
    rw[this,f1,x3,Nat.add_right_comm,Nat.add_assoc]
   ·rw[x3,show k+(l.length+1)=k+1+l.length by lia];exact f3
 have e0:(m_ mask (Array.replicate (mask+1) none)).Perm (List.range 0):=by
  have:m_ mask (Array.replicate (mask+1) none)=[]:=by unfold m_;rw[filterMap_eq_nil_iff];intro j _;rw[Array.getD_eq_getD_getElem?,Array.getElem?_replicate];split <;> rfl
  rw[this];exact List.Perm.refl _
 obtain⟨o',f1,f2,f3⟩:=gen hashes.toList _ 0 (by simp) e0 (by rw[l9];lia);refine⟨o',?_,f2,by rw[l9,D3]at f3;exact f3⟩;unfold SetTable.layClean;rw[<- Array.foldl_toList,f1];rfl
theorem pC(f:Nat->Option Nat):∀l:List Nat,((l.filterMap λ j=>(f j).map (j,·)).map (·.1)).Sublist l
 |[]=>.slnil
 |a::l=>by
  cases e:f a with
  |none=>rw[filterMap_cons_none (by rw[e];rfl)];exact(pC f l).cons a
  |some b=>rw[filterMap_cons_some (b:=(a,b)) (by rw[e];rfl),C3];exact(pC f l).cons₂ a
theorem pB(f:Nat->Option Nat):∀l:List Nat,(l.filterMap λ j=>(f j).map (j,·)).map (·.2)=l.filterMap f
 |[]=>rfl
 |a::l=>by
  cases e:f a with
  |none=>rw[filterMap_cons_none (by rw[e];rfl),filterMap_cons_none e];exact pB f l
  |some b=>rw[filterMap_cons_some (b:=(a,b)) (by rw[e];rfl),C3,filterMap_cons_some e,pB f l]
theorem rm{es:Array (Int×jp)}{wanted:Nat}(pl:t.plain=true)(e:SetTable.sizeAbove wanted=m+1)(M:QD m)(hn:es.size<=m):∃Dq t2,relayAll t es wanted=(Dq,t2,false)/\Tab0 t2 es.size/\t2.mask=m/\t2.led=t.led/\Dq.size=es.size:=by
 obtain⟨owner,o1,o2,o3⟩:=Cr M (es.map (·.1)) (by rw[Array.size_map];lia);rw[Array.size_map]at o3;have sl:=pC (λ j=>owner.getD j none) (List.range (m+1));have sn:=pB (λ j=>owner.getD j none) (List.range (m+1));generalize hl:((List.range (m+1)).filterMap λ j=>(owner.getD j none).map (j,·))=live at sl sn;have hp:(live.map (·.2)).Perm (List.range es.size):=by rw[sn];exact o3
 have len:live.length=es.size:=by rw[<- A5 (f:=(·.2)),hp.length_eq,u6]
 have er:t.relaid (es.map (·.1)) wanted=some ({mask:=m,place:=(live.map (·.1)).toArray,dummies:=#[],finger:=t.finger,led:=t.led,moves:=t.movedTo m,plain:=t.plain},(live.map (·.2)).toArray):=by unfold SetTable.relaid SetTable.laid;rw[e,Nat.add_sub_cancel,o1];show some (_,_)=_;rw[hl]
 have T:Tab0 {mask:=m,place:=(live.map (·.1)).toArray,dummies:=#[],finger:=t.finger,led:=t.led,moves:=t.movedTo m,plain:=t.plain} es.size:=by
  refine⟨rfl,?_,?_,λ j hj=>?_,pl,M⟩
  ·exact List.Pairwise.sublist sl (pairwise_lt_range)
  ·show(live.map (·.1)).toArray.size=_;rw[u9,A5,len]
  ·have:=mem_range.mp (sl.subset hj);show j<=m;lia
 have pm:=relayAll_perm t es wanted;have ca:coversAll (live.map (·.2)).toArray es.size=true:=by unfold coversAll;exact isPerm_iff.mpr hp
 have sz:((live.map (·.2)).toArray.filterMap (es[·]?)).size=es.size:=by
  rw[<- l9,Array.toList_filterMap];have:((live.map (·.2)).filterMap (es[·]?)).Perm ((List.range es.size).filterMap (es[·]?)):=hp.filterMap _;rw[this.length_eq];have h2:∀l:List Nat,(∀j∈l,j < es.size)->(l.filterMap (es[·]?)).length=l.length:=by
   intro l
   induction l with
   |nil=>exact λ _=>rfl
   |cons a l ih=>intro h;rw[filterMap_cons_some (c8 (h a n9)),x3,x3,ih λ j hj=>h j (k5 _ hj)]
  rw[h2 _ λ j hj=>mem_range.mp hj,u6]
 refine⟨(live.map (·.2)).toArray.filterMap (es[·]?),_,?_,T,rfl,rfl,sz⟩;unfold relayAll;rw[er];dsimp only;rw[ca,sz,T.fits hn];rfl
structure Tab(t:SetTable)(n:Nat):Prop extends Tab0 t n where
 Vh:(t.mask=7/\n<=4)\/(t.mask=31/\n<=18)\/(t.mask=127/\n<=76)
theorem Tab.fit(T:Tab t n):t.fits n=true:=T.fits (by have:=T.Vh;lia)
theorem q_(f m:Nat)(led:Bool):Tab (.fresh f m led) 0:=⟨⟨rfl,List.Pairwise.nil,rfl,λ j h=>(by cases h),rfl,.inl rfl⟩,.inl ⟨rfl,G1 _⟩⟩
theorem mK(T:Tab0 t n):t.tooFull=decide (n*5 ≥ t.mask*3):=by unfold SetTable.tooFull SetTable.fill;rw[T.dm,T.sz];rfl
theorem Lk(T:Tab t n)(hn:n < 76){es:Array (Int×jp)}(PJ:es.size=n)(h:Int)(x:jp):∃nX t1,layNew t es h x=(nX,t1,false,false)/\t1.plain=true/\t1.led=t.led/\nX.size=n+1/\t1.fits nX.size=true/\
   (t1.tooFull=true->∃Dq t2,relayAll t1 nX (SetTable.grown nX.size)=(Dq,t2,false)/\t2.led=t.led/\Dq.size=n+1/\Tab t2 (n+1))/\(t1.tooFull=false->Tab t1 (n+1)):=by
 obtain⟨nX,t1,e1,T1,m1,l1,s1⟩:=Kq T.toTab0 (by have:=T.Vh;lia) PJ h x;have Vh:=T.Vh;refine⟨nX,t1,e1,T1.pl,l1,s1,by rw[s1];exact T1.fits (by rw[m1];lia),λ tf=>?_,λ tf=>⟨T1,?_⟩⟩
 ·rw[mK T1,decide_eq_true_eq,m1]at tf;have two:(n=4/\t.mask=7)\/(n=18/\t.mask=31):=by lia
  rcases two with⟨rfl,mm⟩|⟨rfl,mm⟩
  ·obtain⟨Dq,t2,f1,f2,f3,f4,f5⟩:=rm (t:=t1) (es:=nX) (wanted:=SetTable.grown nX.size) (m:=31) T1.pl (by rw[s1];decide+kernel) (.inr (.inl rfl)) (by lia);rw[s1]at f2;exact⟨Dq,t2,f1,f4.trans l1,f5.trans s1,f2,.inr (.inl ⟨f3,by lia⟩)⟩
  ·obtain⟨Dq,t2,f1,f2,f3,f4,f5⟩:=rm (t:=t1) (es:=nX) (wanted:=SetTable.grown nX.size) (m:=127) T1.pl (by rw[s1];decide+kernel) (.inr (.inr rfl)) (by lia);rw[s1]at f2;exact⟨Dq,t2,f1,f4.trans l1,f5.trans s1,f2,.inr (.inr ⟨f3,by lia⟩)⟩
 ·rw[mK T1,decide_eq_false_iff_not,m1]at tf;rw[m1];lia
open PySem.Spec PyProof.Rows
def SH:jp->Int
 | .int k _=>k
 |_=>0
def wY(es:Array (Int×jp)):List Int:=es.toList.map λ e=>SH e.2
abbrev Dj(es:Array (Int×jp)):Prop:=∀e∈es.toList,∃(k:Int) (tk:Tok),e=(hashInt k,Value.int k tk)
abbrev iK(es:Array (Int×jp))(ep:Nat)(t:SetTable):Obj:={cls:=.type "set",dict:=none,data:=.set es ep t}
def nE(h:Heap)(a:ww)(led:Bool)(ks:List Int):Prop:=∃es ep t,h.get? a=some (iK es ep t)/\Dj es/\wY es=ks/\Tab t es.size/\t.led=led
theorem nE.at{h:Heap}{led:Bool}{ks:List Int}(S:nE h a led ks)(k:∀o,h.get? a=some o->h'.get? a=some o):nE h' a led ks:=
 let⟨es,ep,t,e,r⟩:=S
 ⟨es,ep,t,k _ e,r⟩
theorem Dj.elems{es:Array (Int×jp)}(h:Dj es):ElemsOf (intKind prog w) es.toList:=λ e he=>by obtain⟨k,tk,rfl⟩:=h e he;exact⟨⟨k,intKind_is _ _ _ _,rfl⟩,rfl⟩
theorem kys_len(es:Array (Int×jp)):(wY es).length=es.size:=by unfold wY;rw[A5,l9]
theorem Ku{es:Array (Int×jp)}(h:Dj es){k:Int}{e:Int×jp}(he:e∈es.toList)(hk:(intKind prog w).is k e.2=true):k∈wY es:=by obtain⟨k',tk,rfl⟩:=h e he;have:=(intKind prog w).inj _ k k' hk (intKind_is _ _ _ _);subst this;exact C8.mpr ⟨_,he,rfl⟩
theorem Km{es:Array (Int×jp)}(h:Dj es){k:Int}(hk:k∈wY es):∃e∈es.toList,(intKind prog w).is k e.2=true:=by obtain⟨e,he,ek⟩:=C8.mp hk;obtain⟨k',tk,rfl⟩:=h e he;have:k'=k:=ek;subst this;exact⟨_,he,intKind_is _ _ _ _⟩
theorem uT{h:Heap}{es es':Array (Int×jp)}{t':SetTable}(ho:h.get? a=some (iK es ep t)):(h.update a (Obj.putSet es' t')).get? a=some (iK es' (ep+1) t'):=by have:=j6 (Obj.putSet es' t') ho (by rw[putSet_of es' t' rfl];rfl);rw[putSet_of es' t' rfl]at this;exact this
theorem yV{led:Bool}{ks:List Int}{k:Int}{tk:Tok}{Q:Bool->kt->Prop}(S:nE s.heap a led ks)(cY:ks.length < 76) (h:∀(b:Bool) (h':Heap) (FT:List Int),Heap.SameBut a s.heap h'->nE h' a led FT->FT.Perm (if k∈ks then ks else k::ks)->Q b {s with heap:=h'}):wpAny (model prog w) A (setAddHashed a (.int k tk) (hashInt k)) Q E s:=by
 obtain⟨es,ep,t,ho,he,hk,T,hl⟩:=S;subst hk;rw[kys_len]at cY;have hb:es.size < scanBound:=Nat.lt_trans cY (by decide);unfold setAddHashed setAddHashedIn;refine B7 (G4 (wpAny_setState_of ho rfl T.fit ?_));dsimp only;rw[byScan_of (knd:=intKind prog w) (x:=.int k tk) rfl hb he.elems,J3 rfl];unfold setAddByScan;refine G4 (G4 (G6 (G4 (wpAny_setScan_of (knd:=intKind prog w) (k:=k) (intKind_is _ _ _ _) ho rfl T.fit he.elems ?_))));cases hr:List.findIdx? (λ e=>(intKind prog w).is k e.2) es.toList with
 |some j=>dsimp only;obtain⟨hj,hpj,_⟩:=findIdx?_eq_some_iff_getElem.mp hr;have hm:k∈wY es:=Ku he (x9 hj) hpj;refine G5 (G5 ?_);have:=h false s.heap (wY es) (Heap.SameBut.refl a s.heap) ⟨es,ep,t,ho,he,rfl,T,hl⟩ (by rw[J3 hm]);exact this
 |none=>
  dsimp only;have hm:k∉wY es:=λ z=>by obtain⟨e,h1,h2⟩:=Km (prog:=prog) (w:=w) he z;have:=findIdx?_eq_none_iff.mp hr e h1;rw[h2]at this;cases this
  obtain⟨nX,t1,e1,p1,l1,s1,f1,c1,c2⟩:=Lk T cY rfl (hashInt k) (.int k tk);have pm:=layNew_perm t es (hashInt k) (.int k tk);rw[e1,Array.toList_push]at pm;rw[e1];dsimp only at pm ⊢;have Tq:Dj nX:=λ e z=>by
   rcases A6.mp (pm.mem_iff.mp z)with z|z
   ·exact he e z
   ·rw[p8.mp z];exact⟨k,tk,rfl⟩
  have pk:(wY nX).Perm (k::wY es):=by have:=pm.map λ e:Int×jp=>SH e.2;rw[A7]at this;exact this.trans (perm_append_singleton k _)
  have VI:nX.size<=sizeLine:=by rw[G0];lia
  refine G4 (G5 ?_);rw[p1,J3 rfl];refine G4 (G5 ?_);have tt:(if True then t1 else{t1 with plain:=false})=t1:=J3 trivial;rw[J3 (by rfl)];refine G4 (wpAny_storeSet_of ho rfl ?_ VI);have o1:=uT (es':=nX) (t':=t1) ho;have b1:=l5 s.heap a (Obj.putSet nX t1);cases tf:t1.tooFull with
  |true=>rw[J3 (by rfl)];obtain⟨Dq,t2,e2,l2,s2,T2⟩:=c1 tf;have US:=relayAll_perm t1 nX (SetTable.grown nX.size);rw[e2]at US;rw[e2];dsimp only at US ⊢;refine G4 (G5 ?_);refine G4 (wpAny_storeSet_of o1 rfl ?_ (by rw[s2,G0];lia));refine G5 (G5 (h true _ (wY Dq) (b1.trans (l5 _ a _)) ⟨Dq,ep+1+1,t2,uT o1,λ e z=>Tq e (US.mem_iff.mp z),rfl,by rw[s2];exact T2,l2.trans hl⟩ ?_));rw[J4 hm];exact(US.map _).trans pk
  |false=>rw[J4 (by decide)];refine G5 (G5 (h true _ (wY nX) b1 ⟨nX,ep+1,t1,o1,Tq,rfl,by rw[s1];exact c2 tf,l1.trans hl⟩ ?_));rw[J4 hm];exact pk
open PySem.Spec PyProof.Rows
def Once(ks ns:List Int):Prop:=ks.Nodup/\∀k,k∈ks↔k∈ns
theorem Once.step{ks FT:List Int}{k:Int}(o:Once ks ns)(p:FT.Perm (if k∈ks then ks else k::ks)):Once FT (ns++[k]):=by
 by_cases h:k∈ks
 ·rw[J3 h]at p;refine⟨p.nodup_iff.mpr o.1,λ x=>?_⟩;rw[p.mem_iff,o.2,A6,p8];exact⟨.inl,λ z=>z.elim id λ z=>by subst z;exact(o.2 _).mp h⟩
 ·rw[J4 h]at p;refine⟨p.nodup_iff.mpr (nodup_cons.mpr ⟨h,o.1⟩),λ x=>?_⟩;rw[p.mem_iff,C4,o.2,A6,p8];exact⟨λ z=>z.symm,λ z=>z.symm⟩
theorem Once.cY{ks:List Int}(o:Once ks ns):ks.length<=ns.length:=List.Nodup.length_le_of_subset o.1 λ k h=>(o.2 k).mp h
section
variable {I:ww}{wr:List ww}{G:Array GenState->Array GenState->Prop}{P:Nat->jp->Prop}{St:Nat->kt->Prop}
theorem uO{R:Result->kt->Prop}(W:WalksS prog w A.in1 I fp wr G ns.length P St)(S:ww)(hS:S∉fp)(led:Bool) (val:∀i v,P i v->∃(k:Int) (t:Tok),ns[i]?=some k/\v=.int k t) (cY:ns.length<=76):∀(m i:Nat) (s:kt) (ks:List Int),m+i=ns.length->St i s->nE s.heap S led ks->Once ks (ns.take i)-> (∀s' FT,Moved (S::wr) G s s'->nE s'.heap S led FT->Once FT ns->R (.ok (.ret .none)) s')->
  codeAny (model prog w) A (.builtin "set.update.loop" ⟨[.ref S,.ref I],[]⟩) R s:=by
 have hw:S∉wr:=λ z=>hS (W.sub _ z);have sub:∀b∈wr,b∈S::wr:=λ b z=>k5 _ z;intro m
 induction m with
 |zero=>
  intro i s ks e st hZ ho hR;have e:i=ns.length:=by lia
  subst e;refine A4 F.entry_set_update_loop ?_;rw[k9 F.plain_set_update_loop _];show wpAny _ A.in1 (pyNext (.ref I) >>= _) _ _ s;refine G4 (W.done s _ _ st λ s' mv=>?_);rw[x4]at ho;exact G5 (hR s' ks (mv.mono sub) (hZ.at λ o z=>mv.heap S o hw z) ho)
 |succ m ih=>
  intro i s ks e st hZ ho hR;refine A4 F.entry_set_update_loop ?_;rw[k9 F.plain_set_update_loop _];show wpAny _ A.in1 (pyNext (.ref I) >>= _) _ _ s;refine G4 (W.item i s _ _ (by lia) st λ v s' hP xr mv=>?_);obtain⟨k,t,hk,rfl⟩:=val i v hP;have hZ':nE s'.heap S led ks:=hZ.at λ o z=>mv.heap S o hw z;have lk:ks.length < 76:=by have:=ho.cY;rw[x8]at this;lia
  show wpAny _ A.in1 (holding [Value.int k t] (setAdd S (.int k t)) >>= _) _ _ s';refine G4 (B7 ?_);unfold setAdd;refine B7 (G4 ((intKind prog w).pyHash (k:=k) (intKind_is _ _ _ _) ?_));refine yV (s:={s' with toks:=s'.toks+1}) hZ' lk λ b h' FT sb U_ pm=>?_;have Q1:Once FT (ns.take (i+1)):=by rw[take_add_one,hk];exact ho.step pm
  refine G5 ⟨plainId_quiet F.plain_set_update_loop _,ih (i+1) _ FT (by lia) (W.frame _ s' _ _ xr (Nat.le_succ _) λ b hb o z=>?_) U_ Q1 λ s2 ZC Zx hZ3 ho3=>?_⟩
  ·rw[sb.2 b λ z2:b=S=>hS (by rw[<- z2];exact hb)];exact z
  ·refine hR s2 ZC (Moved.trans W.gtrans ((mv.mono sub).then_heap (Nat.le_succ _) λ b o hb z=>?_) Zx) hZ3 ho3;rw[sb.2 b λ z2:b=S=>hb (by rw[z2];exact n9)];exact z
end
def r_(w:World):Bool:=w.params.followText "set-order"
abbrev cR(w:World):Obj:=iK #[] 0 (.fresh 0 0 (!r_ w))
theorem z_(a:jp)(h:Q (.ref s.heap.objs.size) {s with heap:=s.heap.push (cR w)}):codeAny (model prog w) A (.call (.builtin "set.__new__") ⟨[.type "set",a],[]⟩) (wants Q E) s:=by
 refine codeAny_of_tree ?_;show wpAny _ A.in1 (checkBuiltinCall "set.__new__" ⟨[.type "set",a],[]⟩ >>= λ _=>again (.builtin "set.__new__" ⟨[.type "set",a],[]⟩)) _ _ s;refine G4 (wpAny_of_eq (F.newCall_set_1 a) (G5 ⟨plainId_quiet F.plain_set_new _,A4 F.entry_set_new ?_⟩));rw[k9 F.plain_set_new _];unfold Builtin.«set.__new__» Builtin.Frozenset.newClass;have Gn:=sub_set_self;obtain⟨hp,g,d,tk,os⟩:=s;dsimp only
 wp_walk
 refine wpAny_askSetting (G5 ?_);dsimp only;simp only[newObj];refine G4 (wpAny_alloc (G5 ?_));exact G5 h
theorem p_{T newId yk:String}{Bi:Builtin}{args:List jp}{Q Q₁:jp->kt->Prop}(ft:TypeCalled T newId yk)(hct:checkTypeCall T ⟨args,[]⟩=pure ())(Qf:entryFor table yk=some Bi) (Gw:codeAny (model prog w) A.in1 (.call (.builtin newId) ⟨.type T::args,[]⟩) (wants Q₁ E) s) (S0:∀obj s₁,Q₁ obj s₁->s₁.TypeIs obj T/\wpAny (model prog w) A.in1.in1 (checkBuiltinCall yk ⟨obj::args,[]⟩) (λ _ s₁=>wpAny (model prog w) A.in1.in1 (Bi ⟨obj::args,[]⟩)
    (λ fin s'=>match fin with| .done f=>wants (λ r s₂=>r=.none/\Q obj s₂) E (.ok f) s'| .again c'=>c'.quiet=true/\codeAny (model prog w) A.in1 c' (wants (λ r s₂=>r=.none/\Q obj s₂) E) s')
    (λ e s'=>wants (λ r s₂=>r=.none/\Q obj s₂) E (.error e) s') s₁) (λ e s'=>wants (λ r s₂=>r=.none/\Q obj s₂) E (.error e) s') s₁):
  wpAny (model prog w) A (call (.type T) args) Q E s:=by
 obtain⟨c,tl,aah⟩:=ft.mro;have Yi:=ft.made;have Gn:=ft.sub;refine wpAny_call (codeAny_of_tree ?_);show wpAny _ _ (callAny (.type T) _) _ _ _;refine G5 ⟨Code.quiet_builtin _ (by decide+kernel),A4 F.entry_type_call ?_⟩;rw[Around.under_plain (weight_type_call_type T args []) rfl];have h1:=ft.notType;have h2:=ft.canCreate
 repeat(any_goals (first|assumption|wp_step))
 refine D6 Gw λ r s₁ hr=>?_;cases r with
 |error e=>exact hr
 |ok fl=>
  cases fl with
  |ret obj=>
   obtain⟨hT,bt⟩:=S0 _ _ hr;have hli:=ft.init.lookup;have hbi:=ft.init.bind obj
   repeat(any_goals (first|assumption|wp_step))
   refine D6 (codeAny_call_builtin ft.init.plain Qf bt) λ r₂ s₂ Wt=>?_;cases r₂ with
   |error e=>exact Wt
   |ok fl=>
    cases fl with
    |ret r=>
     obtain⟨rfl,hq⟩:=Wt
     repeat(any_goals (first|assumption|wp_step))
    |_=>exact Wt.elim
  |_=>exact hr.elim
theorem CY{l:ww}{ad:Array jp}(hh:A.handled=none)(hl:s.heap.IsList l ad)(hi:IntsAre ad.toList ns)(cY:ns.length<=76) (h:∀(h':Heap) (tk:Nat) (ks:List Int),nE h' s.heap.objs.size (!r_ w) ks->Once ks ns->(∀b o,s.heap.get? b=some o->h'.get? b=some o)->Q (.ref s.heap.objs.size) {s with heap:=h',toks:=tk}):wpAny (model prog w) A (call (.type "set") [.ref l]) Q E s:=by
 refine p_ (Q₁:=λ obj s₁=>obj=.ref s.heap.objs.size/\s₁={s with heap:=s.heap.push (cR w)}) F.called_set (F.typeCall_set_1 _) F.entry_set_init (z_ _ ⟨rfl,rfl⟩) λ obj s₁ h₁=>?_;obtain⟨rfl,rfl⟩:=h₁;have hS:(s.heap.push (cR w)).get? s.heap.objs.size=some (cR w):=m8 _ rfl;have len:ad.size=ns.length:=by rw[<- l9];exact IntsAre.length hi
 obtain⟨ol,KJ,rP,nl,KS⟩:=hl;obtain⟨V0,So,Ss,Oy⟩:=ol;simp only at rP KS;subst rP;subst KS;have PC:=j0 (cR w) KJ;have S6:l < s.heap.objs.size:=C7 KJ;have Wq:=F.sub_list_set;have Wr:=F.sub_list_frozenset;have fN:(Value.type "list"==Value.type "dict")=false:=by decide
 have L8:(s.heap.push (cR w)).IsList l ad:=⟨_,PC,rfl,nl,rfl⟩;have hT:Shared.TypeIs {s with heap:=s.heap.push (cR w)} (.ref s.heap.objs.size) "set":=⟨_,hS,rfl⟩;refine⟨hT,check_set_init_1 hT ?_⟩;unfold Builtin.«set.__init__» noKeywords Builtin.Frozenset.updateFrom;generalize Xc:pyIter=PI
 wp_walk
 subst Xc;refine wpAny_pyIter_list L8 (G4 (wpAny_runValue ?_));have ne1:l≠(s.heap.push (cR w)).objs.size:=by rw[B5];exact C6 (w5 S6)
 have nf:s.heap.objs.size∉[(s.heap.push (cR w)).objs.size,l]:=by rw[B5];simp only[C4,not_mem_nil,or_false,not_or];exact⟨C6 (Nat.lt_succ_self _),D7 S6⟩
 have W:=(Walks.list (prog:=prog) (w:=w) (A:=A.in1.in1.in1) (by simpa using hh) (s.heap.push (cR w)).objs.size l ne1 ad).toS;rw[len]at W;refine uO W s.heap.objs.size nf (!r_ w) (λ i v hv=>?_) cY ns.length 0 _ [] (by lia) ⟨⟨_,m8 _ rfl,rfl,rfl⟩,L8.push _⟩ ⟨#[],0,_,j0 _ hS,λ e z=>(by cases z),rfl,q_ 0 0 _,rfl⟩ ⟨nodup_nil,λ k=>by simp⟩ λ s' ks mv hZ ho=>?_
 ·obtain⟨t,e⟩:=IntsAre.int_at hi i v (by rw[j9];exact hv);have lt:i < ns.length:=by rw[<- len];exact(Array.getElem?_eq_some_iff.mp hv).1
  exact⟨ns[i],t,i0 lt,by rw[e,c6,i0 lt];rfl⟩
 ·obtain⟨h',g',d',MD,Sf⟩:=s';have eg:g'=s.gens:=mv.gens;have ed:d'=s.drawn:=mv.drawn;have eo:Sf=s.os:=mv.os;subst eg;subst ed;subst eo;refine G5 (G5 ⟨rfl,h h' MD ks hZ ho λ b o z=>?_⟩);have lt:=C7 z;refine mv.heap b o ?_ (j0 _ (j0 _ z));rw[B5];simp only[C4,not_mem_nil,or_false,not_or];exact⟨C6 lt,C6 (w5 lt)⟩
theorem sub_tuple_set:isSubtype (.type "tuple") (.type "set")=pure false:=by rw[isSubtype_type];kernel_rfl
theorem sub_tuple_frozenset:isSubtype (.type "tuple") (.type "frozenset")=pure false:=by rw[isSubtype_type];kernel_rfl
theorem CW{l:ww}{ad:Array jp}(hh:A.handled=none)(hl:s.heap.IsTuple l ad)(hi:IntsAre ad.toList ns)(cY:ns.length<=76) (h:∀(h':Heap) (tk:Nat) (ks:List Int),nE h' s.heap.objs.size (!r_ w) ks->Once ks ns->(∀b o,s.heap.get? b=some o->h'.get? b=some o)->Q (.ref s.heap.objs.size) {s with heap:=h',toks:=tk}):wpAny (model prog w) A (call (.type "set") [.ref l]) Q E s:=by
 refine p_ (Q₁:=λ obj s₁=>obj=.ref s.heap.objs.size/\s₁={s with heap:=s.heap.push (cR w)}) F.called_set (F.typeCall_set_1 _) F.entry_set_init (z_ _ ⟨rfl,rfl⟩) λ obj s₁ h₁=>?_;obtain⟨rfl,rfl⟩:=h₁;have hS:(s.heap.push (cR w)).get? s.heap.objs.size=some (cR w):=m8 _ rfl;have len:ad.size=ns.length:=by rw[<- l9];exact IntsAre.length hi
 obtain⟨ol,KJ,rP,nl,KS⟩:=hl;obtain⟨V0,So,Ss,Oy⟩:=ol;simp only at rP KS;subst rP;subst KS;have PC:=j0 (cR w) KJ;have S6:l < s.heap.objs.size:=C7 KJ;have Wq:=sub_tuple_set;have Wr:=sub_tuple_frozenset;have fN:(Value.type "tuple"==Value.type "dict")=false:=by decide
 have L8:(s.heap.push (cR w)).IsTuple l ad:=⟨_,PC,rfl,nl,rfl⟩;have hT:Shared.TypeIs {s with heap:=s.heap.push (cR w)} (.ref s.heap.objs.size) "set":=⟨_,hS,rfl⟩;refine⟨hT,check_set_init_1 hT ?_⟩;unfold Builtin.«set.__init__» noKeywords Builtin.Frozenset.updateFrom;generalize Xc:pyIter=PI
 wp_walk
 subst Xc;refine wpAny_pyIter_tuple L8 (G4 (wpAny_runValue ?_));have ne1:l≠(s.heap.push (cR w)).objs.size:=by rw[B5];exact C6 (w5 S6)
 have nf:s.heap.objs.size∉[(s.heap.push (cR w)).objs.size,l]:=by rw[B5];simp only[C4,not_mem_nil,or_false,not_or];exact⟨C6 (Nat.lt_succ_self _),D7 S6⟩
 have W:=(Walks.tuple (prog:=prog) (w:=w) (A:=A.in1.in1.in1) (by simpa using hh) (s.heap.push (cR w)).objs.size l ne1 ad).toS;rw[len]at W;refine uO W s.heap.objs.size nf (!r_ w) (λ i v hv=>?_) cY ns.length 0 _ [] (by lia) ⟨⟨_,m8 _ rfl,rfl,rfl⟩,L8.push _⟩ ⟨#[],0,_,j0 _ hS,λ e z=>(by cases z),rfl,q_ 0 0 _,rfl⟩ ⟨nodup_nil,λ k=>by simp⟩ λ s' ks mv hZ ho=>?_
 ·obtain⟨t,e⟩:=IntsAre.int_at hi i v (by rw[j9];exact hv);have lt:i < ns.length:=by rw[<- len];exact(Array.getElem?_eq_some_iff.mp hv).1
  exact⟨ns[i],t,i0 lt,by rw[e,c6,i0 lt];rfl⟩
 ·obtain⟨h',g',d',MD,Sf⟩:=s';have eg:g'=s.gens:=mv.gens;have ed:d'=s.drawn:=mv.drawn;have eo:Sf=s.os:=mv.os;subst eg;subst ed;subst eo;refine G5 (G5 ⟨rfl,h h' MD ks hZ ho λ b o z=>?_⟩);have lt:=C7 z;refine mv.heap b o ?_ (j0 _ (j0 _ z));rw[B5];simp only[C4,not_mem_nil,or_false,not_or];exact⟨C6 lt,C6 (w5 lt)⟩
open PySem.Spec PySem.W PySem.Calls PyProof.Rows
theorem zR(next:Nat->Nat):∀(fuel k:Nat) (left:List α) (out:Array α),left.length=fuel->(pickOrder.go next fuel k left out).toList.Perm (out.toList++left)
 |0,k,left,out,h=>by rw[i7.mp h,y7];exact List.Perm.refl _
 |fuel+1,k,left,out,h=>by
  unfold pickOrder.go;have lt:next k % left.length < left.length:=Nat.mod_lt _ (by lia)
  rw[i0 lt];dsimp only;refine(zR next fuel (k+1) _ _ (by rw[length_eraseIdx_of_lt lt];lia)).trans ?_;rw[Array.toList_push,append_assoc];refine List.Perm.append_left _ ?_;rw[singleton_append];have e:=take_append_drop (next k % left.length) left;rw[drop_eq_getElem_cons lt]at e;rw[eraseIdx_eq_take_drop_succ];generalize left[next k % left.length]=x at*
  conv=>rhs;rw[<- e]
  exact perm_middle.symm
theorem B_(next:Nat->Nat)(xs:Array α):(pickOrder next xs).toList.Perm xs.toList:=zR next xs.size 0 xs.toList #[] (l9)
def ie(w:World)(a:ww)(ep:Nat)(es:Array (Int×jp)):Array (Int×jp):=if r_ w then pickOrder (w.params.setOrder a ep) es else es
theorem ou(w:World)(a:ww)(ep:Nat)(es:Array (Int×jp)):(ie w a ep es).toList.Perm es.toList:=by
 unfold ie;split
 ·exact B_ _ _
 ·exact List.Perm.refl _
theorem oq(w:World)(a:ww)(ep:Nat)(es:Array (Int×jp)):(ie w a ep es).size=es.size:=by
 have:=(ou w a ep es).length_eq
 rwa [l9,l9]at this
theorem oO:entryFor table "set.__iter__"=some Builtin.«frozenset.__iter__»:=entryFor_alias (id':="frozenset.__iter__") (by kernel_rfl) rfl (by decide+kernel) (by kernel_rfl)
theorem dj:Slot "set_iterator" "__next__" "set_iterator.__next__":=
 .of (owner:="set_iterator") (n:="__next__") (by rw[typeLookup_type,builtinLookup_eq_fast];kernel_rfl) (by decide+kernel) (by decide+kernel) (by decide+kernel)
  (by first|exact .inl (by decide+kernel)|exact .inr (by decide+kernel)) (by rw[isSubtype_type];kernel_rfl)
theorem kB:Slot "set_iterator" "__iter__" "set_iterator.__iter__":=
 .of (owner:="set_iterator") (n:="__iter__") (by rw[typeLookup_type,builtinLookup_eq_fast];kernel_rfl) (by decide+kernel) (by decide+kernel) (by decide+kernel)
  (by first|exact .inl (by decide+kernel)|exact .inr (by decide+kernel)) (by rw[isSubtype_type];kernel_rfl)
theorem jJ:entryFor table "set_iterator.__next__"=some Builtin.«set_iterator.__next__»:=entryFor_of_tree (by kernel_rfl)
theorem qx:entryFor table "set_iterator.__iter__"=some Builtin.«dict_keyiterator.__iter__»:=entryFor_alias (id':="dict_keyiterator.__iter__") (by kernel_rfl) rfl (by decide+kernel) (by kernel_rfl)
theorem uY:Manifest.owners.lookup (String.ofList ['r','o','t','a','r','e','t','i','_','t','e','s'].reverse)=some Manifest.sig_set_iterator:=by kernel_rfl
theorem kC(a:jp):argsOk "set_iterator.__next__" ⟨[a],[]⟩:=by unfold argsOk;rw[signature?_of (id:="set_iterator.__next__") (n:=['_','_','t','x','e','n','_','_']) (o:=['r','o','t','a','r','e','t','i','_','t','e','s']) (by kernel_rfl) uY];kernel_rfl
theorem sN(a:jp):argsOk "set_iterator.__iter__" ⟨[a],[]⟩:=by unfold argsOk;rw[signature?_of (id:="set_iterator.__iter__") (n:=['_','_','r','e','t','i','_','_']) (o:=['r','o','t','a','r','e','t','i','_','t','e','s']) (by kernel_rfl) uY];kernel_rfl
abbrev XR(sl i:Nat)(a:ww)(n ep:Nat):Obj:={cls:=.type "set_iterator",data:=.fields #[.int sl 0,.int i 0,.ref a,.int n 0,.int ep 0]}
section
variable {I:ww}{es:Array (Int×jp)}
theorem uZ{sl:Nat}{Q:Option (jp×Nat)->kt->Prop}(ho:s.heap.get? a=some (iK es ep t))(T:Tab t es.size)(hl:t.led=!r_ w)(hs:r_ w=false->SetTable.below t.place sl=i) (h:∀Ip:Nat,(r_ w=false->i < es.size->SetTable.below t.place Ip=i+1)->Q ((ie w a ep es)[i]?.map λ e=>(e.2,Ip)) s):wpAny (model prog w) A (setNext a sl i ep) Q E s:=by
 unfold setNext;refine G4 (wpAny_setState_of ho rfl T.fit ?_);dsimp only;unfold setsByText;refine G4 (G4 (wpAny_askSetting (G5 ?_)));show wpAny _ _ (if r_ w=true then _ else _) _ _ s;cases hb:r_ w with
 |true=>
  rw[J3 rfl,J4 (by simp)];refine G4 ?_;unfold setWalk;refine G4 (wpAny_setState_of ho rfl T.fit ?_);dsimp only;unfold setsByText;refine G4 (G4 (wpAny_askSetting (G5 ?_)));show wpAny _ _ (if r_ w=true then _ else _) _ _ s;rw[hb,J3 rfl];refine G4 (wpAny_askSetting (G5 (G5 ?_)));have:=h sl λ z=>by rw[hb]at z;cases z
  unfold ie at this;rw[hb,J3 rfl]at this;exact this
 |false=>
  rw[J4 (by decide)];refine wpAny_ite_split (λ z=>absurd z ?_) λ _=>?_
  ·show ¬((!t.plain&&decide (es.size > 1))=true);rw[T.pl];simp
  refine G4 ?_;show wpAny _ _ (if(!t.led&&!es.isEmpty)=true then _ else _) _ _ s;rw[hl,hb,J4 (by simp)];refine G5 ?_;rw[hs hb];have e2:ie w a ep es=es:=by unfold ie;rw[hb];rfl
  rw[e2]at h;by_cases lt:i < es.size
  ·have Ko:i < t.place.size:=by rw[T.sz];exact lt
   have:=h (t.place[i]+1) λ _ _=>yT T.UP (by rw[j9,c8 Ko]);rw[c8 lt]at this ⊢;rw[c8 Ko];exact G5 this
  ·have:=h 0 λ _ z=>absurd z lt;rw[i9 (w9 lt)]at this ⊢;exact G5 this
def Hm(w:World)(I a:ww)(es:Array (Int×jp))(ep:Nat)(t:SetTable)(i:Nat)(h:Heap):Prop:=∃sl:Nat,h.get? I=some (XR sl i a es.size ep)/\h.get? a=some (iK es ep t)/\(r_ w=false->SetTable.below t.place sl=i)
theorem Ir{e:Int×jp}{Q:Option jp->kt->Prop}(ne:a≠I)(T:Tab t es.size)(hl:t.led=!r_ w)(st:Hm w I a es ep t i s.heap)(lt:i < es.size)(he:(ie w a ep es)[i]?=some e) (hQ:∀h',Hm w I a es ep t (i+1) h'->Heap.SameBut I s.heap h'->Q (some e.2) {s with heap:=h'}):wpAny (model prog w) A (pyNext (.ref I)) Q E s:=by
 obtain⟨sl,hI,ha,hb⟩:=st;have hT:s.TypeIs (.ref I) "set_iterator":=⟨_,hI,rfl⟩;unfold pyNext;refine G4 (B8 (i6 (name:=Str.ofString "__next__") hT dj (x5 dj hT jJ ?_ (kC _))));refine G4 (G5 ?_);refine G4 (wpAny_fieldsOf hI rfl ?_);dsimp only;refine G4 (wpAny_setEntries_of ha rfl T.fit ?_);rw[J4 (by simp)];rw[show((i:Int)).toNat=i from r6 i,show((ep:Int)).toNat=ep from r6 ep,show((sl:Int)).toNat=sl from r6 sl];refine G4 (uZ ha T hl hb λ Ip gT=>?_);rw[he];dsimp only[Option.map];refine G4 (B6 hI rfl (by simp) ?_);have h1:=j6 (Obj.mapFields (·.setIfInBounds 0 (rawInt Ip))) hI rfl;refine G4 (B6 h1 rfl (by simp[Obj.mapFields]) ?_);have h2:=j6 (Obj.mapFields (·.setIfInBounds 1 (rawInt ((i:Int)+1)))) h1 rfl;have sb:=(l5 s.heap I (Obj.mapFields (·.setIfInBounds 0 (rawInt Ip)))).trans (l5 _ I (Obj.mapFields (·.setIfInBounds 1 (rawInt ((i:Int)+1)))));refine G5 ⟨_,rfl,G5 (hQ _ ⟨Ip,?_,?_,λ z=>gT z lt⟩ sb)⟩
 ·exact h2
 ·rw[sb.2 a ne];exact ha
theorem MQ{Q:Option jp->kt->Prop}(hh:A.handled=none)(T:Tab t es.size)(hl:t.led=!r_ w)(st:Hm w I a es ep t es.size s.heap) (hQ:∀h',Heap.ExtBut I s.heap h'->Q none {s with heap:=h'}):wpAny (model prog w) A (pyNext (.ref I)) Q E s:=by obtain⟨sl,hI,ha,hb⟩:=st;have hT:s.TypeIs (.ref I) "set_iterator":=⟨_,hI,rfl⟩;unfold pyNext;refine G4 (B8 (i6 (name:=Str.ofString "__next__") hT dj (x5 dj hT jJ ?_ (kC _))));refine G4 (G5 ?_);refine G4 (wpAny_fieldsOf hI rfl ?_);dsimp only;refine G4 (wpAny_setEntries_of ha rfl T.fit ?_);rw[J4 (by simp)];rw[show((es.size:Int)).toNat=es.size from r6 _,show((ep:Int)).toNat=ep from r6 ep,show((sl:Int)).toNat=sl from r6 sl];refine G4 (uZ ha T hl hb λ Ip gT=>?_);rw[i9 (by rw[oq];exact D9 _)];dsimp only[Option.map];refine G4 (B6 hI rfl (by simp) ?_);show wpAny _ _ (newExc (.type "StopIteration") [] >>= _) _ _ _;refine G4 ?_;simp only[newExc,newTuple];refine G4 (r9 ?_ (by size_fits));refine G4 (m:=firstArgMember _ _) (wpAny_of_eq (a:=Value.none) (by first|rfl|(simp only[firstArgMember];rfl)) ?_);refine r9 ?_ (by size_fits);simp only[raiseNew];refine G4 (wpAny_handled ?_);rw[show A.in1.handled=none from hh];refine G4 (G5 (wpAny_throw ?_));refine G4 (y3 (T:="StopIteration") (b:=true) ⟨_,m8 _ rfl,rfl⟩ isSubtype_stop ?_);exact G5 (hQ _ (((l5 ..).extBut.push _).push _))
theorem Iq(st:Hm w I a es ep t i s.heap)(h:Q (.ref I) s):wpAny (model prog w) A (pyIter (.ref I)) Q E s:=by obtain⟨sl,hI,ha,hb⟩:=st;have hT:s.TypeIs (.ref I) "set_iterator":=⟨_,hI,rfl⟩;refine wpAny_pyIter_slot hT kB (x5 kB hT qx ?_ (sN _));exact G5 ⟨_,rfl,"set_iterator",_,hT,dj.lookup,h⟩
theorem Bz(hh:A.handled=none)(I a:ww)(ne:a≠I)(T:Tab t es.size)(hl:t.led=!r_ w):Walks prog w A I [I,a] [I] es.size (λ i v=>∃e,(ie w a ep es)[i]?=some e/\e.2=v) (Hm w I a es ep t) where
 sub:=λ b hb=>by simp at hb;simp[hb]
 frame:=λ _ _ _ st hk=>let⟨sl,h1,h2,h3⟩:=st;⟨sl,hk I (by simp) _ h1,hk a (by simp) _ h2,h3⟩
 item:=λ i s Q E hi st hQ=>by
  have lt:i < (ie w a ep es).size:=by rw[oq];exact hi
  exact Ir ne T hl st hi (c8 lt) λ h' xr sb=>hQ _ h' s.toks ⟨_,c8 lt,rfl⟩ xr λ b o hb e=>by rw[sb.2 b λ z=>hb (by simp[z])];exact e
 done:=λ s Q E st hQ=>MQ hh T hl st λ h' U6=>hQ h' s.toks λ b o hb e=>U6 b o (λ h=>hb (by simp[h])) e
 self:=λ _ _ _ _ st hQ=>Iq st hQ
theorem Eb(ha:s.heap.get? a=some (iK es ep t))(T:Tab t es.size)(hQ:Q (.ref s.heap.objs.size) {s with heap:=s.heap.push (XR 0 0 a es.size ep)}):wpAny (model prog w) A (pyIter (.ref a)) Q E s:=by have hT:s.TypeIs (.ref a) "set":=⟨_,ha,rfl⟩;refine wpAny_pyIter_slot hT F.slot_set_iter (x5 F.slot_set_iter hT oO ?_ (F.args_set_iter_1 _));unfold Builtin.«frozenset.__iter__» Builtin.Frozenset.slot0 Builtin.Frozenset.sizeOf;refine G4 (G4 (G5 ?_));refine G5 ?_;refine G4 (G4 (wpAny_setEntries_of ha rfl T.fit (G5 ?_)));refine G4 ?_;unfold setDrawn;refine G4 (wpAny_setState_of ha rfl T.fit ?_);dsimp only;unfold setsByText;refine G4 (G4 (wpAny_askSetting (G5 (G5 ?_))));show wpAny _ _ (if(!r_ w&&(!t.plain&&decide (es.size > 1)))=true then _ else _) _ _ s;rw[T.pl,J4 (by simp)];refine G4 (G5 ?_);unfold setEpoch;refine G4 (G4 (wpAny_setState_of ha rfl T.fit (G5 ?_)));refine G4 (r9 ?_ (by size_fits));exact G5 ⟨_,rfl,"set_iterator",_,⟨_,m8 _ rfl,rfl⟩,dj.lookup,hQ⟩
theorem Ec{Q:Bool->kt->Prop}(hT:s.TypeIs (.ref a) "set")(h:Q false s):wpAny (model prog w) A (Builtin.List.listLengthHint (.ref a)) Q E s:=by
 unfold Builtin.List.listLengthHint;refine G4 (B1 hT F.slot_set_len.lookup ?_);generalize Yq:("set.__len__":String)=ZM
 wp_delta
 rw[show splitId ZM=some ("set","__len__")from by subst Yq;decide+kernel];subst Yq;refine G4 (y3 (T:="set") (b:=true) hT (by rw[isSubtype_type];kernel_rfl) ?_);refine wpAny_ite_split (λ L'=>absurd L' (by decide)) (λ _=>?_);refine wpAny_ite_split (λ _=>?_) (λ L'=>absurd (by decide+kernel) L');refine G4 (D5 hT ?_);exact G5 h
theorem Il(T:Tab t es.size)(hl:t.led=!r_ w):KdlSrc prog w "set" a a es.size (λ i v=>∃e,(ie w a ep es)[i]?=some e/\e.2=v) (λ h=>h.get? a=some (iK es ep t)) where
 type:=λ _ hm=>⟨_,hm,rfl⟩
 there:=λ _ hm=>⟨C7 hm,C7 hm⟩
 keep:=λ _ _ hm hk=>hk a (.inl rfl) _ hm
 notList:=by decide
 notTuple:=by decide
 hint:=λ _ _ _ _ hm hq=>Ec ⟨_,hm,rfl⟩ hq
 iter:=λ _ s hh hm=>⟨_,_,(λ _ _ hq=>Eb hm T hq),Bz hh _ a (C6 (C7 hm)) T hl,⟨0,m8 _ rfl,j0 _ hm,λ _=>yS T.UP⟩⟩
end
open PySem.Spec PySem.W PySem.Calls PyProof.Rows L5
section
variable {ta:TA}{p pos:Pos}{x id:String}{r:List Int->Hp->VK->Prop}
def T3(X:Cx)(f:jp)(r:List Int->Hp->VK->Prop):Prop:=∀xz (s:kt) (σ:St) (H:Hp) (S:ww) (ks:List Int) (Q:VK),bd X xz σ H s->nE s.heap S (!r_ X.w) ks->r ks H Q->wpAny (model X.prog X.w) X.A (call f [.ref S]) (EP X xz σ Q) X.xe s
def MH(K:J5)(r:List Int->Hp->VK->Prop)(ta:TA):TE:=λ σ H Q=>ta σ H λ vs H1=>∃(b:Bool) (l:ww) (ns:List Int),vs=[.ref l]/\Sq b K H1 l (ns.map V.int)/\ns.length<=76/\∀ks,Once ks ns->r ks H1 Q
theorem Fj{id:String}{x:Str}(hf:T3 X (.builtin id) r)(hc:X.calm=true)(hg:Gl X x)(hm:X.mg x=none)(hv:bootBuiltins x=some (.builtin id))(GA:Gl X "set")(Gx:X.mg "set"=none)(ha:PA X [e1] ta)(hn:x≠"__name__":=by decide)(hdb:(x==("__debug__":Str))=false:=by decide) (hs:starEach [e1] X.env=(false,eval e1 X.env)::starEach [] X.env:=by rfl) (he:starEach [.Call (.Name "set" p2) [e1] [] cU] X.env=(false,eval (.Call (.Name "set" p2) [e1] [] cU) X.env)::starEach [] X.env:=by rfl):PE X (.Call (.Name x p) [.Call (.Name "set" p2) [e1] [] cU] [] pos) (MH X.K r ta):=by
 intro xz s σ H Q I h;refine p9 (gQ I hg hm hv ?_ hn hdb);refine PyProof.Rows.callWith_builtin1 ?_ he rfl;rw[he];show wpAny _ _ (spliced ((false,eval (.Call (.Name "set" p2) [e1] [] cU) X.env)::backTo pos (starEach [] X.env))) _ _ s;refine Calls.spliced_cons ?_;refine Call_ (gQ I GA Gx (show bootBuiltins "set"=some (.type "set") by decide+kernel) (c3 (dA (ha cU xz s σ H _ I h) λ us s1 ⟨vs,H1,I1,r1,q1⟩=>?_) hs (by rfl)));obtain⟨b,l,ns,ev,hl,cY,q⟩:=q1;subst ev;obtain⟨u1,rfl,rx⟩:=vals1 r1;cases(show u1=Value.ref l from rx);have fin:∀(h':Heap) (tk:Nat) (ks:List Int),nE h' s1.heap.objs.size (!r_ X.w) ks->Once ks ns->(∀b o,s1.heap.get? b=some o->h'.get? b=some o)->wpAny (model X.prog X.w) X.A (call (.builtin id) [.ref s1.heap.objs.size]) (EP X xz σ Q) X.xe {s1 with heap:=h',toks:=tk}:=λ h' tk ks hZ ho kp=>by have I2:bd X xz σ H1 {s1 with heap:=h',toks:=tk}:=I1.kept (t':=tk) kp;exact hf xz _ σ H1 _ ks Q I2 hZ (q ks ho)
 cases b with
 |false=>obtain⟨aB,r',pl,hz⟩:=I1.list hl;have hI:=k_ r';exact CY (I1.ok.hd hc) pl.isList (by simpa using hI) cY λ h' tk ks hZ ho kp=>Calls.spliced_nil (fin h' tk ks hZ ho kp)
 |true=>obtain⟨aB,r',pl,hz⟩:=I1.tuple hl;have hI:=k_ r';exact CW (I1.ok.hd hc) pl (by simpa using hI) cY λ h' tk ks hZ ho kp=>Calls.spliced_nil (fin h' tk ks hZ ho kp)
theorem xx(hc:X.calm=true):T3 X (.builtin "sorted") (λ ks H Q=>ks.length < 64/\∀(fh:List Int) (p:ww),fh.Perm ks->fh.Pairwise (·<=·)->H p=none->Q (.ref p) (ci H p (.lst (fh.map V.int)))):=by
 intro xz s σ H S ks Q I hZ ⟨Mb,q⟩;obtain⟨es,ep,t,ho,he,hk,T,hl⟩:=hZ;subst hk;rw[kys_len]at Mb;refine call_function_entry kind_sorted plain_sorted entry_sorted (args_sorted1 _) ?_;unfold Builtin.«sorted»;refine G4 (m:=checkCount "sorted" 1 1 _) (G5 (G4 (kdu_collect (A:=X.A.in1) (Il (ep:=ep) T hl) (show X.A.in1.handled=none from I.ok.hd hc) ho (by rw[G0];lia) λ h' tk zn WU eG=>?_)));have pw:=ou X.w S ep es;generalize hW:ie X.w S ep es=os at pw eG;have hI:IntsAre zn.toList (wY os):=yl _ _ (by rw[l9,eG.1,kys_len,<- l9,<- l9,pw.length_eq]) λ j v n a b=>by obtain⟨e,e1,e2⟩:=eG.2 j v (by rw[<- j9];exact a);subst e2;rw[<- j9]at e1;unfold wY at b;rw[r0,e1]at b;obtain⟨k,MD,rfl⟩:=he e (pw.mem_iff.mp (k7 e1));cases b;exact⟨MD,rfl⟩
 have pk:(wY os).Perm (wY es):=pw.map _;have hlen:zn.toList.length=es.size:=by rw[l9,eG.1]
 refine G4 (wpAny_newList ?_ (by rw[hlen,G0];lia));have KO:(h'.push (seqObj "list" zn.toList.toArray 0)).get? h'.objs.size=some (seqObj "list" zn.toList.toArray 0):=m8 _ rfl;refine G4 (B7 (x5 slot_list_sort ⟨_,KO,rfl⟩ entry_list_sort (list_sort_tree KO hI (by lia) λ out fh a1 a2 a3=>⟨_,rfl,?_⟩) (args_list_sort _)));refine G5 ⟨_,rfl,?_⟩;obtain⟨c,L_⟩:=sortedHeap_at (out:=out) KO;have I0:bd X xz σ H {s with heap:=h',toks:=tk}:=I.kept (t':=tk) WU;have kp:∀b o,h'.get? b=some o->(sortedHeap (h'.push (seqObj "list" zn.toList.toArray 0)) h'.objs.size zn.toList out).get? b=some o:=λ b o e=>by rw[sortedHeap_old (C6 (C7 e)) (by rw[size_push'];exact w5 (C7 e))];exact j0 _ e
 exact⟨.ref h'.objs.size,_,I0.laid (t':=tk) kp (D9 _) (show bO X.prog X.w _ _ _ (.lst (fh.map V.int))from⟨by rw[A5,a2.length_eq,pk.length_eq,kys_len,G0];lia,out.toList,c,pJ a1,by rw[Array.toArray_toList];exact L_⟩),rfl,q fh _ (a2.trans pk) a3 (I0.bt.fresh (D9 _))⟩
end
end L2
namespace L3
open PySem.Spec PyProof.Rows L2 L5
section
variable {p pos:Pos}
def Ef(ta:dF):cw:=λ δ M Q=>ta δ M λ ds M1=>∃(x:D) (ns:List Int),ds=[x]/\cA M1 x=some (ns.map D.int)/\ns.length < 64/\∀(fh:List Int) (p:ww),fh.Pairwise (· < ·)->(∀k,k∈fh↔k∈ns)->M1 p=none->Q (.ref p) (ai M1 p (.lst (fh.map D.int)))
theorem LJ:∀{l:List Int},l.Pairwise (·<=·)->l.Nodup->l.Pairwise (· < ·)
 |[],_,_=>.nil
 |a::l,h,n=>by
  obtain⟨h1,h2⟩:=pairwise_cons.mp h;obtain⟨n1,n2⟩:=nodup_cons.mp n;refine pairwise_cons.mpr ⟨λ b hb=>?_,LJ h2 n2⟩;have:=h1 b hb;by_cases z:a=b
  ·subst z;exact absurd hb n1
  ·lia
theorem NV(hc:X.calm=true)(hg:Gl X "sorted")(hm:X.mg "sorted"=none)(GA:Gl X "set")(Gx:X.mg "set"=none)(ha:QA X [e1] ta) (hs:starEach [e1] X.env=(false,eval e1 X.env)::starEach [] X.env:=by rfl) (he:starEach [.Call (.Name "set" p2) [e1] [] cU] X.env=(false,eval (.Call (.Name "set" p2) [e1] [] cU) X.env)::starEach [] X.env:=by rfl):QE X (.Call (.Name "sorted" p) [.Call (.Name "set" p2) [e1] [] cU] [] pos) (Ef ta):=by refine bJ (Fj (xx hc) hc hg hm (by decide+kernel) GA Gx ha (by decide) (by decide) hs he) ?_;rintro σ H Q ⟨δ,M,Q2,hs,hm,q,k⟩;refine⟨δ,M,_,hs,hm,q,λ vs H1 ds M1 hd bR t1 ⟨x,ns,e,hM,cY,q1⟩=>?_⟩;subst e;obtain⟨v1,r,rfl,QY,hr⟩:=ah.mp hd;cases(ar.mp hr);obtain⟨b,l,xv,rfl,hy,PJ⟩:=sO bR hM QY;rw[jX PJ]at hy;refine⟨b,l,ns,rfl,hy,by lia,λ ks ho=>⟨by have:=ho.cY;lia,λ fh p a1 a2 hp=>?_⟩⟩;exact k _ _ (.ref p) _ (aF.mpr rfl) (eK hp (jA fh) bR) (t1.trans (au.laid hp)) (q1 fh p (LJ a2 (a1.nodup_iff.mpr ho.1)) (λ k=>(a1.mem_iff.trans (ho.2 k))) (bR.free hp))
end
end L3
namespace L4
open L2 L3
theorem Mu{p pos:Pos}(hc:X.calm=true)(hg:Gl X "sorted")(hm:X.mg "sorted"=none)(GA:Gl X "set")(Gx:X.mg "set"=none)(ha:WA X [e1] ta) (hs:starEach [e1] X.env=(false,eval e1 X.env)::starEach [] X.env:=by rfl) (he:starEach [.Call (.Name "set" p2) [e1] [] cU] X.env=(false,eval (.Call (.Name "set" p2) [e1] [] cU) X.env)::starEach [] X.env:=by rfl):WE X (.Call (.Name "sorted" p) [.Call (.Name "set" p2) [e1] [] cU] [] pos) (Ef ta):=⟨NV hc hg hm GA Gx ha.h hs he⟩
theorem IE{Q:bW}(h:ta δ M λ ds M1=>∃(x:D) (ns:List Int),ds=[x]/\cA M1 x=some (ns.map D.int)/\ns.length < 64/\∀(fh:List Int) (p:ww),fh.Pairwise (· < ·)->(∀k,k∈fh↔k∈ns)->M1 p=none->Q (.ref p) (ai M1 p (.lst (fh.map D.int)))):Ef ta δ M Q:=h
end L4
namespace KK
open L3 L4 L5
open L2 hiding aR ir
abbrev kd(K:List Nat)(x:Nat):Nat:=K.getD x 0
abbrev kI(v:Nat):Int:=v
theorem vV{K:List Nat}{x:Nat}(h:x < K.length):K[x]?=some (kd K x):=by unfold kd;rw[c6,i0 h];rfl
theorem kd_mem{K:List Nat}{x:Nat}(h:x < K.length):kd K x∈K:=k7 (vV h)
structure T8(m h:Nat)(x0:List Row)(K:List Nat):Prop where
 len:K.length=m
 lt:∀x,x < m->kd K x < m
 QV:∀x,x < m->kd K (kd K x)=kd K x
 iE:kd K 0=0
 UJ:∀x z i,x < m->z < m->i < h->kd K x=kd K z->kd K (aG x0 i x)=kd K (aG x0 i z)
section
variable {h:Nat}{K:List Nat}
theorem T8.fW(G:cM m h x0)(k:T8 m h x0 K):mI (λ s=>s < m/\kd K s=s) h (λ i s=>kd K (aG x0 i s)):=by
 refine⟨λ x i hi hx=>?_,λ x i j hi hj hx=>?_⟩
 ·have:=G.fW.cl x i hi hx.1;exact⟨k.lt _ this,k.QV _ this⟩
 ·have a:=G.fW.cl x i hi hx.1;have b:=G.fW.cl x j hj hx.1;show kd K (aG x0 i (kd K (aG x0 j x)))=kd K (aG x0 j (kd K (aG x0 i x)));rw[k.UJ _ (aG x0 j x) i (k.lt _ b) b hi (k.QV _ b),k.UJ _ (aG x0 i x) j (k.lt _ a) a hj (k.QV _ a),G.fW.cm x i j hi hj hx.1]
set_option tactic.hygienic true in
theorem T8.Zj(G:cM m h x0)(k:T8 m h x0 K){x:Nat}(r:jH (aG x0) h 0 x):x < m/\jH (λ i s=>kd K (aG x0 i s)) h 0 (kd K x):=by
 induction r with
 |zero=>exact⟨G.tb.pos,by rw[k.iE];exact .zero⟩
 |step r hi ih=>
  rename_i s i;refine⟨G.fW.cl _ _ hi ih.1,?_⟩;have:=jH.step ih.2 hi
  rwa [k.UJ _ s i (k.lt _ ih.1) ih.1 hi (k.QV _ ih.1)]at this
end
def Pj{α:Type}[DecidableEq α](T:List α)(t:α):Nat:=T.idxOf t
def nR{α:Type}[DecidableEq α](T:List α):List Nat:=T.map λ t=>Pj T t
theorem v_[DecidableEq α](t:α)(l:List α):(t::l).idxOf t=0:=idxOf_cons_self
theorem nQ[DecidableEq α](T:List α):(nR T).length=T.length:=by simp[nR]
theorem jS[DecidableEq α]{T:List α}{x:Nat}{t:α}(h:T[x]?=some t):kd (nR T) x=Pj T t:=by have lt:=(c9.mp h).1;have:=vV (K:=nR T) (x:=x) (by rw[nQ];exact lt);unfold nR at this;rw[r0,h]at this;exact(A1 this).symm
theorem lW[DecidableEq α]{T:List α}{x:Nat}{t:α}(h:T[x]?=some t):T[kd (nR T) x]?=some t:=by rw[jS h];exact gS (k7 h)
theorem vJ[DecidableEq α]:∀(b:List α),(∀x b1 b2,b=b1++x::b2->x∉b1++b2)->b.Nodup
 |[],_=>nodup_nil
 |a::l,h=>by refine nodup_cons.mpr ⟨λ z=>h a [] l rfl z,vJ l λ x b1 b2 e z=>?_⟩;exact h x (a::b1) b2 (by rw[e];rfl) (k5 _ z)
theorem yw[DecidableEq α]{a b:List α}(n:a.Nodup)(s:∀x∈a,x∈b)(l:b.length<=a.length):b.Nodup:=vJ b λ x b1 b2 e z=>by
 have:=List.Nodup.length_le_of_subset n (l₂:=b1++b2) λ y hy=>by
  have:=s y hy;rw[e]at this;rcases A6.mp this with q|q
  ·exact k8 _ q
  ·rcases C4.mp q with q|q
   ·rw[q];exact z
   ·exact j7 _ q
 rw[e,o7,x3]at l;rw[o7]at this;lia
theorem rH{β:Type}{f:α->β}:∀{l:List α},(l.map f).Nodup->∀{a b:α},a∈l->b∈l->f a=f b->a=b
 |c::l,n,a,b,ha,hb,e=>by
  rw[C3]at n;obtain⟨n1,n2⟩:=nodup_cons.mp n;rcases C4.mp ha with ea|ia
  ·rcases C4.mp hb with eb|ib
   ·rw[ea,eb]
   ·rw[ea]at e;exact absurd (C8.mpr ⟨b,ib,e.symm⟩) n1
  ·rcases C4.mp hb with eb|ib
   ·rw[eb]at e;exact absurd (C8.mpr ⟨a,ia,e⟩) n1
   ·exact rH n2 ia ib e
theorem LY(K:List Nat):K.map nD=(K.map kI).map D.int:=by rw[C9];rfl
theorem vK:∀{l:List Int},(∀x∈l,0<=x)->l=(l.map Int.toNat).map kI
 |[],_=>rfl
 |x::l,h=>by have h0:=h x n9;rw[C3,C3,<- vK λ y hy=>h y (k5 _ hy)];show _=(x.toNat:Int)::l;rw[show((x.toNat:Nat):Int)=x by lia]
theorem Kw{K:List Nat}(asc:ns.Pairwise (· < ·))(mem:∀k,k∈ns↔k∈K.map kI):∃kept:List Nat,ns=kept.map kI/\kept.Pairwise (· < ·)/\∀v,v∈kept↔v∈K:=by
 have pos:∀x∈ns,0<=x:=λ x hx=>by obtain⟨v,_,rfl⟩:=C8.mp ((mem x).mp hx);exact Int.natCast_nonneg v
 have e:=vK pos;refine⟨ns.map Int.toNat,e,?_,λ v=>?_⟩
 ·rw[pairwise_map];exact asc.imp_of_mem λ{a b} ha hb z=>by have:=pos a ha;have:=pos b hb;lia
 ·constructor
  ·intro hv;have:kI v∈ns:=by rw[e];exact C8.mpr ⟨v,hv,rfl⟩
   obtain⟨u,hu,eu⟩:=C8.mp ((mem _).mp this);have:u=v:=Int.ofNat.inj eu
   rwa [<- this]
  ·intro hv;have:=(mem (kI v)).mpr (C8.mpr ⟨v,hv,rfl⟩);exact C8.mpr ⟨_,this,r6 v⟩
theorem lR{h:Nat}(G:Tb m h x0){x:Nat}(hx:x < m):ip (x0.map row) (x:Int)=some (.tup ((x0.getD x []).map D.int))/\(x0.getD x []).length=h/\∀y∈x0.getD x [],0<=y/\y < (m:Int):=by
 have h0:x < x0.length:=by rw[G.len];exact hx
 rw[c6,i0 h0];exact⟨bH (by rw[r0,i0 h0];rfl),G.row _ (x9 h0)⟩
theorem FU{K:List Nat}{x:Nat}(h:x < K.length):ip (K.map nD) (x:Int)=some (nD (kd K x)):=bH (by rw[r0,vV h];rfl)
theorem vg(x:Nat):QR x=nD x:=by show D.int (0+(x:Int))=_;rw[C5]
theorem vh{x:Nat}(h:(List.range n)[i]?=some x):x < n:=mem_range.mp (k7 h)
end KK
namespace L2
open PySem.Spec PyProof.Rows
def MG(t:TE):TO:=λ σ H Q=>t σ H λ x H1=>(∃i,x=.int i/\Q (some i) H1)\/(x=.bK/\Q none H1)
theorem Fb{te:TE}(h:PE X e te):PO X (some e) (MG te):=by
 intro xz s σ H Q I hw;rw[evalPart_some];refine dA (h xz s σ H _ I hw) λ u s1 ⟨x,H1,I1,r1,q1⟩=>?_;rcases q1 with⟨i,rfl,q⟩|⟨rfl,q⟩
 ·obtain⟨t,rfl⟩:=r1;exact⟨some i,H1,I1,.int i t,q⟩
 ·cases(show u=Value.none from r1);exact⟨none,H1,I1,.none,q⟩
end L2
namespace L3
open PySem.Spec PyProof.Rows L2 L5
def sP(t:cw):HE:=λ δ M Q=>t δ M λ d M1=>match d with
 | .int i=>Q (some i) M1
 | .bK=>Q none M1
 |_=>False
theorem ET{ta:cw}(h:QE X e ta):QO X (some e) (sP ta):=Fc (Fb h) λ σ H Q ⟨δ,M,Q2,hs,hm,q,k⟩=>by
 refine⟨δ,M,_,hs,hm,q,λ x H1 d M1 hd bR t1 q1=>?_⟩;cases d with
 |int i=>exact .inl ⟨i,ax.mp hd,k _ _ _ bR t1 q1⟩
 |bK=>exact .inr ⟨dS.mp hd,k _ _ _ bR t1 q1⟩
 |_=>exact q1.elim
end L3
namespace L4
open L2 L3
theorem DD{ta:cw}(h:WE X e ta):WO X (some e) (sP ta):=⟨ET (h:=h.h)⟩
theorem vi{ta:cw}{QO:Option Int->Mem->Prop}(h:ta δ M λ d M1=>match d with| .int i=>QO (some i) M1| .bK=>QO none M1|_=>False):sP ta δ M QO:=h
end L4
namespace KK
open L2 L3 L4
theorem xI{Q:bW}(h:M a=some (.lst ds))(q:∀p,M p=none->Q (.ref p) (ai M p (.lst ds))):yE (.ref a) none none M Q:=zG h λ p hp=>by
 have e:cutD ds none none=ds:=by show(ds.drop 0).take (ds.length - 0)=ds;rw[drop_zero,Nat.sub_zero,x4]
 rw[e];exact q p hp
end KK
namespace L2
open PySem.Spec PyProof.Rows
section
variable {κ:Type}[DecidableEq κ]{knd:HeapKind prog w κ}
theorem mZ{d:ww}{xs:List (κ×ww×jp)}{k:κ}{v:jp}(hu:knd.room A)(yr:knd.is s.heap k a)(hm:s.heap.DictOfH knd d xs) (h1:∀p,atKey xs k=some p->Q p.2 {s with toks:=s.toks+knd.draws k}) (h2:atKey xs k=none->∀h',h'.DictOfH knd d (storedH xs k a v)->Heap.SameBut d s.heap h'->Q v {s with heap:=h',toks:=s.toks+knd.draws k}) (hsz:xs.length<=sizeLine):wpAny (model prog w) A (dictSetDefault d (.ref a) v) Q E s:=by
 obtain⟨o,es,ep,ho,hc,hd,he,Yo,hn⟩:=hm;unfold dictSetDefault
 try with_reducible refine B7 ?_
 refine G4 (knd.pyHash hu yr ?_);refine G4 (wpAny_dictFind_heap (s:={s with toks:=s.toks+knd.draws k}) hu yr ho hd he Yo hn ?_ ?_)
 ·intro KP;have WD:k∉xs.map (·.1):=not_mem_keys_of_get KP;have U9:=atKey_none_of_get KP;refine G4 (G6 (G4 (wpAny_updateDictKeys (hz:=by have e:=size_of_entries he;lia) (s:={s with toks:=s.toks+knd.draws k}) ho hd (G5 (h2 U9 _ ⟨_,_,ep+1,j6 _ ho (Obj.isFreed_of_dict (Obj.data_mapDictKeys hd _)),
   hc.mapDictKeys _,Obj.data_mapDictKeys hd _,?_,?_,?_⟩ (l5 ..))))))
  ·rw[storedH_new U9];simp[he,entryOfKey]
  ·rw[storedH_new U9];intro x hx;rcases A6.mp hx with hx|hx
   ·exact knd.keeps (Yo x hx) ho hd (l5 ..)
   ·rw[p8.mp hx];exact knd.keeps yr ho hd (l5 ..)
  ·rw[storedH_new U9,A7,nodup_append];refine⟨hn,by simp,λ x hx y hy=>?_⟩;simp only[C3,D4,p8]at hy;subst hy;exact λ e=>WD (e▸hx)
 ·intro j p hj;refine G4 (wpAny_dictEntries (s:={s with toks:=s.toks+knd.draws k}) ho hd ?_);have e1:es[j]?=some (entryOfKey knd (k,p)):=by rw[<- j9,he,r0,hj];rfl
  rw[e1];exact G4 (G6 (G5 (h1 p (atKey_of_get hn hj))))
theorem qz(d a:ww){k:κ}(hd:(d==sysModules)=false)(v:jp):
  MeetsIn prog w (Builtin.«dict.setdefault» ⟨[.ref d,.ref a,v],[]⟩) (λ A R s=>knd.room A.in1/\∃xs,knd.is s.heap k a/\s.heap.DictOfH knd d xs/\xs.length<=sizeLine/\
   (∀p,atKey xs k=some p->R (.ok (.ret p.2)) {s with toks:=s.toks+knd.draws k})/\
   (atKey xs k=none->∀h',h'.DictOfH knd d (storedH xs k a v)->Heap.SameBut d s.heap h'->R (.ok (.ret v)) {s with heap:=h',toks:=s.toks+knd.draws k})):=
 .of_wp λ A R s ⟨hu,xs,hk,hm,hz,h1,h2⟩=>by unfold Builtin.«dict.setdefault»;refine G4 ?_;unfold Builtin.Dict.keyAndDefault;refine G4 (wpAny_notOrdered_dict hm.typeIs ?_);show wpAny _ _ (pure (d,Value.ref a,some v)) _ _ s;refine G5 ?_;show wpAny _ _ (if(d==sysModules)=true then _ else(dictSetDefault d (.ref a) v >>= _)) _ _ s;rw[J4 (by rw[hd];exact o6)];exact G4 (mZ hu hk hm (λ p hp=>G5 ⟨_,rfl,h1 p hp⟩) (λ hn h' fU gT=>G5 ⟨v,rfl,h2 hn h' fU gT⟩) hz)
end
def EO(K:J5):V->List V->Hp->VK->Prop:=λ x vs H Q=>∃a b kvs k v,x=.ref a/\vs=[.ref b,v]/\mH K H a kvs/\k.dep<=5/\gb K H k (.ref b)/\kvs.length < sizeLine/\(∀u,gj kvs k=some u->Q u H)/\(gj kvs k=none->Q v (ci H a (nk a (iu kvs k b v))))
theorem x'(hu:X.A.units+64 < cLine):T6 X "dict.setdefault" (EO X.K):=by
 intro xz s σ H x xs v us Q I rx rs ⟨a,b,kvs,k,y,e1,e2,dk,hk,rM,hz,q1,q2⟩;subst e1;subst e2;cases(show v=Value.ref a from rx);obtain⟨u,r,rfl,ru,rr⟩:=vals2 rs;cases(show u=Value.ref b from ru);obtain⟨z,hd,vs,rel,dd⟩:=dk.of I;have hv:=rel.val k;refine call_meetsIn PySem.F.slot_dict_setdefault dd.typeIs PySem.F.entry_dict_setdefault (PySem.F.args_dict_setdefault_3 _ _ _) (qz (knd:=iG X.prog X.w) (k:=k) a b hd r) ⟨iP hu,vs,⟨hk,mN I k rM rfl⟩,dd,by rw[<- B9 rel];exact z,λ p hp=>?_,λ hn h' CO hs=>?_⟩
 ·rw[hp]at hv;cases ev:gj kvs k with
  |none=>rw[ev]at hv;exact(show False from hv).elim
  |some w=>rw[ev]at hv;exact⟨w,H,I.tok _,hv,q1 w ev⟩
 ·rw[hn]at hv;cases ev:gj kvs k with
  |some w=>rw[ev]at hv;exact(show False from hv).elim
  |none=>
   have uB:(iu kvs k b y).length<=sizeLine:=by have:=pd kvs k b y;lia
   obtain⟨q,es,ep,hq,h2,h3,h4,_,h5⟩:=CO;exact⟨y,_,jB I (by rw[dk.at_];exact True.intro) hs ⟨q,hq⟩ (pT ⟨uB,hd,_,rel.put k rr,q,es,ep,hq,h2,h3,h4,h5⟩),rr,q2 ev⟩
def VD(r:V->List V->Hp->VK->Prop)(to:TE)(t:TA):TE:=λ σ H Q=>to σ H λ x H1=>(∃a kvs,x=.ref a/\H1 a=some (nk a kvs))/\t σ H1 λ xs H2=>r x xs H2 Q
theorem Ou{o e:Expr}{es:List Expr}{to:TE}{t:TA}{name:Str}{id:String}{apos bS:Pos}{r:V->List V->Hp->VK->Prop}(slot:Slot "dict" name id)(hty:typeOf (.builtin id)=pure (.type "method_descriptor"))(hm:T6 X id r)(ho:PE X o to)(ha:PA X (e::es) t) (hbase:attributeBase o name X.env (eval o X.env)=eval o X.env:=by rfl) (hfew:((backTo bS (starEach (e::es) X.env)).all (λ x=>!x.1)&&(backToKw bS (keywordEach [] X.env)).all (λ x=>x.1.isSome)
   &&decide ((e::es).length+([]:List Keyword).length+(if([]:List Keyword).isEmpty then 0 else 1) < 30))=true:=by rfl)
  (hline:(apos.endLine==bS.line)=true:=by rfl) (hs:starEach (e::es) X.env=(false,eval e X.env)::starEach es X.env:=by rfl) (hplain:(backTo bS (starEach es X.env)).any (·.1)=false:=by rfl):
  PE X (.Call (.Attribute o name apos) (e::es) [] bS) (VD r to t):=by
 intro xz s σ H Q I h;refine wpAny_Call_method_late hbase hfew hline rfl (dA (ho xz s σ H _ I h) λ v s1 ⟨x,H1,I1,r1,⟨a,kvs,ex,ea⟩,q1⟩=>?_);subst ex;cases(show v=Value.ref a from r1);obtain⟨⟨_,_,_,_,ob,_,_,e1,e2,_⟩,_,_⟩:=(show bO X.prog X.w H1 s1.heap a (nk a kvs)from I1.bt a _ ea);refine⟨"dict",id,PySem.F.plainAttrs_dict,slot,hty,⟨ob,e1,e2.1⟩,λ b eb=>by cases eb;exact⟨ob,e1,e2.2.1⟩,?_⟩;have hA:=ha bS xz s1 σ H1 _ I1 q1;rw[hs]at hA ⊢;refine Calls.callWith_builtin (by show(false||(backTo bS (starEach es X.env)).any (·.1))=false;rw[hplain] <;> rfl) (Calls.evalArgs_plain ?_);exact dA hA λ us s2 ⟨vs,H2,I2,r2,q2⟩=>hm xz s2 σ H2 (.ref a) vs (.ref a) us Q I2 rfl r2 q2
end L2
namespace L3
open PySem.Spec PyProof.Rows L2 L5
def kW(kvs:List (List Bool×D))(k:List Bool):Option D:=(kvs.find? λ p=>decide (p.1=k)).map (·.2)
theorem Lh{as bs:List Bool}(h:Bd as=Bd bs):as=bs:=by
 have h:=IK.t.inj h;refine List.map_inj_right (λ a b e=>?_) |>.mp h
 have e:=IK.i.inj e;cases a <;> cases b <;> first|rfl|(simp[L2.b2i]at e)
theorem Bc(bs:List Bool):(Bd bs).dep<=5:=by
 unfold Bd IK.dep;have:∀l:List Bool,IK.lE (l.map λ b=>IK.i (L2.b2i b))=0:=by
  intro l
  induction l with
  |nil=>rw[D4];unfold IK.lE;rfl
  |cons b l ih=>rw[C3];unfold IK.lE;rw[ih];unfold IK.dep;rfl
 rw[this];decide
theorem AM:∀(bs:List Bool) {xs:List V},aD K H (bs.map D.bl) xs->iZ K H (bs.map λ b=>IK.i (L2.b2i b)) xs
 |[],xs,h=>by rw[D4]at h ⊢;unfold iZ;exact ar.mp h
 |b::bs,xs,h=>by rw[C3]at h ⊢;obtain⟨x,r,rfl,h1,h2⟩:=ah.mp h;unfold iZ;refine⟨x,r,rfl,?_,AM bs h2⟩;unfold gb;exact .inr ⟨b,ba.mp h1,rfl⟩
theorem AN{bs:List Bool}(h:bi K H (Rc bs) v):∃b,v=.ref b/\gb K H (Bd bs) v:=by obtain⟨p,xs,rfl,hq,hx⟩:=a_.mp h;refine⟨p,rfl,?_⟩;unfold Bd gb;exact⟨p,xs,rfl,hq,AM bs hx⟩
theorem Lo.look{kvs:List (List Bool×D)}{xs:List fB}(h:Lo K H kvs xs)(k:List Bool):yX K H (kW kvs k) (gj xs (Bd k)):=by
 induction h with
 |nil=>exact True.intro
 |@cons p q ps qs jE t ih=>
  obtain⟨h1,_,h2⟩:=jE;unfold kW gj at ih ⊢;by_cases e:p.1=k
  ·have e':q.1=Bd k:=by rw[h1,e]
   simp only[y8,B3 e,B3 e',Option.map_some];exact h2
  ·have e':¬q.1=Bd k:=λ z=>e (Lh (h1.symm.trans z));simp only[y8,y9 e,y9 e'];exact ih
theorem Lo.ok{kvs:List (List Bool×D)}{xs:List fB}(h:Lo K H kvs xs)(e:H a=some (nk a xs)):mH K H a xs:=by
 refine⟨e,?_⟩;clear e
 induction h with
 |nil=>intro p hp;cases hp
 |@cons p q ps qs jE t ih=>
  intro x hx;rcases C4.mp hx with rfl|hx
  ·obtain⟨h1,h2,_⟩:=jE;rw[h1];exact⟨Bc _,(AN h2).choose_spec.2⟩
  ·exact ih x hx
section
variable {o:Expr}{t:dF}{pos:Pos}
def wB:D->List D->Mem->bW->Prop:=λ d ds M Q=>∃a kvs bs v,d=.ref a/\ds=[Rc bs,v]/\M a=some (.eS (.ug kvs))/\kvs.length < sizeLine/\(∀u,kW kvs bs=some u->Q u M)/\(kW kvs bs=none->Q v (ai M a (.eS (.ug (kvs++[(bs,v)])))))
def oS(to:cw)(t:dF):cw:=λ δ M Q=>to δ M λ d M1=>(∃a kvs,d=.ref a/\M1 a=some (.eS (.ug kvs)))/\t δ M1 λ ds M2=>wB d ds M2 Q
theorem BY(hu:X.A.units+64 < cLine)(ho:QE X o to)(ha:QA X (e::es) t)(hbase:attributeBase o "setdefault" X.env (eval o X.env)=eval o X.env:=by rfl) (hfew:((backTo bS (starEach (e::es) X.env)).all (λ x=>!x.1)&&(backToKw bS (keywordEach [] X.env)).all (λ x=>x.1.isSome)
   &&decide ((e::es).length+([]:List Keyword).length+(if([]:List Keyword).isEmpty then 0 else 1) < 30))=true:=by rfl)
  (hline:(apos.endLine==bS.line)=true:=by rfl) (hs:starEach (e::es) X.env=(false,eval e X.env)::starEach es X.env:=by rfl) (hplain:(backTo bS (starEach es X.env)).any (·.1)=false:=by rfl):
  QE X (.Call (.Attribute o "setdefault" apos) (e::es) [] bS) (oS to t):=by
 refine bJ (Ou PySem.F.slot_dict_setdefault PySem.F.type_dict_setdefault (x' hu) ho ha hbase hfew hline hs hplain) ?_;rintro σ H Q ⟨δ,M,Q2,hs,hm,q,k⟩;refine⟨δ,M,_,hs,hm,q,λ x H1 d M1 hd bR t1 ⟨⟨a,kvs,e,hM⟩,q1⟩=>⟨?_,δ,M1,_,hs.mono t1,bR,q1,λ xs H2 ds M2 GD mP t2 q2=>?_⟩⟩
 ·subst e;cases(aF.mp hd);obtain⟨xs,hx,_⟩:=bR a _ hM;exact⟨a,xs,rfl,hx⟩
 ·obtain⟨a',vS,bs,v,e2,e3,Xd,hz,q3,q4⟩:=q2;subst e2;subst e3;cases(aF.mp hd);obtain⟨x1,r1,rfl,PH,Hz⟩:=ah.mp GD;obtain⟨x2,r2,rfl,Gm,KH⟩:=ah.mp Hz;cases(ar.mp KH);obtain⟨b,rfl,rM⟩:=AN PH;obtain⟨ys,hy,rel⟩:=mP a' _ Xd;have lk:=rel.look bs;refine⟨a',b,ys,Bd bs,x2,rfl,rfl,rel.ok hy,Bc bs,rM,by rw[<- B9 rel];exact hz,λ u hu=>?_,λ hn=>?_⟩
  ·rw[hu]at lk;cases el:kW vS bs with
   |none=>rw[el]at lk;exact(show False from lk).elim
   |some d'=>rw[el]at lk;exact k _ H2 d' M2 lk mP (t1.trans t2) (q3 d' el)
  ·rw[hn]at lk;cases el:kW vS bs with
   |some d'=>rw[el]at lk;exact(show False from lk).elim
   |none=>
    have pt:iu ys (Bd bs) b x2=ys++[(Bd bs,b,x2)]:=by unfold iu;rw[hn];rfl
    rw[pt];have t:=au.mut (o:=nk a' (ys++[(Bd bs,b,x2)])) hy (λ _ z=>by cases z) (λ _ _ z=>by cases z);exact k _ _ _ _ (bi.mono t _ Gm) (mP.put (u:=.eS (.ug (vS++[(bs,v)]))) t ⟨_,aL,Lo.mono t (Paired.snoc rel ⟨rfl,PH,Gm⟩)⟩) ((t1.trans t2).trans t) (q4 el)
def sQ:cw:=λ _ M Q=>∀p,M p=none->Q (.ref p) (ai M p (.eS (.ug [])))
theorem EV:QE X (.Dict [] [] pos) sQ:=by refine bJ vD ?_;rintro σ H Q ⟨δ,M,Q2,hs,hm,q,k⟩ p hp;exact k _ _ (.ref p) _ (aF.mpr rfl) (hm.put (u:=.eS (.ug [])) (au.laid hp) ⟨[],aL,.nil⟩) (au.laid hp) (q p (hm.free hp))
end
end L3
namespace L4
open L2 L3
theorem BA{X:Cx}{o e:Expr}{es:List Expr}{to:cw}{t:dF}{apos bS:Pos}(hu:X.A.units+64 < cLine)(ho:WE X o to)(ha:WA X (e::es) t)(hbase:attributeBase o "setdefault" X.env (eval o X.env)=eval o X.env:=by rfl) (hfew:((backTo bS (starEach (e::es) X.env)).all (λ x=>!x.1)&&(backToKw bS (keywordEach [] X.env)).all (λ x=>x.1.isSome)
   &&decide ((e::es).length+([]:List Keyword).length+(if([]:List Keyword).isEmpty then 0 else 1) < 30))=true:=by rfl)
  (hline:(apos.endLine==bS.line)=true:=by rfl) (hs:starEach (e::es) X.env=(false,eval e X.env)::starEach es X.env:=by rfl) (hplain:(backTo bS (starEach es X.env)).any (·.1)=false:=by rfl):
  WE X (.Call (.Attribute o "setdefault" apos) (e::es) [] bS) (oS to t):=⟨BY hu ho.h ha.h hbase hfew hline hs hplain⟩
theorem DH{pos:Pos}:WE X (.Dict [] [] pos) sQ:=⟨EV⟩
theorem xK{t:dF}{Q:bW}(h:to δ M λ d M1=>(∃a kvs,d=.ref a/\M1 a=some (.eS (.ug kvs)))/\t δ M1 λ ds M2=>wB d ds M2 Q):oS to t δ M Q:=h
theorem BW{Q:bW}(h:∀p,M p=none->Q (.ref p) (ai M p (.eS (.ug [])))):sQ δ M Q:=h
end L4
namespace KK
open L3 L4 L5
open L2 hiding aR ir
def Dl(r q:List Row)(i:Nat)(p:Nat×Nat):Nat×Nat:=(aG r i p.1,aG q i p.2)
def Pr(r q:List Row)(h x y v:Nat):Prop:=jH (Dl r q) h (0,x) (y,v)
theorem rA{h m2:Nat}(G:cM m h r)(T:Tb m2 h q){x:Nat}(hx:x < m2){p:Nat×Nat}(R:jH (Dl r q) h (0,x) p):p.1 < m/\p.2 < m2:=by
 induction R with
 |zero=>exact⟨G.tb.pos,hx⟩
 |step R hi ih=>exact⟨G.fW.cl _ _ hi ih.1,T.gL hi _ ih.2⟩
theorem LM{h:Nat}(G:cM m h r)(x:Nat)(hy:y < m):∃v,Pr r q h x y v:=by
 have:∀y,jH (aG r) h 0 y->∃v,Pr r q h x y v:=λ y R=>by
  induction R with
  |zero=>exact⟨x,.zero⟩
  |step R hi ih=>obtain⟨v,hv⟩:=ih;exact⟨_,.step hv hi⟩
 exact this y (G.ur y hy)
section
variable {h:Nat}
set_option tactic.hygienic true in
theorem s_{p:Nat×Nat}(R:jH (Dl r r) h (0,0) p):p.2=p.1:=by
 induction R with
 |zero=>rfl
 |step R hi ih=>rename_i s i;show aG r i s.2=aG r i s.1;rw[ih]
set_option tactic.hygienic true in
theorem td(G:cM m h r){x:Nat}(hx:x < m)(hi:i < h){p:Nat×Nat}(R:jH (Dl r r) h (0,aG r i x) p):∃v,Pr r r h x p.1 v/\v < m/\p.2=aG r i v:=by
 induction R with
 |zero=>exact⟨x,.zero,hx,rfl⟩
 |step R hj ih=>rename_i s j;obtain⟨v,h1,h2,h3⟩:=ih;refine⟨aG r j v,.step h1 hj,G.fW.cl _ _ hj h2,?_⟩;show aG r j s.2=_;rw[h3,G.fW.cm v j i hj hi h2]
set_option tactic.hygienic true in
theorem Od(G:cM m h r):∀{x:Nat},jH (aG r) h 0 x->∀y v,Pr r r h x y v->Pr r r h y x v:=λ{x} R=>by
 induction R with
 |zero=>intro y v P;have:=s_ P;cases(show v=y from this);exact .zero
 |step R hi ih=>rename_i s i;intro y v P;have hs:s < m:=R.ok G.fW G.tb.pos;obtain⟨v0,h1,h2,h3⟩:=td G hs hi P;have:=jH.step (ih y v0 h1) hi;rw[show v=aG r i v0 from h3];exact this
set_option tactic.hygienic true in
theorem JI(G:cM m h r):∀{x:Nat},jH (aG r) h 0 x->∀y v v',Pr r r h x y v->Pr r r h x y v'->v=v':=λ{x} R=>by
 induction R with
 |zero=>intro y v v' P P';rw[show v=y from s_ P,show v'=y from s_ P']
 |step R hi ih=>rename_i s i;intro y v v' P P';have hs:s < m:=R.ok G.fW G.tb.pos;obtain⟨v0,h1,h2,h3⟩:=td G hs hi P;obtain⟨v1,g1,g2,g3⟩:=td G hs hi P';rw[show v=aG r i v0 from h3,show v'=aG r i v1 from g3,ih y v0 v1 h1 g1]
noncomputable def mul (r:List Row)(h x y:Nat):Nat:=Classical.epsilon λ v=>Pr r r h x y v
theorem pj(G:cM m h r){x:Nat}(hy:y < m):Pr r r h x y (mul r h x y):=by exact Classical.epsilon_spec (LM G x hy)
theorem iX(G:cM m h r){x v:Nat}(hx:x < m)(P:Pr r r h x y v):v=mul r h x y:=JI G (G.ur x hx) y v _ P (pj G (rA G G.tb hx P).1)
theorem O1(G:cM m h r){x:Nat}(hx:x < m)(hy:y < m):mul r h x y < m:=(rA G G.tb hx (pj G hy)).2
theorem mul_0(G:cM m h r){x:Nat}(hx:x < m):mul r h x 0=x:=(iX G hx .zero).symm
theorem tE(G:cM m h r){x:Nat}(hx:x < m)(hy:y < m)(hi:i < h):mul r h x (aG r i y)=aG r i (mul r h x y):=(iX G hx (.step (pj G hy) hi)).symm
theorem Ad(G:cM m h r){x:Nat}(hx:x < m)(hy:y < m):mul r h x y=mul r h y x:=iX G hy (Od G (G.ur x hx) y _ (pj G hy))
theorem Ab(G:cM m h r){x:Nat}(hx:x < m)(hy:y < m)(hi:i < h):mul r h (aG r i x) y=aG r i (mul r h x y):=by rw[Ad G (G.fW.cl _ _ hi hx) hy,tE G hy hx hi,Ad G hy hx]
theorem Ac(G:cM m h r){x:Nat}(hx:x < m)(hi:i < h):∀(n y:Nat),y < m->du (aG r i) n (mul r h x y)=mul r h x (du (aG r i) n y)
 |0,y,_=>rfl
 |n+1,y,hy=>by show du (aG r i) n (aG r i (mul r h x y))=mul r h x (du (aG r i) n (aG r i y));rw[<- tE G hx hy hi];exact Ac G hx hi n _ (G.fW.cl _ _ hi hy)
theorem Aa(G:cM m h r){x:Nat}(hx:x < m):∀(cs:Row) (i y:Nat),i+cs.length<=h->y < m->fI r i (mul r h x y) cs=mul r h x (fI r i y cs)
 |[],i,y,_,_=>rfl
 |c::cs,i,y,hl,hy=>by rw[x3]at hl;show fI r (i+1) (du (aG r i) c.toNat (mul r h x y)) cs=mul r h x (fI r (i+1) (du (aG r i) c.toNat y) cs);rw[Ac G hx (by lia) _ y hy];exact Aa G hx cs (i+1) _ (by lia) (i_ (G.tb.gL (by lia)) _ _ hy)
theorem sF(G:cM m h r){x:Nat}(hx:x < m){cs:Row}(hl:cs.length=h):fI r 0 x cs=mul r h x (fI r 0 0 cs):=by
 have:=Aa G hx cs 0 0 (by lia) G.tb.pos
 rwa [mul_0 G hx]at this
end
structure Bk(r q:List Row)(h x:Nat)(kv:List (Nat×Nat))(ws:List Nat):Prop where
 nd:(kv.map (·.1)).Nodup
 pr:∀e∈kv,Pr r q h x e.1 e.2
 iE:(0,x)∈kv
 wt:∀y∈ws,y∈kv.map (·.1)
 dn:∀y∈kv.map (·.1),y∉ws->∀i,i < h->aG r i y∈kv.map (·.1)
section
variable {h m2 x:Nat}{ws:List Nat}
theorem Bk.start(r q:List Row)(h x:Nat):Bk r q h x [(0,x)] [0]:=⟨by simp,λ e he=>by rw[p8.mp he];exact .zero,by simp,λ y hy=>by simpa using hy,λ y hy n=>absurd (by simpa using hy) (by simpa using n)⟩
theorem Bk.cY(G:cM m h r)(T:Tb m2 h q)(hx:x < m2)(c:Bk r q h x kv ws):kv.length<=m:=by
 have:=List.Nodup.length_le_of_subset c.nd (l₂:=List.range m) λ y hy=>by obtain⟨e,he,rfl⟩:=C8.mp hy;exact mem_range.mpr (rA G T hx (c.pr e he)).1
 rwa [A5,u6]at this
theorem Bk.all(G:cM m h r)(c:Bk r q h x kv [])(hy:y < m):y∈kv.map (·.1):=by
 have:∀y,jH (aG r) h 0 y->y∈kv.map (·.1):=λ y R=>by
  induction R with
  |zero=>exact C8.mpr ⟨_,c.iE,rfl⟩
  |step R hi ih=>exact c.dn _ ih (by simp) _ hi
 exact this y (G.ur y hy)
end
structure qQ(r q:List Row)(h x:Nat)(kv:List (Nat×Nat))(ws:List Nat)(y v i:Nat):Prop where
 nd:(kv.map (·.1)).Nodup
 pr:∀e∈kv,Pr r q h x e.1 e.2
 iE:(0,x)∈kv
 wt:∀y∈ws,y∈kv.map (·.1)
 dn:∀z∈kv.map (·.1),z∉ws->z≠y->∀i,i < h->aG r i z∈kv.map (·.1)
 at':(y,v)∈kv
 so:∀j,j < i->aG r j y∈kv.map (·.1)
section
variable {h x v:Nat}{ws:List Nat}
theorem Bk.pop(c:Bk r q h x kv (ws++[y])):∃v,qQ r q h x kv ws y v 0:=by obtain⟨e,he,rfl⟩:=C8.mp (c.wt y (by simp));exact⟨e.2,c.nd,c.pr,c.iE,λ z hz=>c.wt z (k8 _ hz),λ z hz n ne=>c.dn z hz (by rw[A6,p8];exact λ o=>o.elim n ne),he,λ j hj=>absurd hj (by lia)⟩
theorem qQ.old(c:qQ r q h x kv ws y v i)(hn:aG r i y∈kv.map (·.1)):qQ r q h x kv ws y v (i+1):=
 ⟨c.nd,c.pr,c.iE,c.wt,c.dn,c.at',λ j hj=>by
  by_cases z:j=i
  ·rw[z];exact hn
  ·exact c.so j (by lia)⟩
theorem qQ.new(c:qQ r q h x kv ws y v i)(hi:i < h)(hn:aG r i y∉kv.map (·.1)):qQ r q h x (kv++[(aG r i y,aG q i v)]) (ws++[aG r i y]) y v (i+1):=by
 have up:∀z,z∈kv.map (·.1)->z∈(kv++[(aG r i y,aG q i v)]).map (·.1):=λ z hz=>by rw[A7];exact k8 _ hz
 have nw:aG r i y∈(kv++[(aG r i y,aG q i v)]).map (·.1):=by simp
 refine⟨?_,λ e he=>?_,k8 _ c.iE,λ z hz=>?_,λ z hz n ne j hj=>?_,k8 _ c.at',λ j hj=>?_⟩
 ·rw[A7];exact nodup_append.mpr ⟨c.nd,by simp,λ a ha b hb z=>hn (by rw[z,p8.mp hb]at ha;exact ha)⟩
 ·rcases A6.mp he with he|he
  ·exact c.pr e he
  ·rw[p8.mp he];exact jH.step (c.pr _ c.at') hi
 ·rcases A6.mp hz with hz|hz
  ·exact up z (c.wt z hz)
  ·rw[p8.mp hz];exact nw
 ·rw[A6,p8,not_or]at n;rw[A7]at hz;rcases A6.mp hz with hz|hz
  ·exact up _ (c.dn z hz n.1 ne j hj)
  ·exact absurd (by simpa using hz) n.2
 ·by_cases z:j=i
  ·rw[z];exact nw
  ·exact up _ (c.so j (by lia))
theorem qQ.done(c:qQ r q h x kv ws y v h):Bk r q h x kv ws:=
 ⟨c.nd,c.pr,c.iE,c.wt,λ z hz n i hi=>by
  by_cases e:z=y
  ·rw[e];exact c.so i hi
  ·exact c.dn z hz n e i hi⟩
end
structure XF(m:Nat)(r q:List Row)(h x:Nat)(kv:List (Nat×Nat)):Prop where
 nd:(kv.map (·.1)).Nodup
 pr:∀e∈kv,Pr r q h x e.1 e.2
 all:∀y,y < m->∃v,(y,v)∈kv
 cY:kv.length<=m
 iE:(0,x)∈kv
theorem Bk.crd{h m2 x:Nat}(G:cM m h r)(T:Tb m2 h q)(hx:x < m2)(c:Bk r q h x kv []):XF m r q h x kv:=
 ⟨c.nd,c.pr,λ y hy=>by
  obtain⟨e,he,e2⟩:=C8.mp (c.all G hy);subst e2;exact⟨e.2,he⟩,c.cY G T hx,c.iE⟩
open L3 L4 L5
open L2 hiding aR ir
def dU(ls:Row)(x:Nat):Bool:=decide ((x:Int)∈ls)
noncomputable def ux (m:Nat)(r:List Row)(h:Nat)(ls:Row)(x:Nat):List Bool:=(List.range m).map λ y=>dU ls (mul r h x y)
noncomputable def kq (m:Nat)(r:List Row)(h:Nat)(ls:Row):List (List Bool):=(List.range m).map (ux m r h ls)
theorem dP{h x:Nat}(hx:x < m):(kq m r h ls)[x]?=some (ux m r h ls x):=by unfold kq;rw[r0,l6 hx];rfl
theorem FQ{h x:Nat}(hy:y < m):(ux m r h ls x)[y]?=some (dU ls (mul r h x y)):=by unfold ux;rw[r0,l6 hy];rfl
theorem tI{h x z:Nat}:ux m r h ls x=ux m r h ls z↔∀y,y < m->dU ls (mul r h x y)=dU ls (mul r h z y):=by
 constructor
 ·intro e y hy;have:=FQ (r:=r) (h:=h) (ls:=ls) (x:=x) hy;rw[e,FQ hy]at this;exact(A1 this).symm
 ·intro e;unfold ux;exact n5 λ y hy=>e y (mem_range.mp hy)
theorem mi{h:Nat}(ls:Row)(G:cM m h r):T8 m h r (nR (kq m r h ls)):=by
 have tl:(kq m r h ls).length=m:=by simp[kq]
 have tt:∀x z,x < m->z < m->(kd (nR (kq m r h ls)) x=kd (nR (kq m r h ls)) z↔ux m r h ls x=ux m r h ls z):=λ x z hx hz=>by
  constructor
  ·intro e;have a:=lW (dP (r:=r) (h:=h) (ls:=ls) hx);rw[e,lW (dP hz)]at a;exact(A1 a).symm
  ·intro e;rw[jS (dP hx),jS (dP hz),e]
 have lt:∀x,x < m->kd (nR (kq m r h ls)) x < m:=λ x hx=>by have:=(c9.mp (lW (dP (r:=r) (h:=h) (ls:=ls) hx))).1;lia
 refine⟨by rw[nQ];exact tl,lt,λ x hx=>?_,?_,λ x z i hx hz hi e=>?_⟩
 ·refine(tt _ _ (lt x hx) hx).mpr ?_;have a:=lW (dP (r:=r) (h:=h) (ls:=ls) hx);rw[dP (lt x hx)]at a;exact A1 a
 ·rw[jS (dP G.tb.pos)];have a:=dP (r:=r) (h:=h) (ls:=ls) G.tb.pos;cases hc:kq m r h ls with
  |nil=>rw[hc]at tl;have:=G.tb.pos;simp at tl;lia
  |cons t l=>rw[hc]at a;rw[<- A1 a];exact v_ t l
 ·rw[tt _ _ (G.fW.cl _ _ hi hx) (G.fW.cl _ _ hi hz)];rw[tt x z hx hz,tI]at e;refine tI.mpr λ y hy=>?_;rw[Ab G hx hy hi,Ab G hz hy hi,<- tE G hx hy hi,<- tE G hz hy hi];exact e _ (G.fW.cl _ _ hi hy)
theorem LW{h x z:Nat}(hx:x < m)(hz:z < m):kd (nR (kq m r h ls)) x=kd (nR (kq m r h ls)) z↔ux m r h ls x=ux m r h ls z:=by
 constructor
 ·intro e;have a:=lW (dP (r:=r) (h:=h) (ls:=ls) hx);rw[e,lW (dP hz)]at a;exact(A1 a).symm
 ·intro e;rw[jS (dP hx),jS (dP hz),e]
structure kj(m h:Nat)(r:List Row)(ls:Row)(m2:Nat)(q:List Row)(cD:Row)(g:Nat->Nat):Prop where
 lt:∀x,x < m->g x < m2
 iE:g 0=0
 st:∀x i,x < m->i < h->g (aG r i x)=aG q i (g x)
 ls:∀x,x < m->dU ls x=dU cD (g x)
section
variable {h m2:Nat}{g:Nat->Nat}
set_option tactic.hygienic true in
theorem kj.pr(G:cM m h r)(H:kj m h r ls m2 q cD g){p:Nat×Nat}(R:jH (Dl r q) h (0,0) p):p.2=g p.1:=by
 have:p.1 < m/\p.2=g p.1:=by
  induction R with
  |zero=>exact⟨G.tb.pos,H.iE.symm⟩
  |step R hi ih=>rename_i s i;refine⟨G.fW.cl _ _ hi ih.1,?_⟩;show aG q i s.2=g (aG r i s.1);rw[H.st _ _ ih.1 hi,ih.2]
 exact this.2
theorem kj.du(G:cM m h r)(H:kj m h r ls m2 q cD g)(hi:i < h):∀(n x:Nat),x < m->g (du (aG r i) n x)=KK.du (aG q i) n (g x)
 |0,x,_=>rfl
 |n+1,x,hx=>by show g (KK.du (aG r i) n (aG r i x))=KK.du (aG q i) n (aG q i (g x));rw[kj.du G H hi n _ (G.fW.cl _ _ hi hx),H.st x i hx hi]
theorem kj.fI(G:cM m h r)(H:kj m h r ls m2 q cD g):∀(cs:Row) (i x:Nat),i+cs.length<=h->x < m->g (fI r i x cs)=KK.fI q i (g x) cs
 |[],i,x,_,_=>rfl
 |c::cs,i,x,hl,hx=>by rw[x3]at hl;show g (KK.fI r (i+1) (KK.du (aG r i) c.toNat x) cs)=KK.fI q (i+1) (KK.du (aG q i) c.toNat (g x)) cs;rw[kj.fI G H cs (i+1) _ (by lia) (i_ (G.tb.gL (by lia)) _ _ hx),H.du G (by lia) _ _ hx]
set_option tactic.hygienic true in
theorem kj.mul(G:cM m h r)(G2:cM m2 h q)(H:kj m h r ls m2 q cD g){x:Nat}(hx:x < m)(hy:y < m):g (mul r h x y)=KK.mul q h (g x) (g y):=by
 have:∀p:Nat×Nat,jH (Dl r r) h (0,x) p->p.1 < m/\p.2 < m/\Pr q q h (g x) (g p.1) (g p.2):=λ p R=>by
  induction R with
  |zero=>exact⟨G.tb.pos,hx,by show Pr q q h (g x) (g 0) (g x);rw[H.iE];exact .zero⟩
  |step R hi ih=>rename_i s i;refine⟨G.fW.cl _ _ hi ih.1,G.fW.cl _ _ hi ih.2.1,?_⟩;show Pr q q h (g x) (g (aG r i s.1)) (g (aG r i s.2));rw[H.st _ _ ih.1 hi,H.st _ _ ih.2.1 hi];exact .step ih.2.2 hi
 exact iX G2 (H.lt x hx) (this _ (pj G hy)).2.2
theorem kj.Cf(G2:cM m2 h q)(H:kj m h r ls m2 q cD g)(G:cM m h r){d:Nat}(hd:d < m2):∃x,x < m/\g x=d:=by
 have:∀d,jH (aG q) h 0 d->∃x,x < m/\g x=d:=λ d R=>by
  induction R with
  |zero=>exact⟨0,G.tb.pos,H.iE⟩
  |step R hi ih=>obtain⟨x,hx,rfl⟩:=ih;exact⟨_,G.fW.cl _ _ hi hx,H.st x _ hx hi⟩
 exact this d (G2.ur d hd)
theorem kj.le(G2:cM m2 h q)(H:kj m h r ls m2 q cD g)(G:cM m h r):m2<=m:=by
 have:=List.Nodup.length_le_of_subset (nodup_range (n:=m2)) (l₂:=(List.range m).map g) λ d hd=>by obtain⟨x,hx,e⟩:=H.Cf G2 G (mem_range.mp hd);exact C8.mpr ⟨x,mem_range.mpr hx,e⟩
 rwa [u6,A5,u6]at this
end
theorem Gs(m h:Nat)(r:List Row)(ls:Row):kj m h r ls m r ls id:=⟨λ _ h=>h,rfl,λ _ _ _ _=>rfl,λ _ _=>rfl⟩
theorem kj.inv{h m2:Nat}{g:Nat->Nat}(G:cM m h r)(G2:cM m2 h q)(H:kj m h r ls m2 q cD g)(e:m=m2):∃f,kj m2 h q cD m r ls f:=by
 have nd:((List.range m).map g).Nodup:=yw (a:=List.range m2) nodup_range (λ d hd=>by
  obtain⟨x,hx,e⟩:=H.Cf G2 G (mem_range.mp hd);exact C8.mpr ⟨x,mem_range.mpr hx,e⟩) (by rw[A5,u6,u6];lia)
 have inj:∀x y,x < m->y < m->g x=g y->x=y:=λ x y hx hy z=>rH nd (mem_range.mpr hx) (mem_range.mpr hy) z;have ex:∀d:Nat,∃x:Nat,d < m2->x < m/\g x=d:=λ d=>by
  by_cases hd:d < m2
  ·obtain⟨x,a⟩:=H.Cf G2 G hd;exact⟨x,λ _=>a⟩
  ·exact⟨0,λ z=>absurd z hd⟩
 refine⟨λ d=>Classical.choose (ex d),λ d hd=>(Classical.choose_spec (ex d) hd).1,?_,λ d i hd hi=>?_,λ d hd=>?_⟩
 ·have a:=Classical.choose_spec (ex 0) G2.tb.pos;exact inj _ _ a.1 G.tb.pos (by rw[a.2,H.iE])
 ·have a:=Classical.choose_spec (ex d) hd;have b:=Classical.choose_spec (ex (aG q i d)) (G2.fW.cl _ _ hi hd);exact inj _ _ b.1 (G.fW.cl _ _ hi a.1) (by rw[b.2,H.st _ _ a.1 hi,a.2])
 ·have a:=Classical.choose_spec (ex d) hd;rw[H.ls _ a.1,a.2]
structure Lst(m h:Nat)(r:List Row)(ls:Row)(aH:List Nat)(x0:List Row)(cD:Row):Prop where
 ex:qi (λ i s=>kd (nR (kq m r h ls)) (aG r i s)) 0 h (List.range m) aH x0
 len:x0.length=aH.length
 los:iy aH.length cD
 mem:∀d s,aH[d]?=some s->dU cD d=dU ls s
section
variable {h:Nat}{aH:List Nat}
theorem Lst.tb(G:cM m h r)(L:Lst m h r ls aH x0 cD):cM aH.length h x0:=by
 have:=L.ex.tb ((mi ls G).fW G) ⟨G.tb.pos,(mi ls G).iE⟩ L.len (by rw[u6];exact G.tb.cY) G.tb.tS
 rwa [L.len]at this
theorem Lst.all(G:cM m h r)(L:Lst m h r ls aH x0 cD){x:Nat}(hx:x < m):kd (nR (kq m r h ls)) x∈aH:=by
 have k:=mi ls G;have:∀s,jH (λ i s=>kd (nR (kq m r h ls)) (aG r i s)) h 0 s->s∈aH:=λ s R=>by
  induction R with
  |zero=>exact k7 L.ex.iE
  |step R hi ih=>obtain⟨d,hd⟩:=getElem?_of_mem ih;exact k7 (L.ex.at L.len hd hi)
 exact this _ (k.Zj G (G.ur x hx)).2
noncomputable def Mc (m h:Nat)(r:List Row)(ls:Row)(aH:List Nat)(x:Nat):Nat:=aH.idxOf (kd (nR (kq m r h ls)) x)
theorem Lst.go(G:cM m h r)(L:Lst m h r ls aH x0 cD){x:Nat}(hx:x < m):aH[Mc m h r ls aH x]?=some (kd (nR (kq m r h ls)) x):=gS (L.all G hx)
theorem Lst.Zz{x:Nat}(G:cM m h r)(hx:x < m):dU ls (kd (nR (kq m r h ls)) x)=dU ls x:=by
 have k:=mi ls G;have e:=(LW (ls:=ls) (k.lt x hx) hx).mp (k.QV x hx);have:=tI.mp e 0 G.tb.pos
 rwa [mul_0 G (k.lt x hx),mul_0 G hx]at this
theorem Lst.hom(G:cM m h r)(L:Lst m h r ls aH x0 cD):kj m h r ls aH.length x0 cD (Mc m h r ls aH):=by
 have k:=mi ls G;refine⟨λ x hx=>(c9.mp (L.go G hx)).1,?_,λ x i hx hi=>?_,λ x hx=>?_⟩
 ·refine rB L.ex.nd (L.go G G.tb.pos) ?_;rw[k.iE];exact L.ex.iE
 ·refine rB L.ex.nd (L.go G (G.fW.cl _ _ hi hx)) ?_;have:=L.ex.at L.len (L.go G hx) hi
  rwa [k.UJ _ x i (k.lt x hx) hx hi (k.QV x hx)]at this
 ·rw[L.mem _ _ (L.go G hx),Lst.Zz G hx]
theorem Lst.same(G:cM m h r)(L:Lst m h r ls aH x0 cD){x:Nat}(hx:x < m)(hy:y < m):Mc m h r ls aH x=Mc m h r ls aH y↔∀z,z < m->dU ls (mul r h x z)=dU ls (mul r h y z):=by
 rw[<- tI,<- LW hx hy];constructor
 ·intro e;have a:=L.go G hx;rw[e,L.go G hy]at a;exact(A1 a).symm
 ·intro e;unfold Mc;rw[e]
end
end KK
namespace L4
open L2 L3
theorem uM{p pos:Pos}{t:dF}(h1:X.prog=P)(h2:X.w=w)(h3:X.K=K)(h4:X.mg=mg)(h5:X.base=base) (hr:cX k X.A) (hi:X.N[i]?=some x) (hv:Ln X.env.scope x) (ha:WA X (e::es) t) (hd:(x==("__debug__":Str))=false:=by decide) (hcd:(x==("__classdict__":Str))=false:=by decide) (he:starEach (e::es) X.env=(false,eval e X.env)::starEach es X.env:=by rfl) (hpl:(backTo pos (starEach es X.env)).any (·.1)=false:=by rfl):WE X (.Call (.Name x p) (e::es) [] pos) (UM P w K mg base k i t):=by subst h1;subst h2;subst h3;subst h4;subst h5;exact zj hr hi hv ha hd hcd he hpl
end L4
namespace L2
open PySem.Spec PyProof.Rows
structure qk(P:Program)(w:World)(K:J5)(mg:Str->Option jp)(base:Heap)(k:Nat)(x:Str)(ps:List Str)(sp:Sp):Prop where
 ex:∃(f:ww) (fd:FuncData),bT P w K mg base eX k f fd ps sp/\mg x=some (.ref f)/\PySem.W.keepIn K (.ref f)=true/\Binds K fd ps [.none]
theorem qk.Sn{sp:Sp}{c:ww}(F:jI K x qual st dV c f fd)(G:bT P w K mg base eX k f fd ps sp)(hm:mg x=some (.ref f))(b:Binds K fd ps [.none]):qk P w K mg base k x ps sp:=⟨f,fd,G,hm,F.kp,b⟩
theorem jI.Qr{c:ww}(F:jI K x qual st dV c f fd)(hn:ps.length=n+1) (h:∀(kV doc pm:jp) (an:Option ww) (ct:jp) (s:kt),K.In s.heap->∀(us:List jp),us.length=n->BindsTo s (PySem.W.fnOf x qual (cE st) (bG st) (aq st) dV kV doc pm an (.ref c) ct) ⟨us,[]⟩ (ps.zip (us++[.none]))):Binds K fd ps [.none]:=
 F.binds λ kV doc pm an ct s hk us hl=>h kV doc pm an ct s hk us (by rw[o7,j8]at hl;lia)
section
variable {p pos:Pos}{t:TA}{sp:Sp}
theorem JQ(d:qk X.prog X.w X.K X.mg X.base k x ps sp)(hr:cX k X.A)(hg:Gl X x)(ha:PA X (e::es) t)(hdb:(x==("__debug__":Str))=false:=by decide)(he:starEach (e::es) X.env=(false,eval e X.env)::starEach es X.env:=by rfl) (hpl:(backTo pos (starEach es X.env)).any (·.1)=false:=by rfl):PE X (.Call (.Name x p) (e::es) [] pos) (λ σ H Q=>t σ H λ vs H1=>sp (vs++[.bK]) H1 Q E0):=by obtain⟨f,fd,G,hm,kp,b⟩:=d.ex;exact zT (E:=E0) G hr hg hm kp b (.cons rfl .nil) LN ha hdb he hpl
end
end L2
namespace L3
open PySem.Spec PyProof.Rows L2 L5
def VM(sp:fk)(t:dF):cw:=λ δ M Q=>t δ M λ ds M1=>sp (ds++[.bK]) M1 Q
abbrev Hr(P:Program)(w:World)(K:J5)(mg:Str->Option jp)(base:Heap)(k:Nat)(x:Str)(ps:List Str)(sp:fk):Prop:=qk P w K mg base k x ps (cK K sp)
theorem rV:∀{ds:List D} {vs:List V} {d:D} {v:V},aD K H ds vs->bi K H d v->aD K H (ds++[d]) (vs++[v])
 |[],vs,d,v,h,g=>by cases(ar.mp h);exact ah.mpr ⟨v,[],rfl,g,ar.mpr rfl⟩
 |a::ds,vs,d,v,h,g=>by obtain⟨x,r,rfl,h1,h2⟩:=ah.mp h;exact ah.mpr ⟨x,r++[v],rfl,h1,rV h2 g⟩
theorem NZ{p pos:Pos}{t:dF}(d:Hr X.prog X.w X.K X.mg X.base k x ps sp)(hr:cX k X.A)(hg:Gl X x)(ha:QA X (e::es) t)(hdb:(x==("__debug__":Str))=false:=by decide)(he:starEach (e::es) X.env=(false,eval e X.env)::starEach es X.env:=by rfl) (hpl:(backTo pos (starEach es X.env)).any (·.1)=false:=by rfl):QE X (.Call (.Name x p) (e::es) [] pos) (VM sp t):=by refine bJ (JQ d hr hg ha hdb he hpl) ?_;rintro σ H Q ⟨δ,M,Q2,hs,hm,q,k⟩;exact⟨δ,M,_,hs,hm,q,λ xs H1 ds M1 hd bR t1 q1=>⟨ds++[.bK],M1,Q2,rV hd (dS.mpr rfl),bR,q1,k.mono t1⟩⟩
end L3
namespace L4
open L2 L3
theorem My{p pos:Pos}{t:dF}(d:Hr X.prog X.w X.K X.mg X.base k x ps sp)(hr:cX k X.A)(hg:Gl X x)(ha:WA X (e::es) t)(hdb:(x==("__debug__":Str))=false:=by decide)(he:starEach (e::es) X.env=(false,eval e X.env)::starEach es X.env:=by rfl) (hpl:(backTo pos (starEach es X.env)).any (·.1)=false:=by rfl):WE X (.Call (.Name x p) (e::es) [] pos) (VM sp t):=⟨NZ d hr hg ha.h hdb he hpl⟩
theorem RJ{t:dF}{Q:bW}(h:t δ M λ ds M1=>sp (ds++[.bK]) M1 Q):VM sp t δ M Q:=h
end L4
namespace L3
open L2
theorem vR{lf:ww}{cs:List D}{C:CM} (h:fu ps fv L.scope=true) (hl:cs.length=fv.length) (Ay:∀(i:Nat) (x:Str),fv[i]?=some x->∃j,(x,j)∈cn/\∀d,cs[i]?=some d->δ[j]?=some (some d)) (hC:Hu cells cn δ C) (hM:M lf=some (.eS (.lam L (bA cells L.scope.names [])))) (hn:∀b d,C b=some d->M b=none):nF (gA M C) lf L fv cs C:=by
 unfold fu at h;simp only[x6,y4]at h;obtain⟨⟨_,h5⟩,h6⟩:=h;have fr:∀x,(x,NameKind.free)∈L.scope.names->x∈fv:=λ x hx=>by simpa using(h6 _ hx).2
 have KC:∀x∈fv,∃j,(x,j)∈cn:=λ x hx=>by obtain⟨i,hi⟩:=getElem?_of_mem hx;obtain⟨j,hj,_⟩:=Ay i x hi;exact⟨j,hj⟩
 have hc:∀n,(n,NameKind.free)∈L.scope.names->∃c,cells.lookup n=some c:=λ n hx=>by obtain⟨j,hj⟩:=KC n (fr n hx);obtain⟨b,_,e,_⟩:=hC.has n j hj;exact⟨b,e⟩
 have look:=fL (cells:=cells) L.scope.names [] hc λ x c e=>by simp at e
 have free:=λ x c e=>(gW (cells:=cells) L.scope.names [] x c e).elim (fr x) λ z=>by simp at z
 have KQ:C lf=none:=by
  rcases cW C lf with z|⟨d,z⟩
  ·exact z
  ·rw[hn lf d z]at hM;cases hM
 refine⟨⟨bA cells L.scope.names [],by rw[g_ KQ];exact hM,λ x y b e1 e2=>?_,λ x b e=>⟨free x b e,?_⟩,λ i x d ex ed=>?_⟩,hl,λ b d e=>lH e⟩
 ·obtain⟨j,hj⟩:=KC x (free x b e1);obtain⟨i,hi⟩:=KC y (free y b e2);exact hC.inj x j y i b hj hi (look x b e1) (look y b e2)
 ·obtain⟨j,hj⟩:=KC x (free x b e);obtain⟨b',d,e1,_,e3⟩:=hC.has x j hj;rw[look x b e]at e1;cases e1;exact⟨d,e3⟩
 ·obtain⟨j,hj,hd⟩:=Ay i x ex;have hm:(x,NameKind.free)∈L.scope.names:=l7 (by simpa using h5 _ (k7 ex));obtain⟨b,hb⟩:=Option.isSome_iff_exists.mp (gz (cells:=cells) L.scope.names [] hm);obtain⟨b',d',e1,e2,e3⟩:=hC.has x j hj;rw[look _ b hb]at e1;cases e1;rw[hd d ed]at e2;cases e2;exact⟨b,hb,e3⟩
theorem nF.no{cs:List D}{C:CM}(h:nF M f L fv cs C)(e:∀b o,M b=some o->M1 b=some o)(ha:M1 a=some (.lst ds)):fA M1 C a=some (.lst ds):=by
 rcases cW C a with z|⟨d,z⟩
 ·rw[lF z];exact ha
 ·have:=e _ _ (h.tY a d z);rw[ha]at this;cases this
end L3
namespace KK
open L3 L4 L5
open L2 hiding aR ir
def nO(r:List Row)(ls:Row)(x y:Nat)(p:Cs):Prop:=dU ls (fi (aG r) 0 x p)≠dU ls (fi (aG r) 0 y p)
structure LP(h:Nat)(r:List Row)(ls:Row)(x y:Nat)(p:Cs):Prop where
 len:p.length=h
 par:nO r ls x y p
 low:∀q:Cs,q.length=h->Ah q p->¬nO r ls x y q
section
variable {h:Nat}{x:Nat}
theorem eM(G:cM m h r)(hx:x < m){p:Cs}(hp:p.length=h):fi (aG r) 0 x p=mul r h x (fi (aG r) 0 0 p):=by
 have:=sF G hx (cs:=p.map λ v:Nat=>(v:Int)) (by rw[A5];exact hp)
 rwa [gJ,gJ]at this
theorem tQ(G:cM m h r)(hx:x < m){p:Cs}(hp:p.length=h):fi (aG r) 0 x p < m:=G.fW.fi p 0 x (by lia) hx
theorem rz(G:cM m h r)(hx:x < m)(hy:y < m){p q:Cs}(hp:p.length=h)(hq:q.length=h)(e:fi (aG r) 0 0 p=fi (aG r) 0 0 q):nO r ls x y p↔nO r ls x y q:=by unfold nO;rw[eM G hx hp,eM G hy hp,eM G hx hq,eM G hy hq,e]
theorem AD(G:cM m h r)(F:wV (aG r) 0 h m ac){q:Cs}(fq:km (aG r) 0 h q):∃(j:Nat) (e:Cs×Nat),ac[j]?=some e/\e.1=q:=by
 have len:=F.len G;have lt:∀e∈ac,e.2 < m:=λ e he=>by have:=F.gE.ent e he;rw[<- this.2];exact G.fW.fi e.1 0 0 (by rw[this.1.1];lia) G.tb.pos
 have nd:=F.gE.nd;have tq:fi (aG r) 0 0 q < m:=tQ G G.tb.pos fq.1;have mem:fi (aG r) 0 0 q∈ac.map (·.2):=by
  refine Decidable.byContradiction λ n=>?_;have:=List.Nodup.length_le_of_subset (nodup_cons.mpr ⟨n,nd⟩) (l₂:=List.range m) λ z hz=>by
   rcases C4.mp hz with rfl|hz
   ·exact mem_range.mpr tq
   ·obtain⟨e,he,rfl⟩:=C8.mp hz;exact mem_range.mpr (lt e he)
  rw[x3,A5,u6]at this;lia
 obtain⟨e,he,ee⟩:=C8.mp mem;obtain⟨j,hj⟩:=getElem?_of_mem he;have a:=F.gE.ent e he;exact⟨j,e,hj,a.1.uniq fq (by rw[a.2,ee])⟩
theorem xU(G:cM m h r)(F:wV (aG r) 0 h m ac)(hx:x < m)(hy:y < m){e:Cs×Nat}(he:ac[j]?=some e)(hp:nO r ls x y e.1)(Qt:∀(i:Nat) (d:Cs×Nat),i < j->ac[i]?=some d->¬nO r ls x y d.1):LP h r ls x y e.1:=by
 have a:=F.gE.ent e (k7 he);refine⟨a.1.1,hp,λ q hq hA pq=>?_⟩;obtain⟨p',f',e',o'⟩:=km.ex (aG r) 0 h hq;have pp:nO r ls x y p':=(rz G hx hy f'.1 hq e').mpr pq;have Ap:Ah p' e.1:=by
  rcases o' with rfl|o'
  ·exact hA
  ·exact o'.trans hA
 obtain⟨i,d,hd,rfl⟩:=AD G F f';rcases Nat.lt_trichotomy i j with z|z|z
 ·exact Qt i d z hd pp
 ·subst z;rw[hd]at he;cases he;exact Ap.UZ
 ·exact(F.gE.at he hd z).not Ap
theorem Cc(G:cM m h r)(F:wV (aG r) 0 h m ac)(hx:x < m)(hy:y < m)(no:∀(i:Nat) (d:Cs×Nat),ac[i]?=some d->¬nO r ls x y d.1):∀q:Cs,q.length=h->¬nO r ls x y q:=λ q hq pq=>by obtain⟨p',f',e',o'⟩:=km.ex (aG r) 0 h hq;obtain⟨i,d,hd,rfl⟩:=AD G F f';exact no i d hd ((rz G hx hy f'.1 hq e').mpr pq)
theorem LP.uniq{p q:Cs}(a:LP h r ls x y p)(b:LP h r ls x y q):p=q:=by
 rcases Ah.Vr (p:=p) (q:=q) (a.len.trans b.len.symm)with e|e|e
 ·exact e
 ·exact absurd a.par (b.low p a.len e)
 ·exact absurd b.par (a.low q b.len e)
theorem Df(G:cM m h r)(hx:x < m)(hy:y < m):(∀q:Cs,q.length=h->¬nO r ls x y q)↔∀z,z < m->dU ls (mul r h x z)=dU ls (mul r h y z):=by
 constructor
 ·intro no z hz;obtain⟨p,hp,e⟩:=(G.ur z hz).sum G.fW G.tb.pos;have:=no p hp;unfold nO at this;rw[eM G hx hp,eM G hy hp,e]at this;exact Decidable.not_not.mp this
 ·intro al q hq pq;unfold nO at pq;rw[eM G hx hq,eM G hy hq]at pq;exact pq (al _ (tQ G G.tb.pos hq))
theorem kj.nO{m2:Nat}{g:Nat->Nat}(G:cM m h r)(H:kj m h r ls m2 q cD g)(hx:x < m)(hy:y < m){p:Cs}(hp:p.length=h):KK.nO q cD (g x) (g y) p↔KK.nO r ls x y p:=by
 have e:∀x,x < m->dU cD (KK.fi (aG q) 0 (g x) p)=dU ls (KK.fi (aG r) 0 x p):=λ x hx=>by have:=H.fI G (p.map λ v:Nat=>(v:Int)) 0 x (by rw[A5];lia) hx;rw[gJ,gJ]at this;rw[<- this,<- H.ls _ (tQ G hx hp)]
 unfold KK.nO;rw[e x hx,e y hy]
theorem kj.lp{m2:Nat}{g:Nat->Nat}(G:cM m h r)(H:kj m h r ls m2 q cD g)(hx:x < m)(hy:y < m){p:Cs}(a:LP h r ls x y p):LP h q cD (g x) (g y) p:=
 ⟨a.len,(H.nO G hx hy a.len).mpr a.par,λ s hs hA ps=>a.low s hs hA ((H.nO G hx hy hs).mp ps)⟩
end
end KK
namespace L3
open PySem.Spec PyProof.Rows L2 L5
section
variable {p pos:Pos}
def xE(ta:dF):cw:=λ δ M Q=>ta δ M λ ds M1=>∃n:Nat,ds=[.int n]/\n<=10000/\∀p,M1 p=none->Q (.ref p) (ai M1 p (.lst (ck 0 n)))
theorem Ju(hc:X.calm=true)(hg:Gl X "list")(hm:X.mg "list"=none)(GB:Gl X "range")(Gy:X.mg "range"=none)(ha:QA X [e1] ta)(hs:starEach [e1] X.env=(false,eval e1 X.env)::starEach [] X.env:=by rfl):QE X (.Call (.Name "list" p) [.Call (.Name "range" p2) [e1] [] cU] [] pos) (xE ta):=by refine bJ (dM (rZ hc) hg hm (by decide+kernel) (jn (dM rY GB Gy (by decide+kernel) ha (by decide) (by decide) hs (by rfl)) lT)) ?_;rintro σ H Q ⟨δ,M,Q2,hs,hm,q,k⟩;refine⟨δ,M,_,hs,hm,q,λ xs H1 ds M1 hd bR t1 ⟨n,e,hn,q1⟩=>?_⟩;subst e;obtain⟨x,r,rfl,hx,hr⟩:=ah.mp hd;cases(ar.mp hr);cases(ax.mp hx);refine⟨(n:Int),rfl,λ r hr=>⟨r,0,(n:Int),rfl,aL,⟨by lia,by lia⟩,⟨by lia,by lia⟩,by lia,λ p hp=>?_⟩⟩;rw[Int.sub_zero,r6];have m1:=bR.laid (o:=.xH 0 (n:Int)) hr;have tt:au H1 (ci H1 r (.xH 0 (n:Int))):=au.laid hr;have t3:au (ci H1 r (.xH 0 (n:Int))) (ci (ci H1 r (.xH 0 (n:Int))) p (.lst (lS 0 n))):=au.laid hp;exact k _ _ (.ref p) _ (aF.mpr rfl) (m1.put (u:=.lst (ck 0 n)) t3 ⟨_,aL,pV 0 n⟩) (t1.trans (tt.trans t3)) (q1 p (m1.free hp))
end
end L3
namespace L4
open L2 L3
theorem HW{p pos:Pos}(hc:X.calm=true)(hg:Gl X "list")(hm:X.mg "list"=none)(GB:Gl X "range")(Gy:X.mg "range"=none)(ha:WA X [e1] ta)(hs:starEach [e1] X.env=(false,eval e1 X.env)::starEach [] X.env:=by rfl):WE X (.Call (.Name "list" p) [.Call (.Name "range" p2) [e1] [] cU] [] pos) (xE ta):=⟨Ju hc hg hm GB Gy ha.h hs⟩
theorem Ez{Q:bW}(h:ta δ M λ ds M1=>∃n:Nat,ds=[.int n]/\n<=10000/\∀p,M1 p=none->Q (.ref p) (ai M1 p (.lst (ck 0 n)))):xE ta δ M Q:=h
end L4
namespace KK
open L3 L4 L5
open L2 hiding aR ir
local macro_rules|`(tactic|walk_at "mem")=>`(tactic|first|assumption|exact ag|(rw[av (by assumption)];assumption)|(rw[av (by assumption),av (by assumption)];assumption)|(rw[av (by assumption)];exact ag))
local macro_rules|`(tactic|walk_at "rd1")=>`(tactic|first|(with_reducible first|refine Nl ?_|refine EF ?_|refine IH ?_|refine xM ?_|refine Nz ?_|refine sW ?_|refine eJ ?_|refine Nj ?_|refine nL ?_|refine zH ?_)|((with_reducible refine' f_ ?k1 ?_);(case k1=>rfl))|(with_reducible first|refine I_ ?_|refine NA ?_|refine LF ?_|refine Nn ?_|refine Jd ?_|refine iS ?_|refine kL ?_|refine Nh ?_|refine Nt ?_|refine Ni ?_|refine IZ ?_|refine EL ?_|refine Nu ?_|refine IF ?_|refine Jb ?_|refine Jc ?_)|((with_reducible refine' sX ?k1 ?_);(case k1=>walk_at "mem"))|(with_reducible first|refine Ng ?_|refine LI ?_|refine VO ?_|refine RJ ?_|refine LD ?_|refine rp ?_|refine IG ?_|refine vi ?_|refine zM ?_|refine Ny ?_)|((with_reducible refine xN ?k1 ?_);(case k1=>first|assumption|decide))|((with_reducible refine Nx ?k1 ?k2 ?_);(case k1=>first|assumption|decide);(case k2=>first|assumption|decide|lia))|((with_reducible refine oZ ?k1 ?_);(case k1=>exact Hb (by decide) (by decide)))|(with_reducible first|refine IA ?_|refine Et ?_|refine IC ?_|refine IM ?_|refine EE ?_)|((with_reducible refine' Ja ?k1 ?_);(case k1=>rfl))|(with_reducible first|refine LH ?_|refine vn ?_|refine EI ?_|refine EJ ?_)|((with_reducible refine' EK ?k1 ?_);(case k1=>walk_at "mem"))|(with_reducible first|refine IW ?_|refine IV ?_|refine II ?_|refine zI ?_|refine ID ?_|refine Nr ?_|refine zJ ?_)|((with_reducible refine' dH ?k1 ?k2 ?_);(case k1=>walk_at "mem");(case k2=>rfl))|((with_reducible refine' aK ?k2 ?_);(case k2=>rfl))|((with_reducible refine' sU ?k1 ?_);(case k1=>walk_at "mem"))|((with_reducible refine' Nk ?k1 ?k2 ?_);(case k1=>walk_at "mem");(case k2=>rfl))|(with_reducible first|refine IB ?_|refine IE ?_|refine IP ?_|refine IQ ?_|refine Ez ?_|refine xK ?_|refine BW ?_|refine RI ?_|refine EC ?_|refine ED ?_|refine IS ?_|refine zK ?_))
local macro_rules|`(tactic|walk_at "rd")=>`(tactic|repeat(walk_at "rd1"))
local macro_rules|`(tactic|walk_at "rx")=>`(tactic|repeat(first|walk_at "rd1"|((with_reducible refine' RH ?k1 ?_);(case k1=>exact Nat.le_of_ble_eq_true rfl))))
local macro_rules|`(tactic|rfl')=>`(tactic|walk_at "rx")
def top(i:Nat):Stmt:=PySem.Challenge.pw_lastloser_k33_whole_led_onto_the_least.main.body.getD i (.Pass ⟨0,0,0,0⟩)
structure iA(K:J5)(mg:Str->Option jp):Prop where
 any:mg "any"=none
 enumerate:mg "enumerate"=none
 int:mg "int"=none
 len:mg "len"=none
 list:mg "list"=none
 max:mg "max"=none
 min:mg "min"=none
 range:mg "range"=none
 set:mg "set"=none
 sorted:mg "sorted"=none
 tuple:mg "tuple"=none
 zip:mg "zip"=none
def uW:fk:=λ ds M Q=>∃ns:List Int,ds=[.fl (ns.map D.int)]/\M 38=some (.eS (.lN "first_things.<locals>.<lambda>"))/\M 100=some (.eS (.lN "least.<locals>.<lambda>"))/\∀M',Q (.bl true) M'
theorem iM:aJ ["_law_flow_here","_law_many","_law_cell","_law_digit"] ["_law_flow_here","_law_many"] (aq (top 26)):=⟨rfl,rfl,rfl,by decide+kernel,rfl,by decide+kernel,by decide+kernel⟩
theorem J6(F:h_ K "_law_pick" "_law_pick" (top 26) f fd)(T:iA K mg):bT P w K mg base eX 1 f fd ["_law_flow_here","_law_many"] (cK K iJ):=by
 refine ki F iM (λ ds M Q h=>?_) (λ dE A outer s H E ds M Q hr h=>?_)
 ·obtain⟨a,c,n,rfl,_⟩:=h;rfl
 ·obtain⟨a,c,n,rfl,⟨ns,p,b,sd,ct,hf,hc,fN,hp,hb,Aw,Py⟩,Q3,hn1,k⟩:=h;refine⟨_,(af (cI (sx (aS (eT hr.units) (aI aR (ak 0) aj (λ _ _=>rfl)) aj (aN _)) (sv (aS ph (aI aR (ak 0) aj (λ _ _=>rfl)) (aO cb (by rfl) T.len (by decide+kernel) (aa (aI aR (ak 0) aj (λ _ _=>rfl)) ae)) (aN _)))).pt
 (af (aA (i:=2) iM.nd rfl (Or.inl rfl) (aI aR (aI aR (ak 0) aj (λ _ _=>rfl)) (aI aR (ak 0) aj (λ _ _=>rfl)) (λ _ _=>rfl)))
 (af (fH (bF bP (aI aR (ak 0) aj (λ _ _=>rfl)) aj) (gG (ak 0) aj oR))
 (ao (cI (aS V3 (ak 2) (bF vG aj aj) (aN _))
 (ao (fH (ak 2) (gG (ak 0) aj oR)))
 (ao (fH (bF jK (bF bP (bF bP (bF lU (aI aR (ak 0) aj (λ _ _=>rfl)) aj) (bF jK (ak 2) aj)) aj) aj) (gG (ak 0) aj oR)))))))
 aY)
 (af (cI (aS Sw (aI aR (ak 0) aj (λ _ _=>rfl)) aj (aN _))
 (af (aA (i:=3) iM.nd rfl (Or.inl rfl) (bF jK (aI aR (ak 0) aj (λ _ _=>rfl)) (ak 1)))
 (af (fH (bF xZ (aI aR (ak 0) aj (λ _ _=>rfl)) (ak 1)) (gG (ak 0) aj oR))
 (ao (aM (ak 3)))))
 aY)
 (af (fH (bF bP (aI aR (ak 0) aj (λ _ _=>rfl)) aj) (gG (ak 0) aj oR))
 (af (fH (bF jK (bF bP (bF bP (bF lU (aI aR (ak 0) aj (λ _ _=>rfl)) aj) aj) (aI aR (ak 0) aj (λ _ _=>rfl))) aj) (gG (ak 0) aj oR))
 (ao (aM (bF jK (bF xZ (bF jK (bF lU (bF bP (bF jK (aI aR (ak 0) aj (λ _ _=>rfl)) aj) aj) (bF bP (bF xZ (aI aR (ak 0) aj (λ _ _=>rfl)) aj) aj)) aj) aj) (ak 1)))))))),?_⟩
  refine gO (λ δ' M'=>∃(p b sd ct:Int) (v:Option D),δ'=[some (.ref a),some (.int n),v,none]/\M'=ai M a (.lst (Mf c p b sd ct))/\0<=p/\0<=b/\0<=sd/\sd < 2147483647) (λ N hN=>?_) ?_
  ·walk_at "rd";refine bf (λ W6=>?_) (λ W6=>?_)
   ·walk_at "rd";refine bf (λ hpl=>?_) (λ hpl=>?_)
    ·obtain⟨x,hx⟩:∃x:Int,ip (ns.map D.int) p=some (.int x):=by
      have hl:p.toNat < ns.length:=by rw[A5]at hpl;lia
      refine⟨ns[p.toNat],?_⟩;have e:((p.toNat:Nat):Int)=p:=by lia
      have q:ip (ns.map D.int) ((p.toNat:Nat):Int)=some (.int ns[p.toNat]):=bH (by simp[hl]);rw[e]at q;exact q
     walk_at "rd";refine dH hc hx ?_;walk_at "rd";refine EG ⟨by decide,by decide,by decide⟩ ?_;walk_at "rd";refine bf (λ PQ=>?_) (λ PQ=>?_)
     ·walk_at "rd";rw[eh];refine hN _ _ ⟨p+1,x,sd,ct,_,rfl,rfl,by lia,?_,Aw,Py⟩;have PQ:(10:Int)^(18:Int).toNat<=x:=PQ;have e:(10:Int)^(18:Int).toNat=1000000000000000000:=by decide
      lia
     ·walk_at "rd";rw[eh];refine hN _ _ ⟨p+1,b,_,ct,_,rfl,rfl,by lia,hb,A0 _ (by decide),p4 _ (by decide)⟩
    ·walk_at "rd";exact hN _ _ ⟨p,b,sd,ct,none,rfl,(qW hf).symm,hp,hb,Aw,Py⟩
   ·walk_at "rd";exact hN _ _ ⟨p,b,sd,ct,none,rfl,(qW hf).symm,hp,hb,Aw,Py⟩
  ·rintro δ' M' ⟨p,b,sd,ct,v,rfl,rfl,hp,hb,Aw,Py⟩;walk_at "rd";refine bf (λ W6=>?_) (λ W6=>?_)
   ·walk_at "rd";rw[eh];refine aw (k _ _ (A0 _ (by lia)) (p4 _ Q3) ⟨ns,p,_,sd,ct,ag,by rw[av fN];exact hc,fN,hp,Int.ediv_nonneg hb (by lia),Aw,Py⟩)
   ·walk_at "rd";refine oZ (Qo ?_ ?_) ?_
    ·have:=A0 ((sd*48271+12820163+(ct+1)) % 2147483647) (show(65521:Int)≠0 by decide);lia
    ·have:=p4 ((sd*48271+12820163+(ct+1)) % 2147483647) (show(0:Int) < 65521 by decide);lia
    walk_at "rd";rw[eh,eh];exact aw (k _ _ (A0 _ (by lia)) (p4 _ Q3) ⟨ns,p,b,_,_,ag,by rw[av fN];exact hc,fN,hp,hb,A0 _ (by decide),p4 _ (by decide)⟩)
theorem vc:aJ ["_law_script"] ["_law_script"] (aq (top 25)):=⟨rfl,rfl,rfl,by decide+kernel,rfl,by decide+kernel,by decide+kernel⟩
theorem Kd(F:h_ K "_law_flow" "_law_flow" (top 25) f fd)(T:iA K mg):bT P w K mg base eX 1 f fd ["_law_script"] (cK K zB):=by
 refine ki F vc (λ ds M Q h=>?_) (λ dE A outer s H E ds M Q hr h=>?_)
 ·obtain⟨a,rfl,_⟩:=h;rfl
 ·obtain⟨ns,rfl,k⟩:=h;refine⟨_,(ao (aM (cZ (aa (cg yO (by rfl) T.list (by decide+kernel) (aa (ak 0) ae)) (aa aj (aa aj (aa aj (aa aj ae)))))))),?_⟩;walk_at "rd";refine EB λ c rO=>?_;walk_at "rd";refine⟨small (by show 5<=10000;decide),λ fl U5=>?_⟩;have fN:c≠fl:=λ z=>by subst z;rw[ag]at U5;cases U5
  exact aw (k fl c _ ⟨ns,0,0,1,0,ag,by rw[av fN];exact ag,fN,by decide,by decide,by decide,by decide⟩ (be.new (be.new be.rfl rO _) U5 _))
def D_:fk:=λ ds M Q=>∃(v lo w:Nat),ds=[.int v,.int lo,.int w]/\0 < w/\Q (.int (cnt v lo w)) M
def zw(B H:Nat):fk:=λ ds M Q=>∃(f c:ww),ds=[.ref f]/\Flow M f c/\∀(m h:Nat) (x0:List Row) (ls:Row) (M':Mem),cM m h x0->m<=B->h<=H->iy m ls->Fl f c M M'->Q (bI x0 ls) M'
theorem oQ:aJ ["_law_value","_law_low","_law_wide"] ["_law_value","_law_low","_law_wide"] (aq (top 31)):=⟨rfl,rfl,rfl,by decide+kernel,rfl,by decide+kernel,by decide+kernel⟩
theorem OU(F:h_ K "_law_counted" "_law_counted" (top 31) f fd)(T:iA K mg):bT P w K mg base eX 1 f fd ["_law_value","_law_low","_law_wide"] (cK K D_):=by
 refine ki F oQ (λ ds M Q h=>?_) (λ dE A outer s H E ds M Q hr h=>?_)
 ·obtain⟨v,lo,w,rfl,_⟩:=h;rfl
 ·obtain⟨v,lo,w,rfl,hw,k⟩:=h;refine⟨_,(af (cI (aS ph (ak 0) (bF bP (ak 1) (ak 2)) (aN _))
 (ao (aM (ak 0)))
 aY)
 (ao (aM (bF bP (ak 1) (bF jK (bF zX (ak 0) (ak 1)) (ak 2)))))),?_⟩
  rfl';refine bf (λ hl=>?_) (λ hl=>?_)
  ·rfl';unfold cnt at k;rw[J3 (by lia)]at k;exact aw k
  ·have L6:(0:Int) < w:=by lia
   rfl';unfold cnt at k;rw[J4 (by lia)]at k;rw[show(lo:Int)+((v:Int) - (lo:Int)) % (w:Int)=((lo+(v - lo) % w:Nat):Int) by
    rw[Int.natCast_add,Int.natCast_emod,Int.natCast_sub (by lia)]]
   exact aw k
theorem aX:aJ ["_law_flow_here","_law_low","_law_wide","_law_weights","_law_states","_law_rows","_law_row","_law_weight","_law_then"] ["_law_flow_here"] (aq (top 33)):=⟨rfl,rfl,rfl,by decide+kernel,rfl,by decide+kernel,by decide+kernel⟩
theorem J'(F:h_ K "_law_long_table" "_law_long_table" (top 33) f fd)(T:iA K mg)(ay:b_ P w K mg base 1 "_law_pick" ["_law_flow_here","_law_many"] iJ)(gf:b_ P w K mg base 1 "_law_counted" ["_law_value","_law_low","_law_wide"] D_):bT P w K mg base eX 2 f fd ["_law_flow_here"] (cK K (zw 19 2)):=by
 refine ki F aX (λ ds M Q h=>?_) (λ dE A outer s H E ds M Q hr h=>?_)
 ·obtain⟨f,c,rfl,_⟩:=h;rfl
 ·obtain⟨f,cc,rfl,hF,k⟩:=h;refine⟨_,(af (aA (i:=1) aX.nd rfl (Or.inl rfl) (aE ay (hr.mono (by decide)) (by rfl) (aa (ak 0) (aa aj ae))))
 (af (aA (i:=2) aX.nd rfl (Or.inl rfl) (bF bP aj (aE ay (hr.mono (by decide)) (by rfl) (aa (ak 0) (aa aj ae)))))
 (af (cQ (i:=3) aX.nd rfl (Or.inl rfl) (tgs:=["_law_h"]) (fr:=[0]) ⟨bD (by kernel_rfl),rfl,(λ _ _ h=>h),(bo rfl T.range (aa (bF bP aj (aE ay (hr.mono (by decide)) (by rfl) (aa (ak 0) (aa aj ae)))) ae)),(bj (λ _ _ _ _ _=>(aQ (i:=0) (show(["_law_h","_law_flow_here"]:List Str).Nodup by decide+kernel) rfl (Or.inl rfl))) (by decide)),(λ _ _ _ _ _=>bC),(λ _ _ _ _ _=>(aE ay (hr.mono (by decide)) (by rfl) (aa (ak 1) (aa aj ae))))⟩)
 (af (aA (i:=4) aX.nd rfl (Or.inl rfl) (cZ (aa aj ae)))
 (af (aA (i:=5) aX.nd rfl (Or.inl rfl) (cZ ae))
 (af (eN A2 (aS ph (aO cb (by rfl) T.len (by decide+kernel) (aa (ak 5) ae)) (aO cb (by rfl) T.len (by decide+kernel) (aa (ak 4) ae)) (aN _))
 (af (aA (i:=6) aX.nd rfl (Or.inl rfl) (cZ ae))
 (af (dO A2 rfl (dG (ak 3)) (bu (i:=7) aX.nd rfl (Or.inl rfl))
 (af (aA (i:=8) aX.nd rfl (Or.inl rfl) (aE gf (hr.mono (by decide)) (by rfl) (aa (bF bP (aI aR (ak 4) (aO cb (by rfl) T.len (by decide+kernel) (aa (ak 5) ae)) (λ _ _=>rfl)) (ak 7)) (aa (ak 1) (aa (ak 2) ae)))))
 (af (cI (aS (gr hr.units) (ak 8) (ak 4) rfl)
 (ao (cx (eZ i4 g9 i3 bL (ak 4) (aa (ak 8) ae))))
 aY)
 (ao (cx (eZ i4 g9 i3 bL (ak 6) (aa (eZ i4 PySem.F.slot_list_index PySem.F.type_list_index (gP hr.units) (ak 4) (aa (ak 8) ae)) ae)))))))
 (ao (cx (eZ i4 g9 i3 bL (ak 5) (aa (cg br (by rfl) T.tuple (by decide+kernel) (aa (ak 6) ae)) ae)))))))
 (ao (aM (eO (aa (cg br (by rfl) T.tuple (by decide+kernel) (aa (ak 5) ae)) (aa (eY br cp (by rfl) T.tuple (by decide+kernel) (tgs:=["_law_k"]) (fr:=[0]) ⟨bD (by kernel_rfl),rfl,(λ _ _ h=>h),(bo rfl T.range (aa (aO cb (by rfl) T.len (by decide+kernel) (aa (ak 5) ae)) ae)),(bj (λ _ _ _ _ _=>(aQ (i:=0) (show(["_law_k","_law_flow_here"]:List Str).Nodup by decide+kernel) rfl (Or.inl rfl))) (by decide)),(λ _ _ _ _ _=>(ko (aS (eT hr.units) (aE ay (hr.mono (by decide)) (by rfl) (aa (ak 1) (aa aj ae))) aj (aN _)))),(λ _ _ _ _ _=>(ak 0))⟩) ae))))))))))),?_⟩
  rfl';refine⟨f,cc,10,rfl,hF,by decide,by decide,λ d1 o1 P0 Q_ w_=>?_⟩;have F1:Fl f cc M _:=Fl.pick w_;generalize ai M f o1=M1 at*;obtain⟨lo,rfl⟩:∃n:Nat,d1=(n:Int):=⟨d1.toNat,by lia⟩;rfl';refine⟨f,cc,10,rfl,F1.bh,by decide,by decide,λ d2 o2 Ve Vd Dp=>?_⟩;have F2:=F1.trans (Fl.pick Dp);generalize ai M1 f o2=M2 at*;obtain⟨w,ew⟩:∃n:Nat,1+d2=(n:Int):=⟨(1+d2).toNat,by lia⟩;rfl';rw[ew];refine⟨f,cc,2,rfl,F2.bh,by decide,by decide,λ d3 o3 h30 h31 Q8=>?_⟩;have F3:=F2.trans (Fl.pick Q8);generalize ai M2 f o3=M3 at*;rfl';refine⟨dh (by lia) (by lia),?_⟩;rw[cL];refine gY nD (λ ys M'=>Fl f cc M M'/\∀y∈ys,y < 3) (by rw[u6];lia) ⟨F3,λ y h=>by cases h⟩ (λ i x ys M' N hx hl hI hN=>?_) (λ ws M4 hl hI=>?_)
  ·rfl';refine⟨f,cc,3,rfl,hI.1.bh,by decide,by decide,λ d o h0 h1 CJ=>?_⟩;obtain⟨y,rfl⟩:∃n:Nat,d=(n:Int):=⟨d.toNat,by lia⟩;refine hN y _ ⟨hI.1.trans (Fl.pick CJ),λ z hz=>?_⟩;rcases A6.mp hz with e|e
   ·exact hI.2 z e
   ·rw[p8.mp e];lia
  ·obtain⟨F4,hw3⟩:=hI;rw[u6]at hl;intro qo yp;have F5:=F4.trans (Fl.put (o:=.lst (ws.map nD)) F4.bh yp);have L1:ai M4 qo (.lst (ws.map nD)) qo=some (.lst (ws.map nD)):=ag;generalize ai M4 qo (.lst (ws.map nD))=M5 at*;rfl';intro p hp;rfl';intro q hq;have C:mI (λ _=>True) ws.length (λ i s=>cnt (s+ws.getD i 0) lo w):=⟨λ _ _ _ _=>True.intro,λ s i j _ _ _=>AW (by lia)⟩;have hU:∀i s,cnt (s+ws.getD i 0) lo w∈List.range (lo+w):=λ i s=>mem_range.mpr (Ha (by lia));have X0:Sx nD (λ i s=>cnt (s+ws.getD i 0) lo w) 0 ws.length (List.range (lo+w)) p q [0] [] M5 (ai (ai M5 p (.lst [.int 0])) q (.lst [])):=by have jE:p≠q:=bM (show ai M5 p (.lst [.int 0]) p=some _ from ag) hq;refine⟨be.new (be.new be.rfl hp _) hq _,hp,be.free (be.new be.rfl hp _) hq,jE,?_,ag,qi.start (mem_range.mpr (by lia)),by simp⟩;rw[av jE,ag];rfl
   generalize ai (ai M5 p (.lst [.int 0])) q (.lst [])=M6 at*;have Yv:(List.range (lo+w)).length<=19:=by rw[u6];lia
   generalize List.range (lo+w)=U at*;rfl';refine eR ⟨λ m δ M'=>∃(v6 v7 v8:Option D) (aH:List Nat) (x0:List Row),δ=[some (.ref f),some (.int lo),some (.int w),some (.ref qo),some (.ref p),some (.ref q),v6,v7,v8]/\Sx nD (λ i s=>cnt (s+ws.getD i 0) lo w) 0 ws.length U p q aH x0 M5 M'/\m=20 - x0.length,⟨_,none,none,none,[0],[],rfl,X0,rfl⟩,?_⟩;rintro m δ M' ⟨v6,v7,v8,aH,x0,rfl,X,rfl⟩;have hfew:=X.cY;have hst:=X.st;have qr:=X.jQ;rfl';rw[A5,A5];refine bf (λ iC=>?_) (λ KR=>?_)
   ·obtain⟨s,hs⟩:∃s,aH[x0.length]?=some s:=⟨_,i0 (by lia)⟩;refine⟨λ δ' oj=>∃(v6 v7 v8:Option D) (aH:List Nat) (r:Row),δ'=[some (.ref f),some (.int lo),some (.int w),some (.ref qo),some (.ref p),some (.ref q),v6,v7,v8]/\Sx nD (λ i s=>cnt (s+ws.getD i 0) lo w) 0 ws.length U p q aH (x0++[r]) M5 oj,?_,?_⟩
    ·rintro δ' oj ⟨v6,v7,v8,aH,r,rfl,X⟩;exact⟨_,by rw[o7,j8];lia,v6,v7,v8,aH,_,rfl,X,rfl⟩
    ·rfl';intro pw Gr;have fw:=X.free Gr;have X1:=X.new Gr (.lst []);have Pu:ai M' pw (.lst []) pw=some (.lst (([]:Row).map D.int)):=ag;generalize ai M' pw (.lst [])=M7 at*;have ZW:=X1.ext _ _ L1;rfl';refine wd (ds:=ws.map nD) (λ i δ M8=>∃(v7 v8:Option D) (aH:List Nat) (r:Row),δ=[some (.ref f),some (.int lo),some (.int w),some (.ref qo),some (.ref p),some (.ref q),some (.ref pw),v7,v8]/\Sx nD (λ i s=>cnt (s+ws.getD i 0) lo w) 0 ws.length U p q aH x0 M5 M8/\M8 pw=some (.lst (r.map D.int))/\cJ (λ i s=>cnt (s+ws.getD i 0) lo w) aH s i r/\aH[x0.length]?=some s) ⟨v7,v8,aH,[],rfl,X1,Pu,cJ.nil _ _ _,hs⟩ (λ i δ M8 _ h=>?_) (λ i d δ M8 hd h=>?_) (λ δ M8 h=>?_)
     ·obtain⟨_,_,_,_,_,X,_⟩:=h;exact X.ext _ _ L1
     ·obtain⟨v7,v8,aH,r,rfl,X,hw,hr,hs⟩:=h;rw[r0]at hd;obtain⟨y,hy,rfl⟩:=Option.map_eq_some_iff.mp hd;have HA:i < ws.length:=(c9.mp hy).1;have ey:ws.getD i 0=y:=by rw[c6,hy];rfl
      have hst:=X.st;have qr:=X.jQ;rfl';rw[A5];refine dH X.st (d:=.int s) (bH (by rw[r0,hs];rfl)) ?_;rfl';refine⟨s+y,lo,w,rfl,by lia,eJ ?_⟩;have PZ:(0:Nat)<=60:=by decide
      have Pw:U.length<=300:=by lia
      have yt:ws.length<=12:=by lia
      with_reducible refine nI cG PZ X Pw yt fw hw hr hs HA (hU i s) ?_ ?_ ?_ (λ gK r' M' X' L6 Gq gT=>?_)
      ·show some (some (D.int (cnt (s+y) lo w:Nat)))=some (some (nD (cnt (s+ws.getD i 0) lo w)));rw[ey]
      ·rfl
      ·rfl
      ·exact⟨_,_,gK,r',rfl,X',L6,Gq,gT⟩
     ·obtain⟨v7,v8,aH,r,rfl,X,hw,hr,hs⟩:=h;rw[A5]at hr;have hfew:=X.cY;have qr:=X.jQ;rfl';refine⟨⟨rfl,_,qr⟩,?_⟩;rfl';refine cq hw ?_;rfl';refine fK qr (by rw[A5];exact p6 (show x0.length<=300 by lia) (by decide)) ?_;exact⟨_,_,_,aH,r,rfl,X.next hs hr⟩
   ·have el:x0.length=aH.length:=by have:=X.le;lia
    have TG:=X.ex.tb C True.intro el (by lia) (by lia);have F6:=F5.trans (gc X.ext F5.bh);have h19:x0.length<=19:=by lia
    rfl';refine cq qr ?_;rfl';rw[A5];refine⟨dh (by lia) (by lia),?_⟩;rw[r6];refine tW (λ i zn M7=>∃ls:Row,zn=ls.map D.int/\iy i ls/\Fl f cc M M7) ⟨[],rfl,iy.nil 0,F6⟩ (λ i zn M7 hi h=>?_) (λ i d zn M7 hd h=>?_) (λ zn M7 h=>?_)
    ·obtain⟨ls,rfl,L,_⟩:=h;rw[cF]at hi;have:=L.cY;rw[A5];exact small (by lia)
    ·obtain⟨ls,rfl,L,F7⟩:=h;obtain⟨hi,rfl⟩:=fE hd;rfl';refine⟨f,cc,4,rfl,F7.bh,by decide,by decide,λ d o _ _ CJ=>?_⟩;have F8:=F7.trans (Fl.pick CJ);generalize ai M7 f o=M8 at*;rfl';refine bf (λ _=>?_) (λ _=>?_)
     ·rfl';exact⟨ls++[(i:Int)],by rw[A7,C5];rfl,L.add,F8⟩
     ·exact⟨ls,rfl,L.up,F8⟩
    ·obtain⟨ls,rfl,L,F7⟩:=h;rw[cF]at L;rfl';exact aw (k _ _ x0 ls _ TG h19 (by lia) L F7)
def D':fk:=λ ds M Q=>∃(f c:ww) (n:Nat),ds=[.ref f,.int n]/\Flow M f c/\n<=6/\∀(m:Nat) (x0:List Row) (ls:Row) (M':Mem),cM m n x0->m<=16->iy m ls->Fl f c M M'->Q (bI x0 ls) M'
theorem aW:aJ ["_law_flow_here","_law_many","_law_counters","_law_weights","_law_states","_law_rows","_law_row","_law_h","_law_trios","_law_then"] ["_law_flow_here","_law_many"] (aq (top 32)):=⟨rfl,rfl,rfl,by decide+kernel,rfl,by decide+kernel,by decide+kernel⟩
theorem Kg(F:h_ K "_law_any_table" "_law_any_table" (top 32) f fd)(T:iA K mg)(ay:b_ P w K mg base 1 "_law_pick" ["_law_flow_here","_law_many"] iJ)(gf:b_ P w K mg base 1 "_law_counted" ["_law_value","_law_low","_law_wide"] D_):bT P w K mg base eX 2 f fd ["_law_flow_here","_law_many"] (cK K D'):=by
 refine ki F aW (λ ds M Q h=>?_) (λ dE A outer s H E ds M Q hr h=>?_)
 ·obtain⟨f,c,n,rfl,_⟩:=h;rfl
 ·obtain⟨f,cc,n,rfl,hF,hn,k⟩:=h;refine⟨_,(af (aA (i:=2) aW.nd rfl (Or.inr rfl) (cZ (aa (eO (aa (aE ay (hr.mono (by decide)) (by rfl) (aa (ak 0) (aa aj ae))) (aa (bF bP aj (aE ay (hr.mono (by decide)) (by rfl) (aa (ak 0) (aa aj ae)))) ae))) ae)))
 (af (cI (aS (eT hr.units) (aE ay (hr.mono (by decide)) (by rfl) (aa (ak 0) (aa aj ae))) aj (aN _))
 (ao (aA (i:=2) aW.nd rfl (Or.inr rfl) (ow (tgs:=["_law_k"]) (fr:=[0]) ⟨bD (by kernel_rfl),rfl,(λ _ _ h=>h),(bo rfl T.range (aa aj ae)),(bj (λ _ _ _ _ _=>(aQ (i:=0) (show(["_law_k","_law_flow_here"]:List Str).Nodup by decide+kernel) rfl (Or.inl rfl))) (by decide)),(λ _ _ _ _ _=>bC),(λ _ _ _ _ _=>(eO (aa (aE ay (hr.mono (by decide)) (by rfl) (aa (ak 1) (aa aj ae))) (aa (bF bP aj (aE ay (hr.mono (by decide)) (by rfl) (aa (ak 1) (aa aj ae)))) ae))))⟩)))
 aY)
 (af (cQ (i:=3) aW.nd rfl (Or.inl rfl) (tgs:=["_law_h"]) (fr:=[0,2]) ⟨bD (by kernel_rfl),rfl,(λ _ _ h=>h),(bo rfl T.range (aa (ak 1) ae)),(bj (λ _ _ _ _ _=>(aQ (i:=0) (show(["_law_h","_law_flow_here","_law_counters"]:List Str).Nodup by decide+kernel) rfl (Or.inl rfl))) (by decide)),(λ _ _ _ _ _=>bC),(λ _ _ _ _ _=>(ow (tgs:=["_law_counter"]) (fr:=[1]) ⟨bD (by kernel_rfl),rfl,(λ _ _ h=>h),(dG (ak 2)),(bj (λ _ _ _ _ _=>(aQ (i:=0) (show(["_law_counter","_law_flow_here"]:List Str).Nodup by decide+kernel) rfl (Or.inl rfl))) (by decide)),(λ _ _ _ _ _=>bC),(λ _ _ _ _ _=>(aE ay (hr.mono (by decide)) (by rfl) (aa (ak 1) (aa aj ae))))⟩))⟩)
 (af (aA (i:=4) aW.nd rfl (Or.inl rfl) (cZ (aa (bF lU (eO (aa aj ae)) (aO cb (by rfl) T.len (by decide+kernel) (aa (ak 2) ae))) ae)))
 (af (aA (i:=5) aW.nd rfl (Or.inl rfl) (cZ ae))
 (af (eN A2 (aS ph (aO cb (by rfl) T.len (by decide+kernel) (aa (ak 5) ae)) (aO cb (by rfl) T.len (by decide+kernel) (aa (ak 4) ae)) (aN _))
 (af (aA (i:=6) aW.nd rfl (Or.inl rfl) (cZ ae))
 (af (dO A2 rfl (bo rfl T.range (aa (ak 1) ae)) (bu (i:=7) aW.nd rfl (Or.inl rfl))
 (af (aA (i:=8) aW.nd rfl (Or.inl rfl) (Mv rfl (by rfl) T.list (by rfl) T.zip (aa (aI aR (ak 4) (aO cb (by rfl) T.len (by decide+kernel) (aa (ak 5) ae)) (λ _ _=>rfl)) (aa (aI aR (ak 3) (ak 7) (λ _ _=>rfl)) (aa (ak 2) ae)))))
 (af (aA (i:=9) aW.nd rfl (Or.inl rfl) (eY br cp (by rfl) T.tuple (by decide+kernel) (tgs:=["_law_value","_law_weight","_law_pair"]) (fr:=[]) ⟨bD (by kernel_rfl),rfl,(λ _ _ h=>h),(dG (ak 8)),(DA (λ _ _ _ _ _=>(iU rfl (bU (aQ (i:=0) (show(["_law_value","_law_weight","_law_pair"]:List Str).Nodup by decide+kernel) rfl (Or.inl rfl)) (bU (aQ (i:=1) (show(["_law_value","_law_weight","_law_pair"]:List Str).Nodup by decide+kernel) rfl (Or.inl rfl)) (bU (aQ (i:=2) (show(["_law_value","_law_weight","_law_pair"]:List Str).Nodup by decide+kernel) rfl (Or.inl rfl)) fS))))) (by decide) (by decide) (by decide)),(λ _ _ _ _ _=>bC),(λ _ _ _ _ _=>(aE gf (hr.mono (by decide)) (by rfl) (aa (bF bP (ak 0) (ak 1)) (aa (aI aR (ak 2) aj (λ _ _=>rfl)) (aa (aI aR (ak 2) aj (λ _ _=>rfl)) ae)))))⟩))
 (af (cI (aS (gr hr.units) (ak 9) (ak 4) rfl)
 (ao (cx (eZ i4 g9 i3 bL (ak 4) (aa (ak 9) ae))))
 aY)
 (ao (cx (eZ i4 g9 i3 bL (ak 6) (aa (eZ i4 PySem.F.slot_list_index PySem.F.type_list_index (gP hr.units) (ak 4) (aa (ak 9) ae)) ae))))))))
 (ao (cx (eZ i4 g9 i3 bL (ak 5) (aa (cg br (by rfl) T.tuple (by decide+kernel) (aa (ak 6) ae)) ae)))))))
 (ao (aM (eO (aa (cg br (by rfl) T.tuple (by decide+kernel) (aa (ak 5) ae)) (aa (eY br cp (by rfl) T.tuple (by decide+kernel) (tgs:=["_law_k"]) (fr:=[0]) ⟨bD (by kernel_rfl),rfl,(λ _ _ h=>h),(bo rfl T.range (aa (aO cb (by rfl) T.len (by decide+kernel) (aa (ak 5) ae)) ae)),(bj (λ _ _ _ _ _=>(aQ (i:=0) (show(["_law_k","_law_flow_here"]:List Str).Nodup by decide+kernel) rfl (Or.inl rfl))) (by decide)),(λ _ _ _ _ _=>(ko (aS (eT hr.units) (aE ay (hr.mono (by decide)) (by rfl) (aa (ak 1) (aa aj ae))) aj (aN _)))),(λ _ _ _ _ _=>(ak 0))⟩) ae))))))))))),?_⟩
  refine gO (λ δ' M'=>∃(pc:ww) (cs:List (Nat×Nat)),δ'=[some (.ref f),some (.int n),some (.ref pc),none,none,none,none,none,none,none]/\mT cs/\M' pc=some (.lst (cs.map pD))/\pc≠f/\Fl f cc M M') (λ N hN=>?_) ?_
  ·rfl';refine⟨f,cc,4,rfl,hF,by decide,by decide,λ d1 o1 P0 Q_ w_=>?_⟩;have F1:Fl f cc M _:=Fl.pick w_;generalize ai M f o1=M1 at*;rfl';refine⟨f,cc,4,rfl,F1.bh,by decide,by decide,λ d2 o2 Ve Vd Dp=>?_⟩;have F2:=F1.trans (Fl.pick Dp);generalize ai M1 f o2=M2 at*;rfl';intro p hp;refine hN _ _ ⟨p,[(d1.toNat,(1+d2).toNat)],rfl,.inl ⟨_,_,rfl,by lia,by lia,by lia⟩,?_,(F2.bh.ne hp).1,F2.trans (Fl.put F2.bh hp)⟩;rw[ag];show _=some (MO.lst [.tup [.int (d1.toNat:Int),.int ((1+d2).toNat:Int)]]);rw[show((d1.toNat:Nat):Int)=d1 by lia,show(((1+d2).toNat:Nat):Int)=1+d2 by lia]
  rintro δ' M' ⟨pc,cs,rfl,hc,uA,fN,F2⟩;refine gO (λ δ' M'=>∃(pc:ww) (cs:List (Nat×Nat)),δ'=[some (.ref f),some (.int n),some (.ref pc),none,none,none,none,none,none,none]/\mT cs/\M' pc=some (.lst (cs.map pD))/\pc≠f/\Fl f cc M M') (λ N hN=>?_) ?_
  ·rfl';refine⟨f,cc,2,rfl,F2.bh,by decide,by decide,λ d1 o1 P0 Q_ w_=>?_⟩;have P1:=Fl.pick w_;have F3:=F2.trans P1;have uA:=P1.mv _ _ fN uA;generalize ai M' f o1=M3 at*;rfl';refine bf (λ _=>?_) (λ _=>?_)
   ·rfl';refine⟨dh (by lia) (by lia),?_⟩;rw[cL];refine gY pD (λ ys M'=>Fl f cc M M'/\∀y∈ys,y.1<=2/\1<=y.2/\y.2<=2) (by decide) ⟨F3,λ y h=>by cases h⟩ (λ i x ys M' N hx hl hI hN=>?_) (λ cs M4 hl hI=>?_)
    ·rfl';refine⟨f,cc,3,rfl,hI.1.bh,by decide,by decide,λ d1 o1 P0 Q_ w_=>?_⟩;have F4:=hI.1.trans (Fl.pick w_);generalize ai M' f o1=M5 at*;rfl';refine⟨f,cc,2,rfl,F4.bh,by decide,by decide,λ d2 o2 Ve Vd Dp=>?_⟩;have F5:=F4.trans (Fl.pick Dp);generalize ai M5 f o2=M6 at*;rfl';have:=hN (d1.toNat,(1+d2).toNat) M6 ⟨F5,λ y hy=>?_⟩
     ·unfold pD at this;dsimp only at this;rw[show((d1.toNat:Nat):Int)=d1 by lia,show(((1+d2).toNat:Nat):Int)=1+d2 by lia]at this;exact this
     ·rcases A6.mp hy with e|e
      ·exact hI.2 y e
      ·rw[p8.mp e];dsimp only;lia
    ·obtain⟨F4,h4⟩:=hI;intro p hp;rfl';have hl:cs.length=2:=hl;obtain⟨a,b,rfl⟩:∃a b,cs=[a,b]:=by
      match cs,hl with
      |[a,b],_=>exact⟨a,b,rfl⟩
     have ha:=h4 a (by simp);have hb:=h4 b (by simp);exact hN _ _ ⟨p,[a,b],rfl,.inr ⟨_,_,_,_,rfl,ha.1,ha.2.1,ha.2.2,hb.1,hb.2.1,hb.2.2⟩,ag,(F4.bh.ne hp).1,F4.trans (Fl.put F4.bh hp)⟩
   ·rfl';exact hN _ _ ⟨pc,cs,rfl,hc,uA,fN,F3⟩
  clear uA fN F2 hc M' pc cs;rintro δ' M1 ⟨pc,cs,rfl,hc,uA,fN,F1⟩;have hbx:=hc.box;rfl';refine⟨dh (by lia) (by lia),?_⟩;rw[r6,cL];refine gY (β:=ww×Cs) (λ y=>.ref y.1) (λ ys M'=>Fl f cc M M'/\M' pc=some (.lst (cs.map pD))/\∀y∈ys,y.1≠f/\M' y.1=some (.lst (y.2.map nD))/\y.2.length=cs.length) (by rw[u6];lia) ⟨F1,uA,λ y h=>by cases h⟩ (λ i x ys M' N hx hl hI hN=>?_) (λ ys M4 hl hI=>?_)
  ·obtain⟨F2,uA,tN⟩:=hI;rfl';refine pZ pD nD (λ zs M'=>Fl f cc M M'/\M' pc=some (.lst (cs.map pD))/\∀y∈ys,y.1≠f/\M' y.1=some (.lst (y.2.map nD))/\y.2.length=cs.length) (by lia) ⟨F2,uA,tN⟩ (λ _ _ h=>h.2.1) (λ i x zs M' N hx hl hI hN=>?_) (λ zs M4 hl hI=>?_)
   ·obtain⟨F3,uA,tN⟩:=hI;rfl';refine⟨f,cc,3,rfl,F3.bh,by decide,by decide,λ d o h0 h1 CJ=>?_⟩;have P:=Fl.pick CJ;have:=hN d.toNat _ ⟨F3.trans P,P.mv _ _ fN uA,λ y hy=>⟨(tN y hy).1,P.mv _ _ (tN y hy).1 (tN y hy).2.1,(tN y hy).2.2⟩⟩;unfold nD at this;rw[show((d.toNat:Nat):Int)=d by lia]at this;exact this
   ·obtain⟨F3,uA,tN⟩:=hI;intro p hp;refine hN (p,zs) _ ⟨F3.trans (Fl.put F3.bh hp),by rw[av (bM uA hp)];exact uA,λ y hy=>?_⟩;rcases A6.mp hy with e|e
    ·have:=tN y e;exact⟨this.1,by rw[av (bM this.2.1 hp)];exact this.2.1,this.2.2⟩
    ·rw[p8.mp e];exact⟨(F3.bh.ne hp).1,ag,hl⟩
  ·obtain⟨F4,uA,tN⟩:=hI;rw[u6]at hl;intro qo yp;have F5:=F4.trans (Fl.put (o:=.lst (ys.map λ y=>.ref y.1)) F4.bh yp);have uA:ai M4 qo (.lst (ys.map λ y=>.ref y.1)) pc=some (.lst (cs.map pD)):=by rw[av (bM uA yp)];exact uA
   have tN:∀y∈ys,ai M4 qo (.lst (ys.map λ y=>.ref y.1)) y.1=some (.lst (y.2.map nD))/\y.2.length=cs.length:=λ y hy=>⟨by rw[av (bM (tN y hy).2.1 yp)];exact(tN y hy).2.1,(tN y hy).2.2⟩;have L1:ai M4 qo (.lst (ys.map λ y=>.ref y.1)) qo=some (.lst (ys.map λ y=>.ref y.1)):=ag;generalize ai M4 qo (.lst (ys.map λ y=>.ref y.1))=M5 at*;have el:(ys.map (·.2)).length=n:=by rw[A5];exact hl
   have C:=hc.fW (ws:=ys.map (·.2)) λ w hw=>by obtain⟨y,hy,rfl⟩:=C8.mp hw;exact(tN y hy).2
   rw[el]at C;have hz:iB cs.length∈ue cs:=yY hc.pos;have hU:∀i s,i < n->s.length=cs.length->stC cs ((ys.map (·.2)).getD i []) s∈ue cs:=λ i s hi hs=>zt hc.pos (by rw[c6,r0,i0 (by lia)];exact(tN _ (x9 _)).2) hs;generalize YC:(λ i s=>stC cs ((ys.map (·.2)).getD i []) s)=F at C;rfl';rw[A5];refine vj (by lia) (by lia) ?_;rw[r6];rfl';intro p hp;rfl';intro q hq;have X0:Sx gV F (iB cs.length) n (ue cs) p q [iB cs.length] [] M5 (ai (ai M5 p (.lst [.tup (List.replicate cs.length (.int 0))])) q (.lst [])):=by have jE:p≠q:=bM (show ai M5 p (.lst [.tup (List.replicate cs.length (.int 0))]) p=some _ from ag) hq;refine⟨be.new (be.new be.rfl hp _) hq _,hp,be.free (be.new be.rfl hp _) hq,jE,?_,ag,qi.start hz,by simp⟩;rw[av jE,ag];show _=some (MO.lst [gV (iB cs.length)]);unfold gV iB;rw[map_replicate];rfl
   generalize ai (ai M5 p (.lst [.tup (List.replicate cs.length (.int 0))])) q (.lst [])=M6 at*;rfl';refine eR ⟨λ m δ M'=>∃(v6 v7 v8 v9:Option D) (aH:List Cs) (x0:List Row),δ=[some (.ref f),some (.int n),some (.ref pc),some (.ref qo),some (.ref p),some (.ref q),v6,v7,v8,v9]/\Sx gV F (iB cs.length) n (ue cs) p q aH x0 M5 M'/\m=20 - x0.length,⟨_,none,none,none,none,_,[],rfl,X0,rfl⟩,?_⟩;rintro m δ M' ⟨v6,v7,v8,v9,aH,x0,rfl,X,rfl⟩;have hfew:=X.cY;have hst:=X.st;have qr:=X.jQ;rfl';rw[A5,A5];refine bf (λ iC=>?_) (λ KR=>?_)
   ·obtain⟨s,hs⟩:∃s,aH[x0.length]?=some s:=⟨_,i0 (by lia)⟩;have Px:s.length=cs.length:=(X.ex.ur s (k7 hs)).ok C (by simp[iB]);refine⟨λ δ' oj=>∃(v6 v7 v8 v9:Option D) (aH:List Cs) (r:Row),δ'=[some (.ref f),some (.int n),some (.ref pc),some (.ref qo),some (.ref p),some (.ref q),v6,v7,v8,v9]/\Sx gV F (iB cs.length) n (ue cs) p q aH (x0++[r]) M5 oj,?_,?_⟩
    ·rintro δ' oj ⟨v6,v7,v8,v9,aH,r,rfl,X⟩;exact⟨_,by rw[o7,j8];lia,v6,v7,v8,v9,aH,_,rfl,X,rfl⟩
    ·rfl';intro pw Gr;have fw:=X.free Gr;have X1:=X.new Gr (.lst []);have Pu:ai M' pw (.lst []) pw=some (.lst (([]:Row).map D.int)):=ag;generalize ai M' pw (.lst [])=M7 at*;rfl';refine⟨dh (by lia) (by lia),?_⟩;rw[r6];refine jc (λ i δ M8=>∃(v7 v8 v9:Option D) (aH:List Cs) (r:Row),δ=[some (.ref f),some (.int n),some (.ref pc),some (.ref qo),some (.ref p),some (.ref q),some (.ref pw),v7,v8,v9]/\Sx gV F (iB cs.length) n (ue cs) p q aH x0 M5 M8/\M8 pw=some (.lst (r.map D.int))/\cJ F aH s i r/\aH[x0.length]?=some s) ⟨v7,v8,v9,aH,[],rfl,X1,Pu,cJ.nil _ _ _,hs⟩ (λ i d δ M8 hd h=>?_) (λ δ M8 h=>?_)
     ·obtain⟨v7,v8,v9,aH,r,rfl,X,hw,hr,hs⟩:=h;obtain⟨hi,rfl⟩:=fE hd;obtain⟨y,hy⟩:∃y,ys[i]?=some y:=⟨_,i0 (by lia)⟩;have ym:=tN y (k7 hy);have eF:F i s=stC cs y.2 s:=by rw[<- YC];show stC cs ((ys.map (·.2)).getD i []) s=_;rw[c6,r0,hy];rfl
      have Te:F i s∈ue cs:=by rw[<- YC];exact hU i s hi Px
      have tz:=zl (ws:=y.2) (s:=s) ym.2 Px;have hst:=X.st;have qr:=X.jQ;rfl';rw[A5];refine dH X.st (d:=gV s) (bH (by rw[r0,hs];rfl)) ?_;rfl';refine dH (X.ext _ _ L1) (d:=.ref y.1) (by rw[C5];exact bH (by rw[r0,hy];rfl)) ?_;rfl';refine⟨gV s,.ref y.1,.ref pc,s.map nD,y.2.map nD,cs.map pD,cs.length,rfl,rfl,dg (X.ext _ _ ym.1),dg (X.ext _ _ uA),by rw[A5];exact Px,by rw[A5];exact ym.2,by rw[A5],by lia,by lia,λ pt Yb=>?_⟩;rw[tz.1];have hw:ai M8 pt (.lst ((xq cs y.2 s).map DL)) pw=some (.lst (r.map D.int)):=by rw[av (bM hw Yb)];exact hw
      have X:=X.new Yb (.lst ((xq cs y.2 s).map DL));have ht:ai M8 pt (.lst ((xq cs y.2 s).map DL)) pt=some (.lst ((xq cs y.2 s).map DL)):=ag;generalize ai M8 pt (.lst ((xq cs y.2 s).map DL))=M9 at*;rfl';have htl:=zo (cs:=cs) (ws:=y.2) (s:=s);refine jC DL (λ t=>nD (cnt (t.1+t.2.1) t.2.2.1 t.2.2.2)) (by lia) ht (λ j t N hj hN=>?_) ?_
      ·obtain⟨a,b,lo,w⟩:=t;have hm:=hc.pos _ (zm (k7 hj));unfold DL pD;rfl';exact⟨a+b,lo,w,rfl,hm,hN⟩
      ·have e9:(xq cs y.2 s).map (λ t=>nD (cnt (t.1+t.2.1) t.2.2.1 t.2.2.2))=(F i s).map nD:=by rw[eF,tz.2,C9];rfl
       rw[e9];refine eJ ?_;have PZ:(1:Nat)<=60:=by decide
       have Pw:(ue cs).length<=300:=by lia
       have yt:n<=12:=by lia
       with_reducible refine nI lC PZ X Pw yt fw hw hr hs hi Te ?_ ?_ ?_ (λ gK r' M' X' L6 Gq gT=>?_)
       ·rfl
       ·rfl
       ·rfl
       ·exact⟨_,_,_,gK,r',rfl,X',L6,Gq,gT⟩
     ·obtain⟨v7,v8,v9,aH,r,rfl,X,hw,hr,hs⟩:=h;rw[cF]at hr;have hfew:=X.cY;have qr:=X.jQ;rfl';refine⟨⟨rfl,_,qr⟩,?_⟩;rfl';refine cq hw ?_;rfl';refine fK qr (by rw[A5];exact p6 (show x0.length<=300 by lia) (by decide)) ?_;exact⟨_,_,_,_,aH,r,rfl,X.next hs hr⟩
   ·have el:x0.length=aH.length:=by have:=X.le;lia
    have TG:=X.ex.tb C (by simp[iB]) el (by lia) (by lia);have F6:=F5.trans (gc X.ext F5.bh);have h16:x0.length<=16:=by lia
    rfl';refine cq qr ?_;rfl';rw[A5];refine⟨dh (by lia) (by lia),?_⟩;rw[r6];refine tW (λ i zn M7=>∃ls:Row,zn=ls.map D.int/\iy i ls/\Fl f cc M M7) ⟨[],rfl,iy.nil 0,F6⟩ (λ i zn M7 hi h=>?_) (λ i d zn M7 hd h=>?_) (λ zn M7 h=>?_)
    ·obtain⟨ls,rfl,L,_⟩:=h;rw[cF]at hi;have:=L.cY;rw[A5];exact small (by lia)
    ·obtain⟨ls,rfl,L,F7⟩:=h;obtain⟨hi,rfl⟩:=fE hd;rfl';refine⟨f,cc,2,rfl,F7.bh,by decide,by decide,λ d o _ _ CJ=>?_⟩;have F8:=F7.trans (Fl.pick CJ);generalize ai M7 f o=M8 at*;rfl';refine bf (λ _=>?_) (λ _=>?_)
     ·rfl';exact⟨ls++[(i:Int)],by rw[A7,C5];rfl,L.add,F8⟩
     ·exact⟨ls,rfl,L.up,F8⟩
    ·obtain⟨ls,rfl,L,F7⟩:=h;rw[cF]at L;rfl';exact aw (k _ x0 ls _ TG h16 L F7)
def DU:fk:=λ ds M Q=>∃(a:ww) (sz:Cs) (l:Str),ds=[.ref a,.str l]/\M a=some (.lst (sz.map nD))/\(∀x∈sz,x < 5)/\sz.length<=6/\∀(m:Nat) (x0:List Row) (ls:Row) (M':Mem),cM m sz.length x0->m<=16->iy m ls->be M M'->Q (bI x0 ls) M'
theorem aZ:aJ ["_law_sizes","_law_last","_law_states","_law_rows","_law_losing","_law_row","_law_size","_law_number","_law_great","_law_then"] ["_law_sizes","_law_last"] (aq (top 28)):=⟨rfl,rfl,rfl,by decide+kernel,rfl,by decide+kernel,by decide+kernel⟩
theorem J9(F:h_ K "_law_nim_table" "_law_nim_table" (top 28) f fd)(T:iA K mg):bT P w K mg base eX 1 f fd ["_law_sizes","_law_last"] (cK K DU):=by
 refine ki F aZ (λ ds M Q h=>?_) (λ dE A outer s H E ds M Q hr h=>?_)
 ·obtain⟨a,sz,l,rfl,_⟩:=h;rfl
 ·obtain⟨a,sz,l,rfl,ha,h5,h6,k⟩:=h;obtain⟨L,eL,hL⟩:∃L:Nat,(if decide (l=Str.ofString "loses")=true then(1:Int)else 0)=(L:Int)/\L<=1:=by
   by_cases z:l=Str.ofString "loses"
   ·exact⟨1,by simp[z],by lia⟩
   ·exact⟨0,by simp[z],by lia⟩
  have C:=Ii (h:=sz.length) hL h5;have hz:((0,0):Nat×Nat)∈Hg:=Af.mpr ⟨by decide,by decide⟩;have U7:Hg.length=16:=by decide
  refine⟨_,(af (aA (i:=2) aZ.nd rfl (Or.inl rfl) (cZ (aa (eO (aa aj (aa aj ae))) ae)))
 (af (aA (i:=3) aZ.nd rfl (Or.inl rfl) (cZ ae))
 (af (eN A2 (aS ph (aO cb (by rfl) T.len (by decide+kernel) (aa (ak 3) ae)) (aO cb (by rfl) T.len (by decide+kernel) (aa (ak 2) ae)) (aN _))
 (af (fH (aI aR (ak 2) (aO cb (by rfl) T.len (by decide+kernel) (aa (ak 3) ae)) (λ _ _=>rfl)) (jN (n:=2) rfl (cz (bu (i:=7) aZ.nd rfl (Or.inl rfl)) (cz (bu (i:=8) aZ.nd rfl (Or.inl rfl)) gF))))
 (af (aA (i:=5) aZ.nd rfl (Or.inl rfl) (cZ ae))
 (af (dO A2 rfl (dG (ak 0)) (bu (i:=6) aZ.nd rfl (Or.inl rfl))
 (af (aA (i:=9) aZ.nd rfl (Or.inl rfl) (eO (aa (bF Su (ak 7) (ak 6)) (aa (bF lU (aO (TR rfl) (by rfl) T.max (by decide+kernel) (aa (ak 8) (aa (cg yP (by rfl) T.int (by decide+kernel) (aa (dW Sw (ak 6) aj (aN _)) ae)) ae))) (cg yP (by rfl) T.int (by decide+kernel) (aa (dW (eT hr.units) (ak 1) zg (aN _)) ae))) ae))))
 (af (cI (aS (gr hr.units) (ak 9) (ak 2) rfl)
 (ao (cx (eZ i4 g9 i3 bL (ak 2) (aa (ak 9) ae))))
 aY)
 (ao (cx (eZ i4 g9 i3 bL (ak 5) (aa (eZ i4 PySem.F.slot_list_index PySem.F.type_list_index (gP hr.units) (ak 2) (aa (ak 9) ae)) ae)))))))
 (ao (cx (eZ i4 g9 i3 bL (ak 3) (aa (cg br (by rfl) T.tuple (by decide+kernel) (aa (ak 5) ae)) ae))))))))
 (af (cQ (i:=4) aZ.nd rfl (Or.inl rfl) (tgs:=["_law_k","_law_state"]) (fr:=[1]) ⟨bD (by kernel_rfl),rfl,(λ _ _ h=>h),(fQ rfl T.enumerate (aa (ak 2) ae)),(gi (λ _ _ _ _ _=>(iU rfl (bU (aQ (i:=0) (show(["_law_k","_law_state","_law_last"]:List Str).Nodup by decide+kernel) rfl (Or.inl rfl)) (bU (aQ (i:=1) (show(["_law_k","_law_state","_law_last"]:List Str).Nodup by decide+kernel) rfl (Or.inl rfl)) fS)))) (by decide) (by decide)),(λ _ _ _ _ _=>(ko (aS (eT hr.units) (aI aR (ak 1) aj (λ _ _=>rfl)) (cg yP (by rfl) T.int (by decide+kernel) (aa (w_and (dW (eT hr.units) (ak 2) zg (aN _)) (DF (dW (eT hr.units) (aI aR (ak 1) aj (λ _ _=>rfl)) aj (aN _)))) ae)) (aN _)))),(λ _ _ _ _ _=>(ak 0))⟩)
 (ao (aM (eO (aa (cg br (by rfl) T.tuple (by decide+kernel) (aa (ak 3) ae)) (aa (cg br (by rfl) T.tuple (by decide+kernel) (aa (ak 4) ae)) ae))))))))),?_⟩
  rfl';intro p hp;rfl';intro q hq;have X0:Sx pD (stN L sz) (0,0) sz.length Hg p q [(0,0)] [] M (ai (ai M p (.lst [.tup [.int 0,.int 0]])) q (.lst [])):=by have jE:p≠q:=bM (show ai M p (.lst [.tup [.int 0,.int 0]]) p=some _ from ag) hq;refine⟨be.new (be.new be.rfl hp _) hq _,hp,be.free (be.new be.rfl hp _) hq,jE,?_,ag,qi.start hz,by simp⟩;rw[av jE,ag];rfl
  generalize ai (ai M p (.lst [.tup [.int 0,.int 0]])) q (.lst [])=M6 at*;rfl';refine eR ⟨λ m δ M'=>∃(v5 v6 v7 v8 v9:Option D) (aH:List (Nat×Nat)) (x0:List Row),δ=[some (.ref a),some (.str l),some (.ref p),some (.ref q),none,v5,v6,v7,v8,v9]/\Sx pD (stN L sz) (0,0) sz.length Hg p q aH x0 M M'/\m=20 - x0.length,⟨_,none,none,none,none,none,_,[],rfl,X0,rfl⟩,?_⟩;rintro m δ M' ⟨v5,v6,v7,v8,v9,aH,x0,rfl,X,rfl⟩;have hfew:=X.cY;rw[U7]at hfew;have hst:=X.st;have qr:=X.jQ;rfl';rw[A5,A5];refine bf (λ iC=>?_) (λ KR=>?_)
  ·obtain⟨s,hs⟩:∃s,aH[x0.length]?=some s:=⟨_,i0 (by lia)⟩;have KG:s∈Hg:=X.ex.sub s (k7 hs);refine⟨λ δ' oj=>∃(v5 v6 v7 v8 v9:Option D) (aH:List (Nat×Nat)) (r:Row),δ'=[some (.ref a),some (.str l),some (.ref p),some (.ref q),none,v5,v6,v7,v8,v9]/\Sx pD (stN L sz) (0,0) sz.length Hg p q aH (x0++[r]) M oj,?_,?_⟩
   ·rintro δ' oj ⟨v5,v6,v7,v8,v9,aH,r,rfl,X⟩;exact⟨_,by rw[o7,j8];lia,v5,v6,v7,v8,v9,aH,_,rfl,X,rfl⟩
   ·rfl';rw[A5];refine dH X.st (d:=.tup [.int (s.1:Int),.int (s.2:Int)]) (bH (by rw[r0,hs];rfl)) ?_;rfl';intro pw Gr;have fw:=X.free Gr;have X1:=X.new Gr (.lst []);have Pu:ai M' pw (.lst []) pw=some (.lst (([]:Row).map D.int)):=ag;generalize ai M' pw (.lst [])=M7 at*;have ha7:=X1.ext _ _ ha;rfl';refine wd (ds:=sz.map nD) (λ i δ M8=>∃(v6 v9:Option D) (aH:List (Nat×Nat)) (r:Row),δ=[some (.ref a),some (.str l),some (.ref p),some (.ref q),none,some (.ref pw),v6,some (.int (s.1:Int)),some (.int (s.2:Int)),v9]/\Sx pD (stN L sz) (0,0) sz.length Hg p q aH x0 M M8/\M8 pw=some (.lst (r.map D.int))/\cJ (stN L sz) aH s i r/\aH[x0.length]?=some s) ⟨v6,v9,aH,[],rfl,X1,Pu,cJ.nil _ _ _,hs⟩ (λ i δ M8 _ h=>?_) (λ i d δ M8 hd h=>?_) (λ δ M8 h=>?_)
    ·obtain⟨_,_,_,_,_,X,_⟩:=h;exact X.ext _ _ ha
    ·obtain⟨v6,v9,aH,r,rfl,X,hw,hr,hs⟩:=h;rw[r0]at hd;obtain⟨y,hy,rfl⟩:=Option.map_eq_some_iff.mp hd;have HA:i < sz.length:=(c9.mp hy).1;have ey:sz.getD i 0=y:=by rw[c6,hy];rfl
     have e1:max (s.2:Int) (if decide (1 < (y:Int))=true then 1 else 0)=((max s.2 (if 1 < y then 1 else 0):Nat):Int):=by
      by_cases z:1 < y
      ·rw[J3 z,J3 (by rw[decide_eq_true_iff];lia)];lia
      ·rw[J4 z,J4 (by rw[decide_eq_true_iff];lia)];lia
     rfl';rw[e1];rw[show(if decide (l="loses")=true then(1:Int)else 0)=(L:Int)from eL];have h0:((max s.2 (if 1 < y then 1 else 0):Nat):Int)*(L:Int)=((max s.2 (if 1 < y then 1 else 0)*L:Nat):Int):=by rw[Int.natCast_mul]
     refine oZ (Hb (by lia) (by lia)) ?_;rw[h0,yQ];refine iS ⟨by show 2<=sizeLine;decide,eJ ?_⟩;have PZ:(1:Nat)<=60:=by decide
     have Pw:Hg.length<=300:=by rw[U7];decide
     have yt:sz.length<=12:=by lia
     have Te:=C.cl s i HA KG
     with_reducible refine nI GR PZ X Pw yt fw hw hr hs HA Te ?_ ?_ ?_ (λ gK r' M' X' L6 Gq gT=>?_)
     ·show some (some (pD (s.1^^^y,max s.2 (if 1 < y then 1 else 0)*L)))=some (some (pD (stN L sz i s)));unfold stN;rw[ey]
     ·rfl
     ·rfl
     ·exact⟨_,_,gK,r',rfl,X',L6,Gq,gT⟩
    ·obtain⟨v6,v9,aH,r,rfl,X,hw,hr,hs⟩:=h;rw[A5]at hr;have hfew:=X.cY;rw[U7]at hfew;have qr:=X.jQ;rfl';refine⟨⟨rfl,_,qr⟩,?_⟩;rfl';refine cq hw ?_;rfl';refine fK qr (by rw[A5];exact p6 (show x0.length<=300 by lia) (by decide)) ?_;exact⟨_,_,_,_,_,aH,r,rfl,X.next hs hr⟩
  ·have el:x0.length=aH.length:=by have:=X.le;lia
   have TG:=X.ex.tb C hz el (by lia) (by lia);rfl';refine yI (ds:=dY (aH.map pD)) (λ i zn M7=>M7=M'/\∃ls:Row,zn=ls.map D.int/\iy i ls) ⟨rfl,[],rfl,iy.nil 0⟩ (λ i zn M7 _ h=>?_) (λ i zn M7 hi h=>?_) (λ i d zn M7 hd h=>?_) (λ zn M7 h=>?_)
   ·obtain⟨rfl,_⟩:=h;show fV (.ref p) M7=_;unfold fV;rw[dg hst];rfl
   ·obtain⟨rfl,ls,rfl,L⟩:=h;rw[cu,A5]at hi;have:=L.cY;rw[A5];exact small (by lia)
   ·obtain⟨rfl,ls,rfl,L⟩:=h;obtain⟨hi,rfl⟩:=jz hd;rw[A5]at hi;obtain⟨x,hx⟩:∃x,aH[i]?=some x:=⟨_,i0 hi⟩;rw[show(aH.map pD).getD i .bK=.tup [.int (x.1:Int),.int (x.2:Int)] by rw[c6,r0,hx];rfl];have y1:∃FK:Row,ls.map D.int++[.int (i:Int)]=FK.map D.int/\iy (i+1) FK:=⟨ls++[(i:Int)],by rw[A7];rfl,L.add⟩;have y2:∃FK:Row,ls.map D.int=FK.map D.int/\iy (i+1) FK:=⟨ls,rfl,L.up⟩;rfl';refine bf (λ _=>?_) (λ _=>?_)
    ·rfl';refine bf (λ _=>?_) (λ _=>?_)
     ·rfl';exact⟨rfl,y1⟩
     ·exact⟨rfl,y2⟩
    ·rfl';refine bf (λ _=>?_) (λ _=>?_)
     ·rfl';exact⟨rfl,y1⟩
     ·exact⟨rfl,y2⟩
   ·obtain⟨rfl,ls,rfl,L⟩:=h;rw[cu,A5]at L;intro pl hpl;rfl';refine cq (by rw[av (bM qr hpl)];exact qr) ?_;rfl';refine cq ag ?_;rfl';exact aw (k _ x0 ls _ TG (by lia) (by rw[el];exact L) (X.ext.new hpl _))
def zC:fk:=λ ds M Q=>∃(f c:ww) (m h:Nat) (x0:List Row) (ls:Row),ds=[.ref f,bI x0 ls]/\Flow M f c/\cM m h x0/\m<=6/\h<=3/\(∀(m:Nat) (x0:List Row) (ls:Row) (M':Mem),cM m h x0->m<=18->iy m ls->Fl f c M M'->Q (bI x0 ls) M')
theorem Iw{h:Nat}(G:Tb m h x0):ip (x0.map row) 0=some (.tup ((x0.getD 0 []).map D.int))/\(x0.getD 0 []).length=h:=by
 have h0:0 < x0.length:=by rw[G.len];exact G.pos
 rw[c6,i0 h0];exact⟨bH (j:=0) (by rw[r0,i0 h0];rfl),(G.row _ (x9 h0)).1⟩
theorem bw:aJ ["_law_flow_here","_law_table_here","_law_many","_law_wide","_law_weights","_law_states","_law_rows","_law_row","_law_h","_law_thing","_law_count","_law_then"] ["_law_flow_here","_law_table_here"] (aq (top 29)):=⟨rfl,rfl,rfl,by decide+kernel,rfl,by decide+kernel,by decide+kernel⟩
theorem Fy(F:h_ K "_law_blown" "_law_blown" (top 29) f fd)(T:iA K mg)(ay:b_ P w K mg base 1 "_law_pick" ["_law_flow_here","_law_many"] iJ):bT P w K mg base eX 2 f fd ["_law_flow_here","_law_table_here"] (cK K zC):=by
 refine ki F bw (λ ds M Q h=>?_) (λ dE A outer s H E ds M Q hr h=>?_)
 ·obtain⟨f,c,m,h,x0,ls,rfl,_⟩:=h;rfl
 ·obtain⟨f,cc,m,h,gm,MC,rfl,hF,G,hm,hh,k⟩:=h;have Gp:=Iw G.tb;have lM:bI gm MC=.tup [.tup (gm.map row),row MC]:=rfl;rw[lM];refine⟨_,(af (aA (i:=2) bw.nd rfl (Or.inl rfl) (aO cb (by rfl) T.len (by decide+kernel) (aa (aI aR (aI aR (ak 1) aj (λ _ _=>rfl)) aj (λ _ _=>rfl)) ae)))
 (af (aA (i:=3) bw.nd rfl (Or.inr rfl) (bF bP aj (aE ay (hr.mono (by decide)) (by rfl) (aa (ak 0) (aa aj ae)))))
 (af (cQ (i:=4) bw.nd rfl (Or.inl rfl) (tgs:=["_law_h"]) (fr:=[0,3]) ⟨bD (by kernel_rfl),rfl,(λ _ _ h=>h),(bo rfl T.range (aa (ak 2) ae)),(bj (λ _ _ _ _ _=>(aQ (i:=0) (show(["_law_h","_law_flow_here","_law_wide"]:List Str).Nodup by decide+kernel) rfl (Or.inl rfl))) (by decide)),(λ _ _ _ _ _=>bC),(λ _ _ _ _ _=>(aE ay (hr.mono (by decide)) (by rfl) (aa (ak 1) (aa (ak 2) ae))))⟩)
 (af (aA (i:=5) bw.nd rfl (Or.inl rfl) (cZ (aa (eO (aa aj (aa aj ae))) ae)))
 (af (aA (i:=6) bw.nd rfl (Or.inl rfl) (cZ ae))
 (af (eN A2 (aS ph (aO cb (by rfl) T.len (by decide+kernel) (aa (ak 6) ae)) (aO cb (by rfl) T.len (by decide+kernel) (aa (ak 5) ae)) (aN _))
 (af (fH (aI aR (ak 5) (aO cb (by rfl) T.len (by decide+kernel) (aa (ak 6) ae)) (λ _ _=>rfl)) (jN (n:=2) rfl (cz (bu (i:=9) bw.nd rfl (Or.inl rfl)) (cz (bu (i:=10) bw.nd rfl (Or.inl rfl)) gF))))
 (af (aA (i:=7) bw.nd rfl (Or.inl rfl) (cZ ae))
 (af (dO A2 rfl (bo rfl T.range (aa (ak 2) ae)) (bu (i:=8) bw.nd rfl (Or.inl rfl))
 (af (aA (i:=11) bw.nd rfl (Or.inl rfl) (eO (aa (aI aR (aI aR (aI aR (ak 1) aj (λ _ _=>rfl)) (ak 9) (λ _ _=>rfl)) (ak 8) (λ _ _=>rfl)) (aa (bF jK (bF bP (ak 10) (aI aR (ak 4) (ak 8) (λ _ _=>rfl))) (ak 3)) ae))))
 (af (cI (aS (gr hr.units) (ak 11) (ak 5) rfl)
 (ao (cx (eZ i4 g9 i3 bL (ak 5) (aa (ak 11) ae))))
 aY)
 (ao (cx (eZ i4 g9 i3 bL (ak 7) (aa (eZ i4 PySem.F.slot_list_index PySem.F.type_list_index (gP hr.units) (ak 5) (aa (ak 11) ae)) ae)))))))
 (ao (cx (eZ i4 g9 i3 bL (ak 6) (aa (cg br (by rfl) T.tuple (by decide+kernel) (aa (ak 7) ae)) ae))))))))
 (ao (aM (eO (aa (cg br (by rfl) T.tuple (by decide+kernel) (aa (ak 6) ae)) (aa (eY br cp (by rfl) T.tuple (by decide+kernel) (tgs:=["_law_k","_law_state"]) (fr:=[1]) ⟨bD (by kernel_rfl),rfl,(λ _ _ h=>h),(fQ rfl T.enumerate (aa (ak 5) ae)),(gi (λ _ _ _ _ _=>(iU rfl (bU (aQ (i:=0) (show(["_law_k","_law_state","_law_table_here"]:List Str).Nodup by decide+kernel) rfl (Or.inl rfl)) (bU (aQ (i:=1) (show(["_law_k","_law_state","_law_table_here"]:List Str).Nodup by decide+kernel) rfl (Or.inl rfl)) fS)))) (by decide) (by decide)),(λ _ _ _ _ _=>(ko (aS (zZ hr.units) (aI aR (ak 1) aj (λ _ _=>rfl)) (aI aR (ak 2) aj (λ _ _=>rfl)) rfl))),(λ _ _ _ _ _=>(ak 0))⟩) ae))))))))))),?_⟩
  rfl';refine aK Gp.1 ?_;rfl';rw[A5,Gp.2];refine⟨f,cc,2,rfl,hF,by decide,by decide,λ d1 o1 P0 Q_ w_=>?_⟩;have F1:Fl f cc M _:=Fl.pick w_;generalize ai M f o1=M1 at*;obtain⟨w,ew⟩:∃n:Nat,2+d1=(n:Int):=⟨(2+d1).toNat,by lia⟩;rfl';rw[ew];refine⟨dh (by lia) (by lia),?_⟩;rw[r6,cL];refine gY nD (λ ys M'=>Fl f cc M M') (by rw[u6];lia) F1 (λ i x ys M' N hx hl hI hN=>?_) (λ ws M4 hl F4=>?_)
  ·rfl';refine⟨f,cc,w,rfl,hI.bh,by lia,by lia,λ d o h0 h1 CJ=>?_⟩;obtain⟨y,rfl⟩:∃n:Nat,d=(n:Int):=⟨d.toNat,by lia⟩;exact hN y _ (hI.trans (Fl.pick CJ))
  rw[u6]at hl;intro qo yp;have F5:=F4.trans (Fl.put (o:=.lst (ws.map nD)) F4.bh yp);have L1:ai M4 qo (.lst (ws.map nD)) qo=some (.lst (ws.map nD)):=ag;generalize ai M4 qo (.lst (ws.map nD))=M5 at*;have X6:0 < w:=by lia
  have C:=Ij (ws:=ws) G X6;have hz:((0,0):Nat×Nat)∈Dd m w:=nT.mpr ⟨G.tb.pos,X6⟩;have U7:(Dd m w).length<=18:=by rw[Le];exact D1 (Nat.mul_le_mul hm (show w<=3 by lia)) (by decide)
  rfl';intro p hp;rfl';intro q hq;have X0:Sx pD (QP gm w ws) (0,0) h (Dd m w) p q [(0,0)] [] M5 (ai (ai M5 p (.lst [.tup [.int 0,.int 0]])) q (.lst [])):=by have jE:p≠q:=bM (show ai M5 p (.lst [.tup [.int 0,.int 0]]) p=some _ from ag) hq;refine⟨be.new (be.new be.rfl hp _) hq _,hp,be.free (be.new be.rfl hp _) hq,jE,?_,ag,qi.start hz,by simp⟩;rw[av jE,ag];rfl
  generalize ai (ai M5 p (.lst [.tup [.int 0,.int 0]])) q (.lst [])=M6 at*;rfl';refine eR ⟨λ m' δ M'=>∃(v7 v8 v9 v10 v11:Option D) (aH:List (Nat×Nat)) (x0:List Row),δ=[some (.ref f),some (.tup [.tup (gm.map row),row MC]),some (.int h),some (.int w),some (.ref qo),some (.ref p),some (.ref q),v7,v8,v9,v10,v11]/\Sx pD (QP gm w ws) (0,0) h (Dd m w) p q aH x0 M5 M'/\m'=20 - x0.length,⟨_,none,none,none,none,none,_,[],rfl,X0,rfl⟩,?_⟩;rintro m' δ M' ⟨v7,v8,v9,v10,v11,aH,x0,rfl,X,rfl⟩;have hfew:=X.cY;have hst:=X.st;have qr:=X.jQ;rfl';rw[A5,A5];refine bf (λ iC=>?_) (λ KR=>?_)
  ·obtain⟨s,hs⟩:∃s,aH[x0.length]?=some s:=⟨_,i0 (by lia)⟩;have KG:s∈Dd m w:=X.ex.sub s (k7 hs);have Py:=(nT.mp KG).1;refine⟨λ δ' oj=>∃(v7 v8 v9 v10 v11:Option D) (aH:List (Nat×Nat)) (r:Row),δ'=[some (.ref f),some (.tup [.tup (gm.map row),row MC]),some (.int h),some (.int w),some (.ref qo),some (.ref p),some (.ref q),v7,v8,v9,v10,v11]/\Sx pD (QP gm w ws) (0,0) h (Dd m w) p q aH (x0++[r]) M5 oj,?_,?_⟩
   ·rintro δ' oj ⟨v7,v8,v9,v10,v11,aH,r,rfl,X⟩;exact⟨_,by rw[o7,j8];lia,v7,v8,v9,v10,v11,aH,_,rfl,X,rfl⟩
   ·rfl';rw[A5];refine dH X.st (d:=.tup [.int (s.1:Int),.int (s.2:Int)]) (bH (by rw[r0,hs];rfl)) ?_;rfl';intro pw Gr;have fw:=X.free Gr;have X1:=X.new Gr (.lst []);have Pu:ai M' pw (.lst []) pw=some (.lst (([]:Row).map D.int)):=ag;generalize ai M' pw (.lst [])=M7 at*;rfl';refine⟨dh (by lia) (by lia),?_⟩;rw[r6];refine jc (λ i δ M8=>∃(v8 v11:Option D) (aH:List (Nat×Nat)) (r:Row),δ=[some (.ref f),some (.tup [.tup (gm.map row),row MC]),some (.int h),some (.int w),some (.ref qo),some (.ref p),some (.ref q),some (.ref pw),v8,some (.int (s.1:Int)),some (.int (s.2:Int)),v11]/\Sx pD (QP gm w ws) (0,0) h (Dd m w) p q aH x0 M5 M8/\M8 pw=some (.lst (r.map D.int))/\cJ (QP gm w ws) aH s i r/\aH[x0.length]?=some s) ⟨v8,v11,aH,[],rfl,X1,Pu,cJ.nil _ _ _,hs⟩ (λ i d δ M8 hd h=>?_) (λ δ M8 h=>?_)
    ·obtain⟨v8,v11,aH,r,rfl,X,hw,hr,hs⟩:=h;obtain⟨hi,rfl⟩:=fE hd;have ta:=sG G.tb Py hi;rfl';refine aK (d:=.tup ((gm.getD s.1 []).map D.int)) ta.1 ?_;rfl';rw[C5];refine aK ta.2 ?_;rfl';refine dH (X.ext _ _ L1) (d:=.int (ws.getD i 0:Nat)) (bH (by rw[r0,i0 (by lia),c6,i0 (by lia)];rfl)) ?_;have Wn:(0:Int) < (w:Int):=by lia
     refine vn (f_ rfl (xN Wn (iS ⟨by show 2<=sizeLine;decide,eJ ?_⟩)));have PZ:(1:Nat)<=60:=by decide
     have Pw:(Dd m w).length<=300:=by lia
     have yt:h<=12:=by lia
     have Te:=C.cl s i hi KG
     with_reducible refine nI GR PZ X Pw yt fw hw hr hs hi Te ?_ ?_ ?_ (λ gK r' M' X' L6 Gq gT=>?_)
     ·show some (some (D.tup [.int (aG gm i s.1:Nat),.int (((s.2:Int)+(ws.getD i 0:Nat)) % (w:Int))]))=some (some (D.tup [.int (aG gm i s.1:Nat),.int (((s.2+ws.getD i 0) % w:Nat):Int)]));rw[Int.natCast_emod,Int.natCast_add]
     ·rfl
     ·rfl
     ·exact⟨_,_,gK,r',rfl,X',L6,Gq,gT⟩
    ·obtain⟨v8,v11,aH,r,rfl,X,hw,hr,hs⟩:=h;rw[cF]at hr;have hfew:=X.cY;have qr:=X.jQ;rfl';refine⟨⟨rfl,_,qr⟩,?_⟩;rfl';refine cq hw ?_;rfl';refine fK qr (by rw[A5];exact p6 (show x0.length<=300 by lia) (by decide)) ?_;exact⟨_,_,_,_,_,aH,r,rfl,X.next hs hr⟩
  ·have el:x0.length=aH.length:=by have:=X.le;lia
   have TG:=X.ex.tb C hz el (by lia) (by lia);have F6:=F5.trans (gc X.ext F5.bh);rfl';refine cq qr ?_;rfl';refine yI (ds:=dY (aH.map pD)) (λ i zn M7=>M7=M'/\∃ls:Row,zn=ls.map D.int/\iy i ls) ⟨rfl,[],rfl,iy.nil 0⟩ (λ i zn M7 _ h=>?_) (λ i zn M7 hi h=>?_) (λ i d zn M7 hd h=>?_) (λ zn M7 h=>?_)
   ·obtain⟨rfl,_⟩:=h;show fV (.ref p) M7=_;unfold fV;rw[dg hst];rfl
   ·obtain⟨rfl,ls,rfl,L⟩:=h;rw[cu,A5]at hi;have:=L.cY;rw[A5];exact small (by lia)
   ·obtain⟨rfl,ls,rfl,L⟩:=h;obtain⟨hi,rfl⟩:=jz hd;rw[A5]at hi;obtain⟨x,hx⟩:∃x,aH[i]?=some x:=⟨_,i0 hi⟩;rw[show(aH.map pD).getD i .bK=.tup [.int (x.1:Int),.int (x.2:Int)] by rw[c6,r0,hx];rfl];have y1:∃FK:Row,ls.map D.int++[.int (i:Int)]=FK.map D.int/\iy (i+1) FK:=⟨ls++[(i:Int)],by rw[A7];rfl,L.add⟩;have y2:∃FK:Row,ls.map D.int=FK.map D.int/\iy (i+1) FK:=⟨ls,rfl,L.up⟩;rfl';refine sV (k:=0) (b:=decide ((x.1:Int)∈MC)) (ds:=MC.map D.int) rfl (dB 0 _) (ff λ x _=>dB 0 _) (by decide) (by rw[decide_eq_true_iff];exact(tG (enc:=D.int) (λ a b z=>D.int.inj z) _).symm) ?_;refine bf (λ _=>?_) (λ _=>?_)
    ·rfl';exact⟨rfl,y1⟩
    ·exact⟨rfl,y2⟩
   ·obtain⟨rfl,ls,rfl,L⟩:=h;rw[cu,A5]at L;rfl';exact aw (k _ x0 ls _ TG (by lia) (by rw[el];exact L) F6)
def DQ:fk:=λ ds M Q=>∃(f c a:ww) (ns:List Nat),ds=[.ref f,.ref a]/\Flow M f c/\M a=some (.lst (ns.map nD))/\ns.length<=300/\∀(p:ww) (fh:List Nat) (M':Mem),fh.Perm ns->M p=none->M' p=some (.lst (fh.map nD))->Fl f c M M'->Q (.ref p) M'
def Lw:fk:=λ ds M Q=>∃(f c:ww) (m h:Nat) (x0:List Row) (ls:Row),ds=[.ref f,bI x0 ls]/\Flow M f c/\cM m h x0/\m<=60/\iy m ls/\∀(x0:List Row) (ls:Row) (M':Mem),cM m h x0->iy m ls->Fl f c M M'->Q (bI x0 ls) M'
theorem fb:aJ ["_law_flow_here","_law_things","_law_left","_law_told"] ["_law_flow_here","_law_things"] (aq (top 27)):=⟨rfl,rfl,rfl,by decide+kernel,rfl,by decide+kernel,by decide+kernel⟩
theorem JZ(F:h_ K "_law_shuffled" "_law_shuffled" (top 27) f fd)(T:iA K mg)(ay:b_ P w K mg base 1 "_law_pick" ["_law_flow_here","_law_many"] iJ):bT P w K mg base eX 2 f fd ["_law_flow_here","_law_things"] (cK K DQ):=by
 refine ki F fb (λ ds M Q h=>?_) (λ dE A outer s H E ds M Q hr h=>?_)
 ·obtain⟨f,c,a,ns,rfl,_⟩:=h;rfl
 ·obtain⟨f,cc,a,ns,rfl,hF,ha,hl,k⟩:=h;refine⟨_,(af (aA (i:=2) fb.nd rfl (Or.inl rfl) (cg yO (by rfl) T.list (by decide+kernel) (aa (ak 1) ae)))
 (af (aA (i:=3) fb.nd rfl (Or.inl rfl) (cZ ae))
 (af (eN A2 (aS (ij hr.units) (ak 2) (cZ ae) (aN _))
 (ao (cx (eZ i4 g9 i3 bL (ak 3) (aa (eZ i4 PySem.F.slot_list_pop PySem.F.type_list_pop LR (ak 2) (aa (aE ay (hr.mono (by decide)) (by rfl) (aa (ak 0) (aa (aO cb (by rfl) T.len (by decide+kernel) (aa (ak 2) ae)) ae))) ae)) ae)))))
 (ao (aM (ak 3)))))),?_⟩
  rfl';refine EA ha λ p hp=>?_;rfl';intro q hq;have jE:p≠q:=bM (show ai M p (.lst (ns.map nD)) p=some _ from ag) hq;have SQ:M q=none:=be.free (be.new be.rfl hp _) hq;have pf:=(hF.ne hp).1;have qf:=(hF.ne SQ).1;have F0:Fl f cc M (ai (ai M p (.lst (ns.map nD))) q (.lst [])):=gc (be.new (be.new be.rfl hp _) hq _) hF;have h1:ai (ai M p (.lst (ns.map nD))) q (.lst []) p=some (.lst (ns.map nD)):=by rw[av jE,ag]
  have h2:ai (ai M p (.lst (ns.map nD))) q (.lst []) q=some (.lst (([]:List Nat).map nD)):=ag;generalize ai (ai M p (.lst (ns.map nD))) q (.lst [])=M2 at*;rfl';refine eR ⟨λ m δ M'=>∃(xs ys:List Nat),δ=[some (.ref f),some (.ref a),some (.ref p),some (.ref q)]/\M' p=some (.lst (xs.map nD))/\M' q=some (.lst (ys.map nD))/\(ys++xs).Perm ns/\Fl f cc M M'/\m=xs.length,⟨_,ns,[],rfl,h1,h2,.refl _,F0,rfl⟩,?_⟩;rintro m δ M' ⟨xs,ys,rfl,h1,h2,rL,F1,rfl⟩;have hlen:=rL.length_eq;rw[o7]at hlen;rfl';intro e he;refine nM (k:=0) (b:=decide (xs=[])) (by rw[av (bM h1 he)];exact h1) ag (ff λ x _=>dB 0 _) (λ e he=>by cases he) (by decide) (FH (by rw[decide_eq_true_iff])) ?_;have h1:ai M' e (.lst []) p=some (.lst (xs.map nD)):=by rw[av (bM h1 he)];exact h1
  have h2:ai M' e (.lst []) q=some (.lst (ys.map nD)):=by rw[av (bM h2 he)];exact h2
  have F1:=F1.trans (Fl.put (o:=.lst []) F1.bh he);generalize ai M' e (.lst [])=M3 at*;refine jk (λ hn=>?_) (λ hn=>?_)
  ·have hn:xs≠[]:=by simpa using hn
   have SR:0 < xs.length:=length_pos_iff.mpr hn;refine⟨λ δ' M'=>∃(HN Ro:List Nat),δ'=[some (.ref f),some (.ref a),some (.ref p),some (.ref q)]/\M' p=some (.lst (HN.map nD))/\M' q=some (.lst (Ro.map nD))/\(Ro++HN).Perm ns/\Fl f cc M M'/\HN.length < xs.length,?_,?_⟩
   ·rintro δ' M' ⟨HN,Ro,rfl,a1,a2,a3,a4,a5⟩;exact⟨_,a5,HN,Ro,rfl,a1,a2,a3,a4,rfl⟩
   ·rfl';refine⟨⟨rfl,_,h2⟩,?_⟩;rfl';refine⟨⟨rfl,_,h1⟩,?_⟩;rfl';rw[A5];refine⟨f,cc,xs.length,rfl,F1.bh,by lia,by lia,λ d o h0 P0 CJ=>?_⟩;have P:=Fl.pick CJ;have F2:=F1.trans P;have h1:=P.mv _ _ pf h1;have h2:=P.mv _ _ qf h2;generalize ai M3 f o=M4 at*;obtain⟨j,rfl⟩:∃n:Nat,d=(n:Int):=⟨d.toNat,by lia⟩;have hj:j < xs.length:=by lia
    rfl';refine Ew h1 (y:=nD xs[j]) (by rw[r0,i0 hj];rfl) (by rw[A5];lia) ?_;rfl';refine fK (ds:=ys.map nD) (by rw[av (J0 jE)];exact h2) (by rw[A5];exact p6 (show ys.length<=300 by lia) (by decide)) ?_;refine⟨xs.eraseIdx j,ys++[xs[j]],rfl,?_,?_,?_,(F2.own hF hp).own hF SQ,?_⟩
    ·rw[av jE,ag,Ag]
    ·rw[ag,A7];rfl
    ·refine List.Perm.trans ?_ rL;rw[append_assoc];refine List.Perm.append_left _ ?_;exact vC hj
    ·rw[length_eraseIdx_of_lt hj];lia
  ·have hn:xs=[]:=by simpa using hn
   subst hn;rw[y7]at rL;rfl';exact aw (k q ys _ rL SQ h2 F1)
theorem dQ:aJ ["_law_flow_here","_law_table_here","_law_order","_law_rows"] ["_law_flow_here","_law_table_here"] (aq (top 30)):=⟨rfl,rfl,rfl,by decide+kernel,rfl,by decide+kernel,by decide+kernel⟩
theorem OO(F:h_ K "_law_renumbered" "_law_renumbered" (top 30) f fd)(T:iA K mg)(pX:b_ P w K mg base 2 "_law_shuffled" ["_law_flow_here","_law_things"] DQ):bT P w K mg base eX 3 f fd ["_law_flow_here","_law_table_here"] (cK K Lw):=by
 refine ki F dQ (λ ds M Q h=>?_) (λ dE A outer s H E ds M Q hr h=>?_)
 ·obtain⟨f,c,m,h,x0,ls,rfl,_⟩:=h;rfl
 ·obtain⟨f,cc,m,h,x0,ls,rfl,hF,G,hm,L,k⟩:=h;have lM:bI x0 ls=.tup [.tup (x0.map row),row ls]:=rfl;rw[lM];have rK:=G.tb.len;have SR:=G.tb.pos;refine⟨_,(af (aA (i:=2) dQ.nd rfl (Or.inr rfl) (bF bP (cZ (aa aj ae)) (aE pX (hr.mono (by decide)) (by rfl) (aa (ak 0) (aa (Mw rfl (by rfl) T.list (by rfl) T.range (aa aj (aa (aO cb (by rfl) T.len (by decide+kernel) (aa (aI aR (ak 1) aj (λ _ _=>rfl)) ae)) ae))) ae)))))
 (af (cQ (i:=3) dQ.nd rfl (Or.inl rfl) (tgs:=["_law_x"]) (fr:=[2,1]) ⟨bD (by kernel_rfl),rfl,(λ _ _ h=>h),(dG (ak 2)),(bj (λ _ _ _ _ _=>(aQ (i:=0) (show(["_law_x","_law_order","_law_table_here"]:List Str).Nodup by decide+kernel) rfl (Or.inl rfl))) (by decide)),(λ _ _ _ _ _=>bC),(λ _ _ _ _ _=>(eY br cp (by rfl) T.tuple (by decide+kernel) (tgs:=["_law_y"]) (fr:=[1]) ⟨bD (by kernel_rfl),rfl,(λ _ _ h=>h),(dG (aI aR (aI aR (ak 2) aj (λ _ _=>rfl)) (ak 0) (λ _ _=>rfl))),(bj (λ _ _ _ _ _=>(aQ (i:=0) (show(["_law_y","_law_order"]:List Str).Nodup by decide+kernel) rfl (Or.inl rfl))) (by decide)),(λ _ _ _ _ _=>bC),(λ _ _ _ _ _=>(eZ i4 PySem.F.slot_list_index PySem.F.type_list_index (gP hr.units) (ak 1) (aa (ak 0) ae)))⟩))⟩)
 (ao (aM (eO (aa (cg br (by rfl) T.tuple (by decide+kernel) (aa (ak 3) ae)) (aa (cg br (by rfl) T.tuple (by decide+kernel) (aa (aO (Ld rfl) (by rfl) T.sorted (by decide+kernel) (aa (ow (tgs:=["_law_x"]) (fr:=[2]) ⟨bD (by kernel_rfl),rfl,(λ _ _ h=>h),(dG (aI aR (ak 1) aj (λ _ _=>rfl))),(bj (λ _ _ _ _ _=>(aQ (i:=0) (show(["_law_x","_law_order"]:List Str).Nodup by decide+kernel) rfl (Or.inl rfl))) (by decide)),(λ _ _ _ _ _=>bC),(λ _ _ _ _ _=>(eZ i4 PySem.F.slot_list_index PySem.F.type_list_index (gP hr.units) (ak 1) (aa (ak 0) ae)))⟩) ae)) ae)) ae))))))),?_⟩
  rfl';intro p0 SV;have F0:=Fl.put (o:=.lst [.int 0]) hF SV;have h0:ai M p0 (.lst [.int 0]) p0=some (.lst [.int 0]):=ag;have n0:=(hF.ne SV).1;generalize ai M p0 (.lst [.int 0])=M0 at*;rfl';rw[A5,rK];refine⟨1,(m:Int),rfl,⟨by lia,by lia⟩,⟨by lia,by lia⟩,by lia,λ p1 tO=>?_⟩;have e1:ck 1 ((m:Int) - 1).toNat=((List.range (m - 1)).map (·+1)).map nD:=by unfold ck;rw[C9,show((m:Int) - 1).toNat=m - 1 by lia];refine n5 λ x _=>?_;show D.int (1+(x:Int))=D.int ((x+1:Nat):Int);rw[show(1:Int)+(x:Int)=((x+1:Nat):Int) by lia]
  rw[e1];have F1:=F0.trans (Fl.put (o:=.lst (((List.range (m - 1)).map (·+1)).map nD)) F0.bh tO);have h0:ai M0 p1 (.lst (((List.range (m - 1)).map (·+1)).map nD)) p0=some (.lst [.int 0]):=by rw[av (bM h0 tO)];exact h0
  have h1:ai M0 p1 (.lst (((List.range (m - 1)).map (·+1)).map nD)) p1=some (.lst (((List.range (m - 1)).map (·+1)).map nD)):=ag;generalize ai M0 p1 (.lst (((List.range (m - 1)).map (·+1)).map nD))=M1 at*;refine⟨f,cc,p1,_,rfl,F1.bh,h1,by simp;lia,λ p2 ns M2 rL fM h2 F2=>?_⟩;have F3:=F1.trans F2;have h0:=F2.mv _ _ n0 h0;have yq:=Fs SR rL;have hz:(0::ns)[0]?=some 0:=rfl;have KJ:(0::ns).length=m:=by rw[yq.length_eq,u6]
  refine EM h0 h2 (by rw[A5];rw[x3]at KJ;exact small (by show 1+ns.length<=10000;lia)) λ po hpo=>?_;have e2:[D.int 0]++ns.map nD=(0::ns).map nD:=rfl;rw[e2];generalize 0::ns=ord at*;have F4:=F3.trans (Fl.put (o:=.lst (ord.map nD)) F3.bh hpo);have ho:ai M2 po (.lst (ord.map nD)) po=some (.lst (ord.map nD)):=ag;generalize ai M2 po (.lst (ord.map nD))=M3 at*;have Yf:∀x∈ord,x < m:=λ x hx=>mem_range.mp (yq.mem_iff.mp hx);rfl';refine jC nD (λ x=>row (fe ord (x0.getD x []))) (by lia) ho (λ i x N hx hN=>?_) ?_
  ·have U1:=Yf x (k7 hx);have wa:x < x0.length:=by lia
   have Z5:ip (x0.map row) (x:Int)=some (.tup ((x0.getD x []).map D.int)):=bH (by rw[r0,i0 wa,c6,i0 wa];rfl);have Z6:(x0.getD x []).length=h/\∀y∈x0.getD x [],0<=y/\y < (m:Int):=by rw[c6,i0 wa];exact G.tb.row _ (x9 wa)
   have:=G.tb.tS;rfl';refine aK Z5 ?_;rfl';refine gX (enc:=D.int) (λ y=>.int (ord.idxOf y.toNat:Nat)) (by lia) (λ j y N hy hN=>?_) ?_
   ·have ym:=Z6.2 y (k7 hy);rfl';refine⟨⟨rfl,_,ho⟩,?_⟩;rfl';rw[show D.int y=nD y.toNat by show _=D.int (y.toNat:Int);rw[show((y.toNat:Nat):Int)=y by lia]];refine kJ nD cG.inj ho (yq.mem_iff.mpr (mem_range.mpr (by lia))) cG.pl (by decide) ?_;exact hN
   ·rfl';have e3:(x0.getD x []).map (λ y=>D.int (ord.idxOf y.toNat:Nat))=(fe ord (x0.getD x [])).map D.int:=by unfold fe;rw[C9];rfl
    rw[e3];exact hN
  ·intro pr Wy;have F5:=F4.trans (Fl.put (o:=.lst (ord.map λ x=>row (fe ord (x0.getD x [])))) F4.bh Wy);have ho:ai M3 pr (.lst (ord.map λ x=>row (fe ord (x0.getD x [])))) po=some (.lst (ord.map nD)):=by rw[av (bM ho Wy)];exact ho
   have e4:(ord.map λ x=>row (fe ord (x0.getD x [])))=(ord.map λ x=>fe ord (x0.getD x [])).map row:=by rw[C9];rfl
   have Hz:ai M3 pr (.lst (ord.map λ x=>row (fe ord (x0.getD x [])))) pr=some (.lst ((ord.map λ x=>fe ord (x0.getD x [])).map row)):=by rw[ag,e4]
   generalize ai M3 pr (.lst (ord.map λ x=>row (fe ord (x0.getD x []))))=M4 at*;have TG:cM m h (ord.map λ x=>fe ord (x0.getD x [])):=RG G yq hz (by rw[A5];exact KJ) λ d r hd=>by rw[r0]at hd;obtain⟨x,hx,rfl⟩:=Option.map_eq_some_iff.mp hd;exact⟨x,hx,Iz G yq (Yf x (k7 hx))⟩
   generalize(ord.map λ x=>fe ord (x0.getD x []))=rk at*;have hll:=L.cY;rfl';refine cq Hz ?_;rfl';refine gX (enc:=D.int) (λ y=>.int (ord.idxOf y.toNat:Nat)) (by lia) (λ j y N hy hN=>?_) ?_
   ·have ym:=L.2 y (k7 hy);rfl';refine⟨⟨rfl,_,ho⟩,?_⟩;rfl';rw[show D.int y=nD y.toNat by show _=D.int (y.toNat:Int);rw[show((y.toNat:Nat):Int)=y by lia]];refine kJ nD cG.inj ho (yq.mem_iff.mpr (mem_range.mpr (by lia))) cG.pl (by decide) ?_;exact hN
   ·intro pl hpl;have e5:ls.map (λ y=>D.int (ord.idxOf y.toNat:Nat))=(fe ord ls).map D.int:=by unfold fe;rw[C9];rfl
    rw[e5];have F6:=F5.trans (Fl.put (o:=.lst ((fe ord ls).map D.int)) F5.bh hpl);have h6:ai M4 pl (.lst ((fe ord ls).map D.int)) pl=some (.lst ((fe ord ls).map D.int)):=ag;generalize ai M4 pl (.lst ((fe ord ls).map D.int))=M5 at*;rfl';refine BS (fe ord ls) h6 (by unfold fe;rw[A5];lia) λ xs ps ZT Wl U3=>?_;rfl';refine cq ag ?_;rfl';exact aw (k rk xs _ TG (Er yq L ZT Wl) (F6.trans (Fl.put F6.bh U3)))
theorem cB:aJ ["_law_flow_here","_law_many","_law_table_here","_law_sizes"] ["_law_flow_here"] (aq (top 34)):=⟨rfl,rfl,rfl,by decide+kernel,rfl,by decide+kernel,by decide+kernel⟩
theorem Ft(F:h_ K "_law_table" "_law_table" (top 34) f fd)(T:iA K mg)(ay:b_ P w K mg base 1 "_law_pick" ["_law_flow_here","_law_many"] iJ)(mB:b_ P w K mg base 2 "_law_long_table" ["_law_flow_here"] (zw 19 2))(nB:b_ P w K mg base 2 "_law_any_table" ["_law_flow_here","_law_many"] D')(nv:b_ P w K mg base 1 "_law_nim_table" ["_law_sizes","_law_last"] DU)(wA:b_ P w K mg base 2 "_law_blown" ["_law_flow_here","_law_table_here"] zC)(my:b_ P w K mg base 3 "_law_renumbered" ["_law_flow_here","_law_table_here"] Lw):bT P w K mg base eX 4 f fd ["_law_flow_here"] (cK K (zw 19 6)):=by
 refine ki F cB (λ ds M Q h=>?_) (λ dE A outer s H E ds M Q hr h=>?_)
 ·obtain⟨f,c,rfl,_⟩:=h;rfl
 ·obtain⟨f,cc,rfl,hF,k⟩:=h;refine⟨_,(af (cI (aS (eT hr.units) (aE ay (hr.mono (by decide)) (by rfl) (aa (ak 0) (aa aj ae))) aj (aN _))
 (ao (aM (aE mB (hr.mono (by decide)) (by rfl) (aa (ak 0) ae))))
 aY)
 (af (aA (i:=1) cB.nd rfl (Or.inl rfl) (aE ay (hr.mono (by decide)) (by rfl) (aa (ak 0) (aa aj ae))))
 (af (cI (aS (eT hr.units) (aE ay (hr.mono (by decide)) (by rfl) (aa (ak 0) (aa aj ae))) aj (aN _))
 (ao (aA (i:=1) cB.nd rfl (Or.inl rfl) (aE ay (hr.mono (by decide)) (by rfl) (aa (ak 0) (aa aj ae)))))
 aY)
 (af (aA (i:=2) cB.nd rfl (Or.inl rfl) (aE nB (hr.mono (by decide)) (by rfl) (aa (ak 0) (aa (ak 1) ae))))
 (af (cI (aS (eT hr.units) (aE ay (hr.mono (by decide)) (by rfl) (aa (ak 0) (aa aj ae))) aj (aN _))
 (af (cQ (i:=3) cB.nd rfl (Or.inl rfl) (tgs:=["_law_h"]) (fr:=[0]) ⟨bD (by kernel_rfl),rfl,(λ _ _ h=>h),(bo rfl T.range (aa (ak 1) ae)),(bj (λ _ _ _ _ _=>(aQ (i:=0) (show(["_law_h","_law_flow_here"]:List Str).Nodup by decide+kernel) rfl (Or.inl rfl))) (by decide)),(λ _ _ _ _ _=>bC),(λ _ _ _ _ _=>(aE ay (hr.mono (by decide)) (by rfl) (aa (ak 1) (aa aj ae))))⟩)
 (ao (aA (i:=2) cB.nd rfl (Or.inl rfl) (aE nv (hr.mono (by decide)) (by rfl) (aa (ak 3) (aa (aI aR (cZ (aa zg (aa zg ae))) (aE ay (hr.mono (by decide)) (by rfl) (aa (ak 0) (aa aj ae))) (λ _ _=>rfl)) ae))))))
 aY)
 (af (cI (sx (aS (eT hr.units) (aE ay (hr.mono (by decide)) (by rfl) (aa (ak 0) (aa aj ae))) aj (aN _)) (sx (aS ph (aO cb (by rfl) T.len (by decide+kernel) (aa (aI aR (ak 2) aj (λ _ _=>rfl)) ae)) aj (aN _)) (sv (aS ph (ak 1) aj (aN _))))).pt
 (ao (aA (i:=2) cB.nd rfl (Or.inl rfl) (aE wA (hr.mono (by decide)) (by rfl) (aa (ak 0) (aa (ak 2) ae)))))
 aY)
 (af (cI (aS (eT hr.units) (aE ay (hr.mono (by decide)) (by rfl) (aa (ak 0) (aa aj ae))) aj (aN _))
 (ao (aA (i:=2) cB.nd rfl (Or.inl rfl) (aE my (hr.mono (by decide)) (by rfl) (aa (ak 0) (aa (ak 2) ae)))))
 aY)
 (ao (aM (ak 2)))))))))),?_⟩
  rfl';refine⟨f,cc,4,rfl,hF,by decide,by decide,λ d1 o1 P0 Q_ w_=>?_⟩;have F1:Fl f cc M _:=Fl.pick w_;generalize ai M f o1=M1 at*;rfl';refine bf (λ _=>?_) (λ _=>?_)
  ·rfl';refine⟨f,cc,rfl,F1.bh,λ m h x0 ls M2 G hm hh L F2=>?_⟩;rfl';exact aw (k m h x0 ls _ G hm (by lia) L (F1.trans F2))
  ·rfl';refine⟨f,cc,4,rfl,F1.bh,by decide,by decide,λ d2 o2 Ve Vd Dp=>?_⟩;have F2:=F1.trans (Fl.pick Dp);generalize ai M1 f o2=M2 at*;refine eJ ?_
   with_reducible refine gO (λ δ' M'=>∃n:Nat,δ'=[some (.ref f),some (.int n),none,none]/\n<=6/\Fl f cc M M') (λ N hN=>?_) ?_
   ·rfl';refine⟨f,cc,6,rfl,F2.bh,by decide,by decide,λ d3 o3 h30 h31 Q8=>?_⟩;have F3:=F2.trans (Fl.pick Q8);generalize ai M2 f o3=M3 at*;rfl';refine bf (λ _=>?_) (λ _=>?_)
    ·rfl';refine⟨f,cc,7,rfl,F3.bh,by decide,by decide,λ d4 o4 h40 h41 Vc=>?_⟩;have F4:=F3.trans (Fl.pick Vc);generalize ai M3 f o4=M4 at*;rfl';obtain⟨n,rfl⟩:∃n:Nat,d4=(n:Int):=⟨d4.toNat,by lia⟩;exact hN _ _ ⟨n,rfl,by lia,F4⟩
    ·rfl';obtain⟨n,rfl⟩:∃n:Nat,d2=(n:Int):=⟨d2.toNat,by lia⟩;exact hN _ _ ⟨n,rfl,by lia,F3⟩
   rintro δ' M3 ⟨n,rfl,hn,F3⟩;rfl';refine⟨f,cc,n,rfl,F3.bh,hn,λ m x0 ls M4 G hm L F4=>?_⟩;have Y0:=F3.trans F4;clear F4;have F4:=Y0;clear Y0;refine eJ ?_
   with_reducible refine gO (λ δ' M'=>∃(v:Option D) (m:Nat) (x0:List Row) (ls:Row),δ'=[some (.ref f),some (.int n),some (bI x0 ls),v]/\cM m n x0/\m<=16/\iy m ls/\Fl f cc M M') (λ N hN=>?_) ?_
   ·rfl';refine⟨f,cc,3,rfl,F4.bh,by decide,by decide,λ d5 o5 YI YH Tf=>?_⟩;have F5:=F4.trans (Fl.pick Tf);generalize ai M4 f o5=M5 at*;rfl';refine bf (λ _=>?_) (λ _=>?_)
    ·rfl';refine⟨dh (by lia) (by lia),?_⟩;rw[r6,cL];refine gY nD (λ ys M'=>Fl f cc M M'/\∀y∈ys,y < 5) (by rw[u6];lia) ⟨F5,λ y h=>by cases h⟩ (λ i x ys M' N hx hl hI hN=>?_) (λ sz M6 hl hI=>?_)
     ·rfl';refine⟨f,cc,5,rfl,hI.1.bh,by decide,by decide,λ d o h0 h1 CJ=>?_⟩;obtain⟨y,rfl⟩:∃n:Nat,d=(n:Int):=⟨d.toNat,by lia⟩;refine hN y _ ⟨hI.1.trans (Fl.pick CJ),λ z hz=>?_⟩;rcases A6.mp hz with e|e
      ·exact hI.2 z e
      ·rw[p8.mp e];lia
     ·obtain⟨F6,h5⟩:=hI;rw[u6]at hl;intro ps U3;have nf:=(F6.bh.ne U3).1;have F7:=F6.trans (Fl.put (o:=.lst (sz.map nD)) F6.bh U3);have h7:ai M6 ps (.lst (sz.map nD)) ps=some (.lst (sz.map nD)):=ag;generalize ai M6 ps (.lst (sz.map nD))=M7 at*;rfl';intro pl hpl;have h8:ai M7 pl (.lst [.str "loses",.str "wins"]) pl=some (.lst [.str "loses",.str "wins"]):=ag;have h7:ai M7 pl (.lst [.str "loses",.str "wins"]) ps=some (.lst (sz.map nD)):=by rw[av (bM h7 hpl)];exact h7
      have F8:=F7.trans (Fl.put (o:=.lst [.str "loses",.str "wins"]) F7.bh hpl);have nl:=(F7.bh.ne hpl).1;generalize ai M7 pl (.lst [.str "loses",.str "wins"])=M8 at*;rfl';refine⟨f,cc,2,rfl,F8.bh,by decide,by decide,λ d9 o9 h90 h91 hF9=>?_⟩;have P:=Fl.pick hF9;have F9:=F8.trans P;have h7:=P.mv _ _ nf h7;have h8:=P.mv _ _ nl h8;generalize ai M8 f o9=M9 at*;obtain⟨l,WR⟩:∃l:Str,ip [D.str "loses",D.str "wins"] d9=some (.str l):=by
       rcases(show d9=0\/d9=1 by lia)with rfl|rfl
       ·exact⟨_,rfl⟩
       ·exact⟨_,rfl⟩
      refine dH h8 WR ?_;rfl';refine⟨ps,sz,l,rfl,h7,h5,by lia,λ m x0 ls M' G hm L hE=>?_⟩;refine eJ ?_;rw[hl]at G;exact hN _ _ ⟨_,m,x0,ls,rfl,G,hm,L,F9.trans (gc hE F9.bh)⟩
    ·rfl';exact hN _ _ ⟨_,m,x0,ls,rfl,G,hm,L,F5⟩
   clear L hm G x0 ls m F4 M4;rintro δ' M4 ⟨v,m,x0,ls,rfl,G,hm,L,F4⟩
   with_reducible refine gO (λ δ' M'=>∃(v:Option D) (m:Nat) (x0:List Row) (ls:Row),δ'=[some (.ref f),some (.int n),some (bI x0 ls),v]/\cM m n x0/\m<=19/\iy m ls/\Fl f cc M M') (λ N hN=>?_) ?_
   ·have rK:=G.tb.len;have KP:∀M',Fl f cc M M'->N [some (.ref f),some (.int n),some (bI x0 ls),v] M':=λ M' F'=>hN _ _ ⟨_,m,x0,ls,rfl,G,by lia,L,F'⟩;have lM:bI x0 ls=.tup [.tup (x0.map row),row ls]:=rfl;rw[lM]at KP ⊢;rfl';refine⟨f,cc,3,rfl,F4.bh,by decide,by decide,λ d5 o5 YI YH Tf=>?_⟩;have F5:=F4.trans (Fl.pick Tf);generalize ai M4 f o5=M5 at*;rfl';refine bf (λ _=>?_) (λ _=>?_)
    ·rfl';rw[A5,rK];refine bf (λ hm7=>?_) (λ _=>?_)
     ·rfl';refine bf (λ Yh=>?_) (λ _=>?_)
      ·rfl';refine⟨f,cc,m,n,x0,ls,rfl,F5.bh,G,by lia,by lia,λ m x0 ls M6 G hm L F6=>?_⟩;refine eJ ?_;exact hN _ _ ⟨_,m,x0,ls,rfl,G,by lia,L,F5.trans F6⟩
      ·rfl';exact KP _ F5
     ·rfl';exact KP _ F5
    ·rfl';exact KP _ F5
   clear L hm G x0 ls m F4 M4 v;rintro δ' M4 ⟨v,m,x0,ls,rfl,G,hm,L,F4⟩;rfl';refine⟨f,cc,2,rfl,F4.bh,by decide,by decide,λ d5 o5 YI YH Tf=>?_⟩;have F5:=F4.trans (Fl.pick Tf);generalize ai M4 f o5=M5 at*;rfl';refine bf (λ _=>?_) (λ _=>?_)
   ·rfl';refine⟨f,cc,m,n,x0,ls,rfl,F5.bh,G,by lia,L,λ x0 ls M6 G L F6=>?_⟩;rfl';exact aw (k m n x0 ls _ G hm hn L (F5.trans F6))
   ·rfl';exact aw (k m n x0 ls _ G hm hn L F5)
def DV:fk:=λ ds M Q=>∃(p:Cs) (i:Nat),ds=[gV p,.int i]/\i < p.length/\p.length<=1000/\Q (gV (inc p i)) M
def O3:Option Nat->D
 |none=>.bK
 |some m=>.int m
def sM(P:Program)(w:World)(K:J5)(mg:Str->Option jp)(base:Heap):fk:=λ ds M Q=>∃(α:Type) (_:DecidableEq α) (enc:α->D) (t:Bool) (S:α->Prop) (F:Nat->α->α) (s0:α) (h m:Nat) (mo:Option Nat) (f:ww) (U:List α) (L:ka) (ps fv:List Str) (sp:mF) (cs:List D) (C:CM),
 ds=[.int h,enc s0,.ref f,O3 mo]/\(mo=some m\/(mo=none/\U.length < m))/\(∀a b,enc a=enc b->a=b)/\(∀s,je t (enc s))/\mI S h F/\S s0/\(∀s,S s->s∈U)/\U.length<=1000/\h<=12/\qh P w K mg base 5 L ps fv sp/\nF M f L fv cs C/\
 (∀M1 s i Q',be M M1->S s->i < h->(∀M',be (fA M1 C) M'->Q' (enc (F i s)) M')->sp [enc s,.int i] cs (fA M1 C) Q')/\
 ∀(p:ww) (ac:List (Cs×α)) (M':Mem),M p=none->M' p=some (.lst ((ac.take m).map (jW enc)))->wV F s0 h m ac->be M M'->Q (.ref p) M'
theorem BV{Q:Bool->Mem->Prop}{mo:Option Nat}(h3:δ[3]?=some (some (O3 mo)))(h4:δ[4]?=some (some (.ref p)))(hp:M p=some (.lst ds))(hm:mo=some m\/(mo=none/\ds.length < m))(q:Q (decide ((ds.length:Int) < (m:Int))) M):UL (mM (BP (yF false) (gq 3) (sC D.bK))) (mM (BP (K8 λ i j=>D.bl (decide (i < j))) (MZ G' (oT (gq 4) xD)) (gq 3))) δ M Q:=by
 refine LF (nL (zH (f_ h3 (I_ ?_))));rcases hm with rfl|⟨rfl,lt⟩
 ·refine sT (by simp[HX,O3]) ?_;refine nL (zH (LI (kL (f_ h4 (iS (iT (sU hp ?_)))))));exact f_ h3 (LH q)
 ·refine o_ ?_;rw[show decide ((ds.length:Int) < (m:Int))=true from B3 (by lia)]at q;exact q
theorem rq{Q:bW}{mo:Option Nat}(h3:δ[3]?=some (some (O3 mo)))(h4:δ[4]?=some (some (.ref p)))(hp:M p=some (.lst ds))(hm:mo=some m\/(mo=none/\ds.length < m))(q:∀r,M r=none->Q (.ref r) (ai M r (.lst (ds.take m)))):UK yE (gq 4) nK (sP (gq 3)) δ M Q:=by
 refine LD (f_ h4 (rp (vi (f_ h3 ?_))));rcases hm with rfl|⟨rfl,lt⟩
 ·refine BU hp (by lia) ?_;rw[r6];exact q
 ·refine xI hp ?_;rw[i8 (by lia)]at q;exact q
theorem u_:aJ ["counts","heap"] ["counts","heap"] (aq (top 3)):=⟨rfl,rfl,rfl,by decide+kernel,rfl,by decide+kernel,by decide+kernel⟩
theorem J_(F:h_ K "one_more" "one_more" (top 3) f fd)(T:iA K mg):bT P w K mg base eX 1 f fd ["counts","heap"] (cK K DV):=by
 refine ki F u_ (λ ds M Q h=>?_) (λ dE A outer s H E ds M Q hr h=>?_)
 ·obtain⟨p,i,rfl,_⟩:=h;rfl
 ·obtain⟨p,i,rfl,hi,hp,k⟩:=h;have Yc:p[i]?=some p[i]:=i0 hi;refine⟨_,(ao (aM (bF bP (bF bP (sE Ed (ak 0) sA (ze (ak 1))) (eO (aa (bF bP (aI aR (ak 0) (ak 1) (λ _ _=>rfl)) aj) ae))) (sE Ed (ak 0) (ze (bF bP (ak 1) aj)) sA)))),?_⟩;unfold gV at k ⊢;rfl';refine Eu (by lia) ?_;rfl';refine aK (d:=.int (p[i]:Nat)) (bH (by rw[r0,Yc];rfl)) ?_;rfl';refine vm (small (by simp;lia)) ?_;rfl';refine xJ (by lia) ?_;refine vm (small (by simp;lia)) ?_;refine aw ?_;rw[show((i:Int)).toNat=i by lia,show((i:Int)+1).toNat=i+1 by lia];rw[<- Ge Yc,A7,A7,map_take,map_drop]at k;exact k
theorem bX:aJ ["heaps","start","gone","most","told","known","done","counts","heap","there"] ["heaps","start","gone","most"] (aq (top 4)):=⟨rfl,rfl,rfl,by decide+kernel,rfl,by decide+kernel,by decide+kernel⟩
theorem vF(F:jI K "first_sums" "first_sums" (top 4) (.ref 29) 35 f fd)(T:iA K mg)(yA:b_ P w K mg base 1 "one_more" ["counts","heap"] DV):bT P w K mg base eX 7 f fd ["heaps","start","gone","most"] (cK K (sM P w K mg base)):=by
 refine VZ F bX (λ ds M Q h=>?_) (λ A outer s H E ds M Q hr h=>?_)
 ·obtain⟨α,_,enc,t,S,F,s0,h,m,mo,f,U,L,ps,fv,sp,cs,C,rfl,_⟩:=h;rfl
 ·obtain⟨α,_,enc,t,S,F,s0,h,m,mo,f,U,L,ps,fv,sp,cs,C,rfl,WJ,inj,yr,CM,Aw,hU,Yv,hh,hL,GG,Q6,k⟩:=h;refine⟨_,(af (aA (i:=4) bX.nd rfl (Or.inl rfl) (cZ (aa (eO (aa (bF lU (eO (aa aj ae)) (ak 0)) (aa (ak 1) ae))) ae)))
 (af (aA (i:=5) bX.nd rfl (Or.inl rfl) (zi hr.units (ak 1) ox))
 (af (aA (i:=6) bX.nd rfl (Or.inl rfl) aj)
 (af (eN A2 (sx (aS ph (ak 6) (aO qc (by rfl) T.len (by decide+kernel) (aa (ak 4) ae)) (aN _)) (sv (zd (aS zY (ak 3) mJ (aN _)) (xm (aS ph (aO qc (by rfl) T.len (by decide+kernel) (aa (ak 4) ae)) (ak 3) (aN _)))).pt)).pt
 (af (aA (i:=7) bX.nd rfl (Or.inl rfl) (aI (cj hr.units) (aI (cj hr.units) (ak 4) (ak 6) (λ _ _=>rfl)) aj (λ _ _=>rfl)))
 (af (dO A2 rfl (bo rfl T.range (aa (ak 0) ae)) (bu (i:=8) bX.nd rfl (Or.inl rfl))
 (af (aA (i:=9) bX.nd rfl (Or.inl rfl) (zj (k:=5) (i:=2) (hr.mono (by decide)) (by rfl) (by first|exact Or.inl rfl|exact Or.inr (Or.inl rfl)|exact Or.inr (Or.inr rfl)) (aa (aI (cj hr.units) (aI (cj hr.units) (ak 4) (ak 6) (λ _ _=>rfl)) aj (λ _ _=>rfl)) (aa (ak 8) ae))))
 (ao (cI (aS (vH hr.units) (ak 9) (ak 5) rfl)
 (af (fH ox (gG (ak 5) (ak 9) (xA hr.units)))
 (ao (cx (eZ i4 g9 i3 bL (ak 4) (aa (eO (aa (aE yA (hr.mono (by decide)) (by rfl) (aa (ak 7) (aa (ak 8) ae))) (aa (ak 9) ae))) ae)))))
 aY))))
 (ao (HU (i:=6) bX.nd rfl (Or.inl rfl) aj)))))
 (ao (aM (sE Ed (ak 4) sA (DD (ak 3))))))))),?_⟩
  rfl';refine vj (by lia) (by lia) ?_;rw[r6];rfl';intro p hp;have YF:be M (ai M p (.lst [.tup [.tup (List.replicate h (.int 0)),enc s0]])):=be.new be.rfl hp _;have SV:ai M p (.lst [.tup [.tup (List.replicate h (.int 0)),enc s0]]) p=some (.lst ([(iB h,s0)].map (jW enc))):=by rw[ag];show _=some (MO.lst [.tup [gV (iB h),enc s0]]);unfold gV iB;rw[map_replicate];rfl
  generalize ai M p (.lst [.tup [.tup (List.replicate h (.int 0)),enc s0]])=M0 at*;rfl';refine vk t λ q hq=>?_;have SQ:M q=none:=YF.free hq;have jE:p≠q:=bM SV hq;rfl';refine⟨ag,yr s0,?_⟩;rw[eh];have Q9:be M (ai M0 q (.cO t [(enc s0,.bl true)])):=YF.new hq _;have tO:ai M0 q (.cO t [(enc s0,.bl true)]) p=some (.lst ([(iB h,s0)].map (jW enc))):=by rw[av jE];exact SV
  have Z_:ai M0 q (.cO t [(enc s0,.bl true)]) q=some (.cO t (mR enc ([(iB h,s0)].map λ e=>(e.2,.bl true)))):=ag;generalize ai M0 q (.cO t [(enc s0,.bl true)])=M1 at*;have hkl:∀{ac:List (Cs×α)},(mR enc (ac.map λ e=>(e.2,D.bl true))).length=ac.length:=λ{ac}=>by simp[mR]
  have WV:∀{ac:List (Cs×α)},(ac.map λ e=>(e.2,D.bl true)).map (·.1)=ac.map (·.2):=λ{ac}=>by rw[C9];rfl
  have hS:∀{ac:List (Cs×α)},QF F s0 h ac->(∀e∈ac,S e.2)/\ac.length<=U.length:=λ{ac} hi=>by
   have h1:∀e∈ac,S e.2:=λ e he=>by have:=hi.ent e he;rw[<- this.2];exact CM.fi e.1 0 s0 (by rw[this.1.1];lia) Aw
   refine⟨h1,?_⟩;have:=List.Nodup.length_le_of_subset hi.nd (l₂:=U) λ x hx=>by obtain⟨e,he,rfl⟩:=C8.mp hx;exact hU _ (h1 e he)
   rwa [A5]at this
  rfl';refine eR ⟨λ m' δ M'=>∃(v7 v8 v9:Option D) (ac:List (Cs×α)) (d:Nat),δ=[some (.int h),some (enc s0),some (.ref f),some (O3 mo),some (.ref p),some (.ref q),some (.int d),v7,v8,v9]/\be M M'/\M' p=some (.lst (ac.map (jW enc)))/\M' q=some (.cO t (mR enc (ac.map λ e=>(e.2,.bl true))))/\uq F s0 h ac d 0/\d<=ac.length/\m'=U.length+1 - d,⟨_,none,none,none,_,0,rfl,Q9,tO,Z_,uq.start F s0 h,by lia,rfl⟩,?_⟩;rintro m' δ M' ⟨v7,v8,v9,ac,d,rfl,hE,fM,QZ,hB,KS,rfl⟩;have hlen:=(hS hB.gE).2;have fin:wV F s0 h m ac->∀(r:ww),M' r=none->fin2 Q (.ref r) (ai M' r (.lst ((ac.take m).map (jW enc)))):=λ hf r hr=>aw (k r ac _ (hE.free hr) ag hf (hE.new hr _));rfl';refine iT (sU fM ?_);rw[A5];rfl';refine bf (λ iC=>?_) (λ KR=>?_)
  ·refine BV rfl rfl fM (m:=m) (by rw[A5];exact WJ.imp id λ z=>⟨z.1,by have:=z.2;lia⟩) ?_;rw[A5];refine bf (λ hlm=>?_) (λ hgm=>?_)
   ·obtain⟨⟨a,s⟩,hs⟩:∃e,ac[d]?=some e:=⟨_,i0 (by lia)⟩;have PU:ip (ac.map (jW enc)) (d:Int)=some (.tup [gV a,enc s]):=bH (by rw[r0,hs];rfl);refine⟨λ δ' M'=>∃(v7 v8 v9:Option D) (ac:List (Cs×α)),δ'=[some (.int h),some (enc s0),some (.ref f),some (O3 mo),some (.ref p),some (.ref q),some (.int ((d:Int)+1)),v7,v8,v9]/\be M M'/\M' p=some (.lst (ac.map (jW enc)))/\M' q=some (.cO t (mR enc (ac.map λ e=>(e.2,.bl true))))/\uq F s0 h ac (d+1) 0/\d+1<=ac.length,?_,?_⟩
    ·rintro δ' M2 ⟨v7,v8,v9,Rr,rfl,a1,a2,a3,a4,a5⟩;exact⟨_,by lia,v7,v8,v9,Rr,d+1,rfl,a1,a2,a3,a4,a5,rfl⟩
    ·rfl';refine bx (dH fM PU ?_);rfl';refine bx (aK (d:=gV a) rfl ?_);rfl';refine⟨dh (by lia) (by lia),?_⟩;rw[r6];refine jc (λ i δ M2=>∃(v8 v9:Option D) (ac:List (Cs×α)),δ=[some (.int h),some (enc s0),some (.ref f),some (O3 mo),some (.ref p),some (.ref q),some (.int d),some (gV a),v8,v9]/\be M M2/\M2 p=some (.lst (ac.map (jW enc)))/\M2 q=some (.cO t (mR enc (ac.map λ e=>(e.2,.bl true))))/\uq F s0 h ac d i/\ac[d]?=some (a,s)) ⟨v8,v9,ac,rfl,hE,fM,QZ,hB,hs⟩ (λ i y δ M2 hd2 WY=>?_) (λ δ M2 WY=>?_)
     ·clear fM QZ hE hB hs PU fin iC hlm hlen KS;obtain⟨v8,v9,ac,rfl,hE,fM,QZ,hB,hs⟩:=WY;obtain⟨hi,rfl⟩:=fE hd2;have PU:ip (ac.map (jW enc)) (d:Int)=some (.tup [gV a,enc s]):=bH (by rw[r0,hs];rfl);obtain⟨hSe,hlen⟩:=hS hB.gE;have Tc:S s:=hSe _ (k7 hs);have U8:a.length=h:=(hB.gE.ent _ (k7 hs)).1.1;have U5:M2 f=M2 f:=rfl;rfl';have pM:=kY GG hE;obtain⟨cl,rP,_⟩:=pM.ex;refine EH rfl ⟨L,cl,rP⟩ ?_;rfl';refine bx (dH fM PU ?_);rfl';refine bx (aK (d:=enc s) rfl ?_);rfl';refine⟨L,ps,fv,sp,cs,C,hL,pM,?_⟩;rw[C5];refine Q6 M2 s i _ hE Tc hi λ M3 Xg=>?_;have Tg:=be.tY pM.tY Xg;have Ye:=Tg _ _ fM;have Pz:=Tg _ _ QZ;have YE:=hE.trans Tg;generalize gA M3 C=M4 at*;rfl';refine rn Pz (yr _) ?_;by_cases wb:F i s∈ac.map (·.2)
      ·rw[show(!(dC (mR enc (ac.map λ e=>(e.2,D.bl true))) (enc (F i s))).isSome)=false by
        obtain⟨e,he,ee⟩:=C8.mp wb;rw[<- ee,lZ (x:=e.2) (d:=.bl true) inj (by rw[WV];exact hB.gE.nd) (C8.mpr ⟨e,he,rfl⟩)];rfl]
       rfl';exact⟨_,_,ac,rfl,YE,Ye,Pz,hB.old CM Aw hi hs wb,hs⟩
      ·rw[show(!(dC (mR enc (ac.map λ e=>(e.2,D.bl true))) (enc (F i s))).isSome)=true by
        rw[l_ inj (by rw[WV];exact wb)];rfl]
       rfl';refine sS Pz (yr _) (by rw[hkl];exact p6 (show ac.length<=1000 by lia) (by decide)) ?_;rw[sZ inj _ (by rw[WV];exact wb)];have Yd:ai M4 q (.cO t (mR enc (ac.map (λ e=>(e.2,D.bl true))++[(F i s,.bl true)]))) p=some (.lst (ac.map (jW enc))):=by rw[av jE];exact Ye
       have Ww:ai M4 q (.cO t (mR enc (ac.map (λ e=>(e.2,D.bl true))++[(F i s,.bl true)]))) q=some (.cO t (mR enc ((ac++[(inc a i,F i s)]).map λ e=>(e.2,.bl true)))):=by rw[ag,A7];rfl
       have hE6:be M (ai M4 q (.cO t (mR enc (ac.map (λ e=>(e.2,D.bl true))++[(F i s,.bl true)])))):=YE.own SQ;generalize ai M4 q (.cO t (mR enc (ac.map (λ e=>(e.2,D.bl true))++[(F i s,.bl true)])))=M5 at*;rfl';refine⟨⟨rfl,_,Yd⟩,?_⟩;rfl';refine⟨a,i,rfl,by lia,by lia,?_⟩;rfl';refine fK Yd (by rw[A5];exact p6 (show ac.length<=1000 by lia) (by decide)) ?_;refine⟨_,_,ac++[(inc a i,F i s)],rfl,hE6.own hp,?_,?_,hB.new CM Aw hi hs wb,?_⟩
       ·rw[ag,A7];rfl
       ·rw[av (J0 jE)];exact Ww
       ·rw[c7 (c9.mp hs).1];exact hs
     ·obtain⟨v8,v9,ac,rfl,hE,fM,QZ,hB,hs⟩:=WY;rw[cF]at hB;have:=(c9.mp hs).1;rfl';exact⟨1,rfl,_,_,_,ac,rfl,hE,fM,QZ,hB.turn,by lia⟩
   ·with_reducible refine xM ?_
    refine rq rfl rfl fM (m:=m) (by rw[A5];exact WJ.imp id λ z=>⟨z.1,by have:=z.2;lia⟩) λ r hr=>?_;rw[<- map_take];exact fin ⟨hB.gE,.inl (by lia)⟩ r hr
  ·with_reducible refine zK ?_
   with_reducible refine xM ?_
   refine rq rfl rfl fM (m:=m) (by rw[A5];exact WJ.imp id λ z=>⟨z.1,by have:=z.2;lia⟩) λ r hr=>?_;rw[<- map_take];exact fin ⟨hB.gE,.inr λ x hx=>hB.all CM Aw (by lia) _ x (Nat.lt_succ_self _) hx⟩ r hr
def uX:fk:=λ ds M Q=>∃(m h:Nat) (x0:List Row) (x i n:Nat),ds=[.tup (x0.map row),.int x,.int i,.int n]/\Tb m h x0/\x < m/\i < h/\∀M',be M M'->Q (.int (du (aG x0 i) n x:Nat)) M'
def DP:fk:=λ ds M Q=>∃(m h:Nat) (x0:List Row) (ls cs:Row),ds=[bI x0 ls,row cs]/\Tb m h x0/\cs.length=h/\(∀x∈cs,0<=x)/\∀M',be M M'->Q (.int (fI x0 0 0 cs:Nat)) M'
theorem Nf{h:Nat}(G:Tb m h x0){x:Nat}(hx:x < m)(hi:i < h):ip ((x0.getD x []).map D.int) (i:Int)=some (nD (aG x0 i x)):=by obtain⟨e1,e2,e3⟩:=G.at hx hi;refine bH ?_;rw[r0,i0 (by lia)];rw[c6 (l:=x0.getD x []),i0 (by lia)]at e2;exact H9 (λ z=>some (D.int z)) e2
theorem we{cs:Row}(h:(dY (cs.map D.int))[i]?=some d):i < cs.length/\cs[i]?=some (cs.getD i 0)/\cs.take (i+1)=cs.take i++[cs.getD i 0]/\d=.tup [.int (i:Int),.int (cs.getD i 0)]:=by
 obtain⟨hi,e⟩:=jz h;rw[A5]at hi;have e1:cs[i]?=some (cs.getD i 0):=by rw[c6,i0 hi];rfl
 refine⟨hi,e1,by rw[take_add_one,e1];rfl,?_⟩;rw[e,c6,r0,e1];rfl
def uw(f:Nat->Nat)(x k:Nat):List Nat:=(List.range k).map λ j=>du f j x
theorem xR{f:Nat->Nat}{x:Nat}(h:j < k):(uw f x k)[j]?=some (du f j x):=by unfold uw;rw[r0,l6 h];rfl
theorem kM(f:Nat->Nat)(x k:Nat):(uw f x k).length=k:=by simp[uw]
theorem vw(f:Nat->Nat)(x k:Nat):uw f x (k+1)=uw f x k++[du f k x]:=by unfold uw;rw[range_succ,A7];rfl
theorem gN:aJ ["steps","thing","heap","many","path","start"] ["steps","thing","heap","many"] (aq (top 10)):=⟨rfl,rfl,rfl,by decide+kernel,rfl,by decide+kernel,by decide+kernel⟩
theorem Kc(F:h_ K "gone_by" "gone_by" (top 10) f fd)(T:iA K mg):bT P w K mg base eX 1 f fd ["steps","thing","heap","many"] (cK K uX):=by
 refine ki F gN (λ ds M Q h=>?_) (λ dE A outer s H E ds M Q hr h=>?_)
 ·obtain⟨m,h,x0,x,i,n,rfl,_⟩:=h;rfl
 ·obtain⟨m,h,x0,x,i,n,rfl,G,hx,hi,k⟩:=h;have hm:=G.cY;refine⟨_,(af (aA (i:=4) gN.nd rfl (Or.inl rfl) (cZ ae))
 (af (eN A2 (aS (gr hr.units) (ak 1) (ak 4) rfl)
 (af (cx (eZ i4 g9 i3 bL (ak 4) (aa (ak 1) ae)))
 (ao (aA (i:=1) gN.nd rfl (Or.inl rfl) (aI aR (aI aR (ak 0) (ak 1) (λ _ _=>rfl)) (ak 2) (λ _ _=>rfl))))))
 (af (cI (aS ph (ak 3) (aO cb (by rfl) T.len (by decide+kernel) (aa (ak 4) ae)) (aN _))
 (ao (aM (aI aR (ak 4) (ak 3) (λ _ _=>rfl))))
 aY)
 (af (aA (i:=5) gN.nd rfl (Or.inl rfl) (eZ i4 PySem.F.slot_list_index PySem.F.type_list_index (gP hr.units) (ak 4) (aa (ak 1) ae)))
 (ao (aM (aI aR (ak 4) (bF bP (ak 5) (bF jK (bF zX (ak 3) (ak 5)) (bF zX (aO cb (by rfl) T.len (by decide+kernel) (aa (ak 4) ae)) (ak 5)))) (λ _ _=>rfl)))))))),?_⟩
  rfl';intro p hp;have E1:be M (ai M p (.lst [])):=be.new be.rfl hp _;have h1:ai M p (.lst []) p=some (.lst ((uw (aG x0 i) x 0).map nD)):=ag;generalize ai M p (.lst [])=M1 at*;rfl';have fl:=i_ (G.gL hi);refine eR ⟨λ me δ M'=>∃j:Nat,δ=[some (.tup (x0.map row)),some (.int (du (aG x0 i) j x:Nat)),some (.int i),some (.int n),some (.ref p),none]/\M' p=some (.lst ((uw (aG x0 i) x j).map nD))/\(uw (aG x0 i) x j).Nodup/\be M M'/\me=m+1 - j,⟨_,0,rfl,h1,nodup_nil,E1,rfl⟩,?_⟩;clear E1 h1 M1;rintro me δ M1 ⟨j,rfl,h1,nd,E1,rfl⟩;have jm:j<=m:=by
   have:=List.Nodup.length_le_of_subset nd (l₂:=List.range m) λ y hy=>by obtain⟨a,_,rfl⟩:=C8.mp hy;exact mem_range.mpr (fl a x hx)
   rwa [kM,u6]at this
  rfl';refine oY (k:=0) (b:=decide (du (aG x0 i) j x∈uw (aG x0 i) x j)) (ds:=(uw (aG x0 i) x j).map nD) (dg h1) (cG.pl _) (ff λ x _=>cG.pl x) (by decide) (by rw[decide_eq_true_iff];exact(tG cG.inj _).symm) ?_;refine jk (λ hn=>?_) (λ hn=>?_)
  ·have hn:du (aG x0 i) j x∉uw (aG x0 i) x j:=by simpa using hn
   have Zv:(uw (aG x0 i) x (j+1)).Nodup:=by rw[vw];exact nodup_append.mpr ⟨nd,by simp,λ a ha b hb z=>hn (by rw[<- p8.mp hb,<- z];exact ha)⟩
   refine⟨λ δ' M'=>δ'=[some (.tup (x0.map row)),some (.int (du (aG x0 i) (j+1) x:Nat)),some (.int i),some (.int n),some (.ref p),none]/\M' p=some (.lst ((uw (aG x0 i) x (j+1)).map nD))/\be M M',?_,?_⟩
   ·rintro δ' M' ⟨rfl,a1,a2⟩;exact⟨_,by lia,j+1,rfl,a1,Zv,a2,rfl⟩
   obtain⟨r1,r2,r3⟩:=lR G (fl j x hx);rfl';refine⟨⟨rfl,_,h1⟩,?_⟩;rfl';refine fK h1 (by rw[A5,kM];exact p6 (show j<=300 by lia) (by decide)) ?_;rfl';refine aK r1 ?_;rfl';refine aK (Nf G (fl j x hx) hi) ?_;rfl';refine⟨?_,by rw[ag,vw,A7];rfl,E1.own hp⟩;rw[Ga];rfl
  ·have hn:du (aG x0 i) j x∈uw (aG x0 i) x j:=by simpa using hn
   rfl';rw[A5,kM];refine bf (λ iC=>?_) (λ KR=>?_)
   ·rfl';refine dH h1 (bH (by rw[r0,xR (by lia)];rfl)) ?_;exact aw (k _ E1)
   ·have ha:=gS hn;have la:=(c9.mp ha).1;rw[kM]at la;rfl';refine⟨⟨rfl,_,h1⟩,?_⟩;rfl';refine kJ nD cG.inj h1 hn cG.pl (by decide) ?_;generalize(uw (aG x0 i) x j).idxOf (du (aG x0 i) j x)=a at*;rw[xR la]at ha;have er:=CA la (A1 ha).symm (n:=n) (by lia);rfl';rw[A5,kM];have em:((n:Int) - (a:Int)) % ((j:Int) - (a:Int))=(((n - a) % (j - a):Nat):Int):=by rw[show(n:Int) - (a:Int)=((n - a:Nat):Int) by lia,show(j:Int) - (a:Int)=((j - a:Nat):Int) by lia];exact(Int.natCast_emod _ _).symm
    have lb:=Nat.mod_lt (n - a) (show 0 < j - a by lia);generalize hb:(n - a) % (j - a)=b at*;refine xN (by lia) ?_;rw[em];rfl';refine dH h1 (d:=nD (du (aG x0 i) (a+b) x)) ?_ ?_
    ·have:=bH (xs:=(uw (aG x0 i) x j).map nD) (j:=a+b) (v:=nD (du (aG x0 i) (a+b) x)) (by rw[r0,xR (by lia)];rfl)
     rwa [show((a+b:Nat):Int)=(a:Int)+(b:Int) by lia]at this
    ·rw[er];exact aw (k _ E1)
theorem eQ:aJ ["table","counts","thing","heap","many"] ["table","counts"] (aq (top 11)):=⟨rfl,rfl,rfl,by decide+kernel,rfl,by decide+kernel,by decide+kernel⟩
theorem ON(F:h_ K "thing_of" "thing_of" (top 11) f fd)(T:iA K mg)(CQ:b_ P w K mg base 1 "gone_by" ["steps","thing","heap","many"] uX):bT P w K mg base eX 2 f fd ["table","counts"] (cK K DP):=by
 refine ki F eQ (λ ds M Q h=>?_) (λ dE A outer s H E ds M Q hr h=>?_)
 ·obtain⟨m,h,x0,ls,cs,rfl,_⟩:=h;rfl
 ·obtain⟨m,h,x0,ls,cs,rfl,G,hc,hp,k⟩:=h;have lM:bI x0 ls=.tup [.tup (x0.map row),row ls]:=rfl;rw[lM];have hh:=G.tS;refine⟨_,(af (aA (i:=2) eQ.nd rfl (Or.inl rfl) aj)
 (af (dO A2 rfl (fQ rfl T.enumerate (aa (ak 1) ae)) (jN (n:=2) rfl (cz (bu (i:=3) eQ.nd rfl (Or.inl rfl)) (cz (bu (i:=4) eQ.nd rfl (Or.inl rfl)) gF)))
 (ao (aA (i:=2) eQ.nd rfl (Or.inl rfl) (aE CQ (hr.mono (by decide)) (by rfl) (aa (aI aR (ak 0) aj (λ _ _=>rfl)) (aa (ak 2) (aa (ak 3) (aa (ak 4) ae))))))))
 (ao (aM (ak 2))))),?_⟩
  rfl';refine jc (λ i δ M'=>∃(v3 v4:Option D),δ=[some (.tup [.tup (x0.map row),row ls]),some (row cs),some (.int (fI x0 0 0 (cs.take i):Nat)),v3,v4]/\be M M') ⟨none,none,rfl,be.rfl⟩ (λ i d δ M' hd h=>?_) (λ δ M' h=>?_)
  ·obtain⟨v3,v4,rfl,E1⟩:=h;obtain⟨hi,e,ex,rfl⟩:=we hd;have hx:=hp _ (k7 e);obtain⟨n,en⟩:∃n:Nat,cs.getD i 0=(n:Int):=⟨(cs.getD i 0).toNat,by lia⟩;rw[en];rfl';refine⟨m,h,x0,_,i,n,rfl,G,jP G _ 0 0 (by rw[x8];lia) G.pos,by lia,λ M2 E2=>?_⟩;rfl';have et:fI x0 0 0 (cs.take (i+1))=du (aG x0 i) n (fI x0 0 0 (cs.take i)):=by rw[ex,en,uR,x8,Nat.min_eq_left (D8 hi),D3];rfl
   rw[et];exact⟨_,_,rfl,E1.trans E2⟩
  ·obtain⟨v3,v4,rfl,E1⟩:=h;rw[cu,A5,x4];rfl';exact aw (k _ E1)
abbrev qp(kv:List (Nat×Nat)):List (D×D):=mR nD (kv.map λ e=>(e.1,nD e.2))
theorem Kv(kv:List (Nat×Nat)):(qp kv).length=kv.length:=by simp[mR]
theorem ye(kv:List (Nat×Nat)):(kv.map λ e=>(e.1,nD e.2)).map (·.1)=kv.map (·.1):=by rw[C9];rfl
theorem gR{v:Nat}(nd:(kv.map (·.1)).Nodup)(h:(y,v)∈kv):dC (qp kv) (nD y)=some (nD v):=lZ cG.inj (by rw[ye];exact nd) (C8.mpr ⟨_,h,rfl⟩)
theorem SF(h:y∉kv.map (·.1)):dC (qp kv) (nD y)=none:=l_ cG.inj (by rw[ye];exact h)
theorem Pc{v:Nat}(h:y∉kv.map (·.1)):putD (qp kv) (nD y) (nD v)=qp (kv++[(y,v)]):=by unfold qp;rw[sZ cG.inj _ (by rw[ye];exact h),A7];rfl
def xu:fk:=λ ds M Q=>∃(m h m2 x:Nat) (r q:List Row),ds=[.tup (r.map row),.tup (q.map row),.int x]/\cM m h r/\Tb m2 h q/\x < m2/\∀(p:ww) (kv:List (Nat×Nat)) (M':Mem),M p=none->M' p=some (.cO false (qp kv))->XF m r q h x kv->be M M'->Q (.ref p) M'
def nJ:fk:=λ ds M Q=>∃(m h x:Nat) (r:List Row),ds=[.tup (r.map row),.int x]/\cM m h r/\x < m/\∀(p:ww) (kv:List (Nat×Nat)) (M':Mem),M p=none->M' p=some (.cO false (qp kv))->XF m r r h x kv->be M M'->Q (.ref p) M'
def DR:fk:=λ ds M Q=>∃(m h x y:Nat) (r:List Row) (ls:Row),ds=[bI r ls,.int x,.int y]/\cM m h r/\x < m/\y < m/\∀M',be M M'->Q (.int (mul r h x y:Nat)) M'
theorem eB:aJ ["steps","others","start","told","waiting","thing","heap","later"] ["steps","others","start"] (aq (top 12)):=⟨rfl,rfl,rfl,by decide+kernel,rfl,by decide+kernel,by decide+kernel⟩
theorem Kf(F:h_ K "carried" "carried" (top 12) f fd)(T:iA K mg):bT P w K mg base eX 1 f fd ["steps","others","start"] (cK K xu):=by
 refine ki F eB (λ ds M Q h=>?_) (λ dE A outer s H E ds M Q hr h=>?_)
 ·obtain⟨m,h,m2,x,r,q,rfl,_⟩:=h;rfl
 ·obtain⟨m,h,m2,x,r,q,rfl,G,T2,hx,k⟩:=h;have hm:=G.tb.cY;have hh:=G.tb.tS;refine⟨_,(af (aA (i:=3) eB.nd rfl (Or.inl rfl) (zi hr.units aj (ak 2)))
 (af (aA (i:=4) eB.nd rfl (Or.inl rfl) (cZ (aa aj ae)))
 (af (eN A2 (aS (ij hr.units) (ak 4) (cZ ae) (aN _))
 (af (aA (i:=5) eB.nd rfl (Or.inl rfl) (Rp i4 PySem.F.slot_list_pop PySem.F.type_list_pop LR (ak 4)))
 (ao (dO A2 rfl (fQ rfl T.enumerate (aa (aI (cj hr.units) (ak 0) (ak 5) (λ _ _=>rfl)) ae)) (jN (n:=2) rfl (cz (bu (i:=6) eB.nd rfl (Or.inl rfl)) (cz (bu (i:=7) eB.nd rfl (Or.inl rfl)) gF)))
 (ao (cI (aS (vH hr.units) (ak 7) (ak 3) rfl)
 (af (fH (aI (cj hr.units) (aI (cj hr.units) (ak 1) (aI (cj hr.units) (ak 3) (ak 5) (λ _ _=>rfl)) (λ _ _=>rfl)) (ak 6) (λ _ _=>rfl)) (gG (ak 3) (ak 7) (xA hr.units)))
 (ao (cx (eZ i4 g9 i3 bL (ak 4) (aa (ak 7) ae)))))
 aY))))))
 (ao (aM (ak 3)))))),?_⟩
  rfl';refine vk false λ p hp=>?_;rfl';refine⟨ag,eD 0,?_⟩;rw[eh];have E1:be M (ai M p (.cO false [(.int 0,.int x)])):=be.new be.rfl hp _;have h1:ai M p (.cO false [(.int 0,.int x)]) p=some (.cO false (qp [(0,x)])):=ag;generalize ai M p (.cO false [(.int 0,.int x)])=M1 at*;rfl';intro w hw;have X5:=E1.free hw;have pw:p≠w:=bM h1 hw;have E2:=E1.new hw (.lst [.int 0]);have h2:ai M1 w (.lst [.int 0]) p=some (.cO false (qp [(0,x)])):=by rw[av pw];exact h1
  have w2:ai M1 w (.lst [.int 0]) w=some (.lst ([0].map nD)):=ag;generalize ai M1 w (.lst [.int 0])=M2 at*;clear E1 h1 M1 hw;rfl';refine eR ⟨λ me δ M'=>∃(v5 v6 v7:Option D) (kv:List (Nat×Nat)) (ws:List Nat),δ=[some (.tup (r.map row)),some (.tup (q.map row)),some (.int x),some (.ref p),some (.ref w),v5,v6,v7]/\M' p=some (.cO false (qp kv))/\M' w=some (.lst (ws.map nD))/\Bk r q h x kv ws/\be M M'/\ws.length<=kv.length/\me=2*(m - kv.length)+ws.length,⟨_,none,none,none,[(0,x)],[0],rfl,h2,w2,Bk.start r q h x,E2,D9 _,rfl⟩,?_⟩;clear h2 w2 E2 M2;rintro me δ M1 ⟨v5,v6,v7,kv,ws,rfl,h1,w1,C,E1,lw,rfl⟩;have kf:=C.cY G T2 hx;rfl';intro e he;refine nM (k:=0) (b:=decide (ws=[])) (by rw[av (bM w1 he)];exact w1) ag (ff λ x _=>dB 0 _) (λ e he=>by cases he) (by decide) (FH (by rw[decide_eq_true_iff])) ?_;have h1:ai M1 e (.lst []) p=some (.cO false (qp kv)):=by rw[av (bM h1 he)];exact h1
  have w1:ai M1 e (.lst []) w=some (.lst (ws.map nD)):=by rw[av (bM w1 he)];exact w1
  have E1:=E1.new he (.lst []);generalize ai M1 e (.lst [])=M2 at*;refine jk (λ hn=>?_) (λ hn=>?_)
  ·have hn:ws≠[]:=by simpa using hn
   obtain⟨DC,y,rfl⟩:∃DC y,ws=DC++[y]:=⟨_,_,(dropLast_concat_getLast hn).symm⟩;obtain⟨v,CI⟩:=C.pop;have hy:=rA G T2 hx (C.pr _ CI.at');refine⟨λ δ' M'=>∃(v5 v6 v7:Option D) (mO:List (Nat×Nat)) (wX:List Nat),δ'=[some (.tup (r.map row)),some (.tup (q.map row)),some (.int x),some (.ref p),some (.ref w),v5,v6,v7]/\M' p=some (.cO false (qp mO))/\M' w=some (.lst (wX.map nD))/\Bk r q h x mO wX/\be M M'/\kv.length+wX.length=mO.length+DC.length/\kv.length<=mO.length,?_,?_⟩
   ·rintro δ' M' ⟨v5,v6,v7,mO,wX,rfl,a1,a2,a3,a4,a5,a6⟩;have:=a3.cY G T2 hx;rw[o7,j8]at lw;exact⟨_,by rw[o7,j8];lia,v5,v6,v7,mO,wX,rfl,a1,a2,a3,a4,by lia,rfl⟩
   rfl';refine⟨⟨rfl,_,w1⟩,?_⟩;rfl';refine Nm (ds:=DC.map nD) (y:=nD y) (by rw[w1,A7];rfl) ?_;have h1:ai M2 w (.lst (DC.map nD)) p=some (.cO false (qp kv)):=by rw[av pw];exact h1
   have w1:ai M2 w (.lst (DC.map nD)) w=some (.lst (DC.map nD)):=ag;have E1:be M (ai M2 w (.lst (DC.map nD))):=E1.own X5;generalize ai M2 w (.lst (DC.map nD))=M3 at*;obtain⟨r1,r2,r3⟩:=lR G.tb hy.1;obtain⟨q1,q2,q3⟩:=lR T2 hy.2;rfl';refine bx (aK r1 ?_);rfl';refine jc (λ i δ M'=>∃(v6 v7:Option D) (mO:List (Nat×Nat)) (wX:List Nat),δ=[some (.tup (r.map row)),some (.tup (q.map row)),some (.int x),some (.ref p),some (.ref w),some (nD y),v6,v7]/\M' p=some (.cO false (qp mO))/\M' w=some (.lst (wX.map nD))/\qQ r q h x mO wX y v i/\be M M'/\kv.length+wX.length=mO.length+DC.length/\kv.length<=mO.length/\mO.length<=m) ⟨v6,v7,kv,DC,rfl,h1,w1,CI,E1,rfl,D9 _,kf⟩ (λ i d δ M' hd hI=>?_) (λ δ M' hI=>?_)
   ·clear h1 w1 CI E1;obtain⟨v6,v7,mO,wX,rfl,h1,w1,CI,E1,l1,l2,l3⟩:=hI;obtain⟨hi,e1,_,rfl⟩:=we hd;rw[r2]at hi;have ex:(r.getD y []).getD i 0=(aG r i y:Int):=(G.tb.at hy.1 hi).2.1;rw[ex];have ez:D.int (aG r i y:Int)=nD (aG r i y):=rfl;rw[ez];rfl';refine rn h1 (eD _) ?_;by_cases wb:aG r i y∈mO.map (·.1)
    ·obtain⟨en,he,ee⟩:=C8.mp wb;rw[show(!(dC (qp mO) (nD (aG r i y))).isSome)=false by rw[<- ee,gR CI.nd (v:=en.2) he];rfl];rfl';exact⟨_,_,mO,wX,rfl,h1,w1,CI.old wb,E1,l1,l2,l3⟩
    ·rw[show(!(dC (qp mO) (nD (aG r i y))).isSome)=true by rw[SF wb];rfl];rfl';refine jR h1 (eD _) (gR CI.nd CI.at') ?_;rfl';refine bx (aK q1 ?_);rfl';refine bx (aK (d:=nD (aG q i v)) ?_ ?_)
     ·exact(sG T2 hy.2 hi).2
     rfl';refine sS h1 (eD _) (by rw[Kv];exact p6 (show mO.length<=300 by lia) (by decide)) ?_;rw[Pc wb];have w2:ai M' p (.cO false (qp (mO++[(aG r i y,aG q i v)]))) w=some (.lst (wX.map nD)):=by rw[av (J0 pw)];exact w1
     have h2:ai M' p (.cO false (qp (mO++[(aG r i y,aG q i v)]))) p=some (.cO false (qp (mO++[(aG r i y,aG q i v)]))):=ag;have E2:be M (ai M' p (.cO false (qp (mO++[(aG r i y,aG q i v)])))):=E1.own hp;generalize ai M' p (.cO false (qp (mO++[(aG r i y,aG q i v)])))=M4 at*;have CN:=CI.new hi wb;have nf:=CN.nd;have l4:(mO++[(aG r i y,aG q i v)]).length<=m:=by
      have:=List.Nodup.length_le_of_subset nf (l₂:=List.range m) λ z hz=>by obtain⟨e,he,rfl⟩:=C8.mp hz;exact mem_range.mpr (rA G T2 hx (CN.pr e he)).1
      rwa [A5,u6]at this
     rfl';refine⟨⟨rfl,_,w2⟩,?_⟩;rfl';refine fK w2 (by rw[A5];exact p6 (show wX.length<=700 by rw[o7,j8]at lw;lia) (by decide)) ?_;refine⟨_,_,_,wX++[aG r i y],rfl,by rw[av pw];exact h2,by rw[ag,A7];rfl,CN,E2.own X5,?_,?_,l4⟩
     ·rw[o7,o7,j8,j8];lia
     ·rw[o7];lia
   ·obtain⟨v6,v7,mO,wX,rfl,h1,w1,CI,E1,l1,l2,l3⟩:=hI;rw[cu,A5,r2]at CI;exact⟨_,_,_,mO,wX,rfl,h1,w1,CI.done,E1,l1,l2⟩
  ·have hn:ws=[]:=by simpa using hn
   subst hn;rfl';exact aw (k p kv _ hp h1 (C.crd G T2 hx) E1)
theorem BN:aJ ["steps","x"] ["steps","x"] (aq (top 13)):=⟨rfl,rfl,rfl,by decide+kernel,rfl,by decide+kernel,by decide+kernel⟩
theorem Fv(F:h_ K "put_to" "put_to" (top 13) f fd)(T:iA K mg)(mC:b_ P w K mg base 1 "carried" ["steps","others","start"] xu):bT P w K mg base eX 2 f fd ["steps","x"] (cK K nJ):=by
 refine ki F BN (λ ds M Q h=>?_) (λ dE A outer s H E ds M Q hr h=>?_)
 ·obtain⟨m,h,x,r,rfl,_⟩:=h;rfl
 ·obtain⟨m,h,x,r,rfl,G,hx,k⟩:=h;refine⟨_,(ao (aM (aE mC (hr.mono (by decide)) (by rfl) (aa (ak 0) (aa (ak 0) (aa (ak 1) ae)))))),?_⟩;rfl';refine⟨m,h,m,x,r,r,rfl,G,G.tb,hx,λ p kv M' hp h1 C E1=>?_⟩;exact aw (k p kv M' hp h1 C E1)
theorem MR:aJ ["table","x","y"] ["table","x","y"] (aq (top 14)):=⟨rfl,rfl,rfl,by decide+kernel,rfl,by decide+kernel,by decide+kernel⟩
theorem OP(F:h_ K "put" "put" (top 14) f fd)(T:iA K mg)(gw:b_ P w K mg base 2 "put_to" ["steps","x"] nJ):bT P w K mg base eX 3 f fd ["table","x","y"] (cK K DR):=by
 refine ki F MR (λ ds M Q h=>?_) (λ dE A outer s H E ds M Q hr h=>?_)
 ·obtain⟨m,h,x,y,r,ls,rfl,_⟩:=h;rfl
 ·obtain⟨m,h,x,y,r,ls,rfl,G,hx,hy,k⟩:=h;have lM:bI r ls=.tup [.tup (r.map row),row ls]:=rfl;rw[lM];refine⟨_,(ao (aM (aI (cj hr.units) (aE gw (hr.mono (by decide)) (by rfl) (aa (aI (cj hr.units) (ak 0) aj (λ _ _=>rfl)) (aa (ak 1) ae))) (ak 2) (λ _ _=>rfl)))),?_⟩;rfl';refine bx (aK (d:=.tup (r.map row)) rfl ?_);rfl';refine⟨m,h,x,r,rfl,G,hx,λ p kv M' hp h1 C E1=>?_⟩;obtain⟨v,hv⟩:=C.all y hy;rfl';refine jR h1 (eD _) (gR C.nd hv) ?_;have ev:v=mul r h x y:=iX G hx (C.pr _ hv);rw[ev];exact aw (k _ E1)
theorem Gb(ls:Row)(x:Nat):dU ls x=true↔D.int (x:Int)∈ls.map D.int:=by
 unfold dU;rw[decide_eq_true_iff];constructor
 ·intro h;exact C8.mpr ⟨_,h,rfl⟩
 ·intro h;obtain⟨y,hy,e⟩:=C8.mp h;rw[<- D.int.inj e];exact hy
theorem kH{Q:bW}{x:Nat}(q:Q (.bl (dU ls x)) M):Tz (.int (x:Int)) (row ls) M Q:=.inl (sV (k:=0) (ds:=ls.map D.int) rfl (dB 0 _) (ff λ x _=>dB 0 _) (by decide) (Gb ls x) q)
theorem zL{Q:bW}{x:Nat}(q:Q (.bl (dU ls x)) M):K7 (.int (x:Int)) (row ls) M Q:=sV (k:=0) (ds:=ls.map D.int) rfl (dB 0 _) (ff λ x _=>dB 0 _) (by decide) (Gb ls x) q
def DW:fk:=λ ds M Q=>∃(m h x:Nat) (r:List Row) (ls:Row),ds=[bI r ls,.int x]/\cM m h r/\x < m/\∀M',be M M'->Q (Rc (ux m r h ls x)) M'
def DZ:fk:=λ ds M Q=>∃(m h:Nat) (r:List Row) (ls:Row),ds=[bI r ls]/\cM m h r/\∀(p:ww) (M':Mem),M p=none->M' p=some (.lst ((nR (kq m r h ls)).map nD))->be M M'->Q (.ref p) M'
theorem Au[DecidableEq α]{T:List α}{b:α}(h:T[i]?=some b)(n:b∉T.take i):Pj T b=i:=by
 have lt:=(c9.mp h).1;have a:=gS (k7 h);have le:T.idxOf b<=i:=by
  refine w9 λ z=>?_;have e:=take_append_drop i T;have:T.idxOf b=(T.take i++T.drop i).idxOf b:=by rw[e]
  rw[idxOf_append,J4 n,drop_eq_getElem_cons lt]at this;have hb:T[i]=b:=(c9.mp h).2;rw[hb,v_,x8]at this;lia
 refine A8 le (w9 λ z=>n ?_);refine k7 (i:=Pj T b) ?_;rw[getElem?_take_of_lt z];exact a
structure Kn(T:List (List Bool))(kvs:List (List Bool×D))(i:Nat):Prop where
 len:kvs.length<=i
 look:∀b,kW kvs b=if b∈T.take i then some (nD (Pj T b))else none
theorem Kn.old{T:List (List Bool)}{kvs:List (List Bool×D)}{b0:List Bool}(k:Kn T kvs i)(h:T[i]?=some b0)(n:b0∈T.take i):Kn T kvs (i+1):=
 ⟨by have:=k.len;lia,λ b=>by
  rw[k.look,take_one h];by_cases z:b∈T.take i
  ·rw[J3 z,J3 (k8 _ z)]
  ·rw[J4 z,J4 λ q=>(A6.mp q).elim z λ q=>z (by rw[p8.mp q];exact n)]⟩
theorem Kn.new{T:List (List Bool)}{kvs:List (List Bool×D)}{b0:List Bool}(k:Kn T kvs i)(h:T[i]?=some b0)(n:b0∉T.take i):Kn T (kvs++[(b0,nD i)]) (i+1):=by
 refine⟨by rw[o7,j8];have:=k.len;lia,λ b=>?_⟩;have kl:=k.look b;unfold kW at kl ⊢;rw[find?_append,take_one h];cases e:kvs.find? λ p=>decide (p.1=b)with
 |some p=>
  rw[e]at kl;show some p.2=_;by_cases z:b∈T.take i
  ·rw[J3 z]at kl;rw[J3 (k8 _ z)];exact kl
  ·rw[J4 z]at kl;cases kl
 |none=>
  rw[e]at kl;have z:b∉T.take i:=λ z=>by rw[J3 z]at kl;cases kl
  by_cases q:b0=b
  ·subst q;rw[J3 (by simp),Au h n];simp
  ·rw[J4 λ w=>(A6.mp w).elim z λ w=>q (p8.mp w).symm];simp[q]
theorem gp:aJ ["table","x","beside"] ["table","x"] (aq (top 16)):=⟨rfl,rfl,rfl,by decide+kernel,rfl,by decide+kernel,by decide+kernel⟩
theorem Ka(F:h_ K "losing_beside" "losing_beside" (top 16) f fd)(T:iA K mg)(gw:b_ P w K mg base 2 "put_to" ["steps","x"] nJ):bT P w K mg base eX 3 f fd ["table","x"] (cK K DW):=by
 refine ki F gp (λ ds M Q h=>?_) (λ dE A outer s H E ds M Q hr h=>?_)
 ·obtain⟨m,h,x,r,ls,rfl,_⟩:=h;rfl
 ·obtain⟨m,h,x,r,ls,rfl,G,hx,k⟩:=h;have lM:bI r ls=.tup [.tup (r.map row),row ls]:=rfl;rw[lM];have hm:=G.tb.cY;have rK:=G.tb.len;refine⟨_,(af (aA (i:=2) gp.nd rfl (Or.inr rfl) (aE gw (hr.mono (by decide)) (by rfl) (aa (aI (cj hr.units) (ak 0) aj (λ _ _=>rfl)) (aa (ak 1) ae))))
 (ao (aM (eY br cp (by rfl) T.tuple (by decide+kernel) (tgs:=["y"]) (fr:=[2,0]) ⟨bD (by kernel_rfl),rfl,(λ _ _ h=>h),(bo rfl T.range (aa (aO qc (by rfl) T.len (by decide+kernel) (aa (aI (cj hr.units) (ak 0) aj (λ _ _=>rfl)) ae)) ae)),(bj (λ _ _ _ _ _=>(aQ (i:=0) (show(["y","beside","table"]:List Str).Nodup by decide+kernel) rfl (Or.inl rfl))) (by decide)),(λ _ _ _ _ _=>bC),(λ _ _ _ _ _=>(dW (vI hr.units) (aI (cj hr.units) (ak 1) (ak 0) (λ _ _=>rfl)) (aI (cj hr.units) (ak 2) aj (λ _ _=>rfl)) rfl))⟩)))),?_⟩
  rfl';refine bx (aK (d:=.tup (r.map row)) rfl ?_);rfl';refine⟨m,h,x,r,rfl,G,hx,λ p kv M' hp h1 C E1=>?_⟩;rfl';refine bx (aK (d:=.tup (r.map row)) rfl ?_);rfl';refine iT ?_;rfl';rw[A5,rK];refine⟨dh (by lia) (by lia),?_⟩;rw[r6,cL];refine gX (xs:=List.range m) (enc:=QR) (λ y=>.bl (dU ls (mul r h x y))) (by rw[u6];lia) (λ i y N hy hN=>?_) ?_
  ·have hy:=vh hy;obtain⟨v,hv⟩:=C.all y hy;have ev:v=mul r h x y:=iX G hx (C.pr _ hv);subst ev;rfl';rw[vg];refine jR h1 (eD _) (gR C.nd hv) ?_;rfl';refine bx (aK (d:=row ls) rfl ?_);rfl';exact kH hN
  ·rfl';have e:D.tup ((List.range m).map λ y=>D.bl (dU ls (mul r h x y)))=Rc (ux m r h ls x):=by unfold Rc ux;rw[C9];rfl
   rw[e];exact aw (k _ E1)
theorem iO:aJ ["table","known"] ["table"] (aq (top 17)):=⟨rfl,rfl,rfl,by decide+kernel,rfl,by decide+kernel,by decide+kernel⟩
theorem Ke(F:h_ K "first_alike" "first_alike" (top 17) f fd)(T:iA K mg)(nu:b_ P w K mg base 3 "losing_beside" ["table","x"] DW):bT P w K mg base eX 4 f fd ["table"] (cK K DZ):=by
 refine ki F iO (λ ds M Q h=>?_) (λ dE A outer s H E ds M Q hr h=>?_)
 ·obtain⟨m,h,r,ls,rfl,_⟩:=h;rfl
 ·obtain⟨m,h,r,ls,rfl,G,k⟩:=h;have lM:bI r ls=.tup [.tup (r.map row),row ls]:=rfl;have hm:=G.tb.cY;have rK:=G.tb.len;refine⟨_,(af (aA (i:=1) iO.nd rfl (Or.inr rfl) DH)
 (ao (aM (ow (tgs:=["x"]) (fr:=[1,0]) ⟨bD (by kernel_rfl),rfl,(λ _ _ h=>h),(bo rfl T.range (aa (aO qc (by rfl) T.len (by decide+kernel) (aa (aI (cj hr.units) (ak 0) aj (λ _ _=>rfl)) ae)) ae)),(bj (λ _ _ _ _ _=>(aQ (i:=0) (show(["x","known","table"]:List Str).Nodup by decide+kernel) rfl (Or.inl rfl))) (by decide)),(λ _ _ _ _ _=>bC),(λ _ _ _ _ _=>(BA hr.units (ak 1) (aa (aE nu (hr.mono (by decide)) (by rfl) (aa (ak 2) (aa (ak 0) ae))) (aa (ak 0) ae))))⟩)))),?_⟩
  rfl';intro q hq;have E1:be M (ai M q (.eS (.ug []))):=be.new be.rfl hq _;have h1:ai M q (.eS (.ug [])) q=some (.eS (.ug [])):=ag;generalize ai M q (.eS (.ug []))=M1 at*;rfl';refine bx ?_;rw[lM];refine aK (d:=.tup (r.map row)) rfl ?_;rfl';refine iT ?_;rfl';rw[A5,rK];refine⟨dh (by lia) (by lia),?_⟩;rw[r6,cL];refine gY (xs:=List.range m) (enc:=QR) nD (λ ys M'=>ys=(nR (kq m r h ls)).take ys.length/\be M M'/\∃kvs,M' q=some (.eS (.ug kvs))/\Kn (kq m r h ls) kvs ys.length) (by rw[u6];lia) ⟨rfl,E1,[],h1,D9 _,λ b=>by simp[kW]⟩ (λ i x ys M' N hx hl hI hN=>?_) (λ ys M' hl hI=>?_)
  ·obtain⟨e1,E2,kvs,h2,kn⟩:=hI;have QX:x=i:=by have:=(c9.mp hx).1;rw[u6]at this;rw[l6 this]at hx;exact(A1 hx).symm
   have hx:=vh hx;have ta:=dP (r:=r) (h:=h) (ls:=ls) hx;have na:(nR (kq m r h ls))[x]?=some (Pj (kq m r h ls) (ux m r h ls x)):=by have:=vV (K:=nR (kq m r h ls)) (x:=x) (by rw[nQ];simp[kq];exact hx);rw[jS ta]at this;exact this
   rw[hl,<- QX]at e1 kn;have fin:∀M2 vS,be M M2->M2 q=some (.eS (.ug vS))->Kn (kq m r h ls) vS (x+1)->N (nD (Pj (kq m r h ls) (ux m r h ls x))) M2:=λ M2 vS a b c=>hN _ _ ⟨by rw[o7,j8,hl,<- QX,take_one na,<- e1],a,vS,b,by rw[o7,j8,hl,<- QX];exact c⟩;have kl:=kn.len;rfl';refine⟨⟨q,kvs,rfl,h2⟩,?_⟩;rfl';rw[vg];refine⟨m,h,x,r,ls,rfl,G,hx,λ M3 E3=>?_⟩;have h3:=E3 _ _ h2;rfl';refine⟨q,kvs,ux m r h ls x,nD x,rfl,rfl,h3,p6 (show kvs.length<=300 by lia) (by decide),λ u hu=>?_,λ hn=>?_⟩
   ·rw[kn.look]at hu;split at hu
    ·next z=>
     cases hu;exact fin _ kvs (E2.trans E3) h3 (kn.old ta z)
    ·cases hu
   ·rw[kn.look]at hn;split at hn
    ·cases hn
    ·next z=>
     have ix:=Au ta z;have:=fin (ai M3 q (.eS (.ug (kvs++[(ux m r h ls x,nD x)])))) _ ((E2.trans E3).own hq) ag (kn.new ta z);rw[ix]at this;exact this
  ·obtain⟨e1,E2,kvs,h2,kn⟩:=hI;rw[u6]at hl;rw[hl,i8 (by rw[nQ];simp[kq])]at e1;subst e1;intro p hp;exact aw (k p _ (E2.free hp) ag (E2.new hp _))
noncomputable def UT (ns:List Nat):List (D×D):=mR nD ((List.range ns.length).map λ d=>(ns.getD d 0,nD d))
theorem zQ(ns:List Nat)(i:Nat)(hi:i<=ns.length):((List.range i).map λ d=>(ns.getD d 0,nD d)).map (·.1)=ns.take i:=by
 rw[C9];refine ext_getElem? λ j=>?_;rw[r0];by_cases z:j < i
 ·rw[l6 z,getElem?_take_of_lt z];show some (ns.getD j 0)=_;rw[c6,i0 (by lia)];rfl
 ·rw[k4 (by rw[u6];lia),k4 (by rw[x8];lia)];rfl
theorem R'{ns:List Nat}(nd:ns.Nodup){d s:Nat}(h:ns[d]?=some s):dC (UT ns) (nD s)=some (nD d):=by
 have lt:=(c9.mp h).1;have e:ns.getD d 0=s:=by rw[c6,h];rfl
 refine lZ cG.inj (by rw[zQ ns ns.length (D9 _),x4];exact nd) (C8.mpr ⟨d,mem_range.mpr lt,by rw[e]⟩)
def Lx:fk:=λ ds M Q=>∃(a:ww) (ns:List Nat),ds=[.ref a]/\M a=some (.lst (ns.map nD))/\ns.Nodup/\ns.length<=1000/\∀(p:ww) (M':Mem),M p=none->M' p=some (.cO false (UT ns))->be M M'->Q (.ref p) M'
def zx(P:Program)(w:World)(K:J5)(mg:Str->Option jp)(base:Heap):fk:=λ ds M Q=>∃(S:Nat->Prop) (F:Nat->Nat->Nat) (h s:Nat) (f q:ww) (aH:List Nat) (L:ka) (ps fv:List Str) (sp:mF) (cs:List D) (C:CM),
 ds=[.int s,.int h,.ref f,.ref q]/\h<=12/\S s/\aH.Nodup/\M q=some (.cO false (UT aH))/\(∀i,i < h->F i s∈aH)/\qh P w K mg base 5 L ps fv sp/\nF M f L fv cs C/\
 (∀M1 s i Q',be M M1->S s->i < h->(∀M',be (fA M1 C) M'->Q' (nD (F i s)) M')->sp [nD s,.int i] cs (fA M1 C) Q')/\
 ∀(r:Row) (M':Mem),cJ F aH s h r->be M M'->Q (row r) M'
def DT(P:Program)(w:World)(K:J5)(mg:Str->Option jp)(base:Heap):fk:=λ ds M Q=>∃(S:Nat->Prop) (F:Nat->Nat->Nat) (Cp:Nat->Bool) (h s0:Nat) (f g:ww) (U:List Nat) (L:ka) (ps fv:List Str) (sp:mF) (cs:List D) (C:CM) (L2:ka) (UR Tj:List Str) (RE:mF) (TJ:List D) (C2:CM),
 ds=[.int h,.int s0,.ref f,.ref g]/\h<=12/\mI S h F/\S s0/\(∀s,S s->s∈U)/\U.length<=300/\qh P w K mg base 5 L ps fv sp/\nF M f L fv cs C/\
 (∀M1 s i Q',be M M1->S s->i < h->(∀M',be (fA M1 C) M'->Q' (nD (F i s)) M')->sp [nD s,.int i] cs (fA M1 C) Q')/\
 qh P w K mg base 5 L2 UR Tj RE/\nF M g L2 Tj TJ C2/\(∀M1 s Q',be M M1->S s->(∀M',be (fA M1 C2) M'->Q' (.bl (Cp s)) M')->RE [nD s] TJ (fA M1 C2) Q')/\
 ∀(aH:List Nat) (x0:List Row) (ls:Row) (M':Mem),qi F s0 h U aH x0->x0.length=aH.length->iy aH.length ls->(∀d s,aH[d]?=some s->dU ls d=Cp s)->be M M'->Q (bI x0 ls) M'
theorem AA{F:Nat->Nat->Nat}{s0 h:Nat}:∀(cs:Cs) (i s:Nat),i+cs.length<=h->jH F h s0 s->jH F h s0 (fi F i s cs)
 |[],i,s,_,R=>R
 |c::cs,i,s,hl,R=>by
  rw[x3]at hl;have:∀n s,jH F h s0 s->jH F h s0 (nh (F i) n s):=λ n=>by
   induction n with
   |zero=>exact λ s R=>R
   |succ n ih=>exact λ s R=>by rw[pH];exact .step (ih s R) (by lia)
  exact AA cs (i+1) _ (by lia) (this c s R)
theorem fm:aJ ["names","places","number","name"] ["names"] (aq (top 1)):=⟨rfl,rfl,rfl,by decide+kernel,rfl,by decide+kernel,by decide+kernel⟩
theorem OQ(F:h_ K "places_of" "places_of" (top 1) f fd)(T:iA K mg):bT P w K mg base eX 1 f fd ["names"] (cK K Lx):=by
 refine ki F fm (λ ds M Q h=>?_) (λ dE A outer s H E ds M Q hr h=>?_)
 ·obtain⟨a,ns,rfl,_⟩:=h;rfl
 ·obtain⟨a,ns,rfl,ha,nd,hl,k⟩:=h;refine⟨_,(af (aA (i:=1) fm.nd rfl (Or.inl rfl) (Mx false))
 (af (dO A2 rfl (fQ rfl T.enumerate (aa (ak 0) ae)) (jN (n:=2) rfl (cz (bu (i:=2) fm.nd rfl (Or.inl rfl)) (cz (bu (i:=3) fm.nd rfl (Or.inl rfl)) gF)))
 (ao (fH (ak 2) (gG (ak 1) (ak 3) (xA hr.units)))))
 (ao (aM (ak 1))))),?_⟩
  rfl';intro q hq;have E1:be M (ai M q (.cO false [])):=be.new be.rfl hq _;have h1:ai M q (.cO false []) q=some (.cO false (mR nD ((List.range 0).map λ d=>(ns.getD d 0,nD d)))):=ag;have W8:=E1 _ _ ha;have qa:q≠a:=J0 (bM ha hq);generalize ai M q (.cO false [])=M1 at*;rfl';refine Qb (ds:=dY (ns.map nD)) (λ i δ M'=>∃v2 v3:Option D,δ=[some (.ref a),some (.ref q),v2,v3]/\be M M'/\M' q=some (.cO false (mR nD ((List.range i).map λ d=>(ns.getD d 0,nD d))))) ⟨_,_,rfl,E1,h1⟩ (λ i δ M' _ hI=>?_) (λ i d δ M' hd hI=>?_) (λ δ M' hI=>?_)
  ·obtain⟨_,_,_,E2,_⟩:=hI;show fV (.ref a) M'=_;unfold fV;rw[dg (E2 _ _ ha)];rfl
  ·obtain⟨v2,v3,rfl,E2,h2⟩:=hI;obtain⟨hi,rfl⟩:=jz hd;rw[A5]at hi;have en:(ns.map nD).getD i .bK=nD (ns.getD i 0):=by rw[c6,r0,i0 hi,c6,i0 hi];rfl
   rw[en];rfl';refine sS h2 (eD _) (by simp[mR];exact p6 (show i<=1000 by lia) (by decide)) ?_;have hn:ns.getD i 0∉((List.range i).map λ d=>(ns.getD d 0,nD d)).map (·.1):=by rw[zQ ns i (by lia)];intro z;obtain⟨j,hj⟩:=getElem?_of_mem z;have lj:=(c9.mp hj).1;rw[x8]at lj;rw[getElem?_take_of_lt (by lia)]at hj;have:=rB nd hj (show ns[i]?=some (ns.getD i 0) by rw[c6,i0 hi];rfl);lia
   rw[sZ cG.inj _ hn];refine⟨_,_,rfl,E2.own hq,?_⟩;rw[ag,range_succ,A7];rfl
  ·obtain⟨v2,v3,rfl,E2,h2⟩:=hI;rw[cu,A5]at h2;rfl';exact aw (k q _ hq h2 E2)
theorem BM:aJ ["there","heaps","gone","places"] ["there","heaps","gone","places"] (aq (top 7)):=⟨rfl,rfl,rfl,by decide+kernel,rfl,by decide+kernel,by decide+kernel⟩
theorem Fu(F:h_ K "row_of" "row_of" (top 7) f fd)(T:iA K mg):bT P w K mg base eX 6 f fd ["there","heaps","gone","places"] (cK K (zx P w K mg base)):=by
 refine ki F BM (λ ds M Q h=>?_) (λ dE A outer s H E ds M Q hr h=>?_)
 ·obtain⟨S,F,h,s,f,q,aH,L,ps,fv,sp,cs,C,rfl,_⟩:=h;rfl
 ·obtain⟨S,F,h,s,f,q,aH,L,ps,fv,sp,cs,C,rfl,hh,hs,nd,hq,wb,hL,GG,Q6,k⟩:=h;refine⟨_,(ao (aM (eY br cp (by rfl) T.tuple (by decide+kernel) (tgs:=["heap"]) (fr:=[3,2,0]) ⟨bD (by kernel_rfl),rfl,(λ _ _ h=>h),(bo rfl T.range (aa (ak 1) ae)),(bj (λ _ _ _ _ _=>(aQ (i:=0) (show(["heap","places","gone","there"]:List Str).Nodup by decide+kernel) rfl (Or.inl rfl))) (by decide)),(λ _ _ _ _ _=>bC),(λ _ _ _ _ _=>(aI (cj hr.units) (ak 1) (uM (P:=P) (w:=w) (K:=K) (mg:=mg) (base:=base) rfl rfl rfl rfl rfl (k:=5) (i:=2) (hr.mono (by decide)) (by rfl) (by first|exact Or.inl rfl|exact Or.inr (Or.inl rfl)|exact Or.inr (Or.inr rfl)) (aa (ak 3) (aa (ak 0) ae))) (λ _ _=>rfl)))⟩))),?_⟩;rfl';refine⟨dh (by lia) (by lia),?_⟩;rw[r6,cL];refine gY (xs:=List.range h) (enc:=QR) D.int (λ r M'=>be M M'/\cJ F aH s r.length r) (by rw[u6];lia) ⟨be.rfl,cJ.nil F aH s⟩ (λ i x r M' N hx hl hI hN=>?_) (λ r M' hl hI=>?_)
  ·obtain⟨E1,R⟩:=hI;have QX:x=i:=by have:=(c9.mp hx).1;rw[u6]at this;rw[l6 this]at hx;exact(A1 hx).symm
   have hx:=vh hx;rw[hl,<- QX]at R;rfl';have pM:=kY GG E1;obtain⟨cl,rP,_⟩:=pM.ex;refine EH rfl ⟨L,cl,rP⟩ ?_;rfl';refine⟨L,ps,fv,sp,cs,C,hL,pM,?_⟩;rw[vg];refine Q6 M' s x _ E1 hs hx λ M3 Xg=>?_;have Tg:=be.tY pM.tY Xg;have E5:=E1.trans Tg;have Ww:=E5 _ _ hq;generalize gA M3 C=M4 at*;have hi:=gS (wb x hx);rfl';refine jR Ww (eD _) (R' nd hi) ?_;have RN:=R.next hi;refine hN _ _ ⟨E5,?_⟩;rw[o7,j8,hl,<- QX];exact RN
  ·obtain⟨E1,R⟩:=hI;rw[u6]at hl;rfl';rw[hl]at R;exact aw (k r M' R E1)
theorem fR:aJ ["heaps","start","gone","is_losing","things","places","steps"] ["heaps","start","gone","is_losing"] (aq (top 8)):=⟨rfl,rfl,rfl,by decide+kernel,rfl,by decide+kernel,by decide+kernel⟩
theorem J8(F:h_ K "numbered" "numbered" (top 8) f fd)(T:iA K mg)(gU:Hr P w K mg base 7 "first_sums" ["heaps","start","gone","most"] (sM P w K mg base))(wy:b_ P w K mg base 1 "places_of" ["names"] Lx)(GX:b_ P w K mg base 6 "row_of" ["there","heaps","gone","places"] (zx P w K mg base)):bT P w K mg base eX 13 f fd ["heaps","start","gone","is_losing"] (cK K (DT P w K mg base)):=by
 refine ki F fR (λ ds M Q h=>?_) (λ dE A outer s H E ds M Q hr h=>?_)
 ·obtain⟨S,F,Cp,h,s0,f,g,U,L,ps,fv,sp,cs,C,L2,UR,Tj,RE,TJ,C2,rfl,_⟩:=h;rfl
 ·obtain⟨S,F,Cp,h,s0,f,g,U,L,ps,fv,sp,cs,C,L2,UR,Tj,RE,TJ,C2,rfl,hh,CM,Aw,hU,Yv,hL,GG,Q6,Xe,pM,Yk,k⟩:=h;refine⟨_,(af (cQ (i:=4) fR.nd rfl (Or.inl rfl) (tgs:=["counts","there"]) (fr:=[]) ⟨bD (by kernel_rfl),rfl,(λ _ _ h=>h),(dG (My gU (hr.mono (by decide)) (by rfl) (aa (ak 0) (aa (ak 1) (aa (ak 2) ae))))),(gi (λ _ _ _ _ _=>(iU rfl (bU (aQ (i:=0) (show(["counts","there"]:List Str).Nodup by decide+kernel) rfl (Or.inl rfl)) (bU (aQ (i:=1) (show(["counts","there"]:List Str).Nodup by decide+kernel) rfl (Or.inl rfl)) fS)))) (by decide) (by decide)),(λ _ _ _ _ _=>bC),(λ _ _ _ _ _=>(ak 1))⟩)
 (af (aA (i:=5) fR.nd rfl (Or.inr rfl) (aE wy (hr.mono (by decide)) (by rfl) (aa (ak 4) ae)))
 (af (aA (i:=6) fR.nd rfl (Or.inl rfl) (eY br cp (by rfl) T.tuple (by decide+kernel) (tgs:=["there"]) (fr:=[0,2,5]) ⟨bD (by kernel_rfl),rfl,(λ _ _ h=>h),(dG (ak 4)),(bj (λ _ _ _ _ _=>(aQ (i:=0) (show(["there","heaps","gone","places"]:List Str).Nodup by decide+kernel) rfl (Or.inl rfl))) (by decide)),(λ _ _ _ _ _=>bC),(λ _ _ _ _ _=>(aE GX (hr.mono (by decide)) (by rfl) (aa (ak 0) (aa (ak 1) (aa (ak 2) (aa (ak 3) ae))))))⟩))
 (ao (aM (eO (aa (ak 6) (aa (eY br cp (by rfl) T.tuple (by decide+kernel) (tgs:=["x","there"]) (fr:=[3]) ⟨bD (by kernel_rfl),rfl,(λ _ _ h=>h),(fQ rfl T.enumerate (aa (ak 4) ae)),(gi (λ _ _ _ _ _=>(iU rfl (bU (aQ (i:=0) (show(["x","there","is_losing"]:List Str).Nodup by decide+kernel) rfl (Or.inl rfl)) (bU (aQ (i:=1) (show(["x","there","is_losing"]:List Str).Nodup by decide+kernel) rfl (Or.inl rfl)) fS)))) (by decide) (by decide)),(λ _ _ _ _ _=>(ko (sy (uM (P:=P) (w:=w) (K:=K) (mg:=mg) (base:=base) rfl rfl rfl rfl rfl (k:=5) (i:=2) (hr.mono (by decide)) (by rfl) (by first|exact Or.inl rfl|exact Or.inr (Or.inl rfl)|exact Or.inr (Or.inr rfl)) (aa (ak 1) ae))))),(λ _ _ _ _ _=>(ak 0))⟩) ae)))))))),?_⟩
  rfl';refine⟨Nat,inferInstance,nD,false,S,F,s0,h,U.length+1,none,f,U,L,ps,fv,sp,cs,C,rfl,.inr ⟨rfl,Nat.lt_succ_self _⟩,cG.inj,eD,CM,Aw,hU,by lia,hh,hL,GG,Q6,λ p ac M1 hp h1 FS E1=>?_⟩;have hS:∀e∈ac,S e.2:=λ e he=>by have:=FS.gE.ent e he;rw[<- this.2];exact CM.fi e.1 0 s0 (by rw[this.1.1];lia) Aw
  have hlen:ac.length<=U.length:=by
   have:=List.Nodup.length_le_of_subset FS.gE.nd (l₂:=U) λ x hx=>by obtain⟨e,he,rfl⟩:=C8.mp hx;exact hU _ (hS e he)
   rwa [A5]at this
  rw[i8 (by lia)]at h1;have all:∀q,km F s0 h q->q∈ac.map (·.1):=FS.Tr.resolve_left (by lia);have cl:∀s∈ac.map (·.2),∀i,i < h->F i s∈ac.map (·.2):=λ s hs i hi=>by obtain⟨e,he,rfl⟩:=C8.mp hs;have ee:=FS.gE.ent e he;obtain⟨q,fq,eq,_⟩:=km.ex F s0 h (p:=inc e.1 i) (by rw[ju];exact ee.1.1);obtain⟨e2,Dn,e3⟩:=C8.mp (all q fq);refine C8.mpr ⟨e2,Dn,?_⟩;rw[<- (FS.gE.ent e2 Dn).2,e3,eq,CM.inc e.1 0 i s0 (by rw[ee.1.1];lia) (by rw[ee.1.1];exact hi) Aw,ee.2,D3]
  have V_:=FS.gE.nd;have iE:(ac.map (·.2))[0]?=some s0:=by rw[r0,FS.gE.iE];rfl
  have ur:∀s∈ac.map (·.2),jH F h s0 s:=λ s hs=>by obtain⟨e,he,rfl⟩:=C8.mp hs;have ee:=FS.gE.ent e he;rw[<- ee.2];exact AA e.1 0 s0 (by rw[ee.1.1];lia) .zero
  have Tc:∀s∈ac.map (·.2),S s:=λ s hs=>by obtain⟨e,he,rfl⟩:=C8.mp hs;exact hS e he
  rfl';refine jC (jW nD) (λ e:Cs×Nat=>nD e.2) (by lia) h1 (λ i e N he hN=>?_) ?_
  ·have PK:jW nD e=.tup [gV e.1,.int (e.2:Int)]:=rfl;rw[PK];rfl';exact hN
  intro q hq;have e1:ac.map (λ e:Cs×Nat=>nD e.2)=(ac.map (·.2)).map nD:=by rw[C9];rfl
  rw[e1];have Zi:(ac.map (·.2)).length=ac.length:=A5 _;generalize ac.map (·.2)=aH at*;have E2:=E1.new hq (.lst (aH.map nD));have h2:ai M1 q (.lst (aH.map nD)) q=some (.lst (aH.map nD)):=ag;generalize ai M1 q (.lst (aH.map nD))=M2 at*;rfl';refine⟨q,aH,rfl,h2,V_,by lia,λ d M3 hd h3 E3=>?_⟩;have E3':=E2.trans E3;have Xi:=E3 _ _ h2;rfl';refine pZ nD row (λ rs M'=>be M M'/\M' q=some (.lst (aH.map nD))/\M' d=some (.cO false (UT aH))/\∀(j:Nat) (r:Row),rs[j]?=some r->∃s,aH[j]?=some s/\cJ F aH s h r) (by lia) ⟨E3',Xi,h3,λ j r z=>by simp at z⟩ (λ _ _ z=>z.2.1) (λ i s rs M' N hs hl hI hN=>?_) (λ rs M' hl hI=>?_)
  ·obtain⟨E4,Pz,W2,Wv⟩:=hI;have X8:=k7 hs;rfl';refine⟨S,F,h,s,f,d,aH,L,ps,fv,sp,cs,C,rfl,hh,Tc s X8,V_,W2,λ i hi=>cl s X8 i hi,hL,kY GG E4,λ M5 s i Q' E5=>Q6 M5 s i Q' (E4.trans E5),λ r M5 R E5=>?_⟩;refine hN _ _ ⟨E4.trans E5,E5 _ _ Pz,E5 _ _ W2,λ j r' z=>?_⟩;by_cases g:j < rs.length
   ·rw[c7 g]at z;exact Wv j r' z
   ·have lt:=(c9.mp z).1;rw[o7,j8]at lt;have:j=rs.length:=by lia
    subst this;rw[c5 (D9 _),Nat.sub_self]at z;cases z;exact⟨s,by rw[hl];exact hs,R⟩
  ·obtain⟨E4,Pz,W2,Wv⟩:=hI;have ex:qi F s0 h U aH rs:=⟨V_,iE,ur,λ s hs=>hU s (Tc s hs),Wv⟩;rfl';refine yI (ds:=dY (aH.map nD)) (λ i zn M7=>be M M7/\M7 q=some (.lst (aH.map nD))/\∃ls:Row,zn=ls.map D.int/\iy i ls/\∀d s,d < i->aH[d]?=some s->dU ls d=Cp s) ⟨E4,Pz,[],rfl,iy.nil 0,λ d s z=>absurd z (by lia)⟩ (λ i zn M7 _ h=>?_) (λ i zn M7 hi h=>?_) (λ i dd zn M7 hd h=>?_) (λ zn M7 h=>?_)
   ·obtain⟨_,z,_⟩:=h;show fV (.ref q) M7=_;unfold fV;rw[dg z];rfl
   ·obtain⟨_,_,ls,rfl,LL,_⟩:=h;rw[cu,A5]at hi;have:=LL.cY;rw[A5];exact small (by lia)
   ·obtain⟨E7,Ya,ls,rfl,LL,mm⟩:=h;obtain⟨hi,rfl⟩:=jz hd;rw[A5]at hi;obtain⟨s,hs⟩:∃s,aH[i]?=some s:=⟨_,i0 hi⟩;have es:(aH.map nD).getD i .bK=nD s:=by rw[c6,r0,hs];rfl
    rw[es];rfl';have PX:=kY pM E7;obtain⟨cl7,W4,_⟩:=PX.ex;refine EH rfl ⟨L2,cl7,W4⟩ ?_;rfl';refine⟨L2,UR,Tj,RE,TJ,C2,Xe,PX,?_⟩;refine Yk M7 s _ E7 (Tc s (k7 hs)) λ M8 hE8=>?_;have YD:=be.tY PX.tY hE8;have E9:=E7.trans YD;have X_:=YD _ _ Ya;generalize gA M8 C2=M9 at*;have low:∀d:Nat,(d:Int)∈ls->d < i:=λ d hd=>by have:=LL.2 _ hd;lia
    cases z:Cp s with
    |true=>
     rfl';refine⟨E9,X_,ls++[(i:Int)],by rw[A7];rfl,LL.add,λ d s' hd gT=>?_⟩;by_cases g:d=i
     ·subst g;rw[hs]at gT;cases gT;rw[z];exact B3 (by simp)
     ·rw[<- mm d s' (by lia) gT];unfold dU;refine decide_eq_decide.mpr ?_;rw[A6,p8];exact⟨λ o=>o.elim id λ o=>absurd (Int.ofNat.inj o) g,.inl⟩
    |false=>
     rfl';refine⟨E9,X_,ls,rfl,LL.up,λ d s' hd gT=>?_⟩;by_cases g:d=i
     ·subst g;rw[hs]at gT;cases gT;rw[z];exact y9 λ o=>absurd (low d o) (C0 _)
     ·exact mm d s' (by lia) gT
   ·obtain⟨E7,Ya,ls,rfl,LL,mm⟩:=h;rw[cu,A5]at LL mm;rfl';exact aw (k aH rs ls _ ex hl LL (λ d s hs=>mm d s (c9.mp hs).1 hs) E7)
def Ea:mF:=λ ds cs M Q=>∃(m h x i:Nat) (r:List Row) (K:List Nat) (a:ww),ds=[.int x,.int i]/\cs=[.ref a,.tup (r.map row)]/\M a=some (.lst (K.map nD))/\Tb m h r/\K.length=m/\x < m/\i < h/\Q (nD (kd K (aG r i x))) M
def LA:mF:=λ ds cs M Q=>∃(x:Nat) (r:List Row) (ls:Row),ds=[.int x]/\cs=[bI r ls]/\Q (.bl (dU ls x)) M
def Rf(M:Mem):Prop:=M 100=some (.eS (.lN "least.<locals>.<lambda>"))
def zy:fk:=λ ds M Q=>∃(m h:Nat) (r:List Row) (ls:Row),ds=[bI r ls]/\Rf M/\cM m h r/\∀(aH:List Nat) (x0:List Row) (cD:Row) (M':Mem),Lst m h r ls aH x0 cD->be M M'->Q (bI x0 cD) M'
theorem Dg{C:CM}{o:MO}(hn:∀b d,C b=some d->M b=none)(h:M a=some o):gA M C a=some o:=by
 rcases cW C a with z|⟨d,z⟩
 ·rw[g_ z];exact h
 ·rw[hn a d z]at h;cases h
theorem Kr(T:iA K mg):qh P w K mg base 1 (kX (top 18) 2 "least.<locals>.<lambda>" mg) ["x","heap"] ["alike","steps"] Ea:=by
 refine Pb (FJ (by kernel_rfl) (by decide+kernel)) (λ ds cs M Q h=>?_) (λ _ _ _=>ln2 λ _ _=>rfl) (λ A outer s H f c cl ds cs M Q hr h=>?_)
 ·obtain⟨m,h,x,i,r,K,a,rfl,_⟩:=h;rfl
 ·obtain⟨m,h,x,i,r,K,a,rfl,rfl,ha,G,hK,hx,hi,k⟩:=h;have ta:=sG G hx hi;refine⟨_,(aI aR (ak 2) (aI aR (aI aR (ak 3) (ak 0) (λ _ _=>rfl)) (ak 1) (λ _ _=>rfl)) (λ _ _=>rfl)),?_⟩;rfl';refine aK (d:=.tup ((r.getD x []).map D.int)) ta.1 ?_;rfl';refine aK ta.2 ?_;rfl';exact dH ha (FU (by have:=G.gL hi x hx;lia)) k
theorem Pa(T:iA K mg):qh P w K mg base 1 (kX (top 18) 3 "least.<locals>.<lambda>" mg) ["x"] ["table"] LA:=by
 refine Pb (FJ (by kernel_rfl) (by decide+kernel)) (λ ds cs M Q h=>?_) (λ _ _ _=>X3 λ _=>rfl) (λ A outer s H f c cl ds cs M Q hr h=>?_)
 ·obtain⟨x,r,ls,rfl,_⟩:=h;rfl
 ·obtain⟨x,r,ls,rfl,rfl,k⟩:=h;have lM:bI r ls=.tup [.tup (r.map row),row ls]:=rfl;rw[lM];refine⟨_,(dW (zZ hr.units) (ak 0) (aI aR (ak 1) aj (λ _ _=>rfl)) rfl),?_⟩;rfl';exact zL k
theorem kG:aJ ["table","steps","alike"] ["table"] (aq (top 18)):=⟨rfl,rfl,rfl,by decide+kernel,rfl,by decide+kernel,by decide+kernel⟩
theorem Fw(F:jI K "least" "least" (top 18) .none 104 f fd)(T:iA K mg)(B:HG mg base 104 100)(qG:b_ P w K mg base 4 "first_alike" ["table"] DZ)(yB:b_ P w K mg base 13 "numbered" ["heaps","start","gone","is_losing"] (DT P w K mg base)):bT P w K mg base eX 14 f fd ["table"] (cK K zy):=by
 refine VZ F kG (λ ds M Q h=>?_) (λ A outer s H E ds M Q hr h=>?_)
 ·obtain⟨m,h,r,ls,rfl,_⟩:=h;rfl
 ·obtain⟨m,h,r,ls,rfl,hT,G,k⟩:=h;have lM:bI r ls=.tup [.tup (r.map row),row ls]:=rfl;have Gp:=Iw G.tb;have rK:=G.tb.len;have KN:=mi ls G;have CM:=KN.fW G;have WL:fu ["x","heap"] ["alike","steps"] ((kX (top 18) 2 "least.<locals>.<lambda>" mg)).scope=true:=by kernel_rfl
  have WK:fu ["x"] ["table"] ((kX (top 18) 3 "least.<locals>.<lambda>" mg)).scope=true:=by kernel_rfl
  have PV:=(Kr (P:=P) (w:=w) (base:=base) T).mono (show 1<=5 by decide);have Td:=(Pa (P:=P) (w:=w) (base:=base) T).mono (show 1<=5 by decide);refine⟨_,(af (aA (i:=1) kG.nd rfl (Or.inr rfl) (aI aR (ak 0) aj (λ _ _=>rfl)))
 (af (aA (i:=2) kG.nd rfl (Or.inr rfl) (aE qG (hr.mono (by decide)) (by rfl) (aa (ak 0) ae)))
 (ao (aM (zk (cn:=[("alike",2),("steps",1),("table",0)]) yB (hr.mono (by decide)) (by rfl) (Ml (by kernel_rfl)) kG.nd (aa (aO cb (by rfl) T.len (by decide+kernel) (aa (aI aR (ak 1) aj (λ _ _=>rfl)) ae)) (aa aj (aa (DG (L:=kX (top 18) 2 "least.<locals>.<lambda>" mg) rfl B rfl rfl (by kernel_rfl) (GK (by kernel_rfl))) (aa (DG (L:=kX (top 18) 3 "least.<locals>.<lambda>" mg) rfl B rfl rfl (by kernel_rfl) (GK (by kernel_rfl))) ae))))))))),?_⟩
  rw[lM];rfl';refine⟨m,h,r,ls,rfl,G,λ a M1 ha h1 E1=>?_⟩;rfl';refine aK Gp.1 ?_;rfl';rw[A5,Gp.2];have Xa:Rf M1:=E1 _ _ hT;refine xO Xa λ lf KQ rP=>?_;have W':∀o,Rf (ai M1 lf o):=λ o=>by unfold Rf;rw[av (bM Xa KQ)];exact Xa
  rfl';refine xO (W' _) λ lg WQ aat=>?_;have E2:=λ o2=>(be.new (be.rfl (M:=M1)) KQ _).trans (be.new be.rfl WQ o2);have efg:lf≠lg:=λ z=>by subst z;rw[ag]at WQ;cases WQ
  rfl';refine⟨λ x j hx=>?_,λ C hC hn=>?_⟩
  ·simp only[C4,not_mem_nil,or_false,Prod.mk.injEq]at hx;rcases hx with⟨_,rfl⟩|⟨_,rfl⟩|⟨_,rfl⟩
   ·exact⟨_,rfl⟩
   ·exact⟨_,rfl⟩
   ·exact⟨_,rfl⟩
  have GG:=vR (cs:=[.ref a,.tup (r.map row)]) WL rfl (λ i x hx=>by
   match i,hx with
   |0,hx=>cases hx;exact⟨2,by simp,λ d hd=>by cases hd;rfl⟩
   |1,hx=>cases hx;exact⟨1,by simp,λ d hd=>by cases hd;rfl⟩
   |(n+2),hx=>simp at hx) hC (by rw[av efg];exact ag) hn
  have pM:=vR (cs:=[bI r ls]) WK rfl (λ i x hx=>by
   match i,hx with
   |0,hx=>cases hx;exact⟨0,by simp,λ d hd=>by cases hd;rfl⟩
   |(n+1),hx=>simp at hx) hC ag hn
  have hA2:=Dg hn (E2 _ _ _ h1);refine⟨λ s=>s < m/\kd (nR (kq m r h ls)) s=s,λ i s=>kd (nR (kq m r h ls)) (aG r i s),dU ls,h,0,lf,lg,List.range m,_,_,_,Ea,_,C,_,_,_,LA,_,C,rfl,G.tb.tS,CM,⟨G.tb.pos,KN.iE⟩,λ s hs=>mem_range.mpr hs.1,by rw[u6];exact G.tb.cY,PV,GG,λ M4 s i Q' E4 hs hi q=>?_,Td,pM,λ M4 s Q' E4 hs q=>?_,λ aH x0 cD M4 ex hl LL mm E4=>?_⟩
  ·exact⟨m,h,s,i,r,_,a,rfl,rfl,GG.no E4 (E4 _ _ hA2),G.tb,KN.len,hs.1,hi,q _ be.rfl⟩
  ·exact⟨s,r,ls,rfl,rfl,q _ be.rfl⟩
  ·exact aw (k aH x0 cD _ ⟨ex,hl,LL,mm⟩ (E1.trans ((E2 _).trans (be.Lr E4 hn))))
def vU(m h:Nat)(r q:List Row)(V:List Nat):Bool:=(List.range m).all λ x=>(List.range h).all λ i=>decide (kd V (aG r i x)=aG q i (kd V x))
theorem jq{h:Nat}{V:List Nat}:vU m h r q V=true↔∀x,x < m->∀i,i < h->kd V (aG r i x)=aG q i (kd V x):=by
 unfold vU;rw[y4];constructor
 ·intro z x hx i hi;have:=y4.mp (z x (mem_range.mpr hx)) i (mem_range.mpr hi);exact of_decide_eq_true this
 ·intro z x hx;refine y4.mpr λ i hi=>B3 (z x (mem_range.mp hx) i (mem_range.mp hi))
def DX:fk:=λ ds M Q=>∃(m h m2:Nat) (r q:List Row) (V:List Nat),ds=[.tup (r.map row),.tup (q.map row),gV V]/\Tb m h r/\Tb m2 h q/\V.length=m/\(∀v∈V,v < m2)/\∀M',be M M'->Q (.bl (vU m h r q V)) M'
def Ly:fk:=λ ds M Q=>∃(m h m2:Nat) (r q:List Row) (ls cD:Row),ds=[bI r ls,bI q cD]/\cM m h r/\Tb m2 h q/\(∀g M',kj m h r ls m2 q cD g->be M M'->Q (gV ((List.range m).map g)) M')/\((∀g,¬kj m h r ls m2 q cD g)->∀M',be M M'->Q .bK M')
theorem zE{h:Nat}(G:Tb m h r){x:Nat}(hx:x < m):r.getD x []=((List.range h).map λ i=>aG r i x).map kI:=by
 obtain⟨e1,e2,e3⟩:=lR G hx;refine ext_getElem? λ i=>?_;rw[r0,r0];by_cases hi:i < h
 ·rw[l6 hi];have:=(G.at hx hi).2.1;rw[c6 (l:=r.getD x []),i0 (by lia)]at this;rw[i0 (by lia)];exact H9 some this
 ·rw[k4 (by lia),k4 (by rw[u6];lia)];rfl
theorem fJ:aJ ["steps","others","goes","x","row"] ["steps","others","goes"] (aq (top 20)):=⟨rfl,rfl,rfl,by decide+kernel,rfl,by decide+kernel,by decide+kernel⟩
theorem Kb(F:h_ K "keeps_steps" "keeps_steps" (top 20) f fd)(T:iA K mg):bT P w K mg base eX 1 f fd ["steps","others","goes"] (cK K DX):=by
 refine ki F fJ (λ ds M Q h=>?_) (λ dE A outer s H E ds M Q hr h=>?_)
 ·obtain⟨m,h,m2,r,q,V,rfl,_⟩:=h;rfl
 ·obtain⟨m,h,m2,r,q,V,rfl,G,G2,hV,hv,k⟩:=h;have hm:=G.cY;have hh:=G.tS;have rK:=G.len;refine⟨_,(af (dO A2 rfl (fQ rfl T.enumerate (aa (ak 0) ae)) (jN (n:=2) rfl (cz (bu (i:=3) fJ.nd rfl (Or.inl rfl)) (cz (bu (i:=4) fJ.nd rfl (Or.inl rfl)) gF)))
 (ao (cI (aS (ij hr.units) (ow (tgs:=["later"]) (fr:=[2]) ⟨bD (by kernel_rfl),rfl,(λ _ _ h=>h),(dG (ak 4)),(bj (λ _ _ _ _ _=>(aQ (i:=0) (show(["later","goes"]:List Str).Nodup by decide+kernel) rfl (Or.inl rfl))) (by decide)),(λ _ _ _ _ _=>bC),(λ _ _ _ _ _=>(aI aR (ak 1) (ak 0) (λ _ _=>rfl)))⟩) (cg yO (by rfl) T.list (by decide+kernel) (aa (aI aR (ak 1) (aI aR (ak 2) (ak 3) (λ _ _=>rfl)) (λ _ _=>rfl)) ae)) (aN _))
 (ao (aM ox))
 aY)))
 (ao (aM ox))),?_⟩
  unfold gV;rfl';refine jc (λ i δ M'=>∃v3 v4:Option D,δ=[some (.tup (r.map row)),some (.tup (q.map row)),some (.tup (V.map nD)),v3,v4]/\be M M'/\∀x,x < i->∀i,i < h->kd V (aG r i x)=aG q i (kd V x)) ⟨none,none,rfl,be.rfl,λ x z=>absurd z (by lia)⟩ (λ x d δ M' hd hI=>?_) (λ δ M' hI=>?_)
  ·obtain⟨v3,v4,rfl,E1,old⟩:=hI;obtain⟨hi,rfl⟩:=jz hd;rw[A5,rK]at hi;have er:(r.map row).getD x .bK=.tup ((r.getD x []).map D.int):=by rw[c6,r0,i0 (by lia),c6,i0 (by lia)];rfl
   rw[er];have kx:kd V x < m2:=hv _ (kd_mem (by lia));obtain⟨r1,r2,r3⟩:=lR G hi;obtain⟨q1,q2,q3⟩:=lR G2 kx;rfl';refine gX (enc:=D.int) (λ y=>nD (kd V y.toNat)) (by lia) (λ j y N hy hN=>?_) ?_
   ·have hy:=r3 y (k7 hy);rfl';refine aK (d:=nD (kd V y.toNat)) ?_ hN;have:=FU (K:=V) (x:=y.toNat) (by lia)
    rwa [show((y.toNat:Nat):Int)=y by lia]at this
   intro p hp;have E2:=E1.new hp (.lst ((r.getD x []).map λ y=>nD (kd V y.toNat)));have h2:ai M' p (.lst ((r.getD x []).map λ y=>nD (kd V y.toNat))) p=some (.lst ((r.getD x []).map λ y=>nD (kd V y.toNat))):=ag;generalize ai M' p (.lst ((r.getD x []).map λ y=>nD (kd V y.toNat)))=M2 at*;rfl';refine aK (FU (by lia)) ?_;rfl';refine aK q1 ?_;rfl';intro p2 fM;have E3:=E2.new fM (.lst ((q.getD (kd V x) []).map D.int));have h3:ai M2 p2 (.lst ((q.getD (kd V x) []).map D.int)) p=some (.lst ((r.getD x []).map λ y=>nD (kd V y.toNat))):=by rw[av (bM h2 fM)];exact h2
   refine nM (k:=0) (b:=decide (∀i,i < h->kd V (aG r i x)=aG q i (kd V x))) h3 ag (ff λ x _=>dB 0 _) (ff λ x _=>dB 0 _) (by decide) ?_ ?_
   ·rw[decide_eq_true_iff,zE G hi,zE G2 kx,C9,C9,C9,C9];constructor
    ·intro z;refine n5 λ i hi=>?_;show nD (kd V (kI (aG r i x)).toNat)=D.int (kI (aG q i (kd V x)));rw[show(kI (aG r i x)).toNat=aG r i x from r6 _,z i (mem_range.mp hi)]
    ·intro z i hi;have:=H9 (λ l:List D=>l[i]?) z;simp only[r0,l6 hi,Option.map_some]at this;have:=D.int.inj (A1 this);exact Int.ofNat.inj this
   ·generalize ai M2 p2 (.lst ((q.getD (kd V x) []).map D.int))=M3 at*;refine jk (λ hn=>?_) (λ hn=>?_)
    ·have hn:¬∀i,i < h->kd V (aG r i x)=aG q i (kd V x):=by simpa using hn
     have kf:vU m h r q V=false:=by rw[<- Bool.not_eq_true,jq];exact λ z=>hn (z x hi)
     rw[kf]at k;rfl';exact aw (k _ E3)
    ·have hn:∀i,i < h->kd V (aG r i x)=aG q i (kd V x):=by simpa using hn
     refine⟨_,_,rfl,E3,λ y hy i hj=>?_⟩;by_cases z:y=x
     ·rw[z];exact hn i hj
     ·exact old y (by lia) i hj
  ·obtain⟨v3,v4,rfl,E1,old⟩:=hI;rw[cu,A5,rK]at old;rw[jq.mpr old]at k;rfl';exact aw (k _ E1)
theorem xy:aJ ["one","other","goes","told"] ["one","other"] (aq (top 21)):=⟨rfl,rfl,rfl,by decide+kernel,rfl,by decide+kernel,by decide+kernel⟩
theorem OR(F:h_ K "led" "led" (top 21) f fd)(T:iA K mg)(mC:b_ P w K mg base 1 "carried" ["steps","others","start"] xu)(qF:b_ P w K mg base 1 "keeps_steps" ["steps","others","goes"] DX):bT P w K mg base eX 2 f fd ["one","other"] (cK K Ly):=by
 refine ki F xy (λ ds M Q h=>?_) (λ dE A outer s H E ds M Q hr h=>?_)
 ·obtain⟨m,h,m2,r,q,ls,cD,rfl,_⟩:=h;rfl
 ·obtain⟨m,h,m2,r,q,ls,cD,rfl,G,G2,kh,kn⟩:=h;have lM:bI r ls=.tup [.tup (r.map row),row ls]:=rfl;have S8:bI q cD=.tup [.tup (q.map row),row cD]:=rfl;rw[lM,S8];have hm:=G.tb.cY;have rK:=G.tb.len;refine⟨_,(af (aA (i:=2) xy.nd rfl (Or.inr rfl) (aE mC (hr.mono (by decide)) (by rfl) (aa (aI (cj hr.units) (ak 0) aj (λ _ _=>rfl)) (aa (aI (cj hr.units) (ak 1) aj (λ _ _=>rfl)) (aa aj ae)))))
 (af (aA (i:=3) xy.nd rfl (Or.inl rfl) (eY br cp (by rfl) T.tuple (by decide+kernel) (tgs:=["x"]) (fr:=[2]) ⟨bD (by kernel_rfl),rfl,(λ _ _ h=>h),(bo rfl T.range (aa (aO qc (by rfl) T.len (by decide+kernel) (aa (aI (cj hr.units) (ak 0) aj (λ _ _=>rfl)) ae)) ae)),(bj (λ _ _ _ _ _=>(aQ (i:=0) (show(["x","goes"]:List Str).Nodup by decide+kernel) rfl (Or.inl rfl))) (by decide)),(λ _ _ _ _ _=>bC),(λ _ _ _ _ _=>(aI (cj hr.units) (ak 1) (ak 0) (λ _ _=>rfl)))⟩))
 (af (cI (DB (sy (aE qF (hr.mono (by decide)) (by rfl) (aa (aI (cj hr.units) (ak 0) aj (λ _ _=>rfl)) (aa (aI (cj hr.units) (ak 1) aj (λ _ _=>rfl)) (aa (ak 3) ae))))))
 (ao (aM mJ))
 aY)
 (af (cI (sy (Mt (TU rfl) HY (by rfl) T.any (by decide+kernel) (tgs:=["x","y"]) (fr:=[0,1]) ⟨bD (by kernel_rfl),rfl,(λ _ _ h=>h),(fQ rfl T.enumerate (aa (ak 3) ae)),(gi (λ _ _ _ _ _=>(iU rfl (bU (aQ (i:=0) (show(["x","y","one","other"]:List Str).Nodup by decide+kernel) rfl (Or.inl rfl)) (bU (aQ (i:=1) (show(["x","y","one","other"]:List Str).Nodup by decide+kernel) rfl (Or.inl rfl)) fS)))) (by decide) (by decide)),(λ _ _ _ _ _=>bC),(λ _ _ _ _ _=>(dW (ij hr.units) (dW (vI hr.units) (ak 0) (aI (cj hr.units) (ak 2) aj (λ _ _=>rfl)) rfl) (dW (vI hr.units) (ak 1) (aI (cj hr.units) (ak 3) aj (λ _ _=>rfl)) rfl) (aN _)))⟩))
 (ao (aM mJ))
 aY)
 (ao (aM (ak 3))))))),?_⟩
  rfl';refine bx (aK (d:=.tup (r.map row)) rfl ?_);rfl';refine bx (aK (d:=.tup (q.map row)) rfl ?_);rfl';refine⟨m,h,m2,0,r,q,rfl,G,G2,G2.pos,λ p kv M1 hp h1 C E1=>?_⟩;have CC:∀x:Nat,∃v:Nat,x < m->(x,v)∈kv:=λ x=>by
   by_cases hx:x < m
   ·obtain⟨v,hv⟩:=C.all x hx;exact⟨v,λ _=>hv⟩
   ·exact⟨0,λ z=>absurd z hx⟩
  obtain⟨val,CC⟩:=Classical.axiomOfChoice CC;rfl';refine bx (aK (d:=.tup (r.map row)) rfl ?_);rfl';refine iT ?_;rfl';rw[A5,rK];refine⟨dh (by lia) (by lia),?_⟩;rw[r6,cL];refine gX (xs:=List.range m) (enc:=QR) (λ x=>nD (val x)) (by rw[u6];lia) (λ i x N hx hN=>?_) ?_
  ·have hx:=vh hx;rfl';rw[vg];exact jR h1 (eD _) (gR C.nd (CC x hx)) hN
  rfl';have eV:(List.range m).map (λ x=>nD (val x))=((List.range m).map val).map nD:=by rw[C9];rfl
  rw[eV];have lV:((List.range m).map val).length=m:=by simp
  have aV:∀x,x < m->kd ((List.range m).map val) x=val x:=λ x hx=>by have:=vV (K:=(List.range m).map val) (x:=x) (by lia);rw[r0,l6 hx]at this;exact(A1 this).symm
  have bV:∀x,x < m->val x < m2:=λ x hx=>(rA G G2 G2.pos (C.pr _ (CC x hx))).2;have z0:val 0=0:=by have a:=gR C.nd (CC 0 G.tb.pos);rw[gR C.nd C.iE]at a;exact(cG.inj _ _ (A1 a)).symm
  have ZF:(∀x,x < m->∀i,i < h->kd ((List.range m).map val) (aG r i x)=aG q i (kd ((List.range m).map val) x))->(∀x,x < m->dU ls x=dU cD (val x))->kj m h r ls m2 q cD val:=λ a b=>⟨bV,z0,λ x i hx hi=>by
   have:=a x hx i hi
   rwa [aV x hx,aV _ (G.fW.cl _ _ hi hx)]at this,b⟩
  have V9:∀g,kj m h r ls m2 q cD g->∀x,x < m->val x=g x:=λ g H x hx=>H.pr G (C.pr _ (CC x hx));refine bx (aK (d:=.tup (r.map row)) rfl ?_);rfl';refine bx (aK (d:=.tup (q.map row)) rfl ?_);rfl';refine⟨m,h,m2,r,q,(List.range m).map val,rfl,G.tb,G2,lV,λ v hv=>?_,λ M2 E2=>?_⟩
  ·obtain⟨x,hx,rfl⟩:=C8.mp hv;exact bV x (mem_range.mp hx)
  have E2:=E1.trans E2;cases kb:vU m h r q ((List.range m).map val)with
  |false=>rfl';refine aw (kn (λ g H=>?_) _ E2);rw[<- Bool.not_eq_true,jq]at kb;refine kb λ x hx i hi=>?_;rw[aV x hx,aV _ (G.fW.cl _ _ hi hx),V9 g H x hx,V9 g H _ (G.fW.cl _ _ hi hx),H.st x i hx hi]
  |true=>
   rw[jq]at kb;rfl';have eE:dY (((List.range m).map val).map nD)=(List.range m).map λ x:Nat=>D.tup [.int (x:Int),nD (val x)]:=by unfold dY;rw[A5,A5,u6];refine n5 λ x hx=>?_;rw[c6,r0,r0,l6 (mem_range.mp hx)];rfl
   rw[eE];refine gX (xs:=List.range m) (enc:=λ x:Nat=>D.tup [.int (x:Int),nD (val x)]) (λ x=>.bl (dU ls x != dU cD (val x))) (by rw[u6];lia) (λ i x N hx hN=>?_) ?_
   ·have hx:=vh hx;rfl';refine bx (aK (d:=row ls) rfl ?_);refine kH ?_;rfl';refine bx (aK (d:=row cD) rfl ?_);refine kH ?_;refine zI ?_;have e:(dU ls x != dU cD (val x))=!decide (dU ls x=dU cD (val x)):=by cases dU ls x <;> cases dU cD (val x) <;> rfl
    rw[e]at hN;exact hN
   ·refine⟨(List.range m).map λ x=>dU ls x != dU cD (val x),by rw[C9];rfl,?_⟩;cases an:((List.range m).map λ x=>dU ls x != dU cD (val x)).any id with
    |true=>rfl';refine aw (kn (λ g H=>?_) _ E2);obtain⟨b,hb,hb2⟩:=List.any_eq_true.mp an;obtain⟨x,hx,rfl⟩:=C8.mp hb;have hx:=mem_range.mp hx;have:=H.ls x hx;rw[<- V9 g H x hx]at this;simp[this]at hb2
    |false=>
     have al:∀x,x < m->dU ls x=dU cD (val x):=λ x hx=>by have:=List.any_eq_false.mp an _ (C8.mpr ⟨x,mem_range.mpr hx,rfl⟩);simpa using this
     rfl';exact aw (kh val _ (ZF kb al) E2)
def DY:mF:=λ ds cs M Q=>∃(m h x i:Nat) (x0:List Row),ds=[.int x,.int i]/\cs=[.tup (x0.map row)]/\Tb m h x0/\x < m/\i < h/\Q (.int (aG x0 i x:Nat)) M
def Be(M:Mem):Prop:=M 38=some (.eS (.lN "first_things.<locals>.<lambda>"))
def uV:fk:=λ ds M Q=>∃(m h:Nat) (x0:List Row),ds=[.tup (x0.map row)]/\Be M/\cM m h x0/\∀(p:ww) (ac:List (Cs×Nat)) (M':Mem),M p=none->M' p=some (.lst (ac.map (jW nD)))->wV (aG x0) 0 h m ac->ac.length=m->be M M'->Q (.ref p) M'
theorem yd(T:iA K mg):qh P w K mg base 1 (kX (top 5) 2 "first_things.<locals>.<lambda>" mg) ["thing","heap"] ["steps"] DY:=by
 refine Pb (FJ (by kernel_rfl) (by decide+kernel)) (λ ds cs M Q h=>?_) (λ _ _ _=>ln2 λ _ _=>rfl) (λ A outer s H f c cl ds cs M Q hr h=>?_)
 ·obtain⟨m,h,x,i,x0,rfl,_⟩:=h;rfl
 ·obtain⟨m,h,x,i,x0,rfl,rfl,T,hx,hi,k⟩:=h;have ta:=sG T hx hi;refine⟨_,(aI aR (aI aR (ak 2) (ak 0) (λ _ _=>rfl)) (ak 1) (λ _ _=>rfl)),?_⟩;rfl';refine aK (d:=.tup ((x0.getD x []).map D.int)) ta.1 ?_;rfl';refine aK ta.2 ?_;exact k
theorem ig:aJ ["steps"] ["steps"] (aq (top 5)):=⟨rfl,rfl,rfl,by decide+kernel,rfl,by decide+kernel,by decide+kernel⟩
theorem Cg(F:jI K "first_things" "first_things" (top 5) .none 42 f fd)(T:iA K mg)(B:HG mg base 42 38)(gU:b_ P w K mg base 7 "first_sums" ["heaps","start","gone","most"] (sM P w K mg base)):bT P w K mg base eX 8 f fd ["steps"] (cK K uV):=by
 refine VZ F ig (λ ds M Q h=>?_) (λ A outer s H E ds M Q hr h=>?_)
 ·obtain⟨m,h,x0,rfl,_⟩:=h;rfl
 ·obtain⟨m,h,x0,rfl,hT,G,k⟩:=h;have Gp:=Iw G.tb;have rK:=G.tb.len;have WL:fu ["thing","heap"] ["steps"] ((kX (top 5) 2 "first_things.<locals>.<lambda>" mg)).scope=true:=by kernel_rfl
  have PV:=(yd (P:=P) (w:=w) (base:=base) T).mono (show 1<=5 by decide);refine⟨_,(ao (aM (zk (cn:=[("steps",0)]) gU (hr.mono (by decide)) (by rfl) (Ml (by kernel_rfl)) ig.nd (aa (aO cb (by rfl) T.len (by decide+kernel) (aa (aI aR (ak 0) aj (λ _ _=>rfl)) ae)) (aa aj (aa (DG (L:=kX (top 5) 2 "first_things.<locals>.<lambda>" mg) rfl B rfl rfl (by kernel_rfl) (GK (by kernel_rfl))) (aa (aO cb (by rfl) T.len (by decide+kernel) (aa (ak 0) ae)) ae))))))),?_⟩;rfl';refine aK Gp.1 ?_;rfl';rw[A5,Gp.2];refine xO hT λ lf KQ rP=>?_;rfl';rw[A5,rK];refine⟨λ x j hx=>?_,λ C hC hn=>?_⟩
  ·rw[p8]at hx;cases hx;exact⟨_,rfl⟩
  have GG:=Ks (cs:=[.tup (x0.map row)]) WL rfl rfl (λ i x j d h1 h2=>?_) hC ag hn
  ·refine⟨Nat,inferInstance,nD,false,(· < m),aG x0,0,h,m,some m,lf,List.range m,_,_,_,DY,[.tup (x0.map row)],C,rfl,.inl rfl,cG.inj,eD,G.fW,G.tb.pos,λ s hs=>mem_range.mpr hs,by rw[u6];have:=G.tb.cY;lia,G.tb.tS,PV,GG,λ M1 s i Q' hE hs hi hq=>?_,λ p ac M' hp fM hF hE=>?_⟩
   ·exact⟨m,h,s,i,x0,rfl,rfl,G.tb,hs,hi,hq _ be.rfl⟩
   ·have hl:=hF.len G;rw[i8 (by lia)]at fM;have YG:C p=none:=by
     rcases cW C p with z|⟨d,z⟩
     ·exact z
     ·rw[lH z]at hp;cases hp
    rw[g_ YG]at hp;refine aw (k p ac _ ((be.new be.rfl KQ _).free hp) (Qg fM YG) hF hl ((be.new be.rfl KQ _).trans (be.Lr hE hn)))
  ·cases i with
   |zero=>cases h1;cases h2;rfl
   |succ i=>cases h1
def DS:fk:=λ ds M Q=>∃(m h x y:Nat) (r:List Row) (ls:Row),ds=[bI r ls,.int x,.int y]/\Be M/\cM m h r/\x < m/\y < m/\(∀p M',LP h r ls x y p->be M M'->Q (gV p) M')/\((∀q:Cs,q.length=h->¬nO r ls x y q)->∀M',be M M'->Q .bK M')
theorem eA:aJ ["table","x","y","losing","with_x","with_y","counts","thing"] ["table","x","y"] (aq (top 23)):=⟨rfl,rfl,rfl,by decide+kernel,rfl,by decide+kernel,by decide+kernel⟩
theorem J7(F:h_ K "parting" "parting" (top 23) f fd)(T:iA K mg)(pY:b_ P w K mg base 8 "first_things" ["steps"] uV)(gw:b_ P w K mg base 2 "put_to" ["steps","x"] nJ):bT P w K mg base eX 9 f fd ["table","x","y"] (cK K DS):=by
 refine ki F eA (λ ds M Q h=>?_) (λ dE A outer s H E ds M Q hr h=>?_)
 ·obtain⟨m,h,x,y,r,ls,rfl,_⟩:=h;rfl
 ·obtain⟨m,h,x,y,r,ls,rfl,hT,G,hx,hy,kp,kn⟩:=h;have lM:bI r ls=.tup [.tup (r.map row),row ls]:=rfl;rw[lM];have hm:=G.tb.cY;refine⟨_,(af (aA (i:=3) eA.nd rfl (Or.inl rfl) (aI (cj hr.units) (ak 0) aj (λ _ _=>rfl)))
 (af (aA (i:=4) eA.nd rfl (Or.inl rfl) (aE gw (hr.mono (by decide)) (by rfl) (aa (aI (cj hr.units) (ak 0) aj (λ _ _=>rfl)) (aa (ak 1) ae))))
 (af (aA (i:=5) eA.nd rfl (Or.inl rfl) (aE gw (hr.mono (by decide)) (by rfl) (aa (aI (cj hr.units) (ak 0) aj (λ _ _=>rfl)) (aa (ak 2) ae))))
 (af (dO A2 rfl (dG (aE pY (hr.mono (by decide)) (by rfl) (aa (aI (cj hr.units) (ak 0) aj (λ _ _=>rfl)) ae))) (jN (n:=2) rfl (cz (bu (i:=6) eA.nd rfl (Or.inl rfl)) (cz (bu (i:=7) eA.nd rfl (Or.inl rfl)) gF)))
 (ao (cI (aS (ij hr.units) (dW (vI hr.units) (aI (cj hr.units) (ak 4) (ak 7) (λ _ _=>rfl)) (ak 3) rfl) (dW (vI hr.units) (aI (cj hr.units) (ak 5) (ak 7) (λ _ _=>rfl)) (ak 3) rfl) (aN _))
 (ao (aM (ak 6)))
 aY)))
 (ao (aM mJ)))))),?_⟩
  rfl';refine bx (aK (d:=row ls) rfl ?_);rfl';refine bx (aK (d:=.tup (r.map row)) rfl ?_);rfl';refine⟨m,h,x,r,rfl,G,hx,λ p1 kv1 M1 tO h1 C1 E1=>?_⟩;rfl';refine bx (aK (d:=.tup (r.map row)) rfl ?_);rfl';refine⟨m,h,y,r,rfl,G,hy,λ p2 kv2 M2 fM h2 C2 E2=>?_⟩;have h12:=E2 _ _ h1;have E2:=E1.trans E2;rfl';refine bx (aK (d:=.tup (r.map row)) rfl ?_);rfl';refine⟨m,h,r,rfl,E2 _ _ hT,G,λ a ac M3 ha h3 FS len E3=>?_⟩;have h13:=E3 _ _ h12;have Xi:=E3 _ _ h2;have E3:=E2.trans E3;refine sX h3 ?_;refine wd (ds:=ac.map (jW nD)) (λ i δ M'=>∃v6 v7:Option D,δ=[some (.tup [.tup (r.map row),row ls]),some (.int x),some (.int y),some (row ls),some (.ref p1),some (.ref p2),v6,v7]/\M'=M3/\∀(j:Nat) (d:Cs×Nat),j < i->ac[j]?=some d->¬nO r ls x y d.1) ⟨_,_,rfl,rfl,λ j d z=>absurd z (by lia)⟩ (λ i δ M' _ hI=>?_) (λ i d δ M' hd hI=>?_) (λ δ M' hI=>?_)
  ·obtain⟨_,_,_,rfl,_⟩:=hI;exact h3
  ·obtain⟨v6,v7,rfl,rfl,Qt⟩:=hI;rw[r0]at hd;obtain⟨e,he,rfl⟩:=Option.map_eq_some_iff.mp hd;have ee:=FS.gE.ent e (k7 he);have el:=ee.1.1;have et:e.2 < m:=by rw[<- ee.2];exact tQ G G.tb.pos el
   obtain⟨v1,QY⟩:=C1.all e.2 et;obtain⟨v2,Gm⟩:=C2.all e.2 et;have e1:v1=mul r h x e.2:=iX G hx (C1.pr _ QY);have e2:v2=mul r h y e.2:=iX G hy (C2.pr _ Gm);have pe:nO r ls x y e.1↔dU ls v1≠dU ls v2:=by unfold nO;rw[eM G hx el,eM G hy el,ee.2,e1,e2]
   have PK:jW nD e=.tup [gV e.1,.int (e.2:Int)]:=rfl;rw[PK];rfl';refine jR h13 (eD _) (gR C1.nd QY) ?_;rfl';refine kH ?_;rfl';refine jR Xi (eD _) (gR C2.nd Gm) ?_;rfl';refine kH ?_;rfl';refine jk (λ hn=>?_) (λ hn=>?_)
   ·have hn:dU ls v1≠dU ls v2:=by simpa using hn
    rfl';exact aw (kp _ _ (xU G FS hx hy he (pe.mpr hn) Qt) E3)
   ·have hn:dU ls v1=dU ls v2:=by simpa using hn
    refine⟨_,_,rfl,rfl,λ j d hj hd=>?_⟩;by_cases z:j=i
    ·rw[z]at hd;have ed:e=d:=A1 (he.symm.trans hd);rw[<- ed];exact λ w=>pe.mp w hn
    ·exact Qt j d (by lia) hd
  ·obtain⟨v6,v7,rfl,rfl,Qt⟩:=hI;rw[A5]at Qt;rfl';exact aw (kn (Cc G FS hx hy λ i d hd=>Qt i d (c9.mp hd).1 hd) _ E3)
def LB:fk:=λ ds M Q=>∃(m h x:Nat) (r:List Row) (ls cs:Row),ds=[bI r ls,.int x,row cs]/\cM m h r/\x < m/\cs.length=h/\(∀c∈cs,0<=c)/\∀M',be M M'->Q (.bl (dU ls (fI r 0 x cs))) M'
def Lz:fk:=λ ds M Q=>∃(m h x y:Nat) (r:List Row) (ls cs:Row),ds=[bI r ls,.int x,.int y,row cs]/\cM m h r/\x < m/\y < m/\cs.length=h/\(∀c∈cs,0<=c)/\∀M',be M M'->Q (.bl (!decide (dU ls (fI r 0 x cs)=dU ls (fI r 0 y cs)))) M'
structure Qv(m h:Nat)(r:List Row)(ls:Row)(m2:Nat)(q:List Row)(cD:Row)(g:Nat->Nat):Prop where
 G:cM m h r
 G2:cM m2 h q
 H:kj m h r ls m2 q cD g
 same:∀x y,x < m->y < m->(g x=g y↔∀z,z < m->dU ls (mul r h x z)=dU ls (mul r h y z))
def RC:fk:=λ ds M Q=>∃(m h m2 x y:Nat) (r q:List Row) (ls cD:Row) (g:Nat->Nat),ds=[bI r ls,bI q cD,gV ((List.range m).map g),.int x,.int y]/\Be M/\Qv m h r ls m2 q cD g/\x < m/\y < m/\∀M',be M M'->Q (.bl true) M'
def RD:fk:=λ ds M Q=>∃(m h m2:Nat) (r q:List Row) (ls cD:Row) (g:Nat->Nat) (p:ww) (ss:List Row),ds=[bI r ls,bI q cD,gV ((List.range m).map g),.ref p]/\M p=some (.lst (ss.map row))/\ss.length<=100/\(∀s∈ss,s.length=h/\∀c∈s,0<=c)/\Qv m h r ls m2 q cD g/\∀M',be M M'->Q (.bl true) M'
theorem mQ{g:Nat->Nat}{x:Nat}(hx:x < m):ip (((List.range m).map g).map nD) (x:Int)=some (nD (g x)):=bH (by rw[r0,r0,l6 hx];rfl)
theorem zp{h:Nat}(G:cM m h r):∀(a b:Row) (i x:Nat),a.length=b.length->i+a.length<=h->(∀c∈a,0<=c)->(∀c∈b,0<=c)->x < m->fI r i (fI r i x a) b=fI r i x (List.zipWith (·+·) a b)
 |[],[],i,x,_,_,_,_,_=>rfl
 |c::a,d::b,i,x,hl,hi,ha,hb,hx=>by
  rw[x3]at hi;have hc:=ha c n9;have hd:=hb d n9;have ih:i < h:=by lia
  have xl:du (aG r i) c.toNat x < m:=i_ (G.tb.gL ih) _ _ hx;show fI r (i+1) (du (aG r i) d.toNat (fI r (i+1) (du (aG r i) c.toNat x) a)) b=fI r (i+1) (du (aG r i) (c+d).toNat x) (List.zipWith (·+·) a b);have sw:∀(n:Nat) (cs:Row) (j y:Nat),j+cs.length<=h->y < m->du (aG r i) n (fI r j y cs)=fI r j (du (aG r i) n y) cs:=by
   intro n cs
   induction cs with
   |nil=>intro j y _ _;rfl
   |cons e cs ZL=>
    intro j y hj hy;rw[x3]at hj;show du (aG r i) n (fI r (j+1) (du (aG r j) e.toNat y) cs)=fI r (j+1) (du (aG r j) e.toNat (du (aG r i) n y)) cs;rw[ZL (j+1) _ (by lia) (i_ (G.tb.gL (by lia)) _ _ hy)];congr 1;have one:∀(k:Nat) (y:Nat),y < m->aG r i (du (aG r j) k y)=du (aG r j) k (aG r i y):=by
     intro k
     induction k with
     |zero=>intro y _;rfl
     |succ k ZK=>intro y hy;show aG r i (du (aG r j) k (aG r j y))=du (aG r j) k (aG r j (aG r i y));rw[ZK _ (G.fW.cl _ _ (by lia) hy),G.fW.cm y i j ih (by lia) hy]
    have many:∀(n:Nat) (y:Nat),y < m->du (aG r i) n (du (aG r j) e.toNat y)=du (aG r j) e.toNat (du (aG r i) n y):=by
     intro n
     induction n with
     |zero=>intro y _;rfl
     |succ n ZI=>intro y hy;show du (aG r i) n (aG r i (du (aG r j) e.toNat y))=du (aG r j) e.toNat (du (aG r i) n (aG r i y));rw[one _ y hy,ZI _ (G.fW.cl _ _ ih hy)]
    exact many n y hy
  rw[sw d.toNat a (i+1) _ (by lia) xl,zp G a b (i+1) _ (by simpa using hl) (by lia) (λ z hz=>ha z (k5 _ hz)) (λ z hz=>hb z (k5 _ hz)) (i_ (G.tb.gL ih) _ _ xl)];rw[show(c+d).toNat=c.toNat+d.toNat by lia,kZ]
theorem iN:aJ ["_law_table_here","_law_x","_law_counts"] ["_law_table_here","_law_x","_law_counts"] (aq (top 36)):=⟨rfl,rfl,rfl,by decide+kernel,rfl,by decide+kernel,by decide+kernel⟩
theorem OV(F:h_ K "_law_losing_behind" "_law_losing_behind" (top 36) f fd)(T:iA K mg)(AO:b_ P w K mg base 3 "put" ["table","x","y"] DR)(cS:b_ P w K mg base 2 "thing_of" ["table","counts"] DP):bT P w K mg base eX 4 f fd ["_law_table_here","_law_x","_law_counts"] (cK K LB):=by
 refine ki F iN (λ ds M Q h=>?_) (λ dE A outer s H E ds M Q hr h=>?_)
 ·obtain⟨m,h,x,r,ls,cs,rfl,_⟩:=h;rfl
 ·obtain⟨m,h,x,r,ls,cs,rfl,G,hx,hc,hp,k⟩:=h;have lM:bI r ls=.tup [.tup (r.map row),row ls]:=rfl;refine⟨_,(ao (aM (dW (zZ hr.units) (aE AO (hr.mono (by decide)) (by rfl) (aa (ak 0) (aa (ak 1) (aa (aE cS (hr.mono (by decide)) (by rfl) (aa (ak 0) (aa (ak 2) ae))) ae)))) (aI aR (ak 0) aj (λ _ _=>rfl)) rfl))),?_⟩;rfl';refine⟨m,h,r,ls,cs,rfl,G.tb,hc,hp,λ M1 E1=>?_⟩;rfl';have ht:=jP G.tb cs 0 0 (by lia) G.tb.pos;refine⟨m,h,x,_,r,ls,rfl,G,hx,ht,λ M2 E2=>?_⟩;rfl';rw[lM];refine aK (d:=row ls) rfl ?_;refine zL ?_;rw[<- sF G hx hc];exact aw (k _ (E1.trans E2))
theorem lP:aJ ["_law_table_here","_law_x","_law_y","_law_counts"] ["_law_table_here","_law_x","_law_y","_law_counts"] (aq (top 37)):=⟨rfl,rfl,rfl,by decide+kernel,rfl,by decide+kernel,by decide+kernel⟩
theorem OT(F:h_ K "_law_is_parted" "_law_is_parted" (top 37) f fd)(T:iA K mg)(fj:b_ P w K mg base 4 "_law_losing_behind" ["_law_table_here","_law_x","_law_counts"] LB):bT P w K mg base eX 5 f fd ["_law_table_here","_law_x","_law_y","_law_counts"] (cK K Lz):=by
 refine ki F lP (λ ds M Q h=>?_) (λ dE A outer s H E ds M Q hr h=>?_)
 ·obtain⟨m,h,x,y,r,ls,cs,rfl,_⟩:=h;rfl
 ·obtain⟨m,h,x,y,r,ls,cs,rfl,G,hx,hy,hc,hp,k⟩:=h;refine⟨_,(ao (aM (dW (ij hr.units) (aE fj (hr.mono (by decide)) (by rfl) (aa (ak 0) (aa (ak 1) (aa (ak 3) ae)))) (aE fj (hr.mono (by decide)) (by rfl) (aa (ak 0) (aa (ak 2) (aa (ak 3) ae)))) (aN _)))),?_⟩;rfl';refine⟨m,h,x,r,ls,cs,rfl,G,hx,hc,hp,λ M1 E1=>?_⟩;rfl';refine⟨m,h,y,r,ls,cs,rfl,G,hy,hc,hp,λ M2 E2=>?_⟩;rfl';exact aw (k _ (E1.trans E2))
theorem fg:aJ ["_law_table_here","_law_small","_law_goes","_law_x","_law_y","_law_told"] ["_law_table_here","_law_small","_law_goes","_law_x","_law_y"] (aq (top 38)):=⟨rfl,rfl,rfl,by decide+kernel,rfl,by decide+kernel,by decide+kernel⟩
theorem Sl(F:h_ K "_law_things_right" "_law_things_right" (top 38) f fd)(T:iA K mg)(rW:b_ P w K mg base 9 "parting" ["table","x","y"] DS)(ny:b_ P w K mg base 5 "_law_is_parted" ["_law_table_here","_law_x","_law_y","_law_counts"] Lz):bT P w K mg base eX 10 f fd ["_law_table_here","_law_small","_law_goes","_law_x","_law_y"] (cK K RC):=by
 refine ki F fg (λ ds M Q h=>?_) (λ dE A outer s H E ds M Q hr h=>?_)
 ·obtain⟨m,h,m2,x,y,r,q,ls,cD,g,rfl,_⟩:=h;rfl
 ·obtain⟨m,h,m2,x,y,r,q,ls,cD,g,rfl,hT,Y,hx,hy,k⟩:=h;have G:=Y.G;have gx:=Y.H.lt x hx;have gy:=Y.H.lt y hy;have al:=(Df (ls:=ls) G hx hy).trans (Y.same x y hx hy).symm;refine⟨_,(af (aA (i:=5) fg.nd rfl (Or.inl rfl) (aE rW (hr.mono (by decide)) (by rfl) (aa (ak 0) (aa (ak 3) (aa (ak 4) ae)))))
 (af (cI (zd (aS zY (ak 5) mJ (aN _)) (xm (aS (eT hr.units) (aI aR (ak 2) (ak 3) (λ _ _=>rfl)) (aI aR (ak 2) (ak 4) (λ _ _=>rfl)) (aN _)))).pt
 (ao (aM (w_and (dW zY (ak 5) mJ (aN _)) (DF (dW (eT hr.units) (aI aR (ak 2) (ak 3) (λ _ _=>rfl)) (aI aR (ak 2) (ak 4) (λ _ _=>rfl)) (aN _))))))
 aY)
 (ao (aM (w_and (aE ny (hr.mono (by decide)) (by rfl) (aa (ak 0) (aa (ak 3) (aa (ak 4) (aa (ak 5) ae))))) (DF (dW (eT hr.units) (aE rW (hr.mono (by decide)) (by rfl) (aa (ak 1) (aa (aI aR (ak 2) (ak 3) (λ _ _=>rfl)) (aa (aI aR (ak 2) (ak 4) (λ _ _=>rfl)) ae)))) (ak 5) (aN _)))))))),?_⟩
  rfl';refine⟨m,h,x,y,r,ls,rfl,hT,G,hx,hy,λ p M1 lp E1=>?_,λ no M1 E1=>?_⟩
  ·have ng:g x≠g y:=λ z=>al.mpr z p lp.len lp.par;have lq:=Y.H.lp G hx hy lp;have ec:gV p=row (p.map λ v:Nat=>(v:Int)):=K_ p;have hpl:(p.map λ v:Nat=>(v:Int)).length=h:=by rw[A5];exact lp.len
   have Wz:∀c∈p.map (λ v:Nat=>(v:Int)),0<=c:=λ c hc=>by obtain⟨v,_,rfl⟩:=C8.mp hc;exact Int.natCast_nonneg v
   rfl';refine sT (by unfold gV;simp[HX]) ?_;unfold gV;rfl';refine aK (mQ hx) ?_;rfl';refine aK (mQ hy) ?_;rfl';rw[show decide ((g x:Int)=(g y:Int))=false from y9 λ z=>ng (Int.ofNat.inj z)];rfl';rw[show D.tup (p.map nD)=row (p.map λ v:Nat=>(v:Int))from ec];refine⟨m,h,x,y,r,ls,_,rfl,G,hx,hy,hpl,Wz,λ M2 E2=>?_⟩;have pr:=lp.par;unfold nO at pr;rw[gJ,gJ,show(!decide (dU ls (fi (aG r) 0 x p)=dU ls (fi (aG r) 0 y p)))=true by rw[y9 pr];rfl];have E2:=E1.trans E2;rfl';refine aK (mQ hx) ?_;rfl';refine aK (mQ hy) ?_;rfl';refine⟨m2,h,g x,g y,q,cD,rfl,E2 _ _ hT,Y.G2,gx,gy,λ p' M3 ZA E3=>?_,λ no=>absurd lq.par (no p lq.len)⟩;rw[ZA.uniq lq,<- ec];rfl';refine IY (k:=1) (b:=true) (lC.pl p) (lC.pl p) (by decide) (by simp) ?_;rfl';exact aw (k _ (E2.trans E3))
  ·have eg:g x=g y:=al.mp no;unfold gV;rfl';refine o_ ?_;rfl';refine o_ ?_;rfl';refine aK (mQ hx) ?_;rfl';refine aK (mQ hy) ?_;rfl';rw[eg,B3 rfl];exact aw (k _ E1)
theorem cC:aJ ["_law_table_here","_law_small","_law_goes","_law_sums","_law_one","_law_other","_law_x","_law_both_sums"] ["_law_table_here","_law_small","_law_goes","_law_sums"] (aq (top 39)):=⟨rfl,rfl,rfl,by decide+kernel,rfl,by decide+kernel,by decide+kernel⟩
theorem Sm(F:h_ K "_law_sums_right" "_law_sums_right" (top 39) f fd)(T:iA K mg)(AO:b_ P w K mg base 3 "put" ["table","x","y"] DR)(cS:b_ P w K mg base 2 "thing_of" ["table","counts"] DP):bT P w K mg base eX 4 f fd ["_law_table_here","_law_small","_law_goes","_law_sums"] (cK K RD):=by
 refine ki F cC (λ ds M Q h=>?_) (λ dE A outer s H E ds M Q hr h=>?_)
 ·obtain⟨m,h,m2,r,q,ls,cD,g,p,ss,rfl,_⟩:=h;rfl
 ·obtain⟨m,h,m2,r,q,ls,cD,g,p,ss,rfl,hp,Px,X7,Y,k⟩:=h;have G:=Y.G;have G2:=Y.G2;have hh:=G.tb.tS;have e0:gV ((List.range m).map g)=.tup (((List.range m).map g).map nD):=rfl;have Xj:∀cs:Row,cs.length=h->g (fI r 0 0 cs)=fI q 0 0 cs:=λ cs hc=>by
   have:=Y.H.fI G cs 0 0 (by lia) G.tb.pos
   rwa [Y.H.iE]at this
  refine⟨_,(af (dO A2 rfl (dG (ak 3)) (bu (i:=4) cC.nd rfl (Or.inl rfl))
 (af (cI (aS (ij hr.units) (aI aR (ak 2) (aE cS (hr.mono (by decide)) (by rfl) (aa (ak 0) (aa (ak 4) ae))) (λ _ _=>rfl)) (aE cS (hr.mono (by decide)) (by rfl) (aa (ak 1) (aa (ak 4) ae))) (aN _))
 (ao (aM ox))
 aY)
 (ao (dO A2 rfl (dG (ak 3)) (bu (i:=5) cC.nd rfl (Or.inl rfl))
 (af (aA (i:=6) cC.nd rfl (Or.inl rfl) (aE AO (hr.mono (by decide)) (by rfl) (aa (ak 0) (aa (aE cS (hr.mono (by decide)) (by rfl) (aa (ak 0) (aa (ak 4) ae))) (aa (aE cS (hr.mono (by decide)) (by rfl) (aa (ak 0) (aa (ak 5) ae))) ae)))))
 (af (cI (aS (ij hr.units) (aI aR (ak 2) (ak 6) (λ _ _=>rfl)) (aE AO (hr.mono (by decide)) (by rfl) (aa (ak 1) (aa (aE cS (hr.mono (by decide)) (by rfl) (aa (ak 1) (aa (ak 4) ae))) (aa (aE cS (hr.mono (by decide)) (by rfl) (aa (ak 1) (aa (ak 5) ae))) ae)))) (aN _))
 (ao (aM ox))
 aY)
 (af (aA (i:=7) cC.nd rfl (Or.inl rfl) (eY br cp (by rfl) T.tuple (by decide+kernel) (tgs:=["_law_a","_law_b"]) (fr:=[]) ⟨bD (by kernel_rfl),rfl,(λ _ _ h=>h),(HV rfl T.zip (aa (ak 4) (aa (ak 5) ae))),(gi (λ _ _ _ _ _=>(iU rfl (bU (aQ (i:=0) (show(["_law_a","_law_b"]:List Str).Nodup by decide+kernel) rfl (Or.inl rfl)) (bU (aQ (i:=1) (show(["_law_a","_law_b"]:List Str).Nodup by decide+kernel) rfl (Or.inl rfl)) fS)))) (by decide) (by decide)),(λ _ _ _ _ _=>bC),(λ _ _ _ _ _=>(bF bP (ak 0) (ak 1)))⟩))
 (ao (cI (aS (ij hr.units) (ak 6) (aE cS (hr.mono (by decide)) (by rfl) (aa (ak 0) (aa (ak 7) ae))) (aN _))
 (ao (aM ox))
 aY)))))))))
 (ao (aM ox))),?_⟩
  rw[e0];rfl';refine wd (ds:=ss.map row) (λ i δ M'=>∃v4 v5 v6 v7:Option D,δ=[some (bI r ls),some (bI q cD),some (.tup (((List.range m).map g).map nD)),some (.ref p),v4,v5,v6,v7]/\be M M') ⟨_,_,_,_,rfl,be.rfl⟩ (λ i δ M' _ hI=>?_) (λ i d δ M' hd hI=>?_) (λ δ M' hI=>?_)
  ·obtain⟨_,_,_,_,_,E1⟩:=hI;exact E1 _ _ hp
  ·obtain⟨v4,v5,v6,v7,rfl,E1⟩:=hI;rw[r0]at hd;obtain⟨a,ha,rfl⟩:=Option.map_eq_some_iff.mp hd;obtain⟨al,ap⟩:=X7 a (k7 ha);have ta:=jP G.tb a 0 0 (by lia) G.tb.pos;have Y9:=jP G2.tb a 0 0 (by lia) G2.tb.pos;rfl';refine⟨m,h,r,ls,a,rfl,G.tb,al,ap,λ M2 E2=>?_⟩;rfl';refine aK (mQ ta) ?_;rfl';refine⟨m2,h,q,cD,a,rfl,G2.tb,al,ap,λ M3 E3=>?_⟩;have E3:=(E1.trans E2).trans E3;rfl';rw[Xj a al,B3 rfl];rfl';have SU:=E3 _ _ hp;refine sX SU ?_;refine wd (ds:=ss.map row) (λ i δ M'=>∃v5 v6 v7:Option D,δ=[some (bI r ls),some (bI q cD),some (.tup (((List.range m).map g).map nD)),some (.ref p),some (row a),v5,v6,v7]/\be M M') ⟨_,_,_,rfl,E3⟩ (λ i δ M' _ hI=>?_) (λ i d δ M' hd hI=>?_) (λ δ M' hI=>?_)
   ·obtain⟨_,_,_,_,E4⟩:=hI;exact E4 _ _ hp
   ·obtain⟨v5,v6,v7,rfl,E4⟩:=hI;rw[r0]at hd;obtain⟨b,hb,rfl⟩:=Option.map_eq_some_iff.mp hd;obtain⟨bl,bp⟩:=X7 b (k7 hb);have tb:=jP G.tb b 0 0 (by lia) G.tb.pos;have Y7:=jP G2.tb b 0 0 (by lia) G2.tb.pos;have tm:=O1 G ta tb;have em:g (mul r h (fI r 0 0 a) (fI r 0 0 b))=mul q h (fI q 0 0 a) (fI q 0 0 b):=by rw[Y.H.mul G G2 ta tb,Xj a al,Xj b bl]
    have ea:mul r h (fI r 0 0 a) (fI r 0 0 b)=fI r 0 0 (List.zipWith (·+·) a b):=by rw[<- sF G ta bl,zp G a b 0 0 (by lia) (by lia) ap bp G.tb.pos]
    rfl';refine⟨m,h,r,ls,a,rfl,G.tb,al,ap,λ M5 E5=>?_⟩;rfl';refine⟨m,h,r,ls,b,rfl,G.tb,bl,bp,λ M6 E6=>?_⟩;rfl';refine⟨m,h,_,_,r,ls,rfl,G,ta,tb,λ M7 E7=>?_⟩;have E7:=((E4.trans E5).trans E6).trans E7;rfl';refine aK (mQ tm) ?_;rfl';refine⟨m2,h,q,cD,a,rfl,G2.tb,al,ap,λ M8 E8=>?_⟩;rfl';refine⟨m2,h,q,cD,b,rfl,G2.tb,bl,bp,λ M9 E9=>?_⟩;rfl';refine⟨m2,h,_,_,q,cD,rfl,G2,Y9,Y7,λ M10 XE=>?_⟩;have XE:=((E7.trans E8).trans E9).trans XE;rfl';rw[em,B3 rfl];rfl';have hpl:(plus a b).length=h:=by simp[plus];lia
    have hpz:plus a b=List.zipWith (·+·) a b:=rfl;have Wz:∀c∈plus a b,0<=c:=λ c hc=>by obtain⟨i,hi⟩:=getElem?_of_mem hc;have lt:=(c9.mp hi).1;have:=zP (i0 (l:=a) (i:=i) (by lia)) (i0 (l:=b) (i:=i) (by lia));rw[hi]at this;have:=A1 this;have:=ap _ (x9 (l:=a) (n:=i) (by lia));have:=bp _ (x9 (l:=b) (n:=i) (by lia));lia
    refine tW (λ i zn M'=>M'=M10/\zn=((plus a b).take i).map D.int) ⟨rfl,by simp⟩ (λ i zn M' hi h=>?_) (λ i d zn M' hd h=>?_) (λ zn M' h=>?_)
    ·obtain⟨_,rfl⟩:=h;rw[A5,x8];exact small (by lia)
    ·obtain⟨rfl,rfl⟩:=h;obtain⟨x,y,e1,e2,rfl⟩:=Mq hd;rfl';refine⟨rfl,?_⟩;rw[take_snoc (a:=x+y) (zP e1 e2),A7];rfl
    ·obtain⟨rfl,rfl⟩:=h;rw[HL,x4];rfl';refine⟨m,h,r,ls,plus a b,rfl,G.tb,hpl,Wz,λ M11 E11=>?_⟩;rfl';rw[ea,<- hpz,B3 rfl];rfl';exact⟨_,_,_,rfl,XE.trans E11⟩
   ·obtain⟨v5,v6,v7,rfl,E4⟩:=hI;exact⟨_,_,_,_,rfl,E4⟩
  ·obtain⟨v4,v5,v6,v7,rfl,E1⟩:=hI;rfl';exact aw (k _ E1)
theorem dq:aJ ["_law_flow_here","_law_many","_law_found","_law_h","_law_form"] ["_law_flow_here","_law_many"] (aq (top 35)):=⟨rfl,rfl,rfl,by decide+kernel,rfl,by decide+kernel,by decide+kernel⟩
theorem Fx(F:h_ K "_law_great_sum" "_law_great_sum" (top 35) f fd)(T:iA K mg)(ay:b_ P w K mg base 1 "_law_pick" ["_law_flow_here","_law_many"] iJ):bT P w K mg base eX 2 f fd ["_law_flow_here","_law_many"] (cK K zA):=by
 refine ki F dq (λ ds M Q h=>?_) (λ dE A outer s H E ds M Q hr h=>?_)
 ·obtain⟨a,cc,b,rfl,_⟩:=h;rfl
 ·obtain⟨a,cc,n,rfl,hF,hz,k⟩:=h;refine⟨_,(af (aA (i:=2) dq.nd rfl (Or.inl rfl) (cZ ae))
 (af (dO A2 rfl (bo rfl T.range (aa (ak 1) ae)) (bu (i:=3) dq.nd rfl (Or.inl rfl))
 (af (aA (i:=4) dq.nd rfl (Or.inl rfl) (aE ay (hr.mono (by decide)) (by rfl) (aa (ak 0) (aa aj ae))))
 (ao (cx (eZ i4 g9 i3 bL (ak 2) (aa (aI aR (cZ (aa aj (aa aj (aa (aE ay (hr.mono (by decide)) (by rfl) (aa (ak 0) (aa aj ae))) (aa (aE ay (hr.mono (by decide)) (by rfl) (aa (ak 0) (aa (bF vG aj aj) ae))) (aa (bF zX (bF vG aj aj) (aE ay (hr.mono (by decide)) (by rfl) (aa (ak 0) (aa (bF vG aj aj) ae)))) ae)))))) (ak 4) (λ _ _=>rfl)) ae))))))
 (ao (aM (cg br (by rfl) T.tuple (by decide+kernel) (aa (ak 2) ae)))))),?_⟩
  walk_at "rd";refine⟨by decide,λ p hp=>?_⟩;have SS:=(hF.ne hp).1;walk_at "rd";refine⟨dh (by lia) (by lia),?_⟩;rw[r6];refine jc (λ i δ M'=>∃(v1 v2:Option D) (ms:List Int),δ=[some (.ref a),some (.int n),some (.ref p),v1,v2]/\(ms.length=i/\∀x∈ms,0<=x/\x<=10^30)/\M' p=some (.lst (ms.map D.int))/\Fl a cc M M') ⟨none,none,[],rfl,⟨rfl,λ x h=>by cases h⟩,ag,Fl.put hF hp⟩ (λ i d δ M' hd h=>?_) (λ δ M' h=>?_)
  ·obtain⟨v1,v2,ms,rfl,⟨h2,WH⟩,h3,F1⟩:=h;obtain⟨hi,rfl⟩:=fE hd;walk_at "rd";refine⟨a,cc,5,rfl,F1.bh,by decide,by decide,λ d1 o1 a0 a1 w_=>?_⟩;have F2:=F1.trans (Fl.pick w_);walk_at "rd";refine⟨⟨rfl,_,by rw[av SS];exact h3⟩,?_⟩;walk_at "rd";refine⟨a,cc,6,rfl,w_,by decide,by decide,λ d2 o2 b0 b1 Dp=>?_⟩;have F3:=F2.trans (Fl.pick Dp);walk_at "rd";refine EG ⟨by decide,by decide,by decide⟩ ?_;walk_at "rd";refine⟨a,cc,_,rfl,Dp,by decide,by decide,λ d3 o3 c0 c1 Q8=>?_⟩;have F4:=F3.trans (Fl.pick Q8);walk_at "rd";refine EG ⟨by decide,by decide,by decide⟩ ?_;walk_at "rd";refine EG ⟨by decide,by decide,by decide⟩ ?_;walk_at "rd";refine⟨a,cc,_,rfl,Q8,by decide,by decide,λ d4 o4 e0 e1 Vc=>?_⟩;have F5:=F4.trans (Fl.pick Vc);walk_at "rd";refine⟨small (by show 5<=10000;decide),λ q hq=>?_⟩;have YJ:ai (ai (ai (ai M' a o1) a o2) a o3) a o4 p=some (.lst (ms.map D.int)):=by rw[av SS,av SS,av SS,av SS];exact h3
   have Z8:p≠q:=λ z=>by subst z;rw[YJ]at hq;cases hq
   generalize ai (ai (ai (ai M' a o1) a o2) a o3) a o4=M5 at*;walk_at "rd";obtain⟨x,U1,hx⟩:=Hi (ns:=[0,1,d2,d3,_]) a0 (by show d1 < 5;exact a1);refine dH ag hx ?_;walk_at "rd";refine fK (by rw[av Z8];exact YJ) (by rw[A5];exact p6 (show ms.length<=1000 by lia) (by decide)) ?_;walk_at "rd";refine⟨_,_,ms++[x],rfl,⟨by simp[h2],λ y hy=>?_⟩,by rw[ag,A7];rfl,(F5.trans (Fl.put Vc hq)).own hF hp⟩;rcases A6.mp hy with q|q
   ·exact WH y q
   ·have e:y=x:=by simpa using q
    subst e;have t6:(10:Int)^(6:Int).toNat=1000000:=by decide
    have QN:(10:Int)^(30:Int).toNat=1000000000000000000000000000000:=by decide
    have VH:(10:Int)^30=1000000000000000000000000000000:=by decide
    rw[t6]at c1 e1;rw[QN]at U1;rw[VH];simp only[C4,not_mem_nil,or_false]at U1;rcases U1 with z|z|z|z|z <;> lia
  ·obtain⟨v1,v2,ms,rfl,⟨h2,WH⟩,h3,F1⟩:=h;rw[cF]at h2;walk_at "rd";exact cq h3 (aw (k ms _ h2 WH F1))
theorem Hk:∀{a b:List Nat},a.Pairwise (· < ·)->b.Pairwise (· < ·)->(∀x,x∈a↔x∈b)->a=b
 |[],[],_,_,_=>rfl
 |[],y::b,_,_,h=>absurd ((h y).mpr n9) (by simp)
 |x::a,[],_,_,h=>absurd ((h x).mp n9) (by simp)
 |x::a,y::b,ha,hb,h=>by
  obtain⟨a1,a2⟩:=pairwise_cons.mp ha;obtain⟨b1,b2⟩:=pairwise_cons.mp hb;have e:x=y:=by
   rcases C4.mp ((h x).mp n9)with z|z
   ·exact z
   ·rcases C4.mp ((h y).mpr n9)with w|w
    ·exact w.symm
    ·have:=b1 x z;have:=a1 y w;lia
  subst e;rw[Hk a2 b2 λ z=>?_];constructor
  ·intro hz;rcases C4.mp ((h z).mp (k5 _ hz))with w|w
   ·subst w;exact absurd (a1 z hz) (C0 _)
   ·exact w
  ·intro hz;rcases C4.mp ((h z).mpr (k5 _ hz))with w|w
   ·subst w;exact absurd (b1 z hz) (C0 _)
   ·exact w
theorem Gu{h m2:Nat}{g f:Nat->Nat}(G:cM m h r)(a:kj m h r ls m2 q cD g)(b:kj m h r ls m2 q cD f):(List.range m).map f=(List.range m).map g:=n5 λ x hx=>by obtain⟨v,hv⟩:=LM (q:=q) G 0 (mem_range.mp hx);rw[<- a.pr G hv,<- b.pr G hv]
theorem IT{Q:bW}(q:Q (.bl true) M):yF true (.tup ds) .bK M Q:=q
theorem IU{Q:bW}(q:Q (.bl false) M):yF true .bK .bK M Q:=q
theorem fZ:aJ ["_law_script","_law_flow_here","_law_table_here","_law_small","_law_goes","_law_many","_law_k","_law_sums","_law_x"] ["_law_script"] (aq (top 40)):=⟨rfl,rfl,rfl,by decide+kernel,rfl,by decide+kernel,by decide+kernel⟩
theorem OS(F:h_ K "law" "law" (top 40) f fd)(T:iA K mg)(yC:b_ P w K mg base 1 "_law_flow" ["_law_script"] zB)(wz:b_ P w K mg base 4 "_law_table" ["_law_flow_here"] (zw 19 6))(K5:b_ P w K mg base 14 "least" ["table"] zy)(GY:b_ P w K mg base 2 "led" ["one","other"] Ly)(ay:b_ P w K mg base 1 "_law_pick" ["_law_flow_here","_law_many"] iJ)(jY:b_ P w K mg base 10 "_law_things_right" ["_law_table_here","_law_small","_law_goes","_law_x","_law_y"] RC)(nA:b_ P w K mg base 2 "_law_great_sum" ["_law_flow_here","_law_many"] zA)(mx:b_ P w K mg base 4 "_law_sums_right" ["_law_table_here","_law_small","_law_goes","_law_sums"] RD):bT P w K mg base eX 15 f fd ["_law_script"] (cK K uW):=by
 refine ki F fZ (λ ds M Q h=>?_) (λ dE A outer s H E ds M Q hr h=>?_)
 ·obtain⟨ns,rfl,_⟩:=h;rfl
 ·obtain⟨ns,rfl,Yx,Yw,k⟩:=h;refine⟨_,(af (aA (i:=1) fZ.nd rfl (Or.inr rfl) (aE yC (hr.mono (by decide)) (by rfl) (aa (ak 0) ae)))
 (af (aA (i:=2) fZ.nd rfl (Or.inr rfl) (aE wz (hr.mono (by decide)) (by rfl) (aa (ak 1) ae)))
 (af (aA (i:=3) fZ.nd rfl (Or.inl rfl) (aE K5 (hr.mono (by decide)) (by rfl) (aa (ak 2) ae)))
 (af (aA (i:=4) fZ.nd rfl (Or.inl rfl) (aE GY (hr.mono (by decide)) (by rfl) (aa (ak 2) (aa (ak 3) ae))))
 (af (aA (i:=5) fZ.nd rfl (Or.inl rfl) (aO cb (by rfl) T.len (by decide+kernel) (aa (aI aR (ak 3) aj (λ _ _=>rfl)) ae)))
 (af (cI (zd (aS zY (ak 4) mJ (aN _)) (zd (aS (ij hr.units) (Mu rfl (by rfl) T.sorted (by rfl) T.set (aa (ak 4) ae)) (HW rfl (by rfl) T.list (by rfl) T.range (aa (ak 5) ae)) (aN _)) (xm (aS (ij hr.units) (aE GY (hr.mono (by decide)) (by rfl) (aa (ak 3) (aa (ak 3) ae))) (Ms rfl (by rfl) T.tuple (by rfl) T.range (aa (ak 5) ae)) (aN _))))).pt
 (ao (aM ox))
 aY)
 (af (cI (aS (ij hr.units) (dW OX (aE GY (hr.mono (by decide)) (by rfl) (aa (ak 3) (aa (ak 2) ae))) mJ (aN _)) (dW (eT hr.units) (aO cb (by rfl) T.len (by decide+kernel) (aa (aI aR (ak 2) aj (λ _ _=>rfl)) ae)) (ak 5) (aN _)) (aN _))
 (ao (aM ox))
 aY)
 (af (dO A2 rfl (bo rfl T.range (aa aj ae)) (bu (i:=6) fZ.nd rfl (Or.inl rfl))
 (af (aA (i:=8) fZ.nd rfl (Or.inl rfl) (aE ay (hr.mono (by decide)) (by rfl) (aa (ak 1) (aa (aO cb (by rfl) T.len (by decide+kernel) (aa (aI aR (ak 2) aj (λ _ _=>rfl)) ae)) ae))))
 (ao (cI (DB (sy (aE jY (hr.mono (by decide)) (by rfl) (aa (ak 2) (aa (ak 3) (aa (ak 4) (aa (ak 8) (aa (aE ay (hr.mono (by decide)) (by rfl) (aa (ak 1) (aa (aO cb (by rfl) T.len (by decide+kernel) (aa (aI aR (ak 2) aj (λ _ _=>rfl)) ae)) ae))) ae))))))))
 (ao (aM ox))
 aY))))
 (af (cQ (i:=7) fZ.nd rfl (Or.inl rfl) (tgs:=["_law_k"]) (fr:=[1,2]) ⟨bD (by kernel_rfl),rfl,(λ _ _ h=>h),(bo rfl T.range (aa aj ae)),(bj (λ _ _ _ _ _=>(aQ (i:=0) (show(["_law_k","_law_flow_here","_law_table_here"]:List Str).Nodup by decide+kernel) rfl (Or.inl rfl))) (by decide)),(λ _ _ _ _ _=>bC),(λ _ _ _ _ _=>(aE nA (hr.mono (by decide)) (by rfl) (aa (ak 1) (aa (aO cb (by rfl) T.len (by decide+kernel) (aa (aI aR (aI aR (ak 2) aj (λ _ _=>rfl)) aj (λ _ _=>rfl)) ae)) ae))))⟩)
 (af (cQ (i:=7) fZ.nd rfl (Or.inl rfl) (tgs:=["_law_counts"]) (fr:=[]) ⟨bD (by kernel_rfl),rfl,(λ _ _ h=>h),(dG (ak 7)),(bj (λ _ _ _ _ _=>(aQ (i:=0) (show(["_law_counts"]:List Str).Nodup by decide+kernel) rfl (Or.inl rfl))) (by decide)),(λ _ _ _ _ _=>bC),(λ _ _ _ _ _=>(eY br cp (by rfl) T.tuple (by decide+kernel) (tgs:=["_law_n"]) (fr:=[]) ⟨bD (by kernel_rfl),rfl,(λ _ _ h=>h),(dG (ak 0)),(bj (λ _ _ _ _ _=>(aQ (i:=0) (show(["_law_n"]:List Str).Nodup by decide+kernel) rfl (Or.inl rfl))) (by decide)),(λ _ _ _ _ _=>bC),(λ _ _ _ _ _=>(aO (TQ rfl) (by rfl) T.min (by decide+kernel) (aa (ak 0) (aa (bF vG aj aj) ae))))⟩))⟩)
 (ao (aM (aE mx (hr.mono (by decide)) (by rfl) (aa (ak 2) (aa (ak 3) (aa (ak 4) (aa (ak 7) ae))))))))))))))))),?_⟩
  rfl';refine⟨ns,rfl,λ f cc M1 hF Q9=>?_⟩;have hT:Be M1:=by first|exact Q9 _ _ Yx|exact Q9 _ _ Yw
  have hL:Rf M1:=by first|exact Q9 _ _ Yw|exact Q9 _ _ Yx
  rfl';refine⟨f,cc,rfl,hF,λ m h r ls M2 G hm hh L F2=>?_⟩;have W':Be M2:=tu F2 hT hF;have Xe:Rf M2:=tu F2 hL hF;have lM:bI r ls=.tup [.tup (r.map row),row ls]:=rfl;have Gp:=Iw G.tb;have rK:=G.tb.len;rfl';refine⟨m,h,r,ls,rfl,Xe,G,λ aH q cD M3 LS E3=>?_⟩;have G2:=LS.tb G;have HH:=LS.hom G;have Y:Qv m h r ls aH.length q cD (Mc m h r ls aH):=⟨G,G2,HH,λ x y hx hy=>LS.same G hx hy⟩;have m2l:=HH.le G2 G;have Cf:∀d,d < aH.length->∃x,x < m/\Mc m h r ls aH x=d:=λ d hd=>HH.Cf G2 G hd;have S8:bI q cD=.tup [.tup (q.map row),row cD]:=rfl;have Z9:=G2.tb.len;generalize aH.length=m2 at*;generalize Mc m h r ls aH=g at*;clear LS aH;rfl';refine⟨m,h,m2,r,q,ls,cD,rfl,G,G2.tb,λ g' M4 H' E4=>?_,λ no=>absurd HH (no g)⟩;rw[Gu G HH H'];clear H' g';have F4:=F2.trans (gc (E3.trans E4) F2.bh);have Ma:Be M4:=E4 _ _ (E3 _ _ W');clear E3 E4;rfl';refine aK (d:=.tup (q.map row)) rfl (iS (zJ ?_));rw[A5,Z9];have e0:gV ((List.range m).map g)=.tup (((List.range m).map g).map nD):=rfl;have Eo:ck 0 m2=(List.range m2).map nD:=by rw[cL];exact n5 λ x _=>vg x
  refine eJ ?_
  with_reducible refine gO (λ δ' M'=>δ'=[some (.fl (ns.map D.int)),some (.ref f),some (bI r ls),some (bI q cD),some (gV ((List.range m).map g)),some (.int (m2:Int)),none,none,none]/\Fl f cc M1 M'/\Be M') (λ N hN=>?_) ?_
  ·rw[e0]at hN ⊢;rfl';refine sT (by simp[HX]) ?_;rfl';refine⟨_,((List.range m).map g).map kI,rfl,by rw[<- LY];rfl,by simp;lia,λ fh p asc mem hp=>?_⟩;obtain⟨kept,rfl,asc,mem⟩:=Kw asc mem;have ek:kept=List.range m2:=Hk asc pairwise_lt_range λ x=>by
    rw[mem,mem_range,C8];constructor
    ·rintro⟨y,hy,rfl⟩;exact HH.lt y (mem_range.mp hy)
    ·intro hx;obtain⟨y,hy,e⟩:=Cf x hx;exact⟨y,mem_range.mpr hy,e⟩
   subst ek;rw[<- LY];have F5:=F4.trans (Fl.put (o:=.lst ((List.range m2).map nD)) F4.bh hp);have h5:ai M4 p (.lst ((List.range m2).map nD)) p=some (.lst ((List.range m2).map nD)):=ag;have Va:Be (ai M4 p (.lst ((List.range m2).map nD))):=be.new be.rfl hp _ _ _ Ma;generalize ai M4 p (.lst ((List.range m2).map nD))=M5 at*;rfl';refine⟨m2,rfl,by lia,λ p2 fM=>?_⟩;rw[Eo];have F6:=F5.trans (Fl.put (o:=.lst ((List.range m2).map nD)) F5.bh fM);have W_:Be (ai M5 p2 (.lst ((List.range m2).map nD))):=be.new be.rfl fM _ _ _ Va;refine nM (k:=0) (b:=true) (by rw[av (bM h5 fM)];exact h5) ag (ff λ x _=>dB 0 _) (ff λ x _=>dB 0 _) (by decide) (by simp) ?_;generalize ai M5 p2 (.lst ((List.range m2).map nD))=M6 at*;rfl';refine⟨m2,h,m2,q,q,cD,cD,rfl,G2,G2.tb,λ g' M7 H' E7=>?_,λ no=>absurd (Gs m2 h q cD) (no id)⟩;rw[Gu G2 (Gs m2 h q cD) H',List.map_id];have F7:=F6.trans (gc E7 F6.bh);have U':Be M7:=E7 _ _ W_;rfl';refine⟨m2,rfl,by lia,?_⟩;rw[Eo];refine IJ (k:=1) (b:=true) (lC.pl _) (lC.pl (List.range m2)) (by decide) (by unfold gV;simp) ?_;exact hN _ _ ⟨rfl,F7,U'⟩
  clear Ma F4 M4;rintro δ' M4 ⟨rfl,F4,Ma⟩
  with_reducible refine gO (λ δ' M'=>δ'=[some (.fl (ns.map D.int)),some (.ref f),some (bI r ls),some (bI q cD),some (gV ((List.range m).map g)),some (.int (m2:Int)),none,none,none]/\Fl f cc M1 M'/\Be M') (λ N hN=>?_) ?_
  ·rfl';refine⟨m2,h,m,q,r,cD,ls,rfl,G2,G.tb,λ g' M8 H' E8=>?_,λ no M8 E8=>?_⟩
   ·have em:m=m2:=by have:=H'.le G G2;lia
    refine I_ ?_;refine IT ?_;rfl';rw[lM];rfl';rw[A5,rK,B3 (by lia:(m:Int)=(m2:Int))];rfl';exact hN _ _ ⟨rfl,F4.trans (gc E8 F4.bh),E8 _ _ Ma⟩
   ·have em:m≠m2:=λ e=>by obtain⟨g3,h3⟩:=HH.inv G G2 e;exact no g3 h3
    refine I_ ?_;refine IU ?_;rfl';rw[lM];rfl';rw[A5,rK,y9 (by lia:¬(m:Int)=(m2:Int))];rfl';exact hN _ _ ⟨rfl,F4.trans (gc E8 F4.bh),E8 _ _ Ma⟩
  clear Ma F4 M4;rintro δ' M4 ⟨rfl,F4,Ma⟩;rfl';refine⟨dh (by lia) (by lia),?_⟩;refine jc (λ i δ M'=>∃v6 v8:Option D,δ=[some (.fl (ns.map D.int)),some (.ref f),some (bI r ls),some (bI q cD),some (gV ((List.range m).map g)),some (.int (m2:Int)),v6,none,v8]/\Fl f cc M1 M'/\Be M') ⟨none,none,rfl,F4,Ma⟩ (λ i d δ M' hd hI=>?_) (λ δ M' hI=>?_)
  ·obtain⟨v6,v8,rfl,F5,Va⟩:=hI;rw[lM];rfl';rw[A5,rK];refine⟨f,cc,m,rfl,F5.bh,by have:=G.tb.pos;lia,by lia,λ d1 o1 P0 Q_ w_=>?_⟩;have P1:=Fl.pick w_;have F6:=F5.trans P1;have W_:Be (ai M' f o1):=tu P1 Va F5.bh;generalize ai M' f o1=M6 at*;rfl';rw[A5,rK];refine⟨f,cc,m,rfl,F6.bh,by have:=G.tb.pos;lia,by lia,λ d2 o2 Ve Vd Dp=>?_⟩;have P2:=Fl.pick Dp;have F7:=F6.trans P2;have U':Be (ai M6 f o2):=tu P2 W_ F6.bh;generalize ai M6 f o2=M7 at*;obtain⟨x,rfl⟩:∃n:Nat,d1=(n:Int):=⟨d1.toNat,by lia⟩;obtain⟨y,rfl⟩:∃n:Nat,d2=(n:Int):=⟨d2.toNat,by lia⟩;rfl';refine⟨m,h,m2,x,y,r,q,ls,cD,g,rfl,U',Y,by lia,by lia,λ M8 E8=>?_⟩;rfl';exact⟨_,_,rfl,F7.trans (gc E8 F7.bh),E8 _ _ U'⟩
  ·obtain⟨v6,v8,rfl,F5,Va⟩:=hI;rw[lM];rfl';refine⟨dh (by lia) (by lia),?_⟩;rw[cL];refine gY (β:=Row) row (λ ys M'=>Fl f cc M1 M'/\∀t∈ys,t.length=h/\∀c∈t,0<=c) (by decide) ⟨F5,λ y h=>by cases h⟩ (λ i x ys M' N hx hl hI hN=>?_) (λ ys M6 hl hI=>?_)
   ·rfl';refine aK Gp.1 ?_;rfl';rw[A5,Gp.2];refine⟨f,cc,h,rfl,hI.1.bh,by lia,λ ms M7 ml mp F7=>?_⟩;refine hN ms _ ⟨hI.1.trans F7,λ t ht=>?_⟩;rcases A6.mp ht with e|e
    ·exact hI.2 t e
    ·rw[p8.mp e];exact⟨ml,λ x hx=>(mp x hx).1⟩
   obtain⟨F6,tN⟩:=hI;have hl:ys.length=3:=hl;intro p hp;have F7:=F6.trans (Fl.put (o:=.lst (ys.map row)) F6.bh hp);have h7:ai M6 p (.lst (ys.map row)) p=some (.lst (ys.map row)):=ag;generalize ai M6 p (.lst (ys.map row))=M7 at*;rfl';refine jC row (λ s:Row=>row (s.map λ n=>if(10:Int)^29 < n then(10:Int)^29 else n)) (by lia) h7 (λ i s N hs hN=>?_) ?_
   ·have es:row s=.tup (s.map D.int):=rfl;obtain⟨sl,sp⟩:=tN s (k7 hs);rw[es];rfl';refine gX (enc:=D.int) (λ n=>.int (if(10:Int)^29 < n then(10:Int)^29 else n)) (by lia) (λ j n N hn hN=>?_) ?_
    ·rfl';refine EG ⟨by decide,by decide,by decide⟩ ?_;rfl';exact hN
    ·rfl';have e:s.map (λ n=>D.int (if(10:Int)^29 < n then(10:Int)^29 else n))=(s.map λ n=>if(10:Int)^29 < n then(10:Int)^29 else n).map D.int:=by rw[C9];rfl
     rw[e];exact hN
   intro p2 fM;have e:ys.map (λ s:Row=>row (s.map λ n=>if(10:Int)^29 < n then(10:Int)^29 else n))=(ys.map λ s:Row=>s.map λ n=>if(10:Int)^29 < n then(10:Int)^29 else n).map row:=by rw[C9];rfl
   rw[e];have ZN:∀t∈ys.map (λ s:Row=>s.map λ n=>if(10:Int)^29 < n then(10:Int)^29 else n),t.length=h/\∀c∈t,0<=c:=λ t ht=>by
    obtain⟨s,hs,rfl⟩:=C8.mp ht;obtain⟨sl,sp⟩:=tN s hs;refine⟨by rw[A5];exact sl,λ c hc=>?_⟩;obtain⟨n,hn,rfl⟩:=C8.mp hc;have:=sp n hn;split
    ·decide
    ·exact this
   have hzl:(ys.map λ s:Row=>s.map λ n=>if(10:Int)^29 < n then(10:Int)^29 else n).length=3:=by rw[A5];exact hl
   generalize(ys.map λ s:Row=>s.map λ n=>if(10:Int)^29 < n then(10:Int)^29 else n)=zs at*;rfl';refine⟨m,h,m2,r,q,ls,cD,g,p2,zs,rfl,ag,by lia,ZN,Y,λ M8 E8=>?_⟩;exact aw (k _)
theorem O9(hO:Bj H [38,100])(hS:gB K H a (ns.map V.int)):cK K uW [.ref a] H (λ v _=>v=.bl true) λ _ _ _=>False:=by
 have Ax:HI K H a (ns.map V.int):=by
  rcases hS with(h|⟨o,h⟩)|h
  ·rcases hO.1 a with z|⟨o,xs,z⟩|z
   ·rw[z]at h;cases h
   ·rw[z]at h;cases h
   ·rw[z]at h;cases h
  ·exact .inl ⟨o,h⟩
  ·exact .inr h
 refine⟨[.fl (ns.map D.int)],λ b=>if b=38 then some (.eS (.lN "first_things.<locals>.<lambda>"))else if b=100 then some (.eS (.lN "least.<locals>.<lambda>"))else none,λ d _=>d=.bl true,aD.one (mw.mpr ⟨a,_,rfl,Ax,jA ns⟩),λ a o e=>?_,⟨ns,rfl,J3 rfl,(J4 (by decide)).trans (J3 rfl),λ _=>rfl⟩,λ v H' d M' hd hm t e=>?_⟩
 ·by_cases z0:a=38
  ·subst z0;have e:=(J3 rfl).symm.trans e;cases e;exact⟨[],hO.2 _ (by simp),λ p hp=>nomatch hp⟩
  ·have e:=(J4 z0).symm.trans e;by_cases z1:a=100
   ·subst z1;have e:=(J3 rfl).symm.trans e;cases e;exact⟨[],hO.2 _ (by simp),λ p hp=>nomatch hp⟩
   ·have e:=(J4 z1).symm.trans e;cases e
 ·subst e;exact ba.mp hd
structure TopC(K:J5)(mg:Str->Option jp)(x:Str)(i:Nat)(dV:jp)(c f:ww)(d:FuncData):Prop where
 m:mg x=some (.ref f)
 F:jI K x x (top i) dV c f d
theorem FP{A:Type}{P:List A->Prop}(h:∀a t,t.length=n->P (a::t)):∀us:List A,us.length=n+1->P us
 |[],e=>nomatch e
 |a::t,e=>h a t (Nat.succ.inj e)
theorem vQ{A:Type}{P:List A->Prop}(h:∀a,P [a]):∀us:List A,us.length=1->P us:=FP λ a t e=>by rw[a9 e];exact h a
theorem mf{A:Type}{P:List A->Prop}(h:∀a b,P [a,b]):∀us:List A,us.length=2->P us:=FP λ a=>vQ (P:=λ t=>P (a::t)) (h a)
theorem vP{A:Type}{P:List A->Prop}(h:∀a b c,P [a,b,c]):∀us:List A,us.length=3->P us:=FP λ a=>mf (P:=λ t=>P (a::t)) (h a)
theorem yc{A:Type}{P:List A->Prop}(h:∀a b c d,P [a,b,c,d]):∀us:List A,us.length=4->P us:=FP λ a=>vP (P:=λ t=>P (a::t)) (h a)
theorem Wd{A:Type}{P:List A->Prop}(h:∀a b c d e,P [a,b,c,d,e]):∀us:List A,us.length=5->P us:=FP λ a=>yc (P:=λ t=>P (a::t)) (h a)
structure dJ(K:J5)(mg:Str->Option jp)(x:Str)(i:Nat)(f:ww)(d:FuncData):Prop where
 m:mg x=some (.ref f)
 F:h_ K x x (top i) f d
theorem all_mk{l:PySem.W.OpenLaw}{w:World}{K:J5}{mg:Str->Option jp}{f0 f1 f2 f3 f4 f5 f6 f7 f8 f9 f10 f11 f12 f13 f14 f15 f16 f17 f18 f19 f20 f21 f22 f23 f24 f25 f26 f27 f28 f29 f30 f31 YM:ww}{d0 d1 d2 d3 d4 d5 d6 d7 d8 d9 d10 d11 d12 d13 d14 d15 d16 d17 d18 d19 d20 d21 d22 d23 d24 d25 d26 d27 d28 d29 d30 d31:FuncData}{kV dc pm cd ct:jp}{an:Option ww}
  (T:iA K mg)
  (t0:dJ K mg "places_of" 1 f0 d0)
  (t1:dJ K mg "one_more" 3 f1 d1)
  (t2:TopC K mg "first_sums" 4 (.ref 29) 35 f2 d2)
  (e2:K.lookup 29=some {cls:=.type "tuple",data:=.seq #[.none] 0})
  (t3:TopC K mg "first_things" 5 .none 42 f3 d3)
  (t4:dJ K mg "row_of" 7 f4 d4)
  (t5:dJ K mg "numbered" 8 f5 d5)
  (t6:dJ K mg "gone_by" 10 f6 d6)
  (t7:dJ K mg "thing_of" 11 f7 d7)
  (t8:dJ K mg "carried" 12 f8 d8)
  (t9:dJ K mg "put_to" 13 f9 d9)
  (UH:dJ K mg "put" 14 f10 d10)
  (UG:dJ K mg "losing_beside" 16 f11 d11)
  (UE:dJ K mg "first_alike" 17 f12 d12)
  (UD:TopC K mg "least" 18 .none 104 f13 d13)
  (UC:dJ K mg "keeps_steps" 20 f14 d14)
  (UB:dJ K mg "led" 21 f15 d15)
  (UA:dJ K mg "parting" 23 f16 d16)
  (Uz:dJ K mg "_law_flow" 25 f17 d17)
  (Uy:dJ K mg "_law_pick" 26 f18 d18)
  (Ux:dJ K mg "_law_shuffled" 27 f19 d19)
  (Uw:dJ K mg "_law_nim_table" 28 f20 d20)
  (Uv:dJ K mg "_law_blown" 29 f21 d21)
  (Uu:dJ K mg "_law_renumbered" 30 f22 d22)
  (Ut:dJ K mg "_law_counted" 31 f23 d23)
  (Us:dJ K mg "_law_any_table" 32 f24 d24)
  (Ur:dJ K mg "_law_long_table" 33 f25 d25)
  (Uq:dJ K mg "_law_table" 34 f26 d26)
  (Up:dJ K mg "_law_great_sum" 35 f27 d27)
  (Uo:dJ K mg "_law_losing_behind" 36 f28 d28)
  (Um:dJ K mg "_law_is_parted" 37 f29 d29)
  (QN:dJ K mg "_law_things_right" 38 f30 d30)
  (Ul:dJ K mg "_law_sums_right" 39 f31 d31)
  (Zf:dJ K mg "law" 40 YM (PySem.W.fnOf "law" "law" (cE (top 40)) (bG (top 40)) (aq (top 40)) .none kV dc pm an cd ct)):
  ∃fd:FuncData,(∀(s:kt) (v:jp),BindsTo s fd ⟨[v],[]⟩ [("_law_script",v)])/\∀base:Heap,K.In base->(∀q∈([(42,38),(104,100)]:List (ww×ww)),HG mg base q.1 q.2)->bT l.prog w K mg base eX 15 YM fd ["_law_script"] (cK K uW):=by
 refine⟨PySem.W.fnOf "law" "law" (cE (top 40)) (bG (top 40)) (aq (top 40)) .none kV dc pm an cd ct,λ s v=>.of_eq rfl,λ base _ Vb=>?_⟩;have b0:=t0.F.binds (ps:=["names"]) λ _ _ _ _ _ _=>vQ λ _=>rfl;have b1:=t1.F.binds (ps:=["counts","heap"]) λ _ _ _ _ _ _=>mf λ _ _=>rfl;have b2:=t2.F.yR (ps:=["heaps","start","gone","most"]) λ _ _ _ _ _ s hk=>yc λ _ _ _ _=>Hh hk rfl e2 rfl rfl rfl;have c2:=t2.F.Qr (ps:=["heaps","start","gone","most"]) (n:=3) rfl λ _ _ _ _ _ s hk=>vP λ _ _ _=>Hh hk rfl e2 rfl rfl rfl;have b3:=t3.F.yR (ps:=["steps"]) λ _ _ _ _ _ s hk=>vQ λ _=>.of_eq rfl;have b4:=t4.F.binds (ps:=["there","heaps","gone","places"]) λ _ _ _ _ _ _=>yc λ _ _ _ _=>rfl;have b5:=t5.F.binds (ps:=["heaps","start","gone","is_losing"]) λ _ _ _ _ _ _=>yc λ _ _ _ _=>rfl;have b6:=t6.F.binds (ps:=["steps","thing","heap","many"]) λ _ _ _ _ _ _=>yc λ _ _ _ _=>rfl;have b7:=t7.F.binds (ps:=["table","counts"]) λ _ _ _ _ _ _=>mf λ _ _=>rfl;have b8:=t8.F.binds (ps:=["steps","others","start"]) λ _ _ _ _ _ _=>vP λ _ _ _=>rfl;have b9:=t9.F.binds (ps:=["steps","x"]) λ _ _ _ _ _ _=>mf λ _ _=>rfl;have b10:=UH.F.binds (ps:=["table","x","y"]) λ _ _ _ _ _ _=>vP λ _ _ _=>rfl;have b11:=UG.F.binds (ps:=["table","x"]) λ _ _ _ _ _ _=>mf λ _ _=>rfl;have b12:=UE.F.binds (ps:=["table"]) λ _ _ _ _ _ _=>vQ λ _=>rfl;have b13:=UD.F.yR (ps:=["table"]) λ _ _ _ _ _ s hk=>vQ λ _=>.of_eq rfl;have b14:=UC.F.binds (ps:=["steps","others","goes"]) λ _ _ _ _ _ _=>vP λ _ _ _=>rfl;have b15:=UB.F.binds (ps:=["one","other"]) λ _ _ _ _ _ _=>mf λ _ _=>rfl;have b16:=UA.F.binds (ps:=["table","x","y"]) λ _ _ _ _ _ _=>vP λ _ _ _=>rfl;have b17:=Uz.F.binds (ps:=["_law_script"]) λ _ _ _ _ _ _=>vQ λ _=>rfl;have b18:=Uy.F.binds (ps:=["_law_flow_here","_law_many"]) λ _ _ _ _ _ _=>mf λ _ _=>rfl;have b19:=Ux.F.binds (ps:=["_law_flow_here","_law_things"]) λ _ _ _ _ _ _=>mf λ _ _=>rfl;have b20:=Uw.F.binds (ps:=["_law_sizes","_law_last"]) λ _ _ _ _ _ _=>mf λ _ _=>rfl;have b21:=Uv.F.binds (ps:=["_law_flow_here","_law_table_here"]) λ _ _ _ _ _ _=>mf λ _ _=>rfl;have b22:=Uu.F.binds (ps:=["_law_flow_here","_law_table_here"]) λ _ _ _ _ _ _=>mf λ _ _=>rfl;have b23:=Ut.F.binds (ps:=["_law_value","_law_low","_law_wide"]) λ _ _ _ _ _ _=>vP λ _ _ _=>rfl;have b24:=Us.F.binds (ps:=["_law_flow_here","_law_many"]) λ _ _ _ _ _ _=>mf λ _ _=>rfl;have b25:=Ur.F.binds (ps:=["_law_flow_here"]) λ _ _ _ _ _ _=>vQ λ _=>rfl;have b26:=Uq.F.binds (ps:=["_law_flow_here"]) λ _ _ _ _ _ _=>vQ λ _=>rfl;have b27:=Up.F.binds (ps:=["_law_flow_here","_law_many"]) λ _ _ _ _ _ _=>mf λ _ _=>rfl;have b28:=Uo.F.binds (ps:=["_law_table_here","_law_x","_law_counts"]) λ _ _ _ _ _ _=>vP λ _ _ _=>rfl;have b29:=Um.F.binds (ps:=["_law_table_here","_law_x","_law_y","_law_counts"]) λ _ _ _ _ _ _=>yc λ _ _ _ _=>rfl;have b30:=QN.F.binds (ps:=["_law_table_here","_law_small","_law_goes","_law_x","_law_y"]) λ _ _ _ _ _ _=>Wd λ _ _ _ _ _=>rfl;have b31:=Ul.F.binds (ps:=["_law_table_here","_law_small","_law_goes","_law_sums"]) λ _ _ _ _ _ _=>yc λ _ _ _ _=>rfl;have d_:=bB.of Uy.F (J6 Uy.F T (P:=l.prog) (w:=w) (base:=base)) Uy.m b18;have Bw:=bB.of Uz.F (Kd Uz.F T (P:=l.prog) (w:=w) (base:=base)) Uz.m b17;have uL:=bB.of Ut.F (OU Ut.F T (P:=l.prog) (w:=w) (base:=base)) Ut.m b23;have Bs:=bB.of Ur.F (J' Ur.F T d_ uL (P:=l.prog) (w:=w) (base:=base)) Ur.m b25;have By:=bB.of Us.F (Kg Us.F T d_ uL (P:=l.prog) (w:=w) (base:=base)) Us.m b24;have Br:=bB.of Uw.F (J9 Uw.F T (P:=l.prog) (w:=w) (base:=base)) Uw.m b20;have xk:=bB.of Uv.F (Fy Uv.F T d_ (P:=l.prog) (w:=w) (base:=base)) Uv.m b21;have Bo:=bB.of Ux.F (JZ Ux.F T d_ (P:=l.prog) (w:=w) (base:=base)) Ux.m b19;have Dv:=bB.of Uu.F (OO Uu.F T Bo (P:=l.prog) (w:=w) (base:=base)) Uu.m b22;have xf:=bB.of Uq.F (Ft Uq.F T d_ Bs By Br xk Dv (P:=l.prog) (w:=w) (base:=base)) Uq.m b26;have qT:=bB.of t1.F (J_ t1.F T (P:=l.prog) (w:=w) (base:=base)) t1.m b1;have xj:=bB.Sn t2.F (vF t2.F T qT (P:=l.prog) (w:=w) (base:=base)) t2.m b2;have xc:=qk.Sn t2.F (vF t2.F T qT (P:=l.prog) (w:=w) (base:=base)) t2.m c2;have Bv:=bB.of t6.F (Kc t6.F T (P:=l.prog) (w:=w) (base:=base)) t6.m b6;have uJ:=bB.of t7.F (ON t7.F T Bv (P:=l.prog) (w:=w) (base:=base)) t7.m b7;have qU:=bB.of t8.F (Kf t8.F T (P:=l.prog) (w:=w) (base:=base)) t8.m b8;have jM:=bB.of t9.F (Fv t9.F T qU (P:=l.prog) (w:=w) (base:=base)) t9.m b9;have uK:=bB.of UH.F (OP UH.F T jM (P:=l.prog) (w:=w) (base:=base)) UH.m b10;have Bt:=bB.of UG.F (Ka UG.F T jM (P:=l.prog) (w:=w) (base:=base)) UG.m b11;have Bx:=bB.of UE.F (Ke UE.F T Bt (P:=l.prog) (w:=w) (base:=base)) UE.m b12;have Dw:=bB.of t0.F (OQ t0.F T (P:=l.prog) (w:=w) (base:=base)) t0.m b0;have xg:=bB.of t4.F (Fu t4.F T (P:=l.prog) (w:=w) (base:=base)) t4.m b4;have Bq:=bB.of t5.F (J8 t5.F T xc Dw xg (P:=l.prog) (w:=w) (base:=base)) t5.m b5;have xh:=bB.Sn UD.F (Fw UD.F T (Vb (104,100) (by simp)) Bx Bq (P:=l.prog) (w:=w) (base:=base)) UD.m b13;have Bu:=bB.of UC.F (Kb UC.F T (P:=l.prog) (w:=w) (base:=base)) UC.m b14;have Dx:=bB.of UB.F (OR UB.F T qU Bu (P:=l.prog) (w:=w) (base:=base)) UB.m b15;have uI:=bB.Sn t3.F (Cg t3.F T (Vb (42,38) (by simp)) xj (P:=l.prog) (w:=w) (base:=base)) t3.m b3;have Bp:=bB.of UA.F (J7 UA.F T uI jM (P:=l.prog) (w:=w) (base:=base)) UA.m b16;have Dz:=bB.of Uo.F (OV Uo.F T uK uJ (P:=l.prog) (w:=w) (base:=base)) Uo.m b28;have Dy:=bB.of Um.F (OT Um.F T Dz (P:=l.prog) (w:=w) (base:=base)) Um.m b29;have HR:=bB.of QN.F (Sl QN.F T Bp Dy (P:=l.prog) (w:=w) (base:=base)) QN.m b30;have HS:=bB.of Ul.F (Sm Ul.F T uK uJ (P:=l.prog) (w:=w) (base:=base)) Ul.m b31;have xi:=bB.of Up.F (Fx Up.F T d_ (P:=l.prog) (w:=w) (base:=base)) Up.m b27;exact OS Zf.F T Bw xf xh Dx d_ HR xi HS
theorem walk{q:Program}{loose:List Str}{XP:(Str->Option jp)->Heap->Prop}{YP:World->Heap->Prop}{d:DefRec}{K:Params->J5}(hn:l.most=some 63)(S_:d.params.defaults=[])
  (hY:∀(w:World) (h:Heap),YP w h->(K w.params).In h/\∀q∈([(42,38),(104,100)]:List (ww×ww)),h.get? q.2=some (PySem.W.tabObj #[])/\(K w.params).lookup q.2=none/\PySem.W.CodeHd h q.1 q.2)
  (F:∀(w:World) (mg:Str->Option jp) (fa:ww) (h:Heap),(K w.params).In h->h.Ns mainGlobals mg->mg d.name=some (.ref fa)->
   ∃fd:FuncData,(∀(s:kt) (u:jp),BindsTo s fd ⟨[u],[]⟩ [("_law_script",u)])/\∀base:Heap,(K w.params).In base->(∀q∈([(42,38),(104,100)]:List (ww×ww)),HG mg base q.1 q.2)->bT l.prog w (K w.params) mg base eX 15 fa fd ["_law_script"] (cK (K w.params) uW)):
  PySem.W.WalkO q loose XP YP l.row.toRowW d [] (λ f vs=>PySem.call f vs):=
 L2.DE (n:=63) (k:=15) (x:="_law_script") (CX:=λ _=>eX) (sp:=λ w=>cK (K w.params) uW) hn (by decide) S_ ⟨rfl,by decide,by decide⟩ hY F (λ _ _ a ns hl hO hS=>O9 hO hS) λ _ _ _ _ _ z=>z
end KK
open PySem.W PyProof.Rows
def PySem.W.Fast.tw15737802427992966135:Program:=PySem.Challenge.pw_lastloser_k33_whole_led_onto_the_least
theorem PySem.W.Fast.te15737802427992966135 : PySem.Challenge.pw_lastloser_k33_whole_led_onto_the_least = PySem.W.Fast.tw15737802427992966135 := rfl
def PySem.W.Fast.tw15680181125469238629:Nat:=0
def PySem.W.Fast.tw9903800204108273032:Nat:=0
def PySem.W.Fast.tw15883096306895787946:Nat:=0
def PySem.W.Fast.tw11752204181376810605:Nat:=0
def PySem.W.Fast.tw17389258389358423757:Nat:=0
def PySem.W.Fast.tw340943301801174815:Nat:=0
namespace KK
open L2
noncomputable def kE (P:Params)(x:Str)(t:Nat)(v:jp):DictEntry:={hash:=PyData.keyHash P x,key:=.str x t,val:=v}
noncomputable def kO (x:Str)(t l n r s u:Nat)(v w:jp):Obj:={cls:=.type "code",data:=.fields #[.str x t,.str x (t+1),.str "/claim/cut.py" (t+2),.int l 0,.int n 0,.int 0 0,.int 0 0,.int 3 0,.ref r,.bool true,.int 181 0,.ref (r+1),.none,v,w,.ref s,.int u 0,.int l 0,.str "/claim/cut.py" (u+1)]}
noncomputable def kF (x:Str)(i:Nat)(m:Str×Nat)(c:Nat)(d:jp:=.none):Obj:={cls:=.type "function",data:=.func (PySem.W.fnOf x x (cE (top i)) (bG (top i)) (aq (top i)) d .none .none (.str m.1 m.2) none (.ref c) .none)}
noncomputable def kP (x:Str)(a i:Nat)(m:Str×Nat)(t l n u q:Nat)(d:jp:=.none):List (Nat×Obj):=[(a,if q=0 then kO x t l n (a - 3) (a - 1) u .none .none else kO x t l n (a - 5) (a - 1) u (.ref (a - 3)) (.ref (a - 2))),(a+1,kF x i m a d)]
noncomputable def m0:Str×Nat:=("lastloser.leading",327)
noncomputable def m1:Str×Nat:=("lastloser.least",303)
noncomputable def m2:Str×Nat:=("lastloser.numbering",233)
noncomputable def m3:Str×Nat:=("lastloser.parting",341)
noncomputable def m4:Str×Nat:=("lastloser.places",187)
noncomputable def m5:Str×Nat:=("lastloser.seeking",199)
noncomputable def m6:Str×Nat:=("lastloser.things",247)
noncomputable def m7:Str×Nat:=("law_lastloser_k33_whole_led_onto_the_least",357)
noncomputable def kD (P:Params):Obj:={cls:=.type "dict",data:=.dict #[kE P "__name__" 165 (.str "law_lastloser_k33_whole_led_onto_the_least" 357),kE P "__doc__" 166 .none,kE P "__package__" 167 .none,kE P "__loader__" 168 (.builtin "__main__.__loader__#opaque"),kE P "__spec__" 169 .none,kE P "__annotations__" 170 (.ref 6),kE P "__builtins__" 171 (.ref 4),kE P "__file__" 173 (.str "/claim/cut.py" 172),kE P "__cached__" 174 .none,kE P "places_of" 198 (.ref 21),kE P "one_more" 208 (.ref 28),kE P "first_sums" 224 (.ref 36),kE P "first_things" 232 (.ref 43),kE P "row_of" 240 (.ref 48),kE P "numbered" 246 (.ref 53),kE P "gone_by" 260 (.ref 60),kE P "thing_of" 271 (.ref 67),kE P "carried" 285 (.ref 74),kE P "put_to" 293 (.ref 81),kE P "put" 302 (.ref 88),kE P "losing_beside" 310 (.ref 93),kE P "first_alike" 316 (.ref 98),kE P "least" 326 (.ref 105),kE P "keeps_steps" 334 (.ref 110),kE P "led" 340 (.ref 115),kE P "parting" 356 (.ref 122),kE P "_law_flow" 365 (.ref 129),kE P "_law_pick" 375 (.ref 136),kE P "_law_shuffled" 385 (.ref 143),kE P "_law_nim_table" 391 (.ref 148),kE P "_law_blown" 397 (.ref 153),kE P "_law_renumbered" 403 (.ref 158),kE P "_law_counted" 412 (.ref 165),kE P "_law_any_table" 418 (.ref 170),kE P "_law_long_table" 424 (.ref 175),kE P "_law_table" 430 (.ref 180),kE P "_law_great_sum" 441 (.ref 187),kE P "_law_losing_behind" 450 (.ref 194),kE P "_law_is_parted" 460 (.ref 201),kE P "_law_things_right" 472 (.ref 208),kE P "_law_sums_right" 478 (.ref 213),kE P "law" 484 (.ref 218)] 42}
noncomputable def kT (vs:List jp)(n:Nat):Obj:={cls:=.type "tuple",data:=.seq vs.toArray n}
noncomputable def kK (P:Params):J5:=(3,kD P)::[(29,kT [.none] 0)]++[kP "places_of" 20 1 m4 189 2 1 196 1,kP "one_more" 27 3 m5 201 8 2 206 1,kP "first_sums" 35 4 m5 209 10 4 222 1 (.ref 29),kP "first_things" 42 5 m5 225 23 1 230 1,kP "row_of" 47 7 m2 235 26 4 238 0,kP "numbered" 52 8 m2 241 28 4 244 0,kP "gone_by" 59 10 m6 249 34 4 258 1,kP "thing_of" 66 11 m6 261 43 2 269 1,kP "carried" 73 12 m6 272 48 3 283 1,kP "put_to" 80 13 m6 286 58 2 291 1,kP "put" 87 14 m6 294 60 3 300 1,kP "losing_beside" 92 16 m1 305 63 2 308 0,kP "first_alike" 97 17 m1 311 66 1 314 0,kP "least" 104 18 m1 317 69 1 324 1,kP "keeps_steps" 109 20 m0 329 74 3 332 0,kP "led" 114 21 m0 335 79 2 338 0,kP "parting" 121 23 m3 343 88 3 354 1,kP "_law_flow" 128 25 m7 359 97 1 363 1,kP "_law_pick" 135 26 m7 366 99 2 373 1,kP "_law_shuffled" 142 27 m7 376 114 2 383 1,kP "_law_nim_table" 147 28 m7 386 120 2 389 0,kP "_law_blown" 152 29 m7 392 134 2 395 0,kP "_law_renumbered" 157 30 m7 398 150 2 401 0,kP "_law_counted" 164 31 m7 404 154 3 410 1,kP "_law_any_table" 169 32 m7 413 158 2 416 0,kP "_law_long_table" 174 33 m7 419 175 1 422 0,kP "_law_table" 179 34 m7 425 190 1 428 0,kP "_law_great_sum" 186 35 m7 431 205 2 439 1,kP "_law_losing_behind" 193 36 m7 442 211 3 448 1,kP "_law_is_parted" 200 37 m7 451 213 4 458 1,kP "_law_things_right" 207 38 m7 461 215 5 470 1,kP "_law_sums_right" 212 39 m7 473 220 4 476 0,kP "law" 217 40 m7 479 232 1 482 0].flatten
noncomputable def kA:List ww:=[3,29,20,21,27,28,35,36,42,43,47,48,52,53,59,60,66,67,73,74,80,81,87,88,92,93,97,98,104,105,109,110,114,115,121,122,128,129,135,136,142,143,147,148,152,153,157,158,164,165,169,170,174,175,179,180,186,187,193,194,200,201,207,208,212,213,217,218]
theorem tF{h:Heap}(X:K.In h)(G:h.Ns mainGlobals mg)(m:Str×Nat)(c:Nat)(a:PySem.W.nsIn K mainGlobals x=some (some (.ref (c+1))):=by kernel_rfl)(l:K.lookup (c+1)=some (kF x i m c):=by kernel_rfl)(e:PySem.W.codeIn K (.ref c) x=true:=by kernel_rfl):dJ K mg x i (c+1) (PySem.W.fnOf x x (cE (top i)) (bG (top i)) (aq (top i)) .none .none .none (.str m.1 m.2) none (.ref c) .none):=
 ⟨PySem.W.mg_of X G a,P_ (st:=top i) l e (by unfold PySem.W.keepIn;dsimp only;rw[l];rfl)⟩
theorem kn{h:Heap}(X:K.In h)(G:h.Ns mainGlobals mg)(e:PySem.W.nsIn K mainGlobals x=some none:=by kernel_rfl):mg x=none:=PySem.W.mg_none_of X G e
theorem tC{h:Heap}{d:jp}(X:K.In h)(G:h.Ns mainGlobals mg)(m:Str×Nat)(c:Nat)(a:PySem.W.nsIn K mainGlobals x=some (some (.ref (c+1))):=by kernel_rfl)(l:K.lookup (c+1)=some (kF x i m c d):=by kernel_rfl)(e:PySem.W.codeIn K (.ref c) x=true:=by kernel_rfl):TopC K mg x i d c (c+1) (PySem.W.fnOf x x (cE (top i)) (bG (top i)) (aq (top i)) d .none .none (.str m.1 m.2) none (.ref c) .none):=
 ⟨PySem.W.mg_of X G a,KW (st:=top i) l e (by unfold PySem.W.keepIn;dsimp only;rw[l];rfl)⟩
noncomputable def Wg (P:Params):J5:=[(38,PySem.W.tabObj #[]),(100,PySem.W.tabObj #[])]++kK P
noncomputable def ZE:List ww:=[38,100]++kA
theorem cH{h:Heap}(X:K.In h)(c P:ww)(o:Obj)(vs:Array jp)(file:Str)(tf:Nat)(flags:Int)(tg:Nat)(U0:Bool)(text:Int)(tt:Nat)(l:K.lookup c=some o)(e1:o.cls=.type "code")(e2:o.data=.fields vs)(e3:vs[11]?=some (.ref P))(e4:vs.getD 11 .none=.ref P)(e5:vs.getD 18 .none=.str file tf)(e6:vs.getD 7 .none=.int flags tg)(e7:vs.getD 9 .none=.bool U0)(e8:vs.getD 10 .none=.int text tt)(e9:c≠P):PySem.W.CodeHd h c P:=⟨o,vs,file,tf,flags,tg,U0,text,tt,X _ _ l,e1,e2,e3,e4,e5,e6,e7,e8,e9⟩
theorem k0{P:Params}{h:Heap}(X:(Wg P).In h):(kK P).In h/\∀q∈([(42,38),(104,100)]:List (ww×ww)),h.get? q.2=some (PySem.W.tabObj #[])/\(kK P).lookup q.2=none/\PySem.W.CodeHd h q.1 q.2:=by
 have n0:(kK P).lookup 38=none:=by kernel_rfl
 have n1:(kK P).lookup 100=none:=by kernel_rfl
 have Y:(kK P).In h:=λ b o e=>by
  refine X b o ?_;unfold Wg;by_cases z0:b=38
  ·rw[z0,n0]at e;cases e
  by_cases z1:b=100
  ·rw[z1,n1]at e;cases e
  simp only[cons_append,nil_append,w6,beq_false_of_ne z0,beq_false_of_ne z1];exact e
 refine⟨Y,λ q hq=>?_⟩;simp only[C4,not_mem_nil,or_false]at hq;rcases hq with rfl|rfl
 ·exact⟨X _ _ (by kernel_rfl),n0,cH Y 42 38 (kO "first_things" 225 23 1 37 41 230 (.ref 39) (.ref 40)) _ _ _ _ _ _ _ _ (by kernel_rfl) rfl rfl rfl rfl rfl rfl rfl rfl (by decide)⟩
 ·exact⟨X _ _ (by kernel_rfl),n1,cH Y 104 100 (kO "least" 317 69 1 99 103 324 (.ref 101) (.ref 102)) _ _ _ _ _ _ _ _ (by kernel_rfl) rfl rfl rfl rfl rfl rfl rfl rfl (by decide)⟩
def pg:Program:={PySem.Challenge.pw_lastloser_k33_whole_led_onto_the_least with main:={PySem.Challenge.pw_lastloser_k33_whole_led_onto_the_least.main with body:=[top 0,top 1,top 2,top 3,top 4,top 5,top 6,top 7,top 8,top 9,top 10,top 11,top 12,top 13,top 14,top 15,top 16,top 17,top 18,top 19,top 20,top 21,top 22,top 23,top 24,top 25,top 26,top 27,top 28,top 29,top 30,top 31,top 32,top 33,top 34,top 35,top 36,top 37,top 38,top 39,top 40]}}
def lw:PySem.W.OpenLaw:={PySem.Challenge.rw_lastloser_k33_whole_led_onto_the_least with prog:=pg}
end KK
set_option maxRecDepth 100000 in
set_option maxHeartbeats 0 in
theorem KK.pre:KK.lw.Holds:=by
 w_on;o_law;o_head (PySem.W.kHook KK.Wg KK.ZE (λ _=>by kernel_rfl));(case hw=>w_witness2)
 refine KK.walk (l:=KK.lw) rfl rfl (K:=KK.kK) (λ w h Y=>KK.k0 (PySem.W.kIn_of Y)) ?F
 case F=>
  intro w mg fa h KX G S3;have hm:mg "law"=some (.ref fa):=S3;have e:=hm.symm.trans (PySem.W.mg_of KX G (v:=.ref (217+1)) (by kernel_rfl));cases e;exact KK.all_mk ⟨KK.kn KX G,KK.kn KX G,KK.kn KX G,KK.kn KX G,KK.kn KX G,KK.kn KX G,KK.kn KX G,KK.kn KX G,KK.kn KX G,KK.kn KX G,KK.kn KX G,KK.kn KX G⟩ (KK.tF KX G KK.m4 20) (KK.tF KX G KK.m5 27) (KK.tC KX G KK.m5 35) (by kernel_rfl) (KK.tC KX G KK.m5 42) (KK.tF KX G KK.m2 47) (KK.tF KX G KK.m2 52) (KK.tF KX G KK.m6 59) (KK.tF KX G KK.m6 66) (KK.tF KX G KK.m6 73) (KK.tF KX G KK.m6 80) (KK.tF KX G KK.m6 87) (KK.tF KX G KK.m1 92) (KK.tF KX G KK.m1 97) (KK.tC KX G KK.m1 104) (KK.tF KX G KK.m0 109) (KK.tF KX G KK.m0 114) (KK.tF KX G KK.m3 121) (KK.tF KX G KK.m7 128) (KK.tF KX G KK.m7 135) (KK.tF KX G KK.m7 142) (KK.tF KX G KK.m7 147) (KK.tF KX G KK.m7 152) (KK.tF KX G KK.m7 157) (KK.tF KX G KK.m7 164) (KK.tF KX G KK.m7 169) (KK.tF KX G KK.m7 174) (KK.tF KX G KK.m7 179) (KK.tF KX G KK.m7 186) (KK.tF KX G KK.m7 193) (KK.tF KX G KK.m7 200) (KK.tF KX G KK.m7 207) (KK.tF KX G KK.m7 212) (KK.tF KX G KK.m7 217)
theorem PySem.Challenge.cw_lastloser_k33_whole_led_onto_the_least_holds : PySem.Challenge.rw_lastloser_k33_whole_led_onto_the_least.Holds :=
 KK.pre
