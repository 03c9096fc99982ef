import PyProof.Rows.All
import Wide.All
import OpenK.AllK
import Wide.FinOn
import Lean
import PyProof.EqAt
import PyProof.EqKinds
import PyProof.TupleCall
import PyProof.StrWalks
import PyProof.ConsumeWalk
import PyProof.TupleKey
import PyProof.DictFindH
import PyProof.P3Eq
import PyProof.DictRoadsH
import PyProof.Rows.TupTab
import KE.KLam
import KE.KSortTup
import PyProof.ZipIter
import PyProof.Draws
import PyProof.WalksMore
import PyProof.ListMulRoad
import PyProof.AutoListH
import PyProof.FactsAll.tuple_2
import PyProof.FactsAll.tuple
import PyProof.TupleIter
import PyProof.AttrMissHeap
import PyProof.DictIter
import PyProof.DictWalks
import KE.KDictSum
import KE.KDictOf
import PyProof.EnumMake
import KE.BitLaws
import PyProof.RaisesMany
import PyProof.ExcInit
import PyProof.ExcClass3
import PyProof.ExcArgsOwn
import PyProof.RulesTry
import PyProof.RulesAs
import PyProof.NsDelKeeps
import KE.KIsAll
import PyProof.Rows.SortWalk
import PyProof.Rows.Range3
import PyProof.ListRange
import PySem.Challenge.RW_lastloser_k32_tables_led
set_option tactic.hygienic false
local macro_rules|`(tactic|obtain $p:rcasesPatMed:=$t:term)=>`(tactic|first|(refine Classical.byContradiction fun k=>?_;rcases $t:term with $p:rcasesPatMed<;>(refine k ?_;clear k))|rcases $t:term with $p:rcasesPatMed)
set_option Elab.async false
set_option linter.all false
set_option maxRecDepth 100000
set_option maxHeartbeats 4000000
open List
abbrev jp:=PySem.Value
abbrev kt:=PySem.Shared
abbrev ww:=PySem.Addr
def a0:=@eq_nil_of_length_eq_zero
def a7:=@PyProof.Rows.callWith_type1
def a8:=@PySem.F.slot_tuple_iterator_next
def a9:=@getElem?_append_right
def c7:=@getD_eq_getElem?_getD
def c8:=@getElem?_append_left
def c9:=@Array.getElem?_eq_getElem
def g9:=@drop_eq_getElem_cons
def i3:=@List.getElem?_eq_some_iff
def i4:=@List.getElem?_eq_none_iff
def i5:=@PySem.F.slot_list_append
def i6:=@getElem?_eq_getElem
def i7:=@PySem.F.type_list_append
def i8:=@PySem.F.plainAttrs_list
def i9:=@getElem?_replicate
def j0:=@PySem.wpAny_callSpecial?_slot
def j1:=@length_eq_zero_iff
def j2:=@Array.getElem?_eq_none
def j3:=@PySem.Heap.get?_push_of_some
def j4:=@PySem.Heap.get?_update_other
def j5:=@getElem?_set_self
def j6:=@PySem.Heap.get?_update_self
def j7:=@mem_append_right
def j8:=@length_singleton
def j9:=@Array.getElem?_toList
def k4:=@length_replicate
def k5:=@getElem?_eq_none
def k7:=@mem_cons_of_mem
def k8:=@mem_of_getElem?
def k9:=@mem_append_left
def l0:=@PySem.Around.under_plainId
def l5:=@getElem?_set_ne
def l6:=@PySem.Heap.SameBut.update
def l7:=@getElem?_range
def l8:=@PySem.mem_of_lookup
def l9:=@replicate_succ
def m6:=@Array.length_toList
def m7:=@PySem.Heap.get?_push_size
def m8:=@PySem.F.plain_extend_loop
def m9:=@map_congr_left
def n5:=@filterMap_cons
def n6:=@mem_cons_self
def n9:=@Bool.false_ne_true
def o6:=@length_append
def o7:=@Bool.false_eq_true
def o8:=@Int.emod_lt_of_pos
def p5:=@PySem.wpAny_setField_rec
def p6:=@Nat.lt_of_le_of_lt
def p7:=@Nat.lt_of_lt_of_le
def p8:=@mem_singleton
def p9:=@PySem.wpAny_Call_Name_kw
def q8:=@of_decide_eq_false
def q9:=@Int.lt_of_le_of_lt
def s9:=@PySem.tupleKind_room_in1
def u6:=@Array.forIn_toList
def u7:=@getElem?_map
def u9:=@decide_eq_true_eq
def w6:=@Int.toNat_natCast
def w9:=@PySem.wpAny_newObj_type
def x3:=@flatten_cons
def x4:=@append_assoc
def x5:=@PySem.wpAny_truthy_bool
def x6:=@PySem.wpAny_pyIter_list
def x8:=@length_range
def x9:=@Option.isSome_map
def y0:=@List.size_toArray
def y3:=@ext_getElem?
def y4:=@Nat.lt_succ_of_lt
def y6:=@lookup_cons
def y7:=@Nat.le_of_not_lt
def y8:=@length_cons
def y9:=@Nat.lt_of_not_le
def z9:=@take_length
def A0:=@PySem.wpAny_call_entry
def A1:=@Bool.and_eq_true
def A2:=@length_take
def A3:=@getElem_mem
def A4:=@Nat.le_add_right
def A5:=@PySem.Heap.size_update
def A6:=@PySem.wpAny_isInstance
def A7:=@cons_append
def A8:=@List.all_eq_true
def A9:=@Bool.eq_iff_iff
def B0:=@append_nil
def B1:=@nil_append
def B2:=@find?_cons
def B3:=@decide_eq_false
def B4:=@PySem.wpAny_loadPart'
def B5:=@Int.emod_nonneg
def B6:=@Option.some.inj
def B7:=@PySem.PassesOwn.never
def B8:=@PySem.wpAny_passesOwn
def B9:=@PySem.codeAny_builtin
def C0:=@PySem.W.kia_one
def C1:=@length_map
def C2:=@mem_append
def C3:=@map_append
def C4:=@Nat.le_antisymm
def C5:=@PySem.wpAny_updateSeq
def C6:=@PySem.wpAny_specialOf
def C7:=@forIn_cons
def C8:=@decide_eq_true
def C9:=@PySem.wpAny_seqItems
def D1:=@PySem.Heap.size_push
def D3:=@PySem.wpAny_setField
def D4:=@PySem.wpAny_holding
def G0:=@PySem.wpAny_attempt
def G1:=@PySem.Paired.length
def G3:=@Nat.lt_irrefl
def G4:=@map_cons
def G5:=@mem_cons
def G6:=@PySem.plainId_quiet
def G7:=@Int.zero_add
def G8:=@Nat.ne_of_lt
def G9:=@PySem.Heap.lt_size
def H0:=@mem_map
def H9:=@List.map_map
def J0:=@Nat.le_trans
def J1:=@Nat.zero_add
def J3:=@Nat.le_of_eq
def J4:=@PySem.codeAny_mono
def J5:=@Nat.ne_of_gt
def J6:=@Nat.le_of_lt
def J7:=@Nat.le_refl
def J8:=@PySem.sizeLine_eq
def J9:=@Nat.zero_le
def K0:=@PySem.wpAny_field
def K1:=@PySem.wpAny_bind
def K2:=@PySem.wpAny_pure
def K3:=@PySem.wpAny_rule
def K4:=@PySem.call_meets
def K5:=@PySem.wpAny_mono
def K6:=@if_false
def K7:=@congrArg
def K8:=@Ne.symm
def K9:=@if_pos
def L1:=@if_neg
abbrev L6:=PySem.W.Frag
open PySem
variable {E Q:jp->kt->Prop}{xz:List (ww×Obj)}{mg mA:Str->Option jp}{K:L6}{s:kt}{w:World}{A:Around}{P prog:Program}{fd:FuncData}{a f p q:ww}{i k n m j t' mask ep:Nat}{α:Type}{x qual name:Str}{es ifs rest:List Expr}{base h':Heap}{u dV:jp}{us vs ay:List jp}{e tg c e1 iter:Expr}{ps tgs:List Str}{b:Bool}{t:SetTable}{scope:Scope}{cn:List (Str×Nat)}{fr:List Nat}{owner:Array (Option Nat)}{kindOf:Str->Option NameKind}{T:String}{kv cs:List (Nat×Nat)}{ns:List Int}{st:Stmt}{S:Heap->ww->Array jp->Prop}{body:List Stmt}{cells cl:List (Str×ww)}{fp ch:List ww}{XP:(Str->Option jp)->Heap->Prop}{J:List jp->Nat->kt->Prop}{o:Obj}{lo:Int}{l:PySem.W.OpenLaw}{C:Int->Int->Prop}{p2 apos bY pos' cp:Pos}{wJ:Array (Option jp)}{κ:SortKind}{tabs:List (ww×ww)}{YP:World->Heap->Prop}
namespace L2
open PySem.Spec PyProof.Rows
abbrev Key:=Sum Int Str
def oq:Key->jp->Bool
 | .inl k,v=>Value.isInt k v
 | .inr x,v=>Value.isStrOf x v
def U3(w:World):Key->Int
 | .inl k=>hashInt k
 | .inr x=>hashStr w x
theorem bP:∀{k:Key} {v:jp},oq k v=true->(∃i t,k=Sum.inl i/\v=Value.int i t)\/(∃x t,k=Sum.inr x/\v=Value.str x t)
 | .inl i,v,h=>by obtain⟨t,e⟩:=Value.isInt_shape (k:=i) (v:=v) h;exact .inl ⟨i,t,rfl,e⟩
 | .inr x,v,h=>by obtain⟨t,e⟩:=Value.isStrOf_shape (x:=x) (v:=v) h;exact .inr ⟨x,t,rfl,e⟩
theorem Bc(i:Int)(t:Tok):oq (.inl i) (.int i t)=true:=by simp[oq,Value.isInt]
theorem Bb(x:Str)(t:Tok):oq (.inr x) (.str x t)=true:=by simp[oq,Value.isStrOf]
theorem Oe(a b:Int):decide ((Sum.inl a:Key)=Sum.inl b)=(a==b):=by
 by_cases e:a=b
 ·subst e;simp
 ·have h:¬(Sum.inl a:Key)=Sum.inl b:=λ q=>e (Sum.inl.inj q);rw[B3 h];exact(beq_eq_false_iff_ne.mpr e).symm
theorem Oa(a b:Str):decide ((Sum.inr a:Key)=Sum.inr b)=decide (a=b):=by
 by_cases e:a=b
 ·subst e;simp
 ·have h:¬(Sum.inr a:Key)=Sum.inr b:=λ q=>e (Sum.inr.inj q);rw[B3 h,B3 e]
theorem Od(a:Int)(b:Str):decide ((Sum.inl a:Key)=Sum.inr b)=false:=B3 (λ q=>nomatch q)
theorem Ob(a:Str)(b:Int):decide ((Sum.inr a:Key)=Sum.inl b)=false:=B3 (λ q=>nomatch q)
def cX(prog:Program)(w:World):PySem.KeyKind prog w Key where
 is:=oq
 hash:=U3 w
 inj:=λ v a b ha hb=>by
  rcases bP ha with⟨i,t,rfl,rfl⟩|⟨x,t,rfl,rfl⟩
  ·rcases bP hb with⟨j,u,rfl,e⟩|⟨y,u,rfl,e⟩
   ·injection e with e1 _;rw[e1]
   ·exact nomatch e
  ·rcases bP hb with⟨j,u,rfl,e⟩|⟨y,u,rfl,e⟩
   ·exact nomatch e
   ·injection e with e1 _;rw[e1]
 byValue:=λ k v h=>by rcases bP h with⟨i,t,rfl,rfl⟩|⟨x,t,rfl,rfl⟩ <;> rfl
 pyHash:=λ hv h=>by
  rcases bP hv with⟨i,t,rfl,rfl⟩|⟨x,t,rfl,rfl⟩
  ·exact wpAny_pyHash_int h
  ·exact wpAny_pyHash_str h
 eqBool:=λ hu hv h=>by
  rcases bP hu with⟨i,t,rfl,rfl⟩|⟨x,t,rfl,rfl⟩
  ·rcases bP hv with⟨j,u,rfl,rfl⟩|⟨y,u,rfl,rfl⟩
   ·rw[Oe]at h;exact wpAny_eqBool_int h
   ·rw[Od]at h;exact SeqAt.EqAt.int_str i t y u _ _ _ _ h
  ·rcases bP hv with⟨j,u,rfl,rfl⟩|⟨y,u,rfl,rfl⟩
   ·rw[Ob]at h;exact SeqAt.EqAt.str_int x t j u _ _ _ _ h
   ·rw[Oa]at h;exact wpAny_eqBool_str h
 «strs»:=λ k x t v h=>by
  rcases bP h with⟨i,u,rfl,e⟩|⟨y,u,rfl,e⟩
  ·exact nomatch e
  ·injection e with e1 _
   subst e1;cases v <;> rfl
theorem uH(prog:Program)(w:World)(i:Int)(t:Tok):(cX prog w).is (.inl i) (.int i t)=true:=Bc i t
theorem uG(prog:Program)(w:World)(x:Str)(t:Tok):(cX prog w).is (.inr x) (.str x t)=true:=Bb x t
inductive V where
 |bw|bl (b:Bool)|int (i:Int)|str (x:Str)|FL (b:Array UInt8)|PN (b:UInt64)|ref (a:ww)|ty (n:String)
 deriving DecidableEq
def bv:V->jp->Prop
 | .bw,u=>u=Value.none
 | .bl b,u=>u=Value.bool b
 | .int i,u=>∃t,u=Value.int i t
 | .str x,u=>∃t,u=Value.str x t
 | .FL b,u=>∃t,u=Value.bytes b t
 | .PN b,u=>∃t,u=Value.float b t
 | .ref a,u=>u=Value.ref a
 | .ty n,u=>u=Value.type n
abbrev ce:List V->List jp->Prop:=Paired bv
theorem ce.length{xs:List V}(r:ce xs us):xs.length=us.length:=G1 r
theorem ce.get:∀{xs:List V} {us:List jp} {i:Nat} {x:V},ce xs us->xs[i]?=some x->∃u,us[i]?=some u/\bv x u
 |_,_,_,_,.nil,e=>by simp at e
 |_,_,0,_,.cons r _,e=>by simp at e;subst e;exact⟨_,rfl,r⟩
 |_,_,i+1,x,.cons _ t,e=>by obtain⟨u,h1,h2⟩:=ce.get (i:=i) (x:=x) t (by simpa using e);exact⟨u,by simpa using h1,h2⟩
theorem ce.set{x:V}(r:bv x u):∀{xs:List V} {us:List jp} (i:Nat),ce xs us->ce (xs.set i x) (us.set i u)
 |_,_,_,.nil=>.nil
 |_,_,0,.cons _ t=>.cons r t
 |_,_,i+1,.cons q t=>.cons q (ce.set r i t)
theorem ce.append:∀{xs ys:List V} {us ws:List jp},ce xs us->ce ys ws->ce (xs++ys) (us++ws)
 |_,_,_,_,.nil,s=>s
 |_,_,_,_,.cons r t,s=>.cons r (ce.append t s)
theorem ce.none_of:∀{xs:List V} {us:List jp} {i:Nat},ce xs us->xs[i]?=none->us[i]?=none:=λ{xs us i} r e=>by have h1:=r.length;have h2:xs.length<=i:=i4.mp e;exact i4.mpr (by lia)
def km:Option V->Option jp->Prop
 |some v,some u=>bv v u
 |none,none=>True
 |_,_=>False
def KV{κ:Type}:List (κ×V)->List (κ×jp)->Prop:=Paired λ(p:κ×V) (q:κ×jp)=>p.1=q.1/\bv p.2 q.2
def kV:Key->V
 | .inl i=>.int i
 | .inr x=>.str x
inductive HO where
  |lst (xs:List V)
  |tup (xs:List V)
  |dK (kvs:List (Key×V))|dT (kvs:List (List Key×V))
  |set (S:Int->Bool) (n:Nat)
  |ins (C dx:ww) (fs:List (Str×V))
  |own (x:ww)
  |xd (fs:List (Str×V))
  |met (f x:ww)
  |wz (lo hi:Int)
  |eD (o:Obj) (u:HO)
  |pe (ps:Array jp)
  |ext (φ:Heap->Prop)
abbrev Hp:=ww->Option HO
def ci(H:Hp)(a:ww)(o:HO):Hp:=λ b=>if b=a then some o else H b
theorem aR{H:Hp}{o:HO}:ci H a o a=some o:=by unfold ci;rw[K9 rfl]
theorem aN{H:Hp}{b:ww}{o:HO}(h:b≠a):ci H a o b=H b:=by unfold ci;rw[L1 h]
theorem a_{H:Hp}{b:ww}{o u:HO}(h:H a=some o)(h':H b=some u)(d:o≠u):a≠b:=by intro e;subst e;rw[h]at h';exact d (B6 h')
theorem bN{H:Hp}{b:ww}{o:HO}(h:H a=some o)(h':H b=none):a≠b:=by intro e;subst e;rw[h]at h';cases h'
section
variable (P:Program)(w:World)
def bA(H:Hp)(h:Heap)(a:ww):HO->Prop
 | .lst xs=>xs.length<=sizeLine/\∃(ay:List jp) (n:Nat),ce xs ay/\h.get? a=some {cls:=.type "list",data:=.seq ay.toArray n}
 | .tup xs=>xs.length<=sizeLine/\∃ay:List jp,ce xs ay/\IsTup h a ay.toArray
 | .dK kvs=>kvs.length<=sizeLine/\(a==sysModules)=false/\∃vs,KV kvs vs/\h.DictOf (cX P w) a vs
 | .dT kvs=>kvs.length<=sizeLine/\(a==sysModules)=false/\∃xs:List (List Key×ww×jp),
   Paired (λ(p:List Key×V) (q:List Key×ww×jp)=>p.1=q.1/\H q.2.1=some (.tup (p.1.map kV))/\bv p.2 q.2.2) kvs xs/\
   ∃o es ep,h.get? a=some o/\o.ExactDict/\o.data=.dict es ep/\es.toList=xs.map (entryOfKey (tupleKind (cX P w)))/\(xs.map (·.1)).Nodup
 | .set S n=>h.SetOf (intKind P w) a S n
 | .ins C dx fs=>H dx=some (.own a)/\fs.length<=1000/\dx≠a/\h.get? a=some (PySem.W.instObj C dx)/\
   ∃mA,h.Ns1 dx mA/\(∀f,km (fs.lookup f) (mA f))/\PySem.Within mA (fs.map (·.1))
 | .own _=>∃o,h.get? a=some o
 | .xd fs=>∃mA,h.Ns1 a mA/\∀f,km (fs.lookup f) (mA f)
 | .wz lo hi=>∃t u v,h.get? a=some {cls:=.type "range",data:=.fields #[.int lo t,.int hi u,.int 1 v]}
 | .eD o u=>h.get? a=some o/\bA H h a u
 | .pe ps=>h.get? a=some {cls:=.none,data:=.fields ps}
 | .met f x=>h.get? a=some (PySem.W.methodObj (.ref f) (.ref x))
 | .ext φ=>φ h/\(∃o,h.get? a=some o)/\∀h1 h2:Heap,φ h1->(∀o,h1.get? a=some o->h2.get? a=some o)->φ h2
def jv(H:Hp)(h:Heap):Prop:=∀a o,H a=some o->bA P w H h a o
end
section
variable {H H':Hp}{h:Heap}{o:HO}
theorem bA.lt(x:bA P w H h a o):a < h.objs.size:=by
 cases o with
 |lst xs=>obtain⟨_,_,_,_,e⟩:=x;exact G9 e
 |tup xs=>obtain⟨_,_,_,p⟩:=x;exact p.lt
 |dK kvs=>obtain⟨_,_,_,_,o,_,_,e,_⟩:=x;exact G9 e
 |dT kvs=>obtain⟨_,_,_,_,o,_,_,e,_⟩:=x;exact G9 e
 |set S n=>obtain⟨o,_,_,_,e,_⟩:=x;exact G9 e
 |ins C dx fs=>obtain⟨_,_,_,e,_⟩:=x;exact G9 e
 |own y=>obtain⟨_,e⟩:=x;exact G9 e
 |xd fs=>obtain⟨_,⟨_,_,_,e,_⟩,_⟩:=x;exact G9 e
 |wz lo hi=>obtain⟨_,_,_,e⟩:=x;exact G9 e
 |eD ob u=>obtain⟨e,_⟩:=x;exact G9 e
 |pe ps=>exact G9 (show h.get? a=some _ from x)
 |met f y=>exact G9 (show h.get? a=some _ from x)
 |ext φ=>obtain⟨_,⟨_,e⟩,_⟩:=x;exact G9 e
theorem Paired.wQ{β:Type}{F G:α->β->Prop}:∀{l₁:List α} {l₂:List β},Paired F l₁ l₂->(∀a b,F a b->G a b)->Paired G l₁ l₂
 |_,_,.nil,_=>.nil
 |_,_,.cons r t,f=>.cons (f _ _ r) (Paired.wQ t f)
theorem bA.nA(x:bA P w H h a o)(k:∀b u,(b=a\/H b=some (.own a))->h.get? b=some u->h'.get? b=some u) (ho:∀b,H b=some (.own a)->H' b=some (.own a)) (ht:∀b xs,H b=some (.tup xs)->H' b=some (.tup xs)):bA P w H' h' a o:=by
 induction o with
 |lst xs=>obtain⟨z,ay,n,r,e⟩:=x;exact⟨z,ay,n,r,k _ _ (.inl rfl) e⟩
 |tup xs=>obtain⟨z,ay,r,ob,e,c⟩:=x;exact⟨z,ay,r,ob,k _ _ (.inl rfl) e,c⟩
 |dK kvs=>obtain⟨z,y,vs,r,ob,es,ep,e,c⟩:=x;exact⟨z,y,vs,r,ob,es,ep,k _ _ (.inl rfl) e,c⟩
 |dT kvs=>obtain⟨z,y,xs,r,ob,es,ep,e,c⟩:=x;exact⟨z,y,xs,Paired.wQ r λ p q z=>⟨z.1,ht _ _ z.2.1,z.2.2⟩,ob,es,ep,k _ _ (.inl rfl) e,c⟩
 |set S n=>obtain⟨ob,es,ep,t,e,c⟩:=x;exact⟨ob,es,ep,t,k _ _ (.inl rfl) e,c⟩
 |ins C dx fs=>obtain⟨d,z,ne,e,mA,⟨od,es,ep,e2,c⟩,r⟩:=x;exact⟨ho _ d,z,ne,k _ _ (.inl rfl) e,mA,⟨od,es,ep,k _ _ (.inr d) e2,c⟩,r⟩
 |own y=>obtain⟨ob,e⟩:=x;exact⟨ob,k _ _ (.inl rfl) e⟩
 |xd fs=>obtain⟨mA,⟨od,es,ep,e,c⟩,r⟩:=x;exact⟨mA,⟨od,es,ep,k _ _ (.inl rfl) e,c⟩,r⟩
 |wz lo hi=>obtain⟨t,u,v,e⟩:=x;exact⟨t,u,v,k _ _ (.inl rfl) e⟩
 |eD ob u ih=>obtain⟨e,q⟩:=x;exact⟨k _ _ (.inl rfl) e,ih q⟩
 |pe ps=>have e:h.get? a=some {cls:=.none,data:=.fields ps}:=x;show h'.get? a=some {cls:=.none,data:=.fields ps};exact k a _ (.inl rfl) e
 |met f y=>have e:h.get? a=some (PySem.W.methodObj (.ref f) (.ref y)):=x;show h'.get? a=some (PySem.W.methodObj (.ref f) (.ref y));exact k a _ (.inl rfl) e
 |ext φ=>obtain⟨p,⟨o,e⟩,st⟩:=x;exact⟨st _ _ p λ o q=>k _ _ (.inl rfl) q,⟨o,k _ _ (.inl rfl) e⟩,st⟩
theorem jv.lt(x:jv P w H h)(e:H a=some o):a < h.objs.size:=(x a o e).lt
theorem jv.fresh(x:jv P w H h)(e:h.objs.size<=a):H a=none:=by
 cases q:H a with
 |none=>rfl
 |some u=>exact absurd (p7 (x.lt q) e) (G3 _)
theorem jv.kept(x:jv P w H h)(k:∀b u,h.get? b=some u->h'.get? b=some u):jv P w H h':=λ a o e=>
 (x a o e).nA (λ b u _ q=>k b u q) (λ _ q=>q) λ _ _ q=>q
theorem jv.laid(x:jv P w H h)(k:∀b u,h.get? b=some u->h'.get? b=some u)(hp:h.objs.size<=a)(new:bA P w (ci H a o) h' a o):jv P w (ci H a o) h':=λ b u e=>by
 have hn:=x.fresh hp;by_cases hb:b=a
 ·subst hb;rw[aR]at e;cases e;exact new
 ·rw[aN hb]at e;exact(x b u e).nA (λ c v _ q=>k c v q) (λ c q=>by rw[aN (bN q hn)];exact q) λ c xs q=>by rw[aN (bN q hn)];exact q
end
def Rd(H:Hp)(a:ww)(u:HO):Prop:=H a=some u\/∃o,H a=some (.eD o u)
theorem Rd.ok{H:Hp}{h:Heap}{u:HO}(r:Rd H a u)(x:jv P w H h):bA P w H h a u:=by
 rcases r with r|⟨o,r⟩
 ·exact x a u r
 ·obtain⟨_,q⟩:=x a _ r;exact q
def SF:Option HO->Prop
 |some (.lst _)=>True
 |some (.dK _)=>True
 |some (.dT _)=>True
 |some (.set _ _)=>True
 |some (.ins _ _ _)=>True
 |some (.ext _)=>True
 |_=>False
section
variable {H:Hp}{h:Heap}{x e:ww}{o':HO}
theorem jv.write(ok:jv P w H h)(mu:SF (H x))(he:e=x\/H e=some (.own x))(k:∀b u,b≠e->h.get? b=some u->h'.get? b=some u)(PL:∃u,h'.get? e=some u) (new:bA P w (ci H x o') h' x o'):jv P w (ci H x o') h':=λ b u q=>by
 have Rj:∀c y,H c=some (.own y)->c≠x:=λ c y r z=>by subst z;rw[r]at mu;exact mu
 have UP:∀c xs,H c=some (.tup xs)->c≠x:=λ c xs r z=>by subst z;rw[r]at mu;exact mu
 by_cases hb:b=x
 ·subst hb;rw[aR]at q;cases q;exact new
 ·rw[aN hb]at q;by_cases OL:b=e
  ·have q':H b=some (.own x):=by
    rcases he with z|z
    ·exact absurd (OL.trans z) hb
    ·rw[OL];exact z
   rw[q]at q';cases q';obtain⟨v,hv⟩:=PL;exact⟨v,by rw[OL];exact hv⟩
  ·refine(ok b u q).nA (λ c v hc r=>k c v ?_ r) (λ c r=>by rw[aN (Rj c b r)];exact r) λ c xs r=>by rw[aN (UP c xs r)];exact r
   rcases hc with rfl|hc
   ·exact OL
   ·rintro rfl;rcases he with z|z
    ·exact Rj c b hc z
    ·rw[hc]at z;cases z;exact hb rfl
end
structure Un(fs ex:List ww)(H H':Hp)(h h':Heap):Prop where
 keep:∀b o,h.get? b=some o->H b=none->b∉fs->b∉ex->h'.get? b=some o
 slot:∀b o,h.get? b=some o->H b=none->b∈fs->b∉ex->∃sl,h'.get? b=some {o with slots:=sl}
 free:∀b o,h.get? b=some o->H b=none->b∉ex->H' b=none
 there:∀b o,h.get? b=some o->b∉ex->∃o',h'.get? b=some o'
 ni:∀b xs,H b=some (.tup xs)->H' b=some (.tup xs)
 pW:∀b o u,H b=some (.eD o u)->H' b=some (.eD o u)
 pK:∀b ps,H b=some (.pe ps)->∃more,H' b=some (.pe (ps++more))
section
variable {fs Zp ex ex':List ww}{H H1 H2:Hp}{h h1 h2:Heap}{x e:ww}{o:HO}
theorem Un.any(u:Un fs ex H H1 h h1){b:ww}{ob:Obj}(q:h.get? b=some ob)(n:H b=none)(hx:b∉ex):∃sl,h1.get? b=some {ob with slots:=sl}:=by
 by_cases hb:b∈fs
 ·exact u.slot b ob q n hb hx
 ·exact⟨ob.slots,u.keep b ob q n hb hx⟩
theorem Un.kept(k:∀b u,h.get? b=some u->h'.get? b=some u):Un fs ex H H h h':=
 ⟨λ b ob q _ _ _=>k b ob q,λ b ob q _ _ _=>⟨ob.slots,k b ob q⟩,λ _ _ _ n _=>n,λ b ob q _=>⟨ob,k b ob q⟩,λ _ _ q=>q,λ _ _ _ q=>q,λ _ ps q=>⟨#[],by rw[q];simp⟩⟩
theorem Un.refl:Un fs ex H H h h:=Un.kept λ _ _ q=>q
theorem Un.laid(k:∀b u,h.get? b=some u->h'.get? b=some u)(hp:h.objs.size<=a)(hn:H a=none):Un fs ex H (ci H a o) h h' where
 keep:=λ b u q _ _ _=>k b u q
 slot:=λ b u q _ _ _=>⟨u.slots,k b u q⟩
 free:=λ b u q n _=>by rw[aN (G8 (p7 (G9 q) hp))];exact n
 there:=λ b u q _=>⟨u,k b u q⟩
 ni:=λ b xs q=>by rw[aN (bN q hn)];exact q
 pW:=λ b u xs q=>by rw[aN (bN q hn)];exact q
 pK:=λ b ps q=>⟨#[],by rw[aN (bN q hn),q];simp⟩
theorem Un.write(mu:SF (H x))(he:e=x\/H e=some (.own x))(k:∀b u,b≠e->h.get? b=some u->h'.get? b=some u)(PL:∃u,h'.get? e=some u):Un fs ex H (ci H x o) h h':=by
 have hx:∀b,H b=none->b≠x:=λ b n z=>by subst z;rw[n]at mu;exact mu
 have hb:∀b,H b=none->b≠e:=λ b n z=>by
  subst z;rcases he with r|r
  ·exact hx b n r
  ·rw[n]at r;cases r
 have hm:∀b u,H b=some u->¬SF (some u)->b≠x:=λ b u q nm z=>by subst z;rw[q]at mu;exact nm mu
 refine⟨λ b u q n _ _=>k b u (hb b n) q,λ b u q n _ _=>⟨u.slots,k b u (hb b n) q⟩,λ b u q n _=>by rw[aN (hx b n)];exact n,λ b u q _=>?_,
  λ b xs q=>by rw[aN (hm b _ q λ z=>z)];exact q,λ b u xs q=>by rw[aN (hm b _ q λ z=>z)];exact q,λ b ps q=>⟨#[],by rw[aN (hm b _ q λ z=>z),q];simp⟩⟩
 by_cases OL:b=e
 ·subst OL;exact PL
 ·exact⟨u,k b u OL q⟩
end
def SV(h:Heap)(H:Hp):List ww:=(List.range h.objs.size).filter λ a=>(H a).isSome
def pS(h:Heap)(H:Hp):Heap:=PySem.W.hideAll h (SV h H)
theorem Bp(h:Heap)(H:Hp):(pS h H).objs.size=h.objs.size:=PySem.W.hideAll_size _ _
theorem EW{h:Heap}{H:Hp}{b:ww}(e:h.get? b=some o)(n:H b=none):(pS h H).get? b=some o:=
 PySem.W.hideAll_get _ e λ hm=>by have q:(H b).isSome=true:=(mem_filter.mp hm).2;rw[n]at q;simp at q
theorem IV{h:Heap}{H:Hp}{b:ww}(e:(pS h H).get? b=some o):h.get? b=some o/\H b=none:=by
 have e':h.get? b=some o:=PySem.W.of_hideAll (SV h H) e;refine⟨e',?_⟩;cases q:H b with
 |none=>rfl
 |some x=>have hm:b∈SV h H:=mem_filter.mpr ⟨mem_range.mpr (G9 e'),by simp[q]⟩;have z:(pS h H).get? b=none:=PySem.W.hideAll_none (SV h H) hm;rw[z]at e;cases e
structure Mod(K:L6)(mg:Str->Option jp)(base:Heap):Prop where
 Tj:K.In base
 glob:base.Ns mainGlobals mg
 blt:∃mb,base.Ns builtinsNs mb/\∀x:Str,x≠"__name__"->mb x=bootBuiltins x
 nolimit:base.NoLimit
structure Cx where
 prog:Program
 w:World
 K:L6
 mg:Str->Option jp
 base:Heap
 A:Around
 N:List Str
 s₀:kt
 H₀:Hp
 env:Env
 outer:List Env
 stack:List Env
 ex:List ww
 fn:Str->Bool
 calm:Bool
 pn:List (ww×Obj)
 xe:jp->kt->Prop
def Bt(l:List Env):List ww:=l.filterMap (·.frame)
abbrev Cx.fs (X:Cx):List ww:=Bt X.outer
def TL(sc:Scope)(x:Str):Prop:=sc.names.lookup x=some .local\/sc.names.lookup x=some .cell\/sc.names.lookup x=some .free
def Loc(sc:Scope)(x:Str):Prop:=sc.names.lookup x=some .local\/sc.names.lookup x=some .cell
def Look(env:Env)(h:Heap)(m:Str->Option jp)(x:Str)(u:jp):Prop:=
 (env.kindOf x=some .local/\m x=some u)\/((env.kindOf x=some .cell\/env.kindOf x=some .free)/\∃c,env.cells.lookup x=some c/\h.IsCell c (some u))
structure Cx.Ok (X:Cx):Prop where
 mod:Mod X.K X.mg X.base
 kind:X.env.scope.kind=.function
 glob:X.env.globals=mainGlobals
 blt:X.env.builtins=builtinsNs
 above:X.s₀.heap.objs.size<=X.env.locals
 inj:∀x y c,X.env.cells.lookup x=some c->X.env.cells.lookup y=some c->x=y
 has:∀x,(X.env.kindOf x=some .cell\/X.env.kindOf x=some .free)->∃c,X.env.cells.lookup x=some c
 Su:∀x c,X.fn x=true->X.env.cells.lookup x=some c->X.s₀.heap.objs.size<=c
 hd:X.calm=true->X.A.handled=none
 frames:X.A.frames=some X.stack
 Ta:X.stack=X.outer\/(X.stack=X.env::X.outer/\X.env.frame=some X.env.locals)
 Xk:∀b∈X.ex,b≠X.env.locals/\∀x c,X.env.cells.lookup x=some c->c≠b
 bs:∀b o,X.base.get? b=some o->X.s₀.heap.get? b=some o/\X.H₀ b=none
 FO:X.base.objs.size<=X.s₀.heap.objs.size
 AU:∀b o,X.base.get? b=some o->b∉X.ex
 JL:∀b∈X.ex,b∉X.fs
 lr:X.s₀.heap.FunFrames X.base X.outer
 Ld:∀b∈X.fs,X.H₀ b=none
structure be(X:Cx)(xz:List (ww×Obj))(σ:List (Option V))(H:Hp)(s:kt):Prop where
 ok:X.Ok
 os:s.os=X.s₀.os
 bare:AllBare s.gens
 base:Un X.fs X.ex X.H₀ H X.s₀.heap s.heap
 loc:∃m,s.heap.Ns X.env.locals m/\∀(i:Nat) (x:Str) (v:V),X.N[i]?=some x->σ[i]?=some (some v)->TL X.env.scope x->∃u,bv v u/\Look X.env s.heap m x u
 cell:∀x c,X.env.cells.lookup x=some c->∃v,s.heap.IsCell c v
 free:H X.env.locals=none
 gh:∀x c,X.env.cells.lookup x=some c->H c=none
 pin:∀p∈X.pn++xz,s.heap.get? p.1=some p.2/\H p.1=none/\p.1≠X.env.locals/\p.1∉X.fs/\∀v,p.2.data≠.cell v
 bx:jv X.prog X.w H s.heap
 len:σ.length=X.N.length
section
variable {X:Cx}{σ:List (Option V)}{H H':Hp}
theorem Cx.Ok.US(ok:X.Ok){b:ww}(e:X.base.get? b=some o):b∉X.fs:=λ hb=>by have:=(ok.lr.mem hb).1;rw[e]at this;cases this
theorem be.bs(I:be X xz σ H s):∀b o,X.base.get? b=some o->s.heap.get? b=some o/\H b=none:=λ b o e=>
 ⟨I.base.keep b o (I.ok.bs b o e).1 (I.ok.bs b o e).2 (I.ok.US e) (I.ok.AU b o e),I.base.free b o (I.ok.bs b o e).1 (I.ok.bs b o e).2 (I.ok.AU b o e)⟩
theorem be.bk(I:be X xz σ H s):∀b o,X.base.get? b=some o->s.heap.get? b=some o:=λ b o e=>(I.bs b o e).1
theorem be.mod(I:be X xz σ H s):Mod X.K X.mg X.base:=I.ok.mod
theorem be.sE(I:be X xz σ H s):X.K.In s.heap:=I.ok.mod.Tj.keeps I.bk
theorem be.lt(I:be X xz σ H s):X.env.locals < s.heap.objs.size:=let⟨_,hn,_⟩:=I.loc;hn.lt
theorem be.sz(I:be X xz σ H s):X.s₀.heap.objs.size<=s.heap.objs.size:=J0 I.ok.above (J6 I.lt)
theorem be.UR(I:be X xz σ H s)(h:s.heap.objs.size<=a):a∉X.fs:=λ hb=>by obtain⟨_,o,ho,_⟩:=I.ok.lr.mem hb;exact absurd (p7 (G9 ho) (J0 I.sz h)) (G3 _)
theorem be.O5(I:be X xz σ H s):∀x c,X.env.cells.lookup x=some c->c≠X.env.locals:=λ x c e z=>by obtain⟨v,o,ho,hd⟩:=I.cell x c e;obtain⟨m,⟨o',es,ep,pF,mH,_⟩,_⟩:=I.loc;rw[z,pF]at ho;cases ho;rw[mH]at hd;cases hd
theorem be.lr(I:be X xz σ H s):s.heap.FunFrames X.base X.outer:=by
 have all:∀(l:List Env),(∀b∈Bt l,b∈X.fs)->X.s₀.heap.FunFrames X.base l->s.heap.FunFrames X.base l:=by
  intro l
  induction l with
  |nil=>intro _ _;trivial
  |cons env r ih=>intro hs hl;obtain⟨hk,⟨L,o,hf,hn,ho,hd⟩,hr⟩:=hl;have hL:L∈X.fs:=hs L (by unfold Bt;rw[n5,hf];exact n6);obtain⟨sl,e⟩:=I.base.slot L o ho (I.ok.Ld L hL) hL λ z=>I.ok.JL L z hL;exact⟨hk,⟨L,_,hf,hn,e,hd⟩,ih (λ b hb=>hs b (by unfold Bt;rw[n5,hf];exact k7 _ hb)) hr⟩
 exact all X.outer (λ _ hb=>hb) I.ok.lr
theorem be.stack(I:be X xz σ H s):s.heap.FunFrames X.base X.stack:=by
 rcases I.ok.Ta with e|⟨e,hf⟩
 ·rw[e];exact I.lr
 ·rw[e];obtain⟨m,hn,_⟩:=I.loc;refine .cons (by rw[I.ok.kind];decide) hf hn ?_ I.lr;exact Heap.get?_none_of_le (J0 I.ok.FO I.ok.above)
theorem be.rM(I:be X xz σ H s):∀b∈Bt X.stack,b∈X.env.locals::X.fs:=λ b hb=>by
 rcases I.ok.Ta with e|⟨e,hf⟩
 ·rw[e]at hb;exact k7 _ hb
 ·rw[e]at hb;unfold Bt at hb;rw[n5,hf]at hb;exact hb
theorem be.yb(I:be X xz σ H s):∀b∈Bt X.stack,H b=none:=λ b hb=>by
 rcases G5.mp (I.rM b hb)with e|hb
 ·rw[e];exact I.free
 ·obtain⟨_,o,ho,_⟩:=I.ok.lr.mem hb;exact I.base.free b o ho (I.ok.Ld b hb) λ z=>I.ok.JL b z hb
theorem be.step{g':Array GenState}{d':Drawn}(I:be X xz σ H s) (Gv:∀b∈ch,(b∈X.ex\/X.s₀.heap.objs.size<=b)/\b≠X.env.locals/\(∀x c,X.env.cells.lookup x=some c->c≠b)/\∀p∈X.pn++xz,p.1≠b) (keep:∀b o,b≠X.env.locals->b∉X.fs->b∉ch->s.heap.get? b=some o->H b=none->h'.get? b=some o) (slot:∀b o,b≠X.env.locals->b∈X.fs->b∉ch->s.heap.get? b=some o->H b=none->∃sl,h'.get? b=some {o with slots:=sl}) (free:∀b o,b∉ch->s.heap.get? b=some o->H b=none->H' b=none) (there:∀b o,b∉ch->s.heap.get? b=some o->∃o',h'.get? b=some o') (ni:∀b xs,H b=some (.tup xs)->H' b=some (.tup xs)) (pW:∀b o u,H b=some (.eD o u)->H' b=some (.eD o u)) (pK:∀b ps,H b=some (.pe ps)->∃more,H' b=some (.pe (ps++more))) (ns:∀m,s.heap.Ns X.env.locals m->h'.Ns X.env.locals m) (bx:jv X.prog X.w H' h') (hg:AllBare g'):be X xz σ H' {s with heap:=h',gens:=g',drawn:=d',toks:=t'}:=by
 have WB:∀b o,X.s₀.heap.get? b=some o->b≠X.env.locals:=λ b o e=>G8 (p7 (G9 e) I.ok.above);have Tg:∀b o,X.s₀.heap.get? b=some o->b∉X.ex->b∉ch:=λ b o e hx hb=>by
  rcases(Gv b hb).1 with z|z
  ·exact hx z
  ·exact absurd (p7 (G9 e) z) (G3 _)
 have cellK:∀x c,X.env.cells.lookup x=some c->∀v,s.heap.IsCell c v->h'.IsCell c v:=λ x c e v ⟨o,ho,hd⟩=>by
  have Rl:c∉ch:=λ z=>(Gv c z).2.2.1 x c e rfl;by_cases hc:c∈X.fs
  ·obtain⟨sl,q⟩:=slot c o (I.O5 x c e) hc Rl ho (I.gh x c e);exact⟨_,q,hd⟩
  ·exact⟨o,keep c o (I.O5 x c e) hc Rl ho (I.gh x c e),hd⟩
 refine⟨I.ok,I.os,hg,⟨λ b o e n hb hx=>?_,λ b o e n hb hx=>?_,λ b o e n hx=>?_,λ b o e hx=>?_,λ b xs e=>ni b xs (I.base.ni b xs e),λ b o xs e=>pW b o xs (I.base.pW b o xs e),λ b ps e=>?_⟩,?_,λ x c e=>?_,?_,λ x c e=>?_,λ p hp=>?_,bx,I.len⟩
 ·exact keep b o (WB b o e) hb (Tg b o e hx) (I.base.keep b o e n hb hx) (I.base.free b o e n hx)
 ·obtain⟨sl,e1⟩:=I.base.slot b o e n hb hx;obtain⟨G_,e2⟩:=slot b _ (WB b o e) hb (Tg b o e hx) e1 (I.base.free b o e n hx);exact⟨G_,e2⟩
 ·obtain⟨o',e1⟩:=I.base.there b o e hx;exact free b o' (Tg b o e hx) e1 (I.base.free b o e n hx)
 ·obtain⟨o',e1⟩:=I.base.there b o e hx;exact there b o' (Tg b o e hx) e1
 ·obtain⟨m1,e1⟩:=I.base.pK b ps e;obtain⟨m2,e2⟩:=pK b _ e1;exact⟨m1++m2,by rw[e2,Array.append_assoc]⟩
 ·obtain⟨m,hn,hl⟩:=I.loc;refine⟨m,ns m hn,λ i x v e1 e2 e3=>?_⟩;obtain⟨u,r,l⟩:=hl i x v e1 e2 e3;refine⟨u,r,?_⟩;rcases l with l|⟨k,c,e,z⟩
  ·exact .inl l
  ·exact .inr ⟨k,c,e,cellK x c e _ z⟩
 ·obtain⟨v,z⟩:=I.cell x c e;exact⟨v,cellK x c e v z⟩
 ·obtain⟨m,⟨o,_,_,ho,_⟩,_⟩:=I.loc;exact free _ o (λ z=>(Gv _ z).2.1 rfl) ho I.free
 ·obtain⟨v,o,ho,hd⟩:=I.cell x c e;exact free c o (λ z=>(Gv c z).2.2.1 x c e rfl) ho (I.gh x c e)
 ·obtain⟨e,n,ne,nf,d⟩:=I.pin p hp;have Rl:p.1∉ch:=λ z=>(Gv p.1 z).2.2.2 p hp rfl;exact⟨keep p.1 p.2 ne nf Rl e n,free p.1 p.2 Rl e n,ne,nf,d⟩
theorem be.un(I:be X xz σ H s)(u:Un X.fs [] H H' s.heap h')(bx:jv X.prog X.w H' h'):be X xz σ H' {s with heap:=h',toks:=t'}:=by
 obtain⟨m,⟨o,es,ep,ho,r⟩,_⟩:=id I.loc;obtain⟨sl,hL⟩:=u.any ho I.free (by simp);exact I.step (g':=s.gens) (d':=s.drawn) (ch:=[]) (λ _ z=>nomatch z) (λ b o _ hb _ e n=>u.keep b o e n hb (by simp)) (λ b o _ hb _ e n=>u.slot b o e n hb (by simp)) (λ b o _ e n=>u.free b o e n (by simp)) (λ b o _ e=>u.there b o e (by simp)) u.ni u.pW u.pK (λ m' hm=>by
  obtain⟨o',es',V0,pF,r'⟩:=hm;rw[ho]at pF;cases pF;exact⟨_,es',V0,hL,r'⟩) bx I.bare
theorem be.call{g':Array GenState}{d':Drawn}(I:be X xz σ H s)(u:Un (Bt X.stack) ch H H' s.heap h')(bx:jv X.prog X.w H' h')(hg:AllBare g') (Gv:∀b∈ch,(b∈X.ex\/X.s₀.heap.objs.size<=b)/\b≠X.env.locals/\(∀x c,X.env.cells.lookup x=some c->c≠b)/\∀p∈X.pn++xz,p.1≠b):be X xz σ H' {s with heap:=h',gens:=g',drawn:=d',toks:=t'}:=by
 obtain⟨m,⟨o,es,ep,ho,r⟩,_⟩:=id I.loc;obtain⟨sl,hL⟩:=u.any ho I.free λ z=>(Gv _ z).2.1 rfl;exact I.step (ch:=ch) Gv (λ b o hL hb hc e n=>u.keep b o e n (λ z=>(G5.mp (I.rM b z)).elim hL hb) hc) (λ b o _ _ hc e n=>u.any e n hc) (λ b o hc e n=>u.free b o e n hc) (λ b o hc e=>u.there b o e hc) u.ni u.pW u.pK (λ m' hm=>by
  obtain⟨o',es',V0,pF,r'⟩:=hm;rw[ho]at pF;cases pF;exact⟨_,es',V0,hL,r'⟩) bx hg
theorem be.turned{it:ww}(I:be X xz σ H s)(k:∀b o,b≠it->s.heap.get? b=some o->h'.get? b=some o)(hn:H it=none)(hL:it≠X.env.locals) (h1:it∈X.ex\/X.s₀.heap.objs.size<=it) (h2:∀x c,X.env.cells.lookup x=some c->c≠it) (h3:∀p∈X.pn++xz,p.1≠it):be X xz σ H {s with heap:=h',toks:=t'}:=by
 have Rk:∀b u,H b=some u->b≠it:=λ b u e z=>by rw[z,hn]at e;cases e
 refine I.step (g':=s.gens) (d':=s.drawn) (ch:=[it]) (λ b hb=>?_) (λ b o _ _ hc e _=>k b o (λ z=>hc (by simp[z])) e) (λ b o _ _ hc e _=>⟨o.slots,k b o (λ z=>hc (by simp[z])) e⟩) (λ _ _ _ _ n=>n)
  (λ b o hc e=>⟨o,k b o (λ z=>hc (by simp[z])) e⟩) (λ _ _ e=>e) (λ _ _ _ e=>e) (λ b ps e=>⟨#[],by rw[e];simp⟩) (λ m hm=>?_) (λ b u e=>?_) I.bare
 ·have e:b=it:=by simpa using hb
  subst e;exact⟨h1,hL,h2,h3⟩
 ·obtain⟨o,es,ep,ho,r⟩:=hm;exact⟨o,es,ep,k _ o (K8 hL) ho,r⟩
 ·refine(I.bx b u e).nA (λ c v hc q=>k c v ?_ q) (λ _ q=>q) λ _ _ q=>q;rcases hc with z|z
  ·rw[z];exact Rk b u e
  ·exact Rk c _ z
theorem be.tok(I:be X xz σ H s)(t:Nat):be X xz σ H {s with toks:=t}:=I.un (h':=s.heap) (t':=t) Un.refl I.bx
theorem be.kept(I:be X xz σ H s)(k:∀b u,s.heap.get? b=some u->h'.get? b=some u):be X xz σ H {s with heap:=h',toks:=t'}:=I.un (Un.kept k) (I.bx.kept k)
theorem be.laid{o:HO}(I:be X xz σ H s)(k:∀b u,s.heap.get? b=some u->h'.get? b=some u)(hp:s.heap.objs.size<=a)(new:bA X.prog X.w (ci H a o) h' a o):be X xz σ (ci H a o) {s with heap:=h',toks:=t'}:=I.un (Un.laid k hp (I.bx.fresh hp)) (I.bx.laid k hp new)
theorem be.write{x e:ww}{o:HO}(I:be X xz σ H s)(mu:SF (H x))(he:e=x\/H e=some (.own x))(k:∀b u,b≠e->s.heap.get? b=some u->h'.get? b=some u)(PL:∃u,h'.get? e=some u) (new:bA X.prog X.w (ci H x o) h' x o):be X xz σ (ci H x o) {s with heap:=h',toks:=t'}:=I.un (Un.write mu he k PL) (I.bx.write mu he k PL new)
theorem be.weak{σ':List (Option V)}(I:be X xz σ H s)(hl:σ'.length=σ.length)(w:∀(i:Nat) v,σ'[i]?=some (some v)->σ[i]?=some (some v)):be X xz σ' H s:=
 ⟨I.ok,I.os,I.bare,I.base,let⟨m,hn,lK⟩:=I.loc;⟨m,hn,λ i x v e1 e2 e3=>lK i x v e1 (w i v e2) e3⟩,I.cell,I.free,I.gh,I.pin,I.bx,hl.trans I.len⟩
theorem be.eX{pins':List (ww×Obj)}(I:be X xz σ H s)(h:∀p∈pins',s.heap.get? p.1=some p.2/\H p.1=none/\p.1≠X.env.locals/\p.1∉X.fs/\∀v,p.2.data≠.cell v):be X pins' σ H s:=
 ⟨I.ok,I.os,I.bare,I.base,I.loc,I.cell,I.free,I.gh,λ p hp=>(C2.mp hp).elim (λ z=>I.pin p (k9 _ z)) (h p),I.bx,I.len⟩
theorem jV{N:List Str}(hN:N.Nodup)(a:N[i]?=some x)(b:N[j]?=some x):i=j:=by obtain⟨h1,e1⟩:=i3.mp a;obtain⟨h2,e2⟩:=i3.mp b;exact(getElem_inj hN).mp (e1.trans e2.symm)
theorem qG{M:Model}{v:V}{Q:Unit->kt->Prop}(I:be X xz σ H s)(hN:X.N.Nodup)(hi:X.N[i]?=some x)(hx:Loc X.env.scope x)(r:bv v u) (h:∀s',be X xz (σ.set i (some v)) H s'->(∃a,Heap.SameBut a s.heap s'.heap/\(a=X.env.locals\/X.env.cells.lookup x=some a))->Q () s') (hf:X.fn x=true\/X.env.scope.names.lookup x=some .local:=by first|exact .inl rfl|exact .inr rfl|assumption):wpAny M A (storeName X.env x u) Q E s:=by
 obtain⟨m,hn,hl⟩:=id I.loc;have VL:(X.env.scope.kind==.class||(X.env.scope.kind==.module&&X.env.locals != X.env.globals))=false:=by rw[I.ok.kind];rfl
 have W9:i < σ.length:=by rw[I.len];exact(i3.mp hi).1
 have O5:=I.O5;have tracked:∀{a:ww} {h':Heap},(∃o,s.heap.get? a=some o/\H a=none)->Heap.SameBut a s.heap h'->jv X.prog X.w H h':=λ{a h'} ha hs b ob e=>by
  obtain⟨_,_,K_⟩:=ha;refine(I.bx b ob e).nA (λ c w' hc q=>(hs.2 c ?_).trans q) (λ _ q=>q) λ _ _ q=>q;rintro rfl;rcases hc with rfl|hc
  ·rw[K_]at e;cases e
  ·rw[K_]at hc;cases hc
 rcases hx with hk|hk
 ·refine wpAny_storeName_local hk hn (λ h' YJ hs=>?_) VL;obtain⟨oL,_,_,Bo,_⟩:=id hn;refine h _ ⟨I.ok,I.os,I.bare,⟨λ b o e n hb hx=>?_,λ b o e n hb hx=>?_,I.base.free,λ b o e hx=>?_,I.base.ni,I.base.pW,I.base.pK⟩,⟨_,YJ,λ j y v' e1 e2 e3=>?_⟩,λ y c e=>?_,I.free,I.gh,λ p hp=>?_,tracked ⟨oL,Bo,I.free⟩ hs,by simpa using I.len⟩ ⟨_,hs,.inl rfl⟩
  ·exact(hs.2 b (G8 (p7 (G9 e) I.ok.above))).trans (I.base.keep b o e n hb hx)
  ·obtain⟨sl,e1⟩:=I.base.slot b o e n hb hx;exact⟨sl,(hs.2 b (G8 (p7 (G9 e) I.ok.above))).trans e1⟩
  ·obtain⟨o',e1⟩:=I.base.there b o e hx;exact⟨o',(hs.2 b (G8 (p7 (G9 e) I.ok.above))).trans e1⟩
  ·by_cases hj:j=i
   ·subst hj;rw[hi]at e1;cases e1;rw[j5 W9]at e2;cases e2;exact⟨u,r,.inl ⟨hk,by simp⟩⟩
   ·rw[l5 (K8 hj)]at e2;obtain⟨u',r',q⟩:=hl j y v' e1 e2 e3;refine⟨u',r',?_⟩;rcases q with⟨k,e⟩|⟨k,c,e,z⟩
    ·refine .inl ⟨k,?_⟩;have:y≠x:=λ e=>hj (jV hN e1 (e▸hi));simp[this,e]
    ·exact .inr ⟨k,c,e,z.sameBut hs (O5 y c e)⟩
  ·obtain⟨w',z⟩:=I.cell y c e;exact⟨w',z.sameBut hs (O5 y c e)⟩
  ·obtain⟨e,n,ne,nf,d⟩:=I.pin p hp;exact⟨(hs.2 p.1 ne).trans e,n,ne,nf,d⟩
 ·have Gp:X.fn x=true:=by
   rcases hf with z|z
   ·exact z
   ·rw[z]at hk;cases hk
  obtain⟨c,hc⟩:=I.ok.has x (.inl hk);obtain⟨w',z⟩:=I.cell x c hc;refine wpAny_storeName_cell I.ok.kind hk hc z (λ h' E_ hs=>?_);obtain⟨oc,W0,Vu⟩:=id z;refine h {s with heap:=h'} ⟨I.ok,I.os,I.bare,⟨λ b o e n hb hx=>?_,λ b o e n hb hx=>?_,I.base.free,λ b o e hx=>?_,I.base.ni,I.base.pW,I.base.pK⟩,⟨m,hn.sameBut hs (K8 (O5 x c hc)),λ j y v' e1 e2 e3=>?_⟩,λ y c' e=>?_,I.free,I.gh,λ p hp=>?_,tracked ⟨oc,W0,I.gh x c hc⟩ hs,by simpa using I.len⟩ ⟨c,hs,.inr hc⟩
  ·exact(hs.2 b (G8 (p7 (G9 e) (I.ok.Su x c Gp hc)))).trans (I.base.keep b o e n hb hx)
  ·obtain⟨sl,e1⟩:=I.base.slot b o e n hb hx;exact⟨sl,(hs.2 b (G8 (p7 (G9 e) (I.ok.Su x c Gp hc)))).trans e1⟩
  ·obtain⟨o',e1⟩:=I.base.there b o e hx;exact⟨o',(hs.2 b (G8 (p7 (G9 e) (I.ok.Su x c Gp hc)))).trans e1⟩
  ·by_cases hj:j=i
   ·subst hj;rw[hi]at e1;cases e1;rw[j5 W9]at e2;cases e2;exact⟨u,r,.inr ⟨.inl hk,c,hc,E_⟩⟩
   ·rw[l5 (K8 hj)]at e2;obtain⟨u',r',q⟩:=hl j y v' e1 e2 e3;refine⟨u',r',?_⟩;rcases q with q|⟨k,c',e,z'⟩
    ·exact .inl q
    ·refine .inr ⟨k,c',e,z'.sameBut hs ?_⟩;rintro rfl;exact hj (jV hN e1 (I.ok.inj _ _ _ e hc▸hi))
  ·by_cases Gw:c'=c
   ·subst Gw;exact⟨_,E_⟩
   ·obtain⟨w2,z2⟩:=I.cell y c' e;exact⟨w2,z2.sameBut hs Gw⟩
  ·obtain⟨e,n,ne,nf,d⟩:=I.pin p hp;refine⟨(hs.2 p.1 ?_).trans e,n,ne,nf,d⟩;intro q;rw[q,W0]at e;have q':oc=p.2:=B6 e;exact d w' (by rw[<- q'];exact Vu)
theorem ub{M:Model}{v:V}{Q:Unit->kt->Prop}(I:be X xz σ H s)(hN:X.N.Nodup)(hi:X.N[i]?=some x)(hx:Loc X.env.scope x)(r:bv v u) (h:∀s',be X xz (σ.set i (some v)) H s'->Q () s') (hf:X.fn x=true\/X.env.scope.names.lookup x=some .local:=by first|exact .inl rfl|exact .inr rfl|assumption):wpAny M A (storeName X.env x u) Q E s:=
 qG I hN hi hx r (λ s' I' _=>h s' I') hf
theorem be.Ss{s':kt}(I:be X xz σ H s)(ho:s'.os=s.os)(u:Un (Bt X.stack) ch H H' s.heap s'.heap)(bx:jv X.prog X.w H' s'.heap)(hg:AllBare s'.gens) (Gv:∀b∈ch,(b∈X.ex\/X.s₀.heap.objs.size<=b)/\b≠X.env.locals/\(∀x c,X.env.cells.lookup x=some c->c≠b)/\∀p∈X.pn++xz,p.1≠b):be X xz σ H' s':=by obtain⟨h',g',d',t',o'⟩:=s';have e:o'=s.os:=ho;subst e;exact I.call (g':=g') (t':=t') (d':=d') u bx hg Gv
end
abbrev XK:=jp->Option ww->Hp->Prop
abbrev St:=List (Option V)
abbrev VK:=V->Hp->Prop
abbrev TE:=St->Hp->VK->Prop
abbrev TT:=St->Hp->(Bool->Hp->Prop)->Prop
abbrev TA:=St->Hp->(List V->Hp->Prop)->Prop
structure Ends where
 nx:St->Hp->Prop
 rt:VK
 bk:St->Hp->Prop:=λ _ _=>False
 ct:St->Hp->Prop:=λ _ _=>False
abbrev TS:=Ends->St->Hp->Prop
def EP(X:Cx)(xz:List (ww×Obj))(σ:St)(Q:VK)(u:jp)(s':kt):Prop:=∃v H',be X xz σ H' s'/\bv v u/\Q v H'
def TP(X:Cx)(xz:List (ww×Obj))(σ:St)(Q:Bool->Hp->Prop)(b:Bool)(s':kt):Prop:=∃H',be X xz σ H' s'/\Q b H'
def AP(X:Cx)(xz:List (ww×Obj))(σ:St)(Q:List V->Hp->Prop)(us:List jp)(s':kt):Prop:=∃vs H',be X xz σ H' s'/\ce vs us/\Q vs H'
def SP(X:Cx)(xz:List (ww×Obj))(D:Ends)(f:Flow)(s':kt):Prop:=
 match f with
 | .next=>∃σ' H',be X xz σ' H' s'/\D.nx σ' H'
 | .brk=>∃σ' H',be X xz σ' H' s'/\D.bk σ' H'
 | .cont=>∃σ' H',be X xz σ' H' s'/\D.ct σ' H'
 | .ret u=>∃v σ' H',be X xz σ' H' s'/\bv v u/\D.rt v H'
def PE(X:Cx)(e:Expr)(t:TE):Prop:=
 ∀(xz:List (ww×Obj)) (s:kt) (σ:St) (H:Hp) (Q:VK),be X xz σ H s->t σ H Q->wpAny (model X.prog X.w) X.A (eval e X.env) (EP X xz σ Q) X.xe s
def PT(X:Cx)(e:Expr)(t:TT):Prop:=
 ∀(xz:List (ww×Obj)) (s:kt) (σ:St) (H:Hp) (Q:Bool->Hp->Prop),be X xz σ H s->t σ H Q->wpAny (model X.prog X.w) X.A (isTrue e X.env (eval e X.env)) (TP X xz σ Q) X.xe s
def PW(X:Cx)(e:Expr)(t:TT):Prop:=
 ∀(whole:Sem jp) (xz:List (ww×Obj)) (s:kt) (σ:St) (H:Hp) (Q:Bool->Hp->Prop),be X xz σ H s->t σ H Q->wpAny (model X.prog X.w) X.A (isTrue e X.env whole) (TP X xz σ Q) X.xe s
theorem PW.pt{X:Cx}{t:TT}(h:PW X e t):PT X e t:=h _
def PA(X:Cx)(es:List Expr)(t:TA):Prop:=
 ∀(pos:Pos) (xz:List (ww×Obj)) (s:kt) (σ:St) (H:Hp) (Q:List V->Hp->Prop),be X xz σ H s->t σ H Q->wpAny (model X.prog X.w) X.A (spliced (backTo pos (starEach es X.env))) (AP X xz σ Q) X.xe s
def PS(X:Cx)(st:Stmt)(t:TS):Prop:=
 ∀(xz:List (ww×Obj)) (s:kt) (σ:St) (H:Hp) (D:Ends),be X xz σ H s->t D σ H->wpAny (model X.prog X.w) X.A (exec st X.env) (SP X xz D) X.xe s
def vL(X:Cx)(st:List Stmt)(t:TS):Prop:=
 ∀(xz:List (ww×Obj)) (s:kt) (σ:St) (H:Hp) (D:Ends),be X xz σ H s->t D σ H->wpAny (model X.prog X.w) X.A (execs st X.env) (SP X xz D) X.xe s
theorem dG{t:Sem α}{Q Q':α->kt->Prop}{M:Model}(h:wpAny M A t Q E s)(hQ:∀a s,Q a s->Q' a s):wpAny M A t Q' E s:=K5 h hQ λ _ _ x=>x
section
variable {X:Cx}
def T'(i:Nat):TE:=λ σ H Q=>∃v,σ[i]?=some (some v)/\Q v H
def tC(v:V):TE:=λ _ H Q=>Q v H
theorem Ni{pos:Pos}(hN:X.N[i]?=some x)(hv:TL X.env.scope x)(hd:(x==("__debug__":Str))=false:=by decide)(hcd:(x==("__classdict__":Str))=false:=by decide):PE X (.Name x pos) (T' i):=by
 intro xz s σ H Q I h;obtain⟨v,e,h⟩:=h;obtain⟨m,hn,hl⟩:=I.loc;obtain⟨u,r,l⟩:=hl i x v hN e hv;have fin:EP X xz σ Q u s:=⟨v,H,I,r,h⟩;rcases l with⟨hk,hm⟩|⟨hk,c,hc,K'⟩
 ·exact wpAny_Name (wpAny_loadName_local I.ok.kind hk hn hm fin) hd
 ·rcases hk with hk|hk
  ·exact wpAny_Name (wpAny_loadName_cell I.ok.kind hk hc K' fin) hd
  ·exact wpAny_Name (wpAny_loadName_free I.ok.kind hk hc K' fin hcd) hd
theorem Nq{i j pos:_}:PE X (.Constant (.int i) j pos) (tC (.int i)):=λ _ _ _ H _ I h=>wpAny_Constant_int ⟨.int i,H,I.tok _,⟨_,rfl⟩,h⟩
theorem Q3{b j pos:_}:PE X (.Constant (.bool b) j pos) (tC (.bl b)):=λ _ _ _ H _ I h=>Constant_bool ⟨.bl b,H,I,rfl,h⟩
theorem Nm{j pos:_}:PE X (.Constant .none j pos) (tC .bw):=λ _ _ _ H _ I h=>Constant_none ⟨.bw,H,I,rfl,h⟩
theorem Nk{x j pos:_}:PE X (.Constant (.str x) j pos) (tC (.str x)):=λ _ _ _ H _ I h=>Calls.Constant_str ⟨.str x,H,I.tok _,⟨_,rfl⟩,h⟩
def Gl(X:Cx)(x:Str):Prop:=X.env.kindOf x=some .globalImplicit
theorem Jh{σ:St}{H:Hp}{pos:Pos}(I:be X xz σ H s)(hg:Gl X x)(hm:X.mg x=some u)(h:Q u s) (hd:(x==("__debug__":Str))=false:=by decide):wpAny (model X.prog X.w) X.A (eval (.Name x pos) X.env) Q E s:=
 Calls.Name_function_global I.ok.kind hg (Calls.loadGlobal_global (by rw[I.ok.glob];exact I.mod.glob.keeps I.bk) hm h) hd
theorem fA{σ:St}{H:Hp}{pos:Pos}(I:be X xz σ H s)(hg:Gl X x)(hm:X.mg x=none)(hv:bootBuiltins x=some u)(h:Q u s) (hn:x≠"__name__":=by decide) (hd:(x==("__debug__":Str))=false:=by decide):wpAny (model X.prog X.w) X.A (eval (.Name x pos) X.env) Q E s:=by obtain⟨mb,h1,h2⟩:=I.mod.blt;exact Calls.Name_function_global I.ok.kind hg (Calls.loadGlobal_builtin (by rw[I.ok.glob];exact I.mod.glob.keeps I.bk) hm (by rw[I.ok.blt];exact h1.keeps I.bk) ((h2 x hn).trans hv) h) hd
theorem Iy{v:V}{pos:Pos}(hg:Gl X x)(hm:X.mg x=none)(hv:bootBuiltins x=some u)(r:bv v u)(hn:x≠"__name__":=by decide)(hd:(x==("__debug__":Str))=false:=by decide):PE X (.Name x pos) (tC v):=
 λ _ _ _ H _ I h=>fA I hg hm hv ⟨v,H,I,r,h⟩ hn hd
variable {a b:Expr}{ta tb:TE}{pos:Pos}
def tB(t:TE):TT:=λ σ H Q=>t σ H λ x H1=>∃c,x=.bl c/\Q c H1
theorem MY{t:TE}(h:PE X e t)(he:∀whole,isTrue e X.env whole=(do let v <- whole;standAt e.pos;holding [v] (truthy v)):=by intro _;rfl):PT X e (tB t):=by intro xz s σ H Q I hw;refine isTrue_plain (dG (h xz s σ H _ I hw) λ v s1 ⟨x,H1,I1,r1,q1⟩=>?_) (he _);obtain⟨d,rfl,q⟩:=q1;cases r1;exact x5 ⟨H1,I1,q⟩
variable {tA SX:TT}
def Uk(t u:TT):TT:=λ σ H Q=>t σ H λ c H1=>if c=true then u σ H1 Q else Q false H1
def XD(t u:TT):TT:=λ σ H Q=>t σ H λ c H1=>if c=true then Q true H1 else u σ H1 Q
def Ud(t:TT):TT:=λ σ H Q=>t σ H λ c H1=>Q (!c) H1
theorem H_(ha:PT X a tA):PW X (.BoolOp .And [a] pos) tA:=by
 intro wh xz s σ H Q I h;refine isTrue_and (dG (ha xz s σ H Q I h) λ c s1 e=>?_);cases c with
 |true=>exact isTrue_and_nil e
 |false=>exact e
theorem MV(ha:PT X a tA):PW X (.BoolOp .Or [a] pos) tA:=by
 intro wh xz s σ H Q I h;refine isTrue_or (dG (ha xz s σ H Q I h) λ c s1 e=>?_);cases c with
 |false=>exact isTrue_or_nil e
 |true=>exact e
theorem MX(ha:PT X a tA)(hb:PW X (.BoolOp .And (b::rest) pos) SX):PW X (.BoolOp .And (a::b::rest) pos) (Uk tA SX):=by
 intro wh xz s σ H Q I h;refine isTrue_and (dG (ha xz s σ H _ I h) λ c s1 ⟨H1,I1,q1⟩=>?_);cases c with
 |true=>exact hb wh xz s1 σ H1 Q I1 q1
 |false=>exact⟨H1,I1,q1⟩
theorem QU(ha:PT X a tA)(hb:PW X (.BoolOp .Or (b::rest) pos) SX):PW X (.BoolOp .Or (a::b::rest) pos) (XD tA SX):=by
 intro wh xz s σ H Q I h;refine isTrue_or (dG (ha xz s σ H _ I h) λ c s1 ⟨H1,I1,q1⟩=>?_);cases c with
 |true=>exact⟨H1,I1,q1⟩
 |false=>exact hb wh xz s1 σ H1 Q I1 q1
theorem MZ(ha:PT X a tA):PT X (.UnaryOp .Not a pos) (Ud tA):=by intro xz s σ H Q I h;exact isTrue_not (ha xz s σ H (λ c H1=>Q (!c) H1) I h)
def Qg(ta tb:TE):TE:=λ σ H Q=>ta σ H λ x H1=>∃c,x=.bl c/\if c=true then tb σ H1 Q else Q (.bl false) H1
theorem Nl{op:_}{t:TE}(h:PE X a t):PE X (.BoolOp op [a] pos) t:=λ xz s σ H Q I hw=>BoolOp_one (h xz s σ H Q I hw)
theorem Nu(ha:PE X a ta)(hb:PE X (.BoolOp .And (b::rest) pos) tb):PE X (.BoolOp .And (a::b::rest) pos) (Qg ta tb):=by
 intro xz s σ H Q I h;refine BoolOp_and (dG (ha xz s σ H _ I h) λ v s1 ⟨x,H1,I1,r1,q1⟩=>?_);obtain⟨c,rfl,q1⟩:=q1;cases r1;refine x5 ?_;cases c with
 |true=>exact hb xz s1 σ H1 Q I1 q1
 |false=>exact⟨.bl false,H1,I1,rfl,q1⟩
end
def fE(K:L6)(H:Hp)(a:ww)(xs:List V):Prop:=
 Rd H a (.lst xs)\/
  ∃(o:Obj) (ay:Array jp) (n:Nat),K.lookup a=some o/\o.cls=.type "list"/\o.dict=none/\o.data=.seq ay n/\ay.size<=sizeLine/\ce xs ay.toList
def gn(K:L6)(H:Hp)(a:ww)(xs:List V):Prop:=
 Rd H a (.tup xs)\/
  ∃(o:Obj) (ay:Array jp) (n:Nat),K.lookup a=some o/\o.cls=.type "tuple"/\o.data=.seq ay n/\ay.size<=sizeLine/\ce xs ay.toList
def Wb:jp->Option V
 | .none=>some .bw
 | .bool b=>some (.bl b)
 | .int i _=>some (.int i)
 | .str x _=>some (.str x)
 | .bytes b _=>some (.FL b)
 | .float b _=>some (.PN b)
 | .ref a=>some (.ref a)
 | .type n=>some (.ty n)
 |_=>none
theorem bv.abs{x:V}(r:bv x u):Wb u=some x:=by
 cases x with
 |bw=>cases r;rfl
 |bl _=>cases r;rfl
 |int _=>obtain⟨t,rfl⟩:=r;rfl
 |str _=>obtain⟨t,rfl⟩:=r;rfl
 |FL _=>obtain⟨t,rfl⟩:=r;rfl
 |PN _=>obtain⟨t,rfl⟩:=r;rfl
 |ref _=>cases r;rfl
 |ty _=>cases r;rfl
theorem bv.inj{x y:V}(r:bv x u)(q:bv y u):x=y:=B6 (r.abs.symm.trans q.abs)
theorem ce.inj:∀{xs ys:List V} {us:List jp},ce xs us->ce ys us->xs=ys
 |_,_,_,.nil,.nil=>rfl
 |_,_,_,.cons r t,.cons r' t'=>by rw[r.inj r',ce.inj t t']
section
variable {X:Cx}{σ:St}{H:Hp}{xs ys:List V}
theorem fE.of(h:H a=some (.lst xs)):fE K H a xs:=.inl (.inl h)
theorem gn.of(h:H a=some (.tup xs)):gn K H a xs:=.inl (.inl h)
theorem be.list(I:be X xz σ H s)(h:fE X.K H a xs):∃ay:List jp,ce xs ay/\PlainL s.heap a ay.toArray/\xs.length<=sizeLine:=by
 rcases h with h|⟨o,ay,n,hk,hc,hd,hs,hz,r⟩
 ·obtain⟨z,ay,n,r,e⟩:=h.ok I.bx;exact⟨ay,r,⟨_,n,e,rfl,rfl,rfl⟩,z⟩
 ·refine⟨ay.toList,r,⟨o,n,I.sE a o hk,hc,hd,by simpa using hs⟩,?_⟩;have e:=r.length;simp only[m6]at e;lia
theorem be.tuple(I:be X xz σ H s)(h:gn X.K H a xs):∃ay:List jp,ce xs ay/\IsTup s.heap a ay.toArray/\xs.length<=sizeLine:=by
 rcases h with h|⟨o,ay,n,hk,hc,hs,hz,r⟩
 ·obtain⟨z,ay,r,p⟩:=h.ok I.bx;exact⟨ay,r,p,z⟩
 ·refine⟨ay.toList,r,⟨o,I.sE a o hk,hc,n,by simpa using hs⟩,?_⟩;have e:=r.length;simp only[m6]at e;lia
theorem be.uJ(I:be X xz σ H s)(h:fE X.K H a xs)(h':fE X.K H a ys):xs=ys:=by
 obtain⟨ay,r,⟨o,n,e,_,_,d⟩,_⟩:=I.list h;obtain⟨its',r',⟨o',n',e',_,_,d'⟩,_⟩:=I.list h';rw[e]at e';cases e';rw[d]at d';injection d' with d1 _
 have:ay=its':=by simpa using K7 Array.toList d1
 subst this;exact r.inj r'
theorem be.qA(I:be X xz σ H s)(h:gn X.K H a xs)(h':gn X.K H a ys):xs=ys:=by
 obtain⟨ay,r,⟨o,e,_,n,d⟩,_⟩:=I.tuple h;obtain⟨its',r',⟨o',e',_,n',d'⟩,_⟩:=I.tuple h';rw[e]at e';cases e';rw[d]at d';injection d' with d1 _
 have:ay=its':=by simpa using K7 Array.toList d1
 subst this;exact r.inj r'
end
abbrev Cx.pH (X:Cx)(E:jp->kt->Prop):Cx:={X with xe:=E}
abbrev Cx.IW (X:Cx):Cx:=X.pH λ _ _=>False
theorem Cx.Ok.pH{X:Cx}(ok:X.Ok)(E:jp->kt->Prop):(X.pH E).Ok:=
 ⟨ok.mod,ok.kind,ok.glob,ok.blt,ok.above,ok.inj,ok.has,ok.Su,ok.hd,ok.frames,ok.Ta,ok.Xk,ok.bs,ok.FO,ok.AU,ok.JL,ok.lr,ok.Ld⟩
theorem Cx.Ok.gU{X:Cx}(ok:(X.pH E).Ok):X.Ok:=
 ⟨ok.mod,ok.kind,ok.glob,ok.blt,ok.above,ok.inj,ok.has,ok.Su,ok.hd,ok.frames,ok.Ta,ok.Xk,ok.bs,ok.FO,ok.AU,ok.JL,ok.lr,ok.Ld⟩
section
variable {X:Cx}{σ:St}{H:Hp}
theorem be.pH(I:be X xz σ H s)(E:jp->kt->Prop):be (X.pH E) xz σ H s:=⟨I.ok.pH E,I.os,I.bare,I.base,I.loc,I.cell,I.free,I.gh,I.pin,I.bx,I.len⟩
theorem be.gU(I:be (X.pH E) xz σ H s):be X xz σ H s:=⟨I.ok.gU,I.os,I.bare,I.base,I.loc,I.cell,I.free,I.gh,I.pin,I.bx,I.len⟩
theorem SP.gU{D:Ends}{f:Flow}{s':kt}(h:SP (X.pH E) xz D f s'):SP X xz D f s':=by
 cases f with
 |next=>obtain⟨σ',H',I,q⟩:=h;exact⟨σ',H',I.gU,q⟩
 |brk=>obtain⟨σ',H',I,q⟩:=h;exact⟨σ',H',I.gU,q⟩
 |cont=>obtain⟨σ',H',I,q⟩:=h;exact⟨σ',H',I.gU,q⟩
 |ret u=>obtain⟨v,σ',H',I,r,q⟩:=h;exact⟨v,σ',H',I.gU,r,q⟩
theorem vL.IW{st:List Stmt}{t:TS}(h:vL X.IW st t):vL X st t:=λ xz s σ H D I hw=>
 K5 (h xz s σ H D (I.pH _) hw) (λ _ _ q=>q.gU) λ _ _ z=>False.elim z
end
section
variable {X:Cx}{rest:List Stmt}{t u:TS}{te:TE}{pos:Pos}
def Qd:TS:=λ D σ H=>D.nx σ H
def Ub(t u:TS):TS:=λ D σ H=>t {D with nx:=u D} σ H
theorem Ig:vL X [] Qd:=λ _ _ σ H _ I h=>wpAny_execs_nil ⟨σ,H,I,h⟩
theorem DD(h1:PS X st t)(h2:vL X rest u):vL X (st::rest) (Ub t u):=by
 intro xz s σ H D I h;refine wpAny_execs_cons (dG (h1 xz s σ H {D with nx:=u D} I h) λ f s1 q=>?_);cases f with
 |next=>obtain⟨σ',H',I',q⟩:=q;exact h2 xz s1 σ' H' D I' q
 |ret v=>exact q
 |brk=>exact q
 |cont=>exact q
theorem Ie(h1:PS X st t):vL X [st] t:=by
 intro xz s σ H D I h;refine wpAny_execs_cons (dG (h1 xz s σ H D I h) λ f s1 q=>?_);cases f with
 |next=>exact wpAny_execs_nil q
 |ret v=>exact q
 |brk=>exact q
 |cont=>exact q
theorem be.quiet{σ:St}{H:Hp}(I:be X xz σ H s):interactive X.env=false:=by simp[interactive,I.ok.kind]
def Qf(te:TE):TS:=λ D σ H=>te σ H λ _ H1=>D.nx σ H1
theorem Ih(he:PE X e te)(hs:swapsWith e none pos.line X.env=pure false:=by rfl):PS X (.Expr e pos) (Qf te):=by intro xz s σ H D I h;exact wpAny_Expr_any (dG (he xz s σ H _ I h) λ v s1 ⟨x,H1,I1,r1,q1⟩=>⟨σ,H1,I1,q1⟩) I.quiet hs
def Uc(te:TE):TS:=λ D σ H=>te σ H D.rt
theorem Na(he:PE X e te):PS X (.Return (some e) pos) (Uc te):=by intro xz s σ H D I h;exact wpAny_Return_some (dG (he xz s σ H _ I h) λ v s1 ⟨x,H1,I1,r1,q1⟩=>⟨x,σ,H1,I1,r1,q1⟩)
def Uh(c:TT)(t u:TS):TS:=λ D σ H=>c σ H λ b H1=>if b=true then t D σ H1 else u D σ H1
theorem QV{a b:List Stmt}{tc:TT}(hc:PT X c tc)(ha:vL X a t)(hb:vL X b u):PS X (.If c a b pos) (Uh tc t u):=by
 intro xz s σ H D I h;refine wpAny_If (dG (hc xz s σ H _ I h) λ d s1 ⟨H1,I1,q1⟩=>?_);cases d with
 |true=>exact ha xz s1 σ H1 D I1 q1
 |false=>exact hb xz s1 σ H1 D I1 q1
end
abbrev TG:=V->St->Hp->(St->Hp->Prop)->Prop
abbrev zU:=List V->St->Hp->(St->Hp->Prop)->Prop
def PG(X:Cx)(target:Expr)(t:TG):Prop:=
 ∀(xz:List (ww×Obj)) (s:kt) (σ:St) (H:Hp) (v:V) (u:jp) (Q:St->Hp->Prop),be X xz σ H s->bv v u->t v σ H Q->
  wpAny (model X.prog X.w) X.A (assign target X.env u) (λ _ s'=>∃σ' H',be X xz σ' H' s'/\Q σ' H') X.xe s
def Pg(X:Cx)(ts:List Expr)(t:zU):Prop:=
 ∀(xz:List (ww×Obj)) (s:kt) (σ:St) (H:Hp) (vs:List V) (us:List jp) (Q:St->Hp->Prop),be X xz σ H s->ce vs us->t vs σ H Q->
  wpAny (model X.prog X.w) X.A (assignInOrder ((assignEach ts X.env).map (·.2)) us) (λ _ s'=>∃σ' H',be X xz σ' H' s'/\Q σ' H') X.xe s
abbrev BH:=V->V->V->Hp->(Hp->Prop)->Prop
def tI(X:Cx)(t:BH):Prop:=
 ∀(xz:List (ww×Obj)) (s:kt) (σ:St) (H:Hp) (o i v:V) (ov iv u:jp) (Q:Hp->Prop),be X xz σ H s->bv o ov->bv i iv->bv v u->t o i v H Q->
  wpAny (model X.prog X.w) X.A (setItem ov iv u) (λ _ s'=>∃H',be X xz σ H' s'/\Q H') X.xe s
section
variable {X:Cx}{pos:Pos}
def cY(i:Nat):TG:=λ v σ H Q=>Q (σ.set i (some v)) H
theorem aF(hN:X.N.Nodup)(hi:X.N[i]?=some x)(hx:Loc X.env.scope x)(hf:X.fn x=true\/X.env.scope.names.lookup x=some .local:=by first|exact .inl rfl|exact .inr rfl|assumption):PG X (.Name x pos) (cY i):=by intro xz s σ H v u Q I r h;exact wpAny_assign_Name (ub I hN hi hx r (λ s' I'=>⟨_,H,I',h⟩) hf)
def sR:zU:=λ vs σ H Q=>vs=[]/\Q σ H
def dR(t:TG)(u:zU):zU:=λ vs σ H Q=>∃v r,vs=v::r/\t v σ H λ σ' H'=>u r σ' H' Q
theorem iJ:Pg X [] sR:=by intro xz s σ H vs us Q I r h;obtain⟨e,h⟩:=h;subst e;cases r;exact assignInOrder_nil ⟨σ,H,I,h⟩
theorem cN{t:TG}{u:zU}(h1:PG X e t)(h2:Pg X es u) (hs:(assignEach (e::es) X.env).map (·.2)=assign e X.env::(assignEach es X.env).map (·.2):=by rfl):Pg X (e::es) (dR t u):=by
 intro xz s σ H vs us Q I r h;obtain⟨v,vr,e1,h⟩:=h;subst e1;cases r with
 |cons r rr=>rw[hs];refine assignInOrder_cons (dG (h1 xz s σ H _ _ _ I r h) λ _ s1 ⟨σ1,H1,I1,q1⟩=>?_);exact h2 xz s1 σ1 H1 _ _ Q I1 rr q1
def vd(K:L6)(n:Nat)(t:zU):TG:=λ v σ H Q=>∃a xs,v=.ref a/\gn K H a xs/\xs.length=n/\t xs σ H Q
theorem kU{t:zU}(hc:X.calm=true)(h:Pg X es t) (hn:(assignEach es X.env).length=n:=by rfl) (hst:(assignEach es X.env).findIdx? (·.1)=none:=by rfl):PG X (.Tuple es k pos) (vd X.K n t):=by intro xz s σ H v u Q I r hw;obtain⟨a,xs,e1,hq,hl,hw⟩:=hw;subst e1;cases r;obtain⟨ay,rv,ht,hz⟩:=I.tuple hq;refine assign_Tuple_tuple (I.ok.hd hc) ht (by simp[hn,<- hl,rv.length]) hst λ h' hx=>?_;have I1:be X xz σ H {s with heap:=h'}:=I.kept (t':=s.toks) λ b o e=>hx b o (G8 (G9 e)) e;exact h xz _ σ H xs _ Q I1 (by simpa using rv) hw
def VV(to ti:TE)(t:BH):TG:=λ v σ H Q=>to σ H λ o H1=>ti σ H1 λ i H2=>t o i v H2 λ H3=>Q σ H3
theorem Nh{o i:Expr}{to ti:TE}{t:BH}(ho:PE X o to)(hi:PE X i ti)(hs:tI X t) (ha:∀v,assign (.Subscript o i pos) X.env v=(do
   let ov <- holding [v] (eval o X.env)
   let iv <- holding [v,ov] (eval i X.env)
   standAt pos
   holding [v,ov,iv] (setItem ov iv v)
   release [v,ov,iv] []):=by intro _;rfl):PG X (.Subscript o i pos) (VV to ti t):=by
 intro xz s σ H v u Q I r h;rw[ha];refine K1 (D4 (dG (ho xz s σ H _ I h) λ ov s1 ⟨x,H1,I1,r1,q1⟩=>?_));refine K1 (D4 (dG (hi xz s1 σ H1 _ I1 q1) λ iv s2 ⟨y,H2,I2,r2,q2⟩=>?_));refine K1 (wpAny_standAt (K1 (D4 (dG (hs xz s2 σ H2 x y v ov iv u _ I2 r1 r2 r q2) λ _ s3 ⟨H3,I3,q3⟩=>?_))));exact wpAny_release ⟨σ,H3,I3,q3⟩
def GR(te:TE)(g:TG):TS:=λ D σ H=>te σ H λ x H1=>g x σ H1 D.nx
theorem Nc{te:TE}{g:TG}(he:PE X e te)(hg:PG X tg g)(hs:swapsWithSole [tg] e pos.line X.env=pure false:=by rfl)(hw:swappedStores [tg] e X.env=pure none:=by rfl) (h1:(assignEach [tg] X.env).map (·.2)=[assign tg X.env]:=by rfl):PS X (.Assign [tg] e pos) (GR te g):=by intro xz s σ H D I h;refine wpAny_Assign_stores (dG (he xz s σ H _ I h) λ v s1 ⟨x,H1,I1,r1,q1⟩=>?_) hs hw;rw[h1];exact dG (hg xz s1 σ H1 x v _ I1 r1 q1) λ _ s2 q=>q
theorem M_{te:TE}(hN:X.N.Nodup)(hi:X.N[i]?=some x)(hx:Loc X.env.scope x)(he:PE X e te)(hs:swapsWith e (some (.Name x pos')) pos.line X.env=pure false:=by rfl)(hf:X.fn x=true\/X.env.scope.names.lookup x=some .local:=by first|exact .inl rfl|exact .inr rfl|assumption):PS X (.Assign [.Name x pos'] e pos) (GR te (cY i)):=by intro xz s σ H D I h;refine wpAny_Assign_Name (dG (he xz s σ H _ I h) λ v s1 ⟨y,H1,I1,r1,q1⟩=>?_) hs;exact ub I1 hN hi hx r1 (λ s2 I2=>⟨_,H1,I2,q1⟩) hf
end
section
variable {X:Cx}{pos:Pos}
def LH(c:TT)(tb:TS):TS:=λ D σ H=>∃W:Nat->St->Hp->Prop,(∃m,W m σ H)/\∀m σ H,W m σ H->
 c σ H λ b H1=>if b=true then ∃N:St->Hp->Prop,(∀σ' H',N σ' H'->∃m',m' < m/\W m' σ' H')/\tb {D with nx:=N,ct:=N,bk:=D.nx} σ H1 else D.nx σ H1
theorem DF{tc:TT}{tb:TS}(hp:PassesOwn (model X.prog X.w) X.A X.env X.xe)(hc:PT X c tc)(hb:vL X body tb):PS X (.While c body [] pos) (LH tc tb):=by
 intro xz s σ H D I h;obtain⟨W,⟨m0,w0⟩,turn⟩:=h;refine wpAny_While (codeAny_whileLoop (λ n s'=>∃σ' H',be X xz σ' H' s'/\W n σ' H') ?_ m0 ⟨σ,H,I,w0⟩);rintro n s1 ⟨σ1,H1,I1,w1⟩;refine B8 hp (dG (hc xz s1 σ1 H1 _ I1 (turn n σ1 H1 w1)) λ b s2 ⟨H2,I2,q2⟩=>?_);cases b with
 |true=>
  obtain⟨N,hN,q2⟩:=q2;rw[K9 rfl];refine B8 hp (dG (hb xz s2 σ1 H2 _ I2 q2) λ f s3 q3=>?_);cases f with
  |next=>obtain⟨σ3,H3,I3,n3⟩:=q3;obtain⟨m',hm,w3⟩:=hN σ3 H3 n3;exact⟨m',hm,σ3,H3,I3,w3⟩
  |cont=>obtain⟨σ3,H3,I3,n3⟩:=q3;obtain⟨m',hm,w3⟩:=hN σ3 H3 n3;exact⟨m',hm,σ3,H3,I3,w3⟩
  |brk=>exact q3
  |ret v=>exact q3
 |false=>rw[L1 n9];exact wpAny_execs_nil ⟨σ1,H2,I2,q2⟩
end
structure It where
 go:Nat->Hp->Prop
 GD:Nat->Hp->V->Hp->Prop
 stop:Nat->Hp->Prop
def jz(X:Cx)(xz:List (ww×Obj))(H:Hp)(b:ww):Prop:=
 H b=none/\b≠X.env.locals/\b∉X.fs/\(b∈X.ex\/X.s₀.heap.objs.size<=b)/\(∀x c,X.env.cells.lookup x=some c->c≠b)/\∀p∈X.pn++xz,p.1≠b
theorem be.jf{X:Cx}{σ:St}{H H':Hp}{b:ww}(I:be X xz σ H s)(hb:s.heap.objs.size<=b)(hn:H' b=none):jz X xz H' b:=by
 refine⟨hn,J5 (p7 I.lt hb),I.UR hb,.inr (J0 I.sz hb),λ x c e z=>?_,λ p hp z=>?_⟩
 ·obtain⟨v,q⟩:=I.cell x c e;exact absurd (p7 q.lt (by rw[z];exact hb)) (G3 _)
 ·exact absurd (p7 (G9 (I.pin p hp).1) (by rw[z];exact hb)) (G3 _)
structure Turn(P:Program)(w:World)(K:L6)(tg:Expr)(J:It)(fp:List ww)(it:ww)(tn:Nat->Heap->Prop):Prop where
 mem:it∈fp
 obj:∀i h,tn i h->∀b∈fp,∃o,h.get? b=some o/\∀v,o.data≠.cell v
 keep:∀i h h',tn i h->(∀b∈fp,∀o,h.get? b=some o->h'.get? b=some o)->tn i h'
 item:∀(X:Cx),X.prog=P->X.w=w->X.K=K->X.calm=true->∀(i:Nat) (xz:List (ww×Obj)) (s:kt) (σ:St) (H:Hp) (E:jp->kt->Prop),be X xz σ H s->(∀b∈fp,jz X xz H b)->tn i s.heap->J.go i H->
  wpAny (model P w) X.A (pyNext (.ref it)) (λ r s1=>∃u,r=some u/\
   wpAny (model P w) X.A (letOwnedTupleGo tg (.ref it) u) (λ _ s2=>∃x H',be X xz σ H' s2/\bv x u/\J.GD i H x H'/\tn (i+1) s2.heap/\∀b∈fp,H' b=none) E s1) E s
 done:∀(X:Cx),X.prog=P->X.w=w->X.K=K->X.calm=true->∀(i:Nat) (xz:List (ww×Obj)) (s:kt) (σ:St) (H:Hp) (E:jp->kt->Prop),be X xz σ H s->(∀b∈fp,jz X xz H b)->tn i s.heap->J.stop i H->
  wpAny (model P w) X.A (pyNext (.ref it)) (λ r s1=>r=none/\be X xz σ H s1) E s
 self:∀(A:Around) (i:Nat) (s:kt) (Q:jp->kt->Prop) (E:jp->kt->Prop),tn i s.heap->Q (.ref it) s->wpAny (model P w) A (pyIter (.ref it)) Q E s
abbrev TI:=St->Hp->(It->Hp->Prop)->Prop
def Wi(X:Cx)(xz:List (ww×Obj))(σ:St)(tg:Expr)(R:It->Hp->Prop)(Tn:jp)(s2:kt):Prop:=
 ∃(it:ww) (fp:List ww) (tn:Nat->Heap->Prop) (J:It) (H':Hp),Tn=.ref it/\be X xz σ H' s2/\Turn X.prog X.w X.K tg J fp it tn/\tn 0 s2.heap/\(∀b∈fp,jz X xz H' b)/\R J H'
def PI(X:Cx)(tg iter:Expr)(wi:TI):Prop:=
 ∀(xz:List (ww×Obj)) (s:kt) (σ:St) (H:Hp) (R:It->Hp->Prop),be X xz σ H s->wi σ H R->
  wpAny (model X.prog X.w) X.A (eval iter X.env) (λ v s1=>wpAny (model X.prog X.w) X.A (pyIter v) (Wi X xz σ tg R) X.xe s1) X.xe s
theorem vc{M:Model}{it:ww}{n:String}{vs:Array jp}{Q:Unit->kt->Prop}(ho:s.heap.get? it=some o)(hc:o.cls=.type n)(hd:o.data=.fields vs) (hn:["enumerate","zip","dict_itemiterator","dict_reverseitemiterator","odict_iterator","itertools.zip_longest","itertools.pairwise"].contains n=false) (hQ:Q () s):wpAny M A (letOwnedTupleGo tg (.ref it) u) Q E s:=by
 unfold letOwnedTupleGo;cases tg <;> first
  |exact K2 hQ
  |(cases u <;> first
    |exact K2 hQ
    |(refine K1 (wpAny_load ho ?_)
      rw[hc,hd];show wpAny M A (if(["enumerate","zip","dict_itemiterator","dict_reverseitemiterator","odict_iterator","itertools.zip_longest","itertools.pairwise"].contains n&&vs[0]?==some (rawInt _))=true then _ else _) Q E s;rw[L1 (by intro h;rw[hn,Bool.false_and]at h;cases h)];exact K2 hQ))
def TV(K:L6)(a:ww):It:=
 ⟨λ i H=>∃xs x,fE K H a xs/\xs[i]?=some x,λ i H x H'=>H'=H/\∀xs,fE K H a xs->xs[i]?=some x,λ i H=>∃xs,fE K H a xs/\xs.length<=i⟩
def Wl(K:L6)(a:ww):It:=
 ⟨λ i H=>∃xs x,gn K H a xs/\xs[i]?=some x,λ i H x H'=>H'=H/\∀xs,gn K H a xs->xs[i]?=some x,λ i H=>∃xs,gn K H a xs/\xs.length<=i⟩
def TU(lo:Int)(n:Nat):It:=⟨λ i _=>i < n,λ i H x H'=>H'=H/\x=.int (lo+i),λ i _=>n<=i⟩
theorem Am(a it:ww):Turn P w K tg (TV K a) [it] it (λ i h=>h.IsListIter it a i) where
 mem:=by simp
 obj:=λ i h st b hb=>by
  have e:b=it:=by simpa using hb
  subst e;obtain⟨o,e,c,d⟩:=st;exact⟨o,e,λ v z=>by rw[d]at z;cases z⟩
 keep:=λ i h h' st k=>st.at λ o e=>k it (by simp) o e
 item:=by intro X hP hw hK hc i xz s σ H E I hf st hg;subst hP hw hK;obtain⟨xs,x,hq,hx⟩:=hg;obtain⟨ay,rv,p,hz⟩:=I.list hq;obtain⟨u,hu,ru⟩:=rv.get hx;obtain⟨f0,f1,f2,f3,f4,f5⟩:=hf it (by simp);refine wpAny_pyNext_list_item st p.isList (x:=u) (by simpa using hu) λ h' gX sb=>?_;have I1:be X xz σ H {s with heap:=h'}:=I.turned (t':=s.toks) (λ b o hb e=>(sb.2 b hb).trans e) f0 f1 f3 f4 f5;obtain⟨o,e,c,d⟩:=id gX;exact⟨u,rfl,vc (s:={s with heap:=h'}) e c d (by decide) ⟨x,H,I1,ru,⟨rfl,λ ys hy=>by rw[I.uJ hy hq];exact hx⟩,gX,λ b hb=>(hf b hb).1⟩⟩
 done:=by intro X hP hw hK hc i xz s σ H E I hf st hg;subst hP hw hK;obtain⟨xs,hq,hx⟩:=hg;obtain⟨ay,rv,p,hz⟩:=I.list hq;obtain⟨f0,f1,f2,f3,f4,f5⟩:=hf it (by simp);have hl:=rv.length;exact wpAny_pyNext_list_end (I.ok.hd hc) st p.isList (by simp;lia) λ h' eb=>⟨rfl,I.turned (t':=s.toks) (λ b o hb e=>eb b o hb e) f0 f1 f3 f4 f5⟩
 self:=λ _ _ _ _ _ st h=>wpAny_pyIter_listiter st h
theorem v_(a it:ww):Turn P w K tg (Wl K a) [it] it (λ i h=>h.IsTupleIter it a i) where
 mem:=by simp
 obj:=λ i h st b hb=>by
  have e:b=it:=by simpa using hb
  subst e;obtain⟨o,e,c,d⟩:=st;exact⟨o,e,λ v z=>by rw[d]at z;cases z⟩
 keep:=λ i h h' st k=>st.at λ o e=>k it (by simp) o e
 item:=by intro X hP hw hK hc i xz s σ H E I hf st hg;subst hP hw hK;obtain⟨xs,x,hq,hx⟩:=hg;obtain⟨ay,rv,p,hz⟩:=I.tuple hq;obtain⟨u,hu,ru⟩:=rv.get hx;obtain⟨f0,f1,f2,f3,f4,f5⟩:=hf it (by simp);refine wpAny_pyNext_tuple_item st (show s.heap.IsTuple a ay.toArray from p) (x:=u) (by simpa using hu) λ h' gX sb=>?_;have I1:be X xz σ H {s with heap:=h'}:=I.turned (t':=s.toks) (λ b o hb e=>(sb.2 b hb).trans e) f0 f1 f3 f4 f5;obtain⟨o,e,c,d⟩:=id gX;exact⟨u,rfl,vc (s:={s with heap:=h'}) e c d (by decide) ⟨x,H,I1,ru,⟨rfl,λ ys hy=>by rw[I.qA hy hq];exact hx⟩,gX,λ b hb=>(hf b hb).1⟩⟩
 done:=by intro X hP hw hK hc i xz s σ H E I hf st hg;subst hP hw hK;obtain⟨xs,hq,hx⟩:=hg;obtain⟨ay,rv,p,hz⟩:=I.tuple hq;obtain⟨f0,f1,f2,f3,f4,f5⟩:=hf it (by simp);have hl:=rv.length;exact wpAny_pyNext_tuple_end (I.ok.hd hc) st (show s.heap.IsTuple a ay.toArray from p) (by simp;lia) λ h' eb=>⟨rfl,I.turned (t':=s.toks) (λ b o hb e=>eb b o hb e) f0 f1 f3 f4 f5⟩
 self:=λ _ _ _ _ _ st h=>wpAny_pyIter_tupleiter st h
theorem wa(it:ww)(lo:Int)(n:Nat):Turn P w K tg (TU lo n) [it] it (λ i h=>IsRangeIter h it (lo+(i:Nat)*1) ((n:Int) - (i:Nat)) 1) where
 mem:=by simp
 obj:=λ i h st b hb=>by
  have e:b=it:=by simpa using hb
  subst e;exact⟨_,st,λ v z=>by
   have z':Data.fields _=Data.cell v:=z;cases z'⟩
 keep:=λ i h h' st k=>k it (by simp) _ st
 item:=by intro X hP hw hK hc i xz s σ H E I hf st hg;subst hP hw hK;obtain⟨f0,f1,f2,f3,f4,f5⟩:=hf it (by simp);have W:=Walks.range (prog:=X.prog) (w:=X.w) (I.ok.hd hc) it lo 1 n;refine W.item i s _ _ hg st λ v h' tk hv gX kk=>?_;obtain⟨t,rfl⟩:=hv;have I1:be X xz σ H {s with heap:=h',toks:=tk}:=I.turned (λ b o hb e=>kk b o (by simpa using hb) e) f0 f1 f3 f4 f5;refine⟨_,rfl,vc (s:={s with heap:=h',toks:=tk}) (n:="range_iterator") gX rfl rfl (by decide) ⟨.int (lo+i),H,I1,⟨t,?_⟩,⟨rfl,rfl⟩,gX,λ b hb=>(hf b hb).1⟩⟩;rw[Int.mul_one]
 done:=by intro X hP hw hK hc i xz s σ H E I hf st hg;subst hP hw hK;obtain⟨f0,f1,f2,f3,f4,f5⟩:=hf it (by simp);exact wpAny_pyNext_range_end (I.ok.hd hc) st (by have:n<=i:=hg;lia) λ h' eb=>⟨rfl,I.turned (t':=s.toks) (λ b o hb e=>eb b o hb e) f0 f1 f3 f4 f5⟩
 self:=λ _ _ _ _ _ st h=>wpAny_pyIter_rangeiter st h
section
variable {X:Cx}
theorem Dv{σ:St}{H:Hp}{R:It->Hp->Prop}{hi:Int}{t u v:Tok}{tk:Nat}(I:be X xz σ H s)(h1: -(2^62)<=lo)(h2:lo < 2^62)(h3: -(2^62)<=hi)(h4:hi < 2^62) (q:R (TU lo (hi - lo).toNat) H):wpAny (model X.prog X.w) X.A (pyIter (.ref s.heap.objs.size)) (Wi X xz σ tg R) E {s with heap:=s.heap.push {cls:=.type "range",data:=.fields #[.int lo t,.int hi u,.int 1 v]},toks:=tk}:=by
 refine wpAny_pyIter_range (IsRange.new ..) (small_one h1 h2 h3 h4) ?_;have I1:be X xz σ H {s with heap:=s.heap.push {cls:=.type "range",data:=.fields #[.int lo t,.int hi u,.int 1 v]},toks:=tk}:=I.kept λ b o e=>j3 _ e;refine⟨(s.heap.push {cls:=.type "range",data:=.fields #[.int lo t,.int hi u,.int 1 v]}).objs.size,[(s.heap.push {cls:=.type "range",data:=.fields #[.int lo t,.int hi u,.int 1 v]}).objs.size],_,_,H,rfl,
  I1.kept (t':=tk) λ b o e=>j3 _ e,wa _ lo (hi - lo).toNat,?_,λ b hb=>?_,q⟩
 ·have e1:lo+((0:Nat):Int)*1=lo:=by simp
  have e2:(((hi - lo).toNat:Nat):Int) - ((0:Nat):Int)=Builtin.Range.rangeSize lo hi 1:=by rw[rangeSize_one];split <;> lia
  show IsRangeIter _ _ (lo+((0:Nat):Int)*1) ((((hi - lo).toNat:Nat):Int) - ((0:Nat):Int)) 1;rw[e1,e2];exact m7 _ rfl
 ·have e:b=(s.heap.push {cls:=.type "range",data:=.fields #[.int lo t,.int hi u,.int 1 v]}).objs.size:=by simpa using hb
  subst e;exact I1.jf (J7 _) (I1.bx.fresh (J7 _))
def Ru(ta:TA):TI:=λ σ H R=>ta σ H λ vs H1=>∃j:Int,vs=[.int j]/\-(2^62)<=j/\j < 2^62/\R (TU 0 j.toNat) H1
theorem AN{a:Expr}{ta:TA}{p pos:Pos}(hg:Gl X "range")(hm:X.mg "range"=none)(ha:PA X [a] ta)(hs:starEach [a] X.env=[(false,eval a X.env)]:=by rfl):PI X tg (.Call (.Name "range" p) [a] [] pos) (Ru ta):=by
 intro xz s σ H R I h;refine Call_ (fA I hg hm boot_range (a7 (dG (ha pos xz s σ H _ I h) λ us s1 ⟨vs,H1,I1,r1,q1⟩=>?_) hs rfl));obtain⟨j,e,q1,q2,q⟩:=q1;subst e;cases r1 with
 |cons r rr=>cases rr;obtain⟨t,rfl⟩:=r;exact call_range_1 (Dv I1 (by lia) (by lia) q1 q2 (by simpa using q))
def Ui(wi:TI)(g:TG)(tb:TS):TS:=λ D σ H=>wi σ H λ J H1=>∃W:Nat->Nat->St->Hp->Prop,(∃m,W 0 m σ H1)/\∀i m σ H,W i m σ H->
 (J.stop i H/\D.nx σ H)\/(J.go i H/\∃N:St->Hp->Prop,(∀σ' H',N σ' H'->∃m',m' < m/\W (i+1) m' σ' H')/\∀x H',J.GD i H x H'->g x σ H' λ σ2 H2=>tb {D with nx:=N,ct:=N,bk:=D.nx} σ2 H2)
def r_(fp:List ww)(h:Heap):List (ww×Obj):=fp.filterMap λ b=>(h.get? b).map λ o=>(b,o)
theorem dZ{h:Heap}{b:ww}(hb:b∈fp)(e:h.get? b=some o):(b,o)∈r_ fp h:=mem_filterMap.mpr ⟨b,hb,by rw[e];rfl⟩
theorem AS{h:Heap}{p:ww×Obj}(hp:p∈r_ fp h):p.1∈fp/\h.get? p.1=some p.2:=by
 obtain⟨b,hb,e⟩:=mem_filterMap.mp hp;cases q:h.get? b with
 |none=>rw[q]at e;cases e
 |some o=>rw[q]at e;have e':(b,o)=p:=B6 e;subst e';exact⟨hb,q⟩
theorem be.pinned{σ:St}{H:Hp}(I:be X xz σ H s)(hf:∀b∈fp,jz X xz H b)(ho:∀b∈fp,∃o,s.heap.get? b=some o/\∀v,o.data≠.cell v):be X (xz++r_ fp s.heap) σ H s:=
 I.eX λ p hp=>(C2.mp hp).elim (λ z=>I.pin p (j7 _ z)) λ z=>by obtain⟨hb,e⟩:=AS z;obtain⟨f0,f1,f2,_⟩:=hf p.1 hb;obtain⟨o,e',d⟩:=ho p.1 hb;rw[e]at e';cases e';exact⟨e,f0,f1,f2,d⟩
theorem be.ng{pl:List (ww×Obj)}{σ:St}{H:Hp}(I:be X (xz++pl) σ H s):be X xz σ H s:=I.eX λ p hp=>I.pin p (j7 _ (k9 _ hp))
theorem Nb{wi:TI}{g:TG}{tb:TS}{pos:Pos}(hp:PassesOwn (model X.prog X.w) X.A X.env X.xe)(hc:X.calm=true)(hi:PI X tg iter wi)(hg:PG X tg g)(hb:vL X body tb) (hs:∀x,foldedSetIterable iter X.env x=pure x:=by intro _;rfl):PS X (.For tg iter body [] pos) (Ui wi g tb):=by
 intro xz s σ H D I h;refine wpAny_For (dG (hi xz s σ H _ I h) λ v s1 h1=>dG h1 λ Tn s2 h2=>?_) hs;obtain⟨it,fp,tn,J,H2,e,I2,T,GW,f2,W,⟨m0,w0⟩,turn⟩:=h2;subst e;have LO:∀{H':Hp},(∀b∈fp,H' b=none)->∀b∈fp,jz X xz H' b:=λ hn b hb=>⟨hn b hb,(f2 b hb).2⟩;refine codeAny_forLoop_any (λ n s'=>∃i σ' H',be X xz σ' H' s'/\tn i s'.heap/\(∀b∈fp,H' b=none)/\W i n σ' H') ?_ m0 ⟨0,σ,H2,I2,GW,λ b hb=>(f2 b hb).1,w0⟩;rintro n s3 ⟨i,σ3,H3,I3,Qk,R5,w3⟩;rcases turn i n σ3 H3 w3 with⟨stop,qn⟩|⟨go,N,hN,step⟩
 ·refine B8 hp (dG (T.done X rfl rfl rfl hc i xz s3 σ3 H3 X.xe I3 (LO R5) Qk stop) λ r s4 ⟨hr,I4⟩=>?_);subst hr;exact wpAny_execs_nil ⟨σ3,H3,I4,qn⟩
 ·refine B8 hp (dG (T.item X rfl rfl rfl hc i xz s3 σ3 H3 X.xe I3 (LO R5) Qk go) λ r s4 ⟨u,hr,h4⟩=>?_);subst hr;refine B8 hp (dG h4 λ _ s5 ⟨x,H5,I5,r5,y5,GV,VX⟩=>?_);have Wo:=I5.pinned (LO VX) (T.obj _ _ GV);refine B8 hp (dG (hg _ s5 σ3 H5 x u _ Wo r5 (step x H5 y5)) λ _ s6 ⟨σ6,H6,I6,q6⟩=>?_);refine B8 hp (dG (hb _ s6 σ6 H6 _ I6 q6) λ f s7 q7=>?_);have again:∀{σ7:St} {H7:Hp},be X (xz++r_ fp s5.heap) σ7 H7 s7->N σ7 H7->∃m,m < n/\∃i σ' H',be X xz σ' H' s7/\tn i s7.heap/\(∀b∈fp,H' b=none)/\W i m σ' H':=λ{σ7 H7} I7 n7=>by obtain⟨m',hm,w7⟩:=hN σ7 H7 n7;refine⟨m',hm,i+1,σ7,H7,I7.ng,T.keep _ _ _ GV λ b hb o e=>(I7.pin (b,o) (j7 _ (j7 _ (dZ hb e)))).1,λ b hb=>?_,w7⟩;obtain⟨o,e,d⟩:=T.obj _ _ GV b hb;exact(I7.pin (b,o) (j7 _ (j7 _ (dZ hb e)))).2.1
  cases f with
  |next=>obtain⟨σ7,H7,I7,n7⟩:=q7;exact again I7 n7
  |cont=>obtain⟨σ7,H7,I7,n7⟩:=q7;exact again I7 n7
  |brk=>obtain⟨σ7,H7,I7,q7⟩:=q7;exact⟨σ7,H7,I7.ng,q7⟩
  |ret v=>obtain⟨x7,σ7,H7,I7,r7,q7⟩:=q7;exact⟨x7,σ7,H7,I7.ng,r7,q7⟩
end
abbrev R2:=V->V->Hp->VK->Prop
def gp(X:Cx)(f:jp->jp->Sem jp)(r:R2):Prop:=
 ∀(xz:List (ww×Obj)) (s:kt) (σ:St) (H:Hp) (x y:V) (v u:jp) (Q:VK),be X xz σ H s->bv x v->bv y u->r x y H Q->
  wpAny (model X.prog X.w) X.A (f v u) (EP X xz σ Q) X.xe s
def TM(X:Cx)(f:jp->Sem jp)(r:V->Hp->VK->Prop):Prop:=
 ∀(xz:List (ww×Obj)) (s:kt) (σ:St) (H:Hp) (x:V) (v:jp) (Q:VK),be X xz σ H s->bv x v->r x H Q->
  wpAny (model X.prog X.w) X.A (f v) (EP X xz σ Q) X.xe s
def c_(X:Cx)(f:jp)(r:List V->Hp->VK->Prop):Prop:=
 ∀(xz:List (ww×Obj)) (s:kt) (σ:St) (H:Hp) (xs:List V) (us:List jp) (Q:VK),be X xz σ H s->ce xs us->r xs H Q->
  wpAny (model X.prog X.w) X.A (call f us) (EP X xz σ Q) X.xe s
def Qc(r:R2)(ta tb:TE):TE:=λ σ H Q=>ta σ H λ x H1=>tb σ H1 λ y H2=>r x y H2 Q
def XC(r:V->Hp->VK->Prop)(ta:TE):TE:=λ σ H Q=>ta σ H λ x H1=>r x H1 Q
def rI(C:Int->Int->Prop)(g:Int->Int->V):R2:=λ x y H Q=>∃i j,x=.int i/\y=.int j/\C i j/\Q (g i j) H
def Gh(g:Int->Int->V):R2:=λ x y H Q=>∃i j,x=.int i/\y=.int j/\Q (g i j) H
def rU(g:Int->V):V->Hp->VK->Prop:=λ x H Q=>∃i,x=.int i/\Q (g i) H
section
variable {X:Cx}{a b:Expr}{ta tb tc:TE}{pos:Pos}
theorem Pa(ha:PE X a ta)(hb:PE X b tb){σ:St}{H:Hp}{R:V->V->Hp->Prop}(I:be X xz σ H s) (h:ta σ H λ x H1=>tb σ H1 λ y H2=>R x y H2)  {f:jp->jp->Sem jp} (hf:∀v u s2 x y H2,be X xz σ H2 s2->bv x v->bv y u->R x y H2->wpAny (model X.prog X.w) X.A (f v u) Q X.xe s2):wpAny (model X.prog X.w) X.A (eval a X.env) (λ v s₁=>wpAny (model X.prog X.w) X.A (eval b X.env) (λ u s₂=>wpAny (model X.prog X.w) X.A (f v u) Q X.xe s₂) X.xe s₁) X.xe s:=by refine dG (ha xz s σ H _ I h) λ v s1 ⟨x,H1,I1,r1,q1⟩=>?_;refine dG (hb xz s1 σ H1 _ I1 q1) λ u s2 ⟨y,H2,I2,r2,q2⟩=>?_;exact hf v u s2 x y H2 I2 r1 r2 q2
theorem Q0{op:Operator}{r:R2}(ho:gp X (binaryOp op) r)(ha:PE X a ta)(hb:PE X b tb):PE X (.BinOp a op b pos) (Qc r ta tb):=by intro xz s σ H Q I h;exact wpAny_BinOp (Pa ha hb I h λ v u s2 x y H2 I2 rx ry q=>ho xz s2 σ H2 x y v u Q I2 rx ry q)
theorem QZ{op:UnaryOp}{r:V->Hp->VK->Prop}(ho:TM X (unaryOp op) r)(ha:PE X a ta):PE X (.UnaryOp op a pos) (XC r ta):=by intro xz s σ H Q I h;exact UnaryOp_ (dG (ha xz s σ H _ I h) λ v s1 ⟨x,H1,I1,r1,q1⟩=>ho xz s1 σ H1 x v Q I1 r1 q1)
theorem Te{f:jp->jp->Sem jp}{g:Int->Int->Int} (rule:∀(i j:Int) (t u:Tok) (s:kt) (Q:jp->kt->Prop) (E:jp->kt->Prop),C i j->Q (.int (g i j) s.toks) {s with toks:=s.toks+1}->wpAny (model X.prog X.w) X.A (f (.int i t) (.int j u)) Q E s):gp X f (rI C λ i j=>.int (g i j)):=by intro xz s σ H x y v u Q I rx ry h;obtain⟨i,j,rfl,rfl,hc,q⟩:=h;obtain⟨t,rfl⟩:=rx;obtain⟨t',rfl⟩:=ry;exact rule i j t t' s _ _ hc ⟨.int (g i j),H,I.tok _,⟨_,rfl⟩,q⟩
theorem NJ{f:jp->jp->Sem jp}{g:Int->Int->Int} (rule:∀(i j:Int) (t u:Tok) (s:kt) (Q:jp->kt->Prop) (E:jp->kt->Prop),Q (.int (g i j) s.toks) {s with toks:=s.toks+1}->wpAny (model X.prog X.w) X.A (f (.int i t) (.int j u)) Q E s):gp X f (Gh λ i j=>.int (g i j)):=by intro xz s σ H x y v u Q I rx ry h;obtain⟨i,j,rfl,rfl,q⟩:=h;obtain⟨t,rfl⟩:=rx;obtain⟨t',rfl⟩:=ry;exact rule i j t t' s _ _ ⟨.int (g i j),H,I.tok _,⟨_,rfl⟩,q⟩
theorem NL{f:jp->jp->Sem jp}{g:Int->Int->Bool} (rule:∀(i j:Int) (t u:Tok) (s:kt) (Q:jp->kt->Prop) (E:jp->kt->Prop),Q (.bool (g i j)) s->wpAny (model X.prog X.w) X.A (f (.int i t) (.int j u)) Q E s):gp X f (Gh λ i j=>.bl (g i j)):=by intro xz s σ H x y v u Q I rx ry h;obtain⟨i,j,rfl,rfl,q⟩:=h;obtain⟨t,rfl⟩:=rx;obtain⟨t',rfl⟩:=ry;exact rule i j t t' s _ _ ⟨.bl (g i j),H,I,rfl,q⟩
def Pn(i j:Int):Prop:=0 < j/\j < 1073741824
def SO(i j:Int):Prop:=0<=j/\j<=1000000/\i.natAbs < 2^64
def tN(i j:Int):Prop:=(-(2^64) < i/\i < 2^64)\/(-(2^64) < j/\j < 2^64)
theorem tN.ok{i j:Int}(h:tN i j):IntMulOk i j:=by
 rcases h with⟨h1,h2⟩|⟨h1,h2⟩
 ·exact .of_left (intBits_le_64 h1 h2)
 ·exact .of_right (intBits_le_64 h1 h2)
theorem NI:gp X (binaryOp .Add) (Gh λ i j=>.int (i+j)):=NJ λ _ _ _ _ _ _ _ q=>add_int q
theorem Nx:gp X (binaryOp .Sub) (Gh λ i j=>.int (i - j)):=NJ λ _ _ _ _ _ _ _ q=>sub_int q
theorem NB:gp X (binaryOp .Mult) (rI tN λ i j=>.int (i*j)):=Te λ _ _ _ _ _ _ _ hc q=>mul_int q hc.ok
theorem ID:gp X (binaryOp .FloorDiv) (rI Pn λ i j=>.int (i / j)):=Te λ i j _ _ _ _ _ hc q=>by have h1:(0:Int) < j:=hc.1;have h2:j < 1073741824:=hc.2;exact floordiv_int (by lia) (by rw[Int.fdiv_eq_ediv_of_nonneg i (by lia)];exact q) (.inl (PyProof.noPylong_small (by lia)))
theorem NC:gp X (binaryOp .Mod) (rI (λ _ j=>0 < j) λ i j=>.int (i % j)):=Te λ i j _ _ _ _ _ hc q=>by have h1:(0:Int) < j:=hc;exact mod_int' (by lia) (by rw[Int.fmod_eq_emod_of_nonneg i (by lia)];exact q)
theorem Nz:gp X (binaryOp .Pow) (rI SO λ i j=>.int (i^j.toNat)):=Te λ _ _ _ _ _ _ _ hc q=>pow_int_small hc.1 hc.2.1 hc.2.2 q
theorem Nw:gp X (binaryOp .BitXor) (Gh λ i j=>.int (Builtin.bitXor i j)):=NJ λ _ _ _ _ _ _ _ q=>xor_int q
theorem Xx{f:jp->Sem jp}{g:Int->Int} (rule:∀(i:Int) (t:Tok) (s:kt) (Q:jp->kt->Prop) (E:jp->kt->Prop),Q (.int (g i) s.toks) {s with toks:=s.toks+1}->wpAny (model X.prog X.w) X.A (f (.int i t)) Q E s):TM X f (rU λ i=>.int (g i)):=by intro xz s σ H x v Q I rx h;obtain⟨i,rfl,q⟩:=h;obtain⟨t,rfl⟩:=rx;exact rule i t s _ _ ⟨.int (g i),H,I.tok _,⟨_,rfl⟩,q⟩
theorem LA:TM X (unaryOp .USub) (rU λ i=>.int (-i)):=Xx λ _ _ _ _ _ q=>neg_int q
end
def Ql:V->V->Bool
 | .bw,.bw=>true| .bw,.int _=>true| .int _,.bw=>true| .bw,.bl _=>true| .bl _,.bw=>true| .bw,.str _=>true| .str _,.bw=>true
 | .int _,.int _=>true| .bl _,.bl _=>true| .str _,.str _=>true| .FL _,.FL _=>true
 | .int _,.str _=>true| .str _,.int _=>true| .bl _,.str _=>true| .str _,.bl _=>true
 |_,_=>false
def XU:R2:=λ x y H Q=>Ql x y=true/\Q (.bl (decide (x=y))) H
def XR:R2:=λ x y H Q=>Ql x y=true/\Q (.bl (!decide (x=y))) H
theorem zx{i j:Int}:decide (V.int i=V.int j)=(i==j):=by rw[A9];simp
theorem Fy{i j:Bool}:decide (V.bl i=V.bl j)=(i==j):=by rw[A9];simp
theorem zw{i j:Str}:decide (V.str i=V.str j)=(i==j):=by rw[A9];simp
theorem zy{i j:Array UInt8}:decide (V.FL i=V.FL j)=(i.toList==j.toList):=by rw[A9];cases i;cases j;simp
section
variable {X:Cx}{a b:Expr}{ta tb tc:TE}{pos:Pos}
theorem bh{σ:St}{H:Hp}{Q:VK}{k k':Bool}(I:be X xz σ H s)(q:Q (.bl k) H)(e:k=k'):EP X xz σ Q (.bool k') s:=by subst e;exact⟨.bl k,H,I,rfl,q⟩
theorem Q_:gp X (compareOp .Eq) XU:=by
 intro xz s σ H x y v u Q I rx ry h;obtain⟨hs,q⟩:=h;cases x with
 |bw=>
  cases rx;cases y with
  |bw=>cases ry;exact PySem.EqNone.eq_none_none (bh I q (by simp))
  |bl j=>cases ry;exact PySem.EqNone.eq_none_bool (bh I q (by simp))
  |int j=>obtain⟨t',rfl⟩:=ry;exact PySem.EqNone.eq_none_int (bh I q (by simp))
  |str j=>obtain⟨t',rfl⟩:=ry;exact PySem.EqNone.eq_none_str (bh I q (by simp))
  |_=>exact absurd (show false=true from hs) n9
 |bl i=>
  cases rx;cases y with
  |bw=>cases ry;exact PySem.EqNone.eq_bool_none (bh I q (by simp))
  |bl j=>cases ry;exact eq_bool (bh I q Fy)
  |str j=>obtain⟨t',rfl⟩:=ry;exact PySem.EqMixed.eq_bool_str (bh I q (by simp))
  |_=>exact absurd (show false=true from hs) n9
 |int i=>
  obtain⟨t,rfl⟩:=rx;cases y with
  |bw=>cases ry;exact PySem.EqNone.eq_int_none (bh I q (by simp))
  |int j=>obtain⟨t',rfl⟩:=ry;exact eq_int (bh I q zx)
  |str j=>obtain⟨t',rfl⟩:=ry;exact PySem.EqMixed.eq_int_str (bh I q (by simp))
  |_=>exact absurd (show false=true from hs) n9
 |str i=>
  obtain⟨t,rfl⟩:=rx;cases y with
  |bw=>cases ry;exact PySem.EqNone.eq_str_none (bh I q (by simp))
  |bl j=>cases ry;exact PySem.EqMixed.eq_str_bool (bh I q (by simp))
  |int j=>obtain⟨t',rfl⟩:=ry;exact PySem.EqMixed.eq_str_int (bh I q (by simp))
  |str j=>obtain⟨t',rfl⟩:=ry;exact eq_str (bh I q zw)
  |_=>exact absurd (show false=true from hs) n9
 |FL i=>
  obtain⟨t,rfl⟩:=rx;cases y with
  |FL j=>obtain⟨t',rfl⟩:=ry;exact PySem.W.eq_bytes (bh I q zy)
  |_=>exact absurd (show false=true from hs) n9
 |_=>cases y <;> exact absurd (show false=true from hs) n9
theorem Q6:gp X (compareOp .NotEq) XR:=by
 intro xz s σ H x y v u Q I rx ry h;obtain⟨hs,q⟩:=h;cases x with
 |bw=>
  cases rx;cases y with
  |bw=>cases ry;exact PySem.EqNone.ne_none_none (bh I q (by simp))
  |bl j=>cases ry;exact PySem.EqNone.ne_none_bool (bh I q (by simp))
  |int j=>obtain⟨t',rfl⟩:=ry;exact PySem.EqNone.ne_none_int (bh I q (by simp))
  |str j=>obtain⟨t',rfl⟩:=ry;exact PySem.EqNone.ne_none_str (bh I q (by simp))
  |_=>exact absurd (show false=true from hs) n9
 |bl i=>
  cases rx;cases y with
  |bw=>cases ry;exact PySem.EqNone.ne_bool_none (bh I q (by simp))
  |bl j=>cases ry;exact ne_bool (bh I q (K7 not Fy))
  |str j=>obtain⟨t',rfl⟩:=ry;exact PySem.EqMixed.ne_bool_str (bh I q (by simp))
  |_=>exact absurd (show false=true from hs) n9
 |int i=>
  obtain⟨t,rfl⟩:=rx;cases y with
  |bw=>cases ry;exact PySem.EqNone.ne_int_none (bh I q (by simp))
  |int j=>obtain⟨t',rfl⟩:=ry;exact ne_int (bh I q (K7 not zx))
  |str j=>obtain⟨t',rfl⟩:=ry;exact PySem.EqMixed.ne_int_str (bh I q (by simp))
  |_=>exact absurd (show false=true from hs) n9
 |str i=>
  obtain⟨t,rfl⟩:=rx;cases y with
  |bw=>cases ry;exact PySem.EqNone.ne_str_none (bh I q (by simp))
  |bl j=>cases ry;exact PySem.EqMixed.ne_str_bool (bh I q (by simp))
  |int j=>obtain⟨t',rfl⟩:=ry;exact PySem.EqMixed.ne_str_int (bh I q (by simp))
  |str j=>obtain⟨t',rfl⟩:=ry;exact ne_str (bh I q (K7 not zw))
  |_=>exact absurd (show false=true from hs) n9
 |FL i=>
  obtain⟨t,rfl⟩:=rx;cases y with
  |FL j=>obtain⟨t',rfl⟩:=ry;exact PySem.W.ne_bytes (bh I q (K7 not zy))
  |_=>exact absurd (show false=true from hs) n9
 |_=>cases y <;> exact absurd (show false=true from hs) n9
theorem Q7:gp X (compareOp .Lt) (Gh λ i j=>.bl (decide (i < j))):=NL λ _ _ _ _ _ _ _ q=>lt_int q
theorem Q8:gp X (compareOp .Gt) (Gh λ i j=>.bl (decide (j < i))):=NL λ _ _ _ _ _ _ _ q=>gt_int q
theorem Q9:gp X (compareOp .GtE) (Gh λ i j=>.bl (decide (j<=i))):=NL λ _ _ _ _ _ _ _ q=>ge_int q
theorem AQ:gp X (compareOp .In) (λ x y H Q=>∃i j,x=.str i/\y=.str j/\Q (.bl (!(Builtin.Str.occurrences j i 0 j.length 1).isEmpty)) H):=by intro xz s σ H x y v u Q I rx ry h;obtain⟨i,j,rfl,rfl,q⟩:=h;obtain⟨t,rfl⟩:=rx;obtain⟨t',rfl⟩:=ry;exact in_str (bh I q rfl)
theorem ND:gp X (compareOp .Is) (λ x y H Q=>y=.bw/\Q (.bl (decide (x=.bw))) H):=by
 intro xz s σ H x y v u Q I rx ry h;obtain⟨rfl,q⟩:=h;cases ry;refine is_none_gen (bh I q ?_);cases x <;> first
  |(cases rx;rfl)
  |(obtain⟨t,rfl⟩:=rx;rfl)
theorem gp.or{f:jp->jp->Sem jp}{r r':R2}(h:gp X f r)(h':gp X f r'):gp X f (λ x y H Q=>r x y H Q\/r' x y H Q):=by
 intro xz s σ H x y v u Q I rx ry q;rcases q with q|q
 ·exact h xz s σ H x y v u Q I rx ry q
 ·exact h' xz s σ H x y v u Q I rx ry q
theorem aG(b:Expr){op:CmpOp}(h:op≠.In:=by decide)(h2:op≠.NotIn:=by decide):behindInMarks op b=false:=by
 have e1:(op==CmpOp.In)=false:=by cases op <;> first|rfl|exact absurd rfl h
 have e2:(op==CmpOp.NotIn)=false:=by cases op <;> first|rfl|exact absurd rfl h2
 cases b <;> simp[behindInMarks,e1,e2]
theorem Iv{op:CmpOp}{r:R2}(ho:gp X (compareOp op) r)(ha:PE X a ta)(hb:PE X b tb)(hm:behindInMarks op b=false):PE X (.Compare a [op] [b] pos) (Qc r ta tb):=by intro xz s σ H Q I h;exact wpAny_Compare1 (Pa ha hb I h λ v u s2 x y H2 I2 rx ry q=>ho xz s2 σ H2 x y v u Q I2 rx ry q) hm
def Qa(t:TE):TT:=λ σ H Q=>t σ H λ x H'=>∃k,x=.bl k/\Q k H'
theorem Ic{op:CmpOp}{r:R2}(ho:gp X (compareOp op) r)(ha:PE X a ta)(hb:PE X b tb)(hm:behindInMarks op b=false):PT X (.Compare a [op] [b] pos) (Qa (Qc r ta tb)):=by
 intro xz s σ H Q I h;refine wpAny_isTrue_Compare1 (dG (ha xz s σ H _ I h) λ v s1 ⟨x,H1,I1,r1,q1⟩=>dG (hb xz s1 σ H1 _ I1 q1) λ u s2 ⟨y,H2,I2,r2,q2⟩=>
  dG (ho xz s2 σ H2 x y v u _ I2 r1 r2 q2) λ c s3 ⟨z,H3,I3,r3,k,e,q3⟩=>?_) hm
 subst e;cases r3;exact x5 ⟨H3,I3,q3⟩
theorem lb:(sizeLine:Nat) < 2^63:=by rw[J8];decide
theorem wL:gp X (binaryOp .Add) (λ x y H Q=>∃i j,x=.str i/\y=.str j/\i.length+j.length<=sizeLine/\Q (.str (i++j)) H):=by intro xz s σ H x y v u Q I rx ry h;obtain⟨i,j,rfl,rfl,hz,q⟩:=h;obtain⟨t,rfl⟩:=rx;obtain⟨t',rfl⟩:=ry;exact add_str (λ t' tk=>⟨.str (i++j),H,I.tok _,⟨_,rfl⟩,q⟩) hz
theorem vals1{x:V}(r:ce [x] us):∃u,us=[u]/\bv x u:=by
 cases r with
 |cons r1 r2=>cases r2;exact⟨_,rfl,r1⟩
theorem vals2{x y:V}(r:ce [x,y] us):∃u w',us=[u,w']/\bv x u/\bv y w':=by
 cases r with
 |cons r1 r2=>
  cases r2 with
  |cons r3 r4=>cases r4;exact⟨_,_,rfl,r1,r3⟩
theorem BB(hc:X.calm=true):c_ X (.builtin "max") (λ xs H Q=>∃i j,xs=[.int i,.int j]/\Q (.int (if j > i then j else i)) H):=by
 intro xz s σ H xs us Q I r h;obtain⟨i,j,rfl,q⟩:=h;obtain⟨u,w',rfl,⟨t,rfl⟩,⟨t',rfl⟩⟩:=vals2 r;refine max_two_ints (I.ok.hd hc) λ h' tk k=>⟨_,H,I.kept k,?_,q⟩;by_cases hj:j > i
 ·rw[K9 hj,K9 hj];exact⟨_,rfl⟩
 ·rw[L1 hj,L1 hj];exact⟨_,rfl⟩
theorem BD:c_ X (.type "int") (λ xs H Q=>(∃i,xs=[.int i]/\Q (.int i) H)\/∃k,xs=[.bl k]/\Q (.int (if k then 1 else 0)) H):=by
 intro xz s σ H xs us Q I r h;rcases h with⟨i,rfl,q⟩|⟨k,rfl,q⟩
 ·obtain⟨u,rfl,t,rfl⟩:=vals1 r;exact call_int_int ⟨.int i,H,I,⟨_,rfl⟩,q⟩
 ·obtain⟨u,rfl,r1⟩:=vals1 r;cases r1;exact call_int_bool ⟨.int (if k then 1 else 0),H,I.tok _,⟨_,rfl⟩,q⟩
end
structure Ph(h:Heap)(x dx C:ww)(mA:Str->Option jp):Prop where
 obj:h.get? x=some (PySem.W.instObj C dx)
 ns:h.Ns1 dx mA
 ne:dx≠x
set_option tactic.hygienic true in
theorem AZ{h:Heap}{dx:ww}(n:h.Ns1 dx mA):∃od,h.get? dx=some od/\∀name,PySem.W.lookIn name od=some (mA name):=by
 obtain⟨o,es,ep,ho,hd,hk,_,hm⟩:=n;refine⟨o,ho,λ name=>?_⟩;have e:=hm name;unfold nsFind findBy at e;rw[<- Array.find?_toList]at e;unfold PySem.W.lookIn;rw[hd];dsimp only;split
 ·rename_i y q;rw[q]at e;exact K7 some e
 ·rename_i q;rw[q]at e;have a:es.toList.any (·.refKey)=false:=by rw[List.any_eq_false];intro y hy;obtain⟨z,t,iX⟩:=hk y (Array.mem_toList_iff.mp hy);simp[DictEntry.refKey,iX]
  have a':¬es.toList.any (·.refKey)=true:=by rw[a];exact n9
  rw[L1 a'];exact K7 some e
theorem Ph.look{h:Heap}{x dx C:ww}(I:Ph h x dx C mA):∃od,PySem.W.InstAt h x (PySem.W.instObj C dx) C (some od)/\∀name,PySem.W.lookIn name od=some (mA name):=
 let⟨od,ho,hl⟩:=AZ I.ns
 ⟨od,⟨I.obj,rfl,rfl,ho⟩,hl⟩
theorem km.some_of{v:V}{o:Option jp}(r:km (some v) o):∃u,o=some u/\bv v u:=by
 cases o with
 |none=>exact(show False from r).elim
 |some u=>exact⟨u,rfl,r⟩
section
variable {H H':Hp}{h:Heap}{C dx:ww}{fs Zp:List (Str×V)}
theorem Jv(bx:jv P w H h)(e:H a=some (.ins C dx fs)):∃mA,Ph h a dx C mA/\(∀f,km (fs.lookup f) (mA f))/\PySem.Within mA (fs.map (·.1))/\fs.length<=1000/\H dx=some (.own a):=by obtain⟨d,z,ne,ob,mA,n,r,q⟩:=(show bA P w H h a (.ins C dx fs)from bx a _ e);exact⟨mA,⟨ob,n,ne⟩,r,q,z,d⟩
end
structure Wq(K:L6)(C:ww):Prop where
 pg:PySem.W.plainGet K C Str.empty=true
 hd:PySem.W.hasDictIn K C=true
 po:PySem.W.plainOver K C=true
 sa:PySem.W.findIn K (.ref C) "__setattr__"=some (some (.builtin "object.__setattr__"))
theorem Wq.get{C:ww}(c:Wq K C)(f:Str):PySem.W.plainGet K C f=true:=c.pg
section
variable {X:Cx}{σ:St}{H:Hp}{c:jp}
inductive md(K:L6)(H:Hp):V->jp->Prop where
 |bw:md K H .bw (.type "NoneType")
 |bl (x:Bool):md K H (.bl x) (.type "bool")
 |int (i:Int):md K H (.int i) (.type "int")
 |str (x:Str):md K H (.str x) (.type "str")
 |PN (x:UInt64):md K H (.PN x) (.type "float")
 |lst {a:ww} {xs:List V} (e:H a=some (.lst xs)):md K H (.ref a) (.type "list")
 |eD {a:ww} {o:Obj} {xs:List V} (e:H a=some (.eD o (.lst xs))):md K H (.ref a) (.type "list")
 |tup {a:ww} {xs:List V} (e:H a=some (.tup xs)):md K H (.ref a) (.type "tuple")
 |dK {a:ww} {kvs:List (Key×V)} (e:H a=some (.dK kvs)):md K H (.ref a) (.type "dict")
 |dT {a:ww} {kvs:List (List Key×V)} (e:H a=some (.dT kvs)):md K H (.ref a) (.type "dict")
 |ins {a C dx:ww} {fs:List (Str×V)} (e:H a=some (.ins C dx fs)) (cl:Wq K C) (ha:PySem.W.findIn K (.ref C) "__class__"=some (some (.builtin "object.__class__")))
   (hn:PySem.W.specialIn K (.builtin "object.__class__") "__get__"=some (some (.builtin "getset_descriptor.__get__"))) (WR:PySem.W.takesIn K (.builtin "object.__class__")=some true)
   (hm:PySem.W.mroIn K C (.type "object")=some true):md K H (.ref a) (.ref C)
theorem iP{x:V}{t:jp}(I:be X xz σ H s)(rx:bv x u)(ty:md X.K H x t)(e:PySem.W.kitOne X.K t c=some b)(h:∀tk,Q (.bool b) {s with toks:=tk}):wpAny (model X.prog X.w) A (call (.builtin "isinstance") [u,c]) Q E s:=by
 cases ty with
 |bw=>cases(show u=Value.none from rx);exact C0 PySem.W.kitx_none I.sE True.intro e (λ z=>nomatch z) h
 |bl y=>cases(show u=Value.bool y from rx);exact C0 PySem.W.kitx_bool I.sE True.intro e (λ z=>nomatch z) h
 |int i=>obtain⟨t,q⟩:=(show ∃t,u=Value.int i t from rx);cases q;exact C0 PySem.W.kitx_int I.sE True.intro e (λ z=>nomatch z) h
 |str y=>obtain⟨t,q⟩:=(show ∃t,u=Value.str y t from rx);cases q;exact C0 PySem.W.kitx_str I.sE True.intro e (λ z=>nomatch z) h
 |PN y=>obtain⟨t,q⟩:=(show ∃t,u=Value.float y t from rx);cases q;exact C0 PySem.W.kitx_float I.sE True.intro e (λ z=>nomatch z) h
 |@lst a xs ea=>cases(show u=Value.ref a from rx);obtain⟨_,_,n,_,h1⟩:=(show bA X.prog X.w H s.heap a (.lst xs)from I.bx a _ ea);exact C0 PySem.W.kitx_list I.sE ⟨_,h1,rfl⟩ e (λ z=>nomatch z) h
 |@eD a ob xs ea=>cases(show u=Value.ref a from rx);obtain⟨_,_,_,n,_,h1⟩:=(show bA X.prog X.w H s.heap a (.eD ob (.lst xs))from I.bx a _ ea);exact C0 PySem.W.kitx_list I.sE ⟨_,h1,rfl⟩ e (λ z=>nomatch z) h
 |@tup a xs ea=>cases(show u=Value.ref a from rx);obtain⟨_,_,_,p⟩:=(show bA X.prog X.w H s.heap a (.tup xs)from I.bx a _ ea);obtain⟨o,h1,h2,_⟩:=p;exact C0 PySem.W.kitx_tuple I.sE ⟨o,h1,h2⟩ e (λ z=>nomatch z) h
 |@dK a kvs ea=>cases(show u=Value.ref a from rx);obtain⟨_,_,vs,_,p⟩:=(show bA X.prog X.w H s.heap a (.dK kvs)from I.bx a _ ea);obtain⟨o,es,ep,h1,h2,_⟩:=p;exact C0 PySem.W.kitx_dict I.sE ⟨o,h1,h2.1⟩ e (λ z=>nomatch z) h
 |@dT a kvs ea=>cases(show u=Value.ref a from rx);obtain⟨_,_,xs,_,o,es,ep,h1,h2,_⟩:=(show bA X.prog X.w H s.heap a (.dT kvs)from I.bx a _ ea);exact C0 PySem.W.kitx_dict I.sE ⟨o,h1,h2.1⟩ e (λ z=>nomatch z) h
 |@ins a C dx fs ea cl ha hn WR hm=>cases(show u=Value.ref a from rx);obtain⟨mA,O,_⟩:=Jv I.bx ea;obtain⟨od,J,_⟩:=O.look;exact C0 (PySem.W.kitx_own (cl.get _) cl.hd ha hn WR hm) I.sE J e (λ z=>nomatch z) h
end
structure de(k:Nat)(A:Around):Prop where
 hd:A.handled=none
 dp:A.depth+2*k+5 < recursionLimit
 un:A.units+16*k+200 < cLine
theorem de.mono(r:de k A)(h:j<=k):de j A:=⟨r.hd,by have:=r.dp;lia,by have:=r.un;lia⟩
theorem de.deeper(r:de (k+1) A)(env:Env):de k (A.deeper env):=
 ⟨r.hd,by have:=r.dp;show A.depth+1+2*k+5 < _;lia,by have:=r.un;show A.units+3+16*k+200 < _;lia⟩
theorem de.in1(r:de (k+1) A):de k A.in1:=
 ⟨r.hd,by have:=r.dp;show A.depth+2*k+5 < _;lia,by have:=r.un;show A.units+1+16*k+200 < _;lia⟩
theorem de.depth(r:de k A):A.depth < recursionLimit:=by have:=r.dp;lia
theorem de.units(r:de k A):A.units+64 < cLine:=by have:=r.un;lia
def LI:TA:=λ _ H Q=>Q [] H
def Ci(ta:TE)(tr:TA):TA:=λ σ H Q=>ta σ H λ x H1=>tr σ H1 λ xs H2=>Q (x::xs) H2
section
variable {X:Cx}{te:TE}{t:TA}{pos:Pos}
theorem nV:PA X [] LI:=λ _ _ _ _ H Q I h=>Calls.spliced_nil ⟨[],H,I,.nil,h⟩
theorem jS(ha:PE X e te)(hr:PA X es t)(hs:starEach (e::es) X.env=(false,eval e X.env)::starEach es X.env:=by rfl):PA X (e::es) (Ci te t):=by intro pos xz s σ H Q I h;rw[hs];show wpAny _ _ (spliced ((false,eval e X.env)::backTo pos (starEach es X.env))) _ _ s;refine Calls.spliced_cons (dG (ha xz s σ H _ I h) λ u s1 ⟨x,H1,I1,r1,q1⟩=>?_);exact dG (hr pos xz s1 σ H1 _ I1 q1) λ us s2 ⟨xs,H2,I2,r2,q2⟩=>⟨x::xs,H2,I2,.cons r1 r2,q2⟩
def Ua(t:TA):TE:=λ σ H Q=>t σ H λ xs H1=>xs.length<=sizeLine/\∀p,H1 p=none->Q (.ref p) (ci H1 p (.tup xs))
def Ue(t:TA):TE:=λ σ H Q=>t σ H λ xs H1=>xs.length<=sizeLine/\∀p,H1 p=none->Q (.ref p) (ci H1 p (.lst xs))
theorem Nj{x1:_}(h:PA X es t):PE X (.Tuple es x1 pos) (Ua t):=by intro xz s σ H Q I hq;refine wpAny_Tuple_spliced (dG (h pos xz s σ H _ I hq) λ us s1 ⟨xs,H1,I1,r,z,q⟩=>⟨by rw[<- r.length];exact z,?_⟩);have hf:H1 s1.heap.objs.size=none:=I1.bx.fresh (J7 _);refine⟨.ref s1.heap.objs.size,ci H1 s1.heap.objs.size (.tup xs),I1.laid (t':=s1.toks) (λ b u e=>j3 _ e) (J7 _) ?_,rfl,q _ hf⟩;exact⟨z,us,r,⟨_,m7 _ rfl,rfl,_,rfl⟩⟩
theorem Nn(h:PA X es t):PE X (.List es pos) (Ue t):=by intro xz s σ H Q I hq;refine wpAny_List_spliced (dG (h pos xz s σ H _ I hq) λ us s1 ⟨xs,H1,I1,r,z,q⟩=>⟨by rw[<- r.length];exact z,?_⟩);have hf:H1 s1.heap.objs.size=none:=I1.bx.fresh (J7 _);refine⟨.ref s1.heap.objs.size,ci H1 s1.heap.objs.size (.lst xs),I1.laid (t':=s1.toks) (λ b u e=>j3 _ e) (J7 _) ?_,rfl,q _ hf⟩;exact⟨z,us,0,r,m7 _ rfl⟩
end
abbrev Sp:=List V->Hp->VK->XK->Prop
abbrev Gd:=List Env->Hp->kt->XK->jp->kt->Prop
structure tM(P:Program)(w:World)(K:L6)(mg:Str->Option jp)(base:Heap)(A:Around)(outer:List Env)(s:kt)(H:Hp):Prop where
 frames:A.frames=some outer
 mod:Mod K mg base
 bs:∀b o,base.get? b=some o->s.heap.get? b=some o/\H b=none
 FO:base.objs.size<=s.heap.objs.size
 lr:s.heap.FunFrames base outer
 Ld:∀b∈Bt outer,H b=none
 bx:jv P w H s.heap
 bare:AllBare s.gens
def CE(outer:List Env)(P:Program)(w:World)(H:Hp)(s:kt)(Q:VK)(u:jp)(s':kt):Prop:=
 ∃v H',s'.os=s.os/\AllBare s'.gens/\Un (Bt outer) [] H H' s.heap s'.heap/\jv P w H' s'.heap/\bv v u/\Q v H'
def CR(CX:Gd)(outer:List Env)(P:Program)(w:World)(H:Hp)(s:kt)(Q:VK)(E:XK)(r:Result)(s':kt):Prop:=
 match r with
 | .ok (.ret u)=>CE outer P w H s Q u s'
 | .ok _=>False
 | .error e=>CX outer H s E e s'
structure cE(P:Program)(w:World)(K:L6)(mg:Str->Option jp)(base:Heap)(CX:Gd)(k:Nat)(f:ww)(fd:FuncData)(ps:List Str)(sp:Sp):Prop where
 len:∀vs H Q E,sp vs H Q E->vs.length=ps.length
 run:∀(A:Around) (outer:List Env) (s:kt) (H:Hp) (args:Args) (us:List jp) (vs:List V) (Q:VK) (E:XK),de k A->tM P w K mg base A outer s H->BindsTo s fd args (ps.zip us)->ce vs us->sp vs H Q E->
  codeAny (model P w) A (.call (.ref f) args) (CR CX outer P w H s Q E) s
theorem tM.in1{outer:List Env}{H:Hp}(e:tM P w K mg base A outer s H):tM P w K mg base A.in1 outer s H:=⟨e.frames,e.mod,e.bs,e.FO,e.lr,e.Ld,e.bx,e.bare⟩
section
variable {X:Cx}{σ:St}{H:Hp}{s':kt}
theorem be.R_(I:be X xz σ H s):tM X.prog X.w X.K X.mg X.base X.A X.stack s H:=
 ⟨I.ok.frames,I.ok.mod,I.bs,J0 I.ok.FO I.sz,I.stack,I.yb,I.bx,I.bare⟩
theorem be.after{Q:VK}(I:be X xz σ H s)(h:CE X.stack X.prog X.w H s Q u s'):EP X xz σ Q u s':=by obtain⟨v,H',os,bare,un,bx,r,q⟩:=h;obtain⟨hh,g,d,t,UJ⟩:=s';obtain rfl:UJ=s.os:=os;exact⟨v,H',I.call (h':=hh) (g':=g) (d':=d) (t':=t) (ch:=[]) un bx bare (λ b z=>absurd z (by simp)),r,q⟩
end
def Ko(sp:Sp)(Fw:List V)(E:XK)(t:TA):TE:=λ σ H Q=>t σ H λ vs H1=>sp (vs++Fw) H1 Q E
def Binds(K:L6)(fd:FuncData)(ps:List Str)(ds:List jp):Prop:=
 ∀(s:kt) (us:List jp),K.In s.heap->(us++ds).length=ps.length->BindsTo s fd ⟨us,[]⟩ (ps.zip (us++ds))
theorem Binds.all(h:∀us:List jp,us.length=ps.length->bindArgs fd ⟨us,[]⟩=pure (ps.zip us)):Binds K fd ps []:=λ s us _ hl=>by rw[B0]at hl ⊢;exact .of_eq (h us hl)
def Passes(CX:Gd)(X:Cx)(E:XK):Prop:=∀(xz:List (ww×Obj)) (σ:St) (H:Hp) (s:kt) (e:jp) (s':kt),be X xz σ H s->CX X.stack H s E e s'->X.xe e s'
section
variable {X:Cx}{CX:Gd}{C:ww}{sp:Sp}{Fw:List V}{ds:List jp}{E:XK}{m:Str}{p pos:Pos}{o:Expr}{ta:TE}{t:TA}
theorem L_{σ:St}{H:Hp}{Q:VK}{vs:List V}(F:cE X.prog X.w X.K X.mg X.base CX k f fd ps sp)(hr:de k X.A)(hb:Binds X.K fd ps ds)(hd:ce Fw ds)(hx:Passes CX X E) (I:be X xz σ H s) (r:ce vs us) (h:sp (vs++Fw) H Q E):wpAny (model X.prog X.w) X.A (call (.ref f) us) (EP X xz σ Q) X.xe s:=by
 have r2:ce (vs++Fw) (us++ds):=r.append hd;have hl:(us++ds).length=ps.length:=by rw[<- r2.length];exact F.len _ _ _ _ h
 refine wpAny_call (J4 (F.run X.A X.stack s H ⟨us,[]⟩ (us++ds) (vs++Fw) Q E hr I.R_ (hb s us I.sE hl) r2 h) λ r s' hq=>?_);cases r with
 |error e=>exact hx xz σ H s e s' I hq
 |ok fl=>
  cases fl with
  |ret u=>exact I.after hq
  |next=>exact False.elim hq
  |brk=>exact False.elim hq
  |cont=>exact False.elim hq
theorem Iw(F:cE X.prog X.w X.K X.mg X.base CX k f fd ps sp)(hr:de k X.A)(hg:Gl X x)(hm:X.mg x=some (.ref f))(hk:PySem.W.keepIn X.K (.ref f)=true)(hb:Binds X.K fd ps ds)(hd:ce Fw ds)(hx:Passes CX X E) (ha:PA X (e::es) t) (hdb:(x==("__debug__":Str))=false:=by decide) (he:starEach (e::es) X.env=(false,eval e X.env)::starEach es X.env:=by rfl) (hpl:(backTo pos (starEach es X.env)).any (·.1)=false:=by rfl):PE X (.Call (.Name x p) (e::es) [] pos) (Ko sp Fw E t):=by intro xz s σ H Q I h;refine p9 (Jh I hg hm ?_ hdb);refine PySem.W.callWith_K (h₀:=X.base) I.ok.mod.Tj hk (dG (ha pos xz s σ H _ I h) λ us s1 ⟨vs,H1,I1,r,q⟩=>⟨I1.sE,?_⟩) he hpl;exact L_ F hr hb hd hx I1 r q
end
def PK(X:Cx)(Rp:List Keyword)(t:TA):Prop:=
 ∀(pos:Pos) (xz:List (ww×Obj)) (s:kt) (σ:St) (H:Hp) (Q:List V->Hp->Prop),be X xz σ H s->t σ H Q->wpAny (model X.prog X.w) X.A (evalAll ((backToKw pos (keywordEach Rp X.env)).map (·.2))) (AP X xz σ Q) X.xe s
section
variable {X:Cx}{CX:Gd}{C:ww}{ks:List Str}{sp:Sp}{E:XK}{m:Str}{p pos U0:Pos}{o:Expr}{Rp:List Keyword}{te ta:TE}{t tk:TA}{nm:Option Str}
theorem Nf:PK X [] LI:=λ _ _ _ _ H Q I h=>wpAny_evalAll_nil ⟨[],H,I,.nil,h⟩
theorem Ik(ha:PE X e te)(hr:PK X Rp t):PK X (⟨nm,e,U0⟩::Rp) (Ci te t):=by intro pos xz s σ H Q I h;show wpAny _ _ (evalAll ((do let v <- eval e X.env;standAt pos;pure v)::(backToKw pos (keywordEach Rp X.env)).map (·.2))) _ _ s;refine wpAny_evalAll_cons (K1 (dG (ha xz s σ H _ I h) λ u s1 ⟨x,H1,I1,r1,q1⟩=>K1 (wpAny_standAt (K2 ?_))));exact dG (hr pos xz s1 σ H1 _ I1 q1) λ us s2 ⟨xs,H2,I2,r2,q2⟩=>⟨x::xs,H2,I2,.cons r1 r2,q2⟩
variable {g:List jp->List jp->List jp}{gV:List V->List V->List V}
end
structure aS(N P:List Str)(sc:Scope):Prop where
 kind:sc.kind=.function
 co:sc.isCoroutine=false
 gen:sc.isGenerator=false
 nd:N.Nodup
 pre:N.take P.length=P
 par:∀x∈P,sc.names.lookup x=some .local\/sc.names.lookup x=some .cell
 NW:∀y∈sc.names,y.2≠.free
theorem rq:∀{binds:List (Str×jp)} {m:Str->Option jp},(∀v,(x,v)∉binds)->bindL kindOf binds m x=m x
 |[],_,_=>rfl
 |(n,v)::r,m,h=>by
  unfold bindL;rw[rq λ w hw=>h w (k7 _ hw)];split
  ·have:x≠n:=by rintro rfl;exact h v n6
   simp[this]
  ·rfl
theorem rB:∀{binds:List (Str×jp)} {m:Str->Option jp},(∀v,(x,v)∉binds)->bindC kindOf binds m x=m x
 |[],_,_=>rfl
 |(n,v)::r,m,h=>by
  unfold bindC;rw[rB λ w hw=>h w (k7 _ hw)];split
  ·rfl
  ·have:x≠n:=by rintro rfl;exact h v n6
   simp[this]
theorem rA{v:jp}:∀{P:List Str} {vs:List jp} {i:Nat} {m:Str->Option jp},P.Nodup->P[i]?=some x->vs[i]?=some v->kindOf x=some .local->
  bindL kindOf (P.zip vs) m x=some v
 |[],_,_,_,_,h,_,_=>by simp at h
 |_::_,[],_,_,_,_,h,_=>by simp at h
 |p::P,w::vs,0,m,nd,h1,h2,hk=>by simp at h1 h2;subst h1;subst h2;show bindL kindOf ((p,w)::P.zip vs) m p=_;unfold bindL;rw[rq λ v hv=>(nodup_cons.mp nd).1 (of_mem_zip hv).1,K9 hk];simp
 |p::P,w::vs,i+1,m,nd,h1,h2,hk=>by show bindL kindOf ((p,w)::P.zip vs) m x=_;unfold bindL;exact rA (i:=i) (nodup_cons.mp nd).2 (by simpa using h1) (by simpa using h2) hk
theorem rC{v:jp}:∀{P:List Str} {vs:List jp} {i:Nat} {m:Str->Option jp},P.Nodup->P[i]?=some x->vs[i]?=some v->kindOf x≠some .local->
  bindC kindOf (P.zip vs) m x=some v
 |[],_,_,_,_,h,_,_=>by simp at h
 |_::_,[],_,_,_,_,h,_=>by simp at h
 |p::P,w::vs,0,m,nd,h1,h2,hk=>by simp at h1 h2;subst h1;subst h2;show bindC kindOf ((p,w)::P.zip vs) m p=_;unfold bindC;rw[rB λ v hv=>(nodup_cons.mp nd).1 (of_mem_zip hv).1,L1 hk];simp
 |p::P,w::vs,i+1,m,nd,h1,h2,hk=>by show bindC kindOf ((p,w)::P.zip vs) m x=_;unfold bindC;exact rC (i:=i) (nodup_cons.mp nd).2 (by simpa using h1) (by simpa using h2) hk
def start(N:List Str)(vs:List V):St:=vs.map some++List.replicate (N.length - vs.length) none
def pZ(CX:Gd)(P:Program)(w:World)(K:L6)(mg:Str->Option jp)(base:Heap)(N:List Str)(qual:Str)(scope:Scope)(f:ww)(cd:jp)(A:Around)(outer:List Env)(s:kt)(H:Hp)(E:XK):Cx where
 prog:=P
 w:=w
 K:=K
 mg:=mg
 base:=base
 A:=A.deeper (envOfC qual scope s.heap.objs.size f cd)
 N:=N
 s₀:=s
 H₀:=H
 env:=envOfC qual scope s.heap.objs.size f cd
 outer:=outer
 stack:=envOfC qual scope s.heap.objs.size f cd::outer
 ex:=[]
 calm:=true
 fn:=λ _=>true
 pn:=[]
 xe:=λ e s'=>wpAny (model P w) (A.deeper (envOfC qual scope s.heap.objs.size f cd)) (leaving (envOfC qual scope s.heap.objs.size f cd) e) (λ _ Pw=>CX outer H s E e Pw) (λ e' Pw=>CX outer H s E e' Pw) s'
theorem vu{sc:Scope}(h:sc.names.lookup x=some .cell):∃c,(cellsFrom n sc.names []).lookup x=some c:=by have q:=PySem.W.cellsFrom_some sc.names n [] (.inl h);exact Option.isSome_iff_exists.mp q
theorem Bh{CX:Gd}{N:List Str}{cd:jp}{outer:List Env}{s1:kt}{H:Hp}{E:XK}{vs:List V} (S:aS N ps scope) (hd:A.handled=none) (e0:tM P w K mg base A outer s H) (hl:vs.length=ps.length) (r:ce vs us) (x:InCallC s s.heap.objs.size (bindL (envOfC qual scope s.heap.objs.size f cd).kindOf (ps.zip us) λ _=>none) (cellsFrom (s.heap.objs.size+1) scope.names []) (bindC (envOfC qual scope s.heap.objs.size f cd).kindOf (ps.zip us) λ _=>none) s1):be (pZ CX P w K mg base N qual scope f cd A outer s H E) [] (start N vs) H s1:=by
 have hpl:ps.length<=N.length:=by have:=K7 List.length S.pre;rw[A2]at this;lia
 obtain⟨h1,tk,rfl,hk⟩:=x.done;have D':∀b:ww,b∉(pZ CX P w K mg base N qual scope f cd A outer s H E).ex:=λ b z=>absurd (show b∈([]:List ww)from z) (by simp);refine⟨⟨e0.mod,S.kind,rfl,rfl,J7 _,λ y z c h1 h2=>?_,λ y hy=>?_,λ y c _ h=>?_,λ _=>hd,Around.frames_deeper e0.frames,.inr ⟨rfl,rfl⟩,λ b z=>absurd z (D' b),e0.bs,e0.FO,λ b _ _=>D' b,λ b z=>absurd z (D' b),e0.lr,e0.Ld⟩,
  rfl,e0.bare,Un.kept hk,⟨_,x.toInCall.ns,λ i y v h1 h2 h3=>?_⟩,λ y c h=>⟨_,x.cell y c h⟩,e0.bx.fresh (J7 _),λ y c h=>?_,λ p hp=>absurd (show p∈([]:List (ww×Obj))from hp) (by simp),e0.bx.kept hk,?_⟩
 ·exact name_of_addr x.apart (l8 h1) (l8 h2)
 ·have hy:scope.names.lookup y=some .cell\/scope.names.lookup y=some .free:=hy;rcases hy with hy|hy
  ·exact vu hy
  ·exact absurd rfl (S.NW _ (l8 hy))
 ·exact J6 (x.above y c (l8 h))
 ·have hi:i < vs.length:=by
   unfold start at h2;by_cases hi:i < vs.length
   ·exact hi
   ·rw[a9 (by simpa using hi)]at h2;rw[i9]at h2;split at h2 <;> cases h2
  have ha:vs[i]?=some v:=by
   unfold start at h2;rw[c8 (by simpa using hi),u7]at h2;cases e:vs[i]? with
   |none=>rw[e]at h2;cases h2
   |some a=>rw[e]at h2;cases h2;rfl
  obtain⟨u,hu,rv⟩:=r.get ha;have hp:ps[i]?=some y:=by rw[<- S.pre,getElem?_take_of_lt (by lia)];exact h1
  have WC:ps.Nodup:=by rw[<- S.pre];exact S.nd.sublist (take_sublist _ _)
  refine⟨u,rv,?_⟩;rcases S.par y (k8 hp)with k|k
  ·exact .inl ⟨k,rA WC hp hu k⟩
  ·obtain⟨c,e⟩:=vu (n:=s.heap.objs.size+1) k;refine .inr ⟨.inl k,c,e,?_⟩;have q:=x.cell y c e;rw[rC WC hp hu (by show scope.names.lookup y≠_;rw[k];decide)]at q;exact q
 ·exact e0.bx.fresh (J6 (x.above y c (l8 h)))
 ·unfold start;show _=N.length;rw[o6,C1,k4];lia
theorem Le{CX:Gd}{P:Program}{w:World}{K:L6}{mg:Str->Option jp}{base:Heap}{k:Nat}{f:ww}{name qual:Str}{params:Arguments}{body:List Stmt}{scope:Scope}{dV kV doc pm dQ ct oc:jp}{an od:Option ww} {wJ:Array (Option jp)} {N ps:List Str} {sp:Sp} (lk:K.lookup f=some ⟨oc,od,.func (PySem.W.fnOf name qual params body scope dV kV doc pm an dQ ct),wJ⟩) (hcd:PySem.W.codeIn K dQ qual=true) (S:aS N ps scope) (len:∀vs H Q E,sp vs H Q E->vs.length=ps.length) (eJ:∀(A:Around) (outer:List Env) (s:kt) (H:Hp) (vs:List V) (Q:VK) (E:XK),de k (A.deeper (envOfC qual scope s.heap.objs.size f dQ))->sp vs H Q E->
   ∃t,vL (pZ CX P w K mg base N qual scope f dQ A outer s H E) body t/\t {nx:=λ _ H'=>Q .bw H',rt:=Q} (start N vs) H):
  cE P w K mg base CX (k+1) f (PySem.W.fnOf name qual params body scope dV kV doc pm an dQ ct) ps sp:=by
 refine⟨len,λ A outer s H args us vs Q E hr e0 hb r Bl=>?_⟩;have hl:=len _ _ _ _ Bl;have KX:K.In s.heap:=e0.mod.Tj.keeps λ b o e=>(e0.bs b o e).1;have lim:s.heap.NoLimit:=e0.mod.nolimit.keeps λ b o e=>(e0.bs b o e).1;have lL:∀y∈ps.zip us,scope.names.lookup y.1=some .local\/(scope.names.lookup y.1=some .cell/\((cellsFrom (s.heap.objs.size+1) scope.names []).lookup y.1).isSome=true):=λ⟨n,v⟩ hy=>by
  rcases S.par n (of_mem_zip hy).1 with q|q
  ·exact .inl q
  ·exact .inr ⟨q,PySem.W.cellsFrom_some _ _ _ (.inl q)⟩
 refine codeAny_call_function hr.depth (KX _ _ lk) rfl S.co S.gen rfl (PySem.W.codeRec_of KX hcd) (hb _ _ _ _ ?_);refine wpAny_newFunctionEnv_cells S.kind lL λ env he s1 x=>?_;subst he;refine⟨lim.keeps x.toInCall.keep,codeAny_func ?_⟩;obtain⟨t,ht,hq⟩:=eJ A outer s H vs Q E (hr.deeper _) Bl;have I:be (pZ CX P w K mg base N qual scope f dQ A outer s H E) [] (start N vs) H s1:=Bh S hr.hd e0 hl r x;refine K5 (ht [] s1 (start N vs) H _ I hq) (λ fl s' hs=>?_) λ e s' hs=>hs;have fin:∀{σ':St} {H':Hp} {v:V} {u:jp},be (pZ CX P w K mg base N qual scope f dQ A outer s H E) [] σ' H' s'->bv v u->Q v H'->CE outer P w H s Q u s':=
  λ{σ' H' v u} J rv q=>⟨v,H',J.os,J.bare,J.base,J.bx,rv,q⟩
 cases fl with
 |ret u=>obtain⟨v,σ',H',J,rv,q⟩:=hs;exact fin J rv q
 |next=>obtain⟨σ',H',J,q⟩:=hs;exact fin (v:=V.bw) (u:=Value.none) J rfl q
 |brk=>obtain⟨_,_,_,q⟩:=hs;exact False.elim q
 |cont=>obtain⟨_,_,_,q⟩:=hs;exact False.elim q
section
variable {X:Cx}{p pos:Pos}{t:TA}{id:String}{r:List V->Hp->VK->Prop}
def SW(r:List V->Hp->VK->Prop)(t:TA):TE:=λ σ H Q=>t σ H λ vs H1=>r vs H1 Q
theorem uD(hc:c_ X (.builtin id) r)(hg:Gl X x)(hm:X.mg x=none)(hv:bootBuiltins x=some (.builtin id))(ha:PA X (e::es) t)(hn:x≠"__name__":=by decide)(hdb:(x==("__debug__":Str))=false:=by decide) (he:starEach (e::es) X.env=(false,eval e X.env)::starEach es X.env:=by rfl) (hpl:(backTo pos (starEach es X.env)).any (·.1)=false:=by rfl):PE X (.Call (.Name x p) (e::es) [] pos) (SW r t):=by intro xz s σ H Q I h;refine p9 (fA I hg hm hv ?_ hn hdb);exact PyProof.Rows.callWith_builtin1 (dG (ha pos xz s σ H _ I h) λ us s1 ⟨vs,H1,I1,r1,q1⟩=>hc xz s1 σ H1 vs us Q I1 r1 q1) he hpl
theorem f'(hc:c_ X (.type T) r)(hg:Gl X x)(hm:X.mg x=none)(hv:bootBuiltins x=some (.type T))(ha:PA X (e::es) t)(hn:x≠"__name__":=by decide)(hdb:(x==("__debug__":Str))=false:=by decide) (he:starEach (e::es) X.env=(false,eval e X.env)::starEach es X.env:=by rfl) (hpl:(backTo pos (starEach es X.env)).any (·.1)=false:=by rfl):PE X (.Call (.Name x p) (e::es) [] pos) (SW r t):=by intro xz s σ H Q I h;refine p9 (fA I hg hm hv ?_ hn hdb);exact a7 (dG (ha pos xz s σ H _ I h) λ us s1 ⟨vs,H1,I1,r1,q1⟩=>hc xz s1 σ H1 vs us Q I1 r1 q1) he hpl
end
end L2
variable {X:L2.Cx}{H H1 H':L2.Hp}{xs:List L2.V}{σ:L2.St}{kvs:List (List L2.Key×L2.V)}{v y:L2.V}{sp:L2.Sp}{ta:L2.TA}
namespace HT
open PyProof.Rows
def lexLt:List Int->List Int->Bool
 |[],[]=>false
 |[],_::_=>true
 |_::_,[]=>false
 |x::xs,y::ys=>if x=y then lexLt xs ys else decide (x < y)
theorem cJ(x y:Int)(xs ys:List Int):lexLt (x::xs) (y::ys)=if x=y then lexLt xs ys else decide (x < y):=rfl
theorem cR:lexLt [] []=false:=rfl
theorem cA(y:Int)(ys:List Int):lexLt [] (y::ys)=true:=rfl
theorem cB(x:Int)(xs:List Int):lexLt (x::xs) []=false:=rfl
theorem Fs(A:Around)(s:kt)(a:Int)(t:Tok)(c:Int)(u:Tok):∃e,SeqAt.EqAt A s (.int a t) (.int c u) e/\(e=true↔a=c):=
 ⟨(a==c),SeqAt.EqAt.int_int a t c u,by simp⟩
theorem nR(A:Around)(s:kt)(a:Int)(t:Tok)(c:Int)(u:Tok)(prog:Program)(w:World)(E:jp->kt->Prop)(Q:jp->kt->Prop)(h:Q (.bool (decide (a < c))) s):wpAny (model prog w) A (richCompare .Lt (.int a t) (.int c u)) Q E s:=
 (PyProof.Rows.lt_int h:wpAny (model prog w) A (compareOp .Lt (.int a t) (.int c u)) Q E s)
section
open PySem.SeqAt
open PySem.AutoSeq1 (wpAny_loadPart')
open PySem.MeetsSeq PySem.MeetsSeq2 PySem.MeetsSeq3
theorem pJ(l b:ww)(ad fS:Array jp)(n n2:Nat)(dd PO:Option ww)(sl Pq:Array (Option jp))(ns ms:List Int)(hi:IntsAre ad.toList ns)(hj:IntsAre fS.toList ms):Meets (Builtin.«tuple.__lt__» ⟨[.ref l,.ref b],[]⟩)
   (λ _ R s=>s.heap.get? l=some {cls:=.type "tuple",dict:=dd,data:=.seq ad n,slots:=sl}/\s.heap.get? b=some {cls:=.type "tuple",dict:=PO,data:=.seq fS n2,slots:=Pq}/\
    R (.ok (.ret (.bool (lexLt ns ms)))) s):=
 .of_wp λ prog w A R s h=>by
  obtain⟨hp,g,d,tk,os⟩:=s;obtain⟨hl,hb,h⟩:=h;have f2:=AutoSeq1.sub_tuple_tuple;have z1:ad.size=ns.length:=by rw[<- hi.length];simp
  have z2:fS.size=ms.length:=by rw[<- hj.length];simp
  wp_walk using B4 hl,B4 hb,wpAny_forIn_list _ (λ rest b s'=>b.1=none/\s'=⟨hp,g,d,tk,os⟩/\∃(vs ws:List jp) (eM Py:List Int),rest=vs.zip ws/\
   IntsAre vs eM/\IntsAre ws Py/\eM.length+fS.size=Py.length+ad.size/\R (.ok (.ret (.bool (lexLt eM Py)))) ⟨hp,g,d,tk,os⟩) _
  case turn=>
   rintro⟨y,x⟩ rest b s' ⟨JG,rfl,vs,ws,eM,Py,hz,Vc,Tp,hlen,hR⟩;cases Vc with
   |nil=>rw[zip_nil_left]at hz;cases hz
   |cons a t Vb=>
    cases Tp with
    |nil=>rw[zip_nil_right]at hz;cases hz
    |cons c u U'=>
     rw[zip_cons_cons]at hz;injection hz with Ym zj
     injection Ym with hy hx
     subst hy hx;rw[cJ]at hR;simp only[y8]at hlen;obtain⟨e,he,RN⟩:=Fs A.in1 ⟨hp,g,d,tk,os⟩ a t c u;refine K1 (he prog w _ _ ?_);cases e with
     |true=>
      rw[K9 (RN.mp rfl)]at hR
      wp_walk
      exact⟨rfl,rfl,_,_,_,_,zj,Vb,U',by lia,hR⟩
     |false=>
      rw[L1 (λ q=>absurd (RN.mpr q) n9)]at hR;have YD:=nR A.in1 ⟨hp,g,d,tk,os⟩ a t c u prog w
      wp_walk using YD
      exact⟨_,rfl,by simpa using hR⟩
  case fin=>
   rintro⟨b1,b2⟩ s' ⟨JG,rfl,vs,ws,eM,Py,hz,Vc,Tp,hlen,hR⟩;simp only at JG;subst JG;have hv:lexLt eM Py=decide (ad.size < fS.size):=by
    cases Vc with
    |nil=>
     cases Tp with
     |nil=>simp only[length_nil]at hlen;rw[cR];exact(B3 (by lia)).symm
     |cons c u hw=>simp only[length_nil,y8]at hlen;rw[cA];exact(C8 (by lia)).symm
    |cons a t hv=>
     cases Tp with
     |nil=>simp only[length_nil,y8]at hlen;rw[cB];exact(B3 (by lia)).symm
     |cons c u hw=>rw[zip_cons_cons]at hz;cases hz
   rw[hv]at hR
   wp_walk
   exact⟨_,rfl,by simpa[Builtin.Tuple.tupleCompareSizes]using hR⟩
  case h=>
   exact⟨rfl,rfl,ad.toList,fS.toList,ns,ms,rfl,hi,hj,by lia,h⟩
end
theorem wR{l b:ww}{ad fS:Array jp}{ms:List Int}(hl:IsTup s.heap l ad)(hb:IsTup s.heap b fS)(hi:IntsAre ad.toList ns)(hj:IntsAre fS.toList ms) (hu:A.units < cLine) (h:Q (.bool (lexLt ns ms)) s):wpAny (model prog w) A (compareOp .Lt (.ref l) (.ref b)) Q E s:=by
 obtain⟨⟨cls,dd,data,sl⟩,ho,hc,n,hd⟩:=id hl;obtain⟨⟨V8,PO,data2,Pq⟩,JE,JF,n2,hd2⟩:=id hb;simp only at hc hd JF hd2;subst hc hd JF hd2;exact richCompare_meets_room (op:=.Lt) ⟨_,ho,rfl⟩ ⟨_,JE,rfl⟩ PySem.F.slot_tuple_lt PySem.F.entry_tuple_lt (PySem.F.args_tuple_lt_2 _ _) (pJ l b ad fS n n2 dd PO sl Pq ns ms hi hj)
  ⟨ho,JE,show Value.bool (lexLt ns ms)≠Value.notImplemented/\Q (.bool (lexLt ns ms)) s from⟨(λ x=>nomatch x),h⟩⟩ hu
theorem J_{t b:ww}{ws:List jp}(ht:IsTup s.heap t vs.toArray)(hb:IsTup s.heap b ws.toArray)(hv:vs≠[]) (h1:ws=[]->Q (.ref t) s) (h2:ws≠[]->Q (.ref s.heap.objs.size) {s with heap:=s.heap.push {cls:=.type "tuple",data:=.seq (vs++ws).toArray}}) (hsz:vs.length+ws.length<=sizeLine):wpAny (model prog w) A (binaryOp .Add (.ref t) (.ref b)) Q E s:=by
 obtain⟨⟨cls,dd,data,sl⟩,ho,hc,n,hd⟩:=id ht;obtain⟨⟨V8,PO,data2,Pq⟩,JE,JF,n2,hd2⟩:=id hb;simp only at hc hd JF hd2;subst hc hd JF hd2;have e:vs.toArray++ws.toArray=(vs++ws).toArray:=by simp
 by_cases hw:ws=[]
 ·exact concat_meets ⟨_,ho,rfl⟩ ⟨_,JE,rfl⟩ noFill_tuple_add seq_tuple_add PySem.F.slot_tuple_add PySem.F.entry_tuple_add (PySem.F.args_tuple_add_2 _ _)
   (tuple_addW1 t b vs.toArray ws.toArray n n2 dd PO sl Pq (by simpa using hv) (by simp[hw])) ⟨ho,JE,h1 hw⟩
 ·refine concat_meets ⟨_,ho,rfl⟩ ⟨_,JE,rfl⟩ noFill_tuple_add seq_tuple_add PySem.F.slot_tuple_add PySem.F.entry_tuple_add (PySem.F.args_tuple_add_2 _ _)
   (tuple_addW2 t b vs.toArray ws.toArray n n2 dd PO sl Pq (by simpa using hv) (by simpa using hw) (by rw[y0,y0];exact hsz)) ⟨ho,JE,?_⟩
  rw[e];exact h2 hw
end HT
namespace L2
open PySem.Spec PyProof.Rows
theorem intsAre_of:∀{us:List jp},ce (ns.map V.int) us->IntsAre us ns:=by
 induction ns with
 |nil=>intro us r;rw[map_nil]at r;cases r;exact .nil
 |cons n ns ih=>
  intro us r;rw[G4]at r;cases r with
  |cons r1 r2=>obtain⟨t,e⟩:=r1;subst e;exact .cons n t (ih r2)
section
variable {te:TE}{lo hi:Option Expr}{tl th:TO}{pos:Pos}
def Qz(K:L6):R2:=λ x y H Q=>∃a b xs ys,x=.ref a/\y=.ref b/\gn K H a xs/\gn K H b ys/\xs≠[]/\xs.length+ys.length<=sizeLine/\
 (ys=[]->Q (.ref a) H)/\(ys≠[]->∀p,H p=none->Q (.ref p) (ci H p (.tup (xs++ys))))
theorem ce.sk(r:ce xs us):us=[]↔xs=[]:=by
 cases r with
 |nil=>simp
 |cons _ _=>simp
theorem IE:gp X (binaryOp .Add) (Qz X.K):=by intro xz s σ H x y v u Q I rx ry h;obtain⟨a,b,xs,ys,rfl,rfl,ha,hb,hx,hz,q1,q2⟩:=h;cases rx;cases ry;obtain⟨ay,r1,p1,_⟩:=I.tuple ha;obtain⟨uS,r2,p2,_⟩:=I.tuple hb;refine HT.J_ p1 p2 (λ z=>hx (r1.sk.mp z)) (λ z=>⟨.ref a,H,I,rfl,q1 (r2.sk.mp z)⟩) (λ z=>?_) (by rw[<- r1.length,<- r2.length];exact hz);refine⟨.ref s.heap.objs.size,_,I.laid (t':=s.toks) (o:=.tup (xs++ys)) (λ b ob q=>j3 _ q) (J7 _) ?_,rfl,q2 (λ w=>z (r2.sk.mpr w)) _ (I.bx.fresh (J7 _))⟩;exact⟨by rw[o6];exact hz,_,r1.append r2,IsTup.new _ _⟩
end
def Bd(n:Nat)(i:Int):Option Nat:=if 0<=i then(if i < n then some i.toNat else none)else if -(n:Int)<=i then some (i+n).toNat else none
def gS{α:Type}(xs:List α)(i:Int):Option α:=(Bd xs.length i).bind λ j=>xs[j]?
theorem yX{i:Int}(h:Bd n i=some j):seqIndex? i n=some j/\j < n/\-(n:Int)<=i/\i < n:=by
 unfold Bd at h;by_cases h0:0<=i
 ·rw[K9 h0]at h;by_cases h1:i < n
  ·rw[K9 h1]at h;have e:i.toNat=j:=B6 h;exact⟨by rw[seqIndex_of h0 h1,e],by lia,by lia,h1⟩
  ·rw[L1 h1]at h;cases h
 ·rw[L1 h0]at h;by_cases h1: -(n:Int)<=i
  ·rw[K9 h1]at h;have e:(i+n).toNat=j:=B6 h;exact⟨by rw[seqIndex_neg (by lia) h1,e],by lia,h1,by lia⟩
  ·rw[L1 h1]at h;cases h
theorem tu{xs:List α}{i:Int}{v:α}(h:gS xs i=some v):∃j,seqIndex? i xs.length=some j/\xs[j]?=some v/\j < xs.length/\-(xs.length:Int)<=i/\i < xs.length:=by
 unfold gS at h;cases e:Bd xs.length i with
 |none=>rw[e]at h;cases h
 |some j=>rw[e]at h;obtain⟨h1,h2,h3,h4⟩:=yX e;exact⟨j,h1,h,h2,h3,h4⟩
theorem bM{xs:List α}{v:α}(h:xs[j]?=some v):gS xs (j:Int)=some v:=by
 have hj:j < xs.length:=(i3.mp h).1;have e:Bd xs.length (j:Int)=some j:=by unfold Bd;rw[K9 (by lia),K9 (by lia)];simp
 unfold gS;rw[e];exact h
def tH(b:Expr):Prop:=∀o i,subscripted b false o i=operate [o,i] (getItem o i)
def xS(X:Cx)(r:R2):Prop:=
 ∀(value slice:Expr) (xz:List (ww×Obj)) (s:kt) (σ:St) (H:Hp) (x y:V) (v u:jp) (Q:VK),be X xz σ H s->bv x v->bv y u->r x y H Q->
  subscripted slice false v u=operate [v,u] (getItem v u)->wpAny (model X.prog X.w) X.A (subscriptTail value slice v u) (EP X xz σ Q) X.xe s
def TR(X:Cx)(id:String)(r:V->List V->Hp->VK->Prop):Prop:=
 ∀(xz:List (ww×Obj)) (s:kt) (σ:St) (H:Hp) (x:V) (xs:List V) (v:jp) (us:List jp) (Q:VK),be X xz σ H s->bv x v->ce xs us->r x xs H Q->
  wpAny (model X.prog X.w) X.A (call (.builtin id) (v::us)) (EP X xz σ Q) X.xe s
section
variable {a b:Expr}{ta tb:TE}{pos:Pos}
theorem xS.or{r r':R2}(h:xS X r)(h':xS X r'):xS X (λ x y H Q=>r x y H Q\/r' x y H Q):=by
 intro value slice xz s σ H x y v u Q I rx ry q hs;rcases q with q|q
 ·exact h value slice xz s σ H x y v u Q I rx ry q hs
 ·exact h' value slice xz s σ H x y v u Q I rx ry q hs
theorem Q1{r:R2}(hr:xS X r)(ha:PE X a ta)(hb:PE X b tb)(hs:tH b):PE X (.Subscript a b pos) (Qc r ta tb):=by intro xz s σ H Q I h;exact Subscript_ (Pa ha hb I h λ v u s2 x y H2 I2 rx ry q=>hr a b xz s2 σ H2 x y v u Q I2 rx ry q (hs _ _))
def Qw(K:L6):R2:=λ x y H Q=>∃p xs i v,x=.ref p/\y=.int i/\fE K H p xs/\gS xs i=some v/\Q v H
def Qu(K:L6):R2:=λ x y H Q=>∃p xs i v,x=.ref p/\y=.int i/\gn K H p xs/\gS xs i=some v/\Q v H
def Qv:R2:=λ x y H Q=>∃z i c,x=.str z/\y=.int i/\z.length<=sizeLine/\gS z.cps.toList i=some c/\Q (.str ⟨#[c]⟩) H
theorem Jp:xS X (Qw X.K):=by
 intro value slice xz s σ H x y v u Q I rx ry h hs;obtain⟨p,xs,i,z,rfl,rfl,hq,he,q⟩:=h;cases rx;obtain⟨t,rfl⟩:=ry;obtain⟨ay,r,pl,hz⟩:=I.list hq;obtain⟨j,h1,h2,h3,h4,h5⟩:=tu he;obtain⟨w,ew,hG⟩:=r.get h2;have hl:=r.length;have hn:=lb;have fin:EP X xz σ Q w s:=⟨z,H,I,hG,q⟩;by_cases h0:0<=i
 ·have hj:i.toNat=j:=by rw[seqIndex_of h0 h5]at h1;exact B6 h1
  exact item_listR pl.isList h0 (by lia) (by rw[hj];simpa using ew) fin hs
 ·have hj:(i+(ay.toArray.size:Int)).toNat=j:=by rw[seqIndex_neg (by lia) h4]at h1;rw[y0,<- hl];exact B6 h1
  exact subscriptTail_builtinR (x:=w) pl.isList.typeIs slot_list_getitem.lookup
   (wpAny_getItem_list_neg (Q:=λ r s'=>r=w/\EP X xz σ Q r s') pl.isList (by lia) (by rw[y0] <;> lia) (by lia) (by rw[hj];simpa using ew) ⟨rfl,fin⟩) hs
theorem Oi:xS X (Qu X.K):=by
 intro value slice xz s σ H x y v u Q I rx ry h hs;obtain⟨p,xs,i,z,rfl,rfl,hq,he,q⟩:=h;cases rx;obtain⟨t,rfl⟩:=ry;obtain⟨ay,r,pl,hz⟩:=I.tuple hq;obtain⟨j,h1,h2,h3,h4,h5⟩:=tu he;obtain⟨w,ew,hG⟩:=r.get h2;have hl:=r.length;have hn:=lb;have fin:EP X xz σ Q w s:=⟨z,H,I,hG,q⟩;exact subscriptTail_builtinR (x:=w) pl.typeIs slot_tuple_getitem.lookup
  (getItem_tuple (j:=j) (Q:=λ r s'=>r=w/\EP X xz σ Q r s') pl (by lia) (by lia) (by rw[y0,<- hl];exact h1) (by simpa using ew) ⟨rfl,fin⟩) hs
theorem Oj:xS X Qv:=by
 intro value slice xz s σ H x y v u Q I rx ry h hs;obtain⟨z,i,c,rfl,rfl,hz,he,q⟩:=h;obtain⟨t,rfl⟩:=rx;obtain⟨t',rfl⟩:=ry;obtain⟨j,h1,h2,h3,h4,h5⟩:=tu he;have hl:z.cps.toList.length=z.length:=by simp[Str.length]
 rw[hl]at h1 h4 h5;have hn:=lb;exact tail_any (typeIs_str s z t) slot_str_getitem.lookup (getItem_str (c:=c) (by
  have e1:decide (i < -(2^63:Int))=false:=B3 (by lia);have e2:decide (i ≥ 2^63)=false:=B3 (by lia);rw[e1,e2,Bool.or_false]) (by rw[h1];simpa using h2) ⟨.str ⟨#[c]⟩,H,I.tok _,⟨_,rfl⟩,q⟩) hs
def XS(K:L6):R2:=λ x y H Q=>Qw K x y H Q\/Qu K x y H Q\/Qv x y H Q
theorem Ol:xS X (XS X.K):=Jp.or (Oi.or Oj)
theorem wO(ay:List jp)(n j:Nat)(u:jp):Obj.mapSeq (·.setIfInBounds j u) {cls:=.type "list",data:=.seq ay.toArray n}={cls:=.type "list",data:=.seq (ay.set j u).toArray n}:=by simp[Obj.mapSeq]
theorem be.lst {xz:List (ww×Obj)}{σ:St}{H:Hp}{s:kt}{p:ww}{xs:List V}(I:be X xz σ H s)(h:H p=some (.lst xs)):∃(ay:List jp) (n:Nat),ce xs ay/\s.heap.get? p=some {cls:=.type "list",data:=.seq ay.toArray n}/\xs.length<=sizeLine:=by obtain⟨z,ay,n,r,e⟩:=I.bx p _ h;exact⟨ay,n,r,e,z⟩
theorem be.NZ{ys:List V}{its':List jp}{n':Nat}{f:Obj->Obj}(I:be X xz σ H s)(h:H p=some (.lst xs)) (ho:s.heap.get? p=some {cls:=.type "list",data:=.seq ay.toArray n}) (hf:f {cls:=.type "list",data:=.seq ay.toArray n}={cls:=.type "list",data:=.seq its'.toArray n'}) (r:ce ys its') (hz:ys.length<=sizeLine) (t:Nat):be X xz σ (ci H p (.lst ys)) {s with heap:=s.heap.update p f,toks:=t}:=by
 have e:(s.heap.update p f).get? p=some {cls:=.type "list",data:=.seq its'.toArray n'}:=by rw[j6 f ho (by rw[hf] <;> rfl),hf]
 refine I.write (x:=p) (e:=p) (by rw[h];trivial) (.inl rfl) (λ b u hb q=>(j4 _ _ (K8 hb)).trans q) ⟨_,e⟩ ?_;exact⟨hz,its',n',r,e⟩
def Qs:V->V->V->Hp->(Hp->Prop)->Prop:=λ o i v H Q=>∃p xs k j,o=.ref p/\i=.int k/\H p=some (.lst xs)/\Bd xs.length k=some j/\Q (ci H p (.lst (xs.set j v)))
theorem set_list:tI X Qs:=by
 intro xz s σ H o i v ov iv u Q I ro ri rv h;obtain⟨p,xs,k,j,rfl,rfl,hp,hj,q⟩:=h;cases ro;obtain⟨t,rfl⟩:=ri;obtain⟨ay,n,r,ho,hz⟩:=I.lst hp;obtain⟨h1,h2,h3,h4⟩:=yX hj;have hl:=r.length;have hn:=lb;have I':be X xz σ (ci H p (.lst (xs.set j v))) {s with heap:=s.heap.update p (Obj.mapSeq (·.setIfInBounds j u))}:=
  I.NZ hp ho (wO ay n j u) (r.set rv j) (by rw[length_set];exact hz) s.toks
 by_cases h0:0<=k
 ·have hk:k.toNat=j:=by rw[seqIndex_of h0 h4]at h1;exact B6 h1
  exact PySem.W.ki_setAt ho h0 (by lia) (by rw[y0,<- hl];exact h4) (by rw[hk];exact⟨_,I',q⟩)
 ·have hk:(k+(ay.toArray.size:Int)).toNat=j:=by rw[seqIndex_neg (by lia) h3]at h1;rw[y0,<- hl];exact B6 h1
  exact PySem.W.ki_setBack ho (by lia) (by rw[y0,<- hl];exact h3) (by lia) (by rw[hk];exact⟨_,I',q⟩)
def gN:V->Bool
 | .bw=>true
 | .bl _=>true
 | .int _=>true
 | .str _=>true
 |_=>false
def Lg:V->V->Bool
 | .bw,.bw=>true
 | .bl a,.bl b=>a==b
 | .bl a,.int b=>(if a then 1 else 0)==b
 | .int a,.bl b=>a==(if b then 1 else 0)
 | .int a,.int b=>a==b
 | .str a,.str b=>a==b
 |_,_=>false
theorem OT{x:V}{v:jp}(ry:bv y u)(rx:bv x v)(fy:gN y=true)(fx:gN x=true):SeqAt.EqAt A s u v (Lg y x):=by
 cases y with
 |bw=>
  cases ry;cases x with
  |bw=>cases rx;exact SeqAt.EqAt.same _
  |bl b=>cases rx;exact SeqAt.EqAt.none_bool b
  |int b=>obtain⟨t,rfl⟩:=rx;exact SeqAt.EqAt.none_int b t
  |str b=>obtain⟨t,rfl⟩:=rx;exact SeqAt.EqAt.none_str b t
  |_=>exact absurd (show false=true from fx) n9
 |bl a=>
  cases ry;cases x with
  |bw=>cases rx;exact SeqAt.EqAt.bool_none a
  |bl b=>cases rx;exact SeqAt.EqAt.bool_bool a b
  |int b=>obtain⟨t,rfl⟩:=rx;exact SeqAt.EqAt.bool_int a b t
  |str b=>obtain⟨t,rfl⟩:=rx;exact SeqAt.EqAt.bool_str a b t
  |_=>exact absurd (show false=true from fx) n9
 |int a=>
  obtain⟨t',rfl⟩:=ry;cases x with
  |bw=>cases rx;exact SeqAt.EqAt.int_none a t'
  |bl b=>cases rx;exact SeqAt.EqAt.int_bool a t' b
  |int b=>obtain⟨t,rfl⟩:=rx;exact SeqAt.EqAt.int_int a t' b t
  |str b=>obtain⟨t,rfl⟩:=rx;exact SeqAt.EqAt.int_str a t' b t
  |_=>exact absurd (show false=true from fx) n9
 |str a=>
  obtain⟨t',rfl⟩:=ry;cases x with
  |bw=>cases rx;exact SeqAt.EqAt.str_none a t'
  |bl b=>cases rx;exact SeqAt.EqAt.str_bool a t' b
  |int b=>obtain⟨t,rfl⟩:=rx;exact SeqAt.EqAt.str_int a t' b t
  |str b=>obtain⟨t,rfl⟩:=rx;exact SeqAt.EqAt.str_str a t' b t
  |_=>exact absurd (show false=true from fx) n9
 |_=>exact absurd (show false=true from fy) n9
def JN(x:V)(u:jp):Bool:=match u with
 | .none=>Lg .bw x
 | .bool b=>Lg (.bl b) x
 | .int i _=>Lg (.int i) x
 | .str z _=>Lg (.str z) x
 |_=>false
theorem Fp{x:V}(r:bv y u)(f:gN y=true):JN x u=Lg y x:=by
 cases y with
 |bw=>cases r;rfl
 |bl b=>cases r;rfl
 |int i=>obtain⟨t,rfl⟩:=r;rfl
 |str z=>obtain⟨t,rfl⟩:=r;rfl
 |_=>exact absurd (show false=true from f) n9
theorem tw{x:V}:∀{xs:List V} {us:List jp},ce xs us->xs.all gN=true->us.any (JN x)=xs.any λ y=>Lg y x
 |_,_,.nil,_=>rfl
 |y::xs,u::us,.cons r t,f=>by rw[all_cons,A1]at f;rw[any_cons,any_cons,Fp r f.1,tw t f.2]
theorem nZ{x:V}{v:jp}(rx:bv x v)(fx:gN x=true):∀{xs:List V} {us:List jp},ce xs us->xs.all gN=true->∀u∈us,SeqAt.EqAt A s u v (JN x u)
 |_,_,.nil,_=>λ u hu=>by cases hu
 |y::xs,u::us,.cons r t,f=>λ u' hu=>by
  rw[all_cons,A1]at f;rcases G5.mp hu with rfl|hu
  ·rw[Fp r f.1];exact OT r rx f.1 fx
  ·exact nZ rx fx t f.2 u' hu
def Rr(x:V)(xs:List V):Bool:=xs.any λ y=>Lg y x
def XT(K:L6)(neg:Bool):R2:=λ x y H Q=>∃p xs,y=.ref p/\(fE K H p xs\/gn K H p xs)/\gN x=true/\xs.all gN=true/\Q (.bl (if neg then !Rr x xs else Rr x xs)) H
theorem AR:gp X (compareOp .In) (XT X.K false):=by
 intro xz s σ H x y v u Q I rx ry h;obtain⟨p,xs,rfl,hq,fx,fs,q⟩:=h;cases ry;rcases hq with hq|hq
 ·obtain⟨ay,r,pl,hz⟩:=I.list hq;refine SeqAt.in_listAt (JN x) pl.isList (λ w hw=>nZ rx fx r fs w (by simpa using hw)) ⟨.bl _,H,I,rfl,?_⟩;rw[show ay.toArray.any (JN x)=ay.any (JN x) by simp,tw r fs];exact q
 ·obtain⟨ay,r,pl,hz⟩:=I.tuple hq;refine SeqAt.in_tupleAt (JN x) pl (λ w hw=>nZ rx fx r fs w (by simpa using hw)) ⟨.bl _,H,I,rfl,?_⟩;rw[show ay.toArray.any (JN x)=ay.any (JN x) by simp,tw r fs];exact q
theorem sj:gp X (compareOp .NotIn) (λ x y H Q=>∃i j,x=.str i/\y=.str j/\Q (.bl (!(!(Builtin.Str.occurrences j i 0 j.length 1).isEmpty))) H):=by intro xz s σ H x y v u Q I rx ry h;obtain⟨i,j,rfl,rfl,q⟩:=h;obtain⟨t,rfl⟩:=rx;obtain⟨t',rfl⟩:=ry;exact notIn_str ⟨.bl _,H,I,rfl,q⟩
theorem s_:c_ X (.builtin "len") (λ xs H Q=>∃p ys,xs=[.ref p]/\(fE X.K H p ys\/gn X.K H p ys)/\Q (.int ys.length) H):=by
 intro xz s σ H xs us Q I r h;obtain⟨p,ys,rfl,hq,q⟩:=h;obtain⟨u,rfl,rx⟩:=vals1 r;cases rx;have hn:=lb;rcases hq with hq|hq
 ·obtain⟨ay,r',pl,hz⟩:=I.list hq;have hlen:=r'.length;exact Calls.call_len_list pl.isList (by simp only[y0] <;> lia) ⟨.int ys.length,H,I.tok _,⟨s.toks+1,by rw[y0,hlen]⟩,q⟩
 ·obtain⟨ay,r',pl,hz⟩:=I.tuple hq;have hlen:=r'.length;exact len_tuple pl (by simp only[y0] <;> lia) ⟨.int ys.length,H,I.tok _,⟨s.toks+1,by rw[y0,hlen]⟩,q⟩
theorem sZ:c_ X (.builtin "len") (λ xs H Q=>∃z,xs=[.str z]/\z.length<=sizeLine/\Q (.int z.length) H):=by intro xz s σ H xs us Q I r h;obtain⟨z,rfl,hz,q⟩:=h;obtain⟨u,rfl,t,rfl⟩:=vals1 r;have hn:=lb;exact len_str (by lia) ⟨.int z.length,H,I.tok _,⟨_,rfl⟩,q⟩
theorem c_.or{f:jp}{r r':List V->Hp->VK->Prop}(h:c_ X f r)(h':c_ X f r'):c_ X f (λ xs H Q=>r xs H Q\/r' xs H Q):=by
 intro xz s σ H xs us Q I rs q;rcases q with q|q
 ·exact h xz s σ H xs us Q I rs q
 ·exact h' xz s σ H xs us Q I rs q
theorem sY:c_ X (.type "list") (λ xs H Q=>∃p ys,xs=[.ref p]/\(fE X.K H p ys\/gn X.K H p ys)/\∀l,H l=none->Q (.ref l) (ci H l (.lst ys))):=by
 intro xz s σ H xs us Q I r h;obtain⟨p,ys,rfl,hq,q⟩:=h;obtain⟨u,rfl,rx⟩:=vals1 r;cases rx;have fin:∀(ay:List jp),ce ys ay->ys.length<=sizeLine->∀(h':Heap) (c':Nat),(∀b o',s.heap.get? b=some o'->h'.get? b=some o')->
   h'.get? s.heap.objs.size=some {cls:=.type "list",dict:=none,data:=.seq ay.toArray c',slots:=#[]}->EP X xz σ Q (.ref s.heap.objs.size) {s with heap:=h'}:=λ ay r' hz h' c' kp e=>
  ⟨.ref s.heap.objs.size,_,I.laid (t':=s.toks) kp (J7 _) (show bA X.prog X.w _ h' _ (.lst ys)from⟨hz,ay,c',r',e⟩),rfl,q _ (I.bx.fresh (J7 _))⟩
 rcases hq with hq|hq
 ·obtain⟨ay,r',pl,hz⟩:=I.list hq;have hlen:=r'.length;obtain⟨o,ho,hc,n,hd⟩:=pl.isList;exact call_list_seq p (.inl rfl) ho hc hd (λ h' c' kp e=>fin ay r' hz h' c' kp e) (by simp only[y0] <;> lia)
 ·obtain⟨ay,r',pl,hz⟩:=I.tuple hq;have hlen:=r'.length;obtain⟨o,ho,hc,n,hd⟩:=pl;exact call_list_seq p (.inr rfl) ho hc hd (λ h' c' kp e=>fin ay r' hz h' c' kp e) (by simp only[y0] <;> lia)
theorem qe:c_ X (.type "tuple") (λ xs H Q=>∃p ys,xs=[.ref p]/\((fE X.K H p ys/\∀l,H l=none->Q (.ref l) (ci H l (.tup ys)))\/(gn X.K H p ys/\Q (.ref p) H))):=by
 intro xz s σ H xs us Q I r h;obtain⟨p,ys,rfl,h⟩:=h;obtain⟨u,rfl,rx⟩:=vals1 r;cases rx;rcases h with⟨hq,q⟩|⟨hq,q⟩
 ·obtain⟨ay,r',pl,hz⟩:=I.list hq;have hlen:=r'.length;refine call_tuple_list pl.isList (λ h' kp=>?_) (by simp only[y0] <;> lia);have I1:be X xz σ H {s with heap:=h'}:=I.kept (t':=s.toks) kp;have I2:be X xz σ (ci H h'.objs.size (.tup ys)) {s with heap:=h'.push {cls:=.type "tuple",data:=.seq ay.toArray}}:=
   I1.laid (t':=s.toks) (λ b o e=>j3 _ e) (J7 _) (show bA X.prog X.w _ _ _ (.tup ys)from⟨hz,ay,r',IsTup.new _ _⟩)
  exact⟨.ref h'.objs.size,_,I2,rfl,q _ (I1.bx.fresh (J7 _))⟩
 ·obtain⟨ay,r',pl,hz⟩:=I.tuple hq;exact call_tuple_same pl ⟨.ref p,H,I,rfl,q⟩
def SS(K:L6)(T:String)(x:V)(H:Hp):Prop:=match x with
 | .str _=>T="str"
 | .int _=>T="int"
 | .ref p=>(T="list"/\∃xs,fE K H p xs)\/(T="tuple"/\∃o,K.lookup p=some o/\o.cls=.type "tuple"/\o.dict=none)\/
   (T="dict"/\((∃kvs,H p=some (.dK kvs))\/∃kvs,H p=some (.dT kvs)))\/(T="set"/\∃S n,H p=some (.set S n))
 |_=>False
theorem Ce{x:V}{v:jp}(I:be X xz σ H s)(r:bv x v)(ty:SS X.K T x H):s.TypeIs v T/\∀a,v=.ref a->∃ob,s.heap.get? a=some ob/\ob.dict=none:=by
 cases x with
 |str z=>obtain⟨t,rfl⟩:=r;cases(show T="str" from ty);exact⟨typeIs_str s z t,λ _ e=>nomatch e⟩
 |int i=>obtain⟨t,rfl⟩:=r;cases(show T="int" from ty);exact⟨typeIs_int s i t,λ _ e=>nomatch e⟩
 |ref p=>
  cases r;rcases ty with⟨rfl,xs,hq⟩|⟨rfl,o,hk,hc,hd⟩|⟨rfl,hk⟩|⟨rfl,S,n,hk⟩
  ·obtain⟨ay,_,pl,_⟩:=I.list hq;refine⟨pl.isList.typeIs,λ a e=>?_⟩;cases e;obtain⟨o,n,e,c,hd,_⟩:=pl;exact⟨o,e,hd⟩
  ·refine⟨⟨o,I.sE p o hk,hc⟩,λ a e=>?_⟩;cases e;exact⟨o,I.sE _ o hk,hd⟩
  ·have z:∃o,s.heap.get? p=some o/\o.ExactDict:=by
    rcases hk with⟨kvs,hk⟩|⟨kvs,hk⟩
    ·obtain⟨_,_,_,_,o,_,_,e,ex,_⟩:=I.bx p _ hk;exact⟨o,e,ex⟩
    ·obtain⟨_,_,_,_,o,_,_,e,ex,_⟩:=I.bx p _ hk;exact⟨o,e,ex⟩
   obtain⟨o,e,ex⟩:=z;refine⟨⟨o,e,ex.1⟩,λ a e2=>?_⟩;cases e2;exact⟨o,e,ex.2.1⟩
  ·obtain⟨o,_,_,_,e,ex,_⟩:=I.bx p _ hk;refine⟨⟨o,e,ex.1⟩,λ a e2=>?_⟩;cases e2;exact⟨o,e,ex.2.1⟩
 |_=>exact False.elim ty
def Uj(K:L6)(T:String)(r:V->List V->Hp->VK->Prop)(to:TE):TE:=λ σ H Q=>to σ H λ x H1=>SS K T x H1/\r x [] H1 Q
def XF(K:L6)(T:String)(r:V->List V->Hp->VK->Prop)(to:TE)(t:TA):TE:=λ σ H Q=>to σ H λ x H1=>SS K T x H1/\t σ H1 λ xs H2=>r x xs H2 Q
variable {o:Expr}{to:TE}{t:TA}{id:String}{r:V->List V->Hp->VK->Prop}
theorem Nt(pa:PlainAttrs T)(slot:Slot T name id)(hty:typeOf (.builtin id)=pure (.type "method_descriptor"))(hm:TR X id r)(ho:PE X o to) (hbase:attributeBase o name X.env (eval o X.env)=eval o X.env:=by rfl) (hline:(apos.endLine==cp.line)=true:=by rfl):PE X (.Call (.Attribute o name apos) [] [] cp) (Uj X.K T r to):=by intro xz s σ H Q I h;refine wpAny_Call_method0_late hbase hline (dG (ho xz s σ H _ I h) λ v s1 ⟨x,H1,I1,r1,ty,q1⟩=>?_);obtain⟨h1,h2⟩:=Ce I1 r1 ty;exact⟨T,id,pa,slot,hty,h1,h2,Calls.callWith_builtin rfl (PySem.evalArgs_none (hm xz s1 σ H1 x [] v [] Q I1 r1 .nil q1))⟩
theorem Kz(pa:PlainAttrs T)(slot:Slot T name id)(hty:typeOf (.builtin id)=pure (.type "method_descriptor"))(hm:TR X id r)(ho:PE X o to)(ha:PA X (e::es) t) (hbase:attributeBase o name X.env (eval o X.env)=eval o X.env:=by rfl) (hfew:((backTo cp (starEach (e::es) X.env)).all (λ x=>!x.1)&&(backToKw cp (keywordEach [] X.env)).all (λ x=>x.1.isSome)
   &&decide ((e::es).length+([]:List Keyword).length+(if([]:List Keyword).isEmpty then 0 else 1) < 30))=true:=by rfl)
  (hline:(apos.endLine==cp.line)=true:=by rfl) (hs:starEach (e::es) X.env=(false,eval e X.env)::starEach es X.env:=by rfl) (hplain:(backTo cp (starEach es X.env)).any (·.1)=false:=by rfl):
  PE X (.Call (.Attribute o name apos) (e::es) [] cp) (XF X.K T r to t):=by
 intro xz s σ H Q I h;refine wpAny_Call_method_late hbase hfew hline rfl (dG (ho xz s σ H _ I h) λ v s1 ⟨x,H1,I1,r1,ty,q1⟩=>?_);obtain⟨h1,h2⟩:=Ce I1 r1 ty;refine⟨T,id,pa,slot,hty,h1,h2,?_⟩;have hA:=ha cp xz s1 σ H1 _ I1 q1;rw[hs]at hA ⊢;refine Calls.callWith_builtin (by show(false||(backTo cp (starEach es X.env)).any (·.1))=false;rw[hplain] <;> rfl) (Calls.evalArgs_plain ?_);exact dG hA λ us s2 ⟨vs,H2,I2,r2,q2⟩=>hm xz s2 σ H2 x vs v us Q I2 r1 r2 q2
end
def Kh(X:Cx)(id:String)(r:V->List V->Hp->VK->Prop):Prop:=
 ∀(xz:List (ww×Obj)) (s:kt) (σ:St) (H:Hp) (x:V) (xs:List V) (v:jp) (us:List jp) (Q:VK),be X xz σ H s->bv x v->ce xs us->r x xs H Q->
  wpAny (model X.prog X.w) X.A (call (.builtin id) (v::us)) (EP X xz σ Q) X.xe s
theorem ce.one:∀{x:V} {us:List jp},ce [x] us->∃u,us=[u]/\bv x u
 |_,_,.cons r .nil=>⟨_,rfl,r⟩
theorem ce.zero:∀{us:List jp},ce [] us->us=[]
 |_,.nil=>rfl
theorem ce.dropLast(h:ce xs us):ce xs.dropLast us.dropLast:=by
 induction h with
 |nil=>exact .nil
 |cons r t ih=>
  cases t with
  |nil=>exact .nil
  |cons q t'=>exact .cons r ih
theorem ce.eraseIdx:∀{xs:List V} {us:List jp} (i:Nat),ce xs us->ce (xs.eraseIdx i) (us.eraseIdx i)
 |_,_,_,.nil=>.nil
 |_,_,0,.cons _ t=>t
 |_,_,i+1,.cons r t=>.cons r (ce.eraseIdx i t)
theorem ce.rep(h:ce xs us):∀k:Nat,ce (List.replicate k xs).flatten (List.replicate k us).flatten
 |0=>.nil
 |k+1=>by rw[l9,l9,x3,x3];exact ce.append h (ce.rep h k)
theorem xt(l:List α):l.eraseIdx (l.length - 1)=l.dropLast:=by
 induction l with
 |nil=>rfl
 |cons a r ih=>
  cases r with
  |nil=>rfl
  |cons b r=>
   have e:(a::b::r).length - 1=((b::r).length - 1)+1:=by have h1:(a::b::r).length=r.length+2:=rfl;have h2:(b::r).length=r.length+1:=rfl;lia
   rw[e,eraseIdx_cons_succ,ih]
   all_goals rfl
theorem qQ:∀(l:List α) (i:Nat),(l.eraseIdx i).length<=l.length
 |[],_=>J7 _
 |_::_,0=>Nat.le_succ _
 |_::r,i+1=>Nat.succ_le_succ (qQ r i)
theorem foldl_rep(ay:List jp):∀(k:Nat) (zn:List jp),
  List.foldl (λ x1 x2=>x1++x2) zn.toArray (List.replicate k ay.toArray)=(zn++(List.replicate k ay).flatten).toArray
 |0,zn=>by simp
 |k+1,zn=>by
  have e:zn.toArray++ay.toArray=(zn++ay).toArray:=by simp
  have e2:(zn++ay)++(List.replicate k ay).flatten=zn++(List.replicate (k+1) ay).flatten:=by rw[l9,x3,x4]
  rw[<- e2,<- foldl_rep ay k (zn++ay),<- e,l9,foldl_cons]
section
variable {l b:ww}{ys zs:List V}
theorem be.Jc{its':List jp}{f:Array jp->Array jp}(I:be X xz σ H s)(hH:H l=some (.lst xs)) (e:s.heap.get? l=some {cls:=.type "list",data:=.seq ay.toArray n}) (hf:f ay.toArray=its'.toArray) (hv:ce ys its') (hz:ys.length<=sizeLine):be X xz σ (ci H l (.lst ys)) {s with heap:=s.heap.update l (Obj.mapSeq f),toks:=t'}:=by have q:=PySem.IsL.update e f;rw[hf]at q;refine I.write (x:=l) (e:=l) (by rw[hH];exact trivial) (.inl rfl) (λ b' u hb hu=>(j4 s.heap (Obj.mapSeq f) (K8 hb)).trans hu) ⟨_,q⟩ ?_;exact⟨hz,its',_,hv,q⟩
theorem be.Rn(I:be X xz σ H s)(hv:ce ys ay)(hz:ys.length<=sizeLine):be X xz σ (ci H s.heap.objs.size (.lst ys)) {s with heap:=s.heap.push {cls:=.type "list",data:=.seq ay.toArray},toks:=t'}:=
 I.laid (λ _ _ q=>j3 _ q) (J7 _) ⟨hz,ay,0,hv,m7 _ rfl⟩
theorem be.fresh(I:be X xz σ H s):H s.heap.objs.size=none:=I.bx.fresh (J7 _)
theorem be.uI(I:be X xz σ H s)(hH:H l=some (.lst xs)):xs.length<=sizeLine/\∃(ay:List jp) (n:Nat),ce xs ay/\xs.length=ay.length/\s.heap.get? l=some {cls:=.type "list",data:=.seq ay.toArray n}:=by obtain⟨z,ay,n,r,e⟩:=I.bx l _ hH;exact⟨z,ay,n,r,r.length,e⟩
theorem uE(h:n<=sizeLine):Builtin.List.listTooLong n=false:=by unfold Builtin.List.listTooLong;exact B3 (by lia)
end
def yx:V->List V->Hp->VK->Prop:=λ x vs H Q=>∃l xs y,x=.ref l/\vs=[y]/\H l=some (.lst xs)/\xs.length < sizeLine/\Q .bw (ci H l (.lst (xs++[y])))
theorem AY:Kh X "list.append" yx:=by intro xz s σ H x vs v us Q I rx rv h;obtain⟨l,xs,y,rfl,rfl,hH,hz,q⟩:=h;cases rx;obtain⟨u,rfl,ru⟩:=rv.one;obtain⟨z,ay,n,r,hl,e⟩:=I.uI hH;refine K4 F.slot_list_append ⟨_,e,rfl⟩ F.entry_list_append (F.args_list_append_2 _ _) (PySem.list_append l ay.toArray n u (by rw[y0];lia)) ⟨e,?_⟩;refine⟨.bw,_,I.Jc (its':=ay++[u]) hH e (by simp) (r.append (.cons ru .nil)) ?_,rfl,q⟩;rw[o6,j8];lia
def yw:V->List V->Hp->VK->Prop:=λ x vs H Q=>∃l b xs zs,x=.ref l/\vs=[.ref b]/\H l=some (.lst xs)/\H b=some (.lst zs)/\xs.length+zs.length<=sizeLine/\Q .bw (ci H l (.lst (xs++zs)))
theorem AX:Kh X "list.extend" yw:=by
 intro xz s σ H x vs v us Q I rx rv h;obtain⟨l,b,xs,zs,rfl,rfl,hH,hB,hz,q⟩:=h;cases rx;obtain⟨u,rfl,ru⟩:=rv.one;cases ru;obtain⟨z,ay,n,r,hl,e⟩:=I.uI hH;obtain⟨z2,uS,n2,r2,Gk,e2⟩:=I.uI hB;have hsz:ay.toArray.size+uS.toArray.size<=sizeLine:=by rw[y0,y0];lia
 have EV:¬(!ay.toArray.isEmpty&&Builtin.List.listTooLong (ay.toArray.size+uS.toArray.size))=true:=by rw[uE hsz,Bool.and_false];exact n9
 refine K4 F.slot_list_extend ⟨_,e,rfl⟩ F.entry_list_extend (F.args_list_extend_2 _ _)
  (AutoSeq1.list_extend_list_list_0 l ay.toArray n b uS.toArray n2 EV (by rw[y0];lia) (by lia)) ⟨e,e2,?_⟩
 refine⟨.bw,_,I.Jc (its':=ay++uS) hH e (by simp) (r.append r2) ?_,rfl,q⟩;rw[o6];lia
def Uv:V->List V->Hp->VK->Prop:=λ x vs H Q=>∃l xs y,x=.ref l/\vs=[]/\H l=some (.lst xs)/\xs[xs.length - 1]?=some y/\Q y (ci H l (.lst xs.dropLast))
theorem NY:Kh X "list.pop" Uv:=by
 intro xz s σ H x vs v us Q I rx rv h;obtain⟨l,xs,y,rfl,rfl,hH,hy,q⟩:=h;cases rx;have Vf:=rv.zero;subst Vf;obtain⟨z,ay,n,r,hl,e⟩:=I.uI hH;obtain⟨u,hu,ru⟩:=r.get hy;have Gi:ay.toArray[ay.toArray.size - 1]?=some u:=by show ay.toArray[ay.length - 1]?=some u;rw[<- j9,<- hl];exact hu
 refine K4 F.slot_list_pop ⟨_,e,rfl⟩ F.entry_list_pop (F.args_list_pop_1 _) (MeetsSeq.list_pop_last l ay.toArray n u Gi (by rw[y0];lia)) ⟨e,?_⟩;refine⟨y,_,I.Jc (its':=ay.dropLast) hH e ?_ r.dropLast ?_,ru,q⟩
 ·show ay.toArray.eraseIdxIfInBounds (ay.toArray.size - 1)=ay.dropLast.toArray;rw[y0,eraseIdxIfInBounds_toArray,xt]
 ·rw[length_dropLast];lia
def Mx:V->List V->Hp->VK->Prop:=λ x vs H Q=>∃l xs i k y,x=.ref l/\vs=[.int i]/\H l=some (.lst xs)/\-(2^63)<=i/\i < 2^63/\seqIndex? i xs.length=some k/\xs[k]?=some y/\Q y (ci H l (.lst (xs.eraseIdx k)))
theorem Ed:Kh X "list.pop" Mx:=by
 intro xz s σ H x vs v us Q I rx rv h;obtain⟨l,xs,i,k,y,rfl,rfl,hH,h1,h2,hk,hy,q⟩:=h;cases rx;obtain⟨u,rfl,ru⟩:=rv.one;obtain⟨t,rfl⟩:=ru;obtain⟨z,ay,n,r,hl,e⟩:=I.uI hH;obtain⟨w,hw,hG⟩:=r.get hy;refine K4 F.slot_list_pop ⟨_,e,rfl⟩ F.entry_list_pop (F.args_list_pop_2 _ _)
  (MeetsSeq.list_pop_at l ay.toArray n i t k w (fitsIndex_both h1 h2) (by rw[y0,<- hl];exact hk) (by rw[<- j9];exact hw) (by rw[y0];lia)) ⟨e,?_⟩
 refine⟨y,_,I.Jc (its':=ay.eraseIdx k) hH e ?_ (r.eraseIdx k) ?_,hG,q⟩
 ·show ay.toArray.eraseIdxIfInBounds k=(ay.eraseIdx k).toArray;rw[eraseIdxIfInBounds_toArray]
 ·have:=qQ xs k;lia
def Ux:R2:=λ x y H Q=>∃l b xs zs,x=.ref l/\y=.ref b/\H l=some (.lst xs)/\H b=some (.lst zs)/\xs.length+zs.length<=sizeLine/\∀p,H p=none->Q (.ref p) (ci H p (.lst (xs++zs)))
theorem NH:gp X (binaryOp .Add) Ux:=by
 intro xz s σ H x y v u Q I rx ry h;obtain⟨l,b,xs,zs,rfl,rfl,hH,hB,hz,q⟩:=h;cases rx;cases ry;obtain⟨z,ay,n,r,hl,e⟩:=I.uI hH;obtain⟨z2,uS,n2,r2,Gk,e2⟩:=I.uI hB;refine PySem.P.add_list e e2 ?_ (by rw[y0,y0];lia);have ea:ay.toArray++uS.toArray=(ay++uS).toArray:=by simp
 rw[ea];exact⟨.ref _,_,I.Rn (t':=s.toks) (r.append r2) (by rw[o6];lia),rfl,q _ I.fresh⟩
def Uu:R2:=λ x y H Q=>∃l k xs,x=.ref l/\y=.int k/\H l=some (.lst xs)/\-(2^63)<=k/\k < 2^63/\xs.length*k.toNat<=sizeLine/\
 ∀p,H p=none->Q (.ref p) (ci H p (.lst (List.replicate k.toNat xs).flatten))
theorem len_rep(xs:List α)(k:Nat):(List.replicate k xs).flatten.length=k*xs.length:=by
 induction k with
 |zero=>simp
 |succ k ih=>rw[l9,x3,o6,ih,Nat.succ_mul,Nat.add_comm]
theorem Ny:gp X (binaryOp .Mult) Uu:=by
 intro xz s σ H x y v u Q I rx ry h;obtain⟨l,k,xs,rfl,rfl,hH,h1,h2,hz,q⟩:=h;cases rx;obtain⟨t,rfl⟩:=ry;obtain⟨z,ay,n,r,hl,e⟩:=I.uI hH;have hlen:ay.toArray.size*k.toNat<=sizeLine:=by rw[y0,<- hl];exact hz
 have VM:¬ay.toArray.size*k.toNat > (2^63 - 1) / 8:=by
  have:(sizeLine:Nat)<=(2^63 - 1) / 8:=by decide
  lia
 have RP:¬(!Builtin.List.listFitsIndex k)=true:=by rw[fitsIndex_both h1 h2];exact n9
 have EV:¬Builtin.List.listTooLong (ay.toArray.size*k.toNat)=true:=by rw[uE hlen];exact n9
 have ET:List.foldl (λ x1 x2=>x1++x2) #[] (List.replicate (if ay.toArray.isEmpty=true then 0 else k.toNat) ay.toArray)=(List.replicate k.toNat ay).flatten.toArray:=by
  have f0:∀m:Nat,List.foldl (λ x1 x2=>x1++x2) #[] (List.replicate m ay.toArray)=(List.replicate m ay).flatten.toArray:=λ m=>by have:=foldl_rep ay m [];rw[B1]at this;exact this
  rw[f0];cases ay with
  |nil=>simp
  |cons a r'=>rw[L1 (by simp)]
 refine wpAny_binaryOp_repeat_ref (T:="list") (U:="int") (by decide) ⟨_,e,rfl⟩ (λ s'=>typeIs_int s' k t) noFill_list_mul F.fills_int_mul F.slot_int_rmul repeat_list F.slot_int_index.lookup
  (K4 F.slot_int_rmul (typeIs_int s k t) F.entry_int_rmul (F.args_int_rmul_2 _ _) (int___rmul___int_list k t l ay.toArray n)
   ⟨e,rfl,⟨_,e,rfl⟩,K4 F.slot_list_mul ⟨_,e,rfl⟩ F.entry_list_mul (F.args_list_mul_2 _ _) (AutoListH.list___mul___list_int_3 l ay.toArray n k t RP VM EV) ⟨e,?_⟩⟩)
 rw[ET];exact⟨.ref _,_,I.Rn (t':=s.toks) (r.rep k.toNat) (by rw[len_rep,Nat.mul_comm];exact hz),rfl,q _ I.fresh⟩
end L2
namespace Xw
open PySem.W PySem.Calls PyProof.Rows
theorem lU{P:Params}{h:Heap}:∀(ns:List Int) (vs:List jp),WellAll P h vs (ns.map WData.int)->IntsAre vs ns:=by
 intro ns
 induction ns with
 |nil=>intro vs w;rw[map_nil]at w;cases w;exact .nil
 |cons n ns ih=>
  intro vs w;rw[G4]at w;cases w with
  |cons a b=>cases a;exact .cons _ _ (ih _ b)
theorem Ay{l:OpenLaw}(hn:l.most=some n){P:Params}{h:Heap}{args:List WData}{vals:List jp} (JA:l.row.toRowW.claim.pre args=true) (U_:WellAll P h vals args):∃a vs ns,vals=[Value.ref a]/\args=[WData.list (ns.map WData.int)]/\h.get? a=some {cls:=.type "list",data:=.seq vs.toArray}/\IntsAre vs ns/\ns.length<=n:=by
 have YA:WShape.hasAll [] args [.list .int]=true:=(pre_splitW JA).1;have hc:l.pre.holds [] {args:=args}=true:=(pre_splitW JA).2;obtain⟨d,r,rfl,h1,h2⟩:=hasAllW_cons YA;obtain rfl:=hasAllW_nil h2;obtain⟨xs,rfl,h3⟩:=hasW_list h1;obtain⟨ns,rfl⟩:=items_int h3;have hlen:ns.length<=n:=by
  unfold OpenLaw.pre at hc;have h4:(WTm.not (.lt (.lit (.int (n:Int))) (.len (.arg 0)))).holds [] {args:=[.list (ns.map .int)]}=true:=by have h4:=(holds_andW hc).1;rw[hn]at h4;exact h4
  have h5:=condW_of h4 (w_not (w_lt w_lit (w_len_list (w_arg rfl))));rw[C1]at h5;refine y7 λ q=>?_;have q':(n:Int) < ((ns.length:Nat):Int):=by lia
  first
   |(rw[C8 q']at h5;exact absurd h5 (by decide))
   |(simp at h5;lia)
 cases U_ with
 |cons w1 w2=>
  cases w2;cases w1 with
  |list ho Fc=>exact⟨_,_,ns,rfl,rfl,ho,lU ns _ Fc,hlen⟩
theorem AL(l:OpenLaw)(args:List WData):l.row.toRowW.claim.post args (.bool true) args=true:=
 postW_of (r:=l.row.toRowW) (X:=(true==true))
  (show WShape.has [] (.bool true) .bool=true by first|rfl|decide|simp[WShape.has,WShape.arms,WShape.armsAll])
  (show(WTm.eq .res (.lit (.bool true))).value [] {args:=args,res:=some (.bool true),after:=args}=some (.bool (true==true))from w_eq_bool (w_res rfl) w_lit) rfl
theorem vH{l:OpenLaw}{n:Nat}{q:Program}{loose:List Str}{XP:(Str->Option jp)->Heap->Prop}{YP:World->Heap->Prop}{d:DefRec} (hn:l.most=some n) (RR:d.params.defaults=[]) (call:∀(w:World) (s₀ s₁:kt) (mg mb:Str->Option jp) (fa:ww) (o:Obj) (pm cd doc:jp) (a:ww) (vs:List jp) (ns:List Int),
   Ground q loose [] XP w s₀ mg mb s₁.heap->YP w s₁.heap->
   s₁.heap.get? fa=some o->o.data=.func (docDef d.name d.params d.body d.scope pm cd doc)->s₁.heap.CodeRec cd d.name->mg d.name=some (.ref fa)->
   s₁.heap.get? a=some {cls:=.type "list",data:=.seq vs.toArray}->IntsAre vs ns->ns.length<=n->s₁.gens=#[]->
   codeAny (model l.prog w) callerA (.call (.ref fa) ⟨[.ref a],[]⟩) (λ r s'=>r=.ok (.ret (.bool true))/\OldK s₁.heap s'.heap/\s'.os=s₁.os/\AllBare s'.gens) s₁):
  WalkO q loose XP YP l.row.toRowW d [] (λ f vs=>PySem.call f vs):=by
 intro w s₀ s₁ mg mb G Y fa o pm cd doc dV kV ho hd hcd hD RK hg args vals as JA YO hrd U_ hlo;obtain rfl:dV=.none:=Dflts.none hD RR;obtain rfl:kV=.none:=Dflts.noKw hD;obtain⟨a,vs,ns,rfl,rfl,ES,hints,hlen⟩:=Ay hn JA U_;refine enter_call (J4 (call w s₀ s₁ mg mb fa o pm cd doc a vs ns G Y ho (fd_plain hd) hcd RK ES hints hlen hg) λ r s' hq=>?_);obtain⟨rfl,h2,h3,h4⟩:=hq;exact⟨.inl ⟨.bool true,.bool true,[],rfl,λ _=>rfl,.bool true,AL l _,λ _=>⟨List.Pairwise.nil,λ _ hm=>(nomatch hm)⟩⟩,h2,h3,h4⟩
end Xw
namespace L2
open PySem.Spec PyProof.Rows
theorem qw:∀{vs:List jp} {ns:List Int},IntsAre vs ns->ce (ns.map V.int) vs
 |_,_,.nil=>.nil
 |_,_,.cons n t h=>.cons ⟨t,rfl⟩ (qw h)
def cK(s:Stmt):Arguments:=match s with
 | .FunctionDef _ a _ _ _ _ _ _ _ _=>a
 |_=>{posonlyargs:=[],args:=[],vararg:=none,kwonlyargs:=[],kw_defaults:=[],kwarg:=none,defaults:=[]}
def bL(s:Stmt):List Stmt:=match s with
 | .FunctionDef _ _ b _ _ _ _ _ _ _=>b
 |_=>[]
def au(s:Stmt):Scope:=match s with
 | .FunctionDef _ _ _ _ _ _ sc _ _ _=>sc
 |_=>{kind:=.function,names:=[],isGenerator:=false,isCoroutine:=false}
abbrev fX:Gd:=λ _ _ _ _ _ _=>False
abbrev E0:XK:=λ _ _ _=>False
theorem Q4:Passes fX X E0:=λ _ _ _ _ _ _ _ h=>h.elim
structure jb(K:L6)(x qual:Str)(st:Stmt)(f:ww)(fd:FuncData):Prop where
 ex:∃(oc:jp) (od:Option ww) (kV doc pm:jp) (an:Option ww) (dQ ct:jp) (wJ:Array (Option jp)),
  fd=PySem.W.fnOf x qual (cK st) (bL st) (au st) .none kV doc pm an dQ ct/\K.lookup f=some ⟨oc,od,.func fd,wJ⟩/\PySem.W.codeIn K dQ qual=true
 kp:PySem.W.keepIn K (.ref f)=true
theorem jb.ok {x qual:Str}{st:Stmt}{f:ww}{fd:FuncData}{N ps:List Str}{k:Nat}{sp:Sp}(F:jb K x qual st f fd)(S:aS N ps (au st))(len:∀vs H Q E,sp vs H Q E->vs.length=ps.length) (eJ:∀(dQ:jp) (A:Around) (outer:List Env) (s:kt) (H:Hp) (vs:List V) (Q:VK) (E:XK),de k (A.deeper (envOfC qual (au st) s.heap.objs.size f dQ))->sp vs H Q E->
   ∃t,vL (pZ fX P w K mg base N qual (au st) f dQ A outer s H E).IW (bL st) t/\t {nx:=λ _ H'=>Q .bw H',rt:=Q} (start N vs) H):cE P w K mg base fX (k+1) f fd ps sp:=by
 obtain⟨oc,od,kV,doc,pm,an,dQ,ct,wJ,rfl,lk,hcd⟩:=F.ex;refine Le lk hcd S len λ A outer s H vs Q E hr Bl=>?_;obtain⟨t,h,q⟩:=eJ dQ A outer s H vs Q E hr Bl;exact⟨t,h.IW,q⟩
theorem jb.binds(F:jb K x qual st f fd) (h:∀(kV doc pm:jp) (an:Option ww) (dQ ct:jp) (us:List jp),us.length=ps.length->bindArgs (PySem.W.fnOf x qual (cK st) (bL st) (au st) .none kV doc pm an dQ ct) ⟨us,[]⟩=pure (ps.zip us)):Binds K fd ps []:=by obtain⟨oc,od,kV,doc,pm,an,dQ,ct,wJ,rfl,lk,hcd⟩:=F.ex;exact .all (h kV doc pm an dQ ct)
theorem OR{oc:jp}{od an:Option ww}{kV doc pm dQ ct:jp}(l:K.lookup f=some ⟨oc,od,.func (PySem.W.fnOf x qual (cK st) (bL st) (au st) .none kV doc pm an dQ ct),wJ⟩) (c:PySem.W.codeIn K dQ qual=true) (k:PySem.W.keepIn K (.ref f)=true):jb K x qual st f (PySem.W.fnOf x qual (cK st) (bL st) (au st) .none kV doc pm an dQ ct):=⟨⟨oc,od,kV,doc,pm,an,dQ,ct,wJ,rfl,l,c⟩,k⟩
open PySem.Spec PyProof.Rows
theorem be.nu{D:ww}{o:HO}(I:be X xz σ H s)(hn:H D=none)(new:bA X.prog X.w (ci H D o) s.heap D o) (hL:D≠X.env.locals) (hs:X.s₀.heap.objs.size<=D) (hc:∀x c,X.env.cells.lookup x=some c->c≠D) (hp:∀p∈X.pn++xz,p.1≠D):be X xz σ (ci H D o) s:=by
 have ne:∀{b:ww} {u:HO},H b=some u->b≠D:=λ e=>bN e hn;have nb:∀(b:ww) (ob:Obj),X.s₀.heap.get? b=some ob->b≠D:=λ b ob e=>G8 (p7 (G9 e) hs);refine⟨I.ok,I.os,I.bare,⟨I.base.keep,I.base.slot,λ b ob e n hx=>?_,I.base.there,λ b xs e=>?_,λ b ob u e=>?_,λ b ps e=>?_⟩,I.loc,I.cell,?_,λ x c e=>?_,λ p RE=>?_,λ b u e=>?_,I.len⟩
 ·rw[aN (nb b ob e)];exact I.base.free b ob e n hx
 ·have q:=I.base.ni b xs e;rw[aN (ne q)];exact q
 ·have q:=I.base.pW b ob u e;rw[aN (ne q)];exact q
 ·obtain⟨m,q⟩:=I.base.pK b ps e;exact⟨m,by rw[aN (ne q)];exact q⟩
 ·rw[aN (K8 hL)];exact I.free
 ·rw[aN (hc x c e)];exact I.gh x c e
 ·obtain⟨e,n,r⟩:=I.pin p RE;exact⟨e,by rw[aN (hp p RE)];exact n,r⟩
 ·by_cases hb:b=D
  ·subst hb;rw[aR]at e;cases e;exact new
  ·rw[aN hb]at e;exact(I.bx b u e).nA (λ c v _ q=>q) (λ c q=>by rw[aN (ne q)];exact q) λ c xs q=>by rw[aN (ne q)];exact q
def bI(cells:List (Str×ww)):List (Str×NameKind)->List (Str×ww)->List (Str×ww)
 |[],zn=>zn
 |(n,k)::r,zn=>if(k==.free)=true then bI cells r ((n,(cells.lookup n).getD 0)::zn)else bI cells r zn
theorem gH:∀(names:List (Str×NameKind)) (zn:List (Str×ww)),(∀n,(n,NameKind.free)∈names->∃c,cells.lookup n=some c)-> (∀x c,zn.lookup x=some c->cells.lookup x=some c)->∀x c,(bI cells names zn).lookup x=some c->cells.lookup x=some c
 |[],zn,_,h,x,c,e=>h x c e
 |(n,k)::r,zn,hc,h,x,c,e=>by
  unfold bI at e;by_cases hk:(k==NameKind.free)=true
  ·rw[K9 hk]at e;refine gH r _ (λ m hm=>hc m (k7 _ hm)) (λ y d q=>?_) x c e;have KW:k=NameKind.free:=by simpa using hk
   obtain⟨c0,e0⟩:=hc n (by rw[KW];exact n6);rw[y6]at q;cases hy:(y==n)with
   |true=>
    rw[hy]at q;have yn:y=n:=by simpa using hy
    subst yn;rw[e0]at q;rw[e0];exact q
   |false=>rw[hy]at q;exact h y d q
  ·rw[L1 hk]at e;exact gH r _ (λ m hm=>hc m (k7 _ hm)) h x c e
theorem iz:∀(names:List (Str×NameKind)) (zn:List (Str×ww)),((zn.lookup x).isSome=true)->((bI cells names zn).lookup x).isSome=true
 |[],zn,h=>h
 |(n,k)::r,zn,h=>by
  unfold bI;split
  ·refine iz r _ ?_;rw[y6];cases hy:(x==n)with
   |true=>rfl
   |false=>exact h
  ·exact iz r _ h
theorem iU:∀(names:List (Str×NameKind)) (zn:List (Str×ww)),(x,NameKind.free)∈names->((bI cells names zn).lookup x).isSome=true
 |[],zn,h=>absurd h (by simp)
 |(n,k)::r,zn,h=>by
  unfold bI;rcases G5.mp h with e|h
  ·cases e;rw[K9 (by decide)];refine iz r _ ?_;rw[y6];simp
  ·split
   ·exact iU r _ h
   ·exact iU r _ h
theorem eu{env:Env}(hc:∀n,(n,NameKind.free)∈scope.names->∃c,env.cells.lookup n=some c):closureFor scope env=pure (bI env.cells scope.names []):=by
 unfold closureFor;have all:∀(names:List (Str×NameKind)) (zn:List (Str×ww)),(∀n,(n,NameKind.free)∈names->∃c,env.cells.lookup n=some c)->
   (forIn names zn (λ(x:Str×NameKind) (cs:List (Str×ww))=>(match x with|(name,kind)=>if(kind==.free)=true then(do let c <- cellOf env name;pure (ForInStep.yield ((name,c)::cs)))else pure (ForInStep.yield cs):Sem (ForInStep (List (Str×ww))))))=(pure (bI env.cells names zn):Sem (List (Str×ww))):=by
  intro names
  induction names with
  |nil=>intro zn _;rfl
  |cons y r ih=>
   intro zn hc;obtain⟨n,k⟩:=y;rw[C7];unfold bI;dsimp only;by_cases hk:(k==NameKind.free)=true
   ·rw[K9 hk,K9 hk];have KW:k=NameKind.free:=by simpa using hk
    obtain⟨c0,e0⟩:=hc n (by rw[KW];exact n6);unfold cellOf;rw[e0];exact ih _ λ m hm=>hc m (k7 _ hm)
   ·rw[L1 hk,L1 hk];exact ih _ λ m hm=>hc m (k7 _ hm)
 have q:=all scope.names [] hc;refine Eq.trans ?_ (K7 (λ m=>m >>= pure) q);rfl
theorem nM{env:Env}:∀{names:List (Str×NameKind)} {x:Str},names.lookup x=some .free-> (names.map λ(n,k)=>if(k==NameKind.free&&env.scope.kind==.function&&env.kindOf n==some .cell)then(n,NameKind.cell)else(n,k)).lookup x=some .cell\/ (names.map λ(n,k)=>if(k==NameKind.free&&env.scope.kind==.function&&env.kindOf n==some .cell)then(n,NameKind.cell)else(n,k)).lookup x=some .free
 |[],_,h=>by simp at h
 |(n,k)::r,x,h=>by
  have ih:=@nM env r x;rw[G4];dsimp only;cases hx:x==n with
  |true=>
   rw[y6,hx]at h;have h':k=NameKind.free:=by simpa using h
   subst h';split
   ·left;rw[y6,hx]
   ·right;rw[y6,hx]
  |false=>
   rw[y6,hx]at h;have ih:=ih h;split
   ·rw[y6,hx];exact ih
   ·rw[y6,hx];exact ih
theorem sV{prog:Program}{w:World}{A:Around}{R:Result->kt->Prop}{s:kt}{elt target iter:Expr}{ifs:List Expr}{scope:Scope}{pos:Pos}{it zn:jp}{env:Env}(I:Nat->kt->Prop) (turn:∀n s,I n s->wpAny (model prog w) A (pyNext it) (λ r s1=>match r with
   |none=>R (.ok .next) s1
   |some v=>wpAny (model prog w) A (letOwnedTupleGo target it v) (λ _ s2=>wpAny (model prog w) A (assign target env v) (λ _ s3=>
     wpAny (model prog w) A (forIn ifs true λ c r=>if r=true then do let ok <- isTrue c env (eval c env);pure (ForInStep.yield ok)else pure (ForInStep.yield r)) (λ ok s4=>
      if ok=true then wpAny (model prog w) A (eval elt env) (λ x s5=>
       wpAny (model prog w) A (call (.builtin "list.append") [zn,x]) (λ _ s6=>∃m,m < n/\I m s6) (λ _ _=>False) s5) (λ _ _=>False) s4
      else ∃m,m < n/\I m s4) (λ _ _=>False) s3) (λ _ _=>False) s2) (λ _ _=>False) s1) (λ _ _=>False) s)
  (n:Nat) (h:I n s):
  codeAny (model prog w) A (.compLoop (.ListComp elt [⟨target,iter,ifs,0⟩] scope pos) 0 it zn env) R s:=by
 refine codeAny_loop rfl I (λ n s hI=>?_) n h;show wpAny _ A ((compTurn (.ListComp elt [⟨target,iter,ifs,0⟩] scope pos) 0 it zn env).onRaise (λ x=>do noteFrame x env;theTreesLotGoes x)) _ _ s;refine wpAny_noted ?_;rw[compTurn_list];refine wpAny_noRaise (K1 (wpAny_standAt (K1 (K5 (turn n s hI) (λ r s1 h1=>?_) λ _ _ h'=>h'))));cases r with
 |none=>exact K2 h1
 |some v=>
  refine K1 (K5 h1 (λ _ s2 h2=>?_) λ _ _ h'=>h');refine K1 (K5 h2 (λ _ s3 h3=>K1 (K5 h3 (λ ok s4 h4=>?_) λ _ _ h'=>h')) λ _ _ h'=>h');cases ok with
  |false=>exact K2 ⟨rfl,h4⟩
  |true=>exact K1 (K1 (K5 h4 (λ x s5 h5=>K1 (K5 h5 (λ _ s6 h6=>K2 (K2 ⟨rfl,h6⟩)) λ _ _ h'=>h')) λ _ _ h'=>h'))
open PySem.Spec PyProof.Rows
def bE(X:Cx)(scope:Scope)(cl:List (Str×ww))(tgs:List Str)(fr:List Nat)(C:ww)(fp:List ww)(s:kt)(H:Hp):Cx:=
 {X with N:=tgs++fr.map (λ j=>X.N.getD j ""),s₀:=s,H₀:=H,env:=compEnvC scope cl C X.env,outer:=X.stack,ex:=fp,fn:=λ x=>scope.names.lookup x==some .cell,pn:=[]}
def fQ(n:Nat)(fr:List Nat)(σ:St):St:=List.replicate n none++fr.map (λ j=>σ.getD j none)
structure Ge(X:Cx)(scope:Scope)(C:ww)(h1:Heap)(cl:List (Str×ww)):Prop where
 look:∀x c,cl.lookup x=some c->X.env.cells.lookup x=some c\/(C < c/\h1.IsCell c none)
 inj:∀x y c,cl.lookup x=some c->cl.lookup y=some c->x=y
 has:∀x,(x,NameKind.free)∈scope.names\/(x,NameKind.cell)∈scope.names->∃c,cl.lookup x=some c
 VW:∀x c,scope.names.lookup x=some .free->cl.lookup x=some c->X.env.cells.lookup x=some c
 own:∀x c,scope.names.lookup x=some .cell->cl.lookup x=some c->C < c
structure kB(X:Cx)(scope:Scope)(fr:List Nat):Prop where
 kind:scope.kind=.function
 cells:∀y∈scope.names,y.2=.cell->scope.names.lookup y.1=some .cell
 names:∀y∈scope.names,y.2=.local->scope.names.lookup y.1=some .local
 has:∀n,(n,NameKind.free)∈scope.names->X.env.kindOf n=some .cell\/X.env.kindOf n=some .free
 fr:∀j∈fr,j < X.N.length/\scope.names.lookup (X.N.getD j "")=some .free
def jy(n:Nat)(g:TG):Prop:=∀x σ H Q,g x σ H Q->g x σ H λ σ2 H2=>Q σ2 H2/\σ2.length=σ.length/\∀k,n<=k->σ2[k]?=σ[k]?
theorem iR(h:i < n):jy n (cY i):=λ x σ H Q q=>⟨q,by simp,λ k hk=>by rw[l5 (by lia)]⟩
def mQ(n:Nat)(g:zU):Prop:=∀xs σ H Q,g xs σ H Q->g xs σ H λ σ2 H2=>Q σ2 H2/\σ2.length=σ.length/\∀k,n<=k->σ2[k]?=σ[k]?
theorem Fh:mQ n sR:=λ xs σ H Q q=>⟨q.1,q.2,rfl,λ _ _=>rfl⟩
def PX(X:Cx)(ifs:List Expr)(t:TT):Prop:=
 ∀(xz:List (ww×Obj)) (s:kt) (σ:St) (H:Hp) (Q:Bool->Hp->Prop),be X xz σ H s->t σ H Q->
  wpAny (model X.prog X.w) X.A (forIn ifs true λ c r=>if r=true then do let ok <- isTrue c X.env (eval c X.env);pure (ForInStep.yield ok)else pure (ForInStep.yield r)) (TP X xz σ Q) X.xe s
def T_:TT:=λ _ H Q=>Q true H
theorem Im:PX X [] T_:=λ _ s σ H Q I h=>wpAny_tests_nil ⟨H,I,h⟩
theorem Il{t:TT}(h:PT X c t):PX X [c] t:=λ xz s σ H Q I q=>wpAny_tests_one (h xz s σ H Q I q)
def ua(wi:TI)(g:TG)(tt:TT)(te:TE)(n:Nat)(fr:List Nat):TE:=λ σ H Q=>wi σ H λ J H1=>∃W:Nat->Nat->List V->Hp->Prop,(∃m,W 0 m [] H1)/\∀i m zn H,W i m zn H->
 zn.length<=sizeLine/\((J.stop i H/\∀p,H p=none->Q (.ref p) (ci H p (.lst zn)))\/
  (J.go i H/\∃N:List V->Hp->Prop,(∀gI H',N gI H'->∃m',m' < m/\W (i+1) m' gI H')/\∀x H',J.GD i H x H'->g x (fQ n fr σ) H' λ σ2 H2=>tt σ2 H2 λ b H3=>if b=true then te σ2 H3 λ y H4=>N (zn++[y]) H4 else N zn H3))
theorem h_{env:Env}:∀{names:List (Str×NameKind)} {x:Str} {k0:NameKind}, (names.map λ(n,k)=>if(k==NameKind.free&&env.scope.kind==.function&&env.kindOf n==some .cell)then(n,NameKind.cell)else(n,k)).lookup x=some k0->(k0=.cell\/k0=.free)->(x,NameKind.free)∈names\/(x,NameKind.cell)∈names
 |[],_,_,h,_=>by simp at h
 |(n,k)::r,x,k0,h,hk=>by
  have ih:=@h_ env r x k0;rw[G4]at h;dsimp only at h;cases hx:x==n with
  |true=>
   have xn:x=n:=by simpa using hx
   subst xn;by_cases RS:(k==NameKind.free&&env.scope.kind==.function&&env.kindOf x==some .cell)=true
   ·have:k=NameKind.free:=by have:=(A1 _ _).mp RS;have:=(A1 _ _).mp this.1;simpa using this.1
    subst this;exact .inl n6
   ·rw[L1 RS,y6,hx]at h;have h':k=k0:=by simpa using h
    subst h';rcases hk with e|e
    ·subst e;exact .inr n6
    ·subst e;exact .inl n6
  |false=>
   have z:(x,NameKind.free)∈r\/(x,NameKind.cell)∈r:=by
    refine ih ?_ hk;split at h
    ·rw[y6,hx]at h;exact h
    ·rw[y6,hx]at h;exact h
   exact z.imp (k7 _) (k7 _)
theorem iK{n:Str}{zn:List (Str×ww)}{c:ww}(h:((n,a)::zn).lookup x=some c):(x=n/\c=a)\/(x≠n/\zn.lookup x=some c):=by
 rw[y6]at h;cases e:x==n with
 |true=>rw[e]at h;exact .inl ⟨by simpa using e,(B6 h).symm⟩
 |false=>rw[e]at h;exact .inr ⟨by simpa using e,h⟩
set_option tactic.hygienic true in
theorem sW:∀(names:List (Str×NameKind)) (h:Heap) (zn:List (Str×ww)) (x:Str) (c:ww),(cellsFrom h.objs.size names zn).lookup x=some c->zn.lookup x=some c\/(h.objs.size<=c/\(pushCells h names).IsCell c none)
 |[],_,_,_,_,e=>.inl e
 |(n,k)::r,h,zn,x,c,e=>by
  unfold cellsFrom at e;unfold pushCells;split at e
  ·rename_i hk;rw[K9 hk];have sz:=D1 h {cls:=.type "cell",data:=.cell none};rw[<- sz]at e;rcases sW r _ _ x c e with z|z
   ·rcases iK z with⟨_,q⟩|⟨_,q⟩
    ·subst q;exact .inr ⟨J7 _,_,pushCells_keeps r _ _ _ (m7 _ rfl),rfl⟩
    ·exact .inl q
   ·exact .inr ⟨by have:=z.1;rw[sz]at this;lia,z.2⟩
  ·rename_i hk;rw[L1 hk];exact sW r h zn x c e
theorem xH:∀(names:List (Str×NameKind)) (n:Nat) (zn:List (Str×ww)),(∀x c,zn.lookup x=some c->c < n)->(∀x y c,zn.lookup x=some c->zn.lookup y=some c->x=y)->∀x y c,(cellsFrom n names zn).lookup x=some c->(cellsFrom n names zn).lookup y=some c->x=y
 |[],_,_,_,hi=>hi
 |(m,k)::r,n,zn,lt,hi=>by
  unfold cellsFrom;split
  ·refine xH r (n+1) _ (λ x c e=>?_) (λ x y c e1 e2=>?_)
   ·rcases iK e with⟨_,q⟩|⟨_,q⟩
    ·rw[q];exact Nat.lt_succ_self n
    ·exact y4 (lt x c q)
   ·rcases iK e1 with⟨a1,q1⟩|⟨a1,q1⟩ <;> rcases iK e2 with⟨a2,q2⟩|⟨a2,q2⟩
    ·rw[a1,a2]
    ·exact absurd (q1▸lt y c q2) (G3 _)
    ·exact absurd (q2▸lt x c q1) (G3 _)
    ·exact hi x y c q1 q2
  ·exact xH r n zn lt hi
theorem mM:∀(names:List (Str×NameKind)) (n:Nat) (zn:List (Str×ww)),(∃c,zn.lookup x=some c)->∃c,(cellsFrom n names zn).lookup x=some c
 |[],_,_,h=>h
 |(m,k)::r,n,zn,⟨c,h⟩=>by
  unfold cellsFrom;split
  ·refine mM r _ _ ?_;rw[y6];cases x==m with
   |true=>exact⟨_,rfl⟩
   |false=>exact⟨c,h⟩
  ·exact mM r n zn ⟨c,h⟩
theorem xI:∀(names:List (Str×NameKind)) (n:Nat) (zn:List (Str×ww)),(x,NameKind.cell)∈names->∃c,(cellsFrom n names zn).lookup x=some c
 |[],_,_,h=>absurd h (by simp)
 |(m,k)::r,n,zn,h=>by
  unfold cellsFrom;rcases G5.mp h with e|h
  ·cases e;rw[K9 (by decide)];exact mM r _ _ ⟨n,by rw[y6];simp⟩
  ·split
   ·exact xI r _ _ h
   ·exact xI r _ _ h
set_option tactic.hygienic true in
theorem xJ:∀(names:List (Str×NameKind)) (n:Nat) (zn:List (Str×ww)),(x,NameKind.cell)∉names->(cellsFrom n names zn).lookup x=zn.lookup x
 |[],_,_,_=>rfl
 |(m,k)::r,n,zn,h=>by
  unfold cellsFrom;split
  ·rename_i hk;rw[xJ r _ _ λ z=>h (k7 _ z),y6];cases e:x==m with
   |false=>rfl
   |true=>
    have e1:x=m:=by simpa using e
    have e2:k=.cell:=by simpa using hk
    subst e1 e2;exact absurd n6 h
  ·exact xJ r n zn λ z=>h (k7 _ z)
set_option tactic.hygienic true in
theorem xG{lo:Nat}:∀(names:List (Str×NameKind)) (n:Nat) (zn:List (Str×ww)),lo<=n->((x,NameKind.cell)∈names\/∀c,zn.lookup x=some c->lo<=c)->∀c,(cellsFrom n names zn).lookup x=some c->lo<=c
 |[],_,_,_,h,c,e=>by
  rcases h with h|h
  ·cases h
  ·exact h c e
 |(m,k)::r,n,zn,hn,h,c,e=>by
  unfold cellsFrom at e;split at e
  ·refine xG r (n+1) _ (by lia) ?_ c e;rcases h with h|h
   ·rcases G5.mp h with q|q
    ·cases q;exact .inr λ c e=>by
      rcases iK e with⟨_,z⟩|⟨z,_⟩
      ·rw[z];exact hn
      ·exact absurd rfl z
    ·exact .inl q
   ·exact .inr λ c e=>by
     rcases iK e with⟨_,z⟩|⟨_,z⟩
     ·rw[z];exact hn
     ·exact h c z
  ·rename_i hk;refine xG r n zn hn ?_ c e;rcases h with h|h
   ·rcases G5.mp h with q|q
    ·cases q;exact absurd rfl hk
    ·exact .inl q
   ·exact .inr h
section
variable {M:Model}
theorem AV{globals:ww}{closure:List (Str×ww)}{func:Option ww}{code:jp}{env:Env}{builtins:ww}{Q:Env->kt->Prop} (hQ:Q (newEnv scope s.heap.objs.size globals (cellsFrom (s.heap.objs.size+1) scope.names closure) qual func code (some env) builtins) {s with heap:=pushCells (s.heap.push {cls:=.type "dict",data:=.dict #[]}) scope.names}):wpAny M A (newFunctionEnv scope globals closure [] qual func code (some env) builtins) Q E s:=by simp only[newFunctionEnv,Option.isSome_some,if_true];refine K1 (wpAny_alloc ?_);refine K1 (wpAny_layCells _ (λ name kind cells=>by cases YQ:kind==NameKind.cell <;> simp[YQ]) _ _ _ _ ?_);rw[show({s with heap:=s.heap.push {cls:=.type "dict",data:=.dict #[]}}:kt).heap.objs.size=s.heap.objs.size+1 from D1 ..];exact K1 (K2 (K2 hQ))
end
theorem O9{C:ww}{h1:Heap}(B:kB X scope fr)(L:Ge X scope C h1 cl)(I:be X xz σ H s)(hC:s.heap.objs.size<=C)(f:∀b∈fp,jz X xz H b)(Gn:∀b∈fp,b < s.heap.objs.size): (bE X scope cl tgs fr C fp s H).Ok:=by
 refine⟨I.ok.mod,B.kind,I.ok.glob,I.ok.blt,hC,L.inj,λ x hx=>?_,λ x c h e=>?_,I.ok.hd,I.ok.frames,.inl rfl,λ b hb=>⟨G8 (p7 (Gn b hb) hC),λ x c e=>?_⟩,
  I.bs,J0 I.ok.FO I.sz,λ b o e hb=>?_,λ b hb hs=>?_,I.stack,I.yb⟩
 ·rcases hx with hx|hx
  ·exact L.has x (h_ hx (.inl rfl))
  ·exact L.has x (h_ hx (.inr rfl))
 ·exact J0 hC (J6 (L.own x c (by simpa[bE]using h) e))
 ·rcases L.look x c e with z|z
  ·exact(f b hb).2.2.2.2.1 x c z
  ·exact λ q=>absurd (p6 hC z.1) (Nat.not_lt.mpr (J6 (q▸Gn b hb)))
 ·rcases(f b hb).2.2.2.1 with z|z
  ·exact I.ok.AU b o e z
  ·exact absurd (p7 (G9 e) (J0 I.ok.FO z)) (G3 _)
 ·rcases G5.mp (I.rM b hs)with z|z
  ·exact(f b hb).2.1 z
  ·exact(f b hb).2.2.1 z
theorem Kd{s1:kt}{C:ww}{m:Str->Option jp}(B:kB X scope fr)(L:Ge X scope C s1.heap cl)(I:be X xz σ H s)(hC:s.heap.objs.size<=C)(f:∀b∈fp,jz X xz H b)(Gn:∀b∈fp,b < s.heap.objs.size) (ho:s1.os=s.os) (hg:AllBare s1.gens) (hk:∀b o,s.heap.get? b=some o->s1.heap.get? b=some o) (hn:s1.heap.Ns C m):be (bE X scope cl tgs fr C fp s H) [] (fQ tgs.length fr σ) H s1:=by
 refine⟨O9 B L I hC f Gn,ho,hg,Un.kept hk,⟨m,hn,λ i x v e1 e2 e3=>?_⟩,λ x c e=>?_,I.bx.fresh hC,λ x c e=>?_,λ p hp=>absurd hp (by simp[bE]),I.bx.kept hk,by simp[fQ,bE]⟩
 ·-- a free name:ay V_ value
  have e1:(tgs++fr.map (λ j=>X.N.getD j ""))[i]?=some x:=e1;have hi:tgs.length<=i:=by refine y7 λ gg=>?_;unfold fQ at e2;rw[c8 (by simpa using gg),i9,K9 gg]at e2;cases e2
  unfold fQ at e2;rw[a9 (by simpa using hi),k4,u7]at e2;rw[a9 hi,u7]at e1;cases ej:fr[i - tgs.length]? with
  |none=>rw[ej]at e1;cases e1
  |some j=>
   rw[ej]at e1 e2;have V3:X.N.getD j ""=x:=B6 e1;have Xn:σ.getD j none=some v:=B6 e2;obtain⟨hj,hl⟩:=B.fr j (k8 ej);have hN:X.N[j]?=some x:=by rw[c7,i6 hj]at V3;rw[i6 hj];exact K7 some V3
   have hs:σ[j]?=some (some v):=by
    have Tw:j < σ.length:=by rw[I.len];exact hj
    rw[c7,i6 Tw]at Xn;rw[i6 Tw];exact K7 some Xn
   rw[V3]at hl;obtain⟨m0,zk,VA⟩:=I.loc;have RL:(x,NameKind.free)∈scope.names:=l8 hl;have kinds:=B.has x RL;obtain⟨u,ru,lu⟩:=VA j x v hN hs (by rcases kinds with z|z;exact .inr (.inl z);exact .inr (.inr z));refine⟨u,ru,.inr ⟨nM hl,?_⟩⟩;obtain⟨c,hc⟩:=L.has x (.inl RL);refine⟨c,hc,?_⟩;rcases lu with⟨kl,_⟩|⟨_,c',E_,z⟩
   ·rcases kinds with z|z <;> (rw[z]at kl;cases kl)
   ·have:c=c':=by have:=L.VW x c hl hc;rw[this]at E_;exact B6 E_
    subst this;obtain⟨o,ho,hd⟩:=z;exact⟨o,hk _ _ ho,hd⟩
 ·rcases L.look x c e with z|z
  ·obtain⟨v,o,pF,hd⟩:=I.cell x c z;exact⟨v,o,hk _ _ pF,hd⟩
  ·exact⟨none,z.2⟩
 ·rcases L.look x c e with z|z
  ·exact I.gh x c z
  ·exact I.bx.fresh (J0 hC (J6 z.1))
theorem O_{h2:Heap}(B:kB X scope fr)(I:be X xz σ H s)(hs:s.heap.objs.size<=h2.objs.size):Ge X scope h2.objs.size (pushCells (h2.push {cls:=.type "dict",data:=.dict #[]}) scope.names) (cellsFrom (h2.objs.size+1) scope.names (bI X.env.cells scope.names [])):=by
 have look:∀x c,(bI X.env.cells scope.names []).lookup x=some c->X.env.cells.lookup x=some c:=
  gH scope.names [] (λ n hn=>I.ok.has n (B.has n hn)) λ x c e=>by simp at e
 have sz:=D1 h2 {cls:=.type "dict",data:=.dict #[]};refine⟨λ x c e=>?_,xH _ _ _ (λ x c e=>?_) (λ x y c e1 e2=>I.ok.inj x y c (look x c e1) (look y c e2)),λ x h=>?_,λ x c h e=>?_,λ x c h e=>?_⟩
 ·rw[<- sz]at e;rcases sW _ _ _ x c e with z|z
  ·exact .inl (look x c z)
  ·exact .inr ⟨p7 (by rw[sz];exact Nat.lt_succ_self _) z.1,z.2⟩
 ·obtain⟨v,hv⟩:=I.cell x c (look x c e);exact y4 (p7 hv.lt hs)
 ·rcases h with h|h
  ·exact mM _ _ _ (Option.isSome_iff_exists.mp (iU scope.names [] h))
  ·exact xI _ _ _ h
 ·rw[xJ _ _ _ λ z=>by have:=B.cells _ z rfl;rw[h]at this;cases this]at e;exact look x c e
 ·exact xG (lo:=h2.objs.size+1) _ _ _ (J7 _) (.inl (l8 h)) c e
open PySem.Spec PyProof.Rows
section
variable {elt:Expr}{pos:Pos}{wi:TI}{g:TG}{tt:TT}{te:TE}
theorem toF{M:Model}{t:Sem α}{Q Q':α->kt->Prop}(hE:∀e s,E e s->False)(h:wpAny M A t Q E s)(hQ:∀a s,Q a s->Q' a s):wpAny M A t Q' (λ _ _=>False) s:=
 K5 h hQ hE
theorem rp{xz:List (ww×Obj)}{σ:St}{H:Hp}{s:kt}{R:jp->ww->Result->kt->Prop}{E:jp->kt->Prop}{J:It}{fp:List ww}{it:ww}{tn:Nat->Heap->Prop}{Qe:List V->Hp->Prop} (B:kB X scope fr) (hc:X.calm=true) (hE:∀e s,X.xe e s->False) (hg:∀cl C fp s H,PG (bE X scope cl tgs fr C fp s H) tg g) (gk:jy tgs.length g) (ht:∀cl C fp s H,PX (bE X scope cl tgs fr C fp s H) ifs tt) (he:∀cl C fp s H,PE (bE X scope cl tgs fr C fp s H) elt te) (I:be X xz σ H s) (T:Turn X.prog X.w X.K tg J fp it tn) (st:tn 0 s.heap) (f:∀b∈fp,jz X xz H b) (W:Nat->Nat->List V->Hp->Prop) (m0:Nat) (w0:W 0 m0 [] H) (turn:∀i m zn H,W i m zn H->zn.length<=sizeLine/\((J.stop i H/\Qe zn H)\/(J.go i H/\∃N:List V->Hp->Prop,(∀gI H',N gI H'->∃m',m' < m/\W (i+1) m' gI H')/\∀x H',J.GD i H x H'->g x (fQ tgs.length fr σ) H' λ σ2 H2=>tt σ2 H2 λ b H3=>
   if b=true then te σ2 H3 λ y H4=>N (zn++[y]) H4 else N zn H3)))
  (fin:∀(D C:ww) (s1:kt) (H1:Hp) (zn:List V) (ay:List jp),s.heap.objs.size<=D->s.heap.objs.size<=C->D≠C->be X xz σ H1 s1->H1 C=none->H1 D=none->(∃m,s1.heap.Ns C m)->
   s1.heap.PlainList D ay.toArray->ce zn ay->zn.length<=sizeLine->Qe zn H1->R (.ref D) C (.ok .next) s1):
  wpAny (model X.prog X.w) X.A (newList []) (λ zn s3=>wpAny (model X.prog X.w) X.A (newFunctionEnv scope X.env.globals (bI X.env.cells scope.names []) [] X.env.qual none .none (some X.env)) (λ Sm s4=>
   codeAny (model X.prog X.w) X.A (.compStart (.ListComp elt [⟨tg,iter,ifs,0⟩] scope pos) 0 (.ref it) zn {Sm with scope:=relabel scope X.env}) (R zn Sm.locals) s4) E s3) E s:=by
 have Gn:∀b∈fp,b < s.heap.objs.size:=λ b hb=>by obtain⟨o,e,_⟩:=T.obj 0 _ st b hb;exact G9 e
 refine w9 (AV ?_);dsimp only;generalize VQ:s.heap.push {cls:=.type "list",dict:=none,data:=.seq ([]:List jp).toArray}=H2;have hC:H2.objs.size=s.heap.objs.size+1:=by rw[<- VQ,D1]
 have L0:=O_ (h2:=H2) B I (by lia);have RG:(pushCells (H2.push {cls:=.type "dict",data:=.dict #[]}) scope.names).Ns H2.objs.size (λ _=>none):=(Heap.Ns.new H2 (.type "dict")).keeps (pushCells_keeps _ _);have U2:∀b o,H2.get? b=some o->(pushCells (H2.push {cls:=.type "dict",data:=.dict #[]}) scope.names).get? b=some o:=λ b o e=>pushCells_keeps _ _ b o (j3 _ e);generalize pushCells (H2.push {cls:=.type "dict",data:=.dict #[]}) scope.names=h1 at L0 RG U2 ⊢;have OO:s.heap.objs.size≠H2.objs.size:=by lia
 have JH:s.heap.objs.size<=H2.objs.size:=by lia
 have below:∀b,b < s.heap.objs.size->b≠H2.objs.size/\b≠s.heap.objs.size:=λ b hb=>⟨by lia,by lia⟩;have old:∀b o,s.heap.get? b=some o->h1.get? b=some o:=λ b o e=>U2 b o (VQ▸j3 _ e);have fG:h1.PlainList s.heap.objs.size #[]:=⟨_,U2 _ _ (VQ▸m7 _ rfl)⟩;have Wt:tn 0 h1:=T.keep _ _ _ st λ b _ o e=>old b o e;have UU:∀x c,(cellsFrom (H2.objs.size+1) scope.names (bI X.env.cells scope.names [])).lookup x=some c->X.env.cells.lookup x=some c\/H2.objs.size < c:=λ x c e=>(L0.look x c e).imp id λ z=>z.1;generalize cellsFrom (H2.objs.size+1) scope.names (bI X.env.cells scope.names [])=cl at L0 UU ⊢;generalize hCd:H2.objs.size=C at*;generalize R0:s.heap.objs.size=D at*;have Zi:∀b,b < D->b < s.heap.objs.size:=λ b hb=>by rw[R0];exact hb
 have fD:=I.jf (b:=D) (H':=H) (J3 R0) (I.bx.fresh (J3 R0));have Kp:∀b,b≠X.env.locals->b∉X.fs->b∉Bt X.stack:=λ b h1 h2 hb=>(G5.mp (I.rM b hb)).elim h1 h2;have Bq:∀b∈fp,b∉Bt X.stack:=λ b hb=>Kp b (f b hb).2.1 (f b hb).2.2.1;have ZX:∀x c,cl.lookup x=some c->c≠D:=λ x c e=>(UU x c e).elim (fD.2.2.2.2.1 x c) λ z q=>absurd (p6 JH (q▸z)) (G3 _);have loop:∀s3:kt,s3={s with heap:=h1}->
   codeAny (model X.prog X.w) X.A (.compLoop (.ListComp elt [⟨tg,iter,ifs,0⟩] scope pos) 0 (.ref it) (.ref D) (compEnvC scope cl C X.env)) (R (.ref D) C) s3:=by
  rintro s3 rfl;have IY0:be (bE X scope cl tgs fr C fp s H) [] (fQ tgs.length fr σ) H {s with heap:=h1}:=
   Kd B L0 I (by rw[R0];exact JH) f (λ b hb=>Zi b (Gn b hb)) rfl I.bare old RG
  refine sV (λ n s'=>∃(i:Nat) (zn:List V) (ay:List jp) (H':Hp),be (bE X scope cl tgs fr C fp s H) [] (fQ tgs.length fr σ) H' s'/\tn i s'.heap/\(∀b∈fp,H' b=none)/\H' D=none/\
   s'.heap.PlainList D ay.toArray/\ce zn ay/\W i n zn H') ?_ m0 ⟨0,[],[],H,IY0,Wt,λ b hb=>(f b hb).1,fD.1,fG,.nil,w0⟩
  rintro n s3 ⟨i,zn,ay,H3,I3,Qk,R5,Zj,⟨nl,ES⟩,Tc,w3⟩;obtain⟨hz,h⟩:=turn i n zn H3 w3;have Xs:be (bE X scope cl tgs fr C fp s H) [(D,{cls:=.type "list",data:=.seq ay.toArray nl})] (fQ tgs.length fr σ) H3 s3:=I3.eX λ p hp=>by
   have e:p=(D,{cls:=.type "list",data:=.seq ay.toArray nl}):=by simpa using hp
   subst e;exact⟨ES,Zj,OO,Kp D fD.2.1 fD.2.2.1,λ v e=>by cases e⟩
  have fY:∀{H':Hp},(∀b∈fp,H' b=none)->∀b∈fp,jz (bE X scope cl tgs fr C fp s H) [(D,{cls:=.type "list",data:=.seq ay.toArray nl})] H' b:=λ hn b hb=>
   ⟨hn b hb,(below b (Gn b hb)).1,Bq b hb,.inl hb,λ x c e=>(UU x c e).elim ((f b hb).2.2.2.2.1 x c) λ z q=>absurd (p7 (Gn b hb) (J0 JH (J6 (q▸z)))) (G3 _),λ p hp=>by
    have e:p=(D,{cls:=.type "list",data:=.seq ay.toArray nl}):=by simpa[bE]using hp
    subst e;exact K8 (below b (Gn b hb)).2⟩
  rcases h with⟨stop,q⟩|⟨go,N,hN,step⟩
  ·refine dG (T.done (bE X scope cl tgs fr C fp s H) rfl rfl rfl hc i _ s3 _ H3 _ Xs (fY R5) Qk stop) λ r s4 ⟨hr,I4⟩=>?_;subst hr;have pD:=I4.pin (D,{cls:=.type "list",data:=.seq ay.toArray nl}) (by simp);have IX:be X xz σ H3 s4:=I.Ss (ch:=fp) I4.os I4.base I4.bx I4.bare λ b hb=>⟨(f b hb).2.2.2.1,(f b hb).2.1,(f b hb).2.2.2.2.1,(f b hb).2.2.2.2.2⟩;obtain⟨m4,W3,_⟩:=I4.loc;exact fin D C s4 H3 zn ay (J7 _) JH OO IX I4.free pD.2.1 ⟨m4,W3⟩ ⟨nl,pD.1⟩ Tc hz q
  ·refine dG (T.item (bE X scope cl tgs fr C fp s H) rfl rfl rfl hc i _ s3 _ H3 _ Xs (fY R5) Qk go) λ r s4 ⟨u,hr,h4⟩=>?_;subst hr;refine dG h4 λ _ s5 ⟨x,H5,I5,r5,y5,GV,VX⟩=>?_;have Wo:=I5.pinned (fY VX) (T.obj _ _ GV);refine toF hE (hg _ _ _ _ _ _ s5 _ H5 x u _ Wo r5 (gk x _ H5 _ (step x H5 y5))) λ _ s6 ⟨σ6,H6,I6,q6,UX,k6⟩=>?_;refine toF hE (ht _ _ _ _ _ _ s6 σ6 H6 _ I6 q6) λ ok s7 ⟨H7,I7,q7⟩=>?_;have wk:∀{H':Hp} {s':kt} {pl:List (ww×Obj)},be (bE X scope cl tgs fr C fp s H) pl σ6 H' s'->be (bE X scope cl tgs fr C fp s H) pl (fQ tgs.length fr σ) H' s':=λ J=>
    J.weak UX.symm λ k v e=>by
     by_cases hk:tgs.length<=k
     ·rw[k6 k hk];exact e
     ·unfold fQ at e;rw[c8 (by simpa using hk),i9,K9 (by lia)]at e;cases e
   cases ok with
   |false=>simp only[o7,K6]at q7 ⊢;obtain⟨m',hm,w7⟩:=hN _ _ q7;have pD:=I7.pin (D,{cls:=.type "list",data:=.seq ay.toArray nl}) (by simp);refine⟨m',hm,i+1,zn,ay,H7,wk (I7.eX (pins':=[]) λ p hp=>absurd hp (by simp)),T.keep _ _ _ GV λ b hb o e=>(I7.pin (b,o) (j7 _ (j7 _ (dZ hb e)))).1,λ b hb=>?_,pD.2.1,⟨nl,pD.1⟩,Tc,w7⟩;obtain⟨o,e,d⟩:=T.obj _ _ GV b hb;exact(I7.pin (b,o) (j7 _ (j7 _ (dZ hb e)))).2.1
   |true=>
    simp only[if_true]at q7 ⊢;refine toF hE (he _ _ _ _ _ _ s7 σ6 H7 _ I7 q7) λ uy s8 ⟨y,H8,I8,r8,n8⟩=>?_;obtain⟨m',hm,w8⟩:=hN _ _ n8;have pD:=I8.pin (D,{cls:=.type "list",data:=.seq ay.toArray nl}) (by simp);have hits:ay.toArray.size<=sizeLine:=by have:=Tc.length;simp only[y0];lia
    refine wpAny_list_append_plain (hsz:=hits) (show s8.heap.PlainList D ay.toArray from⟨nl,pD.1⟩) λ h9 Vz WU=>?_;have I9:be (bE X scope cl tgs fr C fp s H) [] σ6 H8 {s8 with heap:=h9,toks:=s8.toks}:=
     (I8.eX (pins':=[]) λ p hp=>absurd hp (by simp)).turned (it:=D) (λ b o hb e=>WU.extBut b o hb e) pD.2.1 OO (.inr (J3 R0)) ZX λ p hp=>absurd hp (by simp[bE])
    refine⟨m',hm,i+1,zn++[y],ay++[uy],H8,wk I9,T.keep _ _ _ GV λ b hb o e=>WU.extBut b o (below b (Gn b hb)).2 (I8.pin (b,o) (j7 _ (j7 _ (dZ hb e)))).1,λ b hb=>?_,pD.2.1,?_,Tc.append (.cons r8 .nil),w8⟩
    ·obtain⟨o,e,d⟩:=T.obj _ _ GV b hb;exact(I8.pin (b,o) (j7 _ (j7 _ (dZ hb e)))).2.1
    ·have e:(ay++[uy]).toArray=ay.toArray.push uy:=by simp
     rw[e];exact Vz
 exact codeAny_compStart_list (loop _ rfl) (T.self _ 0 _ _ _ Wt (loop _ rfl))
theorem sf(B:kB X scope fr)(hc:X.calm=true)(hE:∀e s,X.xe e s->False)(hi:PI X tg iter wi) (hg:∀cl C fp s H,PG (bE X scope cl tgs fr C fp s H) tg g) (gk:jy tgs.length g) (ht:∀cl C fp s H,PX (bE X scope cl tgs fr C fp s H) ifs tt) (he:∀cl C fp s H,PE (bE X scope cl tgs fr C fp s H) elt te) (hs:∀x,foldedSetIterable iter X.env x=pure x:=by intro _;rfl):PE X (.ListComp elt [⟨tg,iter,ifs,0⟩] scope pos) (ua wi g tt te tgs.length fr):=by intro xz s σ H Q I h;rw[eval_ListComp];have EZ:=eu (scope:=scope) (env:=X.env) λ n hn=>I.ok.has n (B.has n hn);refine wpAny_comprehension_free (use:=none) rfl hs EZ B.kind B.names (K5 (hi xz s σ H _ I h) (λ xv s1 h1=>K5 h1 (λ Tn s2 h2=>?_) λ _ _ e=>e) λ _ _ e=>e);obtain⟨it,fp,tn,J,H2,rfl,I2,T,GW,f2,W,⟨m0,w0⟩,turn⟩:=h2;refine rp (R:=λ zn C=>compPost (model X.prog X.w) X.A X.xe none (EP X xz σ Q) zn C) (Qe:=λ zn H=>∀p,H p=none->Q (.ref p) (ci H p (.lst zn))) B hc hE hg gk ht he I2 T GW f2 W m0 w0 turn ?_;intro D C s1 H1 zn ay hD hC OO I1 nC nD ⟨m,hn⟩ hl rv hz q;refine⟨m,hn,λ h' jD=>?_⟩;have fC:=I2.jf (b:=C) (H':=H1) hC nC;have fD:=I2.jf (b:=D) (H':=H1) hD nD;have I3:be X xz σ H1 {s1 with heap:=h',toks:=s1.toks}:=I1.turned (it:=C) (λ b o hb e=>jD.extBut b o hb e) nC fC.2.1 fC.2.2.2.1 fC.2.2.2.2.1 fC.2.2.2.2.2;obtain⟨k,e⟩:=hl.extBut jD.extBut OO;exact⟨.ref D,ci H1 D (.lst zn),I3.nu nD ⟨hz,ay,k,rv,e⟩ fD.2.1 (J0 I2.sz hD) fD.2.2.2.2.1 fD.2.2.2.2.2,rfl,q D nD⟩
theorem wG{y:Str}{py ud:Pos}(hN:X.N.Nodup)(hiy:X.N[i]?=some y)(hy:Loc X.env.scope y)(B:kB X scope fr)(hc:X.calm=true)(hE:∀e s,X.xe e s->False)(hi:PI X tg iter wi) (hg:∀cl C fp s H,PG (bE X scope cl tgs fr C fp s H) tg g) (gk:jy tgs.length g) (ht:∀cl C fp s H,PX (bE X scope cl tgs fr C fp s H) ifs tt) (he:∀cl C fp s H,PE (bE X scope cl tgs fr C fp s H) elt te) (hsw:swapsWith (.ListComp elt [⟨tg,iter,ifs,0⟩] scope pos) (some (.Name y py)) ud.line X.env=pure true:=by rfl) (hf:X.fn y=true\/X.env.scope.names.lookup y=some .local:=by first|exact .inl rfl|exact .inr rfl|assumption) (hs:∀x,foldedSetIterable iter X.env x=pure x:=by intro _;rfl):PS X (.Assign [.Name y py] (.ListComp elt [⟨tg,iter,ifs,0⟩] scope pos) ud) (GR (ua wi g tt te tgs.length fr) (cY i)):=by
 intro xz s σ H D0 I h;rw[exec_Assign_Name_used _ _ _ _ hsw];have EZ:=eu (scope:=scope) (env:=X.env) λ n hn=>I.ok.has n (B.has n hn);refine K1 (wpAny_standAt (K1 ?_));show wpAny _ X.A (do let _ <- comprehension (.ListComp elt [⟨tg,iter,ifs,0⟩] scope pos) scope X.env _ (newList []) false (eval iter X.env) (some (assign (.Name y py) X.env))) _ _ s;refine K1 (K5 (wpAny_comprehension_free (use:=some (assign (.Name y py) X.env)) (Q:=λ _ s'=>SP X xz D0 .next s') rfl hs EZ B.kind B.names
  (K5 (hi xz s σ H _ I h) (λ xv s1 h1=>K5 h1 (λ Tn s2 h2=>?_) λ _ _ e=>e) λ _ _ e=>e)) (λ _ s' hq=>K2 (K2 hq)) λ _ _ e=>e)
 obtain⟨it,fp,tn,J,H2,rfl,I2,T,GW,f2,W,⟨m0,w0⟩,turn⟩:=h2;refine rp (R:=λ zn C=>compPost (model X.prog X.w) X.A X.xe (some (assign (.Name y py) X.env)) (λ _ s'=>SP X xz D0 .next s') zn C) (Qe:=λ zn H=>∀p,H p=none->cY i (.ref p) σ (ci H p (.lst zn)) D0.nx) B hc hE hg gk ht he I2 T GW f2 W m0 w0 turn ?_;intro D C s1 H1 zn ay hD hC OO I1 nC nD ⟨m,hn⟩ hl rv hz q;have fC:=I2.jf (b:=C) (H':=H1) hC nC;have fD:=I2.jf (b:=D) (H':=H1) hD nD;obtain⟨k,e⟩:=hl;have I3:be X xz σ (ci H1 D (.lst zn)) s1:=I1.nu nD ⟨hz,ay,k,rv,e⟩ fD.2.1 (J0 I2.sz hD) fD.2.2.2.2.1 fD.2.2.2.2.2;show wpAny _ X.A (assign (.Name y py) X.env (.ref D)) _ _ s1;refine wpAny_assign_Name (qG I3 hN hiy hy (show bv (.ref D) (.ref D)from rfl) (λ s2 J2 ⟨a,Jy,ha⟩=>?_) hf);have aC:C≠a:=by
  rcases ha with z|z
  ·rw[z];exact fC.2.1
  ·exact K8 (fC.2.2.2.2.1 _ _ z)
 refine⟨m,hn.sameBut Jy aC,λ h' jD=>?_⟩;have X8:(ci H1 D (.lst zn)) C=none:=by rw[aN (K8 OO)];exact nC
 have I4:be X xz (σ.set i (some (.ref D))) (ci H1 D (.lst zn)) {s2 with heap:=h',toks:=s2.toks}:=J2.turned (it:=C) (λ b o hb e=>jD.extBut b o hb e) X8 fC.2.1 fC.2.2.2.1 fC.2.2.2.2.1 fC.2.2.2.2.2;exact⟨_,_,I4,q D nD⟩
end
open PySem.Spec PyProof.Rows
def Qt:R2:=λ x y H Q=>∃z n,x=.str z/\y=.int n/\MulOk z n/\Q (.str (Txt.mul z n)) H
theorem wK:gp X (binaryOp .Mult) Qt:=by intro xz s σ H x y v u Q I rx ry h;obtain⟨z,n,rfl,rfl,bx,q⟩:=h;obtain⟨t,rfl⟩:=rx;obtain⟨t',rfl⟩:=ry;exact SB.mul bx λ t' k=>⟨.str (Txt.mul z n),H,I.tok k,⟨_,rfl⟩,q⟩
theorem vD(hc:X.calm=true):c_ X (.builtin "all") (λ xs H Q=>∃(p:ww) (bs:List Bool),xs=[.ref p]/\fE X.K H p (bs.map V.bl)/\Q (.bl (bs.all id)) H):=by
 intro xz s σ H xs us Q I r h;obtain⟨p,bs,rfl,hq,q⟩:=h;obtain⟨u,rfl,r1⟩:=vals1 r;cases r1;obtain⟨ay,rv,pl,hz⟩:=I.list hq;refine call_all_walk (x6 pl.isList ?_);have dP:p≠s.heap.objs.size:=by obtain⟨o,n,e,_⟩:=pl;exact G8 (G9 e)
 have hlen:ay.length=bs.length:=by rw[<- rv.length,C1]
 refine⟨s.heap.objs.size,_,_,_,_,_,λ i=>(bs[i]?).getD false,rfl,Walks.list (A:=X.A.in1) (show X.A.in1.handled=none from I.ok.hd hc) s.heap.objs.size p dP ay.toArray,⟨⟨_,m7 _ rfl,rfl,rfl⟩,pl.isList.at λ o e=>j3 _ e⟩,?_,λ h' tk hk=>?_⟩
 ·intro i v s' Q' E' hP hQ;have RU:ay[i]?=some v:=by simpa using hP
  have hi:i < bs.length:=by rw[<- hlen];exact(i3.mp RU).1
  have hb:(bs.map V.bl)[i]?=some (V.bl bs[i]):=by simp[hi]
  obtain⟨u,hu,ru⟩:=rv.get hb;rw[RU]at hu;cases hu;have e:v=Value.bool bs[i]:=ru;subst e;have:(bs[i]?).getD false=bs[i]:=by simp[hi]
  dsimp only at hQ;rw[this]at hQ;exact x5 hQ
 ·refine⟨.bl (bs.all id),H,I.kept (t':=tk) λ b o e=>hk b o (by simpa using G8 (G9 e)) (j3 _ e),?_,q⟩;show Value.bool _=Value.bool _;congr 1;rw[y0,hlen];rw[A9];simp only[A8,mem_range,id];constructor
  ·intro h b hb;obtain⟨i,hi,rfl⟩:=mem_iff_getElem.mp hb;have:=h i hi;simpa[hi]using this
  ·intro h i hi;simpa[hi]using h bs[i] (A3 hi)
def PY(x:Str):It:=⟨λ i _=>i < x.cps.size,λ i H v H'=>H'=H/\∃c,x.cps[i]?=some c/\v=.str ⟨#[c]⟩,λ i _=>i=x.cps.size⟩
theorem tY(it:ww)(x:Str)(t:Tok)(ty:String)(hty:["enumerate","zip","dict_itemiterator","dict_reverseitemiterator","odict_iterator","itertools.zip_longest","itertools.pairwise"].contains ty=false) (W:∀A':Around,A'.handled=none->Walks P w A' it [it] [it] x.cps.size (SignAt x) (λ i h=>h.IsStrIter it ty x t i)) (self:∀(A:Around) (i:Nat) (s:kt) (Q:jp->kt->Prop) (E:jp->kt->Prop),s.heap.IsStrIter it ty x t i->Q (.ref it) s->wpAny (model P w) A (pyIter (.ref it)) Q E s):Turn P w K tg (PY x) [it] it (λ i h=>h.IsStrIter it ty x t i) where
 mem:=by simp
 obj:=λ i h st b hb=>by
  have e:b=it:=by simpa using hb
  subst e;obtain⟨o,e,c,d⟩:=st;exact⟨o,e,λ v z=>by rw[d]at z;cases z⟩
 keep:=λ i h h' st k=>by obtain⟨o,e,c,d⟩:=st;exact⟨o,k it (by simp) o e,c,d⟩
 item:=by intro X hP hw hK hc i xz s σ H E I hf st hg;subst hP hw hK;obtain⟨f0,f1,f2,f3,f4,f5⟩:=hf it (by simp);refine(W X.A (I.ok.hd hc)).item i s _ _ hg st λ v h' tk hv gX kk=>?_;obtain⟨c,u,hx,rfl⟩:=hv;have I1:be X xz σ H {s with heap:=h',toks:=tk}:=I.turned (λ b o hb e=>kk b o (by simpa using hb) e) f0 f1 f3 f4 f5;obtain⟨o,e,cc,d⟩:=id gX;exact⟨_,rfl,vc (s:={s with heap:=h',toks:=tk}) e cc d hty ⟨.str ⟨#[c]⟩,H,I1,⟨u,rfl⟩,⟨rfl,c,hx,rfl⟩,gX,λ b hb=>(hf b hb).1⟩⟩
 done:=by intro X hP hw hK hc i xz s σ H E I hf st hg;subst hP hw hK;obtain⟨f0,f1,f2,f3,f4,f5⟩:=hf it (by simp);have hg:i=x.cps.size:=hg;subst hg;exact(W X.A (I.ok.hd hc)).done s _ _ st λ h' tk kk=>⟨rfl,I.turned (λ b o hb e=>kk b o (by simpa using hb) e) f0 f1 f3 f4 f5⟩
 self:=self
open PySem.Spec PyProof.Rows
theorem xS.imp{r r':R2}(h:xS X r)(k:∀x y H Q,r' x y H Q->r x y H Q):xS X r':=λ value slice xz s σ H x y v u Q I rx ry q=>h value slice xz s σ H x y v u Q I rx ry (k x y H Q q)
def aIx(K:L6):R2:=λ x y H Q=>match x,y with
 | .ref p,.int i=>∃xs v,(fE K H p xs\/gn K H p xs)/\gS xs i=some v/\Q v H
 | .str z,.int i=>z.length<=sizeLine/\∃c,gS z.cps.toList i=some c/\Q (.str ⟨#[c]⟩) H
 |_,_=>False
theorem aH:xS X (aIx X.K):=Ol.imp λ x y H Q q=>by
 cases x <;> cases y <;> first
  |exact False.elim q
  |(obtain⟨xs,v,h|h,e,q⟩:=q
    ·exact .inl ⟨_,xs,_,v,rfl,rfl,h,e,q⟩
    ·exact .inr (.inl ⟨_,xs,_,v,rfl,rfl,h,e,q⟩))
  |(obtain⟨hz,c,e,q⟩:=q
    exact .inr (.inr ⟨_,_,c,rfl,rfl,hz,e,q⟩))
open PySem.Spec PyProof.Rows
structure bX(P:Program)(w:World)(K:L6)(mg:Str->Option jp)(base:Heap)(k:Nat)(x:Str)(ps:List Str)(sp:Sp):Prop where
 ex:∃(f:ww) (fd:FuncData),cE P w K mg base fX k f fd ps sp/\mg x=some (.ref f)/\PySem.W.keepIn K (.ref f)=true/\Binds K fd ps []
theorem bX.of(F:jb K x qual st f fd)(G:cE P w K mg base fX k f fd ps sp)(hm:mg x=some (.ref f))(b:Binds K fd ps []):bX P w K mg base k x ps sp:=⟨f,fd,G,hm,F.kp,b⟩
def tD(sp:Sp)(t:TA):TE:=λ σ H Q=>t σ H λ vs H1=>sp vs H1 Q E0
section
variable {p pos:Pos}{t:TA}
theorem Nr(d:bX X.prog X.w X.K X.mg X.base k x ps sp)(hr:de k X.A)(hg:Gl X x)(ha:PA X (e::es) t)(hdb:(x==("__debug__":Str))=false:=by decide)(he:starEach (e::es) X.env=(false,eval e X.env)::starEach es X.env:=by rfl) (hpl:(backTo pos (starEach es X.env)).any (·.1)=false:=by rfl):PE X (.Call (.Name x p) (e::es) [] pos) (tD sp t):=by
 obtain⟨f,fd,G,hm,kp,b⟩:=d.ex;intro xz s σ H Q I h;have h':Ko sp [] E0 t σ H Q:=by
  show t σ H λ vs H1=>sp (vs++[]) H1 Q E0;have e:(λ(vs:List V) (H1:Hp)=>sp (vs++[]) H1 Q E0)=λ vs H1=>sp vs H1 Q E0:=by funext vs H1;rw[B0]
  rw[e];exact h
 exact Iw (E:=E0) G hr hg hm kp b .nil Q4 ha hdb he hpl xz s σ H Q I h'
end
def vG(X:Cx)(scope:Scope)(fr:List Nat):Bool:=
 (scope.kind==.function)&&(scope.names.all λ y=>(y.2 != .cell||scope.names.lookup y.1==some .cell)&&(y.2 != .local||scope.names.lookup y.1==some .local)&&(y.2 != .free||X.env.kindOf y.1==some .cell||X.env.kindOf y.1==some .free))&&
 (fr.all λ j=>decide (j < X.N.length)&&scope.names.lookup (X.N.getD j "")==some .free)
theorem bg(h:vG X scope fr=true):kB X scope fr:=by
 unfold vG at h;rw[A1,A1]at h;obtain⟨⟨h1,h2⟩,h3⟩:=h;rw[A8]at h2 h3;refine⟨by simpa using h1,λ y hy hl=>?_,λ y hy hl=>?_,λ n hn=>?_,λ j hj=>?_⟩
 ·have:=h2 y hy;simp only[A1]at this;have:=this.1.1;rw[hl]at this;simpa using this
 ·have:=h2 y hy;simp only[A1]at this;have:=this.1.2;rw[hl]at this;simpa using this
 ·have:=h2 _ hn;simp only[A1]at this;have:=this.2;simpa using this
 ·have:=h3 j hj;rw[A1]at this;exact⟨by simpa using this.1,by simpa using this.2⟩
def U6(K:L6)(tl:TE):TI:=λ σ H R=>tl σ H λ x H1=>match x with
 | .str z=>R (PY z) H1
 | .ref a=>(∃xs,fE K H1 a xs/\R (TV K a) H1)\/(∃xs,gn K H1 a xs/\R (Wl K a) H1)
 |_=>False
theorem Ng{l:Expr}{tl:TE}(hl:PE X l tl):PI X tg l (U6 X.K tl):=by
 intro xz s σ H R I h;have lK:PE X l (λ σ' H' Q=>Q=Q/\tl σ' H' Q):=λ xz s σ H Q I q=>hl xz s σ H Q I q.2;refine dG (hl xz s σ H _ I h) λ v s1 ⟨x,H1,I1,r1,q1⟩=>?_;have fp:∀b∈[s1.heap.objs.size],jz X xz H1 b:=λ b hb=>by
  have e:b=s1.heap.objs.size:=by simpa using hb
  subst e;exact I1.jf (J7 _) (I1.bx.fresh (J7 _))
 cases x with
 |str z=>
  have q:R (PY z) H1:=q1;obtain⟨t,rfl⟩:=r1;cases ha:z.cps.all (· < 128)
  ·exact wpAny_pyIter_wide ha ⟨s1.heap.objs.size,[s1.heap.objs.size],_,PY z,H1,rfl,I1.kept (t':=s1.toks) λ b o e=>j3 _ e,tY _ z t "str_iterator" (by decide) (λ A' hA=>Walks.strWide hA _ z t) (λ _ _ _ _ _ st h=>wpAny_pyIter_striter_wide st h),⟨_,m7 _ rfl,rfl,rfl⟩,fp,q⟩
  ·exact wpAny_pyIter_ascii ha ⟨s1.heap.objs.size,[s1.heap.objs.size],_,PY z,H1,rfl,I1.kept (t':=s1.toks) λ b o e=>j3 _ e,tY _ z t "str_ascii_iterator" (by decide) (λ A' hA=>Walks.strAscii hA _ z t) (λ _ _ _ _ _ st h=>wpAny_pyIter_striter_ascii st h),⟨_,m7 _ rfl,rfl,rfl⟩,fp,q⟩
 |ref a=>
  cases(show v=Value.ref a from r1);rcases q1 with⟨xs,hq,q⟩|⟨xs,hq,q⟩
  ·obtain⟨ay,rv,p,hz⟩:=I1.list hq;exact x6 p.isList ⟨s1.heap.objs.size,[s1.heap.objs.size],_,_,H1,rfl,I1.kept (t':=s1.toks) λ b o e=>j3 _ e,Am a _,⟨_,m7 _ rfl,rfl,rfl⟩,fp,q⟩
  ·obtain⟨ay,rv,p,hz⟩:=I1.tuple hq;exact wpAny_pyIter_tuple (show s1.heap.IsTuple a ay.toArray from p) ⟨s1.heap.objs.size,[s1.heap.objs.size],_,_,H1,rfl,I1.kept (t':=s1.toks) λ b o e=>j3 _ e,v_ a _,⟨_,m7 _ rfl,rfl,rfl⟩,fp,q⟩
 |_=>exact False.elim q1
open PySem.Spec PyProof.Rows
inductive IK where
 |i (n:Int)
 |t (ks:List IK)
noncomputable instance:DecidableEq IK:=λ a b=>Classical.propDecidable (a=b)
mutual
def IK.dep:IK->Nat
 | .i _=>0
 | .t ks=>IK.jh ks+1
def IK.jh:List IK->Nat
 |[]=>0
 |k::ks=>max k.dep (IK.jh ks)
end
mutual
def eN:IK->Int
 | .i n=>hashInt n
 | .t ks=>reduceHash (Builtin.Tuple.tupleHashOf (sM ks))
def sM:List IK->List Int
 |[]=>[]
 |k::ks=>eN k::sM ks
end
mutual
def Bj:IK->Nat
 | .i _=>1
 | .t ks=>iq ks+1
def iq:List IK->Nat
 |[]=>0
 |k::ks=>Bj k+iq ks
end
def b2i(b:Bool):Int:=if b then 1 else 0
mutual
def cC(h:Heap):IK->jp->Prop
 | .i n,v=>(∃t,v=.int n t)\/∃b:Bool,v=.bool b/\n=b2i b
 | .t ks,v=>∃(a:ww) (o:Obj) (ay:List jp) (n:Nat),v=.ref a/\h.get? a=some o/\o.cls=.type "tuple"/\o.data=.seq ay.toArray n/\bH h ks ay
def bH(h:Heap):List IK->List jp->Prop
 |[],vs=>vs=[]
 |k::ks,vs=>∃v r,vs=v::r/\cC h k v/\bH h ks r
end
mutual
def vO:IK->PyData->Prop
 | .i n,d=>d=.int n\/∃b:Bool,d=.bool b/\n=b2i b
 | .t ks,d=>∃ds,d=.tuple ds/\ip ks ds
def ip:List IK->List PyData->Prop
 |[],ds=>ds=[]
 |k::ks,ds=>∃d r,ds=d::r/\vO k d/\ip ks r
end
theorem uX:∀ks:List IK,sM ks=ks.map eN
 |[]=>by unfold sM;rfl
 |k::ks=>by unfold sM;rw[uX ks];rfl
theorem uW:∀(ks ls:List IK),iq (ks++ls)=iq ks+iq ls
 |[],ls=>by rw[B1];unfold iq;split <;> lia
 |k::ks,ls=>by rw[A7];have:=uW ks ls;show Bj k+iq (ks++ls)=Bj k+iq ks+iq ls;lia
theorem EJ(k:IK):iq [k]=Bj k:=by show Bj k+iq []=Bj k;unfold iq;lia
theorem EK:iq []=0:=by unfold iq;rfl
theorem gj:∀{ks:List IK} {k:IK},k∈ks->k.dep<=IK.jh ks
 |k0::ks,k,h=>by
  show k.dep<=max k0.dep (IK.jh ks);rcases G5.mp h with rfl|h
  ·exact Nat.le_max_left _ _
  ·exact J0 (gj h) (Nat.le_max_right _ _)
theorem qV{Q:Int->kt->Prop}(h:Q (hashInt (b2i b)) {s with toks:=s.toks+1}):wpAny (model prog w) A (pyHash (.bool b)) Q E s:=by have hT:s.TypeIs (.bool b) "bool":=rfl;have hr:=rawHash_range (b2i b);unfold pyHash;have hv:[Value.bool b].any Value.onHeap=false:=rfl;refine K1 ?_;rw[cRoomFor,L1 (by rw[hv];exact n9)];refine K2 ?_;refine K1 (C6 hT F.slot_bool_hash.lookup ?_);show wpAny _ _ (if(some (Value.builtin "int.__hash__")==some Value.none)=true then _ else _) Q E s;rw[L1 (by rw[beq_builtin_none];exact n9)];refine K1 (C6 hT F.slot_bool_hash.lookup ?_);show wpAny _ _ (callSpecialIfBoundUnlessNone? (.bool b) "__hash__" _ >>= _) Q E s;refine K1 (wpAny_callSpecialIfBoundUnlessNone?_slot hT F.slot_bool_hash (A0 F.slot_bool_hash hT entry_int_hash (show wpAny _ _ (do ret (<- mkInt (rawHash (b2i b)))) _ _ s from wpAny_ret_mkInt ?_) (args_int_hash _)));show wpAny _ _ (if(decide (-(2:Int)^63<=rawHash (b2i b))&&decide (rawHash (b2i b) < 2^63))=true then _ else _) Q E _;rw[K9 (by rw[C8 hr.1,C8 hr.2];rfl)];exact K2 h
theorem ze:∀(n:Nat) (k:IK),k.dep<=n->∀{A:Around} {E:jp->kt->Prop} {s:kt} {v:jp} {Q:Int->kt->Prop},A.units+k.dep < cLine->cC s.heap k v->Q (eN k) {s with toks:=s.toks+Bj k}->wpAny (model prog w) A (pyHash v) Q E s:=by
 intro n
 induction n with
 |zero=>
  intro k hk A E s v Q hu hi h;cases k with
  |i m=>
   unfold cC at hi;unfold eN Bj at h;rcases hi with⟨t,rfl⟩|⟨b,rfl,rfl⟩
   ·exact wpAny_pyHash_int h
   ·exact qV h
  |t ks=>unfold IK.dep at hk;lia
 |succ n ih=>
  intro k hk A E s v Q hu hi h;cases k with
  |i m=>
   unfold cC at hi;unfold eN Bj at h;rcases hi with⟨t,rfl⟩|⟨b,rfl,rfl⟩
   ·exact wpAny_pyHash_int h
   ·exact qV h
  |t ks=>
   unfold cC at hi;obtain⟨a,o,ay,m,rfl,ho,hc,hd,hits⟩:=hi;have gR:IK.jh ks<=n:=by unfold IK.dep at hk;lia
   have WQ:A.units+(IK.jh ks+1) < cLine:=by unfold IK.dep at hu;exact hu
   have hT:s.TypeIs (.ref a) "tuple":=⟨o,ho,hc⟩;unfold pyHash;(first|unfold pyHashByItsType|skip);(first|refine K1 (wpAny_cRoomFor_or (.inr (show A.units < cLine by lia)) ?_)|skip);refine K1 (C6 hT F.slot_tuple_hash.lookup ?_);show wpAny _ _ (if(some (Value.builtin "tuple.__hash__")==some Value.none)=true then _ else _) Q E s;rw[L1 (by rw[beq_builtin_none];exact n9)];refine K1 (C6 hT F.slot_tuple_hash.lookup ?_);show wpAny _ _ (callSpecialIfBoundUnlessNone? (.ref a) "__hash__" _ >>= _) Q E s;refine K1 (wpAny_callSpecialIfBoundUnlessNone?_slot hT F.slot_tuple_hash (A0 F.slot_tuple_hash hT F.entry_tuple_hash ?_ (F.args_tuple_hash_1 _)));show wpAny _ _ (Builtin.Tuple.tupleItemsOf (.ref a) >>= _) _ _ s;refine K1 (wpAny_tupleItemsOf ho hd (K1 ?_));rw[<- u6];refine wpAny_forIn_list _ (λ rest (b:Array Int) s'=>∃done left,ks=done++left/\bH s.heap left rest/\b.toList=done.map eN/\s'={s with toks:=s.toks+iq done}) _ ?_ ?_ _ _ ⟨[],ks,rfl,hits,rfl,by rw[EK];rfl⟩
   ·rintro x rest b s' ⟨done,left,rfl,hl,hb,rfl⟩;cases left with
    |nil=>unfold bH at hl;cases hl
    |cons k1 left=>
     unfold bH at hl;obtain⟨v,r,e,h1,h2⟩:=hl;cases e;have hm:=gj (ks:=done++k1::left) (k:=k1) (by simp);refine K1 (ih k1 (by lia) (A:=A.in1) (show A.units+1+_ < cLine by lia) h1 ?_);have fin:∃d2 l2,done++k1::left=d2++l2/\bH s.heap l2 rest/\(b.push (eN k1)).toList=d2.map eN/\({s with toks:=s.toks+iq done+Bj k1}:kt)={s with toks:=s.toks+iq d2}:=
      ⟨done++[k1],left,by simp,h2,by simp[hb],by rw[uW,EJ,Nat.add_assoc]⟩
     first|exact K2 fin|exact K1 (K2 (K2 fin))
   ·rintro b s' ⟨done,left,rfl,hl,hb,rfl⟩;cases left with
    |cons k1 left=>unfold bH at hl;obtain⟨v,r,e,_⟩:=hl;cases e
    |nil=>
     rw[B0]at h;show wpAny _ _ (retInt (Builtin.Tuple.tupleHashOf b.toList)) _ _ _;rw[hb,<- uX];refine wpAny_ret_mkInt ?_;show wpAny _ _ (if(decide (-(2:Int)^63<=Builtin.Tuple.tupleHashOf (sM done))&&decide (Builtin.Tuple.tupleHashOf (sM done) < 2^63))=true then _ else _) Q E _;unfold eN Bj reduceHash at h;by_cases hr:(decide (-(2:Int)^63<=Builtin.Tuple.tupleHashOf (sM done))&&decide (Builtin.Tuple.tupleHashOf (sM done) < 2^63))=true
     ·rw[K9 hr]at h ⊢;exact K2 (by simpa[Nat.add_assoc]using h)
     ·rw[L1 hr]at h ⊢;exact K1 (K3 (K2 (by simpa[Nat.add_assoc]using h)))
end L2
variable {ks:List L2.IK}
namespace L2
open PySem.Spec PyProof.Rows
mutual
theorem ox{h:Heap}:∀(k:IK) {v:jp},cC h k v->∃d as,vO k d/\Reads h v d as
 | .i n,v,x=>by
  unfold cC at x;unfold vO;rcases x with⟨t,rfl⟩|⟨b,rfl,rfl⟩
  ·exact⟨_,_,.inl rfl,Reads.int n t⟩
  ·exact⟨_,_,.inr ⟨b,rfl,rfl⟩,Reads.bool b⟩
 | .t ks,v,x=>by unfold cC at x;obtain⟨a,o,ay,n,rfl,ho,hc,hd,q⟩:=x;obtain⟨ds,as,p,r⟩:=qT ks q;unfold vO;exact⟨_,_,⟨ds,rfl,p⟩,reads_tuple_at ho hc hd (by simpa using r)⟩
theorem qT{h:Heap}:∀(ks:List IK) {vs:List jp},bH h ks vs->∃ds as,ip ks ds/\ReadsAll h vs ds as
 |[],vs,x=>by unfold bH at x;subst x;unfold ip;exact⟨_,_,rfl,ReadsAll.nil⟩
 |k::ks,vs,x=>by unfold bH at x;obtain⟨v,r,rfl,h1,h2⟩:=x;obtain⟨d,as,p,a⟩:=ox k h1;obtain⟨ds,bs,q,b⟩:=qT ks h2;unfold ip;exact⟨_,_,⟨d,ds,rfl,p,q⟩,ReadsAll.cons a b⟩
end
mutual
theorem xa:∀(k:IK) {d:PyData},vO k d->d.canLay0=true
 | .i n,d,x=>by unfold vO at x;rcases x with rfl|⟨b,rfl,_⟩ <;> simp[PyData.canLay0]
 | .t ks,d,x=>by unfold vO at x;obtain⟨ds,rfl,q⟩:=x;simp only[PyData.canLay0];exact yY ks q
theorem yY:∀(ks:List IK) {ds:List PyData},ip ks ds->PyData.canLayAll0 ds=true
 |[],ds,x=>by unfold ip at x;subst x;simp[PyData.canLayAll0]
 |k::ks,ds,x=>by unfold ip at x;obtain⟨d,r,rfl,p,q⟩:=x;simp only[PyData.canLayAll0];rw[xa k p,yY ks q];rfl
end
mutual
theorem xb:∀(k:IK) {d:PyData},vO k d->d.depth=k.dep
 | .i n,d,x=>by unfold vO at x;unfold IK.dep;rcases x with rfl|⟨b,rfl,_⟩ <;> simp[PyData.depth]
 | .t ks,d,x=>by unfold vO at x;obtain⟨ds,rfl,q⟩:=x;unfold IK.dep;simp only[PyData.depth];rw[yZ ks q]
theorem yZ:∀(ks:List IK) {ds:List PyData},ip ks ds->PyData.depthAll ds=IK.jh ks
 |[],ds,x=>by unfold ip at x;subst x;unfold IK.jh;simp[PyData.depthAll]
 |k::ks,ds,x=>by unfold ip at x;obtain⟨d,r,rfl,p,q⟩:=x;unfold IK.jh;simp only[PyData.depthAll];rw[xb k p,yZ ks q]
end
theorem Jg{n m:Int}{d e:PyData}(x:d=.int n\/∃b:Bool,d=.bool b/\n=b2i b)(y:e=.int m\/∃b:Bool,e=.bool b/\m=b2i b):PyData.eqv d e=true↔n=m:=by
 rcases x with rfl|⟨b,rfl,rfl⟩ <;> rcases y with rfl|⟨c,rfl,rfl⟩
 ·simp[PyData.eqv]
 ·simp[PyData.eqv,b2i]
 ·simp[PyData.eqv,b2i]
 ·cases b <;> cases c <;> simp[PyData.eqv,b2i]
mutual
theorem KO:∀(a b:IK) {d e:PyData},vO a d->vO b e->(PyData.eqv d e=true↔a=b)
 | .i n,.i m,d,e,x,y=>by unfold vO at x y;rw[Jg x y];simp
 | .i n,.t ks,d,e,x,y=>by unfold vO at x y;obtain⟨ds,rfl,_⟩:=y;rcases x with rfl|⟨b,rfl,_⟩ <;> simp[PyData.eqv]
 | .t ks,.i n,d,e,x,y=>by unfold vO at x y;obtain⟨ds,rfl,_⟩:=x;rcases y with rfl|⟨b,rfl,_⟩ <;> simp[PyData.eqv]
 | .t ks,.t ls,d,e,x,y=>by unfold vO at x y;obtain⟨ds,rfl,p⟩:=x;obtain⟨es,rfl,q⟩:=y;simp only[PyData.eqv,IK.t.injEq];exact EG ks ls p q
theorem EG:∀(as bs:List IK) {ds es:List PyData},ip as ds->ip bs es->(PyData.eqvAll ds es=true↔as=bs)
 |[],[],ds,es,x,y=>by unfold ip at x y;subst x;subst y;simp[PyData.eqvAll]
 |[],b::bs,ds,es,x,y=>by unfold ip at x y;obtain⟨d,r,rfl,_⟩:=y;subst x;simp[PyData.eqvAll]
 |a::as,[],ds,es,x,y=>by unfold ip at x y;obtain⟨d,r,rfl,_⟩:=x;subst y;simp[PyData.eqvAll]
 |a::as,b::bs,ds,es,x,y=>by unfold ip at x y;obtain⟨d,r,rfl,p1,p2⟩:=x;obtain⟨e,r2,rfl,q1,q2⟩:=y;simp only[PyData.eqvAll,A1,List.cons.injEq];rw[KO a b p1 q1,EG as bs p2 q2]
end
mutual
theorem sL{h:Heap}:∀(x y:IK) {v:jp},cC h x v->cC h y v->x=y
 | .i n,.i m,v,a,b=>by
  unfold cC at a b;rcases a with⟨t,rfl⟩|⟨c,rfl,rfl⟩ <;> rcases b with⟨u,e⟩|⟨d,e,f⟩ <;> cases e
  ·rfl
  ·rw[f]
 | .i n,.t ks,v,a,b=>by unfold cC at a b;obtain⟨_,_,_,_,e,_⟩:=b;rcases a with⟨t,rfl⟩|⟨c,rfl,rfl⟩ <;> cases e
 | .t ks,.i n,v,a,b=>by unfold cC at a b;obtain⟨_,_,_,_,e,_⟩:=a;rcases b with⟨t,rfl⟩|⟨c,rfl,rfl⟩ <;> cases e
 | .t ks,.t ls,v,a,b=>by unfold cC at a b;obtain⟨a1,o1,i1,n1,rfl,g1,_,d1,q1⟩:=a;obtain⟨a2,o2,i2,n2,e,g2,_,d2,q2⟩:=b;cases e;rw[g1]at g2;cases g2;rw[d1]at d2;cases d2;rw[y_ ks ls q1 q2]
theorem y_{h:Heap}:∀(xs ys:List IK) {vs:List jp},bH h xs vs->bH h ys vs->xs=ys
 |[],[],vs,_,_=>rfl
 |[],y::ys,vs,a,b=>by unfold bH at a b;subst a;obtain⟨_,_,e,_⟩:=b;cases e
 |x::xs,[],vs,a,b=>by unfold bH at a b;subst b;obtain⟨_,_,e,_⟩:=a;cases e
 |x::xs,y::ys,vs,a,b=>by unfold bH at a b;obtain⟨v,r,rfl,a1,a2⟩:=a;obtain⟨v2,r2,e,b1,b2⟩:=b;cases e;rw[sL x y a1 b1,y_ xs ys a2 b2]
end
mutual
theorem zd{h h':Heap}(q:∀b o,o.cls=.type "tuple"->h.get? b=some o->h'.get? b=some o):∀(k:IK) {v:jp},cC h k v->cC h' k v
 | .i n,v,x=>by unfold cC at x ⊢;exact x
 | .t ks,v,x=>by unfold cC at x ⊢;obtain⟨a,o,ay,n,e,ho,hc,hd,r⟩:=x;exact⟨a,o,ay,n,e,q a o hc ho,hc,hd,uV q ks r⟩
theorem uV{h h':Heap}(q:∀b o,o.cls=.type "tuple"->h.get? b=some o->h'.get? b=some o):∀(ks:List IK) {vs:List jp},bH h ks vs->bH h' ks vs
 |[],vs,x=>by unfold bH at x ⊢;exact x
 |k::ks,vs,x=>by unfold bH at x ⊢;obtain⟨v,r,e,h1,h2⟩:=x;exact⟨v,r,e,zd q k h1,uV q ks h2⟩
end
theorem Oq{h:Heap}{k:IK}{v:jp}(x:cC h k v){d:ww}{es:Array DictEntry}(ho:h.get? d=some o)(hd:o.data=.dict es ep)(hs:Heap.SameBut d h h'):cC h' k v:=by
 have gen:∀(n:Nat) (k:IK),k.dep<=n->∀v,cC h k v->cC h' k v:=by
  intro n
  induction n with
  |zero=>
   intro k hk v x;cases k with
   |i m=>unfold cC at x ⊢;exact x
   |t ks=>unfold IK.dep at hk;lia
  |succ n ih=>
   intro k hk v x;cases k with
   |i m=>unfold cC at x ⊢;exact x
   |t ks=>
    unfold cC at x ⊢;obtain⟨a,o',ay,m,e,pF,hc,mH,r⟩:=x;have dP:a≠d:=λ z=>by subst z;rw[ho]at pF;cases pF;rw[hd]at mH;cases mH
    refine⟨a,o',ay,m,e,(hs.2 a dP).trans pF,hc,mH,?_⟩;have gR:IK.jh ks<=n:=by unfold IK.dep at hk;lia
    have all:∀(ls:List IK) (vs:List jp),(∀l∈ls,l.dep<=n)->bH h ls vs->bH h' ls vs:=by
     intro ls
     induction ls with
     |nil=>intro vs _ y;unfold bH at y ⊢;exact y
     |cons l ls Yj=>intro vs hl y;unfold bH at y ⊢;obtain⟨v,r,e,h1,h2⟩:=y;exact⟨v,r,e,ih l (hl l (n6 ..)) v h1,Yj r (λ z hz=>hl z (k7 _ hz)) h2⟩
    exact all ks ay (λ l hl=>J0 (gj hl) gR) r
 exact gen k.dep k (J7 _) v x
theorem EI:∀(n:Nat) (k:IK),k.dep<=n->∀{A:Around} {E:jp->kt->Prop} {s:kt} {v:jp} {Q:Bool->kt->Prop},cC s.heap k v->Q true s->wpAny (model prog w) A (eqIsQuiet n v) Q E s:=by
 intro n
 induction n with
 |zero=>
  intro k hk A E s v Q hi h;cases k with
  |i m=>unfold cC at hi;rcases hi with⟨t,rfl⟩|⟨b,rfl,_⟩ <;> rw[eqIsQuiet_byValue _ rfl] <;> exact K2 h
  |t ks=>unfold IK.dep at hk;lia
 |succ n ih=>
  intro k hk A E s v Q hi h;cases k with
  |i m=>unfold cC at hi;rcases hi with⟨t,rfl⟩|⟨b,rfl,_⟩ <;> rw[eqIsQuiet_byValue _ rfl] <;> exact K2 h
  |t ks=>
   unfold cC at hi;obtain⟨a,o,ay,m,rfl,ho,hc,hd,hits⟩:=hi;have gR:IK.jh ks<=n:=by unfold IK.dep at hk;lia
   have hT:s.TypeIs (.ref a) "tuple":=⟨o,ho,hc⟩;unfold eqIsQuiet;refine K1 (C6 hT F.slot_tuple_eq.lookup ?_);show wpAny _ _ (isInstance (.ref a) (.type "tuple") >>= _) _ _ s;refine K1 (A6 hT isSubtype_tuple_tuple ?_);simp only[Bool.not_true,o7,K6];refine K1 (C9 ho hd (K1 ?_));show wpAny _ _ (forIn ay.toArray _ _) _ _ s;rw[<- u6];refine wpAny_forIn_list _ (λ rest r s'=>r.1=none/\s'=s/\∃left,(∀l∈left,l∈ks)/\bH s.heap left rest) _ ?_ ?_ _ _ ⟨rfl,rfl,ks,λ l hl=>hl,hits⟩
   ·rintro x rest r s' ⟨hr,rfl,left,lW,hl⟩;cases left with
    |nil=>unfold bH at hl;cases hl
    |cons k1 left=>unfold bH at hl;obtain⟨v,r',e,h1,h2⟩:=hl;cases e;refine K1 (ih k1 (J0 (gj (lW k1 (n6 ..))) gR) h1 ?_);simp only[Bool.not_true,o7,K6];exact K2 ⟨rfl,rfl,left,λ l hl=>lW l (k7 _ hl),h2⟩
   ·rintro⟨r1,r2⟩ s' ⟨hr,rfl,_⟩;simp only at hr;subst hr;exact K2 h
def aX(prog:Program)(w:World):HeapKind prog w IK where
 is:=λ h k a=>k.dep<=5/\cC h k (.ref a)
 hash:=eN
 draws:=Bj
 room:=λ A=>A.units+8 < cLine
 inj:=λ hx hy=>sL _ _ hx.2 hy.2
 keeps:=λ x ho hd hs=>⟨x.1,Oq x.2 ho hd hs⟩
 pyHash:=λ hu hk h=>ze 5 _ hk.1 (by have:=hk.1;lia) hk.2 h
 eqBool:=λ{A E s x y a b Q} hu hx hy h=>by
  obtain⟨dx,as,px,ra⟩:=ox x hx.2;obtain⟨dy,bs,py,rb⟩:=ox y hy.2;refine SeqAt.eqAt_reads dx dy A s _ _ _ _ ra rb (xa x px) (xa y py) ?_ prog w E Q ?_
  ·rw[xb x px,xb y py];have:=hx.1;have:=Nat.min_le_left x.dep y.dep;lia
  ·have e:PyData.eqv dx dy=decide (x=y):=by rw[A9,u9];exact KO x y px py
   rw[e];exact h
 quiet:=λ hk h=>EI 8 _ (J0 hk.1 (by decide)) hk.2 h
open PySem.Spec PyProof.Rows
section
variable {κ:Type}[DecidableEq κ]
def gw(kvs:List (κ×V))(k:κ):Option V:=(kvs.find? λ kv=>decide (kv.1=k)).map (·.2)
def putK(kvs:List (κ×V))(k:κ)(v:V):List (κ×V):=
 if(kvs.any λ kv=>decide (kv.1=k))=true then kvs.map (λ kv=>if kv.1=k then(kv.1,v)else kv)else kvs++[(k,v)]
theorem mY{p:κ×V}{r:List (κ×V)}{k:κ}(e:p.1=k):gw (p::r) k=some p.2:=by simp[gw,B2,e]
theorem mZ{p:κ×V}{r:List (κ×V)}{k:κ}(e:¬p.1=k):gw (p::r) k=gw r k:=by simp[gw,B2,e]
theorem m_(k:κ):∀kvs:List (κ×V),(kvs.any λ kv=>decide (kv.1=k))=(gw kvs k).isSome
 |[]=>rfl
 |p::r=>by
  rw[any_cons];by_cases e:p.1=k
  ·simp only[mY e,C8 e,Bool.true_or,Option.isSome_some]
  ·rw[mZ e,B3 e,Bool.false_or];exact m_ k r
theorem fL(kvs:List (κ×V))(k:κ)(v:V):(putK kvs k v).length<=kvs.length+1:=by
 unfold putK;split
 ·rw[C1];lia
 ·rw[o6,y8,length_nil];lia
theorem km.ff{o:Option V}{u:Option jp}(r:km o u):o.isSome=u.isSome:=by
 cases o with
 |none=>cases u with
  |none=>rfl
  |some _=>exact(show False from r).elim
 |some _=>cases u with
  |none=>exact(show False from r).elim
  |some _=>rfl
theorem KV.val{kvs:List (κ×V)}{vs:List (κ×jp)}(r:KV kvs vs)(k:κ):km (gw kvs k) (valueAt vs k):=by
 unfold KV at r
 induction r with
 |nil=>exact True.intro
 |@cons p q ps qs h t ih=>
  obtain⟨h1,h2⟩:=h;by_cases e:p.1=k
  ·have e':q.1=k:=h1.symm.trans e;have b:valueAt (q::qs) k=some q.2:=by simp[valueAt,B2,e']
   rw[mY e,b];exact h2
  ·have e':¬q.1=k:=λ z=>e (h1.trans z);have b:valueAt (q::qs) k=valueAt qs k:=by simp[valueAt,B2,e']
   rw[mZ e,b];exact ih
theorem KV.any{kvs:List (κ×V)}{vs:List (κ×jp)}(r:KV kvs vs)(k:κ):(kvs.any λ kv=>decide (kv.1=k))=vs.any λ kv=>decide (kv.1=k):=by
 unfold KV at r
 induction r with
 |nil=>rfl
 |cons h t ih=>rw[any_cons,any_cons,ih,h.1]
theorem KV.CW{kvs:List (κ×V)}{vs:List (κ×jp)}(r:KV kvs vs)(k:κ)(ry:bv y u):KV (kvs.map λ kv=>if kv.1=k then(kv.1,y)else kv) (vs.map λ kv=>if kv.1=k then(kv.1,u)else kv):=by
 unfold KV at r ⊢
 induction r with
 |nil=>exact .nil
 |@cons p q ps qs h t ih=>
  rw[G4,G4];refine .cons ?_ ih;obtain⟨h1,h2⟩:=h;by_cases e:p.1=k
  ·rw[K9 e,K9 (h1.symm.trans e)];exact⟨h1,ry⟩
  ·rw[L1 e,L1 (λ z=>e (h1.trans z))];exact⟨h1,h2⟩
theorem KV.put{kvs:List (κ×V)}{vs:List (κ×jp)}(r:KV kvs vs)(k:κ)(ry:bv y u):KV (putK kvs k y) (stored vs k u):=by
 unfold putK stored;rw[r.any k];by_cases e:(vs.any λ kv=>decide (kv.1=k))=true
 ·rw[K9 e,K9 e];exact r.CW k ry
 ·rw[L1 e,L1 e];exact Paired.snoc r ⟨rfl,ry⟩
theorem KV.length{kvs:List (κ×V)}{vs:List (κ×jp)}(r:KV kvs vs):kvs.length=vs.length:=G1 r
end
theorem ou{k:Key}(r:bv (kV k) u):(cX P w).is k u=true:=by
 cases k with
 |inl i=>obtain⟨t,e⟩:=(show ∃t,u=Value.int i t from r);subst e;exact uH P w i t
 |inr x=>obtain⟨t,e⟩:=(show ∃t,u=Value.str x t from r);subst e;exact uG P w x t
theorem qS:∀{ks:List Key} {us:List jp},ce (ks.map kV) us->ItemsAre (cX P w) ks us
 |[],_,r=>by rw[map_nil]at r;cases r;exact .nil
 |k::ks,_,r=>by
  rw[G4]at r;cases r with
  |cons h t=>exact .cons (ou h) (qS t)
abbrev KT(H:Hp):List (List Key×V)->List (List Key×ww×jp)->Prop:=Paired λ p q=>p.1=q.1/\H q.2.1=some (.tup (p.1.map kV))/\bv p.2 q.2.2
theorem KT.val{xs:List (List Key×ww×jp)}(r:KT H kvs xs)(k:List Key):km (gw kvs k) ((atKey xs k).map (·.2)):=by
 induction r with
 |nil=>exact True.intro
 |@cons p q ps qs h t ih=>
  obtain⟨h1,_,h2⟩:=h;by_cases e:p.1=k
  ·have e':q.1=k:=h1.symm.trans e;have b:atKey (q::qs) k=some q.2:=by simp[atKey,B2,e']
   rw[mY e,b];exact h2
  ·have e':¬q.1=k:=λ z=>e (h1.trans z);have b:atKey (q::qs) k=atKey qs k:=by simp[atKey,B2,e']
   rw[mZ e,b];exact ih
theorem KT.CW{xs:List (List Key×ww×jp)}(r:KT H kvs xs)(k:List Key)(ry:bv y u):KT H (kvs.map λ kv=>if kv.1=k then(kv.1,y)else kv) (xs.map (putAt k u)):=by
 induction r with
 |nil=>exact .nil
 |@cons p q ps qs h t ih=>
  rw[G4,G4];refine .cons ?_ ih;obtain⟨h1,h2,h3⟩:=h;unfold putAt;by_cases e:p.1=k
  ·rw[K9 e,K9 (h1.symm.trans e)];exact⟨h1,h2,ry⟩
  ·rw[L1 e,L1 (λ z=>e (h1.trans z))];exact⟨h1,h2,h3⟩
theorem KT.put{xs:List (List Key×ww×jp)}(r:KT H kvs xs)(k:List Key){b:ww}(hb:H b=some (.tup (k.map kV)))(ry:bv y u):KT H (putK kvs k y) (storedH xs k b u):=by
 have e:(kvs.any λ kv=>decide (kv.1=k))=(atKey xs k).isSome:=by rw[m_,(r.val k).ff,x9]
 unfold putK storedH;rw[e];by_cases q:(atKey xs k).isSome=true
 ·rw[K9 q,K9 q];exact r.CW k ry
 ·rw[L1 q,L1 q];exact Paired.snoc r ⟨rfl,hb,ry⟩
theorem KT.keeps{xs:List (List Key×ww×jp)}(r:KT H kvs xs)(ht:∀b ys,H b=some (.tup ys)->H' b=some (.tup ys)):KT H' kvs xs:=
 Paired.wQ r λ _ _ z=>⟨z.1,ht _ _ z.2.1,z.2.2⟩
section
variable {h:Heap}
theorem Kw{u:HO}(ok:jv P w H h)(e:Rd H a u):bA P w H h a u:=e.ok ok
theorem rh{kvs:List (Key×V)}(ok:jv P w H h)(e:Rd H a (.dK kvs)):kvs.length<=sizeLine/\(a==sysModules)=false/\∃vs,KV kvs vs/\h.DictOf (cX P w) a vs:=
 show bA P w H h a (.dK kvs)from Kw ok e
theorem zu{kvs:List (Key×V)}(ok:jv P w H h)(e:H a=some (.dK kvs)):kvs.length<=sizeLine/\(a==sysModules)=false/\∃vs,KV kvs vs/\h.DictOf (cX P w) a vs:=rh ok (.inl e)
theorem oo{ks:List Key}(ok:jv P w H h)(e:H a=some (.tup (ks.map kV))):(tupleKind (cX P w)).is h ks a:=by obtain⟨_,ay,r,o,h1,h2,n,h3⟩:=(show bA P w H h a (.tup (ks.map kV))from ok a _ e);exact⟨o,ay.toArray,n,h1,h2,h3,by simpa using qS r⟩
theorem vf(ok:jv P w H h)(e:Rd H a (.dT kvs)):kvs.length<=sizeLine/\(a==sysModules)=false/\
  ∃xs,KT H kvs xs/\h.DictOfH (tupleKind (cX P w)) a xs:=by
 obtain⟨z,y,xs,r,o,es,ep,h1,h2,h3,h4,h5⟩:=(show bA P w H h a (.dT kvs)from Kw ok e);refine⟨z,y,xs,r,o,es,ep,h1,h2,h3,h4,λ x hx=>?_,h5⟩;have all:∀{l:List (List Key×V)} {m:List (List Key×ww×jp)},KT H l m->∀x∈m,(tupleKind (cX P w)).is h x.1 x.2.1:=by
  intro l m q
  induction q with
  |nil=>intro x hx;exact nomatch hx
  |@cons p q ps qs hq t ih=>
   intro x hx;rcases G5.mp hx with e|hx
   ·subst e;exact oo ok (by rw[<- hq.1];exact hq.2.1)
   ·exact ih x hx
 exact all r x hx
theorem R'(ok:jv P w H h)(e:H a=some (.dT kvs)):kvs.length<=sizeLine/\(a==sysModules)=false/\
  ∃xs,KT H kvs xs/\h.DictOfH (tupleKind (cX P w)) a xs:=vf ok (.inl e)
end
def qm(H:Hp)(a:ww)(y:V)(r:Option V):Prop:=
 (∃kvs k,Rd H a (.dK kvs)/\y=kV k/\r=gw kvs k)\/∃kvs k b,Rd H a (.dT kvs)/\y=.ref b/\H b=some (.tup (k.map kV))/\r=gw kvs k
def Ga(H:Hp)(a:ww)(y v:V)(H':Hp):Prop:=
 (∃kvs k,H a=some (.dK kvs)/\y=kV k/\kvs.length < sizeLine/\H'=ci H a (.dK (putK kvs k v)))\/
 ∃kvs k b,H a=some (.dT kvs)/\y=.ref b/\H b=some (.tup (k.map kV))/\kvs.length < sizeLine/\H'=ci H a (.dT (putK kvs k v))
theorem qm.k9{kvs:List (Key×V)}{k:Key}(e:H a=some (.dK kvs)):qm H a (kV k) (gw kvs k):=.inl ⟨kvs,k,.inl e,rfl,rfl⟩
theorem Ga.k9{kvs:List (Key×V)}{k:Key}(e:H a=some (.dK kvs))(hl:kvs.length < sizeLine):Ga H a (kV k) v (ci H a (.dK (putK kvs k v))):=.inl ⟨kvs,k,e,rfl,hl,rfl⟩
section
variable {r:jp}{o:Option V}
theorem be.big(I:be X xz σ H s):sysModules < s.heap.objs.size:=by have h:mainGlobals < s.heap.objs.size:=(I.mod.glob.keeps I.bk).lt;exact Nat.lt_trans (by decide) h
theorem Bw(hu:A.units+1 < cLine)(I:be X xz σ H s)(g:qm H a y (some v))(ry:bv y u)(h:∀w' s',be X xz σ H s'->bv v w'->Q w' s'):wpAny (model X.prog X.w) A (getItem (.ref a) u) Q E s:=by
 rcases g with⟨kvs,k,e,ey,l⟩|⟨kvs,k,b,e,ey,eb,l⟩
 ·subst ey;obtain⟨z,hd,vs,rel,dd⟩:=rh I.bx e;obtain⟨w',hw,hG⟩:=km.some_of (v:=v) (o:=valueAt vs k) (by rw[l];exact rel.val k);exact wpAny_getItem_of (ou ry) dd.mapOf hw (h w' _ (I.tok _) hG)
 ·subst ey;cases(show u=Value.ref b from ry);obtain⟨z,hd,xs,rel,dd⟩:=vf I.bx e;obtain⟨w',hw,hG⟩:=km.some_of (v:=v) (o:=(atKey xs k).map (·.2)) (by rw[l];exact rel.val k);obtain⟨p,hp,lZ⟩:=Option.map_eq_some_iff.mp hw;refine wpAny_getItem_heap (s9 hu) (oo I.bx eb) dd hp ?_;rw[lZ];exact h w' _ (I.tok _) hG
theorem V5(hu:A.units+1 < cLine)(I:be X xz σ H s)(g:qm H a y o)(ry:bv y u)(h:∀s',be X xz σ H s'->Q (.bool o.isSome) s'):wpAny (model X.prog X.w) A (compareOp .In u (.ref a)) Q E s:=by
 rcases g with⟨kvs,k,e,ey,l⟩|⟨kvs,k,b,e,ey,eb,l⟩
 ·subst ey;obtain⟨z,hd,vs,rel,dd⟩:=rh I.bx e;refine wpAny_in_of (ou ry) hd dd.mapOf ?_;rw[<- (rel.val k).ff,<- l];exact h _ (I.tok _)
 ·subst ey;cases(show u=Value.ref b from ry);obtain⟨z,hd,xs,rel,dd⟩:=vf I.bx e;refine wpAny_in_heap (s9 hu) (oo I.bx eb) hd dd ?_;have q:=(rel.val k).ff;rw[x9]at q;rw[<- q,<- l];exact h _ (I.tok _)
theorem JT(hu:A.units+1 < cLine)(I:be X xz σ H s)(g:qm H a y o)(ry:bv y u)(h:∀s',be X xz σ H s'->Q (.bool (!o.isSome)) s'):wpAny (model X.prog X.w) A (compareOp .NotIn u (.ref a)) Q E s:=by
 rcases g with⟨kvs,k,e,ey,l⟩|⟨kvs,k,b,e,ey,eb,l⟩
 ·subst ey;obtain⟨z,hd,vs,rel,dd⟩:=rh I.bx e;refine wpAny_notIn_of (ou ry) hd dd.mapOf ?_;rw[<- (rel.val k).ff,<- l];exact h _ (I.tok _)
 ·subst ey;cases(show u=Value.ref b from ry);obtain⟨z,hd,xs,rel,dd⟩:=vf I.bx e;refine wpAny_notIn_heap (s9 hu) (oo I.bx eb) hd dd ?_;have q:=(rel.val k).ff;rw[x9]at q;rw[<- q,<- l];exact h _ (I.tok _)
theorem iT{ob:HO}(I:be X xz σ H s)(mu:SF (H a))(hs:Heap.SameBut a s.heap h')(he:∃q,h'.get? a=some q)(new:bA X.prog X.w (ci H a ob) h' a ob):be X xz σ (ci H a ob) {s with heap:=h',toks:=t'}:=
 I.write (x:=a) (e:=a) mu (.inl rfl) (λ b q hb z=>(hs.2 b hb).trans z) he new
theorem xx{kvs:List (Key×V)}{vs:List (Key×jp)}(z:kvs.length<=sizeLine)(hd:(a==sysModules)=false)(rel:KV kvs vs)(dd:h'.DictOf (cX P w) a vs):bA P w H' h' a (.dK kvs):=⟨z,hd,vs,rel,dd⟩
theorem Bv{Q:Unit->kt->Prop}(hu:A.units+1 < cLine)(I:be X xz σ H s)(g:Ga H a y v H')(ry:bv y u)(rv:bv v r)(h:∀s',be X xz σ H' s'->Q () s'):wpAny (model X.prog X.w) A (setItem (.ref a) u r) Q E s:=by
 rcases g with⟨kvs,k,e,ey,l,eH⟩|⟨kvs,k,b,e,ey,eb,l,eH⟩
 ·subst ey eH;obtain⟨z,hd,vs,rel,dd⟩:=zu I.bx e;have hz:vs.length<=sizeLine:=by rw[<- rel.length];exact z
  have hl:(putK kvs k v).length<=sizeLine:=by have:=fL kvs k v;lia
  refine wpAny_setItem_pairs (hsz:=hz) (ou ry) dd λ h' zA hs=>h _ ?_;have he:∃q,h'.get? a=some q:=let⟨q,_,_,hq,_⟩:=zA;⟨q,hq⟩
  exact iT I (by rw[e];exact True.intro) hs he (xx hl hd (rel.put k rv) zA)
 ·subst ey eH;cases(show u=Value.ref b from ry);obtain⟨z,hd,xs,rel,dd⟩:=R' I.bx e;have hz:xs.length<=sizeLine:=by rw[<- G1 rel];exact z
  have hl:(putK kvs k v).length<=sizeLine:=by have:=fL kvs k v;lia
  refine wpAny_setItem_heap (hsz:=hz) (s9 hu) (oo I.bx eb) dd λ h' zA hs=>h _ ?_;obtain⟨q,es,ep,hq,h2,h3,h4,_,h5⟩:=zA;refine iT I (by rw[e];exact True.intro) hs ⟨q,hq⟩ ⟨hl,hd,_,(rel.put k eb rv).keeps λ c ys ec=>?_,q,es,ep,hq,h2,h3,h4,h5⟩;rw[aN (a_ ec e (λ z=>nomatch z))];exact ec
end
section
variable {kvs:List (Key×V)}{k:Key}
theorem Sa(I:be X xz σ H s)(e:Rd H a (.dK kvs))(h:∀t s',be X xz σ H s'->Q (.int kvs.length t) s'):wpAny (model X.prog X.w) A (call (.builtin "len") [.ref a]) Q E s:=by obtain⟨z,hd,vs,rel,dd⟩:=rh I.bx e;refine call_len_dict hd dd (by rw[<- rel.length];rw[J8]at z;lia) ?_;rw[<- rel.length];exact h _ _ (I.tok _)
end
theorem vi{o:Option V}(I:be X xz σ H s)(g:qm H a y o):s.TypeIs (.ref a) "dict":=by
 rcases g with⟨kvs,k,e,_,_⟩|⟨kvs,k,b,e,_,_,_⟩
 ·obtain⟨_,_,vs,_,dd⟩:=rh I.bx e;exact dd.typeIs
 ·obtain⟨_,_,xs,_,dd⟩:=vf I.bx e;exact dd.typeIs
theorem vh(h:Heap)(hb:sysModules < h.objs.size):bA P w H (h.push {cls:=.type "dict",data:=.dict #[]}) h.objs.size (.dK []):=
 ⟨J9 _,beq_eq_false_iff_ne.mpr (K8 (G8 hb)),[],.nil,Heap.DictOf.new h⟩
def LJ:TE:=λ _ H Q=>∀p,H p=none->Q (.ref p) (ci H p (.dK []))
section
variable {pos:Pos}
theorem DJ:PE X (.Dict [] [] pos) LJ:=λ xz s σ H Q I h=>
 wpAny_Dict_empty ⟨.ref s.heap.objs.size,_,I.laid (a:=s.heap.objs.size) (o:=.dK []) (t':=s.toks) (λ _ _ q=>j3 _ q) (J7 _) (vh s.heap I.big),rfl,h _ (I.bx.fresh (J7 _))⟩
end
open PySem.Spec PyProof.Rows
mutual
def gf(K:L6)(H:Hp):IK->V->Prop
 | .i n,v=>v=.int n\/∃b:Bool,v=.bl b/\n=b2i b
 | .t ks,v=>∃p xs,v=.ref p/\gn K H p xs/\ij K H ks xs
def ij(K:L6)(H:Hp):List IK->List V->Prop
 |[],xs=>xs=[]
 |k::ks,xs=>∃x r,xs=x::r/\gf K H k x/\ij K H ks r
end
mutual
theorem jY(I:be X xz σ H s):∀(k:IK) {v:V} {u:jp},gf X.K H k v->bv v u->cC s.heap k u
 | .i n,v,u,h,r=>by
  unfold gf at h;unfold cC;rcases h with rfl|⟨b,rfl,rfl⟩
  ·exact .inl r
  ·exact .inr ⟨b,r,rfl⟩
 | .t ks,v,u,h,r=>by unfold gf at h;obtain⟨p,xs,rfl,hq,hk⟩:=h;cases(show u=Value.ref p from r);obtain⟨ay,rv,⟨o,ho,hc,n,hd⟩,_⟩:=I.tuple hq;unfold cC;exact⟨p,o,ay,n,rfl,ho,hc,hd,yT I ks hk rv⟩
theorem yT(I:be X xz σ H s):∀(ks:List IK) {xs:List V} {us:List jp},ij X.K H ks xs->ce xs us->bH s.heap ks us
 |[],xs,us,h,r=>by unfold ij at h;subst h;cases r;unfold bH;rfl
 |k::ks,xs,us,h,r=>by
  unfold ij at h;obtain⟨x,Kl,rfl,h1,h2⟩:=h;cases r with
  |cons r1 r2=>unfold bH;exact⟨_,_,rfl,jY I k h1 r1,yT I ks h2 r2⟩
end
abbrev fH:=IK×ww×V
def V1(x:IK×ww×jp):DictEntry:=⟨eN x.1,.ref x.2.1,x.2.2⟩
abbrev BQ:List fH->List (IK×ww×jp)->Prop:=Paired λ p q=>p.1=q.1/\p.2.1=q.2.1/\bv p.2.2 q.2.2
def V4(a:ww)(kvs:List fH)(h:Heap):Prop:=kvs.length<=sizeLine/\(a==sysModules)=false/\∃xs,BQ kvs xs/\∃o es ep,h.get? a=some o/\o.ExactDict/\o.data=.dict es ep/\es.toList=xs.map V1/\(xs.map (·.1)).Nodup
def rf(a:ww)(kvs:List fH):HO:=.ext (V4 a kvs)
theorem sT{h:Heap}{kvs:List fH}(x:V4 a kvs h):bA P w H h a (rf a kvs):=by obtain⟨z,y,xs,r,o,es,ep,e,c⟩:=id x;exact⟨x,⟨o,e⟩,λ h1 h2 ⟨z,y,xs,r,o,es,ep,e,c⟩ q=>⟨z,y,xs,r,o,es,ep,q o e,c⟩⟩
noncomputable def jF (kvs:List fH)(k:IK):Option V:=(kvs.find? λ p=>decide (p.1=k)).map (·.2.2)
noncomputable def jP (kvs:List fH)(k:IK)(p:ww)(v:V):List fH:=if(jF kvs k).isSome=true then kvs.map (λ x=>if x.1=k then(x.1,x.2.1,v)else x)else kvs++[(k,p,v)]
theorem ux(kvs:List fH)(k:IK)(p:ww)(v:V):(jP kvs k p v).length<=kvs.length+1:=by
 unfold jP;split
 ·simp
 ·simp
theorem BQ.val{kvs:List fH}{xs:List (IK×ww×jp)}(r:BQ kvs xs)(k:IK):km (jF kvs k) ((atKey xs k).map (·.2)):=by
 induction r with
 |nil=>exact True.intro
 |@cons p q ps qs h t ih=>
  obtain⟨h1,_,h2⟩:=h;unfold jF atKey at ih ⊢;by_cases e:p.1=k
  ·have e':q.1=k:=h1.symm.trans e;simp only[B2,C8 e,C8 e',Option.map_some];exact h2
  ·have e':¬q.1=k:=λ z=>e (h1.trans z);simp only[B2,B3 e,B3 e'];exact ih
theorem BQ.CW{kvs:List fH}{xs:List (IK×ww×jp)}(r:BQ kvs xs)(k:IK)(ry:bv y u):BQ (kvs.map λ x=>if x.1=k then(x.1,x.2.1,y)else x) (xs.map (putAt k u)):=by
 induction r with
 |nil=>exact .nil
 |@cons p q ps qs h t ih=>
  rw[G4,G4];refine .cons ?_ ih;obtain⟨h1,h2,h3⟩:=h;unfold putAt;by_cases e:p.1=k
  ·rw[K9 e,K9 (h1.symm.trans e)];exact⟨h1,h2,ry⟩
  ·rw[L1 e,L1 (λ z=>e (h1.trans z))];exact⟨h1,h2,h3⟩
theorem sH{o:Option V}{u:Option jp}(r:km o u):o.isSome=u.isSome:=r.ff
theorem BQ.put{kvs:List fH}{xs:List (IK×ww×jp)}(r:BQ kvs xs)(k:IK){b:ww}(ry:bv y u):BQ (jP kvs k b y) (storedH xs k b u):=by
 have e:(jF kvs k).isSome=(atKey xs k).isSome:=by rw[sH (r.val k),x9]
 unfold jP storedH;rw[e];by_cases q:(atKey xs k).isSome=true
 ·rw[K9 q,K9 q];exact r.CW k ry
 ·rw[L1 q,L1 q];exact Paired.snoc r ⟨rfl,rfl,ry⟩
structure o_(K:L6)(H:Hp)(a:ww)(kvs:List fH):Prop where
 at_:H a=some (rf a kvs)
 key:∀p∈kvs,p.1.dep<=5/\gf K H p.1 (.ref p.2.1)
section
variable {b:ww}{kvs:List fH}{k:IK}{r:jp}
theorem o_.of(I:be X xz σ H s)(d:o_ X.K H a kvs):kvs.length<=sizeLine/\(a==sysModules)=false/\∃xs,BQ kvs xs/\s.heap.DictOfH (aX X.prog X.w) a xs:=by
 obtain⟨⟨z,y,xs,rel,o,es,ep,h1,h2,h3,h4,h5⟩,_,_⟩:=(show bA X.prog X.w H s.heap a (rf a kvs)from I.bx a _ d.at_);refine⟨z,y,xs,rel,o,es,ep,h1,h2,h3,h4,?_,h5⟩;have all:∀{l:List fH} {m:List (IK×ww×jp)},BQ l m->(∀p∈l,p.1.dep<=5/\gf X.K H p.1 (.ref p.2.1))->∀x∈m,(aX X.prog X.w).is s.heap x.1 x.2.1:=by
  intro l m q
  induction q with
  |nil=>intro _ x hx;cases hx
  |@cons p q ps qs hq t ih=>
   intro hl x hx;rcases G5.mp hx with rfl|hx
   ·obtain⟨c1,c2⟩:=hl p (n6 ..);rw[hq.1,hq.2.1]at c2;rw[hq.1]at c1;exact⟨c1,jY I _ c2 rfl⟩
   ·exact ih (λ p hp=>hl p (k7 _ hp)) x hx
 exact all rel d.key
theorem jJ(hu:A.units+64 < cLine):(aX X.prog X.w).room A.in1:=(show A.units+1+8 < cLine by lia)
theorem Av(hu:A.units+64 < cLine)(I:be X xz σ H s)(d:o_ X.K H a kvs)(hk:k.dep<=5)(tQ:gf X.K H k (.ref b))(g:jF kvs k=some v)(h:∀w' s',be X xz σ H s'->bv v w'->Q w' s'):wpAny (model X.prog X.w) A (getItem (.ref a) (.ref b)) Q E s:=by obtain⟨z,hd,xs,rel,dd⟩:=d.of I;obtain⟨w',hw,hG⟩:=km.some_of (v:=v) (o:=(atKey xs k).map (·.2)) (by rw[<- g];exact rel.val k);obtain⟨p,hp,lZ⟩:=Option.map_eq_some_iff.mp hw;refine wpAny_getItem_heap (jJ hu) ⟨hk,jY I k tQ rfl⟩ dd hp ?_;rw[lZ];exact h w' _ (I.tok _) hG
theorem T9(hu:A.units+64 < cLine)(I:be X xz σ H s)(d:o_ X.K H a kvs)(hk:k.dep<=5)(tQ:gf X.K H k (.ref b))(h:∀s',be X xz σ H s'->Q (.bool (jF kvs k).isSome) s'):wpAny (model X.prog X.w) A (compareOp .In (.ref b) (.ref a)) Q E s:=by obtain⟨z,hd,xs,rel,dd⟩:=d.of I;refine wpAny_in_heap (jJ hu) ⟨hk,jY I k tQ rfl⟩ hd dd ?_;have q:=sH (rel.val k);rw[x9]at q;rw[<- q];exact h _ (I.tok _)
theorem GQ(hu:A.units+64 < cLine)(I:be X xz σ H s)(d:o_ X.K H a kvs)(hk:k.dep<=5)(tQ:gf X.K H k (.ref b))(h:∀s',be X xz σ H s'->Q (.bool (!(jF kvs k).isSome)) s'):wpAny (model X.prog X.w) A (compareOp .NotIn (.ref b) (.ref a)) Q E s:=by obtain⟨z,hd,xs,rel,dd⟩:=d.of I;refine wpAny_notIn_heap (jJ hu) ⟨hk,jY I k tQ rfl⟩ hd dd ?_;have q:=sH (rel.val k);rw[x9]at q;rw[<- q];exact h _ (I.tok _)
theorem Au{Q:Unit->kt->Prop}(hu:A.units+64 < cLine)(I:be X xz σ H s)(d:o_ X.K H a kvs)(hk:k.dep<=5)(tQ:gf X.K H k (.ref b))(hl:kvs.length < sizeLine)(rv:bv v r)(h:∀s',be X xz σ (ci H a (rf a (jP kvs k b v))) s'->Q () s'):wpAny (model X.prog X.w) A (setItem (.ref a) (.ref b) r) Q E s:=by
 obtain⟨z,hd,xs,rel,dd⟩:=d.of I;have hz:xs.length<=sizeLine:=by rw[<- G1 rel];exact z
 have lK:(jP kvs k b v).length<=sizeLine:=by have:=ux kvs k b v;lia
 refine wpAny_setItem_heap (hsz:=hz) (jJ hu) ⟨hk,jY I k tQ rfl⟩ dd λ h' zA hs=>h _ ?_;obtain⟨q,es,ep,hq,h2,h3,h4,_,h5⟩:=zA;exact iT I (by rw[d.at_];exact True.intro) hs ⟨q,hq⟩ (sT ⟨lK,hd,_,rel.put k rv,q,es,ep,hq,h2,h3,h4,h5⟩)
end
section
variable {pos:Pos}
theorem zt(h:Heap)(hb:sysModules < h.objs.size):V4 h.objs.size [] (h.push {cls:=.type "dict",data:=.dict #[]}):=
 ⟨J9 _,beq_eq_false_iff_ne.mpr (K8 (G8 hb)),[],.nil,_,#[],0,m7 _ rfl,⟨rfl,rfl,rfl⟩,rfl,rfl,nodup_nil⟩
def LK:TE:=λ _ H Q=>∀p,H p=none->Q (.ref p) (ci H p (rf p []))
theorem DK:PE X (.Dict [] [] pos) LK:=λ xz s σ H Q I h=>
 wpAny_Dict_empty ⟨.ref s.heap.objs.size,_,I.laid (a:=s.heap.objs.size) (o:=rf s.heap.objs.size []) (t':=s.toks) (λ _ _ q=>j3 _ q) (J7 _) (sT (zt s.heap I.big)),rfl,h _ (I.bx.fresh (J7 _))⟩
end
theorem Mw{d:ww}(hd:(d==sysModules)=false):MeetsIn prog w (Builtin.«dict.__len__» ⟨[.ref d],[]⟩) (λ _ R s=>∃o es ep,s.heap.get? d=some o/\o.data=.dict es ep/\R (.ok (.ret (.int es.size s.toks))) {s with toks:=s.toks+1}):=
 .of_wp λ A R s ⟨o,es,ep,ho,OI,h⟩=>by show wpAny _ _ (dictSize d >>= _) _ _ s;unfold dictSize;refine K1 (K1 (wpAny_dictEntries ho OI (K2 ?_)));show wpAny _ _ (Builtin.Dict.pendingCount d >>= _) _ _ s;refine K1 (wpAny_pendingCount_other hd (wpAny_ret_mkInt ?_));rw[Nat.add_zero];exact h
theorem vB{d:ww}{es:Array DictEntry}(hd:(d==sysModules)=false)(ho:s.heap.get? d=some o)(hc:o.cls=.type "dict")(OI:o.data=.dict es ep)(hz:es.size<=sizeLine) (h:∀t n,Q (.int es.size t) {s with toks:=n}):wpAny (model prog w) A (call (.builtin "len") [.ref d]) Q E s:=by
 have hT:s.TypeIs (.ref d) "dict":=⟨o,ho,hc⟩;have Tr:sizeLine=16777216:=by decide
 have RP:((es.size:Nat):Int) < 2^63:=by lia
 refine Calls.call_function_entry kind_len plain_len entry_len (args_len1 _) ?_;unfold Builtin.«len»;refine K1 (m:=oneArg "len" _) (K2 ?_);refine K1 (m:=callSpecial? (.ref d) (Str.ofString "__len__")) (j0 (name:=Str.ofString "__len__") hT F.slot_dict_len (call_meetsIn F.slot_dict_len hT F.entry_dict_len (F.args_dict_len_1 _) (Mw hd) ⟨o,es,ep,ho,OI,?_⟩));show wpAny _ _ _ _ _ {s with toks:=s.toks+1};refine K1 (D4 (K2 (K1 (wpAny_letGo ?_))));show wpAny _ _ (if((es.size:Nat):Int) < 0 then _ else _) _ _ _;rw[L1 (by lia)];show wpAny _ _ (if((es.size:Nat):Int) ≥ 2^63 then _ else _) _ _ _;rw[L1 (by lia)];exact K1 (wpAny_mkInt (K2 ⟨_,rfl,h _ _⟩))
section
variable {kvs:List fH}
theorem P'(I:be X xz σ H s)(e:H a=some (rf a kvs))(h:∀t s',be X xz σ H s'->Q (.int kvs.length t) s'):wpAny (model X.prog X.w) A (call (.builtin "len") [.ref a]) Q E s:=by
 obtain⟨⟨z,y,xs,rel,o,es,ep,h1,h2,h3,h4,h5⟩,_,_⟩:=(show bA X.prog X.w H s.heap a (rf a kvs)from I.bx a _ e);have e1:es.size=kvs.length:=by rw[<- m6,h4,C1];exact(G1 rel).symm
 refine vB y h1 h2.1 h3 (by rw[e1];exact z) λ t n=>?_;rw[e1];exact h t _ (I.tok _)
end
open PySem.Spec PyProof.Rows
structure ql where
 qual:Str
 params:Arguments
 body:Expr
 scope:Scope
 pm:jp
abbrev lT(f:ww)(L:ql)(c:ww)(cl:List (Str×ww)):Heap->Prop:=λ h=>∃oM,h.get? f=some (PySem.W.kla_obj "<lambda>" L.qual L.params L.body L.scope cl L.pm c oM)
abbrev qd(c:ww)(q:Str):Heap->Prop:=λ h=>h.CodeRec (.ref c) q
abbrev O8(c:ww)(v:V):Heap->Prop:=λ h=>∃u,bv v u/\h.IsCell c (some u)
abbrev So(o:Obj)(c:ww)(v:V):HO:=.eD o (.eD o (.ext (O8 c v)))
theorem yP{h:Heap}{c:ww}{L:ql}{oM:jp}(e:h.get? f=some (PySem.W.kla_obj "<lambda>" L.qual L.params L.body L.scope cl L.pm c oM)):∃o,∀{P:Program} {w:World} {H:Hp},bA P w H h f (.eD o (.ext (lT f L c cl))):=
 ⟨_,λ{_ _ _}=>⟨e,⟨oM,e⟩,⟨_,e⟩,λ h1 h2 ⟨t,q⟩ k=>⟨t,k _ q⟩⟩⟩
theorem JY{h:Heap}{c:ww}{q:Str}(x:h.CodeRec (.ref c) q):∃o,∀{P:Program} {w:World} {H:Hp},bA P w H h c (.eD o (.ext (qd c q))):=by obtain⟨c',o,vs,t,e,h1,h2,h3⟩:=id x;cases e;exact⟨o,λ{_ _ _}=>⟨h1,x,⟨o,h1⟩,λ a b ⟨c',o,vs,t,e,h1,h2,h3⟩ k=>by cases e;exact⟨_,o,vs,t,rfl,k _ h1,h2,h3⟩⟩⟩
theorem JZ{h:Heap}{c:ww}(r:bv v u)(x:h.IsCell c (some u)):∃o,h.get? c=some o/\∀{P:Program} {w:World} {H:Hp},bA P w H h c (So o c v):=by obtain⟨o,h1,h2⟩:=id x;exact⟨o,h1,λ{_ _ _}=>⟨h1,h1,⟨u,r,x⟩,⟨o,h1⟩,λ a b ⟨u,r,o,h1,h2⟩ k=>⟨u,r,o,k _ h1,h2⟩⟩⟩
def nv(cs:List (Pos×ww)):List jp:=cs.flatMap λ p=>[rawInt p.1.line,rawInt p.1.col,.ref p.2]
theorem rL:∀cs,TriplesOk (nv cs)
 |[]=>trivial
 |p::cs=>rL cs
theorem qC{pos:Pos}:∀{cs:List (Pos×ww)},codeAmong pos (nv cs)=some u->∃p∈cs,u=.ref p.2
 |[],e=>by cases e
 |p::cs,e=>by
  have e:(if(((p.1.line:Int)==pos.line)&&((p.1.col:Int)==pos.col))=true then some (Value.ref p.2)else codeAmong pos (nv cs))=some u:=e;split at e
  ·exact⟨p,.head _,(B6 e).symm⟩
  ·obtain⟨q,h,r⟩:=qC e;exact⟨q,.tail _ h,r⟩
structure GA(mg:Str->Option jp)(base:Heap)(c P:ww):Prop where
 bm:∃bm ob,mg "__builtins__"=some (.ref bm)/\bm≠builtinsNs/\base.get? bm=some ob/\ob.cls=.type "module"/\ob.dict=some builtinsNs/\ob.data=.plain
 cd:PySem.W.CodeHd base c P
def FU(H:Hp)(P:ww)(q:Str):Prop:=∃cs:List (Pos×ww),H P=some (.pe (nv cs).toArray)/\∀p∈cs,∃o,H p.2=some (.eD o (.ext (qd p.2 q)))
theorem FU.grow{P:ww}{q:Str}(t:FU H P q)(k:∀b o u,H b=some (.eD o u)->H' b=some (.eD o u))(e:H' P=H P):FU H' P q:=by obtain⟨cs,h1,h2⟩:=t;exact⟨cs,e.trans h1,λ p hp=>let⟨o,z⟩:=h2 p hp;⟨o,k _ _ _ z⟩⟩
def Ug(P:ww)(L:ql)(cells:List (Str×ww)):TE:=λ σ H Q=>FU H P L.qual/\∀(f c:ww) (H':Hp),H f=none->(∀x d,cells.lookup x=some d->d≠f)->(∀b u,b≠P->H b=some u->H' b=some u)->FU H' P L.qual->(∃o,H' c=some (.eD o (.ext (qd c L.qual))))->(∃o,H' f=some (.eD o (.ext (lT f L c (bI cells L.scope.names [])))))->Q (.ref f) H'
theorem qD(cs:List (Pos×ww))(pos:Pos)(c:ww):(nv cs).toArray++#[rawInt pos.line,rawInt pos.col,.ref c]=(nv (cs++[(pos,c)])).toArray:=by simp[nv]
theorem Np{L:ql}{c P:ww}{pos:Pos}(lM:X.env.code=.ref c)(B:GA X.mg X.base c P)(xl:defaultsOf L.params X.env=([],[]))(Bn:L.pm=(X.mg "__name__").getD .none)(hq:X.env.qual++"<lambda>"=L.qual) (Bq:∀n,(n,NameKind.free)∈L.scope.names->X.env.kindOf n=some .cell\/X.env.kindOf n=some .free):PE X (.Lambda L.params L.body L.scope pos) (Ug P L X.env.cells):=by
 intro xz s σ H Q I h;obtain⟨⟨cs,hP,Gs⟩,k⟩:=h;refine PySem.W.kla_eval xl ?_;rw[hq];have EZ:closureFor L.scope X.env=pure (bI X.env.cells L.scope.names []):=eu λ n hn=>I.ok.has n (Bq n hn);have oP:s.heap.get? P=some (PySem.W.tabObj (nv cs).toArray):=I.bx P _ hP;have hg:s.heap.Ns mainGlobals X.mg:=I.mod.glob.keeps I.bk;have C:=B.cd.keeps I.bk;obtain⟨bm,ob,b1,b2,b3,b4,b5,b6⟩:=B.bm;have YY:mainGlobals≠P:=λ q=>by obtain⟨o,es,ep,e,hd,_⟩:=id hg;rw[q,oP]at e;cases e;cases hd
 have Y6:bm≠P:=λ q=>by have e:=I.bk _ _ b3;rw[q,oP]at e;cases e;cases b4
 have Y7:bm≠mainGlobals:=λ q=>by obtain⟨o,es,ep,e,hd,_⟩:=id hg;have e2:=I.bk _ _ b3;rw[q,e]at e2;cases e2;rw[hd]at b6;cases b6
 have hb:s.heap.BuiltinsAt X.mg P:=⟨bm,ob,b1,b2,Y7,Y6,I.bk _ _ b3,b4,b5,b6⟩;have Xi:∀{f:ww},s.heap.objs.size<=f->∀x d,X.env.cells.lookup x=some d->d≠f:=λ hf x d e z=>by obtain⟨v,o,ho,_⟩:=I.cell x d e;exact absurd (G9 ho) (by rw[z];exact Nat.not_lt.mpr hf)
 cases hc:codeAmong pos (nv cs).toArray.toList with
 |none=>
  refine PySem.W.kla_makeFunction EZ I.ok.glob hg lM C oP (by simpa using rL cs) hc YY hb λ c' oM h' tk hx KY gg Vj Rx=>?_;rw[<- Bn];have hf:h'.objs.size=h'.objs.size:=rfl;generalize hF:h'.objs.size=f at*;have Vg:s.heap.objs.size<=f:=J0 KY (J6 gg);have nc:H c'=none:=I.bx.fresh KY;have nf:H f=none:=I.bx.fresh Vg;have cf:c'≠f:=G8 gg;have cP:c'≠P:=λ z=>by rw[z,hP]at nc;cases nc
  have fP:f≠P:=λ z=>by rw[z,hP]at nf;cases nf
  have up:∀b o,h'.get? b=some o->(h'.push (PySem.W.kla_obj "<lambda>" L.qual L.params L.body L.scope (bI X.env.cells L.scope.names []) L.pm c' oM)).get? b=some o:=λ b o e=>j3 _ e;have hl:(h'.push (PySem.W.kla_obj "<lambda>" L.qual L.params L.body L.scope (bI X.env.cells L.scope.names []) L.pm c' oM)).get? f=some (PySem.W.kla_obj "<lambda>" L.qual L.params L.body L.scope (bI X.env.cells L.scope.names []) L.pm c' oM):=by rw[<- hF];exact m7 _ rfl
  have Rz:(h'.push (PySem.W.kla_obj "<lambda>" L.qual L.params L.body L.scope (bI X.env.cells L.scope.names []) L.pm c' oM)).CodeRec (.ref c') L.qual:=by obtain⟨c2,o,vs,t,e,h1,h2,h3⟩:=Vj;exact⟨c2,o,vs,t,e,up _ _ h1,h2,h3⟩
  have Rx:=up _ _ Rx;rw[qD]at Rx;have kp:∀b o,b≠P->s.heap.get? b=some o->(h'.push (PySem.W.kla_obj "<lambda>" L.qual L.params L.body L.scope (bI X.env.cells L.scope.names []) L.pm c' oM)).get? b=some o:=λ b o n e=>up b o (hx b o n e);generalize h'.push (PySem.W.kla_obj "<lambda>" L.qual L.params L.body L.scope (bI X.env.cells L.scope.names []) L.pm c' oM)=g at*;obtain⟨of,zf⟩:=yP (L:=L) hl;obtain⟨oc,zc⟩:=JY Rz;obtain⟨H',eH⟩:∃H':Hp,H'=ci (ci (ci H c' (.eD oc (.ext (qd c' L.qual)))) P (.pe (nv (cs++[(pos,c')])).toArray)) f (.eD of (.ext (lT f L c' (bI X.env.cells L.scope.names [])))):=⟨_,rfl⟩;have Hf:H' f=some (.eD of (.ext (lT f L c' (bI X.env.cells L.scope.names [])))):=by rw[eH];exact aR
  have HP:H' P=some (.pe (nv (cs++[(pos,c')])).toArray):=by rw[eH,aN fP.symm];exact aR
  have Hc:H' c'=some (.eD oc (.ext (qd c' L.qual))):=by rw[eH,aN cf,aN cP];exact aR
  have Ho:∀b,b≠f->b≠P->b≠c'->H' b=H b:=λ b n1 n2 n3=>by rw[eH,aN n1,aN n2,aN n3]
  have old:∀b u,b≠P->H b=some u->H' b=some u:=λ b u n e=>(Ho b (bN e nf) n (bN e nc)).trans e;have I2:be X xz σ H' {s with heap:=g,toks:=tk}:=by
   refine I.un (H':=H') (h':=g) (t':=tk) ⟨λ b o e n _ _=>kp b o (λ z=>by rw[z,hP]at n;cases n) e,λ b o e n _ _=>⟨o.slots,kp b o (λ z=>by rw[z,hP]at n;cases n) e⟩,λ b o e n _=>?_,λ b o e _=>?_,λ b xs e=>old b _ (λ z=>by rw[z,hP]at e;cases e) e,λ b o u e=>old b _ (λ z=>by rw[z,hP]at e;cases e) e,λ b ps e=>?_⟩ λ b u e=>?_
   ·have lt:=G9 e;rw[Ho b (G8 (p7 lt Vg)) (λ z=>by rw[z,hP]at n;cases n) (G8 (p7 lt KY))];exact n
   ·by_cases z:b=P
    ·subst z;exact⟨_,Rx⟩
    ·exact⟨o,kp b o z e⟩
   ·by_cases z:b=P
    ·subst z;rw[hP]at e;cases e;exact⟨#[rawInt pos.line,rawInt pos.col,.ref c'],by rw[HP,qD]⟩
    ·exact⟨#[],by rw[old b _ z e];simp⟩
   ·by_cases z1:b=f
    ·subst z1;rw[Hf]at e;cases e;exact zf
    ·by_cases z2:b=P
     ·subst z2;rw[HP]at e;cases e;exact Rx
     ·by_cases z3:b=c'
      ·subst z3;rw[Hc]at e;cases e;exact zc
      ·rw[Ho b z1 z2 z3]at e;refine(I.bx b u e).nA (λ d v hd q=>kp d v ?_ q) (λ d q=>old d _ (λ z=>by rw[z,hP]at q;cases q) q) λ d xs q=>old d _ (λ z=>by rw[z,hP]at q;cases q) q;rcases hd with rfl|hd
       ·exact z2
       ·exact λ z=>by rw[z,hP]at hd;cases hd
  refine⟨.ref f,H',I2,rfl,k f c' H' nf (Xi Vg) old ⟨_,HP,λ p hp=>?_⟩ ⟨oc,Hc⟩ ⟨of,Hf⟩⟩;rcases C2.mp hp with hp|hp
  ·obtain⟨o,z⟩:=Gs p hp;exact⟨o,old _ _ (λ y=>by rw[y,hP]at z;cases z) z⟩
  ·rw[p8.mp hp];exact⟨oc,Hc⟩
 |some u=>
  obtain⟨p,hp,rfl⟩:=qC (by simpa using hc);refine PySem.W.kla_makeFunctionHit EZ I.ok.glob hg lM C oP (by simpa using rL cs) hc hb λ oM h' tk hx hsz=>?_;rw[<- Bn];have nf:H h'.objs.size=none:=I.bx.fresh hsz;have fP:h'.objs.size≠P:=λ z=>by rw[z,hP]at nf;cases nf
  have hl:(h'.push (PySem.W.kla_obj "<lambda>" L.qual L.params L.body L.scope (bI X.env.cells L.scope.names []) L.pm p.2 oM)).get? h'.objs.size=some (PySem.W.kla_obj "<lambda>" L.qual L.params L.body L.scope (bI X.env.cells L.scope.names []) L.pm p.2 oM):=m7 _ rfl;obtain⟨of,zf⟩:=yP (L:=L) hl;have t:∀b u,H b=some u->ci H h'.objs.size (.eD of (.ext (lT h'.objs.size L p.2 (bI X.env.cells L.scope.names [])))) b=some u:=λ b u e=>by rw[aN (bN e nf)];exact e
  have I2:=I.laid (t':=tk) (a:=h'.objs.size) (h':=h'.push (PySem.W.kla_obj "<lambda>" L.qual L.params L.body L.scope (bI X.env.cells L.scope.names []) L.pm p.2 oM)) (λ b u e=>j3 _ (hx b u e)) hsz (o:=.eD of (.ext (lT h'.objs.size L p.2 (bI X.env.cells L.scope.names [])))) zf;obtain⟨oc,zc⟩:=Gs p hp;exact⟨.ref h'.objs.size,_,I2,rfl,k _ p.2 _ nf (Xi hsz) (λ b u _ e=>t b u e) ⟨cs,t _ _ hP,λ p hp=>let⟨o,z⟩:=Gs p hp;⟨o,t _ _ z⟩⟩ ⟨oc,t _ _ zc⟩ ⟨of,aR⟩⟩
end L2
variable {L:L2.ql}
namespace L3
open PySem.Spec L2
inductive D where
 |bw|bl (b:Bool)|int (i:Int)|str (x:Str)|ty (n:String)|ref (a:ww)
 |tup (xs:List D)
 |fl (xs:List D)
def GB(K:L6)(H:Hp)(p:ww)(xs:List V):Prop:=
 (∃o,H p=some (.eD o (.lst xs)))\/∃(o:Obj) (ay:Array jp) (n:Nat),K.lookup p=some o/\o.cls=.type "list"/\o.dict=none/\o.data=.seq ay n/\ay.size<=sizeLine/\ce xs ay.toList
theorem GB.sq(h:GB K H p xs):fE K H p xs:=by
 rcases h with h|h
 ·exact .inl (.inr h)
 ·exact .inr h
mutual
def bn(K:L6)(H:Hp):D->V->Prop
 | .bw,v=>v=.bw
 | .bl b,v=>v=.bl b
 | .int i,v=>v=.int i
 | .str x,v=>v=.str x
 | .ty n,v=>v=.ty n
 | .ref a,v=>v=.ref a
 | .tup ds,v=>∃p xs,v=.ref p/\gn K H p xs/\aD K H ds xs
 | .fl ds,v=>∃p xs,v=.ref p/\GB K H p xs/\aD K H ds xs
def aD(K:L6)(H:Hp):List D->List V->Prop
 |[],xs=>xs=[]
 |d::ds,xs=>∃x r,xs=x::r/\bn K H d x/\aD K H ds r
end
structure ar(H H':Hp):Prop where
 tup:∀b xs,H b=some (.tup xs)->H' b=some (.tup xs)
 eD:∀b o u,H b=some (.eD o u)->H' b=some (.eD o u)
theorem ar.refl(H:Hp):ar H H:=⟨λ _ _ h=>h,λ _ _ _ h=>h⟩
theorem ar.trans{H2:Hp}(a:ar H H1)(b:ar H1 H2):ar H H2:=⟨λ c xs h=>b.tup c xs (a.tup c xs h),λ c o u h=>b.eD c o u (a.eD c o u h)⟩
theorem ar.laid{o:HO}(h:H p=none):ar H (ci H p o):=
 ⟨λ b xs e=>by rw[aN (bN e h)];exact e,λ b ob u e=>by rw[aN (bN e h)];exact e⟩
theorem ar.lst {H:Hp}{p:ww}{xs:List V}{o:HO}(h:H p=some (.lst xs)):ar H (ci H p o):=
 ⟨λ b ys e=>by rw[aN (a_ e h (by intro z;cases z))];exact e,λ b ob u e=>by rw[aN (a_ e h (by intro z;cases z))];exact e⟩
theorem ar.mut{u o:HO}(h:H p=some u)(n1:∀xs,u≠.tup xs)(n2:∀ob w,u≠.eD ob w):ar H (ci H p o):=
 ⟨λ b ys e=>by rw[aN (λ z=>by subst z;rw[h]at e;exact n1 ys (B6 e))];exact e,λ b ob w e=>by rw[aN (λ z=>by subst z;rw[h]at e;exact n2 ob w (B6 e))];exact e⟩
structure FV(H H':Hp):Prop where
 tup:∀b xs,H b=some (.tup xs)->H' b=some (.tup xs)
 ft:∀b o xs,H b=some (.eD o (.tup xs))->H' b=some (.eD o (.tup xs))
 fl:∀b o xs,H b=some (.eD o (.lst xs))->H' b=some (.eD o (.lst xs))
theorem ar.sub(t:ar H H'):FV H H':=⟨t.tup,λ b o _=>t.eD b o _,λ b o _=>t.eD b o _⟩
theorem yf(t:FV H H')(h:gn K H p xs):gn K H' p xs:=by
 rcases h with(h|⟨o,h⟩)|h
 ·exact .inl (.inl (t.tup _ _ h))
 ·exact .inl (.inr ⟨o,t.ft _ _ _ h⟩)
 ·exact .inr h
theorem zm(t:FV H H')(h:GB K H p xs):GB K H' p xs:=by
 rcases h with⟨o,h⟩|h
 ·exact .inl ⟨o,t.fl _ _ _ h⟩
 ·exact .inr h
theorem Cp(t:ar H H')(h:gn K H p xs):gn K H' p xs:=yf t.sub h
theorem Fi(t:ar H H')(h:GB K H p xs):GB K H' p xs:=zm t.sub h
mutual
theorem bn.mon {K:L6}{H H':Hp}(t:FV H H'):∀(d:D) {v:V},bn K H d v->bn K H' d v
 | .bw,v,h=>by unfold bn at h ⊢;exact h
 | .bl b,v,h=>by unfold bn at h ⊢;exact h
 | .int i,v,h=>by unfold bn at h ⊢;exact h
 | .str x,v,h=>by unfold bn at h ⊢;exact h
 | .ty n,v,h=>by unfold bn at h ⊢;exact h
 | .ref a,v,h=>by unfold bn at h ⊢;exact h
 | .tup ds,v,h=>by unfold bn at h ⊢;obtain⟨p,xs,e,q,r⟩:=h;exact⟨p,xs,e,yf t q,aD.mon t ds r⟩
 | .fl ds,v,h=>by unfold bn at h ⊢;obtain⟨p,xs,e,q,r⟩:=h;exact⟨p,xs,e,zm t q,aD.mon t ds r⟩
theorem aD.mon {K:L6}{H H':Hp}(t:FV H H'):∀(ds:List D) {xs:List V},aD K H ds xs->aD K H' ds xs
 |[],xs,h=>by unfold aD at h ⊢;exact h
 |d::ds,xs,h=>by unfold aD at h ⊢;obtain⟨x,r,e,a,b⟩:=h;exact⟨x,r,e,bn.mon t d a,aD.mon t ds b⟩
end
theorem bn.mono(t:ar H H')(d:D)(h:bn K H d v):bn K H' d v:=bn.mon t.sub d h
theorem aD.mono(t:ar H H')(ds:List D)(h:aD K H ds xs):aD K H' ds xs:=aD.mon t.sub ds h
theorem dN:bn K H .bw v↔v=.bw:=by unfold bn;exact Iff.rfl
theorem ba:bn K H (.bl b) v↔v=.bl b:=by unfold bn;exact Iff.rfl
theorem ax{i:Int}:bn K H (.int i) v↔v=.int i:=by unfold bn;exact Iff.rfl
theorem bj:bn K H (.str x) v↔v=.str x:=by unfold bn;exact Iff.rfl
theorem xA{n:String}:bn K H (.ty n) v↔v=.ty n:=by unfold bn;exact Iff.rfl
theorem aE:bn K H (.ref a) v↔v=.ref a:=by unfold bn;exact Iff.rfl
theorem aZ{ds:List D}:bn K H (.tup ds) v↔∃p xs,v=.ref p/\gn K H p xs/\aD K H ds xs:=by rw[bn]
theorem jj{ds:List D}:bn K H (.fl ds) v↔∃p xs,v=.ref p/\GB K H p xs/\aD K H ds xs:=by rw[bn]
theorem ao:aD K H [] xs↔xs=[]:=by unfold aD;exact Iff.rfl
theorem ag{d:D}{ds:List D}:aD K H (d::ds) xs↔∃x r,xs=x::r/\bn K H d x/\aD K H ds r:=by rw[aD]
theorem aD.length:∀{ds:List D} {xs:List V},aD K H ds xs->xs.length=ds.length
 |[],xs,h=>by rw[ao]at h;subst h;rfl
 |d::ds,xs,h=>by rw[ag]at h;obtain⟨x,r,rfl,_,q⟩:=h;rw[y8,y8,q.length]
theorem aD.get:∀{ds:List D} {xs:List V} {i:Nat} {d:D},aD K H ds xs->ds[i]?=some d->∃x,xs[i]?=some x/\bn K H d x
 |[],xs,i,d,h,e=>by simp at e
 |d0::ds,xs,i,d,h,e=>by
  rw[ag]at h;obtain⟨x,r,rfl,a,q⟩:=h;cases i with
  |zero=>simp at e;subst e;exact⟨x,rfl,a⟩
  |succ i=>obtain⟨y,h1,h2⟩:=aD.get q (by simpa using e);exact⟨y,by simpa using h1,h2⟩
theorem aD.Bs:∀{ds:List D} {xs:List V} {i:Nat} {x:V},aD K H ds xs->xs[i]?=some x->∃d,ds[i]?=some d/\bn K H d x
 |[],xs,i,x,h,e=>by rw[ao]at h;subst h;simp at e
 |d0::ds,xs,i,x,h,e=>by
  rw[ag]at h;obtain⟨y,r,rfl,a,q⟩:=h;cases i with
  |zero=>simp at e;subst e;exact⟨d0,rfl,a⟩
  |succ i=>obtain⟨d,h1,h2⟩:=aD.Bs q (by simpa using e);exact⟨d,by simpa using h1,h2⟩
theorem aD.append:∀{ds es:List D} {xs ys:List V},aD K H ds xs->aD K H es ys->aD K H (ds++es) (xs++ys)
 |[],es,xs,ys,h,q=>by rw[ao]at h;subst h;exact q
 |d::ds,es,xs,ys,h,q=>by rw[ag]at h;obtain⟨x,r,rfl,a,b⟩:=h;rw[A7,A7,ag];exact⟨x,_,rfl,a,b.append q⟩
theorem aD.one{d:D}(h:bn K H d v):aD K H [d] [v]:=by rw[ag];exact⟨v,[],rfl,h,by rw[ao]⟩
theorem aD.take:∀{ds:List D} {xs:List V} (n:Nat),aD K H ds xs->aD K H (ds.take n) (xs.take n)
 |ds,xs,0,h=>by simp[ao]
 |[],xs,n+1,h=>by rw[ao]at h;subst h;simp[ao]
 |d::ds,xs,n+1,h=>by rw[ag]at h;obtain⟨x,r,rfl,a,b⟩:=h;rw[take_succ_cons,take_succ_cons,ag];exact⟨x,_,rfl,a,b.take n⟩
theorem aD.set{d:D}{x:V}(hd:bn K H d x):∀{ds:List D} {xs:List V} (n:Nat),aD K H ds xs->aD K H (ds.set n d) (xs.set n x)
 |[],xs,n,h=>by rw[ao]at h;subst h;simp[ao]
 |d0::ds,xs,0,h=>by rw[ag]at h;obtain⟨y,r,rfl,a,b⟩:=h;rw[set_cons_zero,set_cons_zero,ag];exact⟨x,_,rfl,hd,b⟩
 |d0::ds,xs,n+1,h=>by rw[ag]at h;obtain⟨y,r,rfl,a,b⟩:=h;rw[set_cons_succ,set_cons_succ,ag];exact⟨y,_,rfl,a,b.set hd n⟩
theorem gm:∀(ns:List Int),aD K H (ns.map D.int) (ns.map V.int)
 |[]=>by simp[ao]
 |n::ns=>by rw[G4,G4,ag];exact⟨_,_,rfl,ax.mpr rfl,gm ns⟩
theorem oJ:∀{bs:List Bool} {xs:List V},aD K H (bs.map D.bl) xs->xs=bs.map V.bl
 |[],xs,h=>by rw[map_nil,ao]at h;exact h
 |b::bs,xs,h=>by rw[G4,ag]at h;obtain⟨x,r,rfl,a,q⟩:=h;rw[ba]at a;rw[a,oJ q];rfl
def gQ:Key->D
 | .inl i=>.int i
 | .inr x=>.str x
mutual
def pC:IK->D
 | .i n=>.int n
 | .t ks=>.tup (pO ks)
def pO:List IK->List D
 |[]=>[]
 |k::ks=>pC k::pO ks
end
mutual
theorem lC{K:L6}{H:Hp}:∀(k:IK) {v:V},bn K H (pC k) v->gf K H k v
 | .i n,v,h=>by unfold pC at h;unfold gf;exact .inl (ax.mp h)
 | .t ks,v,h=>by unfold pC at h;obtain⟨p,xs,rfl,hq,hx⟩:=aZ.mp h;unfold gf;exact⟨p,xs,rfl,hq,vk ks hx⟩
theorem vk{K:L6}{H:Hp}:∀(ks:List IK) {xs:List V},aD K H (pO ks) xs->ij K H ks xs
 |[],xs,h=>by unfold pO at h;unfold ij;exact ao.mp h
 |k::ks,xs,h=>by unfold pO at h;obtain⟨x,r,rfl,h1,h2⟩:=ag.mp h;unfold ij;exact⟨x,r,rfl,lC k h1,vk ks h2⟩
end
mutual
theorem sN:∀{a b:IK},pC a=pC b->a=b
 | .i n,.i m,h=>by unfold pC at h;cases h;rfl
 | .i n,.t ks,h=>by unfold pC at h;cases h
 | .t ks,.i n,h=>by unfold pC at h;cases h
 | .t ks,.t ls,h=>by unfold pC at h;rw[uY (D.tup.inj h)]
theorem uY:∀{as bs:List IK},pO as=pO bs->as=bs
 |[],[],_=>rfl
 |[],b::bs,h=>by unfold pO at h;cases h
 |a::as,[],h=>by unfold pO at h;cases h
 |a::as,b::bs,h=>by
  unfold pO at h;injection h with h1 h2
  rw[sN h1,uY h2]
end
theorem uP{a b:Key}(h:gQ a=gQ b):a=b:=by
 cases a with
 |inl i=>cases b with
  |inl j=>have e:D.int i=D.int j:=h;cases e;rfl
  |inr y=>have e:D.int i=D.str y:=h;cases e
 |inr x=>cases b with
  |inl j=>have e:D.str x=D.int j:=h;cases e
  |inr y=>have e:D.str x=D.str y:=h;cases e;rfl
theorem kg{k:Key}(h:bn K H (gQ k) v):v=kV k:=by
 cases k with
 |inl i=>exact ax.mp h
 |inr x=>exact bj.mp h
inductive XM where
 |lam (L:ql) (cl:List (Str×ww))|V' (d:D)|pe (q:Str)
  |Wa (kvs:List (List Bool×D))
inductive MO where
 |lst (ds:List D)
 |jC (x:XM)
  |di (t:Bool) (kvs:List (D×D))
abbrev Gb(K:L6)(H:Hp):List (D×D)->List (Key×V)->Prop:=Paired λ p q=>p.1=gQ q.1/\bn K H p.2 q.2
abbrev BJ(K:L6)(H:Hp):List (D×D)->List fH->Prop:=Paired λ p q=>p.1=pC q.1/\q.1.dep<=5/\bn K H p.1 (.ref q.2.1)/\bn K H p.2 q.2.2
def Z0(bs:List Bool):IK:=.t (bs.map λ b=>.i (b2i b))
def ZZ(bs:List Bool):D:=.tup (bs.map D.bl)
abbrev TZ(K:L6)(H:Hp):List (List Bool×D)->List fH->Prop:=Paired λ p q=>q.1=Z0 p.1/\bn K H (ZZ p.1) (.ref q.2.1)/\bn K H p.2 q.2.2
theorem TZ.mono(t:ar H H'){kvs:List (List Bool×D)}{xs:List fH}(h:TZ K H kvs xs):TZ K H' kvs xs:=Paired.wQ h λ p q z=>⟨z.1,bn.mono t _ z.2.1,bn.mono t _ z.2.2⟩
theorem Gb.mono(t:ar H H'){kvs:List (D×D)}{xs:List (Key×V)}(h:Gb K H kvs xs):Gb K H' kvs xs:=Paired.wQ h λ p q z=>⟨z.1,bn.mono t _ z.2⟩
theorem BJ.mono(t:ar H H'){kvs:List (D×D)}{xs:List fH}(h:BJ K H kvs xs):BJ K H' kvs xs:=Paired.wQ h λ p q z=>⟨z.1,z.2.1,bn.mono t _ z.2.2.1,bn.mono t _ z.2.2.2⟩
abbrev Mem:=ww->Option MO
def ai(M:Mem)(a:ww)(o:MO):Mem:=λ b=>if b=a then some o else M b
theorem af{M:Mem}{o:MO}:ai M a o a=some o:=by unfold ai;rw[K9 rfl]
theorem aq{M:Mem}{b:ww}{o:MO}(h:b≠a):ai M a o b=M b:=by unfold ai;rw[L1 h]
theorem fb{M:Mem}{o u:MO}:ai (ai M a o) a u=ai M a u:=by funext b;unfold ai;split <;> rfl
def xR(K:L6)(H:Hp)(a:ww):MO->Prop
 | .lst ds=>∃xs,H a=some (.lst xs)/\aD K H ds xs
 | .di false kvs=>∃xs,H a=some (.dK xs)/\Gb K H kvs xs
 | .di true kvs=>∃xs,H a=some (rf a xs)/\BJ K H kvs xs
 | .jC (.lam L cl)=>∃c,(∃o,H a=some (.eD o (.ext (lT a L c cl))))/\∃o,H c=some (.eD o (.ext (qd c L.qual)))
 | .jC (.V' d)=>∃o v,H a=some (So o a v)/\bn K H d v
 | .jC (.pe q)=>FU H a q
 | .jC (.Wa kvs)=>∃xs,H a=some (rf a xs)/\TZ K H kvs xs
def ca(K:L6)(H:Hp)(M:Mem):Prop:=∀a o,M a=some o->xR K H a o
theorem xR.there{o:MO}(h:xR K H a o):∃u,H a=some u:=by
 cases o with
 |jC x=>
  cases x with
  |lam L cl=>obtain⟨_,⟨o,h⟩,_⟩:=h;exact⟨_,h⟩
  |V' d=>obtain⟨o,v,h,_⟩:=h;exact⟨_,h⟩
  |pe q=>obtain⟨cs,h,_⟩:=h;exact⟨_,h⟩
  |Wa kvs=>obtain⟨xs,h,_⟩:=h;exact⟨_,h⟩
 |lst ds=>obtain⟨xs,h,_⟩:=h;exact⟨_,h⟩
 |di t kvs=>
  cases t with
  |false=>obtain⟨xs,h,_⟩:=h;exact⟨_,h⟩
  |true=>obtain⟨xs,h,_⟩:=h;exact⟨_,h⟩
theorem xR.mono{o:MO}(h:xR K H a o)(t:ar H H')(e:H' a=H a):xR K H' a o:=by
 cases o with
 |jC x=>
  cases x with
  |lam L cl=>obtain⟨c,⟨o,h⟩,o',h'⟩:=h;exact⟨c,⟨o,e.trans h⟩,o',t.eD _ _ _ h'⟩
  |V' d=>obtain⟨o,v,h,q⟩:=h;exact⟨o,v,e.trans h,bn.mono t d q⟩
  |pe q=>exact FU.grow h t.eD e
  |Wa kvs=>obtain⟨xs,h,q⟩:=h;exact⟨xs,e.trans h,q.mono t⟩
 |lst ds=>obtain⟨xs,h,q⟩:=h;exact⟨xs,e.trans h,aD.mono t ds q⟩
 |di b kvs=>
  cases b with
  |false=>obtain⟨xs,h,q⟩:=h;exact⟨xs,e.trans h,q.mono t⟩
  |true=>obtain⟨xs,h,q⟩:=h;exact⟨xs,e.trans h,q.mono t⟩
theorem ca.free{M:Mem}(h:ca K H M)(n:H p=none):M p=none:=by
 cases e:M p with
 |none=>rfl
 |some o=>obtain⟨u,q⟩:=(h p o e).there;rw[n]at q;cases q
theorem ca.laid{M:Mem}(h:ca K H M){o:HO}(n:H p=none):ca K (ci H p o) M:=λ a u e=>by obtain⟨w,q⟩:=(h a u e).there;exact(h a u e).mono (ar.laid n) (aN (bN q n))
theorem ca.put{M:Mem}(h:ca K H M){o:HO}{u:MO}(t:ar H (ci H p o))(new:xR K (ci H p o) p u):ca K (ci H p o) (ai M p u):=λ a w e=>by
 by_cases ha:a=p
 ·subst ha;rw[af]at e;cases e;exact new
 ·rw[aq ha]at e;exact(h a w e).mono t (aN ha)
def oV(M M':Mem):Prop:=∀a o,M a=some o->M' a=some o
theorem oV.refl(M:Mem):oV M M:=λ _ _ h=>h
theorem oV.put{M M':Mem}{o:MO}(h:oV M M')(n:M p=none):oV M (ai M' p o):=λ a u e=>by rw[aq (λ z=>by subst z;rw[n]at e;cases e)];exact h a u e
theorem ca.sub{M M':Mem}(h:ca K H M')(s:oV M M'):ca K H M:=λ a o e=>h a o (s a o e)
abbrev dF:=List (Option D)
structure du(K:L6)(H:Hp)(δ:dF)(σ:St):Prop where
 len:δ.length=σ.length
 get:∀(i:Nat) (d:D),δ[i]?=some (some d)->∃v,σ[i]?=some (some v)/\bn K H d v
theorem du.mono{δ:dF}(h:du K H δ σ)(t:ar H H'):du K H' δ σ:=
 ⟨h.len,λ i d e=>let⟨v,q,r⟩:=h.get i d e;⟨v,q,bn.mono t d r⟩⟩
theorem du.set{δ:dF}(h:du K H δ σ){d:D}(r:bn K H d v):du K H (δ.set i (some d)) (σ.set i (some v)):=by
 refine⟨by rw[length_set,length_set];exact h.len,λ j e hj=>?_⟩;by_cases vR:i=j
 ·subst vR;have hi:i < δ.length:=by have:=(i3.mp hj).1;simpa using this
  rw[j5 hi]at hj;cases hj;exact⟨v,by rw[j5 (by rw[<- h.len];exact hi)],r⟩
 ·rw[l5 vR]at hj;obtain⟨u,q,w⟩:=h.get j e hj;exact⟨u,by rw[l5 vR];exact q,w⟩
abbrev bR:=D->Mem->Prop
abbrev cS:=dF->Mem->bR->Prop
abbrev fW:=dF->Mem->(Bool->Mem->Prop)->Prop
abbrev e_:=dF->Mem->(List D->Mem->Prop)->Prop
structure kr where
 nx:dF->Mem->Prop
 rt:bR
 bk:dF->Mem->Prop:=λ _ _=>False
 ct:dF->Mem->Prop:=λ _ _=>False
abbrev kC:=kr->dF->Mem->Prop
def jA(K:L6)(H:Hp)(Q2:bR)(Q:VK):Prop:=∀v H' d M',bn K H' d v->ca K H' M'->ar H H'->Q2 d M'->Q v H'
def vM(K:L6)(H:Hp)(Q2:Bool->Mem->Prop)(Q:Bool->Hp->Prop):Prop:=∀b H' M',ca K H' M'->ar H H'->Q2 b M'->Q b H'
def SK(K:L6)(H:Hp)(Q2:List D->Mem->Prop)(Q:List V->Hp->Prop):Prop:=∀vs H' ds M',aD K H' ds vs->ca K H' M'->ar H H'->Q2 ds M'->Q vs H'
def lQ(K:L6)(H:Hp)(N2:dF->Mem->Prop)(N:St->Hp->Prop):Prop:=∀σ' H' δ' M',du K H' δ' σ'->ca K H' M'->ar H H'->N2 δ' M'->N σ' H'
structure zZ(K:L6)(H:Hp)(D2:kr)(E:Ends):Prop where
 nx:lQ K H D2.nx E.nx
 rt:jA K H D2.rt E.rt
 bk:lQ K H D2.bk E.bk
 ct:lQ K H D2.ct E.ct
theorem jA.mono{Q2:bR}{Q:VK}(c:jA K H Q2 Q)(t:ar H H1):jA K H1 Q2 Q:=λ v H' d M' a b e q=>c v H' d M' a b (t.trans e) q
theorem vM.mono{Q2:Bool->Mem->Prop}{Q:Bool->Hp->Prop}(c:vM K H Q2 Q)(t:ar H H1):vM K H1 Q2 Q:=λ v H' M' b e q=>c v H' M' b (t.trans e) q
theorem lQ.mono{N2:dF->Mem->Prop}{N:St->Hp->Prop}(c:lQ K H N2 N)(t:ar H H1):lQ K H1 N2 N:=λ v H' d M' a b e q=>c v H' d M' a b (t.trans e) q
theorem zZ.mono{D2:kr}{E:Ends}(c:zZ K H D2 E)(t:ar H H1):zZ K H1 D2 E:=⟨c.nx.mono t,c.rt.mono t,c.bk.mono t,c.ct.mono t⟩
def up(K:L6)(t:cS):TE:=λ σ H Q=>∃δ M Q2,du K H δ σ/\ca K H M/\t δ M Q2/\jA K H Q2 Q
def Gf(K:L6)(t:fW):TT:=λ σ H Q=>∃δ M Q2,du K H δ σ/\ca K H M/\t δ M Q2/\vM K H Q2 Q
def Ws(K:L6)(t:e_):TA:=λ σ H Q=>∃δ M Q2,du K H δ σ/\ca K H M/\t δ M Q2/\SK K H Q2 Q
def T4(K:L6)(t:kC):TS:=λ E σ H=>∃δ M D2,du K H δ σ/\ca K H M/\t D2 δ M/\zZ K H D2 E
abbrev QE(X:Cx)(e:Expr)(t:cS):Prop:=PE X e (up X.K t)
abbrev QT(X:Cx)(e:Expr)(t:fW):Prop:=PT X e (Gf X.K t)
abbrev QW(X:Cx)(e:Expr)(t:fW):Prop:=PW X e (Gf X.K t)
abbrev QA(X:Cx)(es:List Expr)(t:e_):Prop:=PA X es (Ws X.K t)
abbrev QS(X:Cx)(st:Stmt)(t:kC):Prop:=PS X st (T4 X.K t)
abbrev Gz(X:Cx)(aW:List Stmt)(t:kC):Prop:=vL X aW (T4 X.K t)
theorem bZ{t t':TE}(h:PE X e t)(k:∀σ H Q,t' σ H Q->t σ H Q):PE X e t':=λ xz s σ H Q I q=>h xz s σ H Q I (k σ H Q q)
theorem DC{t t':TT}(h:PT X e t)(k:∀σ H Q,t' σ H Q->t σ H Q):PT X e t':=λ xz s σ H Q I q=>h xz s σ H Q I (k σ H Q q)
theorem Kx{t t':TT}(h:PW X e t)(k:∀σ H Q,t' σ H Q->t σ H Q):PW X e t':=λ wh xz s σ H Q I q=>h wh xz s σ H Q I (k σ H Q q)
theorem KA{t t':TA}(h:PA X es t)(k:∀σ H Q,t' σ H Q->t σ H Q):PA X es t':=λ pos xz s σ H Q I q=>h pos xz s σ H Q I (k σ H Q q)
theorem lI{t t':TS}(h:PS X st t)(k:∀E σ H,t' E σ H->t E σ H):PS X st t':=λ xz s σ H E I q=>h xz s σ H E I (k E σ H q)
theorem DE{aW:List Stmt}{t t':TS}(h:vL X aW t)(k:∀E σ H,t' E σ H->t E σ H):vL X aW t':=λ xz s σ H E I q=>h xz s σ H E I (k E σ H q)
end L3
variable {ds:List L3.D}{M M1:L3.Mem}{d:L3.D}{r2:List L3.D->L3.Mem->L3.bR->Prop}{Qe:List L3.D->L3.Mem->Prop}{δ:L3.dF}{te to:L3.cS}{N:L3.dF->L3.Mem->Prop}{tt tc:L3.fW}{QB:Bool->L3.Mem->Prop}
namespace L3
open PySem.Spec L2
abbrev gJ:=D->D->Mem->bR->Prop
def Pd(K:L6)(r:R2)(r2:gJ):Prop:=∀x y d e H M Q2 Q,bn K H d x->bn K H e y->ca K H M->r2 d e M Q2->jA K H Q2 Q->r x y H Q
def Wf(K:L6)(r:V->Hp->VK->Prop)(r2:D->Mem->bR->Prop):Prop:=∀x d H M Q2 Q,bn K H d x->ca K H M->r2 d M Q2->jA K H Q2 Q->r x H Q
def Pe(K:L6)(r:List V->Hp->VK->Prop)(r2:List D->Mem->bR->Prop):Prop:=∀xs ds H M Q2 Q,aD K H ds xs->ca K H M->r2 ds M Q2->jA K H Q2 Q->r xs H Q
def Wg(K:L6)(r:V->List V->Hp->VK->Prop)(r2:D->List D->Mem->bR->Prop):Prop:=∀x xs d ds H M Q2 Q,bn K H d x->aD K H ds xs->ca K H M->r2 d ds M Q2->jA K H Q2 Q->r x xs H Q
def gr(X:Cx)(f:jp->jp->Sem jp)(r2:gJ):Prop:=∃r,gp X f r/\Pd X.K r r2
def Wd(X:Cx)(f:jp->Sem jp)(r2:D->Mem->bR->Prop):Prop:=∃r,TM X f r/\Wf X.K r r2
def SG(X:Cx)(r2:gJ):Prop:=∃r,xS X r/\Pd X.K r r2
def dB(X:Cx)(f:jp)(r2:List D->Mem->bR->Prop):Prop:=∃r,c_ X f r/\Pe X.K r r2
def Ls(X:Cx)(id:String)(r2:D->List D->Mem->bR->Prop):Prop:=∃r,TR X id r/\Wg X.K r r2
section
variable {a b:Expr}{ta tb tc:cS}{pos:Pos}
def jd(i:Nat):cS:=λ δ M Q=>match δ[i]? with
 |some (some d)=>Q d M
 |_=>False
def sC(d:D):cS:=λ _ M Q=>Q d M
theorem XW(i:Nat)(hN:X.N[i]?=some x:=by rfl)(hv:TL X.env.scope x:=by first|exact Or.inl rfl|exact Or.inr (Or.inl rfl)|exact Or.inr (Or.inr rfl))(hd:(x==("__debug__":Str))=false:=by decide) (hcd:(x==("__classdict__":Str))=false:=by decide):QE X (.Name x pos) (jd i):=bZ (Ni hN hv hd hcd) λ σ H Q ⟨δ,M,Q2,hs,hm,q,k⟩=>by
 unfold jd at q;cases e:δ[i]? with
 |none=>rw[e]at q;exact q.elim
 |some o=>
  cases o with
  |none=>rw[e]at q;exact q.elim
  |some d=>rw[e]at q;obtain⟨v,h1,h2⟩:=hs.get i d e;exact⟨v,h1,k v H d M h2 hm (ar.refl H) q⟩
theorem QN{i j:_}:QE X (.Constant (.int i) j pos) (sC (.int i)):=bZ Nq λ σ H Q ⟨δ,M,Q2,hs,hm,q,k⟩=>k _ H (.int i) M (ax.mpr rfl) hm (ar.refl H) q
theorem UE{i j:_}:QE X (.Constant (.bool i) j pos) (sC (.bl i)):=bZ Q3 λ σ H Q ⟨δ,M,Q2,hs,hm,q,k⟩=>k _ H (.bl i) M (ba.mpr rfl) hm (ar.refl H) q
theorem QH{i j:_}:QE X (.Constant (.str i) j pos) (sC (.str i)):=bZ Nk λ σ H Q ⟨δ,M,Q2,hs,hm,q,k⟩=>k _ H (.str i) M (bj.mpr rfl) hm (ar.refl H) q
theorem QK{j:_}:QE X (.Constant .none j pos) (sC .bw):=bZ Nm λ σ H Q ⟨δ,M,Q2,hs,hm,q,k⟩=>k _ H .bw M (dN.mpr rfl) hm (ar.refl H) q
theorem UA{n:String}(hg:Gl X x)(hm:X.mg x=none)(hv:bootBuiltins x=some (.type n))(hn:x≠"__name__":=by decide)(hd:(x==("__debug__":Str))=false:=by decide):QE X (.Name x pos) (sC (.ty n)):=
 bZ (Iy (v:=.ty n) hg hm hv rfl hn hd) λ σ H Q ⟨δ,M,Q2,hs,hm,q,k⟩=>k _ H (.ty n) M (xA.mpr rfl) hm (ar.refl H) q
def CO(r2:gJ)(ta tb:cS):cS:=λ δ M Q=>ta δ M λ d M1=>tb δ M1 λ e M2=>r2 d e M2 Q
theorem mC{r:R2}{r2:gJ}(hr:Pd K r r2):∀σ H Q,up K (CO r2 ta tb) σ H Q->Qc r (up K ta) (up K tb) σ H Q:=by rintro σ H Q ⟨δ,M,Q2,hs,hm,q,k⟩;refine⟨δ,M,_,hs,hm,q,λ x H1 d M1 hd cv t1 q1=>?_⟩;refine⟨δ,M1,_,hs.mono t1,cv,q1,λ y H2 e M2 he lq t2 q2=>?_⟩;exact hr x y d e H2 M2 Q2 Q (bn.mono t2 d hd) he lq q2 (k.mono (t1.trans t2))
theorem UB{op:Operator}{r2:gJ}(o:gr X (binaryOp op) r2)(ha:QE X a ta)(hb:QE X b tb):QE X (.BinOp a op b pos) (CO r2 ta tb):=by obtain⟨r,ho,hr⟩:=o;exact bZ (Q0 ho ha hb) (mC hr)
def Uo(r2:D->Mem->bR->Prop)(ta:cS):cS:=λ δ M Q=>ta δ M λ d M1=>r2 d M1 Q
theorem Uz{op:UnaryOp}{r2:D->Mem->bR->Prop}(o:Wd X (unaryOp op) r2)(ha:QE X a ta):QE X (.UnaryOp op a pos) (Uo r2 ta):=by obtain⟨r,ho,hr⟩:=o;refine bZ (QZ ho ha) ?_;rintro σ H Q ⟨δ,M,Q2,hs,hm,q,k⟩;exact⟨δ,M,_,hs,hm,q,λ x H1 d M1 hd cv t1 q1=>hr x d H1 M1 Q2 Q hd cv q1 (k.mono t1)⟩
theorem QP{op:CmpOp}{r2:gJ}(o:gr X (compareOp op) r2)(ha:QE X a ta)(hb:QE X b tb)(hm:behindInMarks op b=false):QE X (.Compare a [op] [b] pos) (CO r2 ta tb):=by obtain⟨r,ho,hr⟩:=o;exact bZ (Iv ho ha hb hm) (mC hr)
def qK(t:cS):fW:=λ δ M Q=>t δ M λ d M1=>match d with
 | .bl k=>Q k M1
 |_=>False
theorem qB{Q2:Bool->Mem->Prop}{Q:Bool->Hp->Prop}(k:vM K H Q2 Q):jA K H (λ d M1=>match d with| .bl k=>Q2 k M1|_=>False) (λ x H'=>∃k,x=.bl k/\Q k H'):=λ v H' d M' hd hm t q=>by
 cases d with
 |bl b=>exact⟨b,ba.mp hd,k b H' M' hm t q⟩
 |_=>exact q.elim
theorem MD{op:CmpOp}{r2:gJ}(o:gr X (compareOp op) r2)(ha:QE X a ta)(hb:QE X b tb)(hm:behindInMarks op b=false):QT X (.Compare a [op] [b] pos) (qK (CO r2 ta tb)):=by obtain⟨r,ho,hr⟩:=o;refine DC (Ic ho ha hb hm) ?_;rintro σ H Q ⟨δ,M,Q2,hs,hm,q,k⟩;exact mC hr σ H _ ⟨δ,M,_,hs,hm,q,qB k⟩
theorem MB(h:QE X e ta)(he:∀whole,isTrue e X.env whole=(do let v <- whole;standAt e.pos;holding [v] (truthy v)):=by intro _;rfl):QT X e (qK ta):=by refine DC (MY h he) ?_;rintro σ H Q ⟨δ,M,Q2,hs,hm,q,k⟩;exact⟨δ,M,_,hs,hm,q,qB k⟩
variable {tA tB:fW}
def L8(t u:fW):fW:=λ δ M Q=>t δ M λ c M1=>if c=true then u δ M1 Q else Q false M1
def Uq(t u:fW):fW:=λ δ M Q=>t δ M λ c M1=>if c=true then Q true M1 else u δ M1 Q
def LW(t:fW):fW:=λ δ M Q=>t δ M λ c M1=>Q (!c) M1
theorem HJ(ha:QT X a tA):QW X (.BoolOp .And [a] pos) tA:=H_ ha
theorem My(ha:QT X a tA):QW X (.BoolOp .Or [a] pos) tA:=MV ha
theorem Mz(ha:QT X a tA)(hb:QW X (.BoolOp .And (b::rest) pos) tB):QW X (.BoolOp .And (a::b::rest) pos) (L8 tA tB):=Kx (MX ha hb) λ σ H Q ⟨δ,M,Q2,hs,hm,q,k⟩=>by
 refine⟨δ,M,_,hs,hm,q,λ c H1 M1 cv t1 q1=>?_⟩;cases c with
 |true=>rw[K9 rfl]at q1 ⊢;exact⟨δ,M1,Q2,hs.mono t1,cv,q1,k.mono t1⟩
 |false=>rw[L1 n9]at q1 ⊢;exact k _ _ _ cv t1 q1
theorem QC(ha:QT X a tA)(hb:QW X (.BoolOp .Or (b::rest) pos) tB):QW X (.BoolOp .Or (a::b::rest) pos) (Uq tA tB):=Kx (QU ha hb) λ σ H Q ⟨δ,M,Q2,hs,hm,q,k⟩=>by
 refine⟨δ,M,_,hs,hm,q,λ c H1 M1 cv t1 q1=>?_⟩;cases c with
 |true=>rw[K9 rfl]at q1 ⊢;exact k _ _ _ cv t1 q1
 |false=>rw[L1 n9]at q1 ⊢;exact⟨δ,M1,Q2,hs.mono t1,cv,q1,k.mono t1⟩
theorem MC(ha:QT X a tA):QT X (.UnaryOp .Not a pos) (LW tA):=DC (MZ ha) λ σ H Q ⟨δ,M,Q2,hs,hm,q,k⟩=>⟨δ,M,_,hs,hm,q,λ c H1 M1 cv t1 q1=>k _ _ _ cv t1 q1⟩
def CS(ta tb:cS):cS:=λ δ M Q=>ta δ M λ d M1=>match d with
 | .bl c=>if c=true then tb δ M1 Q else Q (.bl false) M1
 |_=>False
theorem QJ{op:_}(h:QE X a ta):QE X (.BoolOp op [a] pos) ta:=Nl h
theorem QR(ha:QE X a ta)(hb:QE X (.BoolOp .And (b::rest) pos) tb):QE X (.BoolOp .And (a::b::rest) pos) (CS ta tb):=bZ (Nu ha hb) λ σ H Q ⟨δ,M,Q2,hs,hm,q,k⟩=>by
 refine⟨δ,M,_,hs,hm,q,λ x H1 d M1 hd cv t1 q1=>?_⟩;cases d with
 |bl c=>
  refine⟨c,ba.mp hd,?_⟩;have q1:if c=true then tb δ M1 Q2 else Q2 (.bl false) M1:=q1
  cases c with
  |true=>rw[K9 rfl]at q1 ⊢;exact⟨δ,M1,Q2,hs.mono t1,cv,q1,k.mono t1⟩
  |false=>rw[L1 n9]at q1 ⊢;exact k _ _ _ _ (ba.mpr rfl) cv t1 q1
 |_=>exact q1.elim
variable {t:e_}
def AA:e_:=λ _ M Q=>Q [] M
def qL(ta:cS)(tr:e_):e_:=λ δ M Q=>ta δ M λ d M1=>tr δ M1 λ ds M2=>Q (d::ds) M2
theorem ML:QA X [] AA:=KA nV λ σ H Q ⟨δ,M,Q2,hs,hm,q,k⟩=>k [] H [] M (by rw[ao]) hm (ar.refl H) q
theorem HV(ha:QE X e ta)(hr:QA X es t)(hs:starEach (e::es) X.env=(false,eval e X.env)::starEach es X.env:=by rfl):QA X (e::es) (qL ta t):=KA (jS ha hr hs) λ σ H Q ⟨δ,M,Q2,hs,hm,q,k⟩=>by refine⟨δ,M,_,hs,hm,q,λ x H1 d M1 hd cv t1 q1=>?_⟩;refine⟨δ,M1,_,hs.mono t1,cv,q1,λ xs H2 ds M2 RQ lq t2 q2=>?_⟩;exact k (x::xs) H2 (d::ds) M2 (ag.mpr ⟨x,xs,rfl,bn.mono t2 d hd,RQ⟩) lq (t1.trans t2) q2
def LU(t:e_):cS:=λ δ M Q=>t δ M λ ds M1=>ds.length<=sizeLine/\Q (.tup ds) M1
theorem jG(hp:H p=none)(h:aD K H ds xs):bn K (ci H p (.tup xs)) (.tup ds) (.ref p):=aZ.mpr ⟨p,xs,rfl,gn.of aR,aD.mono (ar.laid hp) ds h⟩
theorem QF{x1:_}(h:QA X es t):QE X (.Tuple es x1 pos) (LU t):=bZ (Nj h) λ σ H Q ⟨δ,M,Q2,hs,hm,q,k⟩=>by refine⟨δ,M,_,hs,hm,q,λ xs H1 ds M1 hd cv t1 q1=>?_⟩;refine⟨by rw[hd.length];exact q1.1,λ p hp=>?_⟩;exact k _ _ (.tup ds) M1 (jG hp hd) (cv.laid hp) (t1.trans (ar.laid hp)) q1.2
def LX(t:e_):cS:=λ δ M Q=>t δ M λ ds M1=>ds.length<=sizeLine/\∀p,M1 p=none->Q (.ref p) (ai M1 p (.lst ds))
theorem dM(hp:H p=none)(h:aD K H ds xs)(hm:ca K H M):ca K (ci H p (.lst xs)) (ai M p (.lst ds)):=
 hm.put (ar.laid hp) ⟨xs,aR,aD.mono (ar.laid hp) ds h⟩
theorem QM(h:QA X es t):QE X (.List es pos) (LX t):=bZ (Nn h) λ σ H Q ⟨δ,M,Q2,hs,hm,q,k⟩=>by refine⟨δ,M,_,hs,hm,q,λ xs H1 ds M1 hd cv t1 q1=>?_⟩;refine⟨by rw[hd.length];exact q1.1,λ p hp=>?_⟩;exact k _ _ (.ref p) _ (aE.mpr rfl) (dM hp hd cv) (t1.trans (ar.laid hp)) (q1.2 p (cv.free hp))
theorem UC{r2:gJ}(o:SG X r2)(ha:QE X a ta)(hb:QE X b tb)(hs:tH b):QE X (.Subscript a b pos) (CO r2 ta tb):=by obtain⟨r,ho,hr⟩:=o;exact bZ (Q1 ho ha hb hs) (mC hr)
variable {lo hi:Option Expr}{tl th:TO2}
def Pt(r2:List D->Mem->bR->Prop)(t:e_):cS:=λ δ M Q=>t δ M λ ds M1=>r2 ds M1 Q
variable {p:Pos}{id:String}
theorem zQ{r:List V->Hp->VK->Prop}(hr:Pe K r r2):∀σ H Q,up K (Pt r2 t) σ H Q->SW r (Ws K t) σ H Q:=by rintro σ H Q ⟨δ,M,Q2,hs,hm,q,k⟩;exact⟨δ,M,_,hs,hm,q,λ xs H1 ds M1 hd cv t1 q1=>hr xs ds H1 M1 Q2 Q hd cv q1 (k.mono t1)⟩
theorem HZ(o:dB X (.builtin id) r2)(hg:Gl X x)(hm:X.mg x=none)(hv:bootBuiltins x=some (.builtin id))(ha:QA X (e::es) t)(hn:x≠"__name__":=by decide)(hdb:(x==("__debug__":Str))=false:=by decide) (he:starEach (e::es) X.env=(false,eval e X.env)::starEach es X.env:=by rfl) (hpl:(backTo pos (starEach es X.env)).any (·.1)=false:=by rfl):QE X (.Call (.Name x p) (e::es) [] pos) (Pt r2 t):=by obtain⟨r,ho,hr⟩:=o;exact bZ (uD ho hg hm hv ha hn hdb he hpl) (zQ hr)
theorem HY(o:dB X (.type T) r2)(hg:Gl X x)(hm:X.mg x=none)(hv:bootBuiltins x=some (.type T))(ha:QA X (e::es) t)(hn:x≠"__name__":=by decide)(hdb:(x==("__debug__":Str))=false:=by decide) (he:starEach (e::es) X.env=(false,eval e X.env)::starEach es X.env:=by rfl) (hpl:(backTo pos (starEach es X.env)).any (·.1)=false:=by rfl):QE X (.Call (.Name x p) (e::es) [] pos) (Pt r2 t):=by obtain⟨r,ho,hr⟩:=o;exact bZ (f' ho hg hm hv ha hn hdb he hpl) (zQ hr)
end
open PySem.Spec L2
def Po(T:String)(d:D)(M:Mem):Prop:=match d with
 | .str _=>T="str"
 | .ref a=>T="list"/\∃ds,M a=some (.lst ds)
 |_=>False
theorem Po.v9{x:V}(h:Po T d M)(r:bn K H d x)(hm:ca K H M):SS K T x H:=by
 cases d with
 |str z=>cases(bj.mp r);exact h
 |ref a=>cases(aE.mp r);obtain⟨e,ds,q⟩:=h;obtain⟨xs,hx,_⟩:=hm a _ q;exact .inl ⟨e,xs,fE.of hx⟩
 |_=>exact h.elim
section
variable {o:Expr}{t:e_}{id:String}
def Pu(T:String)(r2:D->List D->Mem->bR->Prop)(to:cS)(t:e_):cS:=λ δ M Q=>to δ M λ d M1=>Po T d M1/\t δ M1 λ ds M2=>r2 d ds M2 Q
def L7(T:String)(r2:D->List D->Mem->bR->Prop)(to:cS):cS:=λ δ M Q=>to δ M λ d M1=>Po T d M1/\r2 d [] M1 Q
theorem QQ{r2:D->List D->Mem->bR->Prop}(pa:PlainAttrs T)(slot:Slot T name id)(hty:typeOf (.builtin id)=pure (.type "method_descriptor"))(hm:Ls X id r2)(ho:QE X o to) (hbase:attributeBase o name X.env (eval o X.env)=eval o X.env:=by rfl) (hline:(apos.endLine==cp.line)=true:=by rfl):QE X (.Call (.Attribute o name apos) [] [] cp) (L7 T r2 to):=by obtain⟨r,h1,hr⟩:=hm;refine bZ (Nt pa slot hty h1 ho hbase hline) ?_;rintro σ H Q ⟨δ,M,Q2,hs,hm,q,k⟩;exact⟨δ,M,_,hs,hm,q,λ x H1 d M1 hd cv t1 q1=>⟨q1.1.v9 hd cv,hr x [] d [] H1 M1 Q2 Q hd (by rw[ao]) cv q1.2 (k.mono t1)⟩⟩
theorem UD{r2:D->List D->Mem->bR->Prop}(pa:PlainAttrs T)(slot:Slot T name id)(hty:typeOf (.builtin id)=pure (.type "method_descriptor"))(hm:Ls X id r2)(ho:QE X o to)(ha:QA X (e::es) t) (hbase:attributeBase o name X.env (eval o X.env)=eval o X.env:=by rfl) (hfew:((backTo cp (starEach (e::es) X.env)).all (λ x=>!x.1)&&(backToKw cp (keywordEach [] X.env)).all (λ x=>x.1.isSome)
   &&decide ((e::es).length+([]:List Keyword).length+(if([]:List Keyword).isEmpty then 0 else 1) < 30))=true:=by rfl)
  (hline:(apos.endLine==cp.line)=true:=by rfl) (hs:starEach (e::es) X.env=(false,eval e X.env)::starEach es X.env:=by rfl) (hplain:(backTo cp (starEach es X.env)).any (·.1)=false:=by rfl):
  QE X (.Call (.Attribute o name apos) (e::es) [] cp) (Pu T r2 to t):=by
 obtain⟨r,h1,hr⟩:=hm;refine bZ (Kz pa slot hty h1 ho ha hbase hfew hline hs hplain) ?_;rintro σ H Q ⟨δ,M,Q2,hs,hm,q,k⟩;refine⟨δ,M,_,hs,hm,q,λ x H1 d M1 hd cv t1 q1=>⟨q1.1.v9 hd cv,δ,M1,_,hs.mono t1,cv,q1.2,λ xs H2 ds M2 RQ lq t2 q2=>?_⟩⟩;exact hr x xs d ds H2 M2 Q2 Q (bn.mono t2 d hd) RQ lq q2 (k.mono (t1.trans t2))
end
abbrev iY:=List D->Mem->bR->Prop
def dv(K:L6)(sp:iY):Sp:=λ vs H Q _=>∃ds M Q2,aD K H ds vs/\ca K H M/\sp ds M Q2/\jA K H Q2 Q
def sD(sp:iY)(t:e_):cS:=λ δ M Q=>t δ M λ ds M1=>sp ds M1 Q
abbrev cL(P:Program)(w:World)(K:L6)(mg:Str->Option jp)(base:Heap)(k:Nat)(x:Str)(ps:List Str)(sp:iY):Prop:=bX P w K mg base k x ps (dv K sp)
section
variable {p pos:Pos}{t:e_}{sp:iY}
theorem QO(d:cL X.prog X.w X.K X.mg X.base k x ps sp)(hr:de k X.A)(hg:Gl X x)(ha:QA X (e::es) t)(hdb:(x==("__debug__":Str))=false:=by decide)(he:starEach (e::es) X.env=(false,eval e X.env)::starEach es X.env:=by rfl) (hpl:(backTo pos (starEach es X.env)).any (·.1)=false:=by rfl):QE X (.Call (.Name x p) (e::es) [] pos) (sD sp t):=by refine bZ (Nr d hr hg ha hdb he hpl) ?_;rintro σ H Q ⟨δ,M,Q2,hs,hm,q,k⟩;exact⟨δ,M,_,hs,hm,q,λ xs H1 ds M1 hd cv t1 q1=>⟨ds,M1,Q2,hd,cv,q1,k.mono t1⟩⟩
end
def gW(N:List Str)(ds:List D):dF:=ds.map some++List.replicate (N.length - ds.length) none
theorem qH{N:List Str}{vs:List V}(h:aD K H ds vs):du K H (gW N ds) (L2.start N vs):=by
 have hl:=h.length;refine⟨by unfold gW L2.start;simp[hl],λ i d e=>?_⟩;unfold gW at e;by_cases hi:i < ds.length
 ·rw[c8 (by simpa using hi),u7]at e;cases q:ds[i]? with
  |none=>rw[q]at e;cases e
  |some d'=>
   rw[q]at e;have e:d'=d:=by simpa using e
   subst e;obtain⟨v,hv,r⟩:=h.get q;refine⟨v,?_,r⟩;unfold L2.start;rw[c8 (by simp;lia),u7,hv];rfl
 ·rw[a9 (by simpa using hi),i9]at e;split at e <;> cases e
def fin2(Q:bR):bR:=λ d M'=>∃kG,oV kG M'/\Q d kG
theorem av{Q:bR}(q:Q d M):fin2 Q d M:=⟨M,oV.refl M,q⟩
theorem X3{x qual:Str}{st:Stmt}{f:ww}{fd:FuncData}{N ps:List Str}{k:Nat}{sp:iY}(F:jb K x qual st f fd)(S:aS N ps (au st))(len:∀ds M Q,sp ds M Q->ds.length=ps.length) (eJ:∀(dQ:jp) (A:Around) (outer:List Env) (s:kt) (H:Hp) (E:XK) (ds:List D) (M:Mem) (Q:bR),de k (A.deeper (PyProof.Rows.envOfC qual (au st) s.heap.objs.size f dQ))->sp ds M Q->
   ∃t,Gz (pZ fX P w K mg base N qual (au st) f dQ A outer s H E).IW (bL st) t/\t {nx:=λ _ M'=>fin2 Q .bw M',rt:=fin2 Q} (gW N ds) M):cE P w K mg base fX (k+1) f fd ps (dv K sp):=by
 refine F.ok S (λ vs H Q E h=>?_) (λ dQ A outer s H vs Q E hr h=>?_)
 ·obtain⟨ds,M,Q2,hd,_,hs,_⟩:=h;rw[hd.length];exact len ds M Q2 hs
 ·obtain⟨ds,M,Q2,hd,hm,hs,kk⟩:=h;obtain⟨t,ht,q⟩:=eJ dQ A outer s H E ds M Q2 hr hs;refine⟨_,ht,gW N ds,M,_,qH hd,hm,q,⟨?_,?_,?_,?_⟩⟩
  ·exact λ σ' H' δ' M' _ fT t' ⟨kG,s,q⟩=>kk _ H' .bw kG (dN.mpr rfl) (fT.sub s) t' q
  ·exact λ v H' d M' mH fT t' ⟨kG,s,q⟩=>kk v H' d kG mH (fT.sub s) t' q
  ·exact λ σ' H' δ' M' _ fT t' q=>q
  ·exact λ σ' H' δ' M' _ fT t' q=>q
section
variable {rest:List Stmt}{t u:kC}{pos:Pos}
def yj:kC:=λ E δ M=>E.nx δ M
def CM(t u:kC):kC:=λ E δ M=>t {E with nx:=u E} δ M
theorem HL:Gz X [] yj:=DE Ig λ E σ H ⟨δ,M,D2,hs,hm,q,k⟩=>k.nx σ H δ M hs hm (ar.refl H) q
theorem HK(h:QS X st t):Gz X [st] t:=Ie h
theorem Dx(h1:QS X st t)(h2:Gz X rest u):Gz X (st::rest) (CM t u):=DE (DD h1 h2) λ E σ H ⟨δ,M,D2,hs,hm,q,k⟩=>by refine⟨δ,M,_,hs,hm,q,⟨λ σ' H' δ' M' jD fT t' q'=>?_,k.rt,k.bk,k.ct⟩⟩;exact⟨δ',M',D2,jD,fT,q',k.mono t'⟩
def uk(te:cS):kC:=λ E δ M=>te δ M λ _ M1=>E.nx δ M1
theorem HM(he:QE X e te)(hs:swapsWith e none pos.line X.env=pure false:=by rfl):QS X (.Expr e pos) (uk te):=lI (Ih he hs) λ E σ H ⟨δ,M,D2,hs,hm,q,k⟩=>
 ⟨δ,M,_,hs,hm,q,λ x H1 d M1 hd cv t1 q1=>k.nx σ H1 δ M1 (hs.mono t1) cv t1 q1⟩
def LV(te:cS):kC:=λ E δ M=>te δ M E.rt
theorem MF(he:QE X e te):QS X (.Return (some e) pos) (LV te):=lI (Na he) λ E σ H ⟨δ,M,D2,hs,hm,q,k⟩=>⟨δ,M,_,hs,hm,q,k.rt⟩
def Hd(c:fW)(t u:kC):kC:=λ E δ M=>c δ M λ b M1=>if b=true then t E δ M1 else u E δ M1
theorem QD{a b:List Stmt}(hc:QT X c tc)(ha:Gz X a t)(hb:Gz X b u):QS X (.If c a b pos) (Hd tc t u):=lI (QV hc ha hb) λ E σ H ⟨δ,M,D2,hs,hm,q,k⟩=>by
 refine⟨δ,M,_,hs,hm,q,λ b H1 M1 cv t1 q1=>?_⟩;cases b with
 |true=>rw[K9 rfl]at q1 ⊢;exact⟨δ,M1,D2,hs.mono t1,cv,q1,k.mono t1⟩
 |false=>rw[L1 n9]at q1 ⊢;exact⟨δ,M1,D2,hs.mono t1,cv,q1,k.mono t1⟩
abbrev iW:=D->dF->Mem->(dF->Mem->Prop)->Prop
abbrev oU:=List D->dF->Mem->(dF->Mem->Prop)->Prop
def Km(K:L6)(t:iW):TG:=λ v σ H Q=>∃d δ M Q2,bn K H d v/\du K H δ σ/\ca K H M/\t d δ M Q2/\lQ K H Q2 Q
def T5(K:L6)(t:oU):zU:=λ vs σ H Q=>∃ds δ M Q2,aD K H ds vs/\du K H δ σ/\ca K H M/\t ds δ M Q2/\lQ K H Q2 Q
abbrev QG(X:Cx)(tg:Expr)(t:iW):Prop:=PG X tg (Km X.K t)
abbrev SE(X:Cx)(tg:List Expr)(t:oU):Prop:=Pg X tg (T5 X.K t)
theorem DI{g g':TG}(h:PG X tg g)(k:∀v σ H Q,g' v σ H Q->g v σ H Q):PG X tg g':=λ xz s σ H v u Q I r q=>h xz s σ H v u Q I r (k v σ H Q q)
theorem DG{tg:List Expr}{g g':zU}(h:Pg X tg g)(k:∀v σ H Q,g' v σ H Q->g v σ H Q):Pg X tg g':=λ xz s σ H v u Q I r q=>h xz s σ H v u Q I r (k v σ H Q q)
def bd(i:Nat):iW:=λ d δ M Q=>Q (δ.set i (some d)) M
theorem kX:∀v σ H Q,Km K (bd i) v σ H Q->cY i v σ H Q:=λ v σ H Q ⟨d,δ,M,Q2,hd,hs,hm,q,k⟩=>k _ H _ M (hs.set hd) hm (ar.refl H) q
theorem HU(hN:X.N.Nodup)(hi:X.N[i]?=some x)(hx:Loc X.env.scope x)(hf:X.fn x=true\/X.env.scope.names.lookup x=some .local:=by first|exact .inl rfl|exact .inr rfl|assumption):QG X (.Name x pos) (bd i):=
 DI (aF hN hi hx hf) kX
def pV:oU:=λ ds δ M Q=>match ds with
 |[]=>Q δ M
 |_=>False
def dq(t:iW)(u:oU):oU:=λ ds δ M Q=>match ds with
 |d::r=>t d δ M λ δ' M'=>u r δ' M' Q
 |_=>False
theorem HS:SE X [] pV:=DG iJ λ v σ H Q ⟨ds,δ,M,Q2,hd,hs,hm,q,k⟩=>by
 cases ds with
 |nil=>exact⟨ao.mp hd,k _ H _ M hs hm (ar.refl H) q⟩
 |cons d r=>exact q.elim
theorem Dz{t:iW}{u:oU}(h1:QG X e t)(h2:SE X es u) (hs:(assignEach (e::es) X.env).map (·.2)=assign e X.env::(assignEach es X.env).map (·.2):=by rfl):SE X (e::es) (dq t u):=DG (cN h1 h2 hs) λ v σ H Q ⟨ds,δ,M,Q2,hd,hs,hm,q,k⟩=>by
 cases ds with
 |nil=>exact q.elim
 |cons d r=>obtain⟨x,xs,rfl,hx,U9⟩:=ag.mp hd;refine⟨x,xs,rfl,d,δ,M,_,hx,hs,hm,q,λ σ' H' δ' M' jD fT t' q'=>?_⟩;exact⟨r,δ',M',Q2,aD.mono t' r U9,jD,fT,q',k.mono t'⟩
def pU(n:Nat)(t:oU):iW:=λ d δ M Q=>match d with
 | .tup ds=>ds.length=n/\t ds δ M Q
 |_=>False
theorem MJ{t:oU}(hc:X.calm=true)(h:SE X es t) (hn:(assignEach es X.env).length=n:=by rfl) (hst:(assignEach es X.env).findIdx? (·.1)=none:=by rfl):QG X (.Tuple es k pos) (pU n t):=DI (kU hc h hn hst) λ v σ H Q ⟨d,δ,M,Q2,hd,hs,hm,q,k⟩=>by
 cases d with
 |tup ds=>obtain⟨p,xs,rfl,hq,hx⟩:=aZ.mp hd;exact⟨p,xs,rfl,hq,by rw[hx.length];exact q.1,ds,δ,M,Q2,hx,hs,hm,q.2,k⟩
 |_=>exact q.elim
abbrev kj:=D->D->D->Mem->(Mem->Prop)->Prop
def SJ(K:L6)(H:Hp)(N2:Mem->Prop)(N:Hp->Prop):Prop:=∀H' M',ca K H' M'->ar H H'->N2 M'->N H'
def Pc(K:L6)(r:BH)(r2:kj):Prop:=∀o i v d j e H M Q2 Q,bn K H d o->bn K H j i->bn K H e v->ca K H M->r2 d j e M Q2->SJ K H Q2 Q->r o i v H Q
def FX(X:Cx)(r2:kj):Prop:=∃r,tI X r/\Pc X.K r r2
def hSub(to ti:cS)(t:kj):iW:=λ e δ M Q=>to δ M λ d M1=>ti δ M1 λ j M2=>t d j e M2 λ M3=>Q δ M3
theorem MK{o i:Expr}{to ti:cS}{t:kj}(ho:QE X o to)(hi:QE X i ti)(hs:FX X t) (ha:∀v,assign (.Subscript o i pos) X.env v=(do
   let ov <- holding [v] (eval o X.env)
   let iv <- holding [v,ov] (eval i X.env)
   standAt pos
   holding [v,ov,iv] (setItem ov iv v)
   release [v,ov,iv] []):=by intro _;rfl):QG X (.Subscript o i pos) (hSub to ti t):=by
 obtain⟨r,h1,hr⟩:=hs;refine DI (Nh ho hi h1 ha) ?_;rintro v σ H Q ⟨e,δ,M,Q2,hd,hs,hm,q,k⟩;refine⟨δ,M,_,hs,hm,q,λ x H1 d M1 hx cv t1 q1=>?_⟩;refine⟨δ,M1,_,hs.mono t1,cv,q1,λ y H2 j M2 hy lq t2 q2=>?_⟩;exact hr x y v d j e H2 M2 _ _ (bn.mono t2 d hx) hy (bn.mono (t1.trans t2) e hd) lq q2 λ H3 M3 OE t3 q3=>k σ H3 δ M3 (hs.mono (t1.trans (t2.trans t3))) OE (t1.trans (t2.trans t3)) q3
def uo(te:cS)(g:iW):kC:=λ E δ M=>te δ M λ d M1=>g d δ M1 E.nx
theorem vI{g:TG}{g2:iW}(hg:∀v σ H Q,Km K g2 v σ H Q->g v σ H Q):∀E σ H,T4 K (uo te g2) E σ H->GR (up K te) g E σ H:=by rintro E σ H ⟨δ,M,D2,hs,hm,q,k⟩;exact⟨δ,M,_,hs,hm,q,λ x H1 d M1 hd cv t1 q1=>hg x σ H1 _ ⟨d,δ,M1,_,hd,hs.mono t1,cv,q1,k.nx.mono t1⟩⟩
theorem MH{g:iW}(he:QE X e te)(hg:QG X tg g)(hs:swapsWithSole [tg] e pos.line X.env=pure false:=by rfl)(hw:swappedStores [tg] e X.env=pure none:=by rfl) (h1:(assignEach [tg] X.env).map (·.2)=[assign tg X.env]:=by rfl):QS X (.Assign [tg] e pos) (uo te g):=lI (Nc he hg hs hw h1) (vI λ _ _ _ _ h=>h)
theorem ME(hN:X.N.Nodup)(hi:X.N[i]?=some x)(hx:Loc X.env.scope x)(he:QE X e te)(hs:swapsWith e (some (.Name x pos')) pos.line X.env=pure false:=by rfl) (hf:X.fn x=true\/X.env.scope.names.lookup x=some .local:=by first|exact .inl rfl|exact .inr rfl|assumption):QS X (.Assign [.Name x pos'] e pos) (uo te (bd i)):=lI (M_ hN hi hx he hs hf) (vI kX)
end
end L3
variable {g:L3.iW}
namespace L3
open PySem.Spec L2
inductive Src where
 |fix (ds:List D)
 |at(a:ww)
 |fn (f:Mem->Option (List D))
def ad(s:Src)(M:Mem):Option (List D):=match s with
 | .fix ds=>some ds
 | .at a=>match M a with
  |some (.lst ds)=>some ds
  |_=>none
 | .fn f=>f M
def tJ(K:L6)(H1:Hp)(J:It)(src:Src):Prop:=∀H M ds,ar H1 H->ca K H M->ad src M=some ds->
 (∀i,i < ds.length->J.go i H)/\(∀i,i=ds.length->J.stop i H)/\(∀i x H',i < ds.length->J.GD i H x H'->ar H H'/\ca K H' M/\∃d,ds[i]?=some d/\bn K H' d x)
abbrev rD:=dF->Mem->(Src->Mem->Prop)->Prop
def SR(K:L6)(t:rD):TI:=λ σ H R=>∃δ M R2,du K H δ σ/\ca K H M/\t δ M R2/\∀J H' src M',tJ K H' J src->ca K H' M'->ar H H'->R2 src M'->R J H'
abbrev QI(X:Cx)(tg iter:Expr)(t:rD):Prop:=PI X tg iter (SR X.K t)
theorem yC{t t':TI}(h:PI X tg iter t)(k:∀σ H R,t' σ H R->t σ H R):PI X tg iter t':=λ xz s σ H R I q=>h xz s σ H R I (k σ H R q)
def kJ(z:Str):List D:=z.cps.toList.map λ c=>D.str ⟨#[c]⟩
def cG(lo:Int)(n:Nat):List D:=(List.range n).map λ i=>D.int (lo+(i:Nat))
theorem bt(lo:Int)(n:Nat):(cG lo n).length=n:=by simp[cG]
theorem nT(h:i < n):(cG lo n)[i]?=some (.int (lo+(i:Nat))):=by simp[cG,h]
theorem EA{z:Str}:tJ K H1 (PY z) (.fix (kJ z)):=λ H M ds t hm e=>by
 cases e;have hl:(kJ z).length=z.cps.size:=by simp[kJ]
 refine⟨λ i hi=>by rw[hl]at hi;exact hi,λ i hi=>by rw[hl]at hi;exact hi,λ i x H' hi y=>?_⟩;obtain⟨e,c,hc,rfl⟩:=y;subst e;refine⟨ar.refl _,hm,.str ⟨#[c]⟩,?_,bj.mpr rfl⟩;simp[kJ,hc]
theorem Ez(h:gn K H1 a xs)(hd:aD K H1 ds xs):tJ K H1 (Wl K a) (.fix ds):=λ H M es t hm e=>by cases e;have hq:=Cp t h;have hx:=aD.mono t ds hd;have hl:=hx.length;refine⟨λ i hi=>⟨xs,xs[i]'(by lia),hq,by simp[hl,hi]⟩,λ i hi=>⟨xs,hq,by lia⟩,λ i x H' hi y=>?_⟩;obtain⟨e,y⟩:=y;obtain⟨d,h1,h2⟩:=hx.Bs (y xs hq);subst e;exact⟨ar.refl _,hm,d,h1,h2⟩
theorem EB:tJ K H1 (TV K a) (.at a):=λ H M ds t hm e=>by
 have e:(match M a with|some (.lst ds)=>some ds|_=>none)=some ds:=e;cases q:M a with
 |none=>rw[q]at e;cases e
 |some o=>
  cases o with
  |di b kvs=>rw[q]at e;cases e
  |jC x=>rw[q]at e;cases e
  |lst es=>rw[q]at e;have e:es=ds:=B6 e;subst e;obtain⟨xs,hx,hd⟩:=hm a _ q;have hq:fE K H a xs:=fE.of hx;have hl:=hd.length;refine⟨λ i hi=>⟨xs,xs[i]'(by lia),hq,by simp[hl,hi]⟩,λ i hi=>⟨xs,hq,by lia⟩,λ i x H' hi y=>?_⟩;obtain⟨e,y⟩:=y;obtain⟨d,h1,h2⟩:=hd.Bs (y xs hq);subst e;exact⟨ar.refl _,hm,d,h1,h2⟩
theorem Jr(h:GB K H1 a xs)(hd:aD K H1 ds xs):tJ K H1 (TV K a) (.fix ds):=λ H M es t hm e=>by cases e;have hq:=(Fi t h).sq;have hx:=aD.mono t ds hd;have hl:=hx.length;refine⟨λ i hi=>⟨xs,xs[i]'(by lia),hq,by simp[hl,hi]⟩,λ i hi=>⟨xs,hq,by lia⟩,λ i x H' hi y=>?_⟩;obtain⟨e,y⟩:=y;obtain⟨d,h1,h2⟩:=hx.Bs (y xs hq);subst e;exact⟨ar.refl _,hm,d,h1,h2⟩
theorem wY:tJ K H1 (TU lo n) (.fix (cG lo n)):=λ H M ds t hm e=>by cases e;rw[bt];refine⟨λ i hi=>hi,λ i hi=>J3 hi.symm,λ i x H' hi y=>?_⟩;obtain⟨e,rfl⟩:=y;subst e;exact⟨ar.refl _,hm,_,nT hi,ax.mpr rfl⟩
section
variable {l:Expr}{tl:cS}{ta:e_}{a b:Expr}{p pos:Pos}
def Oh(tl:cS):rD:=λ δ M R=>tl δ M λ d M1=>match d with
 | .str z=>R (.fix (kJ z)) M1
 | .tup ds=>R (.fix ds) M1
 | .fl ds=>R (.fix ds) M1
 | .ref a=>match M1 a with
  |some (.lst _)=>R (.at a) M1
  |_=>False
 |_=>False
theorem MI(hl:QE X l tl):QI X tg l (Oh tl):=yC (Ng hl) λ σ H R ⟨δ,M,R2,hs,hm,q,k⟩=>by
 refine⟨δ,M,_,hs,hm,q,λ x H1 d M1 hd cv t1 q1=>?_⟩;cases d with
 |str z=>cases(bj.mp hd);exact k _ H1 _ M1 EA cv t1 q1
 |tup ds=>obtain⟨p,xs,rfl,hq,hx⟩:=aZ.mp hd;exact .inr ⟨xs,hq,k _ H1 _ M1 (Ez hq hx) cv t1 q1⟩
 |fl ds=>obtain⟨p,xs,rfl,hq,hx⟩:=jj.mp hd;exact .inl ⟨xs,hq.sq,k _ H1 _ M1 (Jr hq hx) cv t1 q1⟩
 |ref a=>
  cases(aE.mp hd);have q1:(match M1 a with|some (.lst _)=>R2 (.at a) M1|_=>False):=q1;cases e:M1 a with
  |none=>rw[e]at q1;exact q1.elim
  |some o=>
   cases o with
   |di b kvs=>rw[e]at q1;exact q1.elim
   |jC x=>rw[e]at q1;exact q1.elim
   |lst es=>rw[e]at q1;obtain⟨xs,hx,_⟩:=cv a _ e;exact .inl ⟨xs,fE.of hx,k _ H1 _ M1 EB cv t1 q1⟩
 |_=>exact q1.elim
def Wm(j:Int):Prop:= -(2^62)<=j/\j < 2^62
theorem dh{j:Int}(h0: -1000000000<=j)(h1:j<=1000000000):Wm j:=by
 constructor
 ·exact Int.le_trans (by decide) h0
 ·exact q9 h1 (by decide)
def Ew(ta:e_):rD:=λ δ M R=>ta δ M λ ds M1=>match ds with
 |[.int j]=>Wm j/\R (.fix (cG 0 j.toNat)) M1
 |_=>False
theorem AK(hg:Gl X "range")(hm:X.mg "range"=none)(ha:QA X [a] ta)(hs:starEach [a] X.env=[(false,eval a X.env)]:=by rfl):QI X tg (.Call (.Name "range" p) [a] [] pos) (Ew ta):=yC (AN hg hm ha hs) λ σ H R ⟨δ,M,R2,hs,hm,q,k⟩=>by
 refine⟨δ,M,_,hs,hm,q,λ xs H1 ds M1 hd cv t1 q1=>?_⟩;cases ds with
 |nil=>exact q1.elim
 |cons d r=>
  cases r with
  |cons d2 r2=>cases d <;> exact q1.elim
  |nil=>
   cases d with
   |int j=>obtain⟨x,r,rfl,hx,hr⟩:=ag.mp hd;cases(ao.mp hr);cases(ax.mp hx);obtain⟨⟨b1,b2⟩,q1⟩:=q1;exact⟨j,rfl,b1,b2,k _ H1 _ M1 wY cv t1 q1⟩
   |_=>exact q1.elim
end
end L3
variable {R:L3.Src->L3.Mem->Prop}{wi:L3.rD}
namespace L3
open PySem.Spec L2
def LY(wi:rD)(g:iW)(tb:kC):kC:=λ E δ M=>wi δ M λ src M1=>∃(B:Nat) (W:Nat->dF->Mem->Prop),W 0 δ M1/\∀i δ M,W i δ M->i<=B/\match ad src M with
 |none=>False
 |some ds=>match ds[i]? with
  |none=>i=ds.length/\E.nx δ M
  |some d=>g d δ M λ δ2 M2=>tb {E with nx:=W (i+1),ct:=W (i+1),bk:=E.nx} δ2 M2
section
variable {tb:kC}{pos:Pos}
theorem MG(hp:PassesOwn (model X.prog X.w) X.A X.env X.xe)(hc:X.calm=true)(hi:QI X tg iter wi)(hg:QG X tg g)(hb:Gz X body tb)(hs:∀x,foldedSetIterable iter X.env x=pure x:=by intro _;rfl):QS X (.For tg iter body [] pos) (LY wi g tb):=lI (Nb hp hc hi hg hb hs) λ E σ H ⟨δ,M,D2,hs,hm,q,k⟩=>by
 refine⟨δ,M,_,hs,hm,q,λ J H1 src M1 ok cv t1 q1=>?_⟩;obtain⟨B,W,w0,turn⟩:=q1;refine⟨λ i m σ' H'=>m=B+1 - i/\∃δ' M',du X.K H' δ' σ'/\ca X.K H' M'/\ar H1 H'/\W i δ' M',⟨B+1,rfl,δ,M1,hs.mono t1,cv,ar.refl _,w0⟩,?_⟩;rintro i m σ' H' ⟨rfl,δ',M',jD,fT,t',w'⟩;obtain⟨hB,h⟩:=turn i δ' M' w';cases ei:ad src M' with
 |none=>rw[ei]at h;exact h.elim
 |some ds=>
  rw[ei]at h;obtain⟨go,stop,GD⟩:=ok H' M' ds t' fT ei;cases ed:ds[i]? with
  |none=>simp only[ed]at h;exact .inl ⟨stop i h.1,k.nx σ' H' δ' M' jD fT (t1.trans t') h.2⟩
  |some d=>
   simp only[ed]at h;have Gm:i < ds.length:=(i3.mp ed).1;refine .inr ⟨go i Gm,λ σ2 H2=>∃δ2 M2,du X.K H2 δ2 σ2/\ca X.K H2 M2/\ar H1 H2/\W (i+1) δ2 M2,λ σ2 H2 ⟨δ2,M2,a,b,c,w2⟩=>⟨B+1 - (i+1),by lia,rfl,δ2,M2,a,b,c,w2⟩,λ x H2 y=>?_⟩;obtain⟨t2,lq,d',e',mH⟩:=GD i x H2 Gm y;rw[ed]at e';cases e';refine⟨d,δ',M',_,mH,jD.mono t2,lq,h,λ σ3 H3 δ3 M3 Ts OE t3 q3=>?_⟩;refine⟨δ3,M3,_,Ts,OE,q3,⟨?_,?_,?_,?_⟩⟩
   ·exact λ σ4 H4 δ4 M4 a b c w4=>⟨δ4,M4,a,b,t'.trans (t2.trans (t3.trans c)),w4⟩
   ·exact k.rt.mono (t1.trans (t'.trans (t2.trans t3)))
   ·exact k.nx.mono (t1.trans (t'.trans (t2.trans t3)))
   ·exact λ σ4 H4 δ4 M4 a b c w4=>⟨δ4,M4,a,b,t'.trans (t2.trans (t3.trans c)),w4⟩
end
open PySem.Spec L2
def wx(c:fW)(tb:kC):kC:=λ E δ M=>∃W:Nat->dF->Mem->Prop,(∃m,W m δ M)/\∀m δ M,W m δ M->c δ M λ b M1=>
 if b=true then ∃N:dF->Mem->Prop,(∀δ' M',N δ' M'->∃m',m' < m/\W m' δ' M')/\tb {E with nx:=N,ct:=N,bk:=E.nx} δ M1 else E.nx δ M1
section
variable {tb:kC}{pos:Pos}
theorem Dy(hp:PassesOwn (model X.prog X.w) X.A X.env X.xe)(hc:QT X c tc)(hb:Gz X body tb):QS X (.While c body [] pos) (wx tc tb):=lI (DF hp hc hb) λ E σ H ⟨δ,M,D2,hs,hm,q,k⟩=>by
 obtain⟨W,⟨m0,w0⟩,turn⟩:=q;refine⟨λ m σ' H'=>∃δ' M',du X.K H' δ' σ'/\ca X.K H' M'/\ar H H'/\W m δ' M',⟨m0,δ,M,hs,hm,ar.refl _,w0⟩,?_⟩;rintro m σ' H' ⟨δ',M',jD,fT,t',w'⟩;refine⟨δ',M',_,jD,fT,turn m δ' M' w',λ b H1 M1 cv t1 q1=>?_⟩;cases b with
 |false=>simp only[o7,K6]at q1;exact k.nx σ' H1 δ' M1 (jD.mono t1) cv (t'.trans t1) q1
 |true=>
  simp only[if_true]at q1;obtain⟨N,hN,q1⟩:=q1;refine⟨λ σ2 H2=>∃δ2 M2,du X.K H2 δ2 σ2/\ca X.K H2 M2/\ar H H2/\N δ2 M2,λ σ2 H2 ⟨δ2,M2,a,b,c,n2⟩=>?_,?_⟩
  ·obtain⟨m',fT,w2⟩:=hN δ2 M2 n2;exact⟨m',fT,δ2,M2,a,b,c,w2⟩
  ·refine⟨δ',M1,_,jD.mono t1,cv,q1,⟨?_,?_,?_,?_⟩⟩
   ·exact λ σ4 H4 δ4 M4 a b c w4=>⟨δ4,M4,a,b,t'.trans (t1.trans c),w4⟩
   ·exact k.rt.mono (t'.trans t1)
   ·exact k.nx.mono (t'.trans t1)
   ·exact λ σ4 H4 δ4 M4 a b c w4=>⟨δ4,M4,a,b,t'.trans (t1.trans c),w4⟩
end
open PySem.Spec L2
def jq(n:Nat)(fr:List Nat)(δ:dF):dF:=List.replicate n none++fr.map (λ j=>δ.getD j none)
theorem Kc{σ:L2.St}(h:du K H δ σ)(n:Nat)(fr:List Nat):du K H (jq n fr δ) (fQ n fr σ):=by
 refine⟨by simp[jq,fQ],λ i d e=>?_⟩;unfold jq at e;by_cases hi:i < n
 ·rw[c8 (by simpa using hi),i9,K9 hi]at e;cases e
 ·rw[a9 (by simpa using hi),k4,u7]at e;cases ej:fr[i - n]? with
  |none=>rw[ej]at e;cases e
  |some j=>
   rw[ej]at e;have e:δ.getD j none=some d:=B6 e;have hj:j < δ.length:=by refine y9 λ z=>?_;rw[c7,k5 z]at e;cases e
   have e':δ[j]?=some (some d):=by rw[c7,i6 hj]at e;rw[i6 hj];exact K7 some e
   obtain⟨v,hv,r⟩:=h.get j d e';refine⟨v,?_,r⟩;unfold fQ;rw[a9 (by simpa using hi),k4,u7,ej];simp[c7,hv]
def nH(wi:rD)(g:iW)(tt:fW)(te:cS)(n:Nat)(fr:List Nat):dF->Mem->(List D->Mem->Prop)->Prop:=λ δ M Q=>wi δ M λ src M1=>∃(B:Nat) (W:Nat->List D->Mem->Prop),W 0 [] M1/\∀i zn M,W i zn M->i<=B/\zn.length<=sizeLine/\match ad src M with
 |none=>False
 |some ds=>match ds[i]? with
  |none=>i=ds.length/\Q zn M
  |some d=>g d (jq n fr δ) M λ δ2 M2=>tt δ2 M2 λ b M3=>if b=true then te δ2 M3 λ y M4=>W (i+1) (zn++[y]) M4 else W (i+1) zn M3
theorem lF{σ:L2.St}{Q:V->Hp->Prop}{gv:TG}(YX:∀v σ H Q,Km K g v σ H Q->gv v σ H Q)(hs:du K H δ σ)(hm:ca K H M)(q:nH wi g tt te n fr δ M Qe) (k:∀zn xs H' M' p,aD K H' zn xs->ca K H' M'->ar H H'->zn.length<=sizeLine->H' p=none->Qe zn M'->Q (.ref p) (ci H' p (.lst xs))):ua (SR K wi) gv (Gf K tt) (up K te) n fr σ H Q:=by
 refine⟨δ,M,_,hs,hm,q,λ J H1 src M1 ok cv t1 q1=>?_⟩;obtain⟨B,W,w0,turn⟩:=q1;refine⟨λ i m xs H'=>m=B+1 - i/\∃zn M',aD K H' zn xs/\ca K H' M'/\ar H1 H'/\W i zn M',⟨B+1,rfl,[],M1,by rw[ao],cv,ar.refl _,w0⟩,?_⟩;rintro i m xs H' ⟨rfl,zn,M',mH,fT,t',w'⟩;obtain⟨hB,hz,h⟩:=turn i zn M' w';refine⟨by rw[mH.length];exact hz,?_⟩;cases ei:ad src M' with
 |none=>rw[ei]at h;exact h.elim
 |some ds=>
  rw[ei]at h;obtain⟨go,stop,GD⟩:=ok H' M' ds t' fT ei;cases ed:ds[i]? with
  |none=>simp only[ed]at h;exact .inl ⟨stop i h.1,λ p hp=>k zn xs H' M' p mH fT (t1.trans t') hz hp h.2⟩
  |some d=>
   simp only[ed]at h;have Gm:i < ds.length:=(i3.mp ed).1;refine .inr ⟨go i Gm,λ ys H2=>∃Kf M2,aD K H2 Kf ys/\ca K H2 M2/\ar H1 H2/\W (i+1) Kf M2,λ ys H2 ⟨Kf,M2,a,b,c,w2⟩=>⟨B+1 - (i+1),by lia,rfl,Kf,M2,a,b,c,w2⟩,λ x H2 y=>?_⟩;obtain⟨t2,lq,d',e',tP⟩:=GD i x H2 Gm y;rw[ed]at e';cases e';refine YX _ _ _ _ ⟨d,jq n fr δ,M',_,tP,Kc (hs.mono (t1.trans (t'.trans t2))) n fr,lq,h,λ σ3 H3 δ3 M3 Ts OE t3 q3=>?_⟩;refine⟨δ3,M3,_,Ts,OE,q3,λ b H4 M4 W5 t4 q4=>?_⟩;cases b with
   |false=>rw[L1 n9]at q4 ⊢;exact⟨zn,M4,aD.mono (t2.trans (t3.trans t4)) zn mH,W5,t'.trans (t2.trans (t3.trans t4)),q4⟩
   |true=>rw[K9 rfl]at q4 ⊢;exact⟨δ3,M4,_,Ts.mono t4,W5,q4,λ yv H5 y5 M5 Yn YM t5 q5=>⟨zn++[y5],M5,(aD.mono (t2.trans (t3.trans (t4.trans t5))) zn mH).append (aD.one Yn),YM,t'.trans (t2.trans (t3.trans (t4.trans t5))),q5⟩⟩
section
variable {elt:Expr}{pos:Pos}
abbrev TQ(X:Cx)(ifs:List Expr)(t:fW):Prop:=PX X ifs (Gf X.K t)
def uj:fW:=λ _ M Q=>Q true M
theorem HQ:TQ X [] uj:=λ xz s σ H Q I h=>Im xz s σ H Q I (by
 obtain⟨δ,M,Q2,hs,hm,q,k⟩:=h;exact k _ _ _ hm (ar.refl H) q)
theorem HN{t:fW}(h:QT X c t):TQ X [c] t:=Il h
def SA(X:Cx)(scope:Scope)(tgs:List Str)(fr:List Nat)(tg:Expr)(g2:iW):Prop:=
 ∃g:TG,(∀cl C fp s H,PG (bE X scope cl tgs fr C fp s H) tg g)/\jy tgs.length g/\∀v σ H Q,Km X.K g2 v σ H Q->g v σ H Q
theorem GP{ps:Pos}(h:∀cl C fp s H,PG (bE X scope cl tgs fr C fp s H) (.Name x ps) (cY i))(hi:i < tgs.length):SA X scope tgs fr (.Name x ps) (bd i):=⟨_,h,iR hi,kX⟩
def F_(g:TG):Prop:=∀x σ H Q Q',(∀σ' H',Q σ' H'->Q' σ' H')->g x σ H Q->g x σ H Q'
def tK(g:zU):Prop:=∀xs σ H Q Q',(∀σ' H',Q σ' H'->Q' σ' H')->g xs σ H Q->g xs σ H Q'
theorem eY:F_ (cY i):=λ x σ H Q Q' k q=>k _ _ q
theorem oC:tK sR:=λ xs σ H Q Q' k q=>⟨q.1,k _ _ q.2⟩
theorem mI{t:TG}{u:zU}(ht:F_ t)(hu:tK u):tK (dR t u):=λ xs σ H Q Q' k ⟨v,r,e,q⟩=>⟨v,r,e,ht v σ H _ _ (λ σ' H' q'=>hu r σ' H' _ _ k q') q⟩
theorem ke{t:TG}{u:zU}(h:jy n t)(k:mQ n u)(ht:F_ t)(hu:tK u):mQ n (dR t u):=λ xs σ H Q ⟨v,r,e,q⟩=>by refine⟨v,r,e,ht v σ H _ _ (λ σ' H' ⟨q',l',k'⟩=>?_) (h v σ H _ q)⟩;refine hu r σ' H' _ _ (λ σ2 H2 ⟨q2,l2,k2⟩=>⟨q2,l2.trans l',λ j hj=>(k2 j hj).trans (k' j hj)⟩) (k r σ' H' _ q')
theorem Fg{t:zU}(h:mQ m t):jy m (vd K n t):=λ x σ H Q ⟨a,xs,e,hq,hl,q⟩=>⟨a,xs,e,hq,hl,h xs σ H _ q⟩
theorem Ar:∀v σ H Q,Km K (pU 2 (dq (bd i) (dq (bd j) pV))) v σ H Q->vd K 2 (dR (cY i) (dR (cY j) sR)) v σ H Q:=λ v σ H Q ⟨d,δ,M,Q2,hd,hs,hm,q,k⟩=>by
 cases d with
 |tup ds=>
  obtain⟨p,xs,rfl,hq,hx⟩:=aZ.mp hd;obtain⟨hl,q⟩:=q
  match ds,hl,hx,q with
  |[a,b],hl,hx,q=>obtain⟨x,r,rfl,ha,hx⟩:=ag.mp hx;obtain⟨y,r,rfl,hb,hx⟩:=ag.mp hx;cases(ao.mp hx);exact⟨p,[x,y],rfl,hq,rfl,x,[y],rfl,y,[],rfl,rfl,k _ H _ M ((hs.set ha).set hb) hm (ar.refl H) q⟩
 |_=>exact q.elim
theorem GO{y:Str}{px py pt:Pos}(h:∀cl C fp s H,PG (bE X scope cl tgs fr C fp s H) (.Tuple [.Name x px,.Name y py] k pt) (vd X.K 2 (dR (cY i) (dR (cY j) sR))))(hi:i < tgs.length)(hj:j < tgs.length):SA X scope tgs fr (.Tuple [.Name x px,.Name y py] k pt) (pU 2 (dq (bd i) (dq (bd j) pV))):=
 ⟨_,h,Fg (ke (iR hi) (ke (iR hj) Fh eY oC) eY (mI eY oC)),Ar⟩
def pb(X:Cx)(scope:Scope)(tgs:List Str)(fr:List Nat)(tg iter:Expr)(ifs:List Expr)(elt:Expr)(wi:rD)(g:iW)(tt:fW)(te:cS):Prop:=
 kB X scope fr/\X.calm=true/\(∀e s,X.xe e s->False)/\QI X tg iter wi/\SA X scope tgs fr tg g/\(∀cl C fp s H,TQ (bE X scope cl tgs fr C fp s H) ifs tt)/\(∀cl C fp s H,QE (bE X scope cl tgs fr C fp s H) elt te)
def um(wi:rD)(g:iW)(tt:fW)(te:cS)(n:Nat)(fr:List Nat):cS:=λ δ M Q=>nH wi g tt te n fr δ M λ ds M'=>∀p,M' p=none->Q (.ref p) (ai M' p (.lst ds))
theorem MU(C:pb X scope tgs fr tg iter ifs elt wi g tt te)(hs:∀x,foldedSetIterable iter X.env x=pure x:=by intro _;rfl):QE X (.ListComp elt [⟨tg,iter,ifs,0⟩] scope pos) (um wi g tt te tgs.length fr):=by obtain⟨B,hc,hE,hi,⟨gv,hg,gk,gl⟩,ht,he⟩:=C;refine bZ (sf (tt:=Gf X.K tt) (te:=up X.K te) B hc hE hi hg gk ht he hs) ?_;rintro σ H Q ⟨δ,M,Q2,hs,hm,q,k⟩;exact lF gl hs hm q λ zn xs H' M' p hd fT t' hz hp q'=>k _ _ (.ref p) _ (aE.mpr rfl) (dM hp hd fT) (t'.trans (ar.laid hp)) (q' p (fT.free hp))
theorem wD{y:Str}{py ud:Pos}(hN:X.N.Nodup)(hiy:X.N[i]?=some y)(hy:Loc X.env.scope y)(C:pb X scope tgs fr tg iter ifs elt wi g tt te) (hsw:swapsWith (.ListComp elt [⟨tg,iter,ifs,0⟩] scope pos) (some (.Name y py)) ud.line X.env=pure true:=by rfl) (hf:X.fn y=true\/X.env.scope.names.lookup y=some .local:=by first|exact .inl rfl|exact .inr rfl|assumption) (hs:∀x,foldedSetIterable iter X.env x=pure x:=by intro _;rfl):QS X (.Assign [.Name y py] (.ListComp elt [⟨tg,iter,ifs,0⟩] scope pos) ud) (uo (um wi g tt te tgs.length fr) (bd i)):=by obtain⟨B,hc,hE,hi,⟨gv,hg,gk,gl⟩,ht,he⟩:=C;refine lI (wG (tt:=Gf X.K tt) (te:=up X.K te) hN hiy hy B hc hE hi hg gk ht he hsw hf hs) ?_;rintro E σ H ⟨δ,M,D2,hs,hm,q,k⟩;exact lF gl hs hm q λ zn xs H' M' p hd fT t' hz hp q'=>k.nx _ _ _ _ (((hs.mono t').mono (ar.laid hp)).set (aE.mpr rfl)) (dM hp hd fT) (t'.trans (ar.laid hp)) (q' p (fT.free hp))
def Az(r3:List D->Mem->bR->Prop)(wi:rD)(g:iW)(tt:fW)(te:cS)(n:Nat)(fr:List Nat):cS:=λ δ M Q=>nH wi g tt te n fr δ M λ ds M'=>r3 ds M' Q
def lO(r2:List D->Mem->bR->Prop)(r3:List D->Mem->bR->Prop):Prop:=∀ds M p Q,M p=none->ds.length<=sizeLine->r3 ds M Q->r2 [.ref p] (ai M p (.lst ds)) (fin2 Q)
theorem Fm{Q2:bR}{Q:VK}(k:jA K H Q2 Q):jA K H (fin2 Q2) Q:=λ v H' d M' hd hm t ⟨kG,s,q⟩=>k v H' d kG hd (hm.sub s) t q
variable {p:Pos}{id:String}
theorem t_{r:List V->Hp->VK->Prop}{r3:List D->Mem->bR->Prop}{gv:TG}(gl:∀v σ H Q,Km X.K g v σ H Q->gv v σ H Q)(hr:Pe X.K r r2)(h3:lO r2 r3):∀σ H Q,up X.K (Az r3 wi g tt te tgs.length fr) σ H Q->SW r (Ci (ua (SR X.K wi) gv (Gf X.K tt) (up X.K te) tgs.length fr) LI) σ H Q:=by rintro σ H Q ⟨δ,M,Q2,hs,hm,q,k⟩;show ua (SR X.K wi) gv (Gf X.K tt) (up X.K te) tgs.length fr σ H (λ x H1=>r [x] H1 Q);refine lF gl hs hm q λ zn xs H' M' p hd fT t' hz hp q'=>?_;exact hr [.ref p] [.ref p] _ _ (fin2 Q2) Q (aD.one (aE.mpr rfl)) (dM hp hd fT) (h3 zn M' p Q2 (fT.free hp) hz q') (Fm (k.mono (t'.trans (ar.laid hp))))
theorem MN{r3:List D->Mem->bR->Prop}(o:dB X (.builtin id) r2)(h3:lO r2 r3)(hg:Gl X x)(hm:X.mg x=none)(hv:bootBuiltins x=some (.builtin id))(C:pb X scope tgs fr tg iter ifs elt wi g tt te)(hn:x≠"__name__":=by decide)(hdb:(x==("__debug__":Str))=false:=by decide) (hs:∀x,foldedSetIterable iter X.env x=pure x:=by intro _;rfl):QE X (.Call (.Name x p) [.ListComp elt [⟨tg,iter,ifs,0⟩] scope cp] [] pos) (Az r3 wi g tt te tgs.length fr):=by obtain⟨B,hc,hE,hi,⟨gv,VD,gk,gl⟩,ht,he⟩:=C;obtain⟨r,ho,hr⟩:=o;exact bZ (uD ho hg hm hv (jS (sf (tt:=Gf X.K tt) (te:=up X.K te) B hc hE hi VD gk ht he hs) nV) hn hdb) (t_ gl hr h3)
theorem MM{r3:List D->Mem->bR->Prop}(o:dB X (.type T) r2)(h3:lO r2 r3)(hg:Gl X x)(hm:X.mg x=none)(hv:bootBuiltins x=some (.type T))(C:pb X scope tgs fr tg iter ifs elt wi g tt te)(hn:x≠"__name__":=by decide)(hdb:(x==("__debug__":Str))=false:=by decide) (hs:∀x,foldedSetIterable iter X.env x=pure x:=by intro _;rfl):QE X (.Call (.Name x p) [.ListComp elt [⟨tg,iter,ifs,0⟩] scope cp] [] pos) (Az r3 wi g tt te tgs.length fr):=by obtain⟨B,hc,hE,hi,⟨gv,VD,gk,gl⟩,ht,he⟩:=C;obtain⟨r,ho,hr⟩:=o;exact bZ (f' ho hg hm hv (jS (sf (tt:=Gf X.K tt) (te:=up X.K te) B hc hE hi VD gk ht he hs) nV) hn hdb) (t_ gl hr h3)
variable {o:Expr}
end
open PySem.Spec L2
def dI(C:Int->Int->Prop)(g:Int->Int->D):gJ:=λ x y M Q=>match x,y with
 | .int i,.int j=>C i j/\Q (g i j) M
 |_,_=>False
def Lm(g:Int->Int->D):gJ:=λ x y M Q=>match x,y with
 | .int i,.int j=>Q (g i j) M
 |_,_=>False
theorem si{f:jp->jp->Sem jp}{g:Int->Int->Int}(h:gp X f (rI C λ i j=>.int (g i j))):gr X f (dI C λ i j=>.int (g i j)):=⟨_,h,λ x y d e H M Q2 Q hd he hm q k=>by
 cases d <;> cases e <;> first
  |exact q.elim
  |(cases(ax.mp hd);cases(ax.mp he);exact⟨_,_,rfl,rfl,q.1,k _ H _ M (ax.mpr rfl) hm (ar.refl H) q.2⟩)⟩
theorem Ww{f:jp->jp->Sem jp}{g:Int->Int->Int}(h:gp X f (Gh λ i j=>.int (g i j))):gr X f (Lm λ i j=>.int (g i j)):=⟨_,h,λ x y d e H M Q2 Q hd he hm q k=>by
 cases d <;> cases e <;> first
  |exact q.elim
  |(cases(ax.mp hd);cases(ax.mp he);exact⟨_,_,rfl,rfl,k _ H _ M (ax.mpr rfl) hm (ar.refl H) q⟩)⟩
theorem Um{f:jp->jp->Sem jp}{g:Int->Int->Bool}(h:gp X f (Gh λ i j=>.bl (g i j))):gr X f (Lm λ i j=>.bl (g i j)):=⟨_,h,λ x y d e H M Q2 Q hd he hm q k=>by
 cases d <;> cases e <;> first
  |exact q.elim
  |(cases(ax.mp hd);cases(ax.mp he);exact⟨_,_,rfl,rfl,k _ H _ M (ba.mpr rfl) hm (ar.refl H) q⟩)⟩
theorem yH:gr X (binaryOp .Sub) (Lm λ i j=>.int (i - j)):=Ww Nx
theorem jU:gr X (binaryOp .Mod) (dI (λ _ j=>0 < j) λ i j=>.int (i % j)):=si NC
theorem wM:gr X (binaryOp .FloorDiv) (dI Pn λ i j=>.int (i / j)):=si ID
theorem Rf:gr X (binaryOp .Pow) (dI SO λ i j=>.int (i^j.toNat)):=si Nz
theorem Rc:gr X (binaryOp .BitXor) (Lm λ i j=>.int (Builtin.bitXor i j)):=Ww Nw
theorem nX:gr X (compareOp .Lt) (Lm λ i j=>.bl (decide (i < j))):=Um Q7
theorem Rh:gr X (compareOp .Gt) (Lm λ i j=>.bl (decide (j < i))):=Um Q8
theorem UN:gr X (compareOp .GtE) (Lm λ i j=>.bl (decide (j<=i))):=Um Q9
def JW:gJ:=λ x y M Q=>match x,y with
 | .int i,.int j=>Q (.int (i+j)) M
 | .str i,.str j=>i.length+j.length<=sizeLine/\Q (.str (i++j)) M
 | .tup xs,.tup ys=>xs≠[]/\xs.length+ys.length<=sizeLine/\Q (.tup (xs++ys)) M
 | .ref a,.ref b=>match M a,M b with
  |some (.lst xs),some (.lst ys)=>xs.length+ys.length<=sizeLine/\∀p,M p=none->Q (.ref p) (ai M p (.lst (xs++ys)))
  |_,_=>False
 |_,_=>False
theorem Ri:gr X (binaryOp .Add) JW:=⟨_,NI.or (wL.or (NH.or IE)),λ x y d e H M Q2 Q hd he hm q k=>by
 cases d with
 |int i=>
  cases e with
  |int j=>cases(ax.mp hd);cases(ax.mp he);exact .inl ⟨_,_,rfl,rfl,k _ H _ M (ax.mpr rfl) hm (ar.refl H) q⟩
  |_=>exact q.elim
 |str i=>
  cases e with
  |str j=>cases(bj.mp hd);cases(bj.mp he);exact .inr (.inl ⟨_,_,rfl,rfl,q.1,k _ H _ M (bj.mpr rfl) hm (ar.refl H) q.2⟩)
  |_=>exact q.elim
 |tup xs=>
  cases e with
  |tup ys=>
   obtain⟨p,vs,rfl,hp,hx⟩:=aZ.mp hd;obtain⟨p2,ws,rfl,lZ,hy⟩:=aZ.mp he;obtain⟨dP,hlen,q⟩:=q;refine .inr (.inr (.inr ⟨p,p2,vs,ws,rfl,rfl,hp,lZ,?_,by rw[hx.length,hy.length];exact hlen,?_⟩))
   ·intro z;have:=hx.length;rw[z]at this;exact dP (j1.mp this.symm)
   ·refine⟨λ hz=>?_,λ hz p3 PF=>?_⟩
    ·have Yo:ys=[]:=by have:=hy.length;rw[hz]at this;exact j1.mp this.symm
     subst Yo;rw[B0]at q;exact k _ H _ M (aZ.mpr ⟨p,vs,rfl,hp,hx⟩) hm (ar.refl H) q
    ·exact k _ _ _ M (jG PF (hx.append hy)) (hm.laid PF) (ar.laid PF) q
  |_=>exact q.elim
 |ref a=>
  cases e with
  |ref b=>
   cases(aE.mp hd);cases(aE.mp he);have q:(match M a,M b with|some (.lst xs),some (.lst ys)=>xs.length+ys.length<=sizeLine/\∀p,M p=none->Q2 (.ref p) (ai M p (.lst (xs++ys)))|_,_=>False):=q;cases ea:M a with
   |none=>rw[ea]at q;exact q.elim
   |some oa=>
    cases eb:M b with
    |none=>rw[ea,eb]at q;cases oa <;> exact q.elim
    |some ob=>
     cases oa with
     |di b kvs=>rw[ea,eb]at q;exact q.elim
     |jC x=>rw[ea,eb]at q;exact q.elim
     |lst xs=>
      cases ob with
      |di b kvs=>rw[ea,eb]at q;exact q.elim
      |jC x=>rw[ea,eb]at q;exact q.elim
      |lst ys=>rw[ea,eb]at q;obtain⟨vs,Yu,Fw⟩:=hm a _ ea;obtain⟨ws,KR,Xo⟩:=hm b _ eb;refine .inr (.inr (.inl ⟨a,b,vs,ws,rfl,rfl,Yu,KR,by rw[Fw.length,Xo.length];exact q.1,λ p hp=>?_⟩));exact k _ _ (.ref p) _ (aE.mpr rfl) (dM hp (Fw.append Xo) hm) (ar.laid hp) (q.2 p (hm.free hp))
  |_=>exact q.elim
 |_=>exact q.elim⟩
def OY:gJ:=λ x y M Q=>match x,y with
 | .int i,.int j=>tN i j/\Q (.int (i*j)) M
 | .str z,.int n=>MulOk z n/\Q (.str (Txt.mul z n)) M
 |_,_=>False
theorem Rg:gr X (binaryOp .Mult) OY:=⟨_,NB.or wK,λ x y d e H M Q2 Q hd he hm q k=>by
 cases d <;> cases e <;> first
  |exact q.elim
  |(cases(ax.mp hd);cases(ax.mp he);exact .inl ⟨_,_,rfl,rfl,q.1,k _ H _ M (ax.mpr rfl) hm (ar.refl H) q.2⟩)
  |(cases(bj.mp hd);cases(ax.mp he);exact .inr ⟨_,_,rfl,rfl,q.1,k _ H _ M (bj.mpr rfl) hm (ar.refl H) q.2⟩)⟩
def q_:D->Option V
 | .bw=>some .bw
 | .bl b=>some (.bl b)
 | .int i=>some (.int i)
 | .str x=>some (.str x)
 |_=>none
theorem qZ{x:V}(e:q_ d=some v)(h:bn K H d x):x=v:=by
 cases d with
 |bw=>cases e;exact dN.mp h
 |bl b=>cases e;exact ba.mp h
 |int i=>cases e;exact ax.mp h
 |str z=>cases e;exact bj.mp h
 |ty n=>exact absurd e (by intro z;cases z)
 |ref a=>exact absurd e (by intro z;cases z)
 |tup xs=>exact absurd e (by intro z;cases z)
 |fl xs=>exact absurd e (by intro z;cases z)
theorem oF(e:q_ d=some v):gN v=true:=by
 cases d with
 |bw=>cases e;rfl
 |bl b=>cases e;rfl
 |int i=>cases e;rfl
 |str z=>cases e;rfl
 |ty n=>exact absurd e (by intro z;cases z)
 |ref a=>exact absurd e (by intro z;cases z)
 |tup xs=>exact absurd e (by intro z;cases z)
 |fl xs=>exact absurd e (by intro z;cases z)
def Ln(neg:Bool):gJ:=λ x y M Q=>match x,y with
 | .int i,.int j=>Q (.bl (xor neg (decide (i=j)))) M
 | .bl i,.bl j=>Q (.bl (xor neg (decide (i=j)))) M
 | .str i,.str j=>Q (.bl (xor neg (decide (i=j)))) M
 |_,_=>False
theorem UO:gr X (compareOp .Eq) (Ln false):=⟨_,Q_,λ x y d e H M Q2 Q hd he hm q k=>by
 cases d <;> cases e <;> first
  |exact q.elim
  |(cases(ax.mp hd);cases(ax.mp he);refine⟨rfl,k _ H _ M (ba.mpr rfl) hm (ar.refl H) ?_⟩;have q:Q2 (.bl (xor false (decide (_=_)))) M:=q;simpa using q)
  |(cases(ba.mp hd);cases(ba.mp he);refine⟨rfl,k _ H _ M (ba.mpr rfl) hm (ar.refl H) ?_⟩;have q:Q2 (.bl (xor false (decide (_=_)))) M:=q;simpa using q)
  |(cases(bj.mp hd);cases(bj.mp he);refine⟨rfl,k _ H _ M (ba.mpr rfl) hm (ar.refl H) ?_⟩;have q:Q2 (.bl (xor false (decide (_=_)))) M:=q;simpa using q)⟩
theorem UL:gr X (compareOp .NotEq) (Ln true):=⟨_,Q6,λ x y d e H M Q2 Q hd he hm q k=>by
 cases d <;> cases e <;> first
  |exact q.elim
  |(cases(ax.mp hd);cases(ax.mp he);refine⟨rfl,k _ H _ M (ba.mpr rfl) hm (ar.refl H) ?_⟩;have q:Q2 (.bl (xor true (decide (_=_)))) M:=q;simpa using q)
  |(cases(ba.mp hd);cases(ba.mp he);refine⟨rfl,k _ H _ M (ba.mpr rfl) hm (ar.refl H) ?_⟩;have q:Q2 (.bl (xor true (decide (_=_)))) M:=q;simpa using q)
  |(cases(bj.mp hd);cases(bj.mp he);refine⟨rfl,k _ H _ M (ba.mpr rfl) hm (ar.refl H) ?_⟩;have q:Q2 (.bl (xor true (decide (_=_)))) M:=q;simpa using q)⟩
def O0(neg:Bool):gJ:=λ x y M Q=>match y with
 | .bw=>match x with
  | .bw=>Q (.bl (!neg)) M
  |_=>Q (.bl neg) M
 |_=>False
theorem Fz{x:V}(h:bn K H d x):decide (x=.bw)=match d with| .bw=>true|_=>false:=by
 cases d with
 |bw=>cases(dN.mp h);rfl
 |bl b=>cases(ba.mp h);rfl
 |int b=>cases(ax.mp h);rfl
 |str b=>cases(bj.mp h);rfl
 |ty b=>cases(xA.mp h);rfl
 |ref b=>cases(aE.mp h);rfl
 |tup b=>obtain⟨p,xs,rfl,_⟩:=aZ.mp h;rfl
 |fl b=>obtain⟨p,xs,rfl,_⟩:=jj.mp h;rfl
theorem KC:gr X (compareOp .Is) (O0 false):=⟨_,ND,λ x y d e H M Q2 Q hd he hm q k=>by
 cases e with
 |bw=>refine⟨dN.mp he,?_⟩;rw[Fz hd];refine k _ H _ M (ba.mpr rfl) hm (ar.refl H) ?_;cases d <;> exact q
 |_=>exact q.elim⟩
def Se:D->Mem->bR->Prop:=λ x M Q=>match x with
 | .int i=>Q (.int (-i)) M
 |_=>False
theorem Kn:Wd X (unaryOp .USub) Se:=⟨_,LA,λ x d H M Q2 Q hd hm q k=>by
 cases d with
 |int i=>exact⟨i,ax.mp hd,k _ H _ M (ax.mpr rfl) hm (ar.refl H) q⟩
 |_=>exact q.elim⟩
def qY:List D->Option (List V)
 |[]=>some []
 |d::r=>match q_ d,qY r with
  |some v,some vs=>some (v::vs)
  |_,_=>none
theorem oE:∀{ds:List D} {xs vs:List V},qY ds=some vs->aD K H ds xs->xs=vs/\vs.all gN=true
 |[],xs,vs,e,h=>by cases e;exact⟨ao.mp h,rfl⟩
 |d::r,xs,vs,e,h=>by
  obtain⟨x,ys,rfl,hx,hy⟩:=ag.mp h;unfold qY at e;cases e1:q_ d with
  |none=>rw[e1]at e;cases e
  |some v=>
   cases e2:qY r with
   |none=>rw[e1,e2]at e;cases e
   |some ws=>rw[e1,e2]at e;cases e;obtain⟨h1,h2⟩:=oE e2 hy;exact⟨by rw[qZ e1 hx,h1],by rw[all_cons,oF e1,h2];rfl⟩
def inD(x:D)(ds:List D):Option Bool:=match q_ x,qY ds with
 |some v,some vs=>some (Rr v vs)
 |_,_=>none
def Xp:gJ:=λ x y M Q=>match y with
 | .str j=>match x with
  | .str i=>Q (.bl (!(Builtin.Str.occurrences j i 0 j.length 1).isEmpty)) M
  |_=>False
 | .tup ds=>match inD x ds with
  |some b=>Q (.bl b) M
  |none=>False
 | .ref a=>match M a with
  |some (.lst ds)=>match inD x ds with
   |some b=>Q (.bl b) M
   |none=>False
  |_=>False
 |_=>False
theorem EH{x:V}(e:inD d ds=some b)(hd:bn K H d x)(hx:aD K H ds xs):gN x=true/\xs.all gN=true/\Rr x xs=b:=by
 unfold inD at e;cases e1:q_ d with
 |none=>rw[e1]at e;cases e
 |some v=>
  cases e2:qY ds with
  |none=>rw[e1,e2]at e;cases e
  |some vs=>rw[e1,e2]at e;have e:Rr v vs=b:=B6 e;obtain⟨rfl,h2⟩:=oE e2 hx;cases(qZ e1 hd);exact⟨oF e1,h2,e⟩
theorem UM:gr X (compareOp .In) Xp:=⟨_,AQ.or AR,λ x y d e H M Q2 Q hd he hm q k=>by
 cases e with
 |str j=>
  cases(bj.mp he);cases d with
  |str i=>cases(bj.mp hd);exact .inl ⟨_,_,rfl,rfl,k _ H _ M (ba.mpr rfl) hm (ar.refl H) q⟩
  |_=>exact q.elim
 |tup ds=>
  obtain⟨p,xs,rfl,hp,hx⟩:=aZ.mp he;have q:(match inD d ds with|some b=>Q2 (.bl b) M|none=>False):=q;cases ei:inD d ds with
  |none=>rw[ei]at q;exact q.elim
  |some b=>rw[ei]at q;obtain⟨h1,h2,h3⟩:=EH ei hd hx;refine .inr ⟨p,xs,rfl,.inr hp,h1,h2,?_⟩;simp only[o7,K6];rw[h3];exact k _ H _ M (ba.mpr rfl) hm (ar.refl H) q
 |ref a=>
  cases(aE.mp he);have q:(match M a with|some (.lst ds)=>(match inD d ds with|some b=>Q2 (.bl b) M|none=>False)|_=>False):=q;cases ea:M a with
  |none=>rw[ea]at q;exact q.elim
  |some o=>
   cases o with
   |di b kvs=>rw[ea]at q;exact q.elim
   |jC x=>rw[ea]at q;exact q.elim
   |lst ds=>
    rw[ea]at q;obtain⟨xs,hx,dx⟩:=hm a _ ea;cases ei:inD d ds with
    |none=>simp only[ei]at q
    |some b=>simp only[ei]at q;obtain⟨h1,h2,h3⟩:=EH ei hd dx;refine .inr ⟨a,xs,rfl,.inl (fE.of hx),h1,h2,?_⟩;simp only[o7,K6];rw[h3];exact k _ H _ M (ba.mpr rfl) hm (ar.refl H) q
 |_=>exact q.elim⟩
open PySem.Spec L2
theorem Ke(h:aD K H ds xs){i:Int}(e:gS ds i=some d):∃x,gS xs i=some x/\bn K H d x:=by
 unfold gS at e ⊢;rw[h.length];cases q:Bd ds.length i with
 |none=>rw[q]at e;cases e
 |some j=>rw[q]at e;obtain⟨x,h1,h2⟩:=h.get (i:=j) e;exact⟨x,h1,h2⟩
def bD(M:Mem)(a:ww):Option (List D):=match M a with
 |some (.lst ds)=>some ds
 |_=>none
theorem fc(e:bD M a=some ds)(hm:ca K H M):∃xs,H a=some (.lst xs)/\aD K H ds xs:=by
 unfold bD at e;cases q:M a with
 |none=>rw[q]at e;cases e
 |some o=>
  cases o with
  |di b kvs=>rw[q]at e;cases e
  |jC x=>rw[q]at e;cases e
  |lst es=>rw[q]at e;cases e;exact hm a _ q
def cT(M:Mem):D->Option (List D)
 | .tup ds=>some ds
 | .fl ds=>some ds
 | .ref a=>bD M a
 |_=>none
theorem f_(e:cT M d=some ds)(hd:bn K H d v)(hm:ca K H M):∃p xs,v=.ref p/\(fE K H p xs\/gn K H p xs)/\aD K H ds xs:=by
 cases d with
 |tup es=>cases e;obtain⟨p,xs,rfl,h,q⟩:=aZ.mp hd;exact⟨p,xs,rfl,.inr h,q⟩
 |fl es=>cases e;obtain⟨p,xs,rfl,h,q⟩:=jj.mp hd;exact⟨p,xs,rfl,.inl h.sq,q⟩
 |ref a=>cases(aE.mp hd);obtain⟨xs,h,q⟩:=fc e hm;exact⟨a,xs,rfl,.inl (fE.of h),q⟩
 |_=>cases e
def PQ:gJ:=λ x y M Q=>match y with
 | .int i=>match x with
  | .str z=>z.length<=sizeLine/\(match gS z.cps.toList i with
   |some c=>Q (.str ⟨#[c]⟩) M
   |none=>False)
  |x=>match cT M x with
   |some ds=>(match gS ds i with
    |some d=>Q d M
    |none=>False)
   |none=>False
 |_=>False
theorem sF{x:V}{i:Int}{Q2:bR}{Q:VK}(hd:bn K H d x)(hm:ca K H M)(k:jA K H Q2 Q) (q:match cT M d with|some ds=>(match gS ds i with|some d=>Q2 d M|none=>False)|none=>False):∃p xs v,x=.ref p/\(fE K H p xs\/gn K H p xs)/\gS xs i=some v/\Q v H:=by
 cases e:cT M d with
 |none=>rw[e]at q;exact q.elim
 |some ds=>
  rw[e]at q;cases ei:gS ds i with
  |none=>simp only[ei]at q
  |some d'=>simp only[ei]at q;obtain⟨p,xs,rfl,h,hx⟩:=f_ e hd hm;obtain⟨v,h1,h2⟩:=Ke hx ei;exact⟨p,xs,v,rfl,h,h1,k v H d' M h2 hm (ar.refl H) q⟩
theorem aH:SG X PQ:=⟨_,L2.aH,λ x y d e H M Q2 Q hd he hm q k=>by
 cases e with
 |int i=>
  cases(ax.mp he);cases d with
  |str z=>
   cases(bj.mp hd);obtain⟨hz,q⟩:=q;refine⟨hz,?_⟩;cases ei:gS z.cps.toList i with
   |none=>rw[ei]at q;exact q.elim
   |some c=>rw[ei]at q;exact⟨c,rfl,k _ H _ M (bj.mpr rfl) hm (ar.refl H) q⟩
  |tup ds=>obtain⟨p,xs,v,rfl,h⟩:=sF (d:=.tup ds) (i:=i) hd hm k q;exact⟨xs,v,h⟩
  |fl ds=>obtain⟨p,xs,v,rfl,h⟩:=sF (d:=.fl ds) (i:=i) hd hm k q;exact⟨xs,v,h⟩
  |ref a=>obtain⟨p,xs,v,rfl,h⟩:=sF (d:=.ref a) (i:=i) hd hm k q;exact⟨xs,v,h⟩
  |_=>exact q.elim
 |_=>exact q.elim⟩
def By:List D->Mem->bR->Prop:=λ xs M Q=>match xs with
 |[.str z]=>z.length<=sizeLine/\Q (.int z.length) M
 |[x]=>match cT M x with
  |some ds=>Q (.int ds.length) M
  |none=>False
 |_=>False
theorem bW:dB X (.builtin "len") By:=⟨_,sZ.or s_,λ xs ds H M Q2 Q hd hm q k=>by
 cases ds with
 |nil=>exact q.elim
 |cons d r=>
  cases r with
  |cons d2 r2=>cases d <;> exact q.elim
  |nil=>
   obtain⟨x,r,rfl,hx,hr⟩:=ag.mp hd;cases(ao.mp hr);have seq:(match cT M d with|some ds=>Q2 (.int ds.length) M|none=>False)->∃p ys,[x]=[V.ref p]/\(fE X.K H p ys\/gn X.K H p ys)/\Q (.int ys.length) H:=λ q=>by
    cases e:cT M d with
    |none=>rw[e]at q;exact q.elim
    |some es=>rw[e]at q;obtain⟨p,ys,rfl,h,hy⟩:=f_ e hx hm;refine⟨p,ys,rfl,h,?_⟩;rw[hy.length];exact k _ H _ M (ax.mpr rfl) hm (ar.refl H) q
   cases d with
   |str z=>cases(bj.mp hx);exact .inl ⟨z,rfl,q.1,k _ H _ M (ax.mpr rfl) hm (ar.refl H) q.2⟩
   |tup es=>exact .inr (seq q)
   |fl es=>exact .inr (seq q)
   |ref a=>exact .inr (seq q)
   |_=>exact q.elim⟩
def dList:List D->Mem->bR->Prop:=λ xs M Q=>match xs with
 |[x]=>match cT M x with
  |some ds=>∀p,M p=none->Q (.ref p) (ai M p (.lst ds))
  |none=>False
 |_=>False
theorem td:dB X (.type "list") dList:=⟨_,sY,λ xs ds H M Q2 Q hd hm q k=>by
 cases ds with
 |nil=>exact q.elim
 |cons d r=>
  cases r with
  |cons d2 r2=>exact q.elim
  |nil=>
   obtain⟨x,r,rfl,hx,hr⟩:=ag.mp hd;cases(ao.mp hr);have q:(match cT M d with|some ds=>∀p,M p=none->Q2 (.ref p) (ai M p (.lst ds))|none=>False):=q;cases e:cT M d with
   |none=>rw[e]at q;exact q.elim
   |some es=>
    rw[e]at q;obtain⟨p,ys,rfl,h,hy⟩:=f_ e hx hm;exact⟨p,ys,rfl,h,λ l hl=>k _ _ (.ref l) _ (aE.mpr rfl) (dM hl hy hm) (ar.laid hl) (q l (hm.free hl))⟩⟩
def xC:List D->Mem->bR->Prop:=λ xs M Q=>match xs with
 |[x]=>match cT M x with
  |some ds=>Q (.tup ds) M
  |none=>False
 |_=>False
theorem bo:dB X (.type "tuple") xC:=⟨_,qe,λ xs ds H M Q2 Q hd hm q k=>by
 cases ds with
 |nil=>exact q.elim
 |cons d r=>
  cases r with
  |cons d2 r2=>exact q.elim
  |nil=>
   obtain⟨x,r,rfl,hx,hr⟩:=ag.mp hd;cases(ao.mp hr);have q:(match cT M d with|some ds=>Q2 (.tup ds) M|none=>False):=q;cases e:cT M d with
   |none=>rw[e]at q;exact q.elim
   |some es=>
    rw[e]at q;obtain⟨p,ys,rfl,h|h,hy⟩:=f_ e hx hm
    ·exact⟨p,ys,rfl,.inl ⟨h,λ l hl=>k _ _ (.tup es) M (jG hl hy) (hm.laid hl) (ar.laid hl) q⟩⟩
    ·exact⟨p,ys,rfl,.inr ⟨h,k _ H (.tup es) M (aZ.mpr ⟨p,ys,rfl,h,hy⟩) hm (ar.refl H) q⟩⟩⟩
theorem cw:lO xC (λ ds M Q=>Q (.tup ds) M):=λ ds M p Q hp hz q=>by
 show(match cT (ai M p (.lst ds)) (.ref p)with|some es=>fin2 Q (.tup es) (ai M p (.lst ds))|none=>False);have e:cT (ai M p (.lst ds)) (.ref p)=some ds:=by show bD (ai M p (.lst ds)) p=some ds;unfold bD;rw[af]
 rw[e];exact⟨M,(oV.refl M).put hp,q⟩
def ma:List D->Option (List Bool)
 |[]=>some []
 | .bl b::r=>(ma r).map (b::·)
 |_::_=>none
theorem oQ:∀(bs:List Bool),ma (bs.map D.bl)=some bs
 |[]=>rfl
 |b::bs=>by rw[G4];unfold ma;rw[oQ bs];rfl
theorem zR:∀{ds:List D} {bs:List Bool},ma ds=some bs->ds=bs.map D.bl
 |[],bs,e=>by cases e;rfl
 |d::r,bs,e=>by
  cases d with
  |bl b=>
   unfold ma at e;cases q:ma r with
   |none=>rw[q]at e;cases e
   |some cs=>rw[q]at e;cases e;rw[zR q];rfl
  |_=>cases e
def Sl:List D->Mem->bR->Prop:=λ xs M Q=>match xs with
 |[.ref a]=>match bD M a with
  |some ds=>match ma ds with
   |some bs=>Q (.bl (bs.all id)) M
   |none=>False
  |none=>False
 |_=>False
theorem Sz(hc:X.calm=true):dB X (.builtin "all") Sl:=⟨_,vD hc,λ xs ds H M Q2 Q hd hm q k=>by
 cases ds with
 |nil=>exact q.elim
 |cons d r=>
  cases r with
  |cons d2 r2=>cases d <;> exact q.elim
  |nil=>
   cases d with
   |ref a=>
    obtain⟨x,r,rfl,hx,hr⟩:=ag.mp hd;cases(ao.mp hr);cases(aE.mp hx);have q:(match bD M a with|some ds=>(match ma ds with|some bs=>Q2 (.bl (bs.all id)) M|none=>False)|none=>False):=q;cases e:bD M a with
    |none=>rw[e]at q;exact q.elim
    |some es=>
     rw[e]at q;cases eb:ma es with
     |none=>simp only[eb]at q
     |some bs=>simp only[eb]at q;obtain⟨ys,h,hy⟩:=fc e hm;rw[zR eb]at hy;exact⟨a,bs,rfl,fE.of (by rw[h,oJ hy]),k _ H _ M (ba.mpr rfl) hm (ar.refl H) q⟩
   |_=>exact q.elim⟩
theorem qP:bD (ai M p (.lst ds)) p=some ds:=by unfold bD;rw[af]
def zI:List D->Mem->bR->Prop:=λ ds M Q=>match ma ds with
 |some bs=>Q (.bl (bs.all id)) M
 |none=>False
theorem GJ:lO Sl zI:=λ ds M p Q hp hz q=>by
 show(match bD (ai M p (.lst ds)) p with|some ZG=>(match ma ZG with|some bs=>fin2 Q (.bl (bs.all id)) (ai M p (.lst ds))|none=>False)|none=>False);rw[qP];unfold zI at q;cases eb:ma ds with
 |none=>rw[eb]at q;exact q.elim
 |some bs=>rw[eb]at q;simp only[eb];exact⟨M,(oV.refl M).put hp,q⟩
def pI(M:Mem):D->Option String
 | .bw=>some "NoneType"
 | .bl _=>some "bool"
 | .int _=>some "int"
 | .str _=>some "str"
 | .tup _=>some "tuple"
 | .fl _=>some "list"
 | .ref a=>(bD M a).map λ _=>"list"
 |_=>none
def sG(n T:String):Bool:=n==T||(n=="bool"&&T=="int")
structure gP(K:L6)(T:String):Prop where
 bw:PySem.W.kitOne K (.type "NoneType") (.type T)=some (sG "NoneType" T)
 bl:PySem.W.kitOne K (.type "bool") (.type T)=some (sG "bool" T)
 int:PySem.W.kitOne K (.type "int") (.type T)=some (sG "int" T)
 str:PySem.W.kitOne K (.type "str") (.type T)=some (sG "str" T)
 tup:PySem.W.kitOne K (.type "tuple") (.type T)=some (sG "tuple" T)
 lst:PySem.W.kitOne K (.type "list") (.type T)=some (sG "list" T)
open PySem.Spec L2
theorem FK:c_ X (.builtin "isinstance") (λ xs H Q=>∃(x:V) (T n:String),xs=[x,.ty T]/\gP X.K T/\
  ((x=.bw/\n="NoneType")\/(∃b,x=.bl b/\n="bool")\/(∃i,x=.int i/\n="int")\/(∃z,x=.str z/\n="str")\/(∃p ys,x=.ref p/\gn X.K H p ys/\n="tuple")\/(∃p ys,x=.ref p/\fE X.K H p ys/\n="list"))/\Q (.bl (sG n T)) H):=by
 intro xz s σ H xs us Q I r h;obtain⟨x,T,n,rfl,ok,hx,q⟩:=h;obtain⟨u,w',rfl,rx,ry⟩:=vals2 r;have e:w'=Value.type T:=ry;subst e;rcases hx with⟨rfl,rfl⟩|⟨b,rfl,rfl⟩|⟨i,rfl,rfl⟩|⟨z,rfl,rfl⟩|⟨p,ys,rfl,hq,rfl⟩|⟨p,ys,rfl,hq,rfl⟩
 ·exact iP I rx .bw ok.bw λ tk=>⟨.bl _,H,I.tok tk,rfl,q⟩
 ·exact iP I rx (.bl b) ok.bl λ tk=>⟨.bl _,H,I.tok tk,rfl,q⟩
 ·exact iP I rx (.int i) ok.int λ tk=>⟨.bl _,H,I.tok tk,rfl,q⟩
 ·exact iP I rx (.str z) ok.str λ tk=>⟨.bl _,H,I.tok tk,rfl,q⟩
 ·cases(show u=Value.ref p from rx);obtain⟨ay,_,⟨o,h1,h2,_⟩,_⟩:=I.tuple hq;exact C0 PySem.W.kitx_tuple I.sE ⟨o,h1,h2⟩ ok.tup (λ z=>nomatch z) λ tk=>⟨.bl _,H,I.tok tk,rfl,q⟩
 ·cases(show u=Value.ref p from rx);obtain⟨ay,_,pl,_⟩:=I.list hq;obtain⟨o,h1,h2,_⟩:=pl.isList;exact C0 PySem.W.kitx_list I.sE ⟨o,h1,h2⟩ ok.lst (λ z=>nomatch z) λ tk=>⟨.bl _,H,I.tok tk,rfl,q⟩
def Lk(T:String):List D->Mem->bR->Prop:=λ xs M Q=>match xs with
 |[x,.ty U]=>U=T/\(match pI M x with
  |some n=>Q (.bl (sG n T)) M
  |none=>False)
 |_=>False
theorem gO(ok:gP X.K T):dB X (.builtin "isinstance") (Lk T):=⟨_,FK,λ xs ds H M Q2 Q hd hm q k=>by
 cases ds with
 |nil=>exact q.elim
 |cons d r0=>
 cases r0 with
 |nil=>exact q.elim
 |cons d2 r1=>
 cases r1 with
 |cons _ _=>cases d2 <;> exact q.elim
 |nil=>
 cases d2 with
 |ty U=>
  obtain⟨x,r,rfl,hx,hr⟩:=ag.mp hd;obtain⟨y,r2,rfl,hy,pQ⟩:=ag.mp hr;cases(ao.mp pQ);cases(xA.mp hy);obtain⟨rfl,q⟩:=q;cases e:pI M d with
  |none=>rw[e]at q;exact q.elim
  |some n=>
   rw[e]at q;refine⟨x,U,n,rfl,ok,?_,k _ H _ M (ba.mpr rfl) hm (ar.refl H) q⟩;cases d with
   |bw=>cases e;exact .inl ⟨dN.mp hx,rfl⟩
   |bl b=>cases e;exact .inr (.inl ⟨b,ba.mp hx,rfl⟩)
   |int i=>cases e;exact .inr (.inr (.inl ⟨i,ax.mp hx,rfl⟩))
   |str z=>cases e;exact .inr (.inr (.inr (.inl ⟨z,bj.mp hx,rfl⟩)))
   |tup es=>cases e;obtain⟨p,ys,rfl,h,_⟩:=aZ.mp hx;exact .inr (.inr (.inr (.inr (.inl ⟨p,ys,rfl,h,rfl⟩))))
   |fl es=>cases e;obtain⟨p,ys,rfl,h,_⟩:=jj.mp hx;exact .inr (.inr (.inr (.inr (.inr ⟨p,ys,rfl,h.sq,rfl⟩))))
   |ref a=>
    cases el:bD M a with
    |none=>have e:(bD M a).map (λ _=>"list")=some n:=e;rw[el]at e;cases e
    |some es=>have e:(bD M a).map (λ _=>"list")=some n:=e;rw[el]at e;cases e;obtain⟨ys,h,_⟩:=fc el hm;exact .inr (.inr (.inr (.inr (.inr ⟨a,ys,aE.mp hx,fE.of h,rfl⟩))))
   |ty n=>cases e
 |_=>exact q.elim⟩
def JU:kj:=λ o i v M N=>match o,i with
 | .ref a,.int k=>match bD M a with
  |some ds=>(match Bd ds.length k with
   |some j=>N (ai M a (.lst (ds.set j v)))
   |none=>False)
  |none=>False
 |_,_=>False
theorem nG:FX X JU:=⟨_,set_list,λ o i v d j e H M Q2 Q hd hj he hm q k=>by
 cases d with
 |ref a=>
  cases j with
  |int n=>
   cases(aE.mp hd);cases(ax.mp hj);have q:(match bD M a with|some ds=>(match Bd ds.length n with|some j=>Q2 (ai M a (.lst (ds.set j e)))|none=>False)|none=>False):=q;cases el:bD M a with
   |none=>rw[el]at q;exact q.elim
   |some ds=>
    rw[el]at q;cases ei:Bd ds.length n with
    |none=>simp only[ei]at q
    |some m=>simp only[ei]at q;obtain⟨xs,h,hx⟩:=fc el hm;refine⟨a,xs,n,m,rfl,rfl,h,by rw[hx.length];exact ei,?_⟩;exact k _ _ (hm.put (u:=.lst (ds.set m e)) (ar.lst h) ⟨_,aR,aD.mono (ar.lst h) _ (hx.set he m)⟩) (ar.lst h) q
  |_=>exact q.elim
 |_=>exact q.elim⟩
open L2
section
variable {Q:bR}{ta tb tc:cS}{r r':gJ}{E:kr}{t u:kC}{c c':fW}{tl:e_}{QL:List D->Mem->Prop}
theorem Mf(h:t {E with nx:=u E} δ M):CM t u E δ M:=h
theorem Dl(h:c δ M λ b M1=>if b=true then t E δ M1 else u E δ M1):Hd c t u E δ M:=h
theorem yq(h:E.nx δ M):yj E δ M:=h
theorem Mg(h:ta δ M E.rt):LV ta E δ M:=h
theorem Mu(h:ta δ M λ d M1=>g d δ M1 E.nx):uo ta g E δ M:=h
theorem rY(h:ta δ M λ _ M1=>E.nx δ M1):uk ta E δ M:=h
theorem eB(h:N (δ.set i (some d)) M):bd i d δ M N:=h
theorem Md{s:kj}(h:ta δ M λ o M1=>tb δ M1 λ j M2=>s o j d M2 λ M3=>N δ M3):hSub ta tb s d δ M N:=h
theorem Me{k:Int}{v:D}{N:Mem->Prop}(h:M a=some (.lst ds))(e:Bd ds.length k=some j)(q:N (ai M a (.lst (ds.set j v)))):JU (.ref a) (.int k) v M N:=by
 show(match bD M a with|some ds=>(match Bd ds.length k with|some j=>N (ai M a (.lst (ds.set j v)))|none=>False)|none=>False);have e1:bD M a=some ds:=by unfold bD;rw[h]
 rw[e1];simp only[e];exact q
theorem yo(h:ta δ M λ d M1=>match d with| .bl k=>QB k M1|_=>False):qK ta δ M QB:=h
theorem Kv(h:ta δ M λ d M1=>tb δ M1 λ e M2=>r d e M2 Q):CO r ta tb δ M Q:=h
theorem Qn{s:D->Mem->bR->Prop}(h:ta δ M λ d M1=>s d M1 Q):Uo s ta δ M Q:=h
theorem nN(e:δ[i]?=some (some d))(h:Q d M):jd i δ M Q:=by unfold jd;rw[e];exact h
theorem Ut(h:Q d M):sC d δ M Q:=h
theorem Mv(h:c δ M λ b M1=>if b=true then c' δ M1 QB else QB false M1):L8 c c' δ M QB:=h
theorem Qp(h:c δ M λ b M1=>if b=true then QB true M1 else c' δ M1 QB):Uq c c' δ M QB:=h
theorem Mi(h:c δ M λ b M1=>QB (!b) M1):LW c δ M QB:=h
theorem HG(h:ta δ M λ d M1=>match d with| .bl c=>(if c=true then tb δ M1 Q else Q (.bl false) M1)|_=>False):CS ta tb δ M Q:=h
theorem kT(h:QL [] M):AA δ M QL:=h
theorem my(h:ta δ M λ d M1=>tl δ M1 λ ds M2=>QL (d::ds) M2):qL ta tl δ M QL:=h
theorem Mb(h:tl δ M λ ds M1=>ds.length<=sizeLine/\Q (.tup ds) M1):LU tl δ M Q:=h
theorem Mm(h:tl δ M λ ds M1=>ds.length<=sizeLine/\∀p,M1 p=none->Q (.ref p) (ai M1 p (.lst ds))):LX tl δ M Q:=h
theorem Qr{s:List D->Mem->bR->Prop}(h:tl δ M λ ds M1=>s ds M1 Q):Pt s tl δ M Q:=h
theorem Us{sp:iY}(h:tl δ M λ ds M1=>sp ds M1 Q):sD sp tl δ M Q:=h
theorem yu{s:D->List D->Mem->bR->Prop}(h:ta δ M λ d M1=>Po T d M1/\tl δ M1 λ ds M2=>s d ds M2 Q):Pu T s ta tl δ M Q:=h
theorem Mt{s:D->List D->Mem->bR->Prop}(h:ta δ M λ d M1=>Po T d M1/\s d [] M1 Q):L7 T s ta δ M Q:=h
theorem gB(W:dF->Mem->Prop)(h1:∀N:dF->Mem->Prop,(∀δ' M',W δ' M'->N δ' M')->t {E with nx:=N} δ M)(h2:∀δ' M',W δ' M'->u E δ' M'):CM t u E δ M:=h1 (u E) h2
set_option tactic.hygienic true in
theorem qz{o:MO}(h:M a=some o):ai M a o=M:=by
 funext b;unfold ai;split
 ·rename_i e;rw[e,h]
 ·rfl
theorem cF{i:Int}(h:M a=some (.lst ds))(e:gS ds i=some d)(q:Q d M):PQ (.ref a) (.int i) M Q:=by
 show(match bD M a with|some ds=>(match gS ds i with|some d=>Q d M|none=>False)|none=>False);have e1:bD M a=some ds:=by unfold bD;rw[h]
 rw[e1];simp only[e];exact q
theorem bp{i:Int}(e:gS ds i=some d)(q:Q d M):PQ (.tup ds) (.int i) M Q:=by show(match gS ds i with|some d=>Q d M|none=>False);rw[e];exact q
theorem Ur{g:Int->Int->D}{i j:Int}(h:C i j)(q:Q (g i j) M):dI C g (.int i) (.int j) M Q:=⟨h,q⟩
theorem Df{g:Int->Int->D}{i j:Int}(h:0 < j)(q:Q (g i j) M):dI (λ _ j=>0 < j) g (.int i) (.int j) M Q:=⟨h,q⟩
theorem Ms{g:Int->Int->D}{i j:Int}(h:0 < j)(h2:j < 1073741824)(q:Q (g i j) M):dI Pn g (.int i) (.int j) M Q:=⟨⟨h,h2⟩,q⟩
theorem O7{i j:Int}(h0: -1000000000000<=i)(h1:i<=1000000000000):tN i j:=.inl ⟨Int.lt_of_lt_of_le (by decide) h0,q9 h1 (by decide)⟩
theorem FI{i j:Int}(h0: -1000000000000<=j)(h1:j<=1000000000000):tN i j:=.inr ⟨Int.lt_of_lt_of_le (by decide) h0,q9 h1 (by decide)⟩
theorem Qq{g:Int->Int->D}{i j:Int}(q:Q (g i j) M):Lm g (.int i) (.int j) M Q:=q
theorem HH{b:ww}{xs ys:List D}(ha:M a=some (.lst xs))(hb:M b=some (.lst ys))(h:xs.length+ys.length<=sizeLine)(q:∀p,M p=none->Q (.ref p) (ai M p (.lst (xs++ys)))):JW (.ref a) (.ref b) M Q:=by show(match M a,M b with|some (.lst xs),some (.lst ys)=>xs.length+ys.length<=sizeLine/\∀p,M p=none->Q (.ref p) (ai M p (.lst (xs++ys)))|_,_=>False);rw[ha,hb];exact⟨h,q⟩
theorem Hr{i j:Int}(h:tN i j)(q:Q (.int (i*j)) M):OY (.int i) (.int j) M Q:=⟨h,q⟩
theorem Mq{i j:Int}(q:Q (.bl (decide (i=j))) M):Ln false (.int i) (.int j) M Q:=by show Q (.bl (xor false (decide (i=j)))) M;simpa using q
theorem Mr{i j:Bool}(q:Q (.bl (decide (i=j))) M):Ln false (.bl i) (.bl j) M Q:=by show Q (.bl (xor false (decide (i=j)))) M;simpa using q
theorem Mp{i j:Str}(q:Q (.bl (decide (i=j))) M):Ln false (.str i) (.str j) M Q:=by show Q (.bl (xor false (decide (i=j)))) M;simpa using q
theorem Mk{i j:Int}(q:Q (.bl (!decide (i=j))) M):Ln true (.int i) (.int j) M Q:=by show Q (.bl (xor true (decide (i=j)))) M;simpa using q
theorem Ml{i j:Bool}(q:Q (.bl (!decide (i=j))) M):Ln true (.bl i) (.bl j) M Q:=by show Q (.bl (xor true (decide (i=j)))) M;simpa using q
theorem Hv(h:M a=some (.lst ds))(q:Q (.int ds.length) M):By [.ref a] M Q:=by
 show(match bD M a with|some ds=>Q (.int ds.length) M|none=>False);have e1:bD M a=some ds:=by unfold bD;rw[h]
 rw[e1];exact q
theorem mr(q:Q (.int ds.length) M):By [.tup ds] M Q:=q
theorem Dh(q:∀p,M p=none->Q (.ref p) (ai M p (.lst ds))):dList [.fl ds] M Q:=q
theorem Mj{i:Int}(q:Q (.int (-i)) M):Se (.int i) M Q:=q
theorem aO{P:Prop}{inst:Decidable P}{A B:Prop}(h1:P->A)(h2:¬P->B):if @decide P inst=true then A else B:=by
 by_cases h:P
 ·rw[C8 h,K9 rfl];exact h1 h
 ·rw[B3 h,L1 n9];exact h2 h
theorem mw{P:Prop}{inst:Decidable P}{A B:Prop}(h1:¬P->A)(h2:P->B):if(!@decide P inst)=true then A else B:=by
 by_cases h:P
 ·rw[C8 h,Bool.not_true,L1 n9];exact h2 h
 ·rw[B3 h,Bool.not_false,K9 rfl];exact h1 h
theorem Hx{A B:Prop}(h:A):if true=true then A else B:=by rw[K9 rfl];exact h
theorem Hy{A B:Prop}(h:B):if false=true then A else B:=by rw[L1 n9];exact h
theorem eC{A B:Prop}(h1:b=true->A)(h2:b=false->B):if b=true then A else B:=by
 cases b with
 |true=>rw[K9 rfl];exact h1 rfl
 |false=>rw[L1 n9];exact h2 rfl
end
open L2
section
variable {tb:kC}{δc:dF}{E:kr}
theorem jo(Pv:Nat->List D->Mem->Prop)(h0:Pv 0 [] M1)(hz:∀i zn M,i<=ds.length->Pv i zn M->zn.length<=sizeLine) (hs:∀i d zn M,ds[i]?=some d->Pv i zn M->g d δc M λ δ2 M2=>tt δ2 M2 λ b M3=>if b=true then te δ2 M3 λ y M4=>Pv (i+1) (zn++[y]) M4 else Pv (i+1) zn M3) (hd:∀zn M,Pv ds.length zn M->Qe zn M):∃(B:Nat) (W:Nat->List D->Mem->Prop),W 0 [] M1/\∀i zn M,W i zn M->i<=B/\zn.length<=sizeLine/\match ad (.fix ds) M with
   |none=>False
   |some ds=>match ds[i]? with
    |none=>i=ds.length/\Qe zn M
    |some d=>g d δc M λ δ2 M2=>tt δ2 M2 λ b M3=>if b=true then te δ2 M3 λ y M4=>W (i+1) (zn++[y]) M4 else W (i+1) zn M3:=by
 refine⟨ds.length,λ i zn M=>if i<=ds.length then Pv i zn M else False,by dsimp only;rw[K9 (J9 _)];exact h0,?_⟩;intro i zn M w;by_cases hi:i<=ds.length
 ·rw[K9 hi]at w;refine⟨hi,hz i zn M hi w,?_⟩;show(match ds[i]? with
    |none=>i=ds.length/\Qe zn M
    |some d=>g d δc M λ δ2 M2=>tt δ2 M2 λ b M3=>if b=true then te δ2 M3 λ y M4=>(if i+1<=ds.length then Pv (i+1) (zn++[y]) M4 else False)else(if i+1<=ds.length then Pv (i+1) zn M3 else False))
  cases e:ds[i]? with
  |none=>have:i=ds.length:=C4 hi (i4.mp e);subst this;exact⟨rfl,hd zn M w⟩
  |some d=>have gg:i+1<=ds.length:=(i3.mp e).1;simp only[K9 gg];exact hs i d zn M e w
 ·rw[L1 hi]at w;exact w.elim
theorem iw(Pv:Nat->dF->Mem->Prop)(h0:Pv 0 δ M1) (hs:∀i d δ M,ds[i]?=some d->Pv i δ M->g d δ M λ δ2 M2=>tb {E with nx:=Pv (i+1),ct:=Pv (i+1),bk:=E.nx} δ2 M2) (hd:∀δ M,Pv ds.length δ M->E.nx δ M):∃(B:Nat) (W:Nat->dF->Mem->Prop),W 0 δ M1/\∀i δ M,W i δ M->i<=B/\match ad (.fix ds) M with
   |none=>False
   |some ds=>match ds[i]? with
    |none=>i=ds.length/\E.nx δ M
    |some d=>g d δ M λ δ2 M2=>tb {E with nx:=W (i+1),ct:=W (i+1),bk:=E.nx} δ2 M2:=by
 refine⟨ds.length,λ i δ M=>if i<=ds.length then Pv i δ M else False,by dsimp only;rw[K9 (J9 _)];exact h0,?_⟩;intro i δ M w;by_cases hi:i<=ds.length
 ·rw[K9 hi]at w;refine⟨hi,?_⟩;show(match ds[i]? with
    |none=>i=ds.length/\E.nx δ M
    |some d=>g d δ M λ δ2 M2=>tb {E with nx:=(λ δ M=>if i+1<=ds.length then Pv (i+1) δ M else False),ct:=(λ δ M=>if i+1<=ds.length then Pv (i+1) δ M else False),bk:=E.nx} δ2 M2)
  cases e:ds[i]? with
  |none=>have:i=ds.length:=C4 hi (i4.mp e);subst this;exact⟨rfl,hd δ M w⟩
  |some d=>have gg:i+1<=ds.length:=(i3.mp e).1;simp only[K9 gg];exact hs i d δ M e w
 ·rw[L1 hi]at w;exact w.elim
theorem zq(Pv:Nat->dF->Mem->Prop)(h0:Pv 0 δ M1)(hl:∀i δ M,i<=ds.length->Pv i δ M->M a=some (.lst ds)) (hs:∀i d δ M,ds[i]?=some d->Pv i δ M->g d δ M λ δ2 M2=>tb {E with nx:=Pv (i+1),ct:=Pv (i+1),bk:=E.nx} δ2 M2) (hd:∀δ M,Pv ds.length δ M->E.nx δ M):∃(B:Nat) (W:Nat->dF->Mem->Prop),W 0 δ M1/\∀i δ M,W i δ M->i<=B/\match ad (.at a) M with
   |none=>False
   |some ds=>match ds[i]? with
    |none=>i=ds.length/\E.nx δ M
    |some d=>g d δ M λ δ2 M2=>tb {E with nx:=W (i+1),ct:=W (i+1),bk:=E.nx} δ2 M2:=by
 refine⟨ds.length,λ i δ M=>if i<=ds.length then Pv i δ M else False,by dsimp only;rw[K9 (J9 _)];exact h0,?_⟩;intro i δ M w;by_cases hi:i<=ds.length
 ·rw[K9 hi]at w;refine⟨hi,?_⟩;have e0:ad (.at a) M=some ds:=by show(match M a with|some (.lst ds)=>some ds|_=>none)=some ds;rw[hl i δ M hi w]
  rw[e0];show(match ds[i]? with
    |none=>i=ds.length/\E.nx δ M
    |some d=>g d δ M λ δ2 M2=>tb {E with nx:=(λ δ M=>if i+1<=ds.length then Pv (i+1) δ M else False),ct:=(λ δ M=>if i+1<=ds.length then Pv (i+1) δ M else False),bk:=E.nx} δ2 M2)
  cases e:ds[i]? with
  |none=>have:i=ds.length:=C4 hi (i4.mp e);subst this;exact⟨rfl,hd δ M w⟩
  |some d=>have gg:i+1<=ds.length:=(i3.mp e).1;simp only[K9 gg];exact hs i d δ M e w
 ·rw[L1 hi]at w;exact w.elim
end
section
variable {Q:bR}{ta:cS}{E:kr}{tb:kC}{tl:e_}
theorem Mc{r3:List D->Mem->bR->Prop}(h:wi δ M λ src M1=>∃(B:Nat) (W:Nat->List D->Mem->Prop),W 0 [] M1/\∀i zn M,W i zn M->i<=B/\zn.length<=sizeLine/\match ad src M with
   |none=>False
   |some ds=>match ds[i]? with
    |none=>i=ds.length/\r3 zn M Q
    |some d=>g d (jq n fr δ) M λ δ2 M2=>tt δ2 M2 λ b M3=>if b=true then te δ2 M3 λ y M4=>W (i+1) (zn++[y]) M4 else W (i+1) zn M3):Az r3 wi g tt te n fr δ M Q:=h
theorem Ds{Qe:List D->Mem->Prop}(h:wi δ M λ src M1=>∃(B:Nat) (W:Nat->List D->Mem->Prop),W 0 [] M1/\∀i zn M,W i zn M->i<=B/\zn.length<=sizeLine/\match ad src M with
   |none=>False
   |some ds=>match ds[i]? with
    |none=>i=ds.length/\Qe zn M
    |some d=>g d (jq n fr δ) M λ δ2 M2=>tt δ2 M2 λ b M3=>if b=true then te δ2 M3 λ y M4=>W (i+1) (zn++[y]) M4 else W (i+1) zn M3):nH wi g tt te n fr δ M Qe:=h
theorem HD(h:nH wi g tt te n fr δ M λ ds M'=>∀p,M' p=none->Q (.ref p) (ai M' p (.lst ds))):um wi g tt te n fr δ M Q:=h
theorem Mn(h:wi δ M λ src M1=>∃(B:Nat) (W:Nat->dF->Mem->Prop),W 0 δ M1/\∀i δ M,W i δ M->i<=B/\match ad src M with
   |none=>False
   |some ds=>match ds[i]? with
    |none=>i=ds.length/\E.nx δ M
    |some d=>g d δ M λ δ2 M2=>tb {E with nx:=W (i+1),ct:=W (i+1),bk:=E.nx} δ2 M2):LY wi g tb E δ M:=h
theorem Hn(h:tl δ M λ ds M1=>match ds with|[.int j]=>Wm j/\R (.fix (cG 0 j.toNat)) M1|_=>False):Ew tl δ M R:=h
theorem Ma(h:QB true M):uj δ M QB:=h
end
end L3
namespace L4
open PySem.Spec L2 L3
structure WE(X:Cx)(e:Expr)(t:cS):Prop where
 h:QE X e t
structure WT(X:Cx)(e:Expr)(t:fW):Prop where
 h:QT X e t
structure WW(X:Cx)(e:Expr)(t:fW):Prop where
 h:QW X e t
structure WA(X:Cx)(e:List Expr)(t:e_):Prop where
 h:QA X e t
structure WS(X:Cx)(e:Stmt)(t:kC):Prop where
 h:QS X e t
structure Gy(X:Cx)(e:List Stmt)(t:kC):Prop where
 h:Gz X e t
structure WG(X:Cx)(e:Expr)(t:iW):Prop where
 h:QG X e t
structure TK(X:Cx)(e:List Expr)(t:oU):Prop where
 h:SE X e t
structure Wc(X:Cx)(e:List Expr)(t:fW):Prop where
 h:TQ X e t
structure WI(X:Cx)(tg e:Expr)(t:rD):Prop where
 h:QI X tg e t
theorem WW.pt{t:fW}(w:WW X e t):WT X e t:=⟨w.h.pt⟩
structure Kg(X:Cx)(scope:Scope)(tgs:List Str)(fr:List Nat)(tg:Expr)(g:iW):Prop where
 h:SA X scope tgs fr tg g
structure iV(X:Cx)(scope:Scope)(tgs:List Str)(fr:List Nat)(tg iter:Expr)(ifs:List Expr)(elt:Expr)(wi:rD)(g:iW)(tt:fW)(te:cS):Prop where
 b:kB X scope fr
 calm:X.calm=true
 xe:∀e s,X.xe e s->False
 it:WI X tg iter wi
 XA:Kg X scope tgs fr tg g
 ifs:∀cl C fp s H,Wc (bE X scope cl tgs fr C fp s H) ifs tt
 elt:∀cl C fp s H,WE (bE X scope cl tgs fr C fp s H) elt te
theorem iV.h{elt:Expr}(C:iV X scope tgs fr tg iter ifs elt wi g tt te):pb X scope tgs fr tg iter ifs elt wi g tt te:=
 ⟨C.b,C.calm,C.xe,C.it.h,C.XA.h,λ cl D fp s H=>(C.ifs cl D fp s H).h,λ cl D fp s H=>(C.elt cl D fp s H).h⟩
section
variable {a b:Expr}{ta tb tc:cS}{pos:Pos}
theorem ak(i:Nat)(hN:X.N[i]?=some x:=by rfl)(hv:TL X.env.scope x:=by first|exact Or.inl rfl|exact Or.inr (Or.inl rfl)|exact Or.inr (Or.inr rfl))(hd:(x==("__debug__":Str))=false:=by decide)(hcd:(x==("__classdict__":Str))=false:=by decide):WE X (.Name x pos) (jd i):=⟨XW (i:=i) (hN:=hN) (hv:=hv) (hd:=hd) (hcd:=hcd)⟩
theorem ah{i j:_}:WE X (.Constant (.int i) j pos) (sC (.int i)):=⟨QN⟩
theorem GH{i j:_}:WE X (.Constant (.bool i) j pos) (sC (.bl i)):=⟨UE⟩
theorem xX{i j:_}:WE X (.Constant (.str i) j pos) (sC (.str i)):=⟨QH⟩
theorem qu{j:_}:WE X (.Constant .none j pos) (sC .bw):=⟨QK⟩
theorem lS{n:String}(hg:Gl X x)(hm:X.mg x=none)(hv:bootBuiltins x=some (.type n))(hn:x≠"__name__":=by decide)(hd:(x==("__debug__":Str))=false:=by decide):WE X (.Name x pos) (sC (.ty n)):=⟨UA (hg:=hg) (hm:=hm) (hv:=hv) (hn:=hn) (hd:=hd)⟩
theorem bS{op:Operator}{r2:gJ}(o:gr X (binaryOp op) r2)(ha:WE X a ta)(hb:WE X b tb):WE X (.BinOp a op b pos) (CO r2 ta tb):=⟨UB (o:=o) (ha:=ha.h) (hb:=hb.h)⟩
theorem PZ{op:UnaryOp}{r2:D->Mem->bR->Prop}(o:Wd X (unaryOp op) r2)(ha:WE X a ta):WE X (.UnaryOp op a pos) (Uo r2 ta):=⟨Uz (o:=o) (ha:=ha.h)⟩
theorem eU{op:CmpOp}{r2:gJ}(o:gr X (compareOp op) r2)(ha:WE X a ta)(hb:WE X b tb)(hm:behindInMarks op b=false):WE X (.Compare a [op] [b] pos) (CO r2 ta tb):=⟨QP (o:=o) (ha:=ha.h) (hb:=hb.h) (hm:=hm)⟩
theorem aI{op:CmpOp}{r2:gJ}(o:gr X (compareOp op) r2)(ha:WE X a ta)(hb:WE X b tb)(hm:behindInMarks op b=false):WT X (.Compare a [op] [b] pos) (qK (CO r2 ta tb)):=⟨MD (o:=o) (ha:=ha.h) (hb:=hb.h) (hm:=hm)⟩
theorem gT(h:WE X e ta)(he:∀whole,isTrue e X.env whole=(do let v <- whole;standAt e.pos;holding [v] (truthy v)):=by intro _;rfl):WT X e (qK ta):=⟨MB (h:=h.h) (he:=he)⟩
variable {tA tB:fW}
theorem rJ(ha:WT X a tA):WW X (.BoolOp .And [a] pos) tA:=⟨HJ (ha:=ha.h)⟩
theorem vY(ha:WT X a tA):WW X (.BoolOp .Or [a] pos) tA:=⟨My (ha:=ha.h)⟩
theorem mU(ha:WT X a tA)(hb:WW X (.BoolOp .And (b::rest) pos) tB):WW X (.BoolOp .And (a::b::rest) pos) (L8 tA tB):=⟨Mz (ha:=ha.h) (hb:=hb.h)⟩
theorem BY(ha:WT X a tA)(hb:WW X (.BoolOp .Or (b::rest) pos) tB):WW X (.BoolOp .Or (a::b::rest) pos) (Uq tA tB):=⟨QC (ha:=ha.h) (hb:=hb.h)⟩
theorem vZ(ha:WT X a tA):WT X (.UnaryOp .Not a pos) (LW tA):=⟨MC (ha:=ha.h)⟩
theorem tW{op:_}(h:WE X a ta):WE X (.BoolOp op [a] pos) ta:=⟨QJ (h:=h.h)⟩
theorem w_and(ha:WE X a ta)(hb:WE X (.BoolOp .And (b::rest) pos) tb):WE X (.BoolOp .And (a::b::rest) pos) (CS ta tb):=⟨QR (ha:=ha.h) (hb:=hb.h)⟩
variable {t:e_}
theorem ab:WA X [] AA:=⟨ML⟩
theorem aa(ha:WE X e ta)(hr:WA X es t)(hs:starEach (e::es) X.env=(false,eval e X.env)::starEach es X.env:=by rfl):WA X (e::es) (qL ta t):=⟨HV (ha:=ha.h) (hr:=hr.h) (hs:=hs)⟩
theorem dA{x1:_}(h:WA X es t):WE X (.Tuple es x1 pos) (LU t):=⟨QF (h:=h.h)⟩
theorem cU(h:WA X es t):WE X (.List es pos) (LX t):=⟨QM (h:=h.h)⟩
theorem aJ{r2:gJ}(o:SG X r2)(ha:WE X a ta)(hb:WE X b tb)(hs:tH b):WE X (.Subscript a b pos) (CO r2 ta tb):=⟨UC (o:=o) (ha:=ha.h) (hb:=hb.h) (hs:=hs)⟩
variable {lo hi:Option Expr}{tl th:TO2}
variable {p:Pos}{id:String}
theorem aA(o:dB X (.builtin id) r2)(hg:Gl X x)(hm:X.mg x=none)(hv:bootBuiltins x=some (.builtin id))(ha:WA X (e::es) t)(hn:x≠"__name__":=by decide)(hdb:(x==("__debug__":Str))=false:=by decide)(he:starEach (e::es) X.env=(false,eval e X.env)::starEach es X.env:=by rfl)(hpl:(backTo pos (starEach es X.env)).any (·.1)=false:=by rfl):WE X (.Call (.Name x p) (e::es) [] pos) (Pt r2 t):=⟨HZ (o:=o) (hg:=hg) (hm:=hm) (hv:=hv) (ha:=ha.h) (hn:=hn) (hdb:=hdb) (he:=he) (hpl:=hpl)⟩
theorem bq(o:dB X (.type T) r2)(hg:Gl X x)(hm:X.mg x=none)(hv:bootBuiltins x=some (.type T))(ha:WA X (e::es) t)(hn:x≠"__name__":=by decide)(hdb:(x==("__debug__":Str))=false:=by decide)(he:starEach (e::es) X.env=(false,eval e X.env)::starEach es X.env:=by rfl)(hpl:(backTo pos (starEach es X.env)).any (·.1)=false:=by rfl):WE X (.Call (.Name x p) (e::es) [] pos) (Pt r2 t):=⟨HY (o:=o) (hg:=hg) (hm:=hm) (hv:=hv) (ha:=ha.h) (hn:=hn) (hdb:=hdb) (he:=he) (hpl:=hpl)⟩
end
section
variable {o:Expr}{t:e_}{id:String}
theorem P0{r2:D->List D->Mem->bR->Prop}(pa:PlainAttrs T)(slot:Slot T name id)(hty:typeOf (.builtin id)=pure (.type "method_descriptor"))(hm:Ls X id r2)(ho:WE X o to)(hbase:attributeBase o name X.env (eval o X.env)=eval o X.env:=by rfl)(hline:(apos.endLine==cp.line)=true:=by rfl):WE X (.Call (.Attribute o name apos) [] [] cp) (L7 T r2 to):=⟨QQ (pa:=pa) (slot:=slot) (hty:=hty) (hm:=hm) (ho:=ho.h) (hbase:=hbase) (hline:=hline)⟩
theorem eQ{r2:D->List D->Mem->bR->Prop}(pa:PlainAttrs T)(slot:Slot T name id)(hty:typeOf (.builtin id)=pure (.type "method_descriptor"))(hm:Ls X id r2)(ho:WE X o to)(ha:WA X (e::es) t)(hbase:attributeBase o name X.env (eval o X.env)=eval o X.env:=by rfl)(hfew:((backTo cp (starEach (e::es) X.env)).all (λ x=>!x.1)&&(backToKw cp (keywordEach [] X.env)).all (λ x=>x.1.isSome)
   &&decide ((e::es).length+([]:List Keyword).length+(if([]:List Keyword).isEmpty then 0 else 1) < 30))=true:=by rfl) (hline:(apos.endLine==cp.line)=true:=by rfl) (hs:starEach (e::es) X.env=(false,eval e X.env)::starEach es X.env:=by rfl) (hplain:(backTo cp (starEach es X.env)).any (·.1)=false:=by rfl):WE X (.Call (.Attribute o name apos) (e::es) [] cp) (Pu T r2 to t):=⟨UD (pa:=pa) (slot:=slot) (hty:=hty) (hm:=hm) (ho:=ho.h) (ha:=ha.h) (hbase:=hbase) (hfew:=hfew) (hline:=hline) (hs:=hs) (hplain:=hplain)⟩
end
section
variable {p pos:Pos}{t:e_}{sp:iY}
theorem aK(d:cL X.prog X.w X.K X.mg X.base k x ps sp)(hr:de k X.A)(hg:Gl X x)(ha:WA X (e::es) t)(hdb:(x==("__debug__":Str))=false:=by decide)(he:starEach (e::es) X.env=(false,eval e X.env)::starEach es X.env:=by rfl)(hpl:(backTo pos (starEach es X.env)).any (·.1)=false:=by rfl):WE X (.Call (.Name x p) (e::es) [] pos) (sD sp t):=⟨QO (d:=d) (hr:=hr) (hg:=hg) (ha:=ha.h) (hdb:=hdb) (he:=he) (hpl:=hpl)⟩
end
section
variable {rest:List Stmt}{t u:kC}{pos:Pos}
theorem aP:Gy X [] yj:=⟨HL⟩
theorem aj(h:WS X st t):Gy X [st] t:=⟨HK (h:=h.h)⟩
theorem ae(h1:WS X st t)(h2:Gy X rest u):Gy X (st::rest) (CM t u):=⟨Dx (h1:=h1.h) (h2:=h2.h)⟩
theorem cb(he:WE X e te)(hs:swapsWith e none pos.line X.env=pure false:=by rfl):WS X (.Expr e pos) (uk te):=⟨HM (he:=he.h) (hs:=hs)⟩
theorem aL(he:WE X e te):WS X (.Return (some e) pos) (LV te):=⟨MF (he:=he.h)⟩
theorem bG{a b:List Stmt}(hc:WT X c tc)(ha:Gy X a t)(hb:Gy X b u):WS X (.If c a b pos) (Hd tc t u):=⟨QD (hc:=hc.h) (ha:=ha.h) (hb:=hb.h)⟩
theorem bF(hN:X.N.Nodup)(hi:X.N[i]?=some x)(hx:Loc X.env.scope x)(hf:X.fn x=true\/X.env.scope.names.lookup x=some .local:=by first|exact .inl rfl|exact .inr rfl|assumption):WG X (.Name x pos) (bd i):=⟨HU (hN:=hN) (hi:=hi) (hx:=hx) (hf:=hf)⟩
theorem iF:TK X [] pV:=⟨HS⟩
theorem cM{t:iW}{u:oU}(h1:WG X e t)(h2:TK X es u)(hs:(assignEach (e::es) X.env).map (·.2)=assign e X.env::(assignEach es X.env).map (·.2):=by rfl):TK X (e::es) (dq t u):=⟨Dz (h1:=h1.h) (h2:=h2.h) (hs:=hs)⟩
theorem kH{t:oU}(hc:X.calm=true)(h:TK X es t)(hn:(assignEach es X.env).length=n:=by rfl)(hst:(assignEach es X.env).findIdx? (·.1)=none:=by rfl):WG X (.Tuple es k pos) (pU n t):=⟨MJ (hc:=hc) (h:=h.h) (hn:=hn) (hst:=hst)⟩
theorem jc{o i:Expr}{to ti:cS}{t:kj}(ho:WE X o to)(hi:WE X i ti)(hs:FX X t)(ha:∀v,assign (.Subscript o i pos) X.env v=(do
   let ov <- holding [v] (eval o X.env)
   let iv <- holding [v,ov] (eval i X.env)
   standAt pos
   holding [v,ov,iv] (setItem ov iv v)
   release [v,ov,iv] []):=by intro _;rfl):WG X (.Subscript o i pos) (hSub to ti t):=⟨MK (ho:=ho.h) (hi:=hi.h) (hs:=hs) (ha:=ha)⟩
theorem gu(he:WE X e te)(hg:WG X tg g)(hs:swapsWithSole [tg] e pos.line X.env=pure false:=by rfl)(hw:swappedStores [tg] e X.env=pure none:=by rfl)(h1:(assignEach [tg] X.env).map (·.2)=[assign tg X.env]:=by rfl):WS X (.Assign [tg] e pos) (uo te g):=⟨MH (he:=he.h) (hg:=hg.h) (hs:=hs) (hw:=hw) (h1:=h1)⟩
theorem aB(hN:X.N.Nodup)(hi:X.N[i]?=some x)(hx:Loc X.env.scope x)(he:WE X e te)(hs:swapsWith e (some (.Name x pos')) pos.line X.env=pure false:=by rfl)(hf:X.fn x=true\/X.env.scope.names.lookup x=some .local:=by first|exact .inl rfl|exact .inr rfl|assumption):WS X (.Assign [.Name x pos'] e pos) (uo te (bd i)):=⟨ME (hN:=hN) (hi:=hi) (hx:=hx) (he:=he.h) (hs:=hs) (hf:=hf)⟩
end
section
variable {l:Expr}{tl:cS}{ta:e_}{a b:Expr}{p pos:Pos}
theorem cj(hl:WE X l tl):WI X tg l (Oh tl):=⟨MI (hl:=hl.h)⟩
theorem bu(hg:Gl X "range")(hm:X.mg "range"=none)(ha:WA X [a] ta)(hs:starEach [a] X.env=[(false,eval a X.env)]:=by rfl):WI X tg (.Call (.Name "range" p) [a] [] pos) (Ew ta):=⟨AK (hg:=hg) (hm:=hm) (ha:=ha.h) (hs:=hs)⟩
end
section
variable {tb:kC}{pos:Pos}
theorem dU(hp:PassesOwn (model X.prog X.w) X.A X.env X.xe)(hc:X.calm=true)(hi:WI X tg iter wi)(hg:WG X tg g)(hb:Gy X body tb)(hs:∀x,foldedSetIterable iter X.env x=pure x:=by intro _;rfl):WS X (.For tg iter body [] pos) (LY wi g tb):=⟨MG (hp:=hp) (hc:=hc) (hi:=hi.h) (hg:=hg.h) (hb:=hb.h) (hs:=hs)⟩
end
section
variable {tb:kC}{pos:Pos}
theorem fg(hp:PassesOwn (model X.prog X.w) X.A X.env X.xe)(hc:WT X c tc)(hb:Gy X body tb):WS X (.While c body [] pos) (wx tc tb):=⟨Dy (hp:=hp) (hc:=hc.h) (hb:=hb.h)⟩
end
section
variable {elt:Expr}{pos:Pos}
theorem bc:Wc X [] uj:=⟨HQ⟩
theorem iE{t:fW}(h:WT X c t):Wc X [c] t:=⟨HN (h:=h.h)⟩
theorem aQ{ps:Pos}(h:∀cl C fp s H,PG (bE X scope cl tgs fr C fp s H) (.Name x ps) (cY i))(hi:i < tgs.length):Kg X scope tgs fr (.Name x ps) (bd i):=⟨GP (h:=h) (hi:=hi)⟩
theorem jE{y:Str}{px py pt:Pos}(h:∀cl C fp s H,PG (bE X scope cl tgs fr C fp s H) (.Tuple [.Name x px,.Name y py] k pt) (vd X.K 2 (dR (cY i) (dR (cY j) sR))))(hi:i < tgs.length)(hj:j < tgs.length):Kg X scope tgs fr (.Tuple [.Name x px,.Name y py] k pt) (pU 2 (dq (bd i) (dq (bd j) pV))):=⟨GO (h:=h) (hi:=hi) (hj:=hj)⟩
theorem eO(C:iV X scope tgs fr tg iter ifs elt wi g tt te)(hs:∀x,foldedSetIterable iter X.env x=pure x:=by intro _;rfl):WE X (.ListComp elt [⟨tg,iter,ifs,0⟩] scope pos) (um wi g tt te tgs.length fr):=⟨MU (C:=C.h) (hs:=hs)⟩
theorem df{y:Str}{py ud:Pos}(hN:X.N.Nodup)(hiy:X.N[i]?=some y)(hy:Loc X.env.scope y)(C:iV X scope tgs fr tg iter ifs elt wi g tt te)(hsw:swapsWith (.ListComp elt [⟨tg,iter,ifs,0⟩] scope pos) (some (.Name y py)) ud.line X.env=pure true:=by rfl)(hf:X.fn y=true\/X.env.scope.names.lookup y=some .local:=by first|exact .inl rfl|exact .inr rfl|assumption)(hs:∀x,foldedSetIterable iter X.env x=pure x:=by intro _;rfl):WS X (.Assign [.Name y py] (.ListComp elt [⟨tg,iter,ifs,0⟩] scope pos) ud) (uo (um wi g tt te tgs.length fr) (bd i)):=⟨wD (hN:=hN) (hiy:=hiy) (hy:=hy) (C:=C.h) (hsw:=hsw) (hf:=hf) (hs:=hs)⟩
variable {p:Pos}{id:String}
theorem Cb{r3:List D->Mem->bR->Prop}(o:dB X (.builtin id) r2)(h3:lO r2 r3)(hg:Gl X x)(hm:X.mg x=none)(hv:bootBuiltins x=some (.builtin id))(C:iV X scope tgs fr tg iter ifs elt wi g tt te)(hn:x≠"__name__":=by decide)(hdb:(x==("__debug__":Str))=false:=by decide)(hs:∀x,foldedSetIterable iter X.env x=pure x:=by intro _;rfl):WE X (.Call (.Name x p) [.ListComp elt [⟨tg,iter,ifs,0⟩] scope cp] [] pos) (Az r3 wi g tt te tgs.length fr):=⟨MN (o:=o) (h3:=h3) (hg:=hg) (hm:=hm) (hv:=hv) (C:=C.h) (hn:=hn) (hdb:=hdb) (hs:=hs)⟩
theorem fh{r3:List D->Mem->bR->Prop}(o:dB X (.type T) r2)(h3:lO r2 r3)(hg:Gl X x)(hm:X.mg x=none)(hv:bootBuiltins x=some (.type T))(C:iV X scope tgs fr tg iter ifs elt wi g tt te)(hn:x≠"__name__":=by decide)(hdb:(x==("__debug__":Str))=false:=by decide)(hs:∀x,foldedSetIterable iter X.env x=pure x:=by intro _;rfl):WE X (.Call (.Name x p) [.ListComp elt [⟨tg,iter,ifs,0⟩] scope cp] [] pos) (Az r3 wi g tt te tgs.length fr):=⟨MM (o:=o) (h3:=h3) (hg:=hg) (hm:=hm) (hv:=hv) (C:=C.h) (hn:=hn) (hdb:=hdb) (hs:=hs)⟩
variable {o:Expr}
end
open PySem.Spec L2 L3
theorem nW{x qual:Str}{st:Stmt}{f:ww}{fd:FuncData}{N ps:List Str}{k:Nat}{sp:iY}(F:jb K x qual st f fd)(S:aS N ps (au st))(len:∀ds M Q,sp ds M Q->ds.length=ps.length) (eJ:∀(dQ:jp) (A:Around) (outer:List Env) (s:kt) (H:Hp) (E:XK) (ds:List D) (M:Mem) (Q:bR),de k (A.deeper (PyProof.Rows.envOfC qual (au st) s.heap.objs.size f dQ))->sp ds M Q->
   ∃t,Gy (pZ fX P w K mg base N qual (au st) f dQ A outer s H E).IW (bL st) t/\t {nx:=λ _ M'=>fin2 Q .bw M',rt:=fin2 Q} (gW N ds) M):cE P w K mg base fX (k+1) f fd ps (dv K sp):=
 X3 F S len λ dQ A outer s H E ds M Q hr h=>let⟨t,a,b⟩:=eJ dQ A outer s H E ds M Q hr h;⟨t,a.h,b⟩
end L4
namespace L5
open PySem.W PyProof.Rows
section
variable (n:Nat)(lt:Nat->Nat->Bool)
def kw{α:Type}:KasT α->(α->Prop)->Prop
 | .ret a,Q=>Q a
 | .ask i j k,Q=>i < n/\j < n/\kw (k (lt i j)) Q
variable {n lt}
theorem iM{β:Type}{f:α->KasT β}{Q:β->Prop}:∀{t:KasT α},kw n lt t (λ a=>kw n lt (f a) Q)->kw n lt (t.bind f) Q
 | .ret a,h=>h
 | .ask i j k,h=>⟨h.1,h.2.1,iM (t:=k (lt i j)) h.2.2⟩
def pg(p:Array Nat)(i:Nat):Nat:=p.getD i 0
theorem jR(p:Array Nat)(i:Nat):pg p i=(p[i]?).getD 0:=by unfold pg;rw[Array.getD_eq_getD_getElem?]
def Pm(n:Nat)(p:Array Nat):Prop:=p.Perm (List.toArray (List.range n))
theorem Pm.size{p:Array Nat}(h:Pm n p):p.size=n:=by have:=Array.Perm.size_eq h;simpa using this
theorem Pm.below{p:Array Nat}(h:Pm n p)(i:Nat)(hn:0 < n):pg p i < n:=by
 rw[jR];cases e:p[i]? with
 |none=>exact hn
 |some x=>have hm:x∈p:=Array.mem_of_getElem? e;have:=(Array.Perm.mem_iff h (a:=x)).mp hm;simpa using this
theorem nU{p:Array Nat}(hj:j<=p.size)(k:Nat):pg (kas_rev p i j) k=if i<=k/\k < j then pg p (i+j - 1 - k)else pg p k:=by
 rw[jR];unfold kas_rev;rw[getElem?_mirror_all hj k];split
 ·rw[jR]
 ·rw[jR]
theorem Pm.rev{p:Array Nat}(h:Pm n p)(i j:Nat):Pm n (kas_rev p i j):=Array.Perm.trans (mirror_perm _ _ _ _) h
theorem DH{p:Array Nat}{l:Nat}(hk:k < p.size)(hl:l<=k)(j:Nat):pg (bubble p k (k - l)) j=if j=l then pg p k else if l < j/\j<=k then pg p (j - 1)else pg p j:=by
 have e0:k - (k - l)=l:=by lia
 rw[jR,getElem?_bubble hk (k - l) (by lia) j,e0];by_cases h1:j=l
 ·rw[K9 h1,K9 h1,jR]
 ·rw[L1 h1,L1 h1];by_cases h2:l < j/\j<=k
  ·rw[K9 h2,K9 h2,jR]
  ·rw[L1 h2,L1 h2,jR]
theorem Pm.ZY{p:Array Nat}(h:Pm n p)(k d:Nat):Pm n (bubble p k d):=Array.Perm.trans (bubble_perm _ _ _) h
structure Ord(lt:Nat->Nat->Bool):Prop where
 BF:∀a b,lt a b=true->lt b a=false
 tr:∀a b c,lt a b=false->lt b c=false->lt a c=false
abbrev le(lt:Nat->Nat->Bool)(a b:Nat):Prop:=lt b a=false
theorem Ord.refl(O:Ord lt)(a:Nat):le lt a a:=by
 show lt a a=false;cases e:lt a a with
 |false=>rfl
 |true=>have:=O.BF a a e;rw[e]at this;cases this
theorem Ord.trans(O:Ord lt){a b c:Nat}(h1:le lt a b)(h2:le lt b c):le lt a c:=O.tr c b a h2 h1
def Up(lt:Nat->Nat->Bool)(p:Array Nat)(m:Nat):Prop:=∀i j,i<=j->j < m->le lt (pg p i) (pg p j)
def Dn(lt:Nat->Nat->Bool)(p:Array Nat)(m:Nat):Prop:=∀i j,i<=j->j < m->le lt (pg p j) (pg p i)
def Ev(lt:Nat->Nat->Bool)(a b:Nat):Prop:=le lt a b/\le lt b a
theorem Ord.R9(O:Ord lt){a b c:Nat}(h:Ev lt a b)(q:Ev lt b c):Ev lt a c:=⟨O.trans h.1 q.1,O.trans q.2 h.2⟩
theorem Ev.sym{a b:Nat}(h:Ev lt a b):Ev lt b a:=⟨h.2,h.1⟩
theorem Up.one(O:Ord lt)(p:Array Nat):Up lt p 1:=λ i j h q=>by
 have:i=j:=by lia
 subst this;exact O.refl _
theorem Up.next(O:Ord lt){p:Array Nat}(h:Up lt p m)(hm:1<=m)(q:le lt (pg p (m - 1)) (pg p m)):Up lt p (m+1):=λ i j vR hj=>by
 by_cases e:j=m
 ·subst e;by_cases e2:i=j
  ·subst e2;exact O.refl _
  ·exact O.trans (h i (j - 1) (by lia) (by lia)) q
 ·exact h i j vR (by lia)
theorem Dn.next(O:Ord lt){p:Array Nat}(h:Dn lt p m)(hm:1<=m)(q:le lt (pg p m) (pg p (m - 1))):Dn lt p (m+1):=λ i j vR hj=>by
 by_cases e:j=m
 ·subst e;by_cases e2:i=j
  ·subst e2;exact O.refl _
  ·exact O.trans q (h i (j - 1) (by lia) (by lia))
 ·exact h i j vR (by lia)
theorem Dn.ev(O:Ord lt){p p':Array Nat}(h:Dn lt p m)(e:∀k,k < m->Ev lt (pg p' k) (pg p k)):Dn lt p' m:=λ i j vR hj=>
 O.trans (e j hj).1 (O.trans (h i j vR hj) (e i (by lia)).2)
theorem Up.Ra{p:Array Nat}(hm:m<=p.size)(h:Dn lt p m):Up lt (kas_rev p 0 m) m:=λ i j vR hj=>by rw[nU hm,nU hm,K9 ⟨J9 _,by lia⟩,K9 ⟨J9 _,hj⟩];exact h _ _ (by lia) (by lia)
theorem xr(O:Ord lt){p:Array Nat}(hj:j<=p.size)(he:∀k,i<=k->k < j->Ev lt (pg p k) (pg p (j - 1)))(k:Nat):Ev lt (pg (kas_rev p i j) k) (pg p k):=by
 rw[nU hj];split
 case isTrue h=>exact O.R9 (he _ (by lia) (by lia)) (he k h.1 h.2).sym
 case isFalse h=>exact⟨O.refl _,O.refl _⟩
theorem wW(O:Ord lt){p:Array Nat}(hp:Pm n p){Q:Nat->Prop}:∀(f a:Nat),1<=a->a+f<=n->Up lt p a->(∀m,a<=m->m<=a+f->Up lt p m->(m < a+f->lt (pg p m) (pg p (m - 1))=true)->Q m)->kw n lt (kas_asc p f a) Q
 |0,a,h1,hn,hu,hq=>hq a (J7 _) (J7 _) hu λ h=>absurd h (by lia)
 |f+1,a,h1,hn,hu,hq=>by
  refine⟨hp.below a (by lia),hp.below (a - 1) (by lia),?_⟩;show kw n lt (if lt (pg p a) (pg p (a - 1))=true then KasT.ret a else kas_asc p f (a+1)) Q;cases e:lt (pg p a) (pg p (a - 1))with
  |true=>rw[K9 rfl];exact hq a (J7 _) (by lia) hu λ _=>e
  |false=>rw[L1 (by simp)];exact wW O hp f (a+1) (by lia) (by lia) (hu.next O h1 e) λ m m1 m2 m3 m4=>hq m (by lia) (by lia) m3 λ q=>m4 (by lia)
theorem mE(O:Ord lt){Q:Array Nat×Nat×Nat->Prop}(zk:0 < n):∀(f:Nat) (p:Array Nat) (m q:Nat),Pm n p->1<=m->m+f<=n->q+1<=m->Dn lt p m->(∀k,m - (q+1)<=k->k < m->Ev lt (pg p k) (pg p (m - 1)))-> (∀p' m' q',Pm n p'->m<=m'->m'<=m+f->q'+1<=m'->Dn lt p' m'->(∀k,m' - (q'+1)<=k->k < m'->Ev lt (pg p' k) (pg p' (m' - 1)))->Q (p',m',q'))->kw n lt (kas_desc f p m q) Q
 |0,p,m,q,hp,h1,hf,Vm,hd,he,hQ=>hQ p m q hp (J7 _) (J7 _) Vm hd he
 |f+1,p,m,q,hp,h1,hf,Vm,hd,he,hQ=>by
  refine⟨hp.below m zk,hp.below (m - 1) zk,?_⟩;show kw n lt (if lt (pg p m) (pg p (m - 1))=true then(if q > 0 then kas_desc f (kas_rev p (m - (q+1)) m) (m+1) 0 else kas_desc f p (m+1) 0)else KasT.ask (pg p (m - 1)) (pg p m) λ d=>if d=true then KasT.ret (p,m,q)else kas_desc f p (m+1) (q+1)) Q;have hz:=hp.size;cases e:lt (pg p m) (pg p (m - 1))with
  |true=>
   rw[K9 rfl];by_cases hq:q > 0
   ·rw[K9 hq];have ev:=xr O (p:=p) (i:=m - (q+1)) (j:=m) (by lia) he;have em:pg (kas_rev p (m - (q+1)) m) m=pg p m:=by rw[nU (by lia),L1 (by lia)]
    refine mE O zk f _ (m+1) 0 (hp.rev _ _) (by lia) (by lia) (by lia) ((hd.ev O λ k _=>ev k).next O h1 ?_) (λ k k1 k2=>?_) λ p' m' q' a b c d g i=>hQ p' m' q' a (by lia) (by lia) d g i
    ·rw[em];exact O.trans (O.BF _ _ e) (ev (m - 1)).2
    ·have:k=m:=by lia
     subst this;exact⟨O.refl _,O.refl _⟩
   ·rw[L1 hq];refine mE O zk f _ (m+1) 0 hp (by lia) (by lia) (by lia) (hd.next O h1 (O.BF _ _ e)) (λ k k1 k2=>?_) λ p' m' q' a b c d g i=>hQ p' m' q' a (by lia) (by lia) d g i;have:k=m:=by lia
    subst this;exact⟨O.refl _,O.refl _⟩
  |false=>
   rw[L1 (by simp)];refine⟨hp.below (m - 1) zk,hp.below m zk,?_⟩;cases e2:lt (pg p (m - 1)) (pg p m)with
   |true=>exact hQ p m q hp (J7 _) (by lia) Vm hd he
   |false=>
    refine mE O zk f p (m+1) (q+1) hp (by lia) (by lia) (by lia) (hd.next O h1 e2) (λ k k1 k2=>?_) λ p' m' q' a b c d g i=>hQ p' m' q' a (by lia) (by lia) d g i;have hE:Ev lt (pg p (m - 1)) (pg p m):=⟨e,e2⟩;by_cases ek:k=m
    ·subst ek;exact⟨O.refl _,O.refl _⟩
    ·exact O.R9 (he k (by lia) (by lia)) hE
theorem yQ(O:Ord lt){p:Array Nat}(hp:Pm n p)(h1:1<=m)(hm:m<=n)(hd:Dn lt p m){Q:Nat×Array Nat->Prop}(hQ:∀m' p',Pm n p'->1<=m'->m'<=n->Up lt p' m'->Q (m',p')):kw n lt (kas_tail3 m n p) Q:=by unfold kas_tail3;refine iM (wW O (hp.rev _ _) (n - m) m h1 (by lia) (Up.Ra (by rw[hp.size];exact hm) hd) λ m' a b c _=>?_);exact hQ m' _ (hp.rev _ _) (by lia) (by lia) c
theorem uN(O:Ord lt){p:Array Nat}(hp:Pm n p)(h1:1<=m)(hm:m+1<=n)(hd:Dn lt p (m+1)){Q:Nat×Array Nat->Prop}(hQ:∀m' p',Pm n p'->1<=m'->m'<=n->Up lt p' m'->Q (m',p')):kw n lt (kas_descPart m n p) Q:=by
 unfold kas_descPart;refine iM (mE O (by lia) (n - (m+1)) p (m+1) 0 hp (by lia) (by lia) (by lia) hd (λ k k1 k2=>?_) λ p' m' q' a b c d g i=>?_)
 ·have:k=m:=by lia
  subst this;exact⟨O.refl _,O.refl _⟩
 ·show kw n lt (if q' > 0 then kas_tail3 m' n (kas_rev p' (m' - (q'+1)) m')else kas_tail3 m' n p') Q;by_cases hq:q' > 0
  ·rw[K9 hq];have hz:=a.size;exact yQ O (a.rev _ _) (by lia) (by lia) (g.ev O λ k _=>xr O (by lia) i k) hQ
  ·rw[L1 hq];exact yQ O a (by lia) (by lia) g hQ
theorem Eo(O:Ord lt){p:Array Nat}(hp:Pm n p)(hn:2<=n){Q:Nat×Array Nat->Prop}(hQ:∀m' p',Pm n p'->1<=m'->m'<=n->Up lt p' m'->Q (m',p')):kw n lt (kas_count n p) Q:=by
 unfold kas_count;refine iM (wW O hp (n - 1) 1 (J7 _) (by lia) (Up.one O p) λ m a b c d=>?_);have hz:=hp.size;by_cases e1:(m==n)=true
 ·rw[K9 e1];exact hQ m p hp a (by lia) c
 ·rw[L1 e1];have dP:m≠n:=λ q=>e1 (by rw[q];exact beq_self_eq_true _);have hl:=d (by lia);by_cases e2:m > 1
  ·rw[K9 e2];refine⟨hp.below 0 (by lia),hp.below (m - 1) (by lia),?_⟩;show kw n lt (if lt (pg p 0) (pg p (m - 1))=true then KasT.ret (m,p)else kas_descPart m n (kas_rev p 0 m)) Q;cases e3:lt (pg p 0) (pg p (m - 1))with
   |true=>rw[K9 rfl];exact hQ m p hp a (by lia) c
   |false=>
    rw[L1 (by simp)];have Fc:∀k,0<=k->k < m->Ev lt (pg p k) (pg p (m - 1)):=λ k _ hk=>⟨c k (m - 1) (by lia) (by lia),O.trans e3 (c 0 k (by lia) hk)⟩;have ev:=xr O (p:=p) (i:=0) (j:=m) (by lia) Fc;have em:pg (kas_rev p 0 m) m=pg p m:=by rw[nU (by lia),L1 (by lia)]
    refine uN O (hp.rev _ _) a (by lia) (Dn.next O (λ i j vR hj=>?_) a ?_) hQ
    ·exact O.trans (ev j).1 (O.trans (O.trans (Fc j (J9 _) hj).1 (Fc i (J9 _) (by lia)).2) (ev i).2)
    ·rw[em];exact O.trans (O.BF _ _ hl) (ev (m - 1)).2
  ·rw[L1 e2];have cv:m=1:=by lia
   subst cv;refine uN O hp (J7 _) (by lia) (Dn.next O (λ i j vR hj=>?_) (J7 _) (O.BF _ _ hl)) hQ;have:i=j:=by lia
   subst this;exact O.refl _
theorem oj(O:Ord lt){p:Array Nat}(hp:Pm n p)(hk:k < n){Q:Nat->Prop}(hQ:∀l,l<=k->(∀i,i < l->le lt (pg p i) (pg p k))->(∀i,l<=i->i < k->lt (pg p k) (pg p i)=true)->Q l)(hu:Up lt p k):∀(f l r:Nat),l<=r->r<=k->r - l<=f->(∀i,i < l->le lt (pg p i) (pg p k))->(∀i,r<=i->i < k->lt (pg p k) (pg p i)=true)->kw n lt (kas_place p k f l r) Q
 |0,l,r,h1,h2,h3,h4,h5=>by
  have:r=l:=by lia
  subst this;exact hQ r h2 h4 h5
 |f+1,l,r,h1,h2,h3,h4,h5=>by
  unfold kas_place;by_cases e:l ≥ r
  ·rw[K9 e];have:r=l:=by lia
   subst this;exact hQ r h2 h4 h5
  ·rw[L1 e];refine⟨hp.below k (by lia),hp.below _ (by lia),?_⟩;show kw n lt (if lt (pg p k) (pg p ((l+r) / 2))=true then kas_place p k f l ((l+r) / 2)else kas_place p k f ((l+r) / 2+1) r) Q;cases e2:lt (pg p k) (pg p ((l+r) / 2))with
   |true=>
    rw[K9 rfl];refine oj O hp hk hQ hu f l _ (by lia) (by lia) (by lia) h4 λ i i1 i2=>?_;cases e3:lt (pg p k) (pg p i)with
    |true=>rfl
    |false=>have:=O.tr _ _ _ e3 (hu ((l+r) / 2) i i1 i2);rw[e2]at this;cases this
   |false=>rw[L1 (by simp)];exact oj O hp hk hQ hu f _ r (by lia) (by lia) (by lia) (λ i hi=>O.trans (hu i ((l+r) / 2) (by lia) (by lia)) e2) h5
theorem Ep(O:Ord lt){Q:Array Nat->Prop}(hQ:∀p,Pm n p->Up lt p n->Q p):∀(f:Nat) (p:Array Nat) (k:Nat),Pm n p->k+f=n->Up lt p k->kw n lt (kas_bin f p k) Q
 |0,p,k,hp,hf,hu=>hQ p hp (by rw[<- hf];exact hu)
 |f+1,p,k,hp,hf,hu=>by
  unfold kas_bin;have hz:=hp.size;refine iM (oj O hp (by lia) (λ l hl h4 h5=>?_) hu k 0 k (J9 _) (J7 _) (by lia) (λ i hi=>absurd hi (by lia)) λ i a b=>absurd b (by lia));refine Ep O hQ f _ (k+1) (hp.ZY _ _) (by lia) λ i j vR hj=>?_;rw[DH (by lia) hl,DH (by lia) hl];by_cases e1:i=l
  ·rw[K9 e1];by_cases e2:j=l
   ·rw[K9 e2];exact O.refl _
   ·rw[L1 e2,K9 ⟨by lia,by lia⟩];exact O.BF _ _ (h5 (j - 1) (by lia) (by lia))
  ·rw[L1 e1];by_cases e2:j=l
   ·rw[K9 e2,L1 (by lia)];exact h4 i (by lia)
   ·rw[L1 e2];by_cases e3:l < i/\i<=k
    ·rw[K9 e3,K9 ⟨by lia,by lia⟩];exact hu _ _ (by lia) (by lia)
    ·rw[L1 e3];by_cases e4:l < j/\j<=k
     ·rw[K9 e4];exact hu _ _ (by lia) (by lia)
     ·rw[L1 e4];exact hu _ _ (by lia) (by lia)
theorem yR(O:Ord lt)(hn:2<=n){Q:Array Nat->Prop}(hQ:∀p,Pm n p->Up lt p n->Q p):kw n lt (kas_sort n) Q:=by
 unfold kas_sort;refine iM (Eo O (Array.Perm.refl _) hn λ m p hp h1 h2 hu=>?_);show kw n lt (if m < n then kas_bin (n - max m 1) p (max m 1)else KasT.ret p) Q;have hm:max m 1=m:=by lia
 rw[hm];by_cases e:m < n
 ·rw[K9 e];exact Ep O hQ (n - m) p m hp (by lia) hu
 ·rw[L1 e];have:m=n:=by lia
  subst this;exact hQ p hp hu
end
open PySem
def mf(T:String)(h:Heap)(j l:ww)(i:Nat):Prop:=∃o,h.get? j=some o/\o.cls=.type T/\o.data=.fields #[.ref l,.int i 0]
theorem mf.keep{h:Heap}{j l:ww}(x:mf T h j l i)(k:∀o,h.get? j=some o->h'.get? j=some o):mf T h' j l i:=let⟨o,a,r⟩:=x;⟨o,k o a,r⟩
structure NK(T:String)(Sq:Heap->ww->Array jp->Prop):Prop where
 keep:∀{h h':Heap} {l:ww} {vs:Array jp},Sq h l vs->(∀o,h.get? l=some o->h'.get? l=some o)->Sq h' l vs
 start:∀{prog:Program} {w:World} {A:Around} {E:jp->kt->Prop} {s:kt} {l:ww} {vs:Array jp} {Q:jp->kt->Prop},Sq s.heap l vs->
  Q (.ref s.heap.objs.size) {s with heap:=s.heap.push {cls:=.type T,data:=.fields #[.ref l,.int 0 0]}}->wpAny (model prog w) A (pyIter (.ref l)) Q E s
 item:∀{prog:Program} {w:World} {A:Around} {E:jp->kt->Prop} {s:kt} {j l:ww} {i:Nat} {vs:Array jp} {x:jp} {Q:jp->kt->Prop},mf T s.heap j l i->Sq s.heap l vs->vs[i]?=some x->
  (∀h',mf T h' j l (i+1)->Heap.SameBut j s.heap h'->Q x {s with heap:=h'})->wpAny (model prog w) A (Builtin.SmallTypes.nextOf (.ref j)) Q E s
 stop:∀{prog:Program} {w:World} {A:Around} {E:jp->kt->Prop} {s:kt} {j l:ww} {i:Nat} {vs:Array jp} {Q:jp->kt->Prop},A.handled=none->mf T s.heap j l i->Sq s.heap l vs->vs[i]?=none->
  (∀h' e,Heap.ExtBut j s.heap h'->(∃o,h'.get? e=some o/\o.cls=.type "StopIteration")->E (.ref e) {s with heap:=h'})->wpAny (model prog w) A (Builtin.SmallTypes.nextOf (.ref j)) Q E s
theorem jW:NK "list_iterator" Heap.IsList where
 keep:=λ x k=>x.at k
 start:=λ x q=>x6 x q
 item:=λ a b c d=>wpAny_nextOf_list_item a b c d
 stop:=λ a b c d e=>wpAny_nextOf_list_end a b c d e
theorem NV{j:ww}{vs:Array jp}{x:jp}(ji:s.heap.IsTupleIter j q i)(jt:s.heap.IsTuple q vs)(jx:vs[i]?=some x) (k:∀h',h'.IsTupleIter j q (i+1)->Heap.SameBut j s.heap h'->Q x {s with heap:=h'}):wpAny (model prog w) A (Builtin.SmallTypes.nextOf (.ref j)) Q E s:=by obtain⟨ob,hb,kc,kd⟩:=id ji;obtain⟨ot,ht,_,nt,dt⟩:=jt;unfold Builtin.SmallTypes.nextOf;refine K1 (j0 (name:=Str.ofString "__next__") ji.typeIs a8 (A0 a8 ji.typeIs F.entry_tuple_iterator_next ?_ (F.args_tuple_iterator_next_1 _)));refine K1 (m:=field (.ref j) 0) (K0 hb kd (x:=.ref q) rfl ?_);show wpAny _ _ (if(Value.ref q==Value.none)=true then _ else _) _ _ s;rw[L1 (show(Value.ref q==Value.none)≠true from n9)];refine K1 (m:=field (.ref j) 1) (K0 hb kd (x:=.int i 0) rfl ?_);refine K1 (m:=seqItems? (.ref q)) (C9 ht dt ?_);simp only[w6,jx];refine K1 (D3 hb kd (by simp) (K2 ⟨x,rfl,K2 (k _ ?_ (l6 ..))⟩));refine⟨_,j6 _ hb (Obj.isFreed_of_fields (Obj.data_mapFields kd _)),(Obj.cls_mapFields ..).trans kc,?_⟩;rw[Obj.data_mapFields kd];simp[rawInt]
theorem LP{j:ww}{vs:Array jp}(hA:A.handled=none)(ji:s.heap.IsTupleIter j q i)(jt:s.heap.IsTuple q vs)(jx:vs[i]?=none) (k:∀h' e,Heap.ExtBut j s.heap h'->(∃o,h'.get? e=some o/\o.cls=.type "StopIteration")->E (.ref e) {s with heap:=h'}):wpAny (model prog w) A (Builtin.SmallTypes.nextOf (.ref j)) Q E s:=by obtain⟨ob,hb,kc,kd⟩:=id ji;obtain⟨ot,ht,_,nt,dt⟩:=jt;unfold Builtin.SmallTypes.nextOf;refine K1 (j0 (name:=Str.ofString "__next__") ji.typeIs a8 (A0 a8 ji.typeIs F.entry_tuple_iterator_next ?_ (F.args_tuple_iterator_next_1 _)));refine K1 (m:=field (.ref j) 0) (K0 hb kd (x:=.ref q) rfl ?_);show wpAny _ _ (if(Value.ref q==Value.none)=true then _ else _) _ _ s;rw[L1 (show(Value.ref q==Value.none)≠true from n9)];refine K1 (m:=field (.ref j) 1) (K0 hb kd (x:=.int i 0) rfl ?_);refine K1 (m:=seqItems? (.ref q)) (C9 ht dt ?_);simp only[w6,jx];refine K1 (K3 (K1 (D3 hb kd (by simp) ?_)));refine K1 (m:=newExc (.type "StopIteration") []) ?_;simp only[newExc,newTuple];refine K1 (w9 (K1 (m:=firstArgMember _ _) (wpAny_of_eq (a:=Value.none) (by first|rfl|(simp only[firstArgMember];rfl)) (w9 ?_ (by size_fits)))) (by size_fits));simp only[raiseNew];refine K1 (wpAny_handled ?_);have hB:A.in1.handled=none:=hA;rw[hB];exact K1 (K2 (wpAny_throw (k _ _ (((l6 ..).extBut.push _).push _) ⟨_,m7 _ rfl,rfl⟩)))
theorem gc:NK "tuple_iterator" Heap.IsTuple where
 keep:=λ x k=>let⟨o,a,r⟩:=x;⟨o,k o a,r⟩
 start:=λ x q=>wpAny_pyIter_tuple x q
 item:=λ a b c d=>NV a b c d
 stop:=λ a b c d e=>LP a b c d e
end L5
namespace L2
open PySem.Spec PyProof.Rows
open HT (lexLt cJ cR cA cB nR)
open PySem.SeqAt PySem.MeetsSeq PySem.MeetsSeq2 PySem.MeetsSeq3 PySem.SeqRoads2
open PySem.AutoSeq1 (wpAny_loadPart')
theorem sI(h:IntsAre vs ns)(hi:i < ns.length):∃t,vs[i]?=some (.int ns[i] t):=by
 induction h generalizing i with
 |nil=>simp at hi
 |cons n t h ih=>
  cases i with
  |zero=>exact⟨t,rfl⟩
  |succ i=>obtain⟨t',e⟩:=ih (i:=i) (by simpa using hi);exact⟨t',by simpa using e⟩
theorem Ja(l b:ww)(xs ys:Array jp)(n k:Nat)(dd ee:Option ww)(sl tl:Array (Option jp))(ns ms:List Int)(hi:IntsAre xs.toList ns)(hj:IntsAre ys.toList ms)(f:Nat):∀i:Nat,ns.length - i=f->Meets (Builtin.«list.__eq__.loop» ⟨[.ref l,.ref b,rawInt i,rawInt 0],[]⟩)
   (λ A R s=>s.heap.get? l=some {cls:=.type "list",dict:=dd,data:=.seq xs n,slots:=sl}/\s.heap.get? b=some {cls:=.type "list",dict:=ee,data:=.seq ys k,slots:=tl}/\i<=ns.length/\i<=ms.length/\
    R (.ok (.ret (.bool (lexLt (ns.drop i) (ms.drop i))))) s):=by
 have z1:xs.size=ns.length:=by rw[<- hi.length];simp
 have z2:ys.size=ms.length:=by rw[<- hj.length];simp
 induction f with
 |zero=>
  intro i hf prog w A R s h;obtain⟨hp,g,d,tk,os⟩:=s;obtain⟨hl,hb,i1,i2,h⟩:=h
  wp_walk using B4 hl,B4 hb
  have e1:xs[((i:Nat):Int).toNat]?=none:=by simp;lia
  have d1:ns.drop i=[]:=by simp;lia
  rw[d1]at h;rw[e1];have fin:R (.ok (.ret (.bool (decide (xs.size < ys.size))))) ⟨hp,g,d,tk,os⟩:=by
   have q:lexLt [] (ms.drop i)=decide (xs.size < ys.size):=by
    cases e:ms.drop i with
    |nil=>
     have:ms.length<=i:=by simpa using e
     rw[cR];exact(B3 (by lia)).symm
    |cons c r=>
     have:i < ms.length:=by refine y9 λ z=>?_;rw[drop_eq_nil_of_le z]at e;cases e
     rw[cA];exact(C8 (by lia)).symm
   rw[<- q];exact h
  wp_walk using B4 hl,B4 hb
  exact fin
 |succ f ih=>
  intro i hf prog w A R s h;obtain⟨hp,g,d,tk,os⟩:=s;obtain⟨hl,hb,i1,i2,h⟩:=h;have a1:i < ns.length:=by lia
  obtain⟨t,e1⟩:=sI hi a1;have e1:xs[((i:Nat):Int).toNat]?=some (.int ns[i] t):=by simpa using e1
  by_cases a2:i < ms.length
  ·obtain⟨u,e2⟩:=sI hj a2;have e2:ys[((i:Nat):Int).toNat]?=some (.int ms[i] u):=by simpa using e2
   rw[g9 a1,g9 a2,cJ]at h
   wp_walk using B4 hl,B4 hb
   rw[e1,e2];refine K1 (EqAt.int_int ns[i] t ms[i] u prog w _ _ ?_);have cc:((i:Int)+1)=((i+1:Nat):Int):=by push_cast;rfl
   by_cases q:ns[i]=ms[i]
   ·rw[K9 q]at h;have qb:(ns[i]==ms[i])=true:=by simp[q]
    rw[qb]
    wp_walk
    rw[cc];exact⟨G6 plain_eq_loop _,B9 entry_eq_loop (by rw[l0 plain_eq_loop _];exact ih (i+1) (by lia) prog w A R _ ⟨hl,hb,by lia,by lia,h⟩)⟩
   ·rw[L1 q]at h;have qb:(ns[i]==ms[i])=false:=by simp[q]
    rw[qb];have rl:=nR A.in1 ⟨hp,g,d,tk,os⟩ ns[i] t ms[i] u prog w
    wp_walk using B4 hl,B4 hb
    rw[e1,e2]
    wp_walk using rl
    exact h
  ·have e2:ys[((i:Nat):Int).toNat]?=none:=by simp;lia
   have d2:ms.drop i=[]:=by simp;lia
   rw[g9 a1,d2,cB]at h
   wp_walk using B4 hl,B4 hb
   rw[e1,e2]
   wp_walk using B4 hl,B4 hb
   have q:decide (xs.size < ys.size)=false:=B3 (by lia);show R (.ok (.ret (.bool (decide (xs.size < ys.size))))) _;rw[q];exact h
theorem uK(l b:ww)(xs ys:Array jp)(n k:Nat)(dd ee:Option ww)(sl tl:Array (Option jp))(ns ms:List Int)(hi:IntsAre xs.toList ns)(hj:IntsAre ys.toList ms):
  Meets (Builtin.«list.__lt__» ⟨[.ref l,.ref b],[]⟩) (λ A R s=>s.heap.get? l=some {cls:=.type "list",dict:=dd,data:=.seq xs n,slots:=sl}/\s.heap.get? b=some {cls:=.type "list",dict:=ee,data:=.seq ys k,slots:=tl}/\
    R (.ok (.ret (.bool (lexLt ns ms)))) s):=by
 intro prog w A R s h;obtain⟨hp,g,d,tk,os⟩:=s;obtain⟨hl,hb,h⟩:=h;have f3:=AutoSeq1.sub_list_list
 wp_walk using B4 hl,B4 hb
 exact⟨G6 plain_eq_loop _,B9 entry_eq_loop (by rw[l0 plain_eq_loop _];exact Ja l b xs ys n k dd ee sl tl ns ms hi hj _ 0 rfl prog w A R _ ⟨hl,hb,J9 _,J9 _,h⟩)⟩
theorem Ef{l b:ww}{xs ys:Array jp}{ms:List Int}(hl:s.heap.IsList l xs)(hb:s.heap.IsList b ys)(hi:IntsAre xs.toList ns)(hj:IntsAre ys.toList ms) (hu:A.units < cLine) (h:Q (.bool (lexLt ns ms)) s):wpAny (model prog w) A (compareOp .Lt (.ref l) (.ref b)) Q E s:=by
 obtain⟨⟨c1,dd,da,sl⟩,o1,k1,n,d1⟩:=id hl;obtain⟨⟨c2,ee,db,tl⟩,o2,k2,m,d2⟩:=id hb;simp only at k1 d1 k2 d2;subst k1 d1 k2 d2;exact richCompare_meets_room (op:=.Lt) ⟨_,o1,rfl⟩ ⟨_,o2,rfl⟩ PySem.F.slot_list_lt PySem.F.entry_list_lt (PySem.F.args_list_lt_2 _ _) (uK l b xs ys n m dd ee sl tl ns ms hi hj)
  ⟨o1,o2,show Value.bool (lexLt ns ms)≠Value.notImplemented/\Q (.bool (lexLt ns ms)) s from⟨(λ x=>nomatch x),h⟩⟩ hu
open PySem.Spec PyProof.Rows L5
def Sq(b:Bool)(K:L6)(H:Hp)(a:ww)(xs:List V):Prop:=match b with
 |true=>gn K H a xs
 |false=>fE K H a xs
def SU(b:Bool):String:=match b with
 |true=>"tuple_iterator"
 |false=>"list_iterator"
def gF(b:Bool):Heap->ww->Array jp->Prop:=match b with
 |true=>Heap.IsTuple
 |false=>Heap.IsList
theorem ig:∀b,NK (SU b) (gF b)
 |true=>gc
 |false=>jW
section
variable {v:ww}{ys:List V}
theorem gY(I:be X xz σ H s):∀{b:Bool},Sq b X.K H a xs->∃ay:List jp,ce xs ay/\gF b s.heap a ay.toArray
 |true,h=>let⟨ay,r,p,_⟩:=I.tuple h;⟨ay,r,p⟩
 |false,h=>let⟨ay,r,p,_⟩:=I.list h;⟨ay,r,p.isList⟩
theorem LQ(I:be X xz σ H s):∀{b:Bool},Sq b X.K H a xs->Sq b X.K H a ys->xs=ys
 |true,h,q=>I.qA h q
 |false,h,q=>I.uJ h q
theorem yp{u:HO}(h:Rd H a u):∃o,H a=some o:=by
 rcases h with h|⟨o,h⟩
 ·exact⟨_,h⟩
 ·exact⟨_,h⟩
theorem Cn:∀{b:Bool} {K:L6},Sq b K H a xs->(∃o,H a=some o)\/∃o,K.lookup a=some o
 |true,K,h=>by
  rcases h with h|⟨o,ay,n,hk,_⟩
  ·exact .inl (yp h)
  ·exact .inr ⟨o,hk⟩
 |false,K,h=>by
  rcases h with h|⟨o,ay,n,hk,_⟩
  ·exact .inl (yp h)
  ·exact .inr ⟨o,hk⟩
theorem Co(I:be X xz σ H s)(f:jz X xz H v)(h:Sq b X.K H a xs):a≠v:=λ e=>by
 subst e;rcases Cn h with⟨o,q⟩|⟨o,q⟩
 ·rw[f.1]at q;cases q
 ·have q:=I.ok.mod.Tj a o q;rcases f.2.2.2.1 with z|z
  ·exact I.ok.AU a o q z
  ·exact absurd (p7 (G9 q) (J0 I.ok.FO z)) (G3 _)
theorem tZ(I:be X xz σ H s)(k:∀b o,b∉ch->s.heap.get? b=some o->h'.get? b=some o)(hf:∀b∈ch,jz X xz H b):be X xz σ H {s with heap:=h',toks:=t'}:=by
 have Rk:∀b u,H b=some u->b∉ch:=λ b u e z=>by rw[(hf b z).1]at e;cases e
 refine I.step (g':=s.gens) (d':=s.drawn) (ch:=ch) (λ b hb=>?_) (λ b o _ _ hc e _=>k b o hc e) (λ b o _ _ hc e _=>⟨o.slots,k b o hc e⟩) (λ _ _ _ _ n=>n)
  (λ b o hc e=>⟨o,k b o hc e⟩) (λ _ _ e=>e) (λ _ _ _ e=>e) (λ b ps e=>⟨#[],by rw[e];simp⟩) (λ m hm=>?_) (λ b u e=>?_) I.bare
 ·obtain⟨f0,f1,f2,f3,f4,f5⟩:=hf b hb;exact⟨f3,f1,f4,f5⟩
 ·obtain⟨o,es,ep,ho,r⟩:=hm;exact⟨o,es,ep,k _ o (λ z=>(hf _ z).2.1 rfl) ho,r⟩
 ·refine(I.bx b u e).nA (λ c v hc q=>k c v ?_ q) (λ _ q=>q) λ _ _ q=>q;rcases hc with z|z
  ·rw[z];exact Rk b u e
  ·exact Rk c _ z
end
end L2
namespace L5
open PySem.W PySem.Calls PyProof.Rows
theorem KL{lt:Nat->Nat->Bool}{ks:List jp}{Q:α->kt->Prop}(hc:∀i j C,i < n->j < n->C (lt i j) s->wpAny (model prog w) A (keyLt' κ (ks.getD i Value.none) (ks.getD j Value.none)) C (λ _ _=>False) s):∀(t:KasT α),kw n lt t (λ a=>Q a s)->t.kasWp (kas_ask prog w A κ ks) Q s
 | .ret a,h=>h
 | .ask i j k,h=>hc i j _ h.1 h.2.1 (KL hc (k (lt i j)) h.2.2)
def Out{α:Type}(lt:Nat->Nat->Bool)(vs:List α)(d:α)(out:List α):Prop:=∃p:Array Nat,Pm vs.length p/\Up lt p vs.length/\out=p.toList.map λ i=>vs.getD i d
theorem yE{lt:Nat->Nat->Bool}(O:Ord lt){vs:List α}(d:α)(h:vs.length < 2):Out lt vs d vs:=by
 refine⟨List.toArray (List.range vs.length),Array.Perm.refl _,λ i j vR hj=>?_,?_⟩
 ·have:i=j:=by lia
  subst this;exact O.refl _
 ·match vs,h with
  |[],_=>rfl
  |[v],_=>rfl
theorem yU{kS:ww}{e e1:Nat}{ks out:List jp}{st:SortSt}{P:PySem.Fin->kt->Prop}(hk:s.heap.get? kS=some (seqObj "list" (List.toArray ks) e))(ha:s.heap.get? a=some (seqObj "list" #[] e1))(dP:a≠kS)(hkz:ks.length < 64)(hoz:out.length < 64)
  (ho:(arrOf st).map (·.2)=List.toArray out) (hf:failedOf st=none)
  (h:∀h' c,h'.get? a=some (seqObj "list" (List.toArray out) c)->(∀b o,b≠a->b≠kS->s.heap.get? b=some o->h'.get? b=some o)->P (.done (.ret .none)) {s with heap:=h'}):wpAny (model prog w) A (ksk_tail a false e1 (.ref kS) st) P E s:=by
 unfold ksk_tail
 try dsimp only
 rw[ho];have s1:=l6 s.heap kS (Obj.mapSeq λ _=>(#[]:Array jp));have a1:(s.heap.update kS (Obj.mapSeq λ _=>(#[]:Array jp))).get? a=some (seqObj "list" #[] e1):=(s1.2 a dP).trans ha;have s2:=l6 (s.heap.update kS (Obj.mapSeq λ _=>(#[]:Array jp))) a (Obj.mapSeq λ _=>List.toArray out);refine K1 (listUpdate_at hk rfl (K1 (wpAny_letGo (K1 (seqEpoch_at a1 rfl (K1 (listUpdate_at a1 rfl ?_ (J9 _) ?_)))))) (by rw[y0,J8];lia) (J9 _))
 ·rw[hf];simp only[bne_self_eq_false,o7,K6];exact K2 (h _ _ (get?_update_seq a1 λ _=>List.toArray out) λ b o b1 b2 q=>(s2.2 b b1).trans ((s1.2 b b2).trans q))
 ·simp only[o7,K6];rw[y0,J8];lia
theorem N8{kS:ww}{e e1:Nat}{ks:List jp}{κ:SortKind}{lt:Nat->Nat->Bool}{P:PySem.Fin->kt->Prop}(O:Ord lt)(hl:ks.length=vs.length)(pG:vs.length < 64)(hk:s.heap.get? kS=some (seqObj "list" (List.toArray ks) e))(ha:s.heap.get? a=some (seqObj "list" #[] e1))(dP:a≠kS)
  (lL:2<=vs.length->∀C:SortKind->kt->Prop,C κ s->wpAny (model prog w) A (keyKind' (List.toArray ks)) C E s)
  (hc:2<=vs.length->∀i j C,i < vs.length->j < vs.length->C (lt i j) s->wpAny (model prog w) A (keyLt' κ (ks.getD i Value.none) (ks.getD j Value.none)) C (λ _ _=>False) s)
  (h:∀out h' c,Out lt vs Value.none out->h'.get? a=some (seqObj "list" (List.toArray out) c)->(∀b o,b≠a->b≠kS->s.heap.get? b=some o->h'.get? b=some o)->P (.done (.ret .none)) {s with heap:=h'}):
  wpAny (model prog w) A (ksk_end a false vs.toArray e1 (.ref kS) (List.toArray ks)) P E s:=by
 unfold ksk_end
 try dsimp only
 simp only[o7,K6];by_cases h2:vs.length < 2
 ·have z2:vs.toArray.size < 2:=by rw[y0];exact h2
  rw[K9 z2,K9 z2];refine K1 (K2 (K1 ?_));rw[StateT.run_pure];refine K2 ?_;refine yU hk ha dP (by lia) pG (st:=SortSt.mk' general' ((List.toArray ks).zip vs.toArray) #[] 7 none) ?_ rfl λ h' c a1 a2=>h vs h' c (yE O _ h2) a1 a2;show((List.toArray ks).zip vs.toArray).map (·.2)=_;apply Array.toList_inj.mp;simp;exact map_snd_zip (by lia)
 ·have z2:¬vs.toArray.size < 2:=by rw[y0];exact h2
  rw[L1 z2,L1 z2];refine K1 (lL (by lia) _ ?_);refine K1 (K5 (kat_run (Q:=λ gX s'=>s'=s/\∃p:Array Nat,p.size=vs.length/\arrOf gX=p.map (kas_item ((List.toArray ks).zip vs.toArray))/\failedOf gX=none/\Pm vs.length p/\Up lt p vs.length)
   (G:=λ p s'=>s'=s/\Pm vs.length p/\Up lt p vs.length) hl (by lia) pG (λ p gX s' a1 a2 a3 a4=>⟨a4.1,p,a1,a2,a3,a4.2⟩) (KL (hc (by lia)) _ (yR O (by lia) λ p p1 p2=>⟨rfl,p1,p2⟩))) ?_ λ _ _ x=>x)
  rintro⟨⟨⟩,gX⟩ s' ⟨rfl,p,hp,VN,hf,p1,p2⟩
  try dsimp only
  refine yU hk ha dP (by lia) ?_ (kat_snds hl VN) hf λ h' c a1 a2=>h _ h' c ⟨p,p1,p2,rfl⟩ a1 a2;rw[C1,m6,hp];exact pG
theorem yV{kS q:ww}{body:jp->PUnit->Sem (ForInStep PUnit)} (hb:∀x ks e (s:kt),J ks e s->vs[ks.length]?=some x->wpAny (model prog w) A (body x ⟨⟩) (λ r s'=>r=.yield ⟨⟩/\∃k c,J (ks++[k]) c s') E s):∀(r ks:List jp) (e:Nat) (s:kt),vs.drop ks.length=r->ks.length<=vs.length->J ks e s->
   wpAny (model prog w) A (forIn r PUnit.unit body) (λ _ s'=>∃ks e,ks.length=vs.length/\J ks e s') E s
 |[],ks,e,s,hr,hl,h=>by rw[forIn_nil];exact K2 ⟨ks,e,C4 hl (by simpa using hr),h⟩
 |x::r,ks,e,s,hr,hl,h=>by
  rw[C7];have gg:ks.length < vs.length:=by refine y9 λ z=>?_;rw[drop_eq_nil_of_le z]at hr;cases hr
  rw[g9 gg]at hr;injection hr with e1 e2
  refine K1 (K5 (hb x ks e s h (by rw[i6 gg,e1])) (λ y s' hy=>?_) λ _ _ z=>z);obtain⟨rfl,k,c,h2⟩:=hy;exact yV (kS:=kS) (q:=q) hb r (ks++[k]) c s' (by rw[o6,j8];exact e2) (by rw[o6,j8];lia) h2
theorem Jm{a kS q:ww}{e1:Nat}{P:PySem.Fin->kt->Prop}(pG:vs.length < 64)(hJ:∀ks e s,J ks e s->s.heap.get? kS=some (seqObj "list" (List.toArray ks) e)/\ks.length<=vs.length)
  (u_:∀x ks e (s:kt),J ks e s->vs[ks.length]?=some x->wpAny (model prog w) A (call (.ref q) [x]) (λ k s'=>s'.heap.get? kS=some (seqObj "list" (List.toArray ks) e)/\∀h' c,h'.get? kS=some (seqObj "list" (List.toArray (ks++[k])) c)->Heap.SameBut kS s'.heap h'->J (ks++[k]) c {s' with heap:=h'}) (λ _ _=>False) s)
  (h0:J [] 0 s) (VG:∀ks e s,J ks e s->ks.length=vs.length->wpAny (model prog w) A (ksk_end a false vs.toArray e1 (.ref kS) (List.toArray ks)) P E s):wpAny (model prog w) A (ksk_rest a (.ref q) false vs.toArray e1 (.ref kS)) P E s:=by
 unfold ksk_rest;refine K1 (K3 ?_)
 first
  |rw[List.forIn_toArray]
  |(rw[<- u6];simp only[List.toList_toArray])
  |rw[<- u6]
 refine K1 (K5 (yV (kS:=kS) (q:=q) (J:=J) (vs:=vs) (λ x ks e s' hj hx=>?_) vs [] 0 s rfl (J9 _) h0) (λ _ s' hd=>?_) λ _ _ x=>x)
 ·refine K1 (G0 (K5 (u_ x ks e s' hj hx) (λ k Pw hk=>?_) λ _ _ hF=>hF.elim));obtain⟨k1,k2⟩:=hk;have hz:=(hJ ks e s' hj).2;have s1:=l6 Pw.heap kS (Obj.mapSeq (·.push k));have ea:(List.toArray ks).push k=List.toArray (ks++[k]):=by simp
  try dsimp only
  refine K1 (listUpdate_at k1 rfl (K2 ⟨rfl,k,_,k2 _ _ (by rw[<- ea];exact get?_update_seq k1 (·.push k)) s1⟩) (by rw[y0,J8];lia) (J0 (J3 (Array.size_push ..)) (by rw[y0,J8];lia)))
 ·obtain⟨ks,e,hl,hj⟩:=hd
  try dsimp only
  exact K1 (listItems_at (hJ ks e s' hj).1 rfl (VG ks e s' hj hl))
end L5
namespace L2
open PySem.Spec PyProof.Rows L5 PySem.W
open HT (lexLt cJ cR cA cB)
theorem fm{h:Heap}:∀{vs:List jp} {ns:List Int},IntsAre vs ns->ReadsAll h vs (ns.map PyData.int) []
 |_,_,.nil=>ReadsAll.nil
 |_,_,.cons n t r=>ReadsAll.cons (Reads.int n t) (fm r)
abbrev Ky:=Int×List Int
def klt(a b:Ky):Bool:=if a.1=b.1 then lexLt a.2 b.2 else decide (a.1 < b.1)
theorem yO:∀a:List Int,lexLt a a=false
 |[]=>rfl
 |x::a=>by rw[cJ,K9 rfl];exact yO a
theorem oi:∀a b:List Int,lexLt a b=true->lexLt b a=false
 |[],[],h=>by cases h
 |[],_::_,_=>rfl
 |_::_,[],h=>by cases h
 |x::a,y::b,h=>by
  rw[cJ]at h ⊢;by_cases e:x=y
  ·rw[K9 e]at h;rw[K9 e.symm];exact oi a b h
  ·rw[L1 e]at h;rw[L1 (K8 e)];have:=of_decide_eq_true h;exact B3 (by lia)
set_option tactic.hygienic true in
theorem wU:∀a b c:List Int,lexLt a b=false->lexLt b c=false->lexLt a c=false
 |_,_::_,[],_,_=>by rename_i a _ _ _ _;cases a <;> rfl
 |[],[],c,_,h=>h
 |_::_,[],[],_,_=>rfl
 |_::_,[],_::_,_,h=>by cases h
 |[],_::_,_::_,h,_=>by cases h
 |x::a,y::b,z::c,h,g=>by
  rw[cJ]at h g ⊢;by_cases e:x=y
  ·rw[K9 e]at h;subst e;by_cases e2:x=z
   ·rw[K9 e2]at g ⊢;exact wU a b c h g
   ·rw[L1 e2]at g ⊢;exact g
  ·rw[L1 e]at h;have h:=q8 h;by_cases e2:y=z
   ·subst e2;rw[L1 e];exact B3 h
   ·rw[L1 e2]at g;have g:=q8 g;have:x≠z:=by lia
    rw[L1 this];exact B3 (by lia)
theorem Et(a b:Ky)(h:klt a b=true):klt b a=false:=by
 unfold klt at h ⊢;by_cases e:a.1=b.1
 ·rw[K9 e]at h;rw[K9 e.symm];exact oi _ _ h
 ·rw[L1 e]at h;rw[L1 (K8 e)];have:=of_decide_eq_true h;exact B3 (by lia)
theorem N'(a b c:Ky)(h:klt a b=false)(g:klt b c=false):klt a c=false:=by
 unfold klt at h g ⊢;by_cases e:a.1=b.1
 ·rw[K9 e]at h;by_cases e2:b.1=c.1
  ·rw[K9 e2]at g;rw[K9 (e.trans e2)];exact wU _ _ _ h g
  ·rw[L1 e2]at g;rw[L1 (by rw[e];exact e2),e];exact g
 ·rw[L1 e]at h;have h:=q8 h;by_cases e2:b.1=c.1
  ·rw[L1 (by rw[<- e2];exact e),<- e2];exact B3 h
  ·rw[L1 e2]at g;have g:=q8 g;have:a.1≠c.1:=by lia
   rw[L1 this];exact B3 (by lia)
theorem Jo(key:Nat->Ky):Ord λ i j=>klt (key i) (key j):=⟨λ a b h=>Et _ _ h,λ a b c h g=>N' _ _ _ h g⟩
def oX(K:L6)(b:Bool)(H:Hp)(k:V)(c:Ky):Prop:=∃t m,k=.ref t/\gn K H t [.int c.1,.ref m]/\Sq b K H m (c.2.map V.int)
theorem sA(I:be X xz σ H s){k:V}{c:Ky}(h:oX X.K b H k c)(r:bv k u):∃(t m:ww) (o:Obj) (tk:Tok) (n:Nat) (ay:List jp),u=.ref t/\s.heap.get? t=some o/\o.cls=.type "tuple"/\o.data=.seq #[.int c.1 tk,.ref m] n/\gF b s.heap m ay.toArray/\IntsAre ay c.2:=by obtain⟨t,m,rfl,h1,h2⟩:=h;cases(show u=Value.ref t from r);obtain⟨ay,r1,⟨o,ho,hc,n,hd⟩,_⟩:=I.tuple h1;obtain⟨u1,u2,rfl,⟨tk,rfl⟩,q2⟩:=vals2 r1;cases(show u2=Value.ref m from q2);obtain⟨U5,r2,p2⟩:=gY I h2;exact⟨t,m,o,tk,n,U5,rfl,ho,hc,hd,p2,intsAre_of r2⟩
theorem JM{m m':ww}{xs ys:List jp}{ms:List Int}(h1:gF b s.heap m xs.toArray)(h2:gF b s.heap m' ys.toArray)(i1:IntsAre xs ns)(i2:IntsAre ys ms)(hu:A.units+1 < cLine):SeqAt.EqAt A s (.ref m) (.ref m') (decide (ns=ms)):=by
 have dp:∀l:List Int,PyData.depthAll (l.map PyData.int)=0:=λ l=>ke_depthAll l;cases b with
 |true=>obtain⟨o,ho,hc,n,hd⟩:=h1;obtain⟨o',pF,E_,n',mH⟩:=h2;have q:=SeqAt.eqAt_reads (.tuple (ns.map .int)) (.tuple (ms.map .int)) A s (.ref m) (.ref m') _ _ (reads_tuple_at ho hc hd (fm i1)) (reads_tuple_at pF E_ mH (fm i2)) (by simp[PyData.canLay0,ke_canLayAll0]) (by simp[PyData.canLay0,ke_canLayAll0]) (by simp[PyData.depth,dp];lia);rw[show PyData.eqv (.tuple (ns.map .int)) (.tuple (ms.map .int))=decide (ns=ms) by simp only[PyData.eqv];exact ked_eqvAll ns ms]at q;exact q
 |false=>obtain⟨o,ho,hc,n,hd⟩:=h1;obtain⟨o',pF,E_,n',mH⟩:=h2;have q:=SeqAt.eqAt_reads (.list (ns.map .int)) (.list (ms.map .int)) A s (.ref m) (.ref m') _ _ (reads_list_at ho hc hd (fm i1)) (reads_list_at pF E_ mH (fm i2)) (by simp[PyData.canLay0,ke_canLayAll0]) (by simp[PyData.canLay0,ke_canLayAll0]) (by simp[PyData.depth,dp];lia);rw[show PyData.eqv (.list (ns.map .int)) (.list (ms.map .int))=decide (ns=ms) by simp only[PyData.eqv];exact ked_eqvAll ns ms]at q;exact q
theorem Jb{m m':ww}{xs ys:List jp}{ms:List Int}(h1:gF b s.heap m xs.toArray)(h2:gF b s.heap m' ys.toArray)(i1:IntsAre xs ns)(i2:IntsAre ys ms)(hu:A.units < cLine) (h:Q (.bool (lexLt ns ms)) s):wpAny (model prog w) A (compareOp .Lt (.ref m) (.ref m')) Q E s:=by
 cases b with
 |true=>exact HT.wR (show IsTup s.heap m xs.toArray from h1) (show IsTup s.heap m' ys.toArray from h2) i1 i2 hu h
 |false=>exact Ef h1 h2 i1 i2 hu h
theorem Oc(I:be X xz σ H s)(hu:A.units+1 < cLine){k k':V}{c c':Ky}{u':jp}(h:oX X.K b H k c)(h':oX X.K b H k' c')(r:bv k u)(r':bv k' u'){C:Bool->kt->Prop}(hC:C (klt c c') s):wpAny (model X.prog X.w) A (keyLt' (tuples' true) u u') C (λ _ _=>False) s:=by
 obtain⟨t,m,o,tk,n,ay,rfl,ho,_,hd,hm,hi⟩:=sA I h r;obtain⟨t',m',o',T7,n',its',rfl,pF,_,mH,fT,uZ⟩:=sA I h' r';refine kat_lt ho hd pF mH (kat_cons (SeqAt.EqAt.int_int c.1 tk c'.1 T7 X.prog X.w _ _ ?_));unfold klt at hC;by_cases e:c.1=c'.1
 ·rw[K9 e]at hC;rw[show(c.1==c'.1)=true by simp[e]];refine kat_yes (kat_cons (JM hm fT hi uZ hu X.prog X.w _ _ ?_));by_cases e2:c.2=c'.2
  ·rw[C8 e2];rw[e2,yO]at hC;exact kat_yes (kat_nil hC)
  ·rw[B3 e2];exact kat_no (kat_one _ _ (Jb hm fT hi uZ (by lia) hC))
 ·rw[L1 e]at hC;rw[show(c.1==c'.1)=false by simp[e]];exact kat_no (oneLt_int hC)
theorem uO(I:be X xz σ H s):∀{kvs:List V} {ks:List jp} {key:Nat->Ky},ce kvs ks->(∀i k,kvs[i]?=some k->oX X.K b H k (key i))->∃fs,KatTups s.heap ks fs/\fs.length=ks.length/\∀v∈fs,∃i t,v=Value.int i t
 |_,_,_,.nil,_=>⟨[],KatTups.nil,rfl,λ v hv=>by cases hv⟩
 |_,_,key,.cons (a:=k) r rr,h=>by
  obtain⟨fs,h1,h2,h3⟩:=uO I rr (key:=λ i=>key (i+1)) λ i k hk=>h (i+1) k (by simpa using hk);obtain⟨t,m,o,tk,n,ay,rfl,ho,hc,hd,_,_⟩:=sA I (h 0 _ rfl) r;refine⟨.int (key 0).1 tk::fs,KatTups.cons ho hc hd rfl h1,by simp[h2],λ v hv=>?_⟩;rcases G5.mp hv with rfl|hv
  ·exact⟨_,_,rfl⟩
  ·exact h3 v hv
theorem Cd{ys:List V}(r:ce ys ay)(p:List Nat):ce (p.map λ i=>ys.getD i V.bw) (p.map λ i=>ay.getD i Value.none):=by
 induction p with
 |nil=>exact .nil
 |cons i p ih=>
  refine .cons ?_ ih;show bv (ys.getD i V.bw) (ay.getD i Value.none);cases e:ys[i]? with
  |none=>have e2:=r.none_of e;rw[c7,c7,e,e2];rfl
  |some y=>obtain⟨u,hu,ru⟩:=r.get e;rw[c7,c7,e,hu];exact ru
end L2
namespace L5
open PySem
theorem GL:fillsNumberSlot (.type "tuple") "mul"=pure false:=fillsNumberSlot_seq (id:="tuple.__mul__") (r:=some (.builtin "tuple.__rmul__")) F.slot_tuple_mul.lookup (by decide+kernel) F.slot_tuple_rmul.lookup (by decide+kernel)
theorem LB:seqRepeat? (.type "tuple")=pure (some (.builtin "tuple.__mul__")):=by unfold seqRepeat?;rw[seqSlot_of (T:="tuple") (name:="__mul__") (id:="tuple.__mul__") F.slot_tuple_mul.lookup (by decide+kernel),seqSlot_of (T:="tuple") (name:="__rmul__") (id:="tuple.__rmul__") F.slot_tuple_rmul.lookup (by decide+kernel)];rfl
theorem LD(a:Int)(t:Tok)(l:ww)(ay:Array jp)(n:Nat)(dd:Option ww)(sl:Array (Option jp)):Meets (Builtin.«int.__rmul__» ⟨[.int a t,.ref l],[]⟩) (λ _ R s=>s.heap.get? l=some {cls:=.type "tuple",dict:=dd,data:=.seq ay n,slots:=sl}/\R (.ok (.ret Value.notImplemented)) s):=
 .of_wp λ prog w A R s h=>by
  obtain⟨hp,g,d,tk,os⟩:=s;obtain⟨hl,h⟩:=h
  wp_walk
  exact⟨_,rfl,h⟩
theorem LC(l:ww)(ay:Array jp)(n:Nat)(dd:Option ww)(sl:Array (Option jp))(u:Tok):Meets (Builtin.«tuple.__mul__» ⟨[.ref l,.int 1 u],[]⟩) (λ _ R s=>s.heap.get? l=some {cls:=.type "tuple",dict:=dd,data:=.seq ay n,slots:=sl}/\R (.ok (.ret (.ref l))) s):=
 .of_wp λ prog w A R s h=>by
  obtain⟨hp,g,d,tk,os⟩:=s;obtain⟨hl,h⟩:=h
  wp_walk
  exact⟨_,rfl,h⟩
theorem GK(l:ww)(ay:Array jp)(n:Nat)(dd:Option ww)(sl:Array (Option jp))(x:Int)(u:Tok)(hx:x≠1)(h1: -(2^63)<=x)(h2:x < 2^63)(hi:ay.isEmpty=false)(hz:ay.size*x.toNat<=sizeLine):
  Meets (Builtin.«tuple.__mul__» ⟨[.ref l,.int x u],[]⟩) (λ _ R s=>s.heap.get? l=some {cls:=.type "tuple",dict:=dd,data:=.seq ay n,slots:=sl}/\
   R (.ok (.ret (.ref s.heap.objs.size))) {s with heap:=s.heap.push {cls:=.type "tuple",data:=.seq ((List.replicate x.toNat ay).foldl (·++·) #[])}}):=
 .of_wp λ prog w A R s h=>by
  obtain⟨hp,g,d,tk,os⟩:=s;obtain⟨hl,h⟩:=h
  wp_walk
  rw[L1 (by simp;lia)]
  wp_walk
  by_cases Ys:x<=0
  ·rw[K9 (by simp[Ys])]
   wp_walk
   have e:x.toNat=0:=by lia
   rw[e]at h;exact⟨_,rfl,h⟩
  ·rw[L1 (by simp[hi];lia)];have ez:((ay.size:Int)*x)=((ay.size*x.toNat:Nat):Int):=by rw[Int.natCast_mul,Int.toNat_of_nonneg (by lia)]
   have U8:=hz;rw[J8]at U8;rw[L1 (by rw[ez];lia)]
   wp_walk
   rw[L1 (by unfold Builtin.Tuple.tupleTooMany;rw[ez,u9,J8];lia)];have hsz:(List.foldl (λ x1 x2=>x1++x2) #[] (List.replicate x.toNat ay)).size<=sizeLine:=by
    have f0:∀(m:Nat) (zn:Array jp),(List.foldl (λ x1 x2=>x1++x2) zn (List.replicate m ay)).size=zn.size+m*ay.size:=by
     intro m
     induction m with
     |zero=>intro zn;simp
     |succ m ih=>intro zn;rw[l9,foldl_cons,ih,Array.size_append,Nat.succ_mul];lia
    rw[f0,Nat.mul_comm];simpa using hz
   wp_walk
   exact⟨_,rfl,h⟩
end L5
namespace L2
open PySem.Spec PyProof.Rows L5
theorem ya(ns:List Int):∀n,n<=ns.length->preSum (λ i=>ns.getD i 0) n=(ns.take n).sum
 |0,_=>by simp[preSum]
 |n+1,h=>by
  have hn:n < ns.length:=by lia
  rw[preSum,ya ns n (by lia),take_succ_eq_append_getElem hn,sum_append];simp[c7,hn]
theorem qg(hc:X.calm=true):c_ X (.builtin "sum") (λ xs H Q=>∃(b:Bool) (p:ww) (ns:List Int),xs=[.ref p]/\Sq b X.K H p (ns.map V.int)/\Q (.int ns.sum) H):=by
 intro xz s σ H xs us Q I r h;obtain⟨b,p,ns,rfl,hq,q⟩:=h;obtain⟨u,rfl,r1⟩:=vals1 r;cases r1;obtain⟨ay,rv,pl⟩:=gY I hq;have hi:IntsAre ay ns:=intsAre_of rv;have hlen:ay.length=ns.length:=by rw[<- rv.length,C1]
 have hA:X.A.in1.handled=none:=I.ok.hd hc;have hv:∀i v,ay.toArray[i]?=some v->∃t,v=Value.int (ns.getD i 0) t:=λ i v e=>by
  have e:ay[i]?=some v:=by simpa using e
  have h1:i < ns.length:=by rw[<- hlen];exact(i3.mp e).1
  obtain⟨t,e2⟩:=sI hi h1;rw[e]at e2;cases e2;exact⟨t,by simp[c7,h1]⟩
 have ht:preSum (λ i=>ns.getD i 0) ay.toArray.size=ns.sum:=by rw[y0,hlen,ya ns _ (J7 _),z9]
 cases b with
 |false=>
  have pl:s.heap.IsList p ay.toArray:=pl;have dP:p≠s.heap.objs.size:=by obtain⟨o,e,_⟩:=pl;exact G8 (G9 e)
  refine call_sum_walkG (x6 pl ⟨s.heap.objs.size,_,_,_,_,_,λ i=>ns.getD i 0,rfl,Walks.list hA s.heap.objs.size p dP ay.toArray,⟨⟨_,m7 _ rfl,rfl,rfl⟩,pl.at λ o e=>j3 _ e⟩,?_,hv,λ h' tk t' hk=>?_⟩)
  ·intro b hb;have:s.heap.objs.size < (s.heap.push {cls:=.type "list_iterator",data:=.fields #[.ref p,.int 0 0]}).objs.size:=by rw[D1];lia
   obtain⟨o,e,_⟩:=pl;have h2:=G9 e;simp at hb;rcases hb with rfl|rfl
   ·exact this
   ·exact Nat.lt_trans h2 this
  ·rw[ht];exact⟨.int ns.sum,H,I.kept (t':=tk) λ b o e=>hk b o (by simpa using G8 (G9 e)) (j3 _ e),⟨_,rfl⟩,q⟩
 |true=>
  have pl:s.heap.IsTuple p ay.toArray:=pl;have dP:p≠s.heap.objs.size:=by obtain⟨o,e,_⟩:=pl;exact G8 (G9 e)
  refine call_sum_walkG (wpAny_pyIter_tuple pl ⟨s.heap.objs.size,_,_,_,_,_,λ i=>ns.getD i 0,rfl,Walks.tuple hA s.heap.objs.size p dP ay.toArray,⟨⟨_,m7 _ rfl,rfl,rfl⟩,gc.keep pl λ o e=>j3 _ e⟩,?_,hv,λ h' tk t' hk=>?_⟩)
  ·intro b hb;have:s.heap.objs.size < (s.heap.push {cls:=.type "tuple_iterator",data:=.fields #[.ref p,.int 0 0]}).objs.size:=by rw[D1];lia
   obtain⟨o,e,_⟩:=pl;have h2:=G9 e;simp at hb;rcases hb with rfl|rfl
   ·exact this
   ·exact Nat.lt_trans h2 this
  ·rw[ht];exact⟨.int ns.sum,H,I.kept (t':=tk) λ b o e=>hk b o (by simpa using G8 (G9 e)) (j3 _ e),⟨_,rfl⟩,q⟩
theorem IB:gp X (binaryOp .Mult) (λ x y H Q=>∃l k xs,x=.ref l/\y=.int k/\gn X.K H l xs/\xs≠[]/\-(2^63)<=k/\k < 2^63/\xs.length*k.toNat<=sizeLine/\(k=1->Q (.ref l) H)/\(k≠1->∀p,H p=none->Q (.ref p) (ci H p (.tup (List.replicate k.toNat xs).flatten)))):=by
 intro xz s σ H x y v u Q I rx ry h;obtain⟨l,k,xs,rfl,rfl,hH,dP,h1,h2,hz,q1,q2⟩:=h;cases rx;obtain⟨t,rfl⟩:=ry;obtain⟨ay,r,⟨⟨c,dd,da,sl⟩,e,hc,n,hd⟩,_⟩:=I.tuple hH;have hl:=r.length;cases(show c=.type "tuple" from hc);cases(show da=.seq ay.toArray n from hd);refine wpAny_binaryOp_repeat_ref (T:="tuple") (U:="int") (by decide) ⟨_,e,rfl⟩ (λ s'=>typeIs_int s' k t) GL F.fills_int_mul F.slot_int_rmul LB F.slot_int_index.lookup
  (K4 F.slot_int_rmul (typeIs_int s k t) F.entry_int_rmul (F.args_int_rmul_2 _ _) (LD k t l ay.toArray n dd sl) ⟨e,rfl,⟨_,e,rfl⟩,?_⟩)
 by_cases hk:k=1
 ·subst hk;exact K4 F.slot_tuple_mul ⟨_,e,rfl⟩ F.entry_tuple_mul (F.args_tuple_mul_2 _ _) (LC l ay.toArray n dd sl t) ⟨e,.ref l,H,I,rfl,q1 rfl⟩
 ·refine K4 F.slot_tuple_mul ⟨_,e,rfl⟩ F.entry_tuple_mul (F.args_tuple_mul_2 _ _) (GK l ay.toArray n dd sl k t hk h1 h2 ?_ (by rw[y0,<- hl];exact hz)) ⟨e,?_⟩
  ·cases ay with
   |nil=>cases r;exact absurd rfl dP
   |cons a b=>rfl
  ·have ET:List.foldl (λ x1 x2=>x1++x2) #[] (List.replicate k.toNat ay.toArray)=(List.replicate k.toNat ay).flatten.toArray:=by have:=foldl_rep ay k.toNat [];rw[B1]at this;exact this
   rw[ET];have fr:=I.fresh;refine⟨.ref s.heap.objs.size,_,I.laid (t':=s.toks) (o:=.tup (List.replicate k.toNat xs).flatten) (λ b o e=>j3 _ e) (J7 _) ⟨?_,_,r.rep k.toNat,⟨_,m7 _ rfl,rfl,_,rfl⟩⟩,rfl,q2 hk _ fr⟩;rw[len_rep,Nat.mul_comm];exact hz
end L2
namespace L3
open PySem.Spec L2 L5 PyProof.Rows
mutual
def toP:D->PyData
 | .bw=>.none
 | .bl b=>.bool b
 | .int i=>.int i
 | .str x=>.str x
 | .ty _=>.none
 | .ref _=>.none
 | .tup ds=>.tuple (toPs ds)
 | .fl ds=>.list (toPs ds)
def toPs:List D->List PyData
 |[]=>[]
 |d::ds=>toP d::toPs ds
end
mutual
def nr:D->Bool
 | .bw=>true
 | .bl _=>true
 | .int _=>true
 | .str _=>true
 | .ty _=>false
 | .ref _=>false
 | .tup ds=>wN ds
 | .fl ds=>wN ds
def wN:List D->Bool
 |[]=>true
 |d::ds=>nr d&&wN ds
end
section
variable {σ:L2.St}
mutual
theorem Td(I:be X xz σ H s):∀(d:D) {x:V} {u:jp},nr d=true->bn X.K H d x->bv x u->∃as,Reads s.heap u (toP d) as
 | .bw,x,u,_,h,r=>by cases(dN.mp h);cases r;unfold toP;exact⟨_,Reads.none⟩
 | .bl b,x,u,_,h,r=>by cases(ba.mp h);cases r;unfold toP;exact⟨_,Reads.bool b⟩
 | .int i,x,u,_,h,r=>by cases(ax.mp h);obtain⟨t,rfl⟩:=r;unfold toP;exact⟨_,Reads.int i t⟩
 | .str z,x,u,_,h,r=>by cases(bj.mp h);obtain⟨t,rfl⟩:=r;unfold toP;exact⟨_,Reads.str z t⟩
 | .ty _,x,u,n,h,r=>by unfold nr at n;cases n
 | .ref _,x,u,n,h,r=>by unfold nr at n;cases n
 | .tup ds,x,u,n,h,r=>by unfold nr at n;obtain⟨p,xs,rfl,hq,hd⟩:=aZ.mp h;cases(show u=Value.ref p from r);obtain⟨ay,rv,⟨o,ho,hc,m,OJ⟩,_⟩:=I.tuple hq;obtain⟨as,ra⟩:=wC I ds n hd rv;unfold toP;exact⟨_,reads_tuple_at ho hc OJ ra⟩
 | .fl ds,x,u,n,h,r=>by unfold nr at n;obtain⟨p,xs,rfl,hq,hd⟩:=jj.mp h;cases(show u=Value.ref p from r);obtain⟨ay,rv,pl,_⟩:=I.list hq.sq;obtain⟨o,ho,hc,m,OJ⟩:=pl.isList;obtain⟨as,ra⟩:=wC I ds n hd rv;unfold toP;exact⟨_,reads_list_at ho hc OJ ra⟩
theorem wC(I:be X xz σ H s):∀(ds:List D) {xs:List V} {us:List jp},wN ds=true->aD X.K H ds xs->ce xs us->∃as,ReadsAll s.heap us (toPs ds) as
 |[],xs,us,_,h,r=>by cases(ao.mp h);cases r;unfold toPs;exact⟨_,ReadsAll.nil⟩
 |d::ds,xs,us,n,h,r=>by
  unfold wN at n;rw[A1]at n;obtain⟨x,Kl,rfl,h1,h2⟩:=ag.mp h;cases r with
  |cons r1 r2=>obtain⟨as,a⟩:=Td I d n.1 h1 r1;obtain⟨bs,b⟩:=wC I ds n.2 h2 r2;unfold toPs;exact⟨_,ReadsAll.cons a b⟩
end
end
def PV(K:L6)(H:Hp)(x:V)(a:PyData):Prop:=(∃d,nr d=true/\bn K H d x/\toP d=a)\/∃p ds xs,x=.ref p/\fE K H p xs/\aD K H ds xs/\wN ds=true/\a=.list (toPs ds)
def wF(M:Mem)(d:D):Option PyData:=match d with
 | .ref a=>match M a with
  |some (.lst ds)=>if wN ds=true then some (.list (toPs ds))else none
  |_=>none
 |d=>if nr d=true then some (toP d)else none
theorem mB{x:V}{a:PyData}(e:wF M d=some a)(h:bn K H d x)(hm:ca K H M):PV K H x a:=by
 cases d with
 |ref p=>
  cases(aE.mp h);unfold wF at e;cases q:M p with
  |none=>simp[q]at e
  |some o=>
   cases o with
   |di b kvs=>simp[q]at e
   |jC x=>simp[q]at e
   |lst ds=>
    simp only[q]at e;by_cases n:wN ds=true
    ·rw[K9 n]at e;cases e;obtain⟨xs,hx,hd⟩:=hm p _ q;exact .inr ⟨p,ds,xs,rfl,fE.of hx,hd,n,rfl⟩
    ·rw[L1 n]at e;cases e
 |bw=>exact .inl ⟨_,rfl,h,by simpa[wF,nr]using e⟩
 |bl _=>exact .inl ⟨_,rfl,h,by simpa[wF,nr]using e⟩
 |int _=>exact .inl ⟨_,rfl,h,by simpa[wF,nr]using e⟩
 |str _=>exact .inl ⟨_,rfl,h,by simpa[wF,nr]using e⟩
 |ty _=>simp[wF,nr]at e
 |tup ds=>
  by_cases n:wN ds=true
  ·exact .inl ⟨.tup ds,by unfold nr;exact n,h,by simpa[wF,nr,n]using e⟩
  ·simp[wF,nr,n]at e
 |fl ds=>
  by_cases n:wN ds=true
  ·exact .inl ⟨.fl ds,by unfold nr;exact n,h,by simpa[wF,nr,n]using e⟩
  ·simp[wF,nr,n]at e
theorem iI{σ:L2.St}(I:be X xz σ H s){x:V}{a:PyData}(h:PV X.K H x a)(r:bv x u):∃as,Reads s.heap u a as:=by
 rcases h with⟨d,n,hd,rfl⟩|⟨p,ds,xs,rfl,hq,hd,n,rfl⟩
 ·exact Td I d n hd r
 ·cases(show u=Value.ref p from r);obtain⟨ay,rv,pl,_⟩:=I.list hq;obtain⟨o,ho,hc,m,OJ⟩:=pl.isList;obtain⟨as,ra⟩:=wC I ds n hd rv;exact⟨_,reads_list_at ho hc OJ ra⟩
def V6(neg:Bool):gJ:=λ x y M Q=>∃a b,wF M x=some a/\wF M y=some b/\SeqAt.shaped a=true/\SeqAt.shaped b=true/\Q (.bl (if neg then !PyData.eqv a b else PyData.eqv a b)) M
theorem NG(hu:X.A.units+64 < cLine):gp X (compareOp .Eq) (λ x y H Q=>∃a b,PV X.K H x a/\PV X.K H y b/\SeqAt.shaped a=true/\SeqAt.shaped b=true/\Q (.bl (PyData.eqv a b)) H):=by intro xz s σ H x y v u Q I rx ry h;obtain⟨a,b,ha,hb,sa,sb,q⟩:=h;obtain⟨as,ra⟩:=iI I ha rx;obtain⟨bs,rb⟩:=iI I hb ry;exact eq_dataH ra rb sa sb hu ⟨.bl (PyData.eqv a b),H,I,rfl,q⟩
theorem NA(hu:X.A.units+64 < cLine):gp X (compareOp .NotEq) (λ x y H Q=>∃a b,PV X.K H x a/\PV X.K H y b/\SeqAt.shaped a=true/\SeqAt.shaped b=true/\Q (.bl (!PyData.eqv a b)) H):=by intro xz s σ H x y v u Q I rx ry h;obtain⟨a,b,ha,hb,sa,sb,q⟩:=h;obtain⟨as,ra⟩:=iI I ha rx;obtain⟨bs,rb⟩:=iI I hb ry;exact ne_dataH ra rb sa sb hu ⟨.bl (!PyData.eqv a b),H,I,rfl,q⟩
theorem gr.or{f:jp->jp->Sem jp}{r r':gJ}(h:gr X f r)(h':gr X f r'):gr X f (λ x y M Q=>r x y M Q\/r' x y M Q):=by
 obtain⟨a,h1,h2⟩:=h;obtain⟨b,g1,g2⟩:=h';refine⟨_,h1.or g1,λ x y d e H M Q2 Q hd he hm q k=>?_⟩;rcases q with q|q
 ·exact .inl (h2 x y d e H M Q2 Q hd he hm q k)
 ·exact .inr (g2 x y d e H M Q2 Q hd he hm q k)
def vo(neg:Bool):gJ:=λ x y M Q=>Ln neg x y M Q\/V6 neg x y M Q
theorem cO(hu:X.A.units+64 < cLine):gr X (compareOp .Eq) (vo false):=UO.or ⟨_,NG hu,λ x y d e H M Q2 Q hd he hm q k=>by
 obtain⟨a,b,ha,hb,sa,sb,q⟩:=q;exact⟨a,b,mB ha hd hm,mB hb he hm,sa,sb,k _ H _ M (ba.mpr rfl) hm (ar.refl H) q⟩⟩
theorem jT(hu:X.A.units+64 < cLine):gr X (compareOp .NotEq) (vo true):=UL.or ⟨_,NA hu,λ x y d e H M Q2 Q hd he hm q k=>by
 obtain⟨a,b,ha,hb,sa,sb,q⟩:=q;exact⟨a,b,mB ha hd hm,mB hb he hm,sa,sb,k _ H _ M (ba.mpr rfl) hm (ar.refl H) q⟩⟩
def mK:D->List D->Mem->bR->Prop:=λ x vs M Q=>∃p ds y,x=.ref p/\vs=[y]/\M p=some (.lst ds)/\ds.length < sizeLine/\Q .bw (ai M p (.lst (ds++[y])))
theorem bU:Ls X "list.append" mK:=⟨yx,AY,λ x xs d ds H M Q2 Q hx hd hm q k=>by
 obtain⟨p,es,y,rfl,rfl,hM,hz,q⟩:=q;cases(aE.mp hx);obtain⟨v,r,rfl,hv,hr⟩:=ag.mp hd;cases(ao.mp hr);obtain⟨zs,h1,h2⟩:=hm p _ hM;have t:=ar.lst (o:=.lst (zs++[v])) h1;refine⟨p,zs,v,rfl,rfl,h1,by rw[h2.length];exact hz,k _ _ .bw _ (dN.mpr rfl) (hm.put (u:=.lst (es++[y])) t ⟨_,aR,?_⟩) t q⟩;exact(aD.mono t es h2).append (aD.one (bn.mono t y hv))⟩
theorem dC:∀{ns:List Int} {xs:List V},aD K H (ns.map D.int) xs->xs=ns.map V.int
 |[],xs,h=>by rw[map_nil,ao]at h;exact h
 |b::bs,xs,h=>by rw[G4,ag]at h;obtain⟨x,r,rfl,a,q⟩:=h;rw[ax]at a;rw[a,dC q];rfl
def Sb:List D->Mem->bR->Prop:=λ xs M Q=>∃(x:D) (ds:List D) (ns:List Int),xs=[x]/\cT M x=some ds/\ds=ns.map D.int/\Q (.int ns.sum) M
theorem Sv(hc:X.calm=true):dB X (.builtin "sum") Sb:=⟨_,qg hc,λ xs ds H M Q2 Q hd hm q k=>by
 obtain⟨x,es,ns,rfl,e,rfl,q⟩:=q;obtain⟨v,r,rfl,hv,hr⟩:=ag.mp hd;cases(ao.mp hr);obtain⟨p,ys,rfl,h,hy⟩:=f_ e hv hm;rw[dC hy]at h;rcases h with h|h
 ·exact⟨false,p,ns,rfl,h,k _ H _ M (ax.mpr rfl) hm (ar.refl H) q⟩
 ·exact⟨true,p,ns,rfl,h,k _ H _ M (ax.mpr rfl) hm (ar.refl H) q⟩⟩
def Sf:gJ:=λ x y M Q=>∃ds k,x=.tup ds/\y=.int k/\ds≠[]/\-(2^63)<=k/\k < 2^63/\ds.length*k.toNat<=sizeLine/\Q (.tup (List.replicate k.toNat ds).flatten) M
theorem oI(h:aD K H ds xs):∀k:Nat,aD K H (List.replicate k ds).flatten (List.replicate k xs).flatten
 |0=>by simp[ao]
 |k+1=>by rw[l9,l9,x3,x3];exact h.append (oI h k)
def zG:gJ:=λ x y M Q=>OY x y M Q\/Sf x y M Q
theorem NU:gr X (binaryOp .Mult) zG:=Rg.or ⟨_,IB,λ x y d e H M Q2 Q hd he hm q k=>by
 obtain⟨ds,n,rfl,rfl,dP,h1,h2,hz,q⟩:=q;obtain⟨p,xs,rfl,hq,hx⟩:=aZ.mp hd;cases(ax.mp he);refine⟨p,n,xs,rfl,rfl,hq,λ z=>?_,h1,h2,by rw[hx.length];exact hz,λ e1=>?_,λ _ l hl=>?_⟩
 ·have:=hx.length;rw[z]at this;exact dP (j1.mp this.symm)
 ·subst e1;rw[show(1:Int).toNat=1 from rfl,show(List.replicate 1 ds).flatten=ds by simp]at q;exact k _ H _ M (aZ.mpr ⟨p,xs,rfl,hq,hx⟩) hm (ar.refl H) q
 ·exact k _ _ (.tup _) M (jG hl (oI hx _)) (hm.laid hl) (ar.laid hl) q⟩
open PySem.Spec L2 L5
def Kk(b:Bool)(M:Mem)(k:D)(c:Ky):Prop:=match b with
 |true=>k=.tup [.int c.1,.tup (c.2.map D.int)]
 |false=>∃m,k=.tup [.int c.1,.ref m]/\M m=some (.lst (c.2.map D.int))
theorem Kk.v9{k:D}{c:Ky}(h:Kk b M k c)(r:bn K H k v)(hm:ca K H M):oX K b H v c:=by
 cases b with
 |true=>cases(show k=_ from h);obtain⟨p,xs,rfl,hq,hd⟩:=aZ.mp r;obtain⟨x1,r1,rfl,h1,hd⟩:=ag.mp hd;obtain⟨x2,r2,rfl,h2,hd⟩:=ag.mp hd;cases(ao.mp hd);cases(ax.mp h1);obtain⟨p2,ys,rfl,WV,hd2⟩:=aZ.mp h2;rw[dC hd2]at WV;exact⟨p,p2,rfl,hq,WV⟩
 |false=>obtain⟨m,rfl,hM⟩:=h;obtain⟨p,xs,rfl,hq,hd⟩:=aZ.mp r;obtain⟨x1,r1,rfl,h1,hd⟩:=ag.mp hd;obtain⟨x2,r2,rfl,h2,hd⟩:=ag.mp hd;cases(ao.mp hd);cases(ax.mp h1);cases(aE.mp h2);obtain⟨ys,hy,hd2⟩:=hm m _ hM;rw[dC hd2]at hy;exact⟨p,m,rfl,hq,fE.of hy⟩
theorem rm(h:aD K H ds xs):∀p:List Nat,aD K H (p.map λ i=>ds.getD i D.bw) (p.map λ i=>xs.getD i V.bw)
 |[]=>by simp[ao]
 |i::p=>by
  rw[G4,G4,ag];refine⟨_,_,rfl,?_,rm h p⟩;cases e:ds[i]? with
  |none=>
   have e2:xs[i]?=none:=by have:=h.length;have:=i4.mp e;exact k5 (by lia)
   rw[c7,c7,e,e2];exact dN.mpr rfl
  |some d=>obtain⟨x,e2,hx⟩:=h.get e;rw[c7,c7,e,e2];exact hx
open PySem.Spec L2 L5
section
variable {Q:bR}
theorem HA{i j:Int}(q:Q (.bl (decide (i=j))) M):vo false (.int i) (.int j) M Q:=.inl (Mq q)
theorem HB{i j:Bool}(q:Q (.bl (decide (i=j))) M):vo false (.bl i) (.bl j) M Q:=.inl (Mr q)
theorem Hz{i j:Str}(q:Q (.bl (decide (i=j))) M):vo false (.str i) (.str j) M Q:=.inl (Mp q)
theorem Hq{i j:Int}(q:Q (.bl (!decide (i=j))) M):vo true (.int i) (.int j) M Q:=.inl (Mk q)
theorem yr{i j:Bool}(q:Q (.bl (!decide (i=j))) M):vo true (.bl i) (.bl j) M Q:=.inl (Ml q)
theorem De{i j:Int}(h:tN i j)(q:Q (.int (i*j)) M):zG (.int i) (.int j) M Q:=.inl (Hr h q)
theorem Dd{k:Int}(h0:0<=k)(h1:k<=10000)(q:Q (.tup (List.replicate k.toNat d)) M):zG (.tup [d]) (.int k) M Q:=.inr ⟨[d],k,rfl,rfl,by simp,Int.le_trans (by decide) h0,q9 h1 (by decide),J0 (show 1*k.toNat<=10000 by lia) (by decide),by
 rw[show(List.replicate k.toNat [d]).flatten=List.replicate k.toNat d by simp];exact q⟩
theorem Hj(q:Q (.int ns.sum) M):Sb [.tup (ns.map D.int)] M Q:=⟨_,_,ns,rfl,rfl,rfl,q⟩
theorem gC{y:D}(h:M p=some (.lst ds))(hz:ds.length < sizeLine)(q:Q .bw (ai M p (.lst (ds++[y])))):mK (.ref p) [y] M Q:=⟨p,ds,y,rfl,rfl,h,hz,q⟩
abbrev row(ns:List Int):D:=.tup (ns.map D.int)
theorem Hi{a b:D}(h:N ((δ.set i (some a)).set j (some b)) M):pU 2 (dq (bd i) (dq (bd j) pV)) (.tup [a,b]) δ M N:=⟨rfl,h⟩
theorem Di{A B:Prop}(h:B):if(!true)=true then A else B:=by rw[Bool.not_true,L1 n9];exact h
theorem Dj{A B:Prop}(h:A):if(!false)=true then A else B:=by rw[Bool.not_false,K9 rfl];exact h
theorem fu{c:fW}{tb:kC}{E:kr}{δ:dF}(h:∃W:Nat->dF->Mem->Prop,(∃m,W m δ M)/\∀m δ M,W m δ M->c δ M λ b M1=>
  if b=true then ∃N:dF->Mem->Prop,(∀δ' M',N δ' M'->∃m',m' < m/\W m' δ' M')/\tb {E with nx:=N,ct:=N,bk:=E.nx} δ M1 else E.nx δ M1):wx c tb E δ M:=h
theorem Lp{δc:dF}(Pv:Nat->List D->Mem->Prop)(h0:Pv 0 [] M1)(hl:∀i zn M,i<=ds.length->Pv i zn M->M a=some (.lst ds))(hz:∀i zn M,i<=ds.length->Pv i zn M->zn.length<=sizeLine) (hs:∀i d zn M,ds[i]?=some d->Pv i zn M->g d δc M λ δ2 M2=>tt δ2 M2 λ b M3=>if b=true then te δ2 M3 λ y M4=>Pv (i+1) (zn++[y]) M4 else Pv (i+1) zn M3) (hd:∀zn M,Pv ds.length zn M->Qe zn M):∃(B:Nat) (W:Nat->List D->Mem->Prop),W 0 [] M1/\∀i zn M,W i zn M->i<=B/\zn.length<=sizeLine/\match ad (.at a) M with
   |none=>False
   |some ds=>match ds[i]? with
    |none=>i=ds.length/\Qe zn M
    |some d=>g d δc M λ δ2 M2=>tt δ2 M2 λ b M3=>if b=true then te δ2 M3 λ y M4=>W (i+1) (zn++[y]) M4 else W (i+1) zn M3:=by
 refine⟨ds.length,λ i zn M=>if i<=ds.length then Pv i zn M else False,by dsimp only;rw[K9 (J9 _)];exact h0,?_⟩;intro i zn M w;by_cases hi:i<=ds.length
 ·rw[K9 hi]at w;refine⟨hi,hz i zn M hi w,?_⟩;have e0:ad (.at a) M=some ds:=by show(match M a with|some (.lst ds)=>some ds|_=>none)=some ds;rw[hl i zn M hi w]
  rw[e0];show(match ds[i]? with
    |none=>i=ds.length/\Qe zn M
    |some d=>g d δc M λ δ2 M2=>tt δ2 M2 λ b M3=>if b=true then te δ2 M3 λ y M4=>(if i+1<=ds.length then Pv (i+1) (zn++[y]) M4 else False)else(if i+1<=ds.length then Pv (i+1) zn M3 else False))
  cases e:ds[i]? with
  |none=>have:i=ds.length:=C4 hi (i4.mp e);subst this;exact⟨rfl,hd zn M w⟩
  |some d=>have gg:i+1<=ds.length:=(i3.mp e).1;simp only[K9 gg];exact hs i d zn M e w
 ·rw[L1 hi]at w;exact w.elim
end
end L3
namespace L2
open PySem.Spec PyProof.Rows L5 PySem.W
section
variable {te:TE}{p pos fp kp:Pos}{f:Str}
theorem qv:∀as:List ww,ce (as.map V.ref) (as.map Value.ref)
 |[]=>.nil
 |a::as=>.cons rfl (qv as)
end
end L2
namespace L5
open PySem
open PySem.AutoSeq1 (wpAny_loadPart')
abbrev TF(T:String)(h:Heap)(l:ww):Heap:=h.push {cls:=.type T,data:=.fields #[.ref l,.int 0 0]}
abbrev V2(T:String)(h:Heap)(l:ww):Heap:=(TF T h l).push {cls:=.type "enumerate",data:=.fields #[.none,.bool false,.ref h.objs.size,rawInt 0,.none,.none]}
set_option tactic.hygienic true in
theorem xu(k:NK T S)(l:ww)(vs:Array jp):Meets (Builtin.«enumerate.__new__» ⟨[.type "enumerate",.ref l],[]⟩) (λ _ R s=>S s.heap l vs/\R (.ok (.ret (.ref (TF T s.heap l).objs.size))) {s with heap:=V2 T s.heap l}):=
 .of_wp λ prog w A R s h=>by
  obtain⟨hp,g,d,tk,os⟩:=s;obtain⟨a1,h⟩:=h;have se:=sub_enumerate;have aT:S (Shared.heap ⟨hp,g,d,tk,os⟩) l vs:=a1
  wp_walk using k.start aT
  refine wpAny_stack_any λ st=>K2 ?_;split
  ·rename_i c _ _ _ _ _;cases(c==Value.type "enumerate")
   all_goals
    wp_walk using k.start aT
    exact⟨_,rfl,h⟩
  ·wp_walk using k.start aT
   exact⟨_,rfl,h⟩
theorem I_(kk:NK T S){l:ww}{vs:Array jp}(a1:S s.heap l vs) (k:∀h',IsEnum h' (s.heap.objs.size+1) s.heap.objs.size 0 .none->mf T h' s.heap.objs.size l 0->(∀f o,s.heap.get? f=some o->h'.get? f=some o)->Q (.ref (s.heap.objs.size+1)) {s with heap:=h'}):wpAny (model prog w) A (call (.type "enumerate") [.ref l]) Q E s:=by refine callType_new F.called_enumerate (by decide) (F.typeCall_enumerate_1 _) (F.newCall_enumerate_1 _) (λ ob=>F.args_object_init_2 ob _) F.entry_enumerate_new (xu kk l vs) ⟨a1,?_⟩;have e1:(TF T s.heap l).objs.size=s.heap.objs.size+1:=D1 ..;have g2:(V2 T s.heap l).get? (TF T s.heap l).objs.size=some _:=m7 _ rfl;have g1:(V2 T s.heap l).get? s.heap.objs.size=some _:=j3 _ (m7 s.heap rfl);rw[e1]at g2;show _/\_;rw[e1];exact⟨⟨_,g2,rfl⟩,k _ g2 ⟨_,g1,rfl,rfl⟩ λ f o x=>j3 _ (j3 _ x)⟩
theorem Ea(k:NK T S)(hA:A.handled=none)(j l:ww)(ne:l≠j)(vs:Array jp):Draws prog w A j [j,l] vs.size (λ i v=>vs[i]?=some v) (λ i h=>mf T h j l i/\S h l vs) where
 live:=λ _ _ st=>let⟨⟨o,ho,_⟩,_⟩:=st;⟨o,ho⟩
 frame:=λ _ _ _ st q=>let⟨⟨o,ho,r⟩,su⟩:=st;⟨⟨o,q j (by simp) o ho,r⟩,k.keep su λ o e=>q l (by simp) o e⟩
 item:=λ i s Q E hi st kk=>k.item st.1 st.2 (c9 hi) λ h' a b=>kk _ h' s.toks (c9 hi) ⟨a,k.keep st.2 λ o e=>b.extBut _ _ ne e⟩ b
 done:=λ s Q E st kk=>k.stop hA st.1 st.2 (j2 (J7 _)) kk
end L5
namespace L2
open PySem.Spec PyProof.Rows L5
def TX(K:L6)(b:Bool)(l:ww):It:=
 ⟨λ i H=>∃xs x,Sq b K H l xs/\xs[i]?=some x,
  λ i H v H'=>∃(p:ww) (x:V),H p=none/\v=.ref p/\H'=ci H p (.tup [.int i,x])/\∀xs,Sq b K H l xs->xs[i]?=some x,
  λ i H=>∃xs,Sq b K H l xs/\xs.length<=i⟩
def Xz(b:Bool)(e j l:ww)(i:Nat)(h:Heap):Prop:=(∃old,IsEnum h e j i old)/\mf (SU b) h j l i
theorem An{k0}{pos:Pos}{e j:ww}(b:Bool)(B:e≠j)(l:ww):Turn P w K (.Tuple es k0 pos) (TX K b l) [e,j] e (Xz b e j l) where
 mem:=by simp
 obj:=λ i h st c hc=>by
  obtain⟨⟨old,he⟩,⟨oa,ha,_,da⟩⟩:=st;rcases G5.mp hc with rfl|hc
  ·exact⟨_,he,λ v z=>by cases z⟩
  rcases G5.mp hc with rfl|hc
  ·exact⟨_,ha,λ v z=>by rw[da]at z;cases z⟩
  ·cases hc
 keep:=λ i h h' st q=>by obtain⟨⟨old,he⟩,⟨oa,ha,r⟩⟩:=st;exact⟨⟨old,q e (by simp) _ he⟩,⟨oa,q j (by simp) _ ha,r⟩⟩
 item:=by
  intro X hP hw hK hc i xz s σ H E I hf st hg;subst hP hw hK;obtain⟨xs,x,hl,hx⟩:=hg;obtain⟨⟨old,he⟩,hj⟩:=st;obtain⟨PB,r1,p1⟩:=gY I hl;obtain⟨u1,e1,q1⟩:=r1.get hx;have lj:l≠j:=Co I (hf j (by simp)) hl;have le:l≠e:=Co I (hf e (by simp)) hl;have hi:i < PB.toArray.size:=by have:=(i3.mp e1).1;simpa using this
  refine wpAny_pyNext_enum_itemD (Ea (ig b) (A:=X.A.in1) (I.ok.hd hc) j l lj PB.toArray) he ⟨hj,p1⟩ hi B (by simp;exact⟨B,K8 le⟩) λ y g tk g1 g2 g3 g4 g5 g6=>?_;have ey:y=u1:=by rw[getElem?_toArray,e1]at g1;cases g1;rfl
  subst ey;have hn:H s.heap.objs.size=none:=I.bx.fresh (J7 _);have I1:be X xz σ H {s with heap:=g,toks:=tk+1}:=tZ (t':=tk+1) I (ch:=[e,j]) (λ c o hc e=>g6 c o (λ z=>hc (by simp[z])) (λ z=>hc (by simp[z])) e) hf;refine⟨_,rfl,wpAny_letOwnedTupleGo_enum (s:={s with heap:=g,toks:=tk+1}) g2 λ g' e' sb=>?_⟩;have I2:be X xz σ H {s with heap:=g',toks:=tk+1}:=tZ (s:={s with heap:=g,toks:=tk+1}) (t':=tk+1) (ch:=[e]) I1 (λ c o hc q=>sb.extBut _ _ (λ z=>hc (by simp[z])) q) (λ c hc=>hf c (by simp at hc ⊢;exact .inl hc));have fo:=I.jf (H':=H) (J7 s.heap.objs.size) hn;have WJ:e < s.heap.objs.size:=G9 he;have X_:j < s.heap.objs.size:=let⟨_,q,_⟩:=hj;G9 q
  have t5:=sb.extBut _ _ (J5 WJ) g4;have I3:be X xz σ (ci H s.heap.objs.size (.tup [.int i,x])) {s with heap:=g',toks:=tk+1}:=be.nu I2 hn ⟨show 2<=sizeLine by decide,[.int i tk,y],.cons ⟨tk,rfl⟩ (.cons q1 .nil),⟨_,t5,rfl,_,rfl⟩⟩ fo.2.1 (J0 I.sz (J7 _)) fo.2.2.2.2.1 fo.2.2.2.2.2;refine⟨.ref s.heap.objs.size,_,I3,rfl,⟨s.heap.objs.size,x,hn,rfl,rfl,λ Kl h'=>by rw[LQ I h' hl];exact hx⟩,⟨⟨_,by simpa using e'⟩,?_⟩,λ c hc=>?_⟩
  ·obtain⟨o,ho,r⟩:=g3.1;exact⟨o,sb.extBut _ _ (K8 B) ho,r⟩
  ·have gg:c < s.heap.objs.size:=by
    simp at hc;rcases hc with rfl|rfl
    ·exact WJ
    ·exact X_
   rw[aN (G8 gg)];exact(hf c hc).1
 done:=by intro X hP hw hK hc i xz s σ H E I hf st hg;subst hP hw hK;obtain⟨xs,hl,hx⟩:=hg;obtain⟨⟨old,he⟩,hj⟩:=st;obtain⟨PB,r1,p1⟩:=gY I hl;have l1:=r1.length;have lj:l≠j:=Co I (hf j (by simp)) hl;have hT:s.TypeIs (.ref e) "enumerate":=⟨_,he,rfl⟩;unfold pyNext;refine K1 (G0 (j0 (name:=Str.ofString "__next__") hT F.slot_enumerate_next (A0 F.slot_enumerate_next hT F.entry_enumerate_next ?_ (F.args_enumerate_next_1 _))));refine K1 (m:=field (.ref e) 2) (K0 he rfl (x:=.ref j) rfl ?_);refine K1 ((ig b).stop (A:=X.A.in1) (I.ok.hd hc) hj p1 (j2 (by simp;lia)) λ g c g1 g2=>?_);obtain⟨o,ho,E_⟩:=g2;refine K1 (A6 (T:="StopIteration") (b:=true) ⟨o,ho,E_⟩ isSubtype_stop (K2 ⟨rfl,?_⟩));exact tZ (t':=s.toks) (ch:=[j]) I (λ b o hb q=>g1 b o (λ z=>hb (by simp[z])) q) λ b hb=>hf b (by simp at hb ⊢;exact .inr hb)
 self:=λ _ _ _ _ _ st h=>wpAny_pyIter_enum st.1.choose_spec h
section
variable {k0:_}{Cg:Pos}{a:Expr}{p pos:Pos}
def Rv(K:L6)(ta:TA):TI:=λ σ H R=>ta σ H λ vs H1=>∃(b:Bool) (l:ww),vs=[.ref l]/\(∃xs,Sq b K H1 l xs)/\R (TX K b l) H1
theorem Io(hg:Gl X "enumerate")(hm:X.mg "enumerate"=none)(ha:PA X [a] ta)(hs:starEach [a] X.env=[(false,eval a X.env)]:=by rfl)(hs2:starEach [] X.env=[]:=by rfl):PI X (.Tuple es k0 Cg) (.Call (.Name "enumerate" p) [a] [] pos) (Rv X.K ta):=by
 intro xz s σ H R I h;refine Call_ (fA I hg hm boot_enumerate (a7 (dG (ha pos xz s σ H _ I h) λ us s1 ⟨vs,H1,I1,r1,q1⟩=>?_) (by rw[hs,hs2]) (by rw[hs2];rfl)));obtain⟨b,l,e,⟨xs,hl⟩,q⟩:=q1;subst e;obtain⟨u1,rfl,r⟩:=vals1 r1;cases(show u1=Value.ref l from r);obtain⟨PB,r1,p1⟩:=gY I1 hl;refine I_ (ig b) p1 λ g g1 g2 g7=>wpAny_pyIter_enum (s:={s1 with heap:=g}) g1 ?_;have I2:be X xz σ H1 {s1 with heap:=g}:=I1.kept (t':=s1.toks) g7;have fr:∀c,s1.heap.objs.size<=c->jz X xz H1 c:=λ c hc=>I1.jf hc (I1.bx.fresh hc);have ne:s1.heap.objs.size+1≠s1.heap.objs.size:=by lia
 refine⟨_,[s1.heap.objs.size+1,s1.heap.objs.size],_,_,H1,rfl,I2,An b ne l,⟨⟨_,g1⟩,g2⟩,λ c hc=>fr c ?_,q⟩;simp at hc;rcases hc with rfl|rfl <;> lia
end
end L2
namespace L3
open PySem.Spec L2 L5
def dS(ds:List D):List D:=(List.range ds.length).map λ(i:Nat)=>D.tup [.int (i:Int),ds.getD i D.bw]
theorem b_(ds:List D):(dS ds).length=ds.length:=by simp[dS]
def kindB:D->Bool
 | .tup _=>true
 |_=>false
theorem rT{x:V}(e:cT M d=some ds)(h:bn K H d x)(hm:ca K H M):∃p xs,x=.ref p/\Sq (kindB d) K H p xs/\aD K H ds xs:=by
 cases d with
 |tup es=>cases(show some es=some ds from e);obtain⟨p,xs,rfl,h1,h2⟩:=aZ.mp h;exact⟨p,xs,rfl,h1,h2⟩
 |fl es=>cases(show some es=some ds from e);obtain⟨p,xs,rfl,h1,h2⟩:=jj.mp h;exact⟨p,xs,rfl,h1.sq,h2⟩
 |ref a=>cases(aE.mp h);obtain⟨xs,h1,h2⟩:=fc (show bD M a=some ds from e) hm;exact⟨a,xs,rfl,fE.of h1,h2⟩
 |_=>cases e
def fN(x:D)(M:Mem):Option (List D):=(cT M x).map dS
theorem Be{x:D}(hx:bn K H1 x (.ref a)):tJ K H1 (TX K (kindB x) a) (.fn (fN x)):=λ H M fs t hm e=>by
 have e:(cT M x).map dS=some fs:=e;cases e1:cT M x with
 |none=>rw[e1]at e;cases e
 |some ds=>rw[e1]at e;cases e;obtain⟨p,xs,e3,q1,x1⟩:=rT e1 (bn.mono t x hx) hm;cases e3;have l1:=x1.length;rw[b_];refine⟨λ i hi=>⟨xs,xs[i]'(by lia),q1,by simp⟩,λ i hi=>⟨xs,q1,by lia⟩,λ i v H' hi y=>?_⟩;obtain⟨p,v,hp,rfl,rfl,hx⟩:=y;obtain⟨d,d1,d2⟩:=x1.Bs (hx xs q1);refine⟨ar.laid hp,hm.laid hp,.tup [.int i,d],?_,jG hp (ag.mpr ⟨.int i,[v],rfl,ax.mpr rfl,aD.one d2⟩)⟩;obtain⟨z1,w1⟩:=i3.mp d1;simp[dS,z1,w1]
def Ex(ta:e_):rD:=λ δ M R=>ta δ M λ ds M1=>match ds with
 |[.tup xs]=>R (.fix (dS xs)) M1
 |[x]=>(∃zs,cT M1 x=some zs)/\R (.fn (fN x)) M1
 |_=>False
section
variable {k0:_}{Cg:Pos}{a:Expr}{ta:e_}{p pos:Pos}
theorem HR(hg:Gl X "enumerate")(hm:X.mg "enumerate"=none)(ha:QA X [a] ta)(hs:starEach [a] X.env=[(false,eval a X.env)]:=by rfl)(hs2:starEach [] X.env=[]:=by rfl):QI X (.Tuple es k0 Cg) (.Call (.Name "enumerate" p) [a] [] pos) (Ex ta):=yC (Io hg hm ha hs hs2) λ σ H R ⟨δ,M,R2,hs,hm,q,k⟩=>by
 refine⟨δ,M,_,hs,hm,q,λ xs H1 ds M1 hd cv t1 q1=>?_⟩;have go:∀x,ds=[x]->(∃zs,cT M1 x=some zs)->(∀J,tJ X.K H1 J (.fn (fN x))->R J H1)->∃(b:Bool) (l:ww),xs=[.ref l]/\(∃xs,Sq b X.K H1 l xs)/\R (TX X.K b l) H1:=by rintro x rfl ⟨zs,hz⟩ hR;obtain⟨vx,r,rfl,hx,hr⟩:=ag.mp hd;cases(ao.mp hr);obtain⟨p,vs,rfl,q1,_⟩:=rT hz hx cv;exact⟨_,p,rfl,⟨vs,q1⟩,hR _ (Be hx)⟩
 match ds,q1 with
 |[x],q1=>
  by_cases ht:∃xs,x=.tup xs
  ·obtain⟨xs,rfl⟩:=ht;exact go _ rfl ⟨_,rfl⟩ λ J hJ=>k J H1 (.fix (dS xs)) M1 (λ H M ds t hm e=>hJ H M ds t hm e) cv t1 q1
  ·have q2:(∃zs,cT M1 x=some zs)/\R2 (.fn (fN x)) M1:=by cases x <;> first|exact q1|exact absurd ⟨_,rfl⟩ ht
   exact go x rfl q2.1 λ J hJ=>k J H1 _ M1 hJ cv t1 q2.2
 |[],q1=>exact q1.elim
 |x::y::r,q1=>cases x <;> exact q1.elim
end
end L3
namespace L4
open PySem.Spec L2 L3 L5
section
variable {k0:_}{Cg:Pos}{a:Expr}{ta:e_}{p pos:Pos}
theorem fJ(hg:Gl X "enumerate")(hm:X.mg "enumerate"=none)(ha:WA X [a] ta)(hs:starEach [a] X.env=[(false,eval a X.env)]:=by rfl)(hs2:starEach [] X.env=[]:=by rfl):WI X (.Tuple es k0 Cg) (.Call (.Name "enumerate" p) [a] [] pos) (Ex ta):=⟨HR hg hm ha.h hs hs2⟩
end
end L4
namespace L2
open PySem.Spec PyProof.Rows
theorem IF:gp X (binaryOp .Add) (λ x y H Q=>∃a b ys,x=.ref a/\y=.ref b/\gn X.K H a []/\gn X.K H b ys/\Q (.ref b) H):=by intro xz s σ H x y v u Q I rx ry h;obtain⟨a,b,ys,rfl,rfl,ha,hb,q⟩:=h;cases rx;cases ry;obtain⟨i1,r1,p1,_⟩:=I.tuple ha;obtain⟨i2,r2,p2,_⟩:=I.tuple hb;cases r1;obtain⟨⟨c1,d1,a1,l1⟩,o1,k1,n1,e1⟩:=id p1;obtain⟨⟨c2,d2,a2,l2⟩,o2,k2,n2,e2⟩:=id p2;cases(show c1=.type "tuple" from k1);cases(show a1=_ from e1);cases(show c2=.type "tuple" from k2);cases(show a2=_ from e2);exact concat_meets ⟨_,o1,rfl⟩ ⟨_,o2,rfl⟩ noFill_tuple_add seq_tuple_add PySem.F.slot_tuple_add PySem.F.entry_tuple_add (PySem.F.args_tuple_add_2 _ _) (tuple_addW0 a b #[] i2.toArray n1 n2 d1 d2 l1 l2 rfl) ⟨o1,o2,⟨.ref b,H,I,rfl,q⟩⟩
end L2
namespace L3
open PySem.Spec L2
def zJ:gJ:=λ x y M Q=>JW x y M Q\/∃ys,x=.tup []/\y=.tup ys/\Q (.tup ys) M
theorem bT:gr X (binaryOp .Add) zJ:=by
 obtain⟨r,h1,h2⟩:=(Ri:gr X (binaryOp .Add) JW);refine⟨_,h1.or IF,λ x y d e H M Q2 Q hd he hm q k=>?_⟩;rcases q with q|⟨ys,rfl,rfl,q⟩
 ·exact .inl (h2 x y d e H M Q2 Q hd he hm q k)
 ·obtain⟨p,vs,rfl,hp,hx⟩:=aZ.mp hd;obtain⟨p2,ws,rfl,lZ,hy⟩:=aZ.mp he;cases(ao.mp hx);exact .inr ⟨p,p2,ws,rfl,rfl,hp,lZ,k _ H _ M (aZ.mpr ⟨p2,ws,rfl,lZ,hy⟩) hm (ar.refl H) q⟩
def zH:D->List D->Mem->bR->Prop:=λ x vs M Q=>∃p q ds es,x=.ref p/\vs=[.ref q]/\M p=some (.lst ds)/\M q=some (.lst es)/\ds.length+es.length<=sizeLine/\Q .bw (ai M p (.lst (ds++es)))
theorem Ee:Ls X "list.extend" zH:=⟨yw,AX,λ x xs d ds H M Q2 Q hx hd hm q k=>by
 obtain⟨p,p2,es,fs,rfl,rfl,hM,RV,hz,q⟩:=q;cases(aE.mp hx);obtain⟨v,r,rfl,hv,hr⟩:=ag.mp hd;cases(ao.mp hr);cases(aE.mp hv);obtain⟨zs,h1,h2⟩:=hm p _ hM;obtain⟨ys,g1,g2⟩:=hm p2 _ RV;have t:=ar.lst (o:=.lst (zs++ys)) h1;refine⟨p,p2,zs,ys,rfl,rfl,h1,g1,by rw[h2.length,g2.length];exact hz,k _ _ .bw _ (dN.mpr rfl) (hm.put (u:=.lst (es++fs)) t ⟨_,aR,?_⟩) t q⟩;exact(aD.mono t es h2).append (aD.mono t fs g2)⟩
section
variable {Q:bR}
theorem Mo{es:List D}(h:M p=some (.lst ds))(g:M q=some (.lst es))(hz:ds.length+es.length<=sizeLine)(k:Q .bw (ai M p (.lst (ds++es)))):zH (.ref p) [.ref q] M Q:=⟨p,q,ds,es,rfl,rfl,h,g,hz,k⟩
theorem ur{i j:Int}(q:Q (.int (i+j)) M):zJ (.int i) (.int j) M Q:=.inl q
theorem Dt{b:ww}{xs ys:List D}(ha:M a=some (.lst xs))(hb:M b=some (.lst ys))(h:xs.length+ys.length<=sizeLine)(q:∀p,M p=none->Q (.ref p) (ai M p (.lst (xs++ys)))):zJ (.ref a) (.ref b) M Q:=.inl (HH ha hb h q)
theorem nQ{xs ys:List D}(h:xs.length+ys.length<=sizeLine)(q:Q (.tup (xs++ys)) M):zJ (.tup xs) (.tup ys) M Q:=by
 cases xs with
 |nil=>exact .inr ⟨ys,rfl,rfl,q⟩
 |cons x xs=>exact .inl ⟨by simp,h,q⟩
end
open L2
section
variable {δc:dF}
theorem Ul(h:n<=10000):n<=sizeLine:=J0 h (by decide)
theorem lG{β:Type}{xs:List α}{enc:α->D}(xw:β->D)(I:List β->Mem->Prop)(hn:xs.length<=10000)(h0:I [] M1) (hs:∀(i:Nat) (x:α) (ys:List β) (M:Mem) (N:D->Mem->Prop),xs[i]?=some x->ys.length=i->I ys M->(∀b M',I (ys++[b]) M'->N (xw b) M')->g (enc x) δc M λ δ2 M2=>te δ2 M2 N) (hd:∀ys M,ys.length=xs.length->I ys M->Qe (ys.map xw) M):∃(B:Nat) (W:Nat->List D->Mem->Prop),W 0 [] M1/\∀i zn M,W i zn M->i<=B/\zn.length<=sizeLine/\match ad (.fix (xs.map enc)) M with
   |none=>False
   |some ds=>match ds[i]? with
    |none=>i=ds.length/\Qe zn M
    |some d=>g d δc M λ δ2 M2=>uj δ2 M2 λ b M3=>if b=true then te δ2 M3 λ y M4=>W (i+1) (zn++[y]) M4 else W (i+1) zn M3:=by
 refine jo (λ i zn M=>∃ys:List β,zn=ys.map xw/\ys.length=i/\I ys M) ⟨[],rfl,rfl,h0⟩ (λ i zn M hi h=>?_) (λ i d zn M hd h=>?_) (λ zn M h=>?_)
 ·obtain⟨ys,rfl,h1,_⟩:=h;rw[C1]at hi ⊢;exact Ul (by lia)
 ·obtain⟨ys,rfl,h1,h2⟩:=h;rw[u7]at hd;cases e:xs[i]? with
  |none=>rw[e]at hd;cases hd
  |some x=>rw[e]at hd;cases hd;refine hs i x ys M _ e h1 h2 λ b M' hb=>⟨ys++[b],by rw[C3];rfl,by simp[h1],hb⟩
 ·obtain⟨ys,rfl,h1,h2⟩:=h;rw[C1]at h1;exact hd ys M h1 h2
theorem vq{β:Type}{xs:List α}(enc:α->D)(xw:β->D)(I:List β->Mem->Prop)(hn:xs.length<=10000)(h0:I [] M1)(hl:∀ys M,I ys M->M a=some (.lst (xs.map enc))) (hs:∀(i:Nat) (x:α) (ys:List β) (M:Mem) (N:D->Mem->Prop),xs[i]?=some x->ys.length=i->I ys M->(∀b M',I (ys++[b]) M'->N (xw b) M')->g (enc x) δc M λ δ2 M2=>te δ2 M2 N) (hd:∀ys M,ys.length=xs.length->I ys M->Qe (ys.map xw) M):∃(B:Nat) (W:Nat->List D->Mem->Prop),W 0 [] M1/\∀i zn M,W i zn M->i<=B/\zn.length<=sizeLine/\match ad (.at a) M with
   |none=>False
   |some ds=>match ds[i]? with
    |none=>i=ds.length/\Qe zn M
    |some d=>g d δc M λ δ2 M2=>uj δ2 M2 λ b M3=>if b=true then te δ2 M3 λ y M4=>W (i+1) (zn++[y]) M4 else W (i+1) zn M3:=by
 refine Lp (ds:=xs.map enc) (λ i zn M=>∃ys:List β,zn=ys.map xw/\ys.length=i/\I ys M) ⟨[],rfl,rfl,h0⟩ (λ i zn M hi h=>?_) (λ i zn M hi h=>?_) (λ i d zn M hd h=>?_) (λ zn M h=>?_)
 ·obtain⟨ys,rfl,h1,h2⟩:=h;exact hl ys M h2
 ·obtain⟨ys,rfl,h1,_⟩:=h;rw[C1]at hi ⊢;exact Ul (by lia)
 ·obtain⟨ys,rfl,h1,h2⟩:=h;rw[u7]at hd;cases e:xs[i]? with
  |none=>rw[e]at hd;cases hd
  |some x=>rw[e]at hd;cases hd;refine hs i x ys M _ e h1 h2 λ b M' hb=>⟨ys++[b],by rw[C3];rfl,by simp[h1],hb⟩
 ·obtain⟨ys,rfl,h1,h2⟩:=h;rw[C1]at h1;exact hd ys M h1 h2
theorem take_one{l:List α}{a:α}(h:l[i]?=some a):l.take (i+1)=l.take i++[a]:=by rw[take_add_one,h];rfl
theorem dO{xs:List α}{enc:α->D}(out:α->D)(hn:xs.length<=10000) (hs:∀(i:Nat) (x:α) (N:D->Mem->Prop),xs[i]?=some x->N (out x) M1->g (enc x) δc M1 λ δ2 M2=>te δ2 M2 N) (hd:Qe (xs.map out) M1):∃(B:Nat) (W:Nat->List D->Mem->Prop),W 0 [] M1/\∀i zn M,W i zn M->i<=B/\zn.length<=sizeLine/\match ad (.fix (xs.map enc)) M with
   |none=>False
   |some ds=>match ds[i]? with
    |none=>i=ds.length/\Qe zn M
    |some d=>g d δc M λ δ2 M2=>uj δ2 M2 λ b M3=>if b=true then te δ2 M3 λ y M4=>W (i+1) (zn++[y]) M4 else W (i+1) zn M3:=by
 refine lG (β:=α) out (λ ys M=>M=M1/\ys=xs.take ys.length) hn ⟨rfl,rfl⟩ (λ i x ys M N hx hy h k=>?_) (λ ys M hy h=>?_)
 ·obtain⟨rfl,h⟩:=h;refine hs i x N hx (k x M ⟨rfl,?_⟩);rw[o6,j8,take_one (a:=x) (by rw[hy];exact hx),<- h]
 ·obtain⟨rfl,h⟩:=h;rw[hy,z9]at h;rw[h];exact hd
theorem eA{xs:List α}(enc out:α->D)(hn:xs.length<=10000)(hl:M1 a=some (.lst (xs.map enc))) (hs:∀(i:Nat) (x:α) (N:D->Mem->Prop),xs[i]?=some x->N (out x) M1->g (enc x) δc M1 λ δ2 M2=>te δ2 M2 N) (hd:Qe (xs.map out) M1):∃(B:Nat) (W:Nat->List D->Mem->Prop),W 0 [] M1/\∀i zn M,W i zn M->i<=B/\zn.length<=sizeLine/\match ad (.at a) M with
   |none=>False
   |some ds=>match ds[i]? with
    |none=>i=ds.length/\Qe zn M
    |some d=>g d δc M λ δ2 M2=>uj δ2 M2 λ b M3=>if b=true then te δ2 M3 λ y M4=>W (i+1) (zn++[y]) M4 else W (i+1) zn M3:=by
 refine vq (β:=α) enc out (λ ys M=>M=M1/\ys=xs.take ys.length) hn ⟨rfl,rfl⟩ (λ ys M h=>by rw[h.1];exact hl) (λ i x ys M N hx hy h k=>?_) (λ ys M hy h=>?_)
 ·obtain⟨rfl,h⟩:=h;refine hs i x N hx (k x M ⟨rfl,?_⟩);rw[o6,j8,take_one (a:=x) (by rw[hy];exact hx),<- h]
 ·obtain⟨rfl,h⟩:=h;rw[hy,z9]at h;rw[h];exact hd
end
abbrev Px(i:Nat):D:=.int ((0:Int)+(i:Nat))
theorem wA(i:Nat):Px i=.int (i:Int):=by show D.int (0+(i:Int))=_;rw[G7]
theorem cQ(n:Nat):cG 0 n=(List.range n).map Px:=rfl
def Pb(R:Src->Mem->Prop)(d:D)(M1:Mem):Prop:=match d with
 | .str z=>R (.fix (kJ z)) M1
 | .tup ds=>R (.fix ds) M1
 | .fl ds=>R (.fix ds) M1
 | .ref a=>(match M1 a with
  |some (.lst _)=>R (.at a) M1
  |_=>False)
 |_=>False
theorem HE{ta:cS}(h:ta δ M (Pb R)):Oh ta δ M R:=h
theorem HF(h:R (.fix ds) M):Pb R (.tup ds) M:=h
theorem mz(hM:M a=some (.lst ds))(h:R (.at a) M):Pb R (.ref a) M:=by show(match M a with|some (.lst _)=>R (.at a) M|_=>False);rw[hM];exact h
end L3
namespace KK
open L3 L4 L5
open L2 hiding aH
def Lf(c:ww)(p b sd ct:Int):List D:=[.ref c,.int p,.int b,.int sd,.int ct]
structure Flow(M:Mem)(f c:ww):Prop where
 ex:∃(ns:List Int) (p b sd ct:Int),M f=some (.lst (Lf c p b sd ct))/\M c=some (.lst (ns.map D.int))/\c≠f/\0<=p/\0<=b/\0<=sd/\sd < 2147483647
def gy:iY:=λ ds M Q=>∃(f c:ww) (n:Int),ds=[.ref f,.int n]/\Flow M f c/\0 < n/\n < 1073741824/\∀(d:Int) (o:MO),0<=d->d < n->Flow (ai M f o) f c->Q (.int d) (ai M f o)
structure Fl(f c:ww)(M M':Mem):Prop where
 bz:Flow M' f c
 mv:∀b o,b≠f->M b=some o->M' b=some o
theorem Fl.trans{c:ww}{M2:Mem}(a:Fl f c M M1)(b:Fl f c M1 M2):Fl f c M M2:=⟨b.bz,λ c o h e=>b.mv c o h (a.mv c o h e)⟩
theorem Fl.pick{c:ww}{o:MO}(h:Flow (ai M f o) f c):Fl f c M (ai M f o):=⟨h,λ b o' hb e=>by rw[aq hb];exact e⟩
theorem Flow.there{c:ww}(h:Flow M f c):∃o,M f=some o:=by obtain⟨ns,p,b,sd,ct,h,_⟩:=h;exact⟨_,h⟩
theorem Flow.LG{c:ww}(h:Flow M f c):∃o,M c=some o:=by obtain⟨ns,p,b,sd,ct,_,h,_⟩:=h;exact⟨_,h⟩
theorem Flow.put{c:ww}{o:MO}(h:Flow M f c)(n:M q=none):Flow (ai M q o) f c:=by obtain⟨ns,p,b,sd,ct,h1,h2,h3⟩:=h;exact⟨ns,p,b,sd,ct,by rw[aq (λ z=>by rw[z,n]at h1;cases h1)];exact h1,by rw[aq (λ z=>by rw[z,n]at h2;cases h2)];exact h2,h3⟩
theorem Fl.put{c:ww}{o:MO}(h:Flow M f c)(n:M q=none):Fl f c M (ai M q o):=⟨h.put n,λ b o' hb e=>by rw[aq (λ z=>by rw[z,n]at e;cases e)];exact e⟩
theorem Flow.ne{c:ww}(h:Flow M f c)(n:M q=none):q≠f/\q≠c:=by
 constructor
 ·intro z;subst z;obtain⟨o,e⟩:=h.there;rw[n]at e;cases e
 ·intro z;subst z;obtain⟨o,e⟩:=h.LG;rw[n]at e;cases e
theorem Fl.own{M':Mem}{c:ww}{o:MO}(h:Fl f c M M')(h0:Flow M f c)(n:M q=none):Fl f c M (ai M' q o):=by obtain⟨n1,n2⟩:=h0.ne n;obtain⟨ns,p,b,sd,ct,h1,h2,h3⟩:=h.bz;refine⟨⟨ns,p,b,sd,ct,by rw[aq (K8 n1)];exact h1,by rw[aq (K8 n2)];exact h2,h3⟩,λ b o' hb e=>?_⟩;rw[aq (λ z=>by rw[z,n]at e;cases e)];exact h.mv b o' hb e
theorem small(h:n<=10000):n<=sizeLine:=J0 h (by decide)
theorem dX(h:(cG lo n)[i]?=some d):i < n/\d=.int (lo+(i:Nat)):=by
 have hi:i < n:=by have:=(i3.mp h).1;rwa [bt]at this
 rw[nT hi]at h;exact⟨hi,(B6 h).symm⟩
theorem take_snoc{l:List α}{a:α}(h:l[i]?=some a):l.take (i+1)=l.take i++[a]:=by rw[take_add_one,h];rfl
def N_(as:List Int):L2.Ky:=(as.sum,as.map λ a=>0 - a)
def Cz:iY:=λ ds M Q=>∃as:List Int,ds=[row as]/\as.length<=1000/\Q (.tup [.int as.sum,row (as.map λ a=>0 - a)]) M
theorem FP(h:i < ns.length):gS (ns.map D.int) (i:Int)=some (.int (ns.getD i 0)):=by refine bM ?_;simp[c7,h]
theorem bK{Q:bR}(h:M p=some (.lst ds))(q:Q (.tup ds) M):xC [.ref p] M Q:=by show(match bD M p with|some ds=>Q (.tup ds) M|none=>False);unfold bD;rw[h];exact q
theorem UT{M':Mem}(h:∀b o,M b=some o->M' b=some o)(n:M' q=none)(x:MO):∀b o,M b=some o->ai M' q x b=some o:=λ b o e=>by rw[aq (λ z=>by rw[<- z,h b o e]at n;cases n)];exact h b o e
theorem bB{Q:bR}{n:String}(e:pI M d=some n)(hb:sG n T=b)(q:Q (.bl b) M):Lk T [d,.ty T] M Q:=⟨rfl,by rw[e];subst hb;exact q⟩
theorem jL{Q:bR}(h:pI M d≠some "NoneType")(q:Q (.bl false) M):O0 false d .bw M Q:=by
 cases d with
 |bw=>exact absurd rfl h
 |_=>exact q
theorem mP(h:i < ds.length):gS ds (0+(i:Int))=some ds[i]:=by rw[G7];refine bM ?_;simp[h]
theorem tE:∀n:Nat,((List.replicate n true).all id)=true
 |0=>rfl
 |n+1=>by rw[l9,all_cons,tE n];rfl
theorem gG(h:(dS ds)[i]?=some d):i < ds.length/\d=.tup [.int (i:Int),ds.getD i D.bw]:=by
 have hi:i < ds.length:=by have:=(i3.mp h).1;rwa [b_]at this
 refine⟨hi,?_⟩;unfold dS at h;rw[u7,l7 hi]at h;exact(B6 h).symm
def bi(M M':Mem):Prop:=∀b o,M b=some o->M' b=some o
theorem bi.own{M':Mem}(h:bi M M'){x:MO}(n:M q=none):bi M (ai M' q x):=λ b o e=>by rw[aq (λ z=>by rw[z,n]at e;cases e)];exact h b o e
end KK
namespace L3
open PySem.Spec L2 L5
section
variable {tb:kC}{δc:dF}{E:kr}
theorem OS{src:Src}(Pv:Nat->dF->Mem->Prop)(h0:Pv 0 δ M1)(hl:∀i δ M,i<=ds.length->Pv i δ M->ad src M=some ds) (hs:∀i d δ M,ds[i]?=some d->Pv i δ M->g d δ M λ δ2 M2=>tb {E with nx:=Pv (i+1),ct:=Pv (i+1),bk:=E.nx} δ2 M2) (hd:∀δ M,Pv ds.length δ M->E.nx δ M):∃(B:Nat) (W:Nat->dF->Mem->Prop),W 0 δ M1/\∀i δ M,W i δ M->i<=B/\match ad src M with
   |none=>False
   |some ds=>match ds[i]? with
    |none=>i=ds.length/\E.nx δ M
    |some d=>g d δ M λ δ2 M2=>tb {E with nx:=W (i+1),ct:=W (i+1),bk:=E.nx} δ2 M2:=by
 refine⟨ds.length,λ i δ M=>if i<=ds.length then Pv i δ M else False,by dsimp only;rw[K9 (J9 _)];exact h0,?_⟩;intro i δ M w;by_cases hi:i<=ds.length
 ·rw[K9 hi]at w;refine⟨hi,?_⟩;rw[hl i δ M hi w];show(match ds[i]? with
    |none=>i=ds.length/\E.nx δ M
    |some d=>g d δ M λ δ2 M2=>tb {E with nx:=(λ δ M=>if i+1<=ds.length then Pv (i+1) δ M else False),ct:=(λ δ M=>if i+1<=ds.length then Pv (i+1) δ M else False),bk:=E.nx} δ2 M2)
  cases e:ds[i]? with
  |none=>have:i=ds.length:=C4 hi (i4.mp e);subst this;exact⟨rfl,hd δ M w⟩
  |some d=>have gg:i+1<=ds.length:=(i3.mp e).1;simp only[K9 gg];exact hs i d δ M e w
 ·rw[L1 hi]at w;exact w.elim
theorem xE{src:Src}(Pv:Nat->List D->Mem->Prop)(h0:Pv 0 [] M1)(hl:∀i zn M,i<=ds.length->Pv i zn M->ad src M=some ds)(hz:∀i zn M,i<=ds.length->Pv i zn M->zn.length<=sizeLine) (hs:∀i d zn M,ds[i]?=some d->Pv i zn M->g d δc M λ δ2 M2=>tt δ2 M2 λ b M3=>if b=true then te δ2 M3 λ y M4=>Pv (i+1) (zn++[y]) M4 else Pv (i+1) zn M3) (hd:∀zn M,Pv ds.length zn M->Qe zn M):∃(B:Nat) (W:Nat->List D->Mem->Prop),W 0 [] M1/\∀i zn M,W i zn M->i<=B/\zn.length<=sizeLine/\match ad src M with
   |none=>False
   |some ds=>match ds[i]? with
    |none=>i=ds.length/\Qe zn M
    |some d=>g d δc M λ δ2 M2=>tt δ2 M2 λ b M3=>if b=true then te δ2 M3 λ y M4=>W (i+1) (zn++[y]) M4 else W (i+1) zn M3:=by
 refine⟨ds.length,λ i zn M=>if i<=ds.length then Pv i zn M else False,by dsimp only;rw[K9 (J9 _)];exact h0,?_⟩;intro i zn M w;by_cases hi:i<=ds.length
 ·rw[K9 hi]at w;refine⟨hi,hz i zn M hi w,?_⟩;rw[hl i zn M hi w];show(match ds[i]? with
    |none=>i=ds.length/\Qe zn M
    |some d=>g d δc M λ δ2 M2=>tt δ2 M2 λ b M3=>if b=true then te δ2 M3 λ y M4=>(if i+1<=ds.length then Pv (i+1) (zn++[y]) M4 else False)else(if i+1<=ds.length then Pv (i+1) zn M3 else False))
  cases e:ds[i]? with
  |none=>have:i=ds.length:=C4 hi (i4.mp e);subst this;exact⟨rfl,hd zn M w⟩
  |some d=>have gg:i+1<=ds.length:=(i3.mp e).1;simp only[K9 gg];exact hs i d zn M e w
 ·rw[L1 hi]at w;exact w.elim
end
open PySem.Spec L2 L5 PyProof.Rows
def Pl:Nat->D->Prop
 |0,d=>d=.bw\/(∃i,d=.int i)\/∃x,d=.str x/\PyData.strOk x=true
 |k+1,d=>d=.bw\/(∃i,d=.int i)\/(∃x,d=.str x/\PyData.strOk x=true)\/∃ds,d=.tup ds/\∀e∈ds,Pl k e
theorem cI(k:Nat)(i:Int):Pl k (.int i):=by
 cases k with
 |zero=>exact .inr (.inl ⟨i,rfl⟩)
 |succ k=>exact .inr (.inl ⟨i,rfl⟩)
theorem wH(h:∀e∈ds,Pl k e):Pl (k+1) (.tup ds):=.inr (.inr (.inr ⟨ds,rfl,h⟩))
theorem dY{xs:List α}{enc:α->D}(h:∀x∈xs,Pl k (enc x)):∀e∈xs.map enc,Pl k e:=λ e he=>by obtain⟨x,hx,rfl⟩:=H0.mp he;exact h x hx
structure Xr(k:Nat)(d:D):Prop where
 nr:nr d=true
 lay:(toP d).canLay0=true
 dep:(toP d).depth<=k
structure Wh(k:Nat)(ds:List D):Prop where
 nr:wN ds=true
 lay:PyData.canLayAll0 (toPs ds)=true
 dep:PyData.depthAll (toPs ds)<=k
theorem jQ:∀{ds:List D},(∀e∈ds,Xr k e)->Wh k ds
 |[],_=>⟨by unfold wN;rfl,by unfold toPs;simp[PyData.canLayAll0],by unfold toPs;simp[PyData.depthAll]⟩
 |d::ds,h=>by
  have h1:=h d (n6 ..);have h2:=jQ (ds:=ds) λ e he=>h e (k7 _ he);refine⟨?_,?_,?_⟩
  ·unfold wN;rw[h1.nr,h2.nr];rfl
  ·unfold toPs;simp only[PyData.canLayAll0];rw[h1.lay,h2.lay];rfl
  ·unfold toPs;simp only[PyData.depthAll];exact Nat.max_le.mpr ⟨h1.dep,h2.dep⟩
theorem Pl.f9:∀{k:Nat} {d:D},Pl k d->Xr k d
 |0,d,h=>by
  rcases h with rfl|⟨i,rfl⟩|⟨x,rfl,hx⟩
  ·exact⟨by unfold L3.nr;rfl,by unfold toP;simp[PyData.canLay0],by unfold toP;simp[PyData.depth]⟩
  ·exact⟨by unfold L3.nr;rfl,by unfold toP;simp[PyData.canLay0],by unfold toP;simp[PyData.depth]⟩
  ·exact⟨by unfold L3.nr;rfl,by unfold toP;simp[PyData.canLay0,hx],by unfold toP;simp[PyData.depth]⟩
 |k+1,d,h=>by
  rcases h with rfl|⟨i,rfl⟩|⟨x,rfl,hx⟩|⟨ds,rfl,h⟩
  ·exact⟨by unfold L3.nr;rfl,by unfold toP;simp[PyData.canLay0],by unfold toP;simp[PyData.depth]⟩
  ·exact⟨by unfold L3.nr;rfl,by unfold toP;simp[PyData.canLay0],by unfold toP;simp[PyData.depth]⟩
  ·exact⟨by unfold L3.nr;rfl,by unfold toP;simp[PyData.canLay0,hx],by unfold toP;simp[PyData.depth]⟩
  ·have q:=jQ λ e he=>Pl.f9 (h e he);refine⟨?_,?_,?_⟩
   ·unfold L3.nr;exact q.nr
   ·unfold toP;simp only[PyData.canLay0];exact q.lay
   ·unfold toP;simp only[PyData.depth];have:=q.dep;lia
theorem oG(ih:∀x y:D,Pl k x->Pl k y->(PyData.eqv (toP x) (toP y)=true↔x=y)):∀{ds es:List D},(∀e∈ds,Pl k e)->(∀e∈es,Pl k e)->(PyData.eqvAll (toPs ds) (toPs es)=true↔ds=es)
 |[],[],_,_=>by unfold toPs;simp[PyData.eqvAll]
 |[],e::es,_,_=>by unfold toPs;simp[PyData.eqvAll]
 |d::ds,[],_,_=>by unfold toPs;simp[PyData.eqvAll]
 |d::ds,e::es,h1,h2=>by have a:=ih d e (h1 d (n6 ..)) (h2 e (n6 ..));have b:=oG ih (ds:=ds) (es:=es) (λ x hx=>h1 x (k7 _ hx)) (λ x hx=>h2 x (k7 _ hx));unfold toPs;simp only[PyData.eqvAll,A1,a,b,List.cons.injEq]
theorem iS:∀{k:Nat} (x y:D),Pl k x->Pl k y->(PyData.eqv (toP x) (toP y)=true↔x=y)
 |0,x,y,hx,hy=>by rcases hx with rfl|⟨i,rfl⟩|⟨z,rfl,_⟩ <;> rcases hy with rfl|⟨j,rfl⟩|⟨w,rfl,_⟩ <;> simp[toP,PyData.eqv]
 |k+1,x,y,hx,hy=>by
  rcases hx with rfl|⟨i,rfl⟩|⟨z,rfl,_⟩|⟨ds,rfl,hd⟩ <;> rcases hy with rfl|⟨j,rfl⟩|⟨w,rfl,_⟩|⟨es,rfl,he⟩ <;> first
   |(simp[toP,PyData.eqv];done)
   |(have:=oG (λ x y=>iS (k:=k) x y) hd he
     unfold toP;simp only[PyData.eqv,D.tup.injEq];exact this)
theorem Fo{x y:D}(hx:Pl k x)(hy:Pl k y)(hb:b=true↔x=y):PyData.eqv (toP x) (toP y)=b:=by rw[A9];exact(iS x y hx hy).trans hb.symm
theorem nB(h:∀e∈ds,Pl k e)(hk:k<=60):SeqAt.shaped (.list (toPs ds))=true:=by
 have f:=jQ λ e he=>(h e he).f9;have h1:(PyData.list (toPs ds)).canLay0=true:=by simp only[PyData.canLay0];exact f.lay
 have h2:(PyData.list (toPs ds)).depth<=64:=by simp only[PyData.depth];have:=f.dep;lia
 unfold SeqAt.shaped;rw[h1,C8 h2];rfl
section
variable {Q:bR}
theorem yy(hM:M p=some (.lst ds))(h:∀e∈ds,Pl k e):wF M (.ref p)=some (.list (toPs ds)):=by have f:=jQ λ e he=>(h e he).f9;unfold wF;simp only[hM];rw[K9 f.nr]
theorem Bu{es:List D}(h1:∀e∈ds,Pl k e)(h2:∀e∈es,Pl k e)(hb:b=true↔ds=es):PyData.eqv (.list (toPs ds)) (.list (toPs es))=b:=by rw[A9];have:=oG (λ x y=>iS (k:=k) x y) h1 h2;simp only[PyData.eqv];exact this.trans hb.symm
theorem mq{p2:ww}{es:List D}(hM:M p=some (.lst ds))(RV:M p2=some (.lst es))(h1:∀e∈ds,Pl k e)(h2:∀e∈es,Pl k e)(hk:k<=60)(hb:b=true↔ds=es)(q:Q (.bl (!b)) M):vo true (.ref p) (.ref p2) M Q:=by refine .inr ⟨_,_,yy hM h1,yy RV h2,nB h1 hk,nB h2 hk,?_⟩;rw[Bu h1 h2 hb];exact q
end
theorem kY{v:jp}{y:PyData}{bs:List ww}(ry:Reads s.heap v y bs)(cy:y.canLay0=true)(hu:A.units+y.depth < cLine):∀{ds:List D} {us:List jp} {as:List ww},ReadsAll s.heap us (toPs ds) as->PyData.canLayAll0 (toPs ds)=true->
  ∃e:jp->Bool,(∀u∈us,SeqAt.EqAt A s u v (e u))/\us.map e=ds.map λ d=>PyData.eqv (toP d) y:=by
 intro ds us as ra cl;refine⟨λ u=>PyData.eqv (SeqAt.readOf s.heap u) y,λ u Tq=>?_,?_⟩
 ·obtain⟨d,bs',rd,cd,_⟩:=SeqAt.readsAll_mem _ _ _ cl ra u Tq;have e:=SeqAt.readOf_eq cd rd;dsimp only;rw[e];exact SeqAt.eqAt_reads d y A s u v _ _ rd ry cd cy (by lia)
 ·have e:=SeqAt.readsAll_map _ _ _ cl ra;have f:∀(us:List jp) (ds:List D),us.map (SeqAt.readOf s.heap)=toPs ds->us.map (λ u=>PyData.eqv (SeqAt.readOf s.heap u) y)=ds.map λ d=>PyData.eqv (toP d) y:=by
   intro us
   induction us with
   |nil=>
    intro ds q;cases ds with
    |nil=>rfl
    |cons d r=>unfold toPs at q;cases q
   |cons u us ih=>
    intro ds q;cases ds with
    |nil=>unfold toPs at q;cases q
    |cons d r=>
     unfold toPs at q;rw[G4]at q;injection q with q1 q2
     rw[G4,G4,ih r q2,q1]
  exact f us ds e
structure SI(K:L6)(H:Hp)(b:Bool)(p:ww)(xs:List V)(ds:List D)(x:V)(d:D):Prop where
 sq:Sq b K H p xs
 JS:aD K H ds xs
 dat:bn K H d x
 ns:wN ds=true
 n:nr d=true
 A_:PyData.canLayAll0 (toPs ds)=true
 lay:(toP d).canLay0=true
 dep:(toP d).depth < 62
theorem any_map(us:List α)(e:α->Bool)(bs:List Bool)(h:us.map e=bs):us.any e=bs.any id:=by rw[<- h,List.any_map];rfl
theorem NF(neg:Bool)(hu:X.A.units+64 < cLine):gp X (compareOp (if neg then .NotIn else .In)) (λ x y H Q=>∃(b:Bool) (p:ww) (xs:List V) (ds:List D) (d:D),y=.ref p/\SI X.K H b p xs ds x d/\Q (.bl (if neg then !ds.any (λ e=>PyData.eqv (toP e) (toP d))else ds.any λ e=>PyData.eqv (toP e) (toP d))) H):=by
 intro xz s σ H x y v u Q I rx ry h;obtain⟨b,p,xs,ds,d,rfl,ok,q⟩:=h;cases ry;obtain⟨bs,rb⟩:=Td I d ok.n ok.dat rx;have hd:=ok.dep;cases b with
 |false=>
  obtain⟨ay,r,pl,hz⟩:=I.list ok.sq;obtain⟨as,ra⟩:=wC I ds ok.ns ok.JS r;obtain⟨e,e1,e2⟩:=kY (A:=X.A.in1) rb ok.lay (by show X.A.units+1+_ < _;lia) ra ok.A_;have e3:ay.toArray.any e=ds.any λ e=>PyData.eqv (toP e) (toP d):=by rw[show ay.toArray.any e=ay.any e by simp,any_map _ _ _ e2,List.any_map];rfl
  cases neg with
  |false=>exact SeqAt.in_listAt e pl.isList (λ w hw=>e1 w (by simpa using hw)) ⟨.bl _,H,I,rfl,by rw[e3];exact q⟩
  |true=>exact SeqAt.notIn_listAt e pl.isList (λ w hw=>e1 w (by simpa using hw)) ⟨.bl _,H,I,rfl,by rw[e3];exact q⟩
 |true=>
  obtain⟨ay,r,pl,hz⟩:=I.tuple ok.sq;obtain⟨as,ra⟩:=wC I ds ok.ns ok.JS r;obtain⟨e,e1,e2⟩:=kY (A:=X.A.in1) rb ok.lay (by show X.A.units+1+_ < _;lia) ra ok.A_;have e3:ay.toArray.any e=ds.any λ e=>PyData.eqv (toP e) (toP d):=by rw[show ay.toArray.any e=ay.any e by simp,any_map _ _ _ e2,List.any_map];rfl
  cases neg with
  |false=>exact SeqAt.in_tupleAt e pl (λ w hw=>e1 w (by simpa using hw)) ⟨.bl _,H,I,rfl,by rw[e3];exact q⟩
  |true=>exact SeqAt.notIn_tupleAt e pl (λ w hw=>e1 w (by simpa using hw)) ⟨.bl _,H,I,rfl,by rw[e3];exact q⟩
end L3
namespace L2
open PySem.Spec PyProof.Rows L5
theorem vC(hc:X.calm=true):c_ X (.builtin "any") (λ xs H Q=>∃(p:ww) (bs:List Bool),xs=[.ref p]/\fE X.K H p (bs.map V.bl)/\Q (.bl (bs.any id)) H):=by
 intro xz s σ H xs us Q I r h;obtain⟨p,bs,rfl,hq,q⟩:=h;obtain⟨u,rfl,r1⟩:=vals1 r;cases r1;obtain⟨ay,rv,pl,hz⟩:=I.list hq;refine call_any_walk (x6 pl.isList ?_);have dP:p≠s.heap.objs.size:=by obtain⟨o,n,e,_⟩:=pl;exact G8 (G9 e)
 have hlen:ay.length=bs.length:=by rw[<- rv.length,C1]
 refine⟨s.heap.objs.size,_,_,_,_,_,λ i=>(bs[i]?).getD false,rfl,Walks.list (A:=X.A.in1) (show X.A.in1.handled=none from I.ok.hd hc) s.heap.objs.size p dP ay.toArray,⟨⟨_,m7 _ rfl,rfl,rfl⟩,pl.isList.at λ o e=>j3 _ e⟩,?_,λ h' tk hk=>?_⟩
 ·intro i v s' Q' E' hP hQ;have RU:ay[i]?=some v:=by simpa using hP
  have hi:i < bs.length:=by rw[<- hlen];exact(i3.mp RU).1
  have hb:(bs.map V.bl)[i]?=some (V.bl bs[i]):=by simp[hi]
  obtain⟨u,hu,ru⟩:=rv.get hb;rw[RU]at hu;cases hu;have e:v=Value.bool bs[i]:=ru;subst e;have:(bs[i]?).getD false=bs[i]:=by simp[hi]
  dsimp only at hQ;rw[this]at hQ;exact x5 hQ
 ·refine⟨.bl (bs.any id),H,I.kept (t':=tk) λ b o e=>hk b o (by simpa using G8 (G9 e)) (j3 _ e),?_,q⟩;show Value.bool _=Value.bool _;congr 1;rw[y0,hlen];rw[A9];simp only[List.any_eq_true,mem_range,id];constructor
  ·rintro⟨i,hi,h⟩;exact⟨bs[i],A3 hi,by simpa[hi]using h⟩
  ·rintro⟨b,hb,h⟩;obtain⟨i,hi,rfl⟩:=mem_iff_getElem.mp hb;exact⟨i,hi,by simpa[hi]using h⟩
end L2
namespace L3
open PySem.Spec L2 L5 PyProof.Rows
def Sk:List D->Mem->bR->Prop:=λ xs M Q=>∃(a:ww) (bs:List Bool),xs=[.ref a]/\bD M a=some (bs.map D.bl)/\Q (.bl (bs.any id)) M
theorem Sy(hc:X.calm=true):dB X (.builtin "any") Sk:=⟨_,vC hc,λ xs ds H M Q2 Q hd hm q k=>by
 obtain⟨a,bs,rfl,hM,q⟩:=q;obtain⟨x,r,rfl,hx,hr⟩:=ag.mp hd;cases(ao.mp hr);cases(aE.mp hx);obtain⟨ys,h,hy⟩:=fc hM hm;exact⟨a,bs,rfl,fE.of (by rw[h,oJ hy]),k _ H _ M (ba.mpr rfl) hm (ar.refl H) q⟩⟩
def Sj:List D->Mem->bR->Prop:=λ ds M Q=>∃bs:List Bool,ds=bs.map D.bl/\Q (.bl (bs.any id)) M
theorem GI:lO Sk Sj:=λ ds M p Q hp hz q=>by obtain⟨bs,rfl,q⟩:=q;exact⟨p,bs,rfl,qP,M,(oV.refl M).put hp,q⟩
def Lj:List D->Mem->bR->Prop:=λ xs M Q=>∃i j,xs=[.int i,.int j]/\Q (.int (max i j)) M
theorem Sw(hc:X.calm=true):dB X (.builtin "max") Lj:=⟨_,BB hc,λ xs ds H M Q2 Q hd hm q k=>by
 obtain⟨i,j,rfl,q⟩:=q;obtain⟨v,r,rfl,hv,hr⟩:=ag.mp hd;obtain⟨v2,r2,rfl,PC,pQ⟩:=ag.mp hr;cases(ao.mp pQ);cases(ax.mp hv);cases(ax.mp PC);refine⟨i,j,rfl,k _ H _ M (ax.mpr rfl) hm (ar.refl H) ?_⟩;have e:(if j > i then j else i)=max i j:=by split <;> lia
 rw[e];exact q⟩
def Ll:List D->Mem->bR->Prop:=λ xs M Q=>(∃b,xs=[.bl b]/\Q (.int (if b then 1 else 0)) M)\/∃i,xs=[.int i]/\Q (.int i) M
theorem oO:dB X (.type "int") Ll:=⟨_,BD,λ xs ds H M Q2 Q hd hm q k=>by
 rcases q with⟨b,rfl,q⟩|⟨b,rfl,q⟩
 ·obtain⟨v,r,rfl,hv,hr⟩:=ag.mp hd;cases(ao.mp hr);cases(ba.mp hv);exact .inr ⟨b,rfl,k _ H _ M (ax.mpr rfl) hm (ar.refl H) q⟩
 ·obtain⟨v,r,rfl,hv,hr⟩:=ag.mp hd;cases(ao.mp hr);cases(ax.mp hv);exact .inl ⟨b,rfl,k _ H _ M (ax.mpr rfl) hm (ar.refl H) q⟩⟩
def Sd:gJ:=λ x y M Q=>∃l k ds,x=.ref l/\y=.int k/\M l=some (.lst ds)/\-(2^63)<=k/\k < 2^63/\ds.length*k.toNat<=sizeLine/\∀p,M p=none->Q (.ref p) (ai M p (.lst (List.replicate k.toNat ds).flatten))
def zF:gJ:=λ x y M Q=>zG x y M Q\/Sd x y M Q
theorem kW:gr X (binaryOp .Mult) zF:=NU.or ⟨_,Ny,λ x y d e H M Q2 Q hd he hm q k=>by
 obtain⟨l,n,ds,rfl,rfl,hM,h1,h2,hz,q⟩:=q;cases(aE.mp hd);cases(ax.mp he);obtain⟨xs,hx,Xa⟩:=hm l _ hM;exact⟨l,n,xs,rfl,rfl,hx,h1,h2,by rw[Xa.length];exact hz,λ p hp=>k _ _ (.ref p) _ (aE.mpr rfl) (dM hp (oI Xa n.toNat) hm) (ar.laid hp) (q p (hm.free hp))⟩⟩
structure Wn(M:Mem)(x y:D)(ds:List D):Prop where
 sq:cT M y=some ds
 ns:wN ds=true
 n:nr x=true
 A_:PyData.canLayAll0 (toPs ds)=true
 lay:(toP x).canLay0=true
 dep:(toP x).depth < 62
def O1(neg:Bool):gJ:=λ x y M Q=>∃ds,Wn M x y ds/\Q (.bl (if neg then !ds.any (λ e=>PyData.eqv (toP e) (toP x))else ds.any λ e=>PyData.eqv (toP e) (toP x))) M
theorem KD(neg:Bool)(hu:X.A.units+64 < cLine):gr X (compareOp (if neg then .NotIn else .In)) (O1 neg):=⟨_,NF neg hu,λ x y d e H M Q2 Q hd he hm q k=>by
 obtain⟨ds,ok,q⟩:=q;obtain⟨p,xs,rfl,q1,x1⟩:=rT ok.sq he hm;exact⟨_,p,xs,ds,d,rfl,⟨q1,x1,hd,ok.ns,ok.n,ok.A_,ok.lay,ok.dep⟩,k _ H _ M (ba.mpr rfl) hm (ar.refl H) q⟩⟩
def JV:gJ:=λ x y M Q=>Xp x y M Q\/O1 false x y M Q
theorem nY(hu:X.A.units+64 < cLine):gr X (compareOp .In) JV:=UM.or (KD false hu)
def zD:gJ:=λ x y M Q=>∃i j,x=.str i/\y=.str j/\Q (.bl (!(!(Builtin.Str.occurrences j i 0 j.length 1).isEmpty))) M
theorem DW:gr X (compareOp .NotIn) zD:=⟨_,sj,λ x y d e H M Q2 Q hd he hm q k=>by
 obtain⟨i,j,rfl,rfl,q⟩:=q;cases(bj.mp hd);cases(bj.mp he);exact⟨i,j,rfl,rfl,k _ H _ M (ba.mpr rfl) hm (ar.refl H) q⟩⟩
def mJ:gJ:=λ x y M Q=>zD x y M Q\/O1 true x y M Q
theorem gb(hu:X.A.units+64 < cLine):gr X (compareOp .NotIn) mJ:=DW.or (KD true hu)
structure SH(ds:List D)(y:D)(j:Nat):Prop where
 lt:j < ds.length
 hit:∀e,ds[j]?=some e->PyData.eqv (toP e) (toP y)=true
 no:∀m e,m < j->ds[m]?=some e->PyData.eqv (toP e) (toP y)=false
def xD:D->List D->Mem->bR->Prop:=λ x vs M Q=>∃p ds y j,x=.ref p/\vs=[y]/\M p=some (.lst ds)/\Wn M y x ds/\SH ds y j/\Q (.int (j:Nat)) M
theorem fK(hu:X.A.units+64 < cLine):Ls X "list.index" xD:=⟨λ x vs H Q=>∃p ds xs d y j,x=.ref p/\vs=[y]/\SI X.K H false p xs ds y d/\SH ds d j/\Q (.int (j:Nat)) H,by
  intro xz s σ H x xs v us Q I rx rv h;obtain⟨p,ds,zs,d,y,j,rfl,rfl,ok,ix,q⟩:=h;cases(show v=Value.ref p from rx);obtain⟨u,rfl,ru⟩:=rv.one;have hd:=ok.dep;obtain⟨bs,rb⟩:=Td I d ok.n ok.dat ru;obtain⟨ay,r,pl,hz⟩:=I.list ok.sq;obtain⟨as,ra⟩:=wC I ds ok.ns ok.JS r;obtain⟨e,e1,e2⟩:=kY (A:=X.A.in1) rb ok.lay (by show X.A.units+1+_ < _;lia) ra ok.A_;obtain⟨⟨c,dd,da,sl⟩,ho,hc,n,OJ⟩:=pl.isList;cases(show c=.type "list" from hc);cases(show da=.seq ay.toArray n from OJ);have l1:=r.length;have l2:=ok.JS.length;have gg:=ix.lt;have at_:∀m (hm:m < ay.length) (lq:m < ds.length),e ay[m]=PyData.eqv (toP ds[m]) (toP d):=λ m hm lq=>by have:=K7 (·[m]?) e2;simp only[u7,i6 hm,i6 lq,Option.map_some,Option.some.injEq]at this;exact this
  have hs:ds.length<=16777216:=by
   have h2:zs.length<=sizeLine:=hz;have h3:sizeLine=16777216:=by decide
   lia
  refine K4 PySem.F.slot_list_index ⟨_,ho,rfl⟩ PySem.F.entry_list_index (PySem.F.args_list_index_2 _ _) (SeqAt.list_indexAt p ay.toArray n dd sl u e j (by simp;lia) (by lia) ?_ ?_) ⟨ho,λ y hy=>e1 y (by simpa using hy),?_⟩
  ·have:=at_ j (by lia) gg;simp only[getElem_toArray];rw[this];exact ix.hit _ (i6 gg)
  ·intro m hm YL;have fT:m < ay.length:=by simpa using hm
   have:=at_ m fT (by lia);simp only[getElem_toArray];rw[this];exact ix.no m _ YL (i6 (by lia))
  ·exact⟨.int _,H,I.tok _,⟨_,rfl⟩,q⟩,λ x xs d ds H M Q2 Q hx hd hm q k=>by
  obtain⟨p,es,y,j,rfl,rfl,hM,ok,ix,q⟩:=q;cases(aE.mp hx);obtain⟨v,r,rfl,hv,hr⟩:=ag.mp hd;cases(ao.mp hr);obtain⟨zs,hz,mH⟩:=hm p _ hM;exact⟨p,es,zs,y,v,j,rfl,rfl,⟨fE.of hz,mH,hv,ok.ns,ok.n,ok.A_,ok.lay,ok.dep⟩,ix,k _ H _ M (ax.mpr rfl) hm (ar.refl H) q⟩⟩
def OX:D->List D->Mem->bR->Prop:=λ x vs M Q=>(∃p ds y,x=.ref p/\vs=[]/\M p=some (.lst ds)/\ds[ds.length - 1]?=some y/\Q y (ai M p (.lst ds.dropLast)))\/
 ∃p ds i k y,x=.ref p/\vs=[.int i]/\M p=some (.lst ds)/\-(2^63)<=i/\i < 2^63/\seqIndex? i ds.length=some k/\ds[k]?=some y/\Q y (ai M p (.lst (ds.eraseIdx k)))
theorem aD.eraseIdx:∀{ds:List D} {xs:List V} (n:Nat),aD K H ds xs->aD K H (ds.eraseIdx n) (xs.eraseIdx n)
 |[],xs,n,h=>by rw[ao]at h;subst h;simp[ao]
 |d::ds,xs,0,h=>by obtain⟨x,r,rfl,a,b⟩:=ag.mp h;exact b
 |d::ds,xs,n+1,h=>by obtain⟨x,r,rfl,a,b⟩:=ag.mp h;rw[eraseIdx_cons_succ,eraseIdx_cons_succ,ag];exact⟨x,_,rfl,a,b.eraseIdx n⟩
theorem aD.dropLast(h:aD K H ds xs):aD K H ds.dropLast xs.dropLast:=by rw[dropLast_eq_take,dropLast_eq_take,h.length];exact h.take _
theorem Kh.or{id:String}{r r':V->List V->Hp->VK->Prop}(h:Kh X id r)(h':Kh X id r'):Kh X id (λ x vs H Q=>r x vs H Q\/r' x vs H Q):=by
 intro xz s σ H x xs v us Q I a b q;rcases q with q|q
 ·exact h xz s σ H x xs v us Q I a b q
 ·exact h' xz s σ H x xs v us Q I a b q
theorem KI:Ls X "list.pop" OX:=⟨_,Kh.or NY Ed,λ x xs d ds H M Q2 Q hx hd hm q k=>by
 rcases q with⟨p,es,y,rfl,rfl,hM,hy,q⟩|⟨p,es,i,j,y,rfl,rfl,hM,h1,h2,hs,hy,q⟩
 ·cases(aE.mp hx);cases(ao.mp hd);obtain⟨zs,h1,h2⟩:=hm p _ hM;obtain⟨v,hv,Vd⟩:=h2.get hy;have t:=ar.lst (o:=.lst zs.dropLast) h1;exact .inl ⟨p,zs,v,rfl,rfl,h1,by rw[h2.length];exact hv,k _ _ y _ (bn.mono t y Vd) (hm.put (u:=.lst es.dropLast) t ⟨_,aR,aD.mono t _ h2.dropLast⟩) t q⟩
 ·cases(aE.mp hx);obtain⟨v0,r,rfl,Yw,hr⟩:=ag.mp hd;cases(ao.mp hr);cases(ax.mp Yw);obtain⟨zs,g1,g2⟩:=hm p _ hM;obtain⟨v,hv,Vd⟩:=g2.get hy;have t:=ar.lst (o:=.lst (zs.eraseIdx j)) g1;exact .inr ⟨p,zs,i,j,v,rfl,rfl,g1,h1,h2,by rw[g2.length];exact hs,hv,k _ _ y _ (bn.mono t y Vd) (hm.put (u:=.lst (es.eraseIdx j)) t ⟨_,aR,aD.mono t _ (g2.eraseIdx j)⟩) t q⟩⟩
theorem Aq{l:Nat}:∀v σ H Q,Km K (pU 3 (dq (bd i) (dq (bd j) (dq (bd l) pV)))) v σ H Q->vd K 3 (dR (cY i) (dR (cY j) (dR (cY l) sR))) v σ H Q:=λ v σ H Q ⟨d,δ,M,Q2,hd,hs,hm,q,k⟩=>by
 cases d with
 |tup ds=>
  obtain⟨p,xs,rfl,hq,hx⟩:=aZ.mp hd;obtain⟨hl,q⟩:=q
  match ds,hl,hx,q with
  |[a,b,c],hl,hx,q=>obtain⟨x,r,rfl,ha,hx⟩:=ag.mp hx;obtain⟨y,r,rfl,hb,hx⟩:=ag.mp hx;obtain⟨z,r,rfl,hc,hx⟩:=ag.mp hx;cases(ao.mp hx);exact⟨p,[x,y,z],rfl,hq,rfl,x,[y,z],rfl,y,[z],rfl,z,[],rfl,rfl,k _ H _ M (((hs.set ha).set hb).set hc) hm (ar.refl H) q⟩
 |_=>exact q.elim
theorem GN{l:Nat}{y z:Str}{px py pz pt:Pos}(h:∀cl C fp s H,PG (bE X scope cl tgs fr C fp s H) (.Tuple [.Name x px,.Name y py,.Name z pz] k pt) (vd X.K 3 (dR (cY i) (dR (cY j) (dR (cY l) sR)))))(hi:i < tgs.length)(hj:j < tgs.length)(hl:l < tgs.length):SA X scope tgs fr (.Tuple [.Name x px,.Name y py,.Name z pz] k pt) (pU 3 (dq (bd i) (dq (bd j) (dq (bd l) pV)))):=
 ⟨_,h,Fg (ke (iR hi) (ke (iR hj) (ke (iR hl) Fh eY oC) eY (mI eY oC)) eY (mI eY (mI eY oC))),Aq⟩
end L3
namespace L4
open PySem.Spec L2 L3 L5
theorem BZ{l:Nat}{y z:Str}{px py pz pt:Pos}(h:∀cl C fp s H,PG (bE X scope cl tgs fr C fp s H) (.Tuple [.Name x px,.Name y py,.Name z pz] k pt) (vd X.K 3 (dR (cY i) (dR (cY j) (dR (cY l) sR)))))(hi:i < tgs.length)(hj:j < tgs.length)(hl:l < tgs.length):Kg X scope tgs fr (.Tuple [.Name x px,.Name y py,.Name z pz] k pt) (pU 3 (dq (bd i) (dq (bd j) (dq (bd l) pV)))):=⟨GN h hi hj hl⟩
end L4
namespace L3
open PySem.Spec L2 L5 PyProof.Rows
section
variable {Q:bR}
theorem Hh{l:Nat}{a b c:D}(h:N (((δ.set i (some a)).set j (some b)).set l (some c)) M):pU 3 (dq (bd i) (dq (bd j) (dq (bd l) pV))) (.tup [a,b,c]) δ M N:=⟨rfl,h⟩
theorem Hs{i j:Int}(q:Q (.int (max i j)) M):Lj [.int i,.int j] M Q:=⟨i,j,rfl,q⟩
theorem Dk(q:Q (.int (if b then 1 else 0)) M):Ll [.bl b] M Q:=.inl ⟨b,rfl,q⟩
theorem nP{i j:Int}(h:tN i j)(q:Q (.int (i*j)) M):zF (.int i) (.int j) M Q:=.inl (De h q)
theorem C'{k:Int}(h0:0<=k)(h1:k<=10000)(q:Q (.tup (List.replicate k.toNat d)) M):zF (.tup [d]) (.int k) M Q:=.inl (Dd h0 h1 q)
theorem Dc{k:Int}(hM:M p=some (.lst [d]))(h0:0<=k)(h1:k<=10000)(q:∀p,M p=none->Q (.ref p) (ai M p (.lst (List.replicate k.toNat d)))):zF (.ref p) (.int k) M Q:=by
 refine .inr ⟨p,k,[d],rfl,rfl,hM,Int.le_trans (by decide) h0,q9 h1 (by decide),?_,?_⟩
 ·have:[d].length*k.toNat<=10000:=by simp;lia
  exact Ul this
 ·have e:(List.replicate k.toNat [d]).flatten=List.replicate k.toNat d:=by
   generalize k.toNat=n
   induction n with
   |zero=>rfl
   |succ n ih=>rw[l9,x3,ih,l9];rfl
  rw[e];exact q
theorem dg(h:M a=some (.lst ds)):cT M (.ref a)=some ds:=by show bD M a=some ds;unfold bD;rw[h]
theorem ll{x y:D}(hs:cT M y=some ds)(hx:Pl k x)(hd:∀e∈ds,Pl k e)(hk:k<=60):Wn M x y ds:=by have f:=jQ λ e he=>(hd e he).f9;exact⟨hs,f.nr,hx.f9.nr,f.lay,hx.f9.lay,by have:=hx.f9.dep;lia⟩
theorem FQ{x:D}(hx:Pl k x)(hd:∀e∈ds,Pl k e)(hb:b=true↔x∈ds):(ds.any λ e=>PyData.eqv (toP e) (toP x))=b:=by
 rw[A9,hb,List.any_eq_true];constructor
 ·rintro⟨e,he,h⟩;rw[<- (iS e x (hd e he) hx).mp h];exact he
 ·intro h;exact⟨x,h,(iS x x hx hx).mpr rfl⟩
theorem rX{x y:D}(hs:cT M y=some ds)(hx:Pl k x)(hd:∀e∈ds,Pl k e)(hk:k<=60)(hb:b=true↔x∈ds)(q:Q (.bl b) M):JV x y M Q:=by refine .inr ⟨ds,ll hs hx hd hk,?_⟩;rw[FQ hx hd hb];exact q
theorem nO{x y:D}(hs:cT M y=some ds)(hx:Pl k x)(hd:∀e∈ds,Pl k e)(hk:k<=60)(hb:b=true↔x∈ds)(q:Q (.bl (!b)) M):mJ x y M Q:=by refine .inr ⟨ds,ll hs hx hd hk,?_⟩;rw[FQ hx hd hb];exact q
theorem sr{xs:List α}{enc:α->D}(inj:∀a b,enc a=enc b->a=b)(a:α):enc a∈xs.map enc↔a∈xs:=by
 rw[H0];constructor
 ·rintro⟨b,hb,e⟩;rw[<- inj _ _ e];exact hb
 ·intro h;exact⟨a,h,rfl⟩
theorem ib[DecidableEq α]{xs:List α}{a:α}(enc:α->D)(inj:∀a b,enc a=enc b->a=b)(hM:M p=some (.lst (xs.map enc)))(ha:a∈xs)(hp:∀a,Pl k (enc a))(hk:k<=60)(q:Q (.int (xs.idxOf a:Nat)) M):xD (.ref p) [enc a] M Q:=by
 have gg:xs.idxOf a < xs.length:=idxOf_lt_length_of_mem ha;refine⟨p,xs.map enc,enc a,xs.idxOf a,rfl,rfl,hM,ll (dg hM) (hp a) (dY λ x _=>hp x) hk,⟨by rw[C1];exact gg,λ e he=>?_,λ m e hm he=>?_⟩,q⟩
 ·rw[u7,i6 gg,getElem_idxOf]at he;cases he;exact(iS _ _ (hp a) (hp a)).mpr rfl
 ·rw[u7,i6 (by lia)]at he;cases he;refine Fo (hp _) (hp a) ⟨(λ z=>by cases z),λ z=>?_⟩;have:=inj _ _ z;have dP:=not_of_lt_findIdx (p:=(·==a)) (xs:=xs) (i:=m) hm;exact absurd (show(xs[m]==a)=true by rw[this];simp) (by simpa using dP)
theorem Mh{y:D}(hM:M p=some (.lst (ds++[y])))(q:Q y (ai M p (.lst ds))):OX (.ref p) [] M Q:=by refine .inl ⟨p,ds++[y],y,rfl,rfl,hM,by simp,?_⟩;rw[dropLast_concat];exact q
theorem C_{y:D}(hM:M p=some (.lst ds))(hj:ds[j]?=some y)(hz:ds.length<=10000)(q:Q y (ai M p (.lst (ds.eraseIdx j)))):OX (.ref p) [.int (j:Int)] M Q:=by have hl:j < ds.length:=(i3.mp hj).1;exact .inr ⟨p,ds,j,j,y,rfl,rfl,hM,Int.le_trans (by decide) (Int.natCast_nonneg j),q9 (show(j:Int)<=10000 by lia) (by decide),by rw[seqIndex_of (by lia) (by lia)];simp,hj,q⟩
end
open PySem.Spec L2 L5 PyProof.Rows
def Fu(R:Src->Mem->Prop)(ds:List D)(M1:Mem):Prop:=match ds with
 |[.tup xs]=>R (.fix (dS xs)) M1
 |[x]=>(∃zs,cT M1 x=some zs)/\R (.fn (fN x)) M1
 |_=>False
theorem Dm{ta:e_}(h:ta δ M (Fu R)):Ex ta δ M R:=h
theorem Dp{xs:List D}(h:R (.fix (dS xs)) M):Fu R [.tup xs] M:=h
theorem Dq{xs:List D}(hM:M a=some (.lst xs))(h:R (.fn (fN (.ref a))) M):Fu R [.ref a] M:=⟨⟨xs,dg hM⟩,h⟩
end L3
namespace L2
open PySem.Spec PyProof.Rows
def Uw(K:L6)(x y:V)(H:Hp)(Q:Bool->Prop):Prop:=(∃a o,y=.ref a/\qm H a x o/\Q o.isSome)\/∃a b kvs k,y=.ref a/\x=.ref b/\o_ K H a kvs/\k.dep<=5/\gf K H k (.ref b)/\Q (jF kvs k).isSome
theorem IC(neg:Bool)(hu:X.A.units+64 < cLine):gp X (compareOp (if neg then .NotIn else .In)) (λ x y H Q=>Uw X.K x y H λ b=>Q (.bl (if neg then !b else b)) H):=by
 intro xz s σ H x y v u Q I rx ry h;rcases h with⟨a,o,rfl,g,q⟩|⟨a,b,kvs,k,rfl,rfl,d,hk,tQ,q⟩
 ·cases(show u=Value.ref a from ry);cases neg with
  |false=>exact V5 (by lia) I g rx λ s3 I3=>⟨.bl o.isSome,H,I3,rfl,q⟩
  |true=>exact JT (by lia) I g rx λ s3 I3=>⟨.bl (!o.isSome),H,I3,rfl,q⟩
 ·cases(show u=Value.ref a from ry);cases(show v=Value.ref b from rx);cases neg with
  |false=>exact T9 hu I d hk tQ λ s3 I3=>⟨.bl (jF kvs k).isSome,H,I3,rfl,q⟩
  |true=>exact GQ hu I d hk tQ λ s3 I3=>⟨.bl (!(jF kvs k).isSome),H,I3,rfl,q⟩
def Qy(K:L6)(x y:V)(H:Hp)(Q:VK):Prop:=(∃a v,x=.ref a/\qm H a y (some v)/\Q v H)\/∃a b kvs k v,x=.ref a/\y=.ref b/\o_ K H a kvs/\k.dep<=5/\gf K H k (.ref b)/\jF kvs k=some v/\Q v H
theorem Om(hu:X.A.units+64 < cLine):xS X (λ x y H Q=>Qy X.K x y H Q):=by
 intro value slice xz s σ H x y v u Q I rx ry h hs;rcases h with⟨a,w,rfl,g,q⟩|⟨a,b,kvs,k,w,rfl,rfl,d,hk,tQ,g,q⟩
 ·cases(show v=Value.ref a from rx);refine tail_any (ops:=[.ref a,u]) (vi I g) PySem.F.slot_dict_getitem.lookup ?_ hs;exact Bw (by lia) I g ry λ w' s3 I3 hG=>⟨w,H,I3,hG,q⟩
 ·cases(show v=Value.ref a from rx);cases(show u=Value.ref b from ry);obtain⟨_,_,xs,_,dd⟩:=d.of I;refine tail_any (ops:=[.ref a,.ref b]) dd.typeIs PySem.F.slot_dict_getitem.lookup ?_ hs;exact Av hu I d hk tQ g λ w' s3 I3 hG=>⟨w,H,I3,hG,q⟩
def Qx(K:L6):BH:=λ o i v H Q=>(∃a H',o=.ref a/\Ga H a i v H'/\Q H')\/∃a b kvs k,o=.ref a/\i=.ref b/\o_ K H a kvs/\k.dep<=5/\gf K H k (.ref b)/\kvs.length < sizeLine/\Q (ci H a (rf a (jP kvs k b v)))
theorem Hb(hu:X.A.units+64 < cLine):tI X (Qx X.K):=by
 intro xz s σ H o i v ov iv u Q I ro ri rv h;rcases h with⟨a,H',rfl,g,q⟩|⟨a,b,kvs,k,rfl,rfl,d,hk,tQ,hl,q⟩
 ·cases(show ov=Value.ref a from ro);exact Bv (by lia) I g ri rv λ s3 I3=>⟨H',I3,q⟩
 ·cases(show ov=Value.ref a from ro);cases(show iv=Value.ref b from ri);exact Au hu I d hk tQ hl rv λ s3 I3=>⟨_,I3,q⟩
theorem xN:c_ X (.builtin "len") (λ xs H Q=>∃a,xs=[.ref a]/\((∃kvs,H a=some (.dK kvs)/\Q (.int kvs.length) H)\/∃kvs,H a=some (rf a kvs)/\Q (.int kvs.length) H)):=by
 intro xz s σ H xs us Q I r h;obtain⟨a,rfl,h⟩:=h;obtain⟨u,rfl,ru⟩:=vals1 r;cases(show u=Value.ref a from ru);rcases h with⟨kvs,e,q⟩|⟨kvs,e,q⟩
 ·exact Sa I (.inl e) λ t s' I'=>⟨.int kvs.length,H,I',⟨t,rfl⟩,q⟩
 ·exact P' I e λ t s' I'=>⟨.int kvs.length,H,I',⟨t,rfl⟩,q⟩
end L2
namespace L3
open PySem.Spec L2 L5 PyProof.Rows
noncomputable instance ZH:DecidableEq D:=λ a b=>Classical.propDecidable (a=b)
noncomputable def dk (kvs:List (D×D))(k:D):Option D:=(kvs.find? λ p=>decide (p.1=k)).map (·.2)
noncomputable def putD (kvs:List (D×D))(k v:D):List (D×D):=if(dk kvs k).isSome=true then kvs.map (λ p=>if p.1=k then(p.1,v)else p)else kvs++[(k,v)]
def iC(t:Bool)(x:D):Prop:=match t with
 |false=>∃k:Key,x=gQ k
 |true=>∃ks:List IK,x=pC (.t ks)/\(IK.t ks).dep<=5
def BK(K:L6)(H:Hp):Option D->Option V->Prop
 |none,none=>True
 |some d,some v=>bn K H d v
 |_,_=>False
theorem Gb.look{kvs:List (D×D)}{xs:List (Key×V)}(h:Gb K H kvs xs)(k:Key):BK K H (dk kvs (gQ k)) (gw xs k):=by
 induction h with
 |nil=>exact True.intro
 |@cons p q ps qs lX t ih=>
  obtain⟨h1,h2⟩:=lX;unfold dk gw at ih ⊢;by_cases e:q.1=k
  ·have e':p.1=gQ k:=by rw[h1,e]
   simp only[B2,C8 e,C8 e',Option.map_some];exact h2
  ·have e':¬p.1=gQ k:=λ z=>e (uP (h1.symm.trans z));simp only[B2,B3 e,B3 e'];exact ih
theorem BJ.look{kvs:List (D×D)}{xs:List fH}(h:BJ K H kvs xs)(k:IK):BK K H (dk kvs (pC k)) (jF xs k):=by
 induction h with
 |nil=>exact True.intro
 |@cons p q ps qs lX t ih=>
  obtain⟨h1,_,_,h2⟩:=lX;unfold dk jF at ih ⊢;by_cases e:q.1=k
  ·have e':p.1=pC k:=by rw[h1,e]
   simp only[B2,C8 e,C8 e',Option.map_some];exact h2
  ·have e':¬p.1=pC k:=λ z=>e (sN (h1.symm.trans z));simp only[B2,B3 e,B3 e'];exact ih
theorem BK.isSome{o:Option D}{u:Option V}(h:BK K H o u):o.isSome=u.isSome:=by
 cases o with
 |none=>cases u with
  |none=>rfl
  |some _=>exact(show False from h).elim
 |some _=>cases u with
  |none=>exact(show False from h).elim
  |some _=>rfl
theorem BK.some_of{u:Option V}(h:BK K H (some d) u):∃v,u=some v/\bn K H d v:=by
 cases u with
 |none=>exact(show False from h).elim
 |some v=>exact⟨v,rfl,h⟩
theorem BJ.keys{kvs:List (D×D)}{xs:List fH}(h:BJ K H kvs xs)(e:H a=some (rf a xs)):o_ K H a xs:=by
 refine⟨e,?_⟩;clear e
 induction h with
 |nil=>intro p hp;cases hp
 |@cons p q ps qs lX t ih=>
  intro x hx;rcases G5.mp hx with rfl|hx
  ·obtain⟨h1,h2,h3,_⟩:=lX;rw[h1]at h3;exact⟨h2,lC _ h3⟩
  ·exact ih x hx
theorem DB(xs:List (Key×V))(k:Key)(v:V):putK xs k v=if(gw xs k).isSome=true then xs.map (λ kv=>if kv.1=k then(kv.1,v)else kv)else xs++[(k,v)]:=by unfold putK;rw[m_]
theorem Gb.put{kvs:List (D×D)}{xs:List (Key×V)}(h:Gb K H kvs xs)(k:Key)(hd:bn K H d v):Gb K H (putD kvs (gQ k) d) (putK xs k v):=by
 rw[DB];unfold putD;rw[(h.look k).isSome];by_cases e:(gw xs k).isSome=true
 ·rw[K9 e,K9 e];clear e
  induction h with
  |nil=>exact .nil
  |@cons p q ps qs lX t ih=>
   rw[G4,G4];refine .cons ?_ ih;obtain⟨h1,h2⟩:=lX;by_cases e:q.1=k
   ·rw[K9 e,K9 (by rw[h1,e])];exact⟨h1,hd⟩
   ·rw[L1 e,L1 (λ z=>e (uP (h1.symm.trans z)))];exact⟨h1,h2⟩
 ·rw[L1 e,L1 e];exact Paired.snoc h ⟨rfl,hd⟩
theorem BJ.put{kvs:List (D×D)}{xs:List fH}(h:BJ K H kvs xs)(k:IK){b:ww}(hk:k.dep<=5)(hb:bn K H (pC k) (.ref b))(hd:bn K H d v):BJ K H (putD kvs (pC k) d) (jP xs k b v):=by
 unfold putD jP;rw[(h.look k).isSome];by_cases e:(jF xs k).isSome=true
 ·rw[K9 e,K9 e];clear e
  induction h with
  |nil=>exact .nil
  |@cons p q ps qs lX t ih=>
   rw[G4,G4];refine .cons ?_ ih;obtain⟨h1,h2,h3,h4⟩:=lX;by_cases e:q.1=k
   ·rw[K9 e,K9 (by rw[h1,e])];exact⟨h1,h2,h3,hd⟩
   ·rw[L1 e,L1 (λ z=>e (sN (h1.symm.trans z)))];exact⟨h1,h2,h3,h4⟩
 ·rw[L1 e,L1 e];exact Paired.snoc h ⟨rfl,hk,hb,hd⟩
def O3(neg:Bool):gJ:=λ x y M Q=>∃a t kvs,y=.ref a/\M a=some (.di t kvs)/\iC t x/\Q (.bl (if neg then !(dk kvs x).isSome else(dk kvs x).isSome)) M
theorem mi(h:bn K H (pC (.t ks)) v):∃b,v=.ref b:=by unfold pC at h;obtain⟨p,xs,rfl,_⟩:=aZ.mp h;exact⟨p,rfl⟩
theorem DY(neg:Bool)(hu:X.A.units+64 < cLine):gr X (compareOp (if neg then .NotIn else .In)) (O3 neg):=⟨_,IC neg hu,λ x y d e H M Q2 Q hd he hm q k=>by
 obtain⟨a,t,kvs,rfl,hM,ok,q⟩:=q;cases(aE.mp he);have hr:=hm a _ hM;cases t with
 |false=>obtain⟨xs,hx,rel⟩:=hr;obtain⟨kk,rfl⟩:=ok;rw[kg hd];refine .inl ⟨a,_,rfl,qm.k9 hx,k _ H _ M (ba.mpr rfl) hm (ar.refl H) ?_⟩;rw[<- (rel.look kk).isSome];exact q
 |true=>
  obtain⟨xs,hx,rel⟩:=hr;obtain⟨ks,rfl,gR⟩:=ok;obtain⟨b,rfl⟩:=mi hd;refine .inr ⟨a,b,xs,_,rfl,rfl,rel.keys hx,gR,lC _ hd,k _ H _ M (ba.mpr rfl) hm (ar.refl H) ?_⟩;rw[<- (rel.look _).isSome];exact q⟩
def Sg:gJ:=λ x y M Q=>JV x y M Q\/O3 false x y M Q
theorem KG(hu:X.A.units+64 < cLine):gr X (compareOp .In) Sg:=(nY hu).or (DY false hu)
def zE:gJ:=λ x y M Q=>mJ x y M Q\/O3 true x y M Q
theorem DX(hu:X.A.units+64 < cLine):gr X (compareOp .NotIn) zE:=(gb hu).or (DY true hu)
def Si:gJ:=λ x y M Q=>∃a t kvs d,x=.ref a/\M a=some (.di t kvs)/\iC t y/\dk kvs y=some d/\Q d M
def OZ:gJ:=λ x y M Q=>PQ x y M Q\/Si x y M Q
theorem eG(hu:X.A.units+64 < cLine):SG X OZ:=by
 obtain⟨r,h1,h2⟩:=(L3.aH:SG X PQ);refine⟨_,h1.or (Om hu),λ x y d e H M Q2 Q hd he hm q k=>?_⟩;rcases q with q|⟨a,t,kvs,w,rfl,hM,ok,hl,q⟩
 ·exact .inl (h2 x y d e H M Q2 Q hd he hm q k)
 ·cases(aE.mp hd);have hr:=hm a _ hM;cases t with
  |false=>obtain⟨xs,hx,rel⟩:=hr;obtain⟨kk,rfl⟩:=ok;have hv:=rel.look kk;rw[hl]at hv;obtain⟨v,e1,e2⟩:=hv.some_of;rw[kg he];exact .inr (.inl ⟨a,v,rfl,by rw[<- e1];exact qm.k9 hx,k _ H _ M e2 hm (ar.refl H) q⟩)
  |true=>obtain⟨xs,hx,rel⟩:=hr;obtain⟨ks,rfl,gR⟩:=ok;have hv:=rel.look (.t ks);rw[hl]at hv;obtain⟨v,e1,e2⟩:=hv.some_of;obtain⟨b,rfl⟩:=mi he;exact .inr (.inr ⟨a,b,xs,_,v,rfl,rfl,rel.keys hx,gR,lC _ he,e1,k _ H _ M e2 hm (ar.refl H) q⟩)
def Sh:kj:=λ o i v M N=>∃a t kvs,o=.ref a/\M a=some (.di t kvs)/\iC t i/\kvs.length < sizeLine/\N (ai M a (.di t (putD kvs i v)))
def Li:kj:=λ o i v M N=>JU o i v M N\/Sh o i v M N
theorem tI.or{t u:BH}(h:tI X t)(g:tI X u):tI X (λ o i v H Q=>t o i v H Q\/u o i v H Q):=by
 intro xz s σ H o i v ov iv uu Q I ro ri rv q;rcases q with q|q
 ·exact h xz s σ H o i v ov iv uu Q I ro ri rv q
 ·exact g xz s σ H o i v ov iv uu Q I ro ri rv q
theorem LS(hu:X.A.units+64 < cLine):FX X Li:=by
 obtain⟨r,h1,h2⟩:=(nG:FX X JU);refine⟨_,tI.or h1 (Hb hu),λ o i v d j e H M Q2 Q hd hj he hm q k=>?_⟩;rcases q with q|⟨a,t,kvs,rfl,hM,ok,hl,q⟩
 ·exact .inl (h2 o i v d j e H M Q2 Q hd hj he hm q k)
 ·cases(aE.mp hd);have hr:=hm a _ hM;cases t with
  |false=>obtain⟨xs,hx,rel⟩:=hr;obtain⟨kk,rfl⟩:=ok;rw[kg hj];have t:=ar.mut (o:=.dK (putK xs kk v)) hx (λ _ z=>by cases z) (λ _ _ z=>by cases z);refine .inr (.inl ⟨a,_,rfl,Ga.k9 hx (by rw[<- G1 rel];exact hl),k _ _ (hm.put (u:=.di false (putD kvs (gQ kk) e)) t ⟨_,aR,(rel.put kk he).mono t⟩) t q⟩)
  |true=>obtain⟨xs,hx,rel⟩:=hr;obtain⟨ks,rfl,gR⟩:=ok;obtain⟨b,rfl⟩:=mi hj;have t:=ar.mut (o:=rf a (jP xs (.t ks) b v)) hx (λ _ z=>by cases z) (λ _ _ z=>by cases z);refine .inr (.inr ⟨a,b,xs,_,rfl,rfl,rel.keys hx,gR,lC _ hj,by rw[<- G1 rel];exact hl,k _ _ (hm.put (u:=.di true (putD kvs (pC (.t ks)) e)) t ⟨_,aR,(rel.put (.t ks) gR hj he).mono t⟩) t q⟩)
def FD:List D->Mem->bR->Prop:=λ xs M Q=>By xs M Q\/∃a t kvs,xs=[.ref a]/\M a=some (.di t kvs)/\Q (.int (kvs.length:Nat)) M
theorem oN:dB X (.builtin "len") FD:=by
 obtain⟨r,h1,h2⟩:=(L3.bW:dB X (.builtin "len") By);refine⟨_,h1.or xN,λ xs ds H M Q2 Q hd hm q k=>?_⟩;rcases q with q|⟨a,t,kvs,rfl,hM,q⟩
 ·exact .inl (h2 xs ds H M Q2 Q hd hm q k)
 ·obtain⟨x,r,rfl,hx,hr⟩:=ag.mp hd;cases(ao.mp hr);cases(aE.mp hx);have hr:=hm a _ hM;cases t with
  |false=>obtain⟨xs,hx,rel⟩:=hr;exact .inr ⟨a,rfl,.inl ⟨xs,hx,by rw[<- G1 rel];exact k _ H _ M (ax.mpr rfl) hm (ar.refl H) q⟩⟩
  |true=>obtain⟨xs,hx,rel⟩:=hr;exact .inr ⟨a,rfl,.inr ⟨xs,hx,by rw[<- G1 rel];exact k _ H _ M (ax.mpr rfl) hm (ar.refl H) q⟩⟩
def Ks(t:Bool):cS:=λ _ M Q=>∀p,M p=none->Q (.ref p) (ai M p (.di t []))
theorem MT(t:Bool){pos:Pos}:QE X (.Dict [] [] pos) (Ks t):=by
 cases t with
 |false=>refine bZ DJ λ σ H Q ⟨δ,M,Q2,hs,hm,q,k⟩ p hp=>?_;exact k _ _ (.ref p) _ (aE.mpr rfl) (hm.put (u:=.di false []) (ar.laid hp) ⟨[],aR,.nil⟩) (ar.laid hp) (q p (hm.free hp))
 |true=>refine bZ DK λ σ H Q ⟨δ,M,Q2,hs,hm,q,k⟩ p hp=>?_;exact k _ _ (.ref p) _ (aE.mpr rfl) (hm.put (u:=.di true []) (ar.laid hp) ⟨[],aR,.nil⟩) (ar.laid hp) (q p (hm.free hp))
end L3
namespace L4
open PySem.Spec L2 L3 L5
theorem Lz(t:Bool){pos:Pos}:WE X (.Dict [] [] pos) (Ks t):=⟨MT t⟩
end L4
namespace L2
open PySem.Spec PySem.W PyProof.Rows L5
theorem DL{k v:Expr}{tk tv:TE}{pos:Pos}(hu:X.A.units+64 < cLine)(hk:PE X k tk)(hv:PE X v tv):PE X (.Dict [some k] [v] pos) (λ σ H Q=>∀p,H p=none->tk σ (ci H p (rf p [])) λ x H1=>tv σ H1 λ y H2=>∃b ik,x=.ref b/\H2 p=some (rf p [])/\ik.dep<=5/\gf X.K H2 ik (.ref b)/\Q (.ref p) (ci H2 p (rf p (jP [] ik b y)))):=by
 intro xz s σ H Q I h;refine wpAny_Dict_any rfl rfl (by simp) (by simp) ?_;have I0:=I.laid (a:=s.heap.objs.size) (o:=rf s.heap.objs.size []) (t':=s.toks) (λ _ _ q=>j3 _ q) (J7 _) (sT (zt s.heap I.big));refine pairTrees_cons_walk (dG (hk xz _ σ _ _ I0 (h _ (I.bx.fresh (J7 _)))) λ kv s1 ⟨x,H1,I1,r1,q1⟩=>dG (hv xz s1 σ H1 _ I1 q1) λ vv s2 ⟨y,H2,I2,r2,q2⟩=>pairTrees_nil_walk ?_);obtain⟨b,ik,rfl,hp,hd,tQ,q⟩:=q2;cases(show kv=Value.ref b from r1);generalize s.heap.objs.size=p at*;obtain⟨z,nm,xs,rel,dd⟩:=o_.of I2 (kvs:=[]) ⟨hp,λ _ z=>by cases z⟩;cases rel;have lK:(jP [] ik b y).length<=sizeLine:=by have:=ux [] ik b y;exact J0 this (by decide)
 unfold storeAll;rw[C7];refine K1 (K1 (wpAny_dictSet_heap (knd:=aX X.prog X.w) (hsz:=J9 _) (show X.A.units+8 < cLine by lia) ⟨hd,jY I2 ik tQ rfl⟩ dd λ h' zA hs=>K2 ?_));dsimp only;rw[forIn_nil];obtain⟨q',es,ep,hq,h2,h3,h4,_,h5⟩:=zA;exact K2 ⟨.ref p,_,iT I2 (by rw[hp];exact True.intro) hs ⟨q',hq⟩ (sT ⟨lK,nm,_,BQ.put .nil ik r2,q',es,ep,hq,h2,h3,h4,h5⟩),rfl,q⟩
end L2
namespace L3
open PySem.Spec L2 L5 PyProof.Rows
def LZ(tk tv:cS):cS:=λ δ M Q=>∀p,M p=none->tk δ (ai M p (.di true [])) λ x M1=>tv δ M1 λ y M2=>M2 p=some (.di true [])/\iC true x/\Q (.ref p) (ai M2 p (.di true [(x,y)]))
theorem HX{k v:Expr}{tk tv:cS}{pos:Pos}(hu:X.A.units+64 < cLine)(hk:QE X k tk)(hv:QE X v tv):QE X (.Dict [some k] [v] pos) (LZ tk tv):=by refine bZ (DL hu hk hv) ?_;rintro σ H Q ⟨δ,M,Q2,hs,hm,q,k⟩ p hp;have t0:ar H (ci H p (rf p [])):=ar.laid hp;refine⟨δ,ai M p (.di true []),_,hs.mono t0,hm.put (u:=.di true []) t0 ⟨[],aR,.nil⟩,q p (hm.free hp),λ x H1 d M1 hd cv t1 q1=>?_⟩;refine⟨δ,M1,_,(hs.mono t0).mono t1,cv,q1,λ y H2 e M2 he lq t2 q2=>?_⟩;obtain⟨lZ,⟨ks,rfl,gR⟩,q2⟩:=q2;have hd2:=bn.mono t2 _ hd;obtain⟨b,rfl⟩:=mi hd2;obtain⟨xs,hx,rel⟩:=lq p _ lZ;cases rel;have t:=ar.mut (o:=rf p (jP [] (.t ks) b y)) hx (λ _ z=>by cases z) (λ _ _ z=>by cases z);exact⟨b,.t ks,rfl,hx,gR,lC _ hd2,k _ _ _ _ (aE.mpr rfl) (lq.put (u:=.di true [(pC (.t ks),e)]) t ⟨_,aR,((BJ.put (kvs:=[]) .nil (.t ks) gR hd2 he):BJ X.K H2 [(pC (.t ks),e)] (jP [] (.t ks) b y)).mono t⟩) ((t0.trans t1).trans (t2.trans t)) q2⟩
section
variable {Q:bR}{kvs:List (D×D)}{x y v:D}{t:Bool}{N:Mem->Prop}{xs:List D}
theorem AI(h:M a=some (.di t kvs))(hk:iC t x)(q:Q (.bl (!(dk kvs x).isSome)) M):zE x (.ref a) M Q:=.inr ⟨a,t,kvs,rfl,h,hk,q⟩
theorem cW(h:PQ x y M Q):OZ x y M Q:=.inl h
theorem wB(h:M a=some (.di t kvs))(hk:iC t x)(e:dk kvs x=some d)(q:Q d M):OZ (.ref a) x M Q:=.inr ⟨a,t,kvs,d,rfl,h,hk,e,q⟩
theorem Hm(h:M a=some (.di t kvs))(hk:iC t x)(hl:kvs.length < sizeLine)(q:N (ai M a (.di t (putD kvs x v)))):Li (.ref a) x v M N:=.inr ⟨a,t,kvs,rfl,h,hk,hl,q⟩
theorem Hw(h:M a=some (.di t kvs))(q:Q (.int (kvs.length:Nat)) M):FD [.ref a] M Q:=.inr ⟨a,t,kvs,rfl,h,q⟩
theorem jM(h:By xs M Q):FD xs M Q:=.inl h
end
end L3
namespace KK
open L3 L4 L5
open L2 hiding aH
abbrev Row:=List Int
end KK
variable {x0 r:List KK.Row}{ls:KK.Row}
namespace KK
open L3 L4 L5
open L2 hiding aH
theorem bi.free{M':Mem}(h:bi M M')(hp:M' p=none):M p=none:=by
 cases e:M p with
 |none=>rfl
 |some o=>rw[h p o e]at hp;cases hp
theorem bi.trans{M2:Mem}(h:bi M M1)(g:bi M1 M2):bi M M2:=λ b o e=>g b o (h b o e)
theorem bi.new{M':Mem}(h:bi M M')(hp:M' p=none)(x:MO):bi M (ai M' p x):=UT h hp x
theorem a_{x:MO}(h:M p=some x)(g:M q=none):p≠q:=λ z=>by subst z;rw[h]at g;cases g
open L3 L4 L5
open L2 hiding aH
theorem Qo{ds:List α}{X:Prop}(h:ds.length<=16)(q:X):ds.length<=sizeLine/\X:=⟨J0 h (by decide),q⟩
theorem uq{Q:bR}(q:Q (.bl true) M):O0 false .bw .bw M Q:=q
theorem zo{sp:iY}(h:∀ds M Q,¬sp ds M Q):cE P w K mg base fX k f fd ps (dv K sp):=
 ⟨λ _ _ _ _ ⟨ds,M,Q,_,_,q,_⟩=>absurd q (h ds M Q),λ _ _ _ _ _ _ _ _ _ _ _ _ _ ⟨ds,M,Q,_,_,q,_⟩=>absurd q (h ds M Q)⟩
def Wj:D->Prop
 | .bw=>True| .bl _=>True| .int _=>True| .str _=>True|_=>False
def FY(M:Mem):Nat->D->D->Prop
 |0,_,_=>False
 |k+1,x,y=>(x=y/\Wj x)\/(∃ds es,x=.tup ds/\y=.tup es/\ds.length=es.length/\ds.length<=10000/\∀(i:Nat) (d e:D),ds[i]?=some d->es[i]?=some e->FY M k d e)\/
  ∃p q ds es,x=.ref p/\y=.ref q/\M p=some (.lst ds)/\M q=some (.lst es)/\ds.length=es.length/\ds.length<=10000/\∀(i:Nat) (d e:D),ds[i]?=some d->es[i]?=some e->FY M k d e
theorem CJ(M:Mem)(k:Nat){r:List Int}(h:r.length<=10000):FY M (k+2) (row r) (row r):=
 .inr (.inl ⟨_,_,rfl,rfl,rfl,by rw[C1];exact h,λ i d e hd he=>by
  rw[hd]at he;cases he;obtain⟨x,_,rfl⟩:=H0.mp (k8 hd);exact .inl ⟨rfl,True.intro⟩⟩)
def CF(k:Nat):iY:=λ ds M Q=>∃x y,ds=[x,y]/\FY M k x y/\Q (.bl true) M
theorem GY:∀ds M Q,¬CF 0 ds M Q:=λ ds M Q ⟨_,_,_,h,_⟩=>h
open L3 L4 L5
open L2 hiding aH
theorem GF(a:Nat):∀b:Nat,(a^^^b)+2*(a&&& b)=a+b:=by
 induction a using Nat.strongRecOn with
 |ind a ih=>
  intro b;by_cases h:a=0
  ·subst h;simp
  ·have h1:=ih (a / 2) (by lia) (b / 2);rw[<- Nat.xor_div_two,<- Nat.and_div_two]at h1;have x1:(a^^^b) % 2=1↔¬(a % 2=1↔b % 2=1):=Nat.xor_mod_two_eq_one;have x2:(a&&& b) % 2=1↔a % 2=1/\b % 2=1:=Nat.and_mod_two_eq_one;lia
theorem xO(a b:Nat):Builtin.bitXor (a:Int) (b:Int)=((a^^^b:Nat):Int):=by rw[PyProof.Rows.bitXor_and,PyProof.Rows.bitAnd_pp (by lia) (by lia)];have:=GF a b;simp only[w6];lia
open L3 L4 L5
open L2 hiding aH
structure Tb(m h:Nat)(x0:List Row):Prop where
 len:x0.length=m
 pos:0 < m
 ck:m<=300
 xq:h<=12
 row:∀r∈x0,r.length=h/\∀x∈r,0<=x/\x < (m:Int)
def cu(x0:List Row)(ls:Row):D:=.tup [.tup (x0.map row),row ls]
def aM(x0:List Row)(h x:Nat):Nat:=((x0.getD x []).getD h 0).toNat
theorem Tb.at{h:Nat}(T:Tb m h x0){x:Nat}(hx:x < m)(hi:i < h):(x0.getD x []).length=h/\(x0.getD x []).getD i 0=(aM x0 i x:Int)/\aM x0 i x < m:=by
 have tP:x < x0.length:=by rw[T.len];exact hx
 have e:x0.getD x []=x0[x]:=by rw[c7,i6 tP];rfl
 have hr:=T.row _ (A3 tP);unfold aM;rw[e];have uZ:i < (x0[x]).length:=by rw[hr.1];exact hi
 have e2:(x0[x]).getD i 0=(x0[x])[i]:=by rw[c7,i6 uZ];rfl
 have hb:=hr.2 _ (A3 uZ);rw[e2];exact⟨hr.1,by lia,by lia⟩
def wZ(f:Nat->Nat):Nat->Nat->Nat
 |0,x=>x
 |n+1,x=>wZ f n (f x)
theorem EC{f:Nat->Nat}(hf:∀x,x < m->f x < m):∀n x,x < m->wZ f n x < m
 |0,x,h=>h
 |n+1,x,h=>EC hf n (f x) (hf x h)
def Gg(x0:List Row):Nat->Nat->Row->Nat
 |_,x,[]=>x
 |i,x,c::cs=>Gg x0 (i+1) (wZ (aM x0 i) c.toNat x) cs
theorem Tb.Cj{h:Nat}(T:Tb m h x0)(hi:i < h):∀x,x < m->aM x0 i x < m:=λ x hx=>(T.at hx hi).2.2
end KK
namespace L2
open PySem.Spec PyProof.Rows
theorem qy{x:V}(r:ce (x::xs) us):∃u ws,us=u::ws/\bv x u/\ce xs ws:=by
 cases r with
 |cons a b=>exact⟨_,_,rfl,a,b⟩
open PySem.Spec PyProof.Rows
theorem qO:∀(cs:List ww) {ay:List jp},ce (cs.map V.ref) ay->ay=cs.map Value.ref
 |[],_,rv=>by cases rv;rfl
 |c::cs,_,rv=>by obtain⟨w,ws,rfl,hG,r4⟩:=qy rv;obtain rfl:w=Value.ref c:=hG;rw[qO cs r4];rfl
open PySem.Spec PySem.W PySem.Calls PyProof.Rows L5
theorem EL:∀(vs:List jp) (ns:List Int),vs.length=ns.length->(∀(j:Nat) (v:jp) (n:Int),vs[j]?=some v->ns[j]?=some n->∃t:Tok,v=Value.int n t)->IntsAre vs ns
 |[],[],_,_=>.nil
 |[],_::_,h,_=>by cases h
 |_::_,[],h,_=>by cases h
 |v::vs,n::ns,h,k=>by obtain⟨t,rfl⟩:=k 0 v n rfl rfl;exact .cons n t (EL vs ns (by simpa using h) λ j v n a b=>k (j+1) v n (by simpa using a) (by simpa using b))
theorem oy(h:IntsAre vs ns):ce (ns.map V.int) vs:=by
 induction h with
 |nil=>exact .nil
 |cons n t _ ih=>exact .cons ⟨t,rfl⟩ ih
theorem ka:∀{ns:List Int} {vs:List jp},ce (ns.map V.int) vs->IntsAre vs ns
 |[],_,h=>by cases h;exact .nil
 |n::ns,_,h=>by obtain⟨u,us,rfl,ru,r⟩:=qy h;obtain⟨t,rfl⟩:=ru;exact .cons n t (ka r)
theorem vA(hc:X.calm=true):c_ X (.builtin "sorted") (λ xs H Q=>∃(a:ww) (kvs:List (Key×V)) (ns:List Int),xs=[.ref a]/\H a=some (.dK kvs)/\kvs.map (·.1)=ns.map Sum.inl/\ns.length < 64/\∀(eM:List Int) (p:ww),eM.Perm ns->eM.Pairwise (·<=·)->H p=none->Q (.ref p) (ci H p (.lst (eM.map V.int)))):=by
 intro xz s σ H xs us Q I r ⟨a,kvs,ns,e,hd,hk,pG,q⟩;subst e;obtain⟨u,rfl,rx⟩:=vals1 r;cases(show u=Value.ref a from rx);obtain⟨z,nm,vs,rel,dd⟩:=zu I.bx hd;obtain⟨ep,Xb⟩:=dd.dictAt;have len:vs.length=ns.length:=by rw[<- G1 rel];have:=K7 List.length hk;simpa using this
 refine call_function_entry kind_sorted plain_sorted entry_sorted (args_sorted1 _) ?_;unfold Builtin.«sorted»;refine K1 (m:=checkCount "sorted" 1 1 _) (K2 (K1 (kdu_collect (A:=X.A.in1) (kdl_dict (knd:=cX X.prog X.w) (kvs:=vs) (ep:=ep) nm) (show X.A.in1.handled=none from I.ok.hd hc) Xb (by rw[J8];lia) λ h' tk zn RM fG=>?_)));have hl:zn.toList.length=ns.length:=by rw[m6,fG.1,len]
 have keys:vs.map (·.1)=ns.map Sum.inl:=by
  rw[<- hk];clear hk hd Xb dd fG len q z
  induction rel with
  |nil=>rfl
  |cons p _ ih=>rw[G4,G4,ih,p.1]
 have hI:IntsAre zn.toList ns:=EL _ _ hl λ j v n a b=>by
  obtain⟨k,x,e1,e2⟩:=fG.2 j v (by rw[<- j9];exact a);have e3:k=Sum.inl n:=by have:=K7 (λ l=>l[j]?) keys;simp only[u7,e1,b,Option.map_some,Option.some.injEq]at this;exact this
  subst e3;rcases bP (show oq (Sum.inl n) v=true from e2)with⟨i,t,h1,rfl⟩|⟨x,t,h1,rfl⟩
  ·cases h1;exact⟨t,rfl⟩
  ·cases h1
 refine K1 (wpAny_newList ?_ (by rw[hl,J8];lia));have Bo:(h'.push (seqObj "list" zn.toList.toArray 0)).get? h'.objs.size=some (seqObj "list" zn.toList.toArray 0):=m7 _ rfl;refine K1 (D4 (A0 slot_list_sort ⟨_,Bo,rfl⟩ entry_list_sort (list_sort_tree Bo hI (by lia) λ out eM a1 a2 a3=>⟨_,rfl,?_⟩) (args_list_sort _)));refine K2 ⟨_,rfl,?_⟩;obtain⟨c,Gw⟩:=sortedHeap_at (out:=out) Bo;have I0:be X xz σ H {s with heap:=h',toks:=tk}:=I.kept (t':=tk) RM;have kp:∀b o,h'.get? b=some o->(sortedHeap (h'.push (seqObj "list" zn.toList.toArray 0)) h'.objs.size zn.toList out).get? b=some o:=λ b o e=>by rw[sortedHeap_old (G8 (G9 e)) (by rw[size_push'];exact y4 (G9 e))];exact j3 _ e
 exact⟨.ref h'.objs.size,_,I0.laid (t':=tk) kp (J7 _) (show bA X.prog X.w _ _ _ (.lst (eM.map V.int))from⟨by rw[C1,a2.length_eq,J8];lia,out.toList,c,oy a1,by rw[Array.toArray_toList];exact Gw⟩),rfl,q eM _ a2 a3 (I0.bx.fresh (J7 _))⟩
theorem vy:c_ X (.builtin "sorted") (λ xs H Q=>∃(a:ww) (ns:List Int),xs=[.ref a]/\fE X.K H a (ns.map V.int)/\ns.length < 64/\∀(eM:List Int) (p:ww),eM.Perm ns->eM.Pairwise (·<=·)->H p=none->Q (.ref p) (ci H p (.lst (eM.map V.int)))):=by intro xz s σ H xs us Q I r ⟨a,ns,e,hq,pG,q⟩;subst e;obtain⟨u,rfl,rx⟩:=vals1 r;cases(show u=Value.ref a from rx);obtain⟨ay,r',pl,hz⟩:=I.list hq;have hI:=ka r';have hl:=r'.length;rw[C1]at hl;refine sorted_ints pl.isList hI (by lia) λ out eM a1 a2 a3=>?_;obtain⟨c,Gw⟩:=sortedAll_at s.heap ay out;exact⟨.ref (s.heap.objs.size+1),_,I.laid (t':=s.toks) (λ _ _=>sortedAll_old) (Nat.le_succ _) (show bA X.prog X.w _ _ _ (.lst (eM.map V.int))from⟨by rw[C1,a2.length_eq,J8];lia,out.toList,c,oy a1,by rw[Array.toArray_toList];exact Gw⟩),rfl,q eM _ a2 a3 (I.bx.fresh (Nat.le_succ _))⟩
end L2
namespace L3
open PySem.Spec L2 L5 PyProof.Rows
def FC:List D->Mem->bR->Prop:=λ xs M Q=>∃(a:ww) (ns:List Int),xs=[.ref a]/\((∃kvs,M a=some (.di false kvs)/\kvs.map (·.1)=ns.map D.int)\/M a=some (.lst (ns.map D.int)))/\ns.length < 64/\∀(eM:List Int) (p:ww),eM.Perm ns->eM.Pairwise (·<=·)->M p=none->Q (.ref p) (ai M p (.lst (eM.map D.int)))
theorem qR:∀{xs:List Key} {ns:List Int},xs.map gQ=ns.map D.int->xs=ns.map Sum.inl
 |[],[],_=>rfl
 |[],_::_,h=>by cases h
 |_::_,[],h=>by cases h
 |x::xs,n::ns,h=>by
  rw[G4,G4,List.cons.injEq]at h;rw[G4,qR h.2];cases x with
  |inl i=>have:=h.1;simp only[gQ,D.int.injEq]at this;rw[this]
  |inr i=>have:=h.1;simp[gQ]at this
theorem Ka(hc:X.calm=true):dB X (.builtin "sorted") FC:=⟨_,(vA hc).or vy,λ xs ds H M Q2 Q hd hm q k=>by
 obtain⟨a,ns,rfl,hs,pG,q⟩:=q;obtain⟨x,r,rfl,hx,hr⟩:=ag.mp hd;cases(ao.mp hr);cases(aE.mp hx);have fin:∀(eM:List Int) (p:ww),eM.Perm ns->eM.Pairwise (·<=·)->H p=none->Q (.ref p) (ci H p (.lst (eM.map V.int))):=λ eM p a1 a2 hp=>k _ _ (.ref p) _ (aE.mpr rfl) (dM hp (gm eM) hm) (ar.laid hp) (q eM p a1 a2 (hm.free hp));rcases hs with⟨kvs,hM,hk⟩|hM
 ·obtain⟨ys,hy,rel⟩:=hm a _ hM;refine .inl ⟨a,ys,ns,rfl,hy,?_,pG,fin⟩;refine qR ?_;rw[<- hk];clear hk hy hM q fin
  induction rel with
  |nil=>rfl
  |cons p _ ih=>rw[G4,G4,G4,ih,p.1]
 ·obtain⟨ys,hy,Gr⟩:=hm a _ hM;rw[dC Gr]at hy;exact .inr ⟨a,ns,rfl,fE.of hy,pG,fin⟩⟩
theorem AG{Q:bR}(ns:List Int)(h:M a=some (.lst (ns.map D.int)))(pG:ns.length < 64)(q:∀(eM:List Int) (p:ww),eM.Perm ns->eM.Pairwise (·<=·)->M p=none->Q (.ref p) (ai M p (.lst (eM.map D.int)))):FC [.ref a] M Q:=⟨a,ns,rfl,.inr h,pG,q⟩
end L3
namespace L2
open PySem.Spec PyProof.Rows
def TY(lo:Int)(n:Nat):It:=⟨λ i _=>i < n,λ i H x H'=>H'=H/\x=.int (lo - i),λ i _=>n<=i⟩
theorem Ao(it:ww)(lo:Int)(n:Nat):Turn P w K tg (TY lo n) [it] it (λ i h=>IsRangeIter h it (lo+(i:Nat)*(-1)) ((n:Int) - (i:Nat)) (-1)) where
 mem:=by simp
 obj:=λ i h st b hb=>by
  have e:b=it:=by simpa using hb
  subst e;exact⟨_,st,λ v z=>by
   have z':Data.fields _=Data.cell v:=z;cases z'⟩
 keep:=λ i h h' st k=>k it (by simp) _ st
 item:=by intro X hP hw hK hc i xz s σ H E I hf st hg;subst hP hw hK;obtain⟨f0,f1,f2,f3,f4,f5⟩:=hf it (by simp);have W:=Walks.range (prog:=X.prog) (w:=X.w) (I.ok.hd hc) it lo (-1) n;refine W.item i s _ _ hg st λ v h' tk hv gX kk=>?_;obtain⟨t,rfl⟩:=hv;have I1:be X xz σ H {s with heap:=h',toks:=tk}:=I.turned (λ b o hb e=>kk b o (by simpa using hb) e) f0 f1 f3 f4 f5;refine⟨_,rfl,vc (s:={s with heap:=h',toks:=tk}) (n:="range_iterator") gX rfl rfl (by decide) ⟨.int (lo - i),H,I1,⟨t,?_⟩,⟨rfl,rfl⟩,gX,λ b hb=>(hf b hb).1⟩⟩;rw[Int.mul_neg,Int.mul_one,<- Int.sub_eq_add_neg]
 done:=by intro X hP hw hK hc i xz s σ H E I hf st hg;subst hP hw hK;obtain⟨f0,f1,f2,f3,f4,f5⟩:=hf it (by simp);exact wpAny_pyNext_range_end (I.ok.hd hc) st (by have:n<=i:=hg;lia) λ h' eb=>⟨rfl,I.turned (t':=s.toks) (λ b o hb e=>eb b o hb e) f0 f1 f3 f4 f5⟩
 self:=λ _ _ _ _ _ st h=>wpAny_pyIter_rangeiter st h
theorem qJ(a b:Int):Builtin.Range.rangeSize a b (-1)=((a - b).toNat:Int):=by unfold Builtin.Range.rangeSize;rw[L1 (by decide)];simp only[Int.neg_neg,Int.ediv_one];split <;> lia
theorem small_down{a b:Int}(ha: -(2^62)<=a)(ha':a < 2^62)(hb: -(2^62)<=b)(JG:b < 2^62):Builtin.Range.small a b (-1)=true:=by
 unfold Builtin.Range.small;rw[qJ];have e:(((a - b).toNat:Nat):Int)=if a - b<=0 then 0 else a - b:=by split <;> lia
 rw[e];simp only[Builtin.Range.rangeFitsLong,A1,Bool.or_eq_true,u9,beq_iff_eq,show ¬(-1:Int) > 0 by decide,K6];split <;> lia
theorem JR{R:It->Hp->Prop}{hi:Int}{t u v:Tok}{tk:Nat}(I:be X xz σ H s)(h1: -(2^62)<=lo)(h2:lo < 2^62)(h3: -(2^62)<=hi)(h4:hi < 2^62) (q:R (TY lo (lo - hi).toNat) H):wpAny (model X.prog X.w) X.A (pyIter (.ref s.heap.objs.size)) (Wi X xz σ tg R) E {s with heap:=s.heap.push {cls:=.type "range",data:=.fields #[.int lo t,.int hi u,.int (-1) v]},toks:=tk}:=by
 refine wpAny_pyIter_range (IsRange.new ..) (small_down h1 h2 h3 h4) ?_;have I1:be X xz σ H {s with heap:=s.heap.push {cls:=.type "range",data:=.fields #[.int lo t,.int hi u,.int (-1) v]},toks:=tk}:=I.kept λ b o e=>j3 _ e;refine⟨(s.heap.push {cls:=.type "range",data:=.fields #[.int lo t,.int hi u,.int (-1) v]}).objs.size,[(s.heap.push {cls:=.type "range",data:=.fields #[.int lo t,.int hi u,.int (-1) v]}).objs.size],_,_,H,rfl,
  I1.kept (t':=tk) λ b o e=>j3 _ e,Ao _ lo (lo - hi).toNat,?_,λ b hb=>?_,q⟩
 ·have e1:lo+((0:Nat):Int)*(-1)=lo:=by simp
  have e2:(((lo - hi).toNat:Nat):Int) - ((0:Nat):Int)=Builtin.Range.rangeSize lo hi (-1):=by rw[qJ];lia
  show IsRangeIter _ _ (lo+((0:Nat):Int)*(-1)) ((((lo - hi).toNat:Nat):Int) - ((0:Nat):Int)) (-1);rw[e1,e2];exact m7 _ rfl
 ·have e:b=(s.heap.push {cls:=.type "range",data:=.fields #[.int lo t,.int hi u,.int (-1) v]}).objs.size:=by simpa using hb
  subst e;exact I1.jf (J7 _) (I1.bx.fresh (J7 _))
def Rw(ta:TA):TI:=λ σ H R=>ta σ H λ vs H1=>∃i j:Int,vs=[.int i,.int j,.int (-1)]/\(-1000000000<=i/\i<=1000000000/\-1000000000<=j/\j<=1000000000)/\R (TY i (i - j).toNat) H1
theorem Ip{a b:Expr}{p pos:Pos}(hg:Gl X "range")(hm:X.mg "range"=none)(ha:PA X [a,b,c] ta)(hs:starEach [a,b,c] X.env=[(false,eval a X.env),(false,eval b X.env),(false,eval c X.env)]:=by rfl)(hs2:starEach [b,c] X.env=[(false,eval b X.env),(false,eval c X.env)]:=by rfl):PI X tg (.Call (.Name "range" p) [a,b,c] [] pos) (Rw ta):=by
 intro xz s σ H R I h;refine Call_ (fA I hg hm boot_range (a7 (dG (ha pos xz s σ H _ I h) λ us s1 ⟨vs,H1,I1,r1,q1⟩=>?_) (by rw[hs,hs2]) (by rw[hs2];rfl)));obtain⟨i,j,e,⟨q1,q2,q3,q4⟩,q⟩:=q1;subst e;cases r1 with
 |cons r rr=>
  cases rr with
  |cons r' rr=>
   cases rr with
   |cons Uy rr=>cases rr;obtain⟨t,rfl⟩:=r;obtain⟨t',rfl⟩:=r';obtain⟨t'',rfl⟩:=Uy;exact call_range_3 (by decide) (JR I1 (by lia) (by lia) (by lia) (by lia) q) (Or.inl (PyProof.noPylong_small (by lia)))
end L2
namespace L3
open PySem.Spec L2 L5 PyProof.Rows
def lN(lo:Int)(n:Nat):List D:=(List.range n).map λ i=>D.int (lo - (i:Nat))
theorem lB(lo:Int)(n:Nat):(lN lo n).length=n:=by simp[lN]
theorem rg(h:i < n):(lN lo n)[i]?=some (.int (lo - (i:Nat))):=by simp[lN,h]
theorem Fx(h:(lN lo n)[i]?=some d):i < n/\d=.int (lo - (i:Nat)):=by
 have hi:i < n:=by have:=(i3.mp h).1;rw[lB]at this;exact this
 rw[rg hi]at h;exact⟨hi,(B6 h).symm⟩
theorem Bf:tJ K H1 (TY lo n) (.fix (lN lo n)):=λ H M ds t hm e=>by cases e;rw[lB];refine⟨λ i hi=>hi,λ i hi=>J3 hi.symm,λ i x H' hi y=>?_⟩;obtain⟨e,rfl⟩:=y;subst e;exact⟨ar.refl _,hm,_,rg hi,ax.mpr rfl⟩
section
variable {ta:e_}{a b:Expr}{p pos:Pos}
def Ey(ta:e_):rD:=λ δ M R=>ta δ M λ ds M1=>∃i j:Int,ds=[.int i,.int j,.int (-1)]/\(-1000000000<=i/\i<=1000000000/\-1000000000<=j/\j<=1000000000)/\R (.fix (lN i (i - j).toNat)) M1
theorem AJ(hg:Gl X "range")(hm:X.mg "range"=none)(ha:QA X [a,b,c] ta)(hs:starEach [a,b,c] X.env=[(false,eval a X.env),(false,eval b X.env),(false,eval c X.env)]:=by rfl)(hs2:starEach [b,c] X.env=[(false,eval b X.env),(false,eval c X.env)]:=by rfl):QI X tg (.Call (.Name "range" p) [a,b,c] [] pos) (Ey ta):=yC (Ip hg hm ha hs hs2) λ σ H R ⟨δ,M,R2,hs,hm,q,k⟩=>by refine⟨δ,M,_,hs,hm,q,λ xs H1 ds M1 hd cv t1 q1=>?_⟩;obtain⟨i,j,rfl,hb,q1⟩:=q1;obtain⟨x,r,rfl,hx,hr⟩:=ag.mp hd;obtain⟨y,r2,rfl,hy,pQ⟩:=ag.mp hr;obtain⟨z,r3,rfl,hz,Vk⟩:=ag.mp pQ;cases(ao.mp Vk);cases(ax.mp hx);cases(ax.mp hy);cases(ax.mp hz);exact⟨i,j,rfl,hb,k _ H1 _ M1 Bf cv t1 q1⟩
end
end L3
namespace L4
open PySem.Spec L2 L3
theorem Aj{ta:e_}{a b:Expr}{p pos:Pos}(hg:Gl X "range")(hm:X.mg "range"=none)(ha:WA X [a,b,c] ta)(hs:starEach [a,b,c] X.env=[(false,eval a X.env),(false,eval b X.env),(false,eval c X.env)]:=by rfl)(hs2:starEach [b,c] X.env=[(false,eval b X.env),(false,eval c X.env)]:=by rfl):WI X tg (.Call (.Name "range" p) [a,b,c] [] pos) (Ey ta):=⟨AJ (hg:=hg) (hm:=hm) ha.h (hs:=hs) (hs2:=hs2)⟩
theorem HC{ta:e_}(h:ta δ M λ ds M1=>∃i j:Int,ds=[.int i,.int j,.int (-1)]/\(-1000000000<=i/\i<=1000000000/\-1000000000<=j/\j<=1000000000)/\R (.fix (lN i (i - j).toNat)) M1):Ey ta δ M R:=h
open L2 L3
theorem Yc{A:Type}{P:List A->Prop}(h:∀a t,t.length=n->P (a::t)):∀us:List A,us.length=n+1->P us
 |[],e=>nomatch e
 |a::t,e=>h a t (Nat.succ.inj e)
theorem Yd{A:Type}{P:List A->Prop}(h:∀a,P [a]):∀us:List A,us.length=1->P us:=Yc λ a t e=>by rw[a0 e];exact h a
end L4
namespace L2
open PySem.Spec PyProof.Rows
section
open PySem.AutoSeq1 (wpAny_loadPart')
theorem qc{Q:List jp->kt->Prop}{r:ww}{a b c:Int}{t u v:Tok}(hh:A.handled=none)(hr:IsRange s.heap r a b c t u v)(Ov:Builtin.Range.small a b c=true)(hn:Builtin.Range.rangeSize a b c=n)(hlen:n<=2^24) (hQ:∀h' tk zn,(∀b o,s.heap.get? b=some o->h'.get? b=some o)->ItemsOf (λ i v=>∃t,v=.int (a+i*c) t) zn n->Q zn.toList {s with heap:=h',toks:=tk}):wpAny (model prog w) A (collect (.ref r)) Q E s:=by
 unfold collect;refine K1 (wpAny_runValue (B9 F.entry_proto_collect ?_));rw[l0 F.plain_proto_collect _];show wpAny _ A.in1 (newList [] >>= λ l=>again (.builtin "list.__iadd__" ⟨[l,.ref r],[]⟩)) _ _ s;refine K1 (w9 ?_);refine K2 ⟨G6 F.plain_list_iadd _,B9 F.entry_list_iadd ?_⟩;rw[l0 F.plain_list_iadd _];show wpAny _ A.in1 (Builtin.List.listExtendWith (.ref s.heap.objs.size) (.ref r) (.ref s.heap.objs.size)) _ _ _;have hS:(s.heap.push {cls:=.type "list",data:=.seq ([]:List jp).toArray}).get? s.heap.objs.size=some {cls:=.type "list",data:=.seq #[] 0}:=m7 _ rfl;have R7:∀(h':Heap) (tk:Nat) (gI:Array jp) (c':Nat),(∀b o,b≠s.heap.objs.size->(s.heap.push {cls:=.type "list",data:=.seq ([]:List jp).toArray}).get? b=some o->h'.get? b=some o)->h'.get? s.heap.objs.size=some {cls:=.type "list",dict:=none,data:=.seq gI c',slots:=#[]}->ItemsOf (λ i v=>∃t,v=.int (a+i*c) t) gI n->
   wpAny (model prog w) A (match Value.ref s.heap.objs.size with
   |Value.ref a=>do
    match(<- load a).data with
     |Data.seq xs _=>pure xs.toList
     |_=>unsupported "internal:collect"
   |_=>unsupported "internal:collect") Q E {s with heap:=h',toks:=tk}:=λ h' tk gI c' hk Gx fG=>by
  show wpAny _ A (load s.heap.objs.size >>= _) _ _ _;refine K1 (wpAny_load Gx ?_);exact K2 (hQ h' tk gI (λ b o e=>hk b o (G8 (G9 e)) (j3 _ e)) fG)
 refine K5 (wpAny_extend_range (A:=A) (R:=λ r s'=>∃h' tk gI c',r=.ok (.ret (.ref s.heap.objs.size))/\s'={s with heap:=h',toks:=tk}/\(∀b o,b≠s.heap.objs.size->(s.heap.push {cls:=.type "list",data:=.seq ([]:List jp).toArray}).get? b=some o->h'.get? b=some o)/\h'.get? s.heap.objs.size=some {cls:=.type "list",dict:=none,data:=.seq gI c',slots:=#[]}/\ItemsOf (λ i v=>∃t,v=.int (a+i*c) t) gI n)
  (s:={s with heap:=s.heap.push {cls:=.type "list",data:=.seq ([]:List jp).toArray}}) hh (j3 _ hr) Ov hn hlen s.heap.objs.size _ 0 hS λ h' tk gI c' hk Gx fG=>⟨h',tk,gI,c',rfl,rfl,hk,Gx,fG⟩) (λ fin s' h=>?_) (λ e s' h=>?_)
 ·cases fin with
  |done f=>obtain⟨h',tk,gI,c',e,rfl,hk,Gx,fG⟩:=h;cases e;exact R7 h' tk gI c' hk Gx fG
  |again c''=>exact⟨h.1,J4 h.2 λ r Pw hr=>by obtain⟨h',tk,gI,c',rfl,rfl,hk,Gx,fG⟩:=hr;exact R7 h' tk gI c' hk Gx fG⟩
 ·obtain⟨_,_,_,_,e,_⟩:=h;cases e
end
def kQ(lo:Int)(n:Nat):List V:=(List.range n).map λ(i:Nat)=>V.int (lo+(i:Int))
theorem qN{zn:Array jp}(h:ItemsOf (λ i v=>∃t,v=Value.int (lo+(i:Int)*1) t) zn n):ce (kQ lo n) zn.toList:=by
 obtain⟨hl,hv⟩:=h;have go:∀(m:Nat) (vs:List jp) (k:Nat),vs.length=m->(∀j v,vs[j]?=some v->∃t,v=Value.int (lo+((k+j:Nat):Int)) t)->ce ((List.range' k m).map λ(i:Nat)=>V.int (lo+(i:Int))) vs:=by
  intro m
  induction m with
  |zero=>intro vs k hl _;rw[a0 hl];exact .nil
  |succ m ih=>
   intro vs k hl hv;cases vs with
   |nil=>cases hl
   |cons v vs=>rw[range'_succ,G4];obtain⟨t,rfl⟩:=hv 0 v rfl;refine .cons ⟨t,by simp⟩ (ih vs (k+1) (by simpa using hl) λ j u hj=>?_);obtain⟨t,e⟩:=hv (j+1) u (by simpa using hj);refine⟨t,?_⟩;rw[e];congr 1;lia
 have:=go n zn.toList 0 (by simpa using hl) (λ j v hj=>by
  obtain⟨t,e⟩:=hv j v (by simpa using hj);refine⟨t,?_⟩;rw[e,J1,Int.mul_one])
 rw[<- range_eq_range']at this;exact this
theorem BA:c_ X (.type "range") (λ xs H Q=>∃j:Int,xs=[.int j]/\∀r,H r=none->Q (.ref r) (ci H r (.wz 0 j))):=by intro xz s σ H xs us Q I rr ⟨j,e,q⟩;subst e;obtain⟨u,rfl,t,rfl⟩:=vals1 rr;refine call_range_1 ⟨.ref s.heap.objs.size,_,I.laid (t':=s.toks+1+1) (o:=.wz 0 j) (λ b o e=>j3 _ e) (J7 _) ⟨_,_,_,m7 _ rfl⟩,rfl,q _ (I.bx.fresh (J7 _))⟩
theorem Bz:c_ X (.type "range") (λ xs H Q=>∃i j:Int,xs=[.int i,.int j]/\∀r,H r=none->Q (.ref r) (ci H r (.wz i j))):=by intro xz s σ H xs us Q I rr ⟨i,j,e,q⟩;subst e;obtain⟨u,u2,rfl,⟨t,rfl⟩,⟨t2,rfl⟩⟩:=vals2 rr;refine call_range_2 ⟨.ref s.heap.objs.size,_,I.laid (t':=s.toks+1) (o:=.wz i j) (λ b o e=>j3 _ e) (J7 _) ⟨_,_,_,m7 _ rfl⟩,rfl,q _ (I.bx.fresh (J7 _))⟩
end L2
namespace L3
open PySem.Spec PyProof.Rows L2
section
variable {a:Expr}{ta:e_}{p pos:Pos}
theorem vj(lo:Int)(n:Nat):aD K H (cG lo n) (kQ lo n):=by
 unfold cG kQ;generalize List.range n=l
 induction l with
 |nil=>exact ao.mpr rfl
 |cons x l ih=>exact ag.mpr ⟨_,_,rfl,ax.mpr rfl,ih⟩
end
end L3
namespace L2
open PySem.Spec PyProof.Rows L5
open PySem.AutoSeq1 (wpAny_loadPart')
section
variable {T1 T2:String}{S1 S2:Heap->ww->Array jp->Prop}
theorem fI{M:Model}{Q:Option Obj->kt->Prop}(h:Q (s.heap.get? a) s):wpAny M A (loadIfAlive a) Q E s:=λ Γ p hΓ=>by unfold loadIfAlive;simp only[Sem.wp_loadIfAlive];exact K2 h Γ p hΓ
abbrev iD(h:Heap)(z u v r:ww)(f1:Bool):Prop:=h.get? z=some {cls:=.type "zip",dict:=none,data:=.fields #[rawInt r,.bool f1,.bool false,.ref u,.ref v],slots:=#[]}
end
open PySem.Spec PyProof.Rows L5
open PySem.AutoSeq1 (wpAny_loadPart')
theorem vT:typeLookup (.type "zip") "__len__"=pure none:=by rw[typeLookup_type,builtinLookup_eq_fast];kernel_rfl
theorem tS:typeLookup (.type "zip") "__length_hint__"=pure none:=by rw[typeLookup_type,builtinLookup_eq_fast];kernel_rfl
open PySem.Spec PyProof.Rows L5
section
variable {e2:Expr}{p pos:Pos}
theorem tX:∀ps:List ww,ce (ps.map V.ref) (ps.map Value.ref)
 |[]=>.nil
 |p::ps=>.cons rfl (tX ps)
end
end L2
namespace L3
open PySem.Spec PyProof.Rows L2 L5
theorem wo{xs:List D}(hm:ca K H M)(e:cT M d=some xs)(hd:bn K H d v):∃(b:Bool) (l:ww) (xv:List V),v=.ref l/\Sq b K H l xv/\aD K H xs xv:=by
 obtain⟨p,xv,rfl,h1,h2⟩:=f_ e hd hm;cases h1 with
 |inl h1=>exact⟨false,p,xv,rfl,h1,h2⟩
 |inr h1=>exact⟨true,p,xv,rfl,h1,h2⟩
end L3
namespace L5
open L2
structure Sr where
 a:ww
 l:ww
 k:Bool
 xs:Array jp
def Sr.on (q:Sr)(h:Heap)(i:Nat):Prop:=match q.k with
 |true=>mf "tuple_iterator" h q.a q.l i/\Heap.IsTuple h q.l q.xs
 |false=>mf "list_iterator" h q.a q.l i/\Heap.IsList h q.l q.xs
theorem Sr.keep{q:Sr}{h:Heap}(x:q.on h i)(k1:∀o,h.get? q.a=some o->h'.get? q.a=some o)(k2:∀o,h.get? q.l=some o->h'.get? q.l=some o):q.on h' i:=by
 unfold Sr.on at x ⊢;split at x
 ·exact⟨x.1.keep k1,gc.keep x.2 k2⟩
 ·exact⟨x.1.keep k1,jW.keep x.2 k2⟩
structure Ap(qs:List Sr):Prop where
 nd:(qs.map (·.a)).Nodup
 la:∀q∈qs,∀r∈qs,q.l≠r.a
theorem Ap.tail{q:Sr}{qs:List Sr}(D:Ap (q::qs)):Ap qs:=⟨(nodup_cons.mp D.nd).2,λ a ha b hb=>D.la a (.tail _ ha) b (.tail _ hb)⟩
theorem Ap.ne{q r:Sr}{qs:List Sr}(D:Ap (q::qs))(h:r∈qs):r.a≠q.a:=λ e=>(nodup_cons.mp D.nd).1 (by show q.a∈_;rw[<- e];exact List.mem_map_of_mem (f:=λ x:Sr=>x.a) h)
abbrev rowAt(qs:List Sr)(i:Nat):List jp:=qs.map λ q=>q.xs.getD i .none
set_option tactic.hygienic true in
theorem Sr.item{q:Sr}(x:q.on s.heap i)(lt:i < q.xs.size)(n:q.l≠q.a) (k:∀h',q.on h' (i+1)->Heap.SameBut q.a s.heap h'->Q (q.xs.getD i .none) {s with heap:=h'}):wpAny (model prog w) A (Builtin.SmallTypes.nextOf (.ref q.a)) Q E s:=by
 have e:q.xs[i]?=some (q.xs.getD i .none):=by rw[c9 lt,Array.getD_eq_getD_getElem?,c9 lt];rfl
 unfold Sr.on at x;split at x
 ·rename_i hk;exact gc.item x.1 x.2 e λ h' a s'=>k h' (by unfold Sr.on;rw[hk];exact⟨a,gc.keep x.2 λ o e=>s'.extBut _ _ n e⟩) s'
 ·rename_i hk;exact jW.item x.1 x.2 e λ h' a s'=>k h' (by unfold Sr.on;rw[hk];exact⟨a,jW.keep x.2 λ o e=>s'.extBut _ _ n e⟩) s'
theorem Sr.stop{q:Sr}(hA:A.handled=none)(x:q.on s.heap i)(ge:q.xs.size<=i) (k:∀h' e,Heap.ExtBut q.a s.heap h'->(∃o,h'.get? e=some o/\o.cls=.type "StopIteration")->E (.ref e) {s with heap:=h'}):wpAny (model prog w) A (Builtin.SmallTypes.nextOf (.ref q.a)) Q E s:=by
 have e:q.xs[i]?=none:=j2 ge;unfold Sr.on at x;split at x
 ·exact gc.stop hA x.1 x.2 e k
 ·exact jW.stop hA x.1 x.2 e k
theorem vg{σ:Type}{b:jp->σ->Sem (ForInStep σ)}{mk:Array jp->σ}(hb:∀(a:ww) (zn:Array jp) (s:kt) (Q:ForInStep σ->kt->Prop),wpAny (model prog w) A (Builtin.SmallTypes.nextOf (.ref a)) (λ x s'=>Q (.yield (mk (zn.push x))) s') E s->wpAny (model prog w) A (b (.ref a) (mk zn)) Q E s):∀(qs:List Sr) (zn:Array jp) (s:kt) (Q:σ->kt->Prop),Ap qs->(∀q∈qs,q.on s.heap i)->(∀q∈qs,i < q.xs.size)->
   (∀h',(∀q∈qs,q.on h' (i+1))->h'.objs.size=s.heap.objs.size->(∀f o,(∀q∈qs,f≠q.a)->s.heap.get? f=some o->h'.get? f=some o)->Q (mk (zn++(rowAt qs i).toArray)) {s with heap:=h'})->
   wpAny (model prog w) A (forIn (qs.map λ q=>Value.ref q.a) (mk zn) b) Q E s
 |[],zn,s,Q,D,hq,lt,k=>by have:=k s.heap (λ q h=>nomatch h) rfl λ f o _ e=>e;simp only[rowAt,map_nil,Array.append_empty]at this;exact K2 this
 |q::qs,zn,s,Q,D,hq,lt,k=>by
  have nl:=D.la q (.head _) q (.head _);rw[G4,C7];refine K1 (hb _ _ _ _ (Sr.item (hq q (.head _)) (lt q (.head _)) nl λ h1 o1 s1=>?_));refine vg hb qs _ _ _ D.tail (λ r hr=>Sr.keep (hq r (.tail _ hr)) (λ o e=>s1.extBut _ _ (D.ne hr) e) λ o e=>s1.extBut _ _ (D.la r (.tail _ hr) q (.head _)) e) (λ r hr=>lt r (.tail _ hr)) λ h2 o2 z2 k2=>?_;have:=k h2 (λ r hr=>?_) (z2.trans s1.1) λ f o nf e=>k2 f o (λ r hr=>nf r (.tail _ hr)) (s1.extBut _ _ (nf q (.head _)) e)
  ·rw[show zn.push (q.xs.getD i Value.none)++(rowAt qs i).toArray=zn++(rowAt (q::qs) i).toArray by simp[rowAt]];exact this
  ·rcases G5.mp hr with e|hr
   ·subst e;exact Sr.keep o1 (λ o e=>k2 _ o (λ t ht=>(D.ne ht).symm) e) λ o e=>k2 _ o (λ t ht=>D.la r (.head _) t (.tail _ ht)) e
   ·exact o2 r hr
theorem oH{σ:Type}{b:jp->σ->Sem (ForInStep σ)}{mk:Array jp->σ}(hb:∀(a:ww) (zn:Array jp) (s:kt) (Q:ForInStep σ->kt->Prop),wpAny (model prog w) A (Builtin.SmallTypes.nextOf (.ref a)) (λ x s'=>Q (.yield (mk (zn.push x))) s') E s->wpAny (model prog w) A (b (.ref a) (mk zn)) Q E s)(hA:A.handled=none):∀(qs:List Sr) (zn:Array jp) (s:kt) (Q:σ->kt->Prop),Ap qs->(∀q∈qs,q.on s.heap i)->(∃q∈qs,q.xs.size<=i)->
   (∀h' e,(∀f o,(∀q∈qs,f≠q.a)->s.heap.get? f=some o->h'.get? f=some o)->(∃o,h'.get? e=some o/\o.cls=.type "StopIteration")->E (.ref e) {s with heap:=h'})->
   wpAny (model prog w) A (forIn (qs.map λ q=>Value.ref q.a) (mk zn) b) Q E s
 |[],zn,s,Q,D,hq,ge,k=>by obtain⟨q,h,_⟩:=ge;cases h
 |q::qs,zn,s,Q,D,hq,ge,k=>by
  have nl:=D.la q (.head _) q (.head _);rw[G4,C7];by_cases lt:i < q.xs.size
  ·refine K1 (hb _ _ _ _ (Sr.item (hq q (.head _)) lt nl λ h1 o1 s1=>?_));refine oH hb hA qs _ _ _ D.tail (λ r hr=>Sr.keep (hq r (.tail _ hr)) (λ o e=>s1.extBut _ _ (D.ne hr) e) λ o e=>s1.extBut _ _ (D.la r (.tail _ hr) q (.head _)) e) ?_ λ h2 e k2 oe=>?_
   ·obtain⟨r,hr,z⟩:=ge;rcases G5.mp hr with e|hr
    ·subst e;exact absurd lt (Nat.not_lt.mpr z)
    ·exact⟨r,hr,z⟩
   ·exact k h2 e (λ f o nf e=>k2 f o (λ r hr=>nf r (.tail _ hr)) (s1.extBut _ _ (nf q (.head _)) e)) oe
  ·refine K1 (hb _ _ _ _ (Sr.stop hA (hq q (.head _)) (y7 lt) λ h1 e s1 oe=>k h1 e (λ f o nf z=>s1 _ _ (nf q (.head _)) z) oe))
end L5
variable {qs:List L5.Sr}
namespace L5
open L2
abbrev gq(h:Heap)(T:ww)(vs:List jp):Prop:=h.get? T=some {cls:=.type "tuple",data:=.seq vs.toArray}
structure Zn(z u v:ww)(qs:List Sr):Prop where
 ap:Ap qs
 uz:u≠z
 vz:v≠z
 uv:u≠v
 s:∀q∈qs,q.a≠z/\q.a≠u/\q.a≠v/\q.l≠z/\q.l≠v
section
variable {z u v:ww}
theorem Zn.kz(D:Zn z u v qs){h:Heap}(s1:Heap.SameBut z h h')(hq:∀q∈qs,q.on h i):∀q∈qs,q.on h' i:=λ q h=>Sr.keep (hq q h) (λ o e=>s1.extBut _ _ (D.s q h).1 e) λ o e=>s1.extBut _ _ (D.s q h).2.2.2.1 e
theorem xV{σ:Type}{b:jp->σ->Sem (ForInStep σ)}{mk:Array jp->σ}{c:σ->Sem PySem.Fin}{r:ww}{Q:jp->kt->Prop}{s0:kt}(D:Zn z u v qs)(ck:qs.length<=100) (hb:∀(a:ww) (zn:Array jp) (s:kt) (Q:ForInStep σ->kt->Prop),wpAny (model prog w) A (Builtin.SmallTypes.nextOf (.ref a)) (λ x s'=>Q (.yield (mk (zn.push x))) s') E s->wpAny (model prog w) A (b (.ref a) (mk zn)) Q E s) (hc:∀zn,c (mk zn)=newTuple zn.toList >>= ret) (hz:iD s.heap z u v r true) (e0:Heap.SameBut z s0.heap s.heap) (e1:s={s0 with heap:=s.heap}) (hq:∀q∈qs,q.on s0.heap i) (lt:∀q∈qs,i < q.xs.size) (k:∀h',iD h' z u v r true->(∀q∈qs,q.on h' (i+1))->gq h' s0.heap.objs.size (rowAt qs i)->h'.objs.size=s0.heap.objs.size+1->
   (∀f o,f≠z->(∀q∈qs,f≠q.a)->s0.heap.get? f=some o->h'.get? f=some o)->Q (.ref s0.heap.objs.size) {s0 with heap:=h'}):
  wpAny (model prog w) A (forIn (qs.map λ q=>Value.ref q.a) (mk #[]) b >>= c) (λ fin s'=>∃v,fin=.done (.ret v)/\Q v s') E s:=by
 refine K1 (vg hb qs #[] s _ D.ap (D.kz e0 hq) lt λ h' o' z' k'=>?_);rw[hc];have z2:iD h' z u v r true:=k' _ _ (λ q h=>(D.s q h).1.symm) hz;have e:(#[]++(rowAt qs i).toArray).toList=rowAt qs i:=by simp
 rw[e];refine K1 (wpAny_newTuple ?_ (by show(rowAt qs i).length<=sizeLine;rw[C1];exact J0 ck (by decide)));refine K2 ⟨_,rfl,?_⟩;have ez:h'.objs.size=s0.heap.objs.size:=z'.trans e0.1;have up:∀f o,h'.get? f=some o->(h'.push {cls:=.type "tuple",data:=.seq (rowAt qs i).toArray}).get? f=some o:=λ f o e=>j3 _ e;have t4:gq (h'.push {cls:=.type "tuple",data:=.seq (rowAt qs i).toArray}) h'.objs.size (rowAt qs i):=m7 _ rfl;rw[ez]at t4;have:=k _ (up _ _ z2) (λ q h=>Sr.keep (o' q h) (λ o e=>up _ o e) λ o e=>up _ o e) t4 (by rw[D1,ez]) λ f o n1 n2 e=>up f o (k' f o n2 (e0.extBut _ _ n1 e));show Q (.ref h'.objs.size) {s with heap:=_};rw[ez,e1];exact this
theorem GC{r:ww}{f1:Bool}{o:Obj}{Q:jp->kt->Prop}(D:Zn z u v qs)(dP:qs≠[])(ck:qs.length<=100)(hz:iD s.heap z u v r f1)(hr:s.heap.get? r=some o)(hu:gq s.heap u (qs.map λ q=>.ref q.a))(hq:∀q∈qs,q.on s.heap i)(lt:∀q∈qs,i < q.xs.size) (k:∀h',iD h' z u v r true->(∀q∈qs,q.on h' (i+1))->gq h' s.heap.objs.size (rowAt qs i)->h'.objs.size=s.heap.objs.size+1->
   (∀f o,f≠z->(∀q∈qs,f≠q.a)->s.heap.get? f=some o->h'.get? f=some o)->Q (.ref s.heap.objs.size) {s with heap:=h'}):
  wpAny (model prog w) A (Builtin.«zip.__next__» ⟨[.ref z],[]⟩) (λ fin s'=>∃v,fin=.done (.ret v)/\Q v s') E s:=by
 refine K1 (m:=field (.ref z) 2) (K0 hz rfl (x:=.bool false) rfl ?_);refine K1 (m:=field (.ref z) 3) (K0 hz rfl (x:=.ref u) rfl ?_);refine K1 (C9 hu rfl ?_);have em:(qs.map λ q=>Value.ref q.a).toArray.isEmpty=false:=by cases qs with|nil=>exact absurd rfl dP|cons q qs=>rfl
 simp only[em];refine K1 (m:=Builtin.SmallTypes.ownedTupleIsFree (.ref z)) ?_;unfold Builtin.SmallTypes.ownedTupleIsFree;refine K1 (m:=field (.ref z) 0) (K0 hz rfl (x:=rawInt r) rfl ?_);show wpAny _ _ (loadIfAlive (r:Int).toNat >>= _) _ _ _;rw[w6];refine K1 (fI ?_);rw[hr];show wpAny _ _ (field (.ref z) 1 >>= _) _ _ _;refine K1 (m:=field (.ref z) 1) (K0 hz rfl (x:=.bool f1) rfl ?_);cases f1 with
 |false=>
  refine K1 (p5 hz (by simp) λ g1 z1 s1=>?_);refine K2 ?_;rw[L1 (by decide)];rw[List.forIn_toArray];refine xV (mk:=λ zn=>((none,zn):Option PySem.Fin×Array jp)) (s0:=s) (s:={s with heap:=g1}) (r:=r) D ck ?_ ?_ z1 s1 rfl hq lt k
  rotate_left
  ·intro zn;rfl
  intro a zn s Q h;exact K1 (D4 (K1 (K5 h (λ x s' h'=>K2 (K2 h')) λ _ _ e=>e)))
 |true=>
  refine K2 ?_;rw[L1 (by decide)];rw[List.forIn_toArray];refine xV (mk:=λ zn=>((none,zn):Option PySem.Fin×Array jp)) (s0:=s) (s:=s) (r:=r) D ck ?_ ?_ hz ⟨rfl,λ _ _=>rfl⟩ rfl hq lt k
  rotate_left
  ·intro zn;rfl
  intro a zn s Q h;exact K1 (D4 (K1 (K5 h (λ x s' h'=>K2 (K2 h')) λ _ _ e=>e)))
theorem tR{r:ww}{f1:Bool}{Q:PySem.Fin->kt->Prop}(hA:A.handled=none)(D:Zn z u v qs)(hz:iD s.heap z u v r f1)(hr:s.heap.get? r=some o)(hu:gq s.heap u (qs.map λ q=>.ref q.a))(hq:∀q∈qs,q.on s.heap i)(ge:∃q∈qs,q.xs.size<=i)
  (k:∀h' e,(∀f o,f≠z->(∀q∈qs,f≠q.a)->s.heap.get? f=some o->h'.get? f=some o)->(∃o,h'.get? e=some o/\o.cls=.type "StopIteration")->E (.ref e) {s with heap:=h'}):
  wpAny (model prog w) A (Builtin.«zip.__next__» ⟨[.ref z],[]⟩) Q E s:=by
 refine K1 (m:=field (.ref z) 2) (K0 hz rfl (x:=.bool false) rfl ?_);refine K1 (m:=field (.ref z) 3) (K0 hz rfl (x:=.ref u) rfl ?_);refine K1 (C9 hu rfl ?_);have em:(qs.map λ q=>Value.ref q.a).toArray.isEmpty=false:=by
  cases qs with
  |nil=>obtain⟨q,h,_⟩:=ge;cases h
  |cons q qs=>rfl
 simp only[em];refine K1 (m:=Builtin.SmallTypes.ownedTupleIsFree (.ref z)) ?_;unfold Builtin.SmallTypes.ownedTupleIsFree;refine K1 (m:=field (.ref z) 0) (K0 hz rfl (x:=rawInt r) rfl ?_);show wpAny _ _ (loadIfAlive (r:Int).toNat >>= _) _ _ _;rw[w6];refine K1 (fI ?_);rw[hr];show wpAny _ _ (field (.ref z) 1 >>= _) _ _ _;refine K1 (m:=field (.ref z) 1) (K0 hz rfl (x:=.bool f1) rfl ?_);cases f1 with
 |false=>refine K1 (p5 hz (by simp) λ g1 z1 s1=>?_);refine K2 ?_;rw[L1 (by decide)];rw[List.forIn_toArray];refine K1 (oH (mk:=λ zn=>((none,zn):Option PySem.Fin×Array jp)) ?_ hA qs #[] {s with heap:=g1} _ D.ap (D.kz s1 hq) ge λ h' e kp oe=>k h' e (λ f o n1 n2 e=>kp f o n2 (s1.extBut _ _ n1 e)) oe);intro a zn s Q h;exact K1 (D4 (K1 (K5 h (λ x s' h'=>K2 (K2 h')) λ _ _ e=>e)))
 |true=>refine K2 ?_;rw[L1 (by decide)];rw[List.forIn_toArray];refine K1 (oH (mk:=λ zn=>((none,zn):Option PySem.Fin×Array jp)) ?_ hA qs #[] s _ D.ap hq ge λ h' e kp oe=>k h' e (λ f o n1 n2 e=>kp f o n2 e) oe);intro a zn s Q h;exact K1 (D4 (K1 (K5 h (λ x s' h'=>K2 (K2 h')) λ _ _ e=>e)))
theorem yD{σ:Type}{b:jp×Nat->σ->Sem (ForInStep σ)}{st:σ}(hb:∀(a:ww) (j:Nat) (cs:List jp) (s:kt) (Q:ForInStep σ->kt->Prop),(∃o,s.heap.get? z=some o)->wpAny (model prog w) A (Builtin.SmallTypes.nextOf (.ref a)) (λ x s'=>∃cs:List jp,cs.length<=100/\gq s'.heap v cs/\∀h',gq h' v (cs.set j x)->Heap.SameBut v s'.heap h'->Q (.yield st) {s' with heap:=h'}) (λ _ _=>False) s->wpAny (model prog w) A (b (.ref a,j) st) Q E s):∀(rs:List Sr) (j:Nat) (cs:List jp) (s:kt) (Q:σ->kt->Prop),Ap rs->(∀q∈rs,q.a≠v/\q.l≠v/\q.a≠z)->gq s.heap v cs->cs.length<=100->j+rs.length<=cs.length->(∃o,s.heap.get? z=some o)->(∀q∈rs,q.on s.heap i)->(∀q∈rs,i < q.xs.size)->v≠z->
   (∀h',(∀q∈rs,q.on h' (i+1))->h'.objs.size=s.heap.objs.size->gq h' v (cs.take j++rowAt rs i++cs.drop (j+rs.length))->(∀f o,f≠v->(∀q∈rs,f≠q.a)->s.heap.get? f=some o->h'.get? f=some o)->Q st {s with heap:=h'})->
   wpAny (model prog w) A (forIn ((rs.map λ q=>Value.ref q.a).zipIdx j) st b) Q E s
 |[],j,cs,s,Q,D,ne,hv,ck,hj,hz,hq,lt,vz,k=>by have:=k s.heap (λ q h=>nomatch h) rfl (by simpa[rowAt]using hv) λ f o _ _ e=>e;exact K2 this
 |q::rs,j,cs,s,Q,D,ne,hv,ck,hj,hz,hq,lt,vz,k=>by
  have nl:=D.la q (.head _) q (.head _);obtain⟨n1,n2,n3⟩:=ne q (.head _);rw[G4,zipIdx_cons,C7];refine K1 (hb _ _ cs _ _ hz (Sr.item (hq q (.head _)) (lt q (.head _)) nl λ h1 o1 s1=>⟨cs,ck,s1.extBut _ _ n1.symm hv,λ h2 v2 s2=>?_⟩));have kp:∀f o,f≠v->f≠q.a->s.heap.get? f=some o->h2.get? f=some o:=λ f o m1 m2 e=>s2.extBut _ _ m1 (s1.extBut _ _ m2 e);obtain⟨oz,ez⟩:=hz;rw[y8]at hj;refine yD hb rs (j+1) (cs.set j (q.xs.getD i .none)) _ _ D.tail (λ r hr=>ne r (.tail _ hr)) v2 (by rw[length_set];exact ck) (by rw[length_set];lia) ⟨oz,kp _ _ vz.symm n3.symm ez⟩ (λ r hr=>Sr.keep (hq r (.tail _ hr)) (λ o e=>kp _ o (ne r (.tail _ hr)).1 (D.ne hr) e) λ o e=>kp _ o (ne r (.tail _ hr)).2.1 (D.la r (.tail _ hr) q (.head _)) e) (λ r hr=>lt r (.tail _ hr)) vz λ h3 o3 z3 v3 k3=>?_;refine k h3 (λ r hr=>?_) (z3.trans (s2.1.trans s1.1)) ?_ λ f o m1 m2 e=>k3 f o m1 (λ r hr=>m2 r (.tail _ hr)) (kp f o m1 (m2 q (.head _)) e)
  ·rcases G5.mp hr with e|hr
   ·subst e;exact Sr.keep o1 (λ o e=>k3 _ o n1 (λ t ht=>(D.ne ht).symm) (s2.extBut _ _ n1 e)) λ o e=>k3 _ o n2 (λ t ht=>D.la r (.head _) t (.tail _ ht)) (s2.extBut _ _ n2 e)
   ·exact o3 r hr
  ·have e:(cs.set j (q.xs.getD i .none)).take (j+1)++rowAt rs i++(cs.set j (q.xs.getD i .none)).drop (j+1+rs.length)=cs.take j++rowAt (q::rs) i++cs.drop (j+(rs.length+1)):=by
    have e1:(cs.set j (q.xs.getD i .none)).take (j+1)=cs.take j++[q.xs.getD i .none]:=by rw[take_add_one,take_set_of_le (J7 _),j5 (by lia)];rfl
    have e2:(cs.set j (q.xs.getD i .none)).drop (j+1+rs.length)=cs.drop (j+(rs.length+1)):=by rw[drop_set_of_lt (by lia),show j+1+rs.length=j+(rs.length+1) by lia]
    rw[e1,e2];simp[rowAt]
   rw[y8,<- e];exact v3
end
open L2 PyProof.Rows
section
variable {z u v:ww}
theorem BR{cs:List jp}{Q:jp->kt->Prop}(D:Zn z u v qs)(dP:qs≠[])(ck:qs.length<=100)(hz:IsZip s.heap z u v .none)(hu:gq s.heap u (qs.map λ q=>.ref q.a))(hv:gq s.heap v cs)(hl:cs.length=qs.length)(hq:∀q∈qs,q.on s.heap i)(lt:∀q∈qs,i < q.xs.size) (k:∀h',iD h' z u v s.heap.objs.size false->(∀q∈qs,q.on h' (i+1))->gq h' s.heap.objs.size (rowAt qs i)->h'.objs.size=s.heap.objs.size+1->
   (∀f o,f≠z->f≠v->(∀q∈qs,f≠q.a)->s.heap.get? f=some o->h'.get? f=some o)->Q (.ref s.heap.objs.size) {s with heap:=h'}):
  wpAny (model prog w) A (Builtin.«zip.__next__» ⟨[.ref z],[]⟩) (λ fin s'=>∃v,fin=.done (.ret v)/\Q v s') E s:=by
 refine K1 (m:=field (.ref z) 2) (K0 hz rfl (x:=.bool false) rfl ?_);refine K1 (m:=field (.ref z) 3) (K0 hz rfl (x:=.ref u) rfl ?_);refine K1 (C9 hu rfl ?_);have em:(qs.map λ q=>Value.ref q.a).toArray.isEmpty=false:=by cases qs with|nil=>exact absurd rfl dP|cons q qs=>rfl
 simp only[em];refine K1 (m:=Builtin.SmallTypes.ownedTupleIsFree (.ref z)) ?_;unfold Builtin.SmallTypes.ownedTupleIsFree;refine K1 (m:=field (.ref z) 0) (K0 hz rfl (x:=.none) rfl (K2 ?_));simp only[if_true];refine K1 (K3 (K1 (K0 hz rfl (x:=.ref v) rfl (K1 (p5 hz (by simp) λ g1 z1 s1=>?_)))));have z1:IsZip g1 z u v .ellipsis:=z1;refine K1 (yD (v:=v) (z:=z) (i:=i) ?_ qs 0 cs {s with heap:=g1} _ D.ap (λ q h=>⟨(D.s q h).2.2.1,(D.s q h).2.2.2.2,(D.s q h).1⟩) (s1.extBut _ _ D.vz hv) (by rw[hl];exact ck) (by rw[hl];lia) ⟨_,z1⟩ (D.kz s1 hq) lt D.vz λ g2 o2 e2 v2 k2=>?_)
 ·intro a j cs s2 Q2 U7 h;refine K1 (wpAny_onRaise (K1 (m:=Builtin.SmallTypes.nextOf (.ref a)) (K5 h (λ x s' h'=>K2 ?_) λ _ _ e=>e.elim)));obtain⟨cs',h0,h1,h2⟩:=h';refine K1 (C9 h1 rfl (K1 (C5 h1 rfl (K1 (wpAny_letGo (K2 (h2 _ ?_ (l6 ..))))) (by rw[y0];exact J0 h0 (by decide)) (by rw[Array.size_setIfInBounds,y0];exact J0 h0 (by decide)))));unfold gq;rw[j6 _ h1 rfl];simp[Obj.mapSeq]
 ·rw[take_zero,B1,drop_eq_nil_of_le (by rw[hl];lia),B0]at v2;refine K1 (C9 v2 rfl (K1 (wpAny_newTuple ?_ (by show(rowAt qs i).length<=sizeLine;rw[C1];exact J0 ck (by decide)))));have ez:g2.objs.size=s.heap.objs.size:=e2.trans s1.1;have z2:IsZip g2 z u v .ellipsis:=k2 _ _ D.vz.symm (λ q h=>(D.s q h).1.symm) z1;have WH:z < g2.objs.size:=G9 z2;refine K1 (m:=Builtin.SmallTypes.ownedTupleHandOut (.ref z) (.ref g2.objs.size)) ?_;unfold Builtin.SmallTypes.ownedTupleHandOut;have z6:IsZip (g2.push {cls:=.type "tuple",data:=.seq (rowAt qs i).toArray}) z u v .ellipsis:=j3 _ z2;refine K1 (p5 z6 (by simp) λ g7 z7 s7=>p5 (show IsZip g7 z u v (rawInt g2.objs.size)from z7) (by simp) λ g8 z8 s8=>?_);have z8:IsZip g8 z u v (rawInt g2.objs.size):=z8;have go:∀f o,f≠z->g2.get? f=some o->g8.get? f=some o:=λ f o n1 e=>s8.extBut _ _ n1 (s7.extBut _ _ n1 (j3 _ e));have t8:gq g8 g2.objs.size (rowAt qs i):=s8.extBut _ _ (J5 WH) (s7.extBut _ _ (J5 WH) (m7 _ rfl));have e8:g8.objs.size=g2.objs.size+1:=by rw[s8.1,s7.1,D1]
  rw[ez]at z8 t8 e8;refine K2 ⟨_,rfl,?_⟩;show Q (.ref g2.objs.size) _;rw[ez];exact k g8 z8 (λ q h=>Sr.keep (o2 q h) (λ o e=>go _ o (D.s q h).1 e) λ o e=>go _ o (D.s q h).2.2.2.1 e) t8 e8 λ f o n1 n2 n3 e=>go f o n1 (k2 f o n2 n3 (s1.extBut _ _ n1 e))
def qj(h:Heap)(z u v:ww)(qs:List Sr)(i N0:Nat):Prop:=gq h u (qs.map λ q=>.ref q.a)/\(∀q∈qs,q.on h i)/\
 ((i=0/\IsZip h z u v .none/\∃cs,gq h v cs/\cs.length=qs.length)\/∃(r:ww) (f1:Bool) (o:Obj),iD h z u v r f1/\h.get? r=some o/\N0<=r)
def vK(h:Heap)(qs:List Sr)(N0:Nat)(ps:List ww):Prop:=ps.Nodup/\∀(j:Nat) (p:ww),ps[j]?=some p->N0<=p/\gq h p (rowAt qs j)
theorem NX{N0:Nat}{Q:Option jp->kt->Prop}(D:Zn z u v qs)(dP:qs≠[])(ck:qs.length<=100)(hN:N0<=s.heap.objs.size)(hz:z < N0)(hv:v < N0)(xf:∀q∈qs,q.a < N0)(Z:qj s.heap z u v qs i N0)(lt:∀q∈qs,i < q.xs.size) (k:∀h',qj h' z u v qs (i+1) N0->gq h' s.heap.objs.size (rowAt qs i)->h'.objs.size=s.heap.objs.size+1->(∀f o,f≠z->f≠v->(∀q∈qs,f≠q.a)->s.heap.get? f=some o->h'.get? f=some o)->Q (some (.ref s.heap.objs.size)) {s with heap:=h'}):wpAny (model prog w) A (pyNext (.ref z)) Q E s:=by
 obtain⟨hu,hq,zz⟩:=Z;have ku:∀h':Heap,(∀f o,f≠z->f≠v->(∀q∈qs,f≠q.a)->s.heap.get? f=some o->h'.get? f=some o)->gq h' u (qs.map λ q=>.ref q.a):=λ h' kp=>kp _ _ D.uz D.uv (λ q h=>(D.s q h).2.1.symm) hu;have ty:s.TypeIs (.ref z) "zip":=by
  rcases zz with⟨_,q,_⟩|⟨r,f1,o,q,_⟩
  ·exact⟨_,q,rfl⟩
  ·exact⟨_,q,rfl⟩
 unfold pyNext;refine K1 (G0 (j0 (name:=Str.ofString "__next__") ty F.slot_zip_next (A0 F.slot_zip_next ty F.entry_zip_next ?_ (F.args_zip_next_1 _))));rcases zz with⟨rfl,q,cs,q2,q3⟩|⟨r,f1,o,q,q2,q3⟩
 ·exact BR D dP ck q hu q2 q3 hq lt λ h' a1 a2 a3 a4 a5=>K2 (k h' ⟨ku h' a5,a2,.inr ⟨s.heap.objs.size,false,_,a1,a3,hN⟩⟩ a3 a4 a5)
 ·refine GC D dP ck q q2 hu hq lt λ h' a1 a2 a3 a4 a5=>K2 (k h' ⟨ku h' λ f o n1 _ n3 e=>a5 f o n1 n3 e,a2,.inr ⟨r,true,o,a1,a5 _ _ (J5 (p7 hz q3)) (λ t ht=>J5 (p7 (xf t ht) q3)) q2,q3⟩⟩ a3 a4 λ f o n1 _ n3 e=>a5 f o n1 n3 e)
theorem N4{N0:Nat}{Q:Option jp->kt->Prop}(hA:A.handled=none)(D:Zn z u v qs)(Z:qj s.heap z u v qs i N0)(hi:i≠0)(ge:∃q∈qs,q.xs.size<=i) (k:∀h',(∀f o,f≠z->f≠v->(∀q∈qs,f≠q.a)->s.heap.get? f=some o->h'.get? f=some o)->Q none {s with heap:=h'}):wpAny (model prog w) A (pyNext (.ref z)) Q E s:=by
 obtain⟨hu,hq,zz⟩:=Z;rcases zz with⟨z0,_⟩|⟨r,f1,o,q,q2,q3⟩
 ·exact absurd z0 hi
 ·have ty:s.TypeIs (.ref z) "zip":=⟨_,q,rfl⟩;unfold pyNext;refine K1 (G0 (j0 (name:=Str.ofString "__next__") ty F.slot_zip_next (A0 F.slot_zip_next ty F.entry_zip_next ?_ (F.args_zip_next_1 _))));refine tR hA D q q2 hu hq ge λ h' e kp oe=>?_;obtain⟨ob,Y1,VH⟩:=oe;exact K1 (A6 (T:="StopIteration") (b:=true) ⟨ob,Y1,VH⟩ isSubtype_stop (K2 (k _ λ f o n1 _ n3 e=>kp f o n1 n3 e)))
theorem qj.keep{h:Heap}{S:ww}{N0:Nat}(x:qj h z u v qs i N0)(hS:S < N0)(n1:S≠z)(n2:S≠u)(n3:S≠v)(n4:∀q∈qs,S≠q.a/\S≠q.l)(k:∀f o,f≠S->h.get? f=some o->h'.get? f=some o):qj h' z u v qs i N0:=by
 obtain⟨a1,a2,a4⟩:=x;refine⟨k _ _ n2.symm a1,λ q hq=>Sr.keep (a2 q hq) (λ o e=>k _ o (n4 q hq).1.symm e) λ o e=>k _ o (n4 q hq).2.symm e,?_⟩;rcases a4 with⟨z0,q,cs,q2,q3⟩|⟨r,f1,o,q1,q2,q3⟩
 ·exact .inl ⟨z0,k _ _ n1.symm q,cs,k _ _ n3.symm q2,q3⟩
 ·exact .inr ⟨r,f1,o,k _ _ n1.symm q1,k _ _ (J5 (p7 hS q3)) q2,q3⟩
theorem R8{R:Result->kt->Prop}{S:ww}{N0:Nat}(hA:A.in1.handled=none)(D:Zn z u v qs)(dP:qs≠[])(ck:qs.length<=100)(hn:n<=10000)(zk:n≠0)(hsz:∀q∈qs,q.xs.size=n) (hz:z < N0) (hv:v < N0) (xf:∀q∈qs,q.a < N0) (hS:S < N0) (n1:S≠z) (n2:S≠u) (n3:S≠v) (n4:∀q∈qs,S≠q.a/\S≠q.l) (res:jp):∀(k i:Nat) (s:kt) (ps:List ww) (c:Nat),n - i=k->i<=n->ps.length=i->N0<=s.heap.objs.size->qj s.heap z u v qs i N0->
   s.heap.get? S=some {cls:=.type "list",dict:=none,data:=.seq (ps.map Value.ref).toArray c,slots:=#[]}->vK s.heap qs N0 ps->
   (∀(h':Heap) (Nd:List ww) (c':Nat),(∀f o,f≠z->f≠v->(∀q∈qs,f≠q.a)->f≠S->s.heap.get? f=some o->h'.get? f=some o)->h'.get? S=some {cls:=.type "list",dict:=none,data:=.seq (Nd.map Value.ref).toArray c',slots:=#[]}->Nd.length=n->vK h' qs N0 Nd->R (.ok (.ret res)) {s with heap:=h'})->
   codeAny (model prog w) A (.builtin "list.extend.loop" ⟨[.ref S,.ref z,res],[]⟩) R s:=by
 intro k
 induction k with
 |zero=>intro i s ps c hk hi hp hN Z VO pr hR;refine B9 F.entry_extend_loop ?_;rw[l0 m8 _];show wpAny _ A.in1 (pyNext (.ref z) >>= _) _ _ s;obtain⟨q0,h0⟩:=exists_mem_of_ne_nil _ dP;refine K1 (N4 hA D Z (by lia) ⟨q0,h0,by rw[hsz q0 h0];lia⟩ λ h' kp=>K2 ?_);refine hR h' ps c (λ f o m1 m2 m3 _ e=>kp f o m1 m2 m3 e) (kp _ _ n1 n3 (λ q h=>(n4 q h).1) VO) (by lia) ⟨pr.1,λ j p e=>?_⟩;obtain⟨vQ,e3⟩:=pr.2 j p e;exact⟨vQ,kp _ _ (J5 (p7 hz vQ)) (J5 (p7 hv vQ)) (λ q h=>J5 (p7 (xf q h) vQ)) e3⟩
 |succ k ih=>
  intro i s ps c hk hi hp hN Z VO pr hR;refine B9 F.entry_extend_loop ?_;rw[l0 m8 _];show wpAny _ A.in1 (pyNext (.ref z) >>= _) _ _ s;refine K1 (NX D dP ck hN hz hv xf Z (λ q h=>by rw[hsz q h];lia) λ h' Z' t1 sz kp=>?_);have Gx:=kp _ _ n1 n3 (λ q h=>(n4 q h).1) VO;show wpAny _ A.in1 (updateSeq S (·.push (.ref s.heap.objs.size)) >>= λ _=>again (.builtin "list.extend.loop" ⟨[.ref S,.ref z,res],[]⟩)) _ _ _;refine K1 ?_;have hlen:(ps.map Value.ref).toArray.size=i:=by rw[y0,C1,hp]
  have ot:∀f o,f≠S->h'.get? f=some o->(h'.update S (Obj.mapSeq (·.push (.ref s.heap.objs.size)))).get? f=some o:=λ f o ne e=>(j4 _ _ (K8 ne)).trans e;refine C5 Gx rfl (K2 ⟨G6 m8 _,ih (i+1) _ (ps++[s.heap.objs.size]) (c+1) (by lia) (by lia) (by rw[o6,hp];rfl) ?_ (Z'.keep hS n1 n2 n3 n4 ot) ?_ ?_ ?_⟩) (by rw[hlen];exact J0 (show i<=10000 by lia) (by decide)) (by rw[Array.size_push,hlen];exact J0 (show i+1<=10001 by lia) (by decide))
  ·show N0<=(h'.update S _).objs.size;rw[A5,sz];exact Nat.le_succ_of_le hN
  ·rw[j6 _ Gx rfl];simp[Obj.mapSeq]
  ·refine⟨nodup_append.mpr ⟨pr.1,by simp,λ q hq q' Vn ee=>?_⟩,?_⟩
   ·obtain⟨j,hj⟩:=mem_iff_getElem?.mp hq;have lt:=G9 (pr.2 j q hj).2;rw[ee,p8.mp Vn]at lt;exact G3 _ lt
   intro j p e;by_cases hj:j < ps.length
   ·rw[c8 hj]at e;obtain⟨vQ,e3⟩:=pr.2 j p e;exact⟨vQ,ot _ _ (J5 (p7 hS vQ)) (kp _ _ (J5 (p7 hz vQ)) (J5 (p7 hv vQ)) (λ q h=>J5 (p7 (xf q h) vQ)) e3)⟩
   ·rw[a9 (by lia)]at e;have YT:j - ps.length=0:=by have:=(i3.mp e).1;simp at this;lia
    rw[YT]at e;have ep:s.heap.objs.size=p:=by simpa using e
    have ej:j=i:=by lia
    subst ej;rw[<- ep];exact⟨hN,ot _ _ (J5 (p7 hS hN)) t1⟩
  ·intro h2 Nd c' Ye hs2 Gk QY;exact hR h2 Nd c' (λ f o m1 m2 m3 m5 e=>Ye f o m1 m2 m3 m5 (ot f o m5 (kp f o m1 m2 m3 e))) hs2 Gk QY
end
open L2 PyProof.Rows
theorem nh(a b c:jp):checkTypeCall "zip" ⟨[a,b,c],[]⟩=pure ():=by kernel_rfl
theorem pM(a b c:jp):checkBuiltinCall "zip.__new__" ⟨[.type "zip",a,b,c],[]⟩=pure ():=by kernel_rfl
theorem ju(a b c d:jp):argsOk "object.__init__" ⟨[a,b,c,d],[]⟩:=by unfold argsOk;rw[signature?_of (id:="object.__init__") (n:=['_','_','t','i','n','i','_','_']) (o:=['t','c','e','j','b','o']) (by kernel_rfl) F.owner_object];kernel_rfl
abbrev zh(b:Bool)(h:Heap)(l:ww):Heap:=h.push {cls:=.type (SU b),data:=.fields #[.ref l,.int 0 0]}
abbrev z3(b c d:Bool)(h:Heap)(l m n:ww):Heap:=zh d (zh c (zh b h l) m) n
abbrev z4(b c d:Bool)(h:Heap)(l m n:ww):Heap:=(z3 b c d h l m n).push {cls:=.type "tuple",data:=.seq #[.ref h.objs.size,.ref (zh b h l).objs.size,.ref (zh c (zh b h l) m).objs.size]}
abbrev z5(b c d:Bool)(h:Heap)(l m n:ww):Heap:=(z4 b c d h l m n).push {cls:=.type "tuple",data:=.seq #[.none,.none,.none]}
abbrev z6(b c d:Bool)(h:Heap)(l m n:ww):Heap:=(z5 b c d h l m n).push {cls:=.type "zip",data:=.fields #[.none,.bool false,.bool false,.ref (z3 b c d h l m n).objs.size,.ref (z4 b c d h l m n).objs.size]}
theorem vU(b c d:Bool)(l m n:ww)(xs ys zs:Array jp):Meets (Builtin.«zip.__new__» ⟨[.type "zip",.ref l,.ref m,.ref n],[]⟩) (λ _ R s=>gF b s.heap l xs/\gF c s.heap m ys/\gF d s.heap n zs/\R (.ok (.ret (.ref (z5 b c d s.heap l m n).objs.size))) {s with heap:=z6 b c d s.heap l m n}):=
 .of_wp λ prog w A R s h=>by
  obtain⟨hp,g,dr,tk,os⟩:=s;obtain⟨a1,a2,a3,h⟩:=h;have sz:=sub_zip;have b1:gF b (Shared.heap ⟨hp,g,dr,tk,os⟩) l xs:=a1;have b2:gF c (Shared.heap ⟨zh b hp l,g,dr,tk,os⟩) m ys:=(ig c).keep a2 λ o e=>j3 _ e;have b3:gF d (Shared.heap ⟨zh c (zh b hp l) m,g,dr,tk,os⟩) n zs:=(ig d).keep a3 λ o e=>j3 _ (j3 _ e)
  wp_walk using(ig b).start b1,(ig c).start b2,(ig d).start b3
  exact⟨_,rfl,h⟩
theorem Sr.new{h:Heap}{l:ww}{xs:Array jp}(h1:mf (SU b) h a l 0)(h2:gF b h l xs):Sr.on ⟨a,l,b,xs⟩ h 0:=by
 cases b
 ·exact⟨h1,h2⟩
 ·exact⟨h1,h2⟩
theorem rN{h:Heap}{l:ww}{xs:Array jp}(x:gF b h l xs):l < h.objs.size:=by
 cases b
 ·obtain⟨o,e,_⟩:=x;exact G9 e
 ·obtain⟨o,e,_⟩:=x;exact G9 e
theorem IZ{b c d:Bool}{l m n:ww}{xs ys zs:Array jp}{Q:jp->kt->Prop}(a1:gF b s.heap l xs)(a2:gF c s.heap m ys)(a3:gF d s.heap n zs) (k:∀(h':Heap) (qs:List Sr),qs=[⟨s.heap.objs.size,l,b,xs⟩,⟨s.heap.objs.size+1,m,c,ys⟩,⟨s.heap.objs.size+2,n,d,zs⟩]->Zn (s.heap.objs.size+5) (s.heap.objs.size+3) (s.heap.objs.size+4) qs->IsZip h' (s.heap.objs.size+5) (s.heap.objs.size+3) (s.heap.objs.size+4) .none->(∀N,qj h' (s.heap.objs.size+5) (s.heap.objs.size+3) (s.heap.objs.size+4) qs 0 N)->
   h'.objs.size=s.heap.objs.size+6->(∀f o,s.heap.get? f=some o->h'.get? f=some o)->Q (.ref (s.heap.objs.size+5)) {s with heap:=h'}):
  wpAny (model prog w) A (call (.type "zip") [.ref l,.ref m,.ref n]) Q E s:=by
 refine callType_new F.called_zip (by decide) (nh _ _ _) (pM _ _ _) (λ ob=>ju ob _ _ _) F.entry_zip_new (vU b c d l m n xs ys zs) ⟨a1,a2,a3,?_⟩;have e1:(zh b s.heap l).objs.size=s.heap.objs.size+1:=D1 ..;have e2:(zh c (zh b s.heap l) m).objs.size=s.heap.objs.size+2:=by rw[D1,e1]
 have e3:(z3 b c d s.heap l m n).objs.size=s.heap.objs.size+3:=by rw[D1,e2]
 have e4:(z4 b c d s.heap l m n).objs.size=s.heap.objs.size+4:=by rw[D1,e3]
 have e5:(z5 b c d s.heap l m n).objs.size=s.heap.objs.size+5:=by rw[D1,e4]
 have e6:(z6 b c d s.heap l m n).objs.size=s.heap.objs.size+6:=by rw[D1,e5]
 have u5:∀f o,(z5 b c d s.heap l m n).get? f=some o->(z6 b c d s.heap l m n).get? f=some o:=λ f o e=>j3 _ e;have u4:∀f o,(z4 b c d s.heap l m n).get? f=some o->(z6 b c d s.heap l m n).get? f=some o:=λ f o e=>u5 f o (j3 _ e);have u3:∀f o,(z3 b c d s.heap l m n).get? f=some o->(z6 b c d s.heap l m n).get? f=some o:=λ f o e=>u4 f o (j3 _ e);have u2:∀f o,(zh c (zh b s.heap l) m).get? f=some o->(z6 b c d s.heap l m n).get? f=some o:=λ f o e=>u3 f o (j3 _ e);have u1:∀f o,(zh b s.heap l).get? f=some o->(z6 b c d s.heap l m n).get? f=some o:=λ f o e=>u2 f o (j3 _ e);have u0:∀f o,s.heap.get? f=some o->(z6 b c d s.heap l m n).get? f=some o:=λ f o e=>u1 f o (j3 _ e);have g6:(z6 b c d s.heap l m n).get? (z5 b c d s.heap l m n).objs.size=some _:=m7 _ rfl;have g5:=u5 _ _ (m7 (z4 b c d s.heap l m n) rfl);have g4:=u4 _ _ (m7 (z3 b c d s.heap l m n) rfl);have g3:=u3 _ _ (m7 (zh c (zh b s.heap l) m) rfl);have g2:=u2 _ _ (m7 (zh b s.heap l) rfl);have g1:=u1 _ _ (m7 s.heap rfl);rw[e3,e4,e5]at g6;rw[e4]at g5;rw[e1,e2,e3]at g4;rw[e2]at g3;rw[e1]at g2;show _/\_;rw[e5];refine⟨⟨_,g6,rfl⟩,k _ _ rfl ?_ g6 (λ N=>⟨g4,?_,.inl ⟨rfl,g6,_,g5,rfl⟩⟩) e6 u0⟩
 ·have lo:∀{x:ww} (i:Nat),x < s.heap.objs.size->x≠s.heap.objs.size+i:=λ i h=>G8 (p7 h (A4 _ i));have ne:∀i j:Nat,i≠j->s.heap.objs.size+i≠s.heap.objs.size+j:=λ i j h e=>h (Nat.add_left_cancel e);have hl:=rN a1;have hm:=rN a2;have hn:=rN a3;refine⟨⟨?_,?_⟩,ne 3 5 (by decide),ne 4 5 (by decide),ne 3 4 (by decide),?_⟩
  ·refine nodup_cons.mpr ⟨?_,nodup_cons.mpr ⟨?_,by simp⟩⟩
   ·simp only[G4,map_nil,G5,not_mem_nil,or_false];exact λ z=>z.elim (ne 0 1 (by decide)) (ne 0 2 (by decide))
   ·simp only[G4,map_nil,G5,not_mem_nil,or_false];exact ne 1 2 (by decide)
  ·simp only[G5,not_mem_nil,or_false,forall_eq_or_imp,forall_eq];exact⟨⟨lo 0 hl,lo 1 hl,lo 2 hl⟩,⟨lo 0 hm,lo 1 hm,lo 2 hm⟩,lo 0 hn,lo 1 hn,lo 2 hn⟩
  ·simp only[G5,not_mem_nil,or_false,forall_eq_or_imp,forall_eq];exact⟨⟨ne 0 5 (by decide),ne 0 3 (by decide),ne 0 4 (by decide),lo 5 hl,lo 4 hl⟩,⟨ne 1 5 (by decide),ne 1 3 (by decide),ne 1 4 (by decide),lo 5 hm,lo 4 hm⟩,ne 2 5 (by decide),ne 2 3 (by decide),ne 2 4 (by decide),lo 5 hn,lo 4 hn⟩
 ·simp only[G5,not_mem_nil,or_false,forall_eq_or_imp,forall_eq];exact⟨Sr.new ⟨_,g1,rfl,rfl⟩ ((ig b).keep a1 λ o e=>u0 _ o e),Sr.new ⟨_,g2,rfl,rfl⟩ ((ig c).keep a2 λ o e=>u0 _ o e),Sr.new ⟨_,g3,rfl,rfl⟩ ((ig d).keep a3 λ o e=>u0 _ o e)⟩
open L2 PyProof.Rows
theorem qh{z u v:ww}(hA:A.handled=none)(D:Zn z u v qs)(dP:qs≠[])(ck:qs.length<=100)(hn:n<=10000)(zk:n≠0)(hsz:∀q∈qs,q.xs.size=n) (hz:z < s.heap.objs.size) (hu:u < s.heap.objs.size) (hv:v < s.heap.objs.size) (xf:∀q∈qs,q.a < s.heap.objs.size/\q.l < s.heap.objs.size) (hZ:IsZip s.heap z u v .none) (Z:∀N,qj s.heap z u v qs 0 N) (hQ:∀(h':Heap) (ps:List ww) (c:Nat),(∀f o,f≠z->f≠v->(∀q∈qs,f≠q.a)->s.heap.get? f=some o->h'.get? f=some o)->h'.get? s.heap.objs.size=some {cls:=.type "list",data:=.seq (ps.map Value.ref).toArray c}->ps.length=n->vK h' qs (s.heap.objs.size+1) ps->Q (.ref s.heap.objs.size) {s with heap:=h'}):wpAny (model prog w) A (call (.type "list") [.ref z]) Q E s:=by
 have Z:=Z (s.heap.objs.size+1);refine callType_codes (Q₁:=λ obj s₁=>obj=.ref s.heap.objs.size/\s₁={s with heap:=s.heap.push {cls:=.type "list",data:=.seq #[]}}) F.called_list (F.typeCall_list_1 _) F.entry_list_init
  (code_list_new _ ⟨rfl,rfl⟩) λ obj s₁ h₁=>?_
 obtain⟨rfl,rfl⟩:=h₁;have up:∀f o,s.heap.get? f=some o->(s.heap.push {cls:=.type "list",data:=.seq #[]}).get? f=some o:=λ f o e=>j3 _ e;have hS:(s.heap.push {cls:=.type "list",data:=.seq #[]}).get? s.heap.objs.size=some {cls:=.type "list",data:=.seq #[]}:=m7 _ rfl;have sz:(s.heap.push {cls:=.type "list",data:=.seq #[]}).objs.size=s.heap.objs.size+1:=D1 ..;have Z:qj (s.heap.push {cls:=.type "list",data:=.seq #[]}) z u v qs 0 (s.heap.objs.size+1):=Z.keep (Nat.lt_succ_self _) (J5 hz) (J5 hu) (J5 hv) (λ q h=>⟨J5 (xf q h).1,J5 (xf q h).2⟩) λ f o _ e=>up f o e;have hZ:=up _ _ hZ;refine⟨⟨_,hS,rfl⟩,F.args_list_init_2 _ _,?_⟩;have hQ:∀(h':Heap) (ps:List ww) (c:Nat),(∀f o,f≠z->f≠v->(∀q∈qs,f≠q.a)->f≠s.heap.objs.size->(s.heap.push {cls:=.type "list",data:=.seq #[]}).get? f=some o->h'.get? f=some o)->h'.get? s.heap.objs.size=some {cls:=.type "list",data:=.seq (ps.map Value.ref).toArray c}->ps.length=n->vK h' qs (s.heap.objs.size+1) ps->Q (.ref s.heap.objs.size) {s with heap:=h'}:=
  λ h' ps c kp a b d=>hQ h' ps c (λ f o n1 n2 n3 e=>kp f o n1 n2 n3 (G8 (G9 e)) (up f o e)) a b d
 generalize s.heap.push {cls:=.type "list",data:=.seq #[]}=g at*;generalize hN:s.heap.objs.size=N at*;show wpAny _ _ (do let old <- Builtin.List.listItems (.ref N);Builtin.List.listUpdate (.ref N) (λ _=>#[]);letGo old.toList.reverse;Builtin.List.listExtendWith (.ref N) (.ref z) .none) _ _ _;refine K1 ?_;unfold Builtin.List.listItems;refine K1 (C9 hS rfl (K2 ?_));show wpAny _ _ (updateSeq N (λ _=>#[]) >>= λ _=>letGo (#[]:Array jp).toList.reverse >>= λ _=>Builtin.List.listExtendWith (.ref N) (.ref z) .none) _ _ _;refine K1 (C5 hS rfl ?_);have Xd:=j6 (Obj.mapSeq (λ _=>(#[]:Array jp))) hS rfl;have o2:∀b o,b≠N->g.get? b=some o->(g.update N (Obj.mapSeq (λ _=>(#[]:Array jp)))).get? b=some o:=λ b o hb e=>(j4 _ _ (K8 hb)).trans e;have s2:(g.update N (Obj.mapSeq (λ _=>(#[]:Array jp)))).objs.size=N+1:=by rw[A5,sz]
 refine K1 (wpAny_letGo ?_);have nz:N≠z:=J5 hz;have Z2:=Z.keep (Nat.lt_succ_self _) nz (J5 hu) (J5 hv) (λ q h=>⟨J5 (xf q h).1,J5 (xf q h).2⟩) o2;have TC:=o2 _ _ nz.symm hZ;have hQ:∀(h':Heap) (ps:List ww) (c:Nat),(∀f o,f≠z->f≠v->(∀q∈qs,f≠q.a)->f≠N->(g.update N (Obj.mapSeq (λ _=>(#[]:Array jp)))).get? f=some o->h'.get? f=some o)->h'.get? N=some {cls:=.type "list",data:=.seq (ps.map Value.ref).toArray c}->ps.length=n->vK h' qs (N+1) ps->Q (.ref N) {s with heap:=h'}:=
  λ h' ps c kp a b d=>hQ h' ps c (λ f o n1 n2 n3 n4 e=>kp f o n1 n2 n3 n4 (o2 f o n4 e)) a b d
 generalize g.update N (Obj.mapSeq (λ _=>(#[]:Array jp)))=g2 at*;have hT:Shared.TypeIs {s with heap:=g2} (.ref z) "zip":=⟨_,TC,rfl⟩;unfold Builtin.List.listExtendWith;refine K1 (wpAny_typeOf hT ?_);have h1:Builtin.List.listSameRef (.ref N) (.ref z)=false:=by simp[Builtin.List.listSameRef,nz]
 have h2:(Value.type "zip"==Value.type "list")=false:=by decide
 have h3:(Value.type "zip"==Value.type "tuple")=false:=by decide
 simp only[h1,h2,h3,Bool.or_false,o7,K6];refine K1 (wpAny_pyIter_zip TC ?_);refine K1 (D4 ?_);unfold Builtin.List.listLengthHint;refine K1 (C6 hT vT ?_);show wpAny _ _ (specialOf (Value.ref z) (Str.ofString "__length_hint__") >>= _) _ _ _;refine K1 (C6 hT tS ?_);refine K2 ?_;show wpAny _ _ (rule "list.extend.makes-room" >>= λ _=>Builtin.List.listTouch (.ref N) >>= λ _=>again (.builtin "list.extend.loop" ⟨[.ref N,.ref z,.none],[]⟩)) _ _ _;refine K1 (K3 ?_);refine K1 ?_;show wpAny _ _ (updateSeq N (·.push .none) >>= λ _=>updateSeq N (·.pop)) _ _ _;refine K1 (C5 Xd rfl ?_ (by size_fits) (by simp[Obj.mapSeq]));have Xc:=j6 (Obj.mapSeq (·.push Value.none)) Xd rfl;refine C5 (hz:=by seq_fits) Xc rfl ?_;have Za:=j6 (Obj.mapSeq (·.pop)) Xc rfl;have o4:∀b o,b≠N->g2.get? b=some o->((g2.update N (Obj.mapSeq (·.push Value.none))).update N (Obj.mapSeq (·.pop))).get? b=some o:=
  λ b o hb e=>(j4 _ _ (K8 hb)).trans ((j4 _ _ (K8 hb)).trans e)
 have Z4:=Z2.keep (Nat.lt_succ_self _) nz (J5 hu) (J5 hv) (λ q h=>⟨J5 (xf q h).1,J5 (xf q h).2⟩) o4;refine K2 ⟨G6 m8 _,?_⟩;have lt:∀{x:Nat},x < N->x < N+1:=λ h=>y4 h;refine R8 (prog:=prog) (w:=w) (A:=A.in1) (R:=wants (λ r s₂=>r=Value.none/\Q (Value.ref N) s₂) E) (S:=N) (N0:=N+1) hA D dP ck hn zk hsz (lt hz) (lt hv) (λ q h=>lt (xf q h).1) (Nat.lt_succ_self _) nz (J5 hu) (J5 hv) (λ q h=>⟨J5 (xf q h).1,J5 (xf q h).2⟩) _ _ 0 {s with heap:=(g2.update N (Obj.mapSeq (·.push Value.none))).update N (Obj.mapSeq (·.pop))} [] _ rfl (J9 _) rfl ?_ Z4 Za ⟨.nil,λ j p e=>by simp at e⟩ λ h' Nd c' kp jD lK XX=>⟨rfl,?_⟩
 ·show N+1<=_;rw[A5,A5,s2];exact J7 _
 ·exact hQ h' Nd c' (λ f o n1 n2 n3 n4 e=>kp f o n1 n2 n3 n4 (o4 f o n4 e)) jD lK XX
end L5
namespace L2
open PySem.Spec PyProof.Rows L5
def mR{α:Type}:List α->List α->List α->List (List α)
 |x::xs,y::ys,z::zs=>[x,y,z]::mR xs ys zs
 |_,_,_=>[]
theorem xW:∀{xs ys zs:List α} {j:Nat} {r:List α},(mR xs ys zs)[j]?=some r->∃x y z,xs[j]?=some x/\ys[j]?=some y/\zs[j]?=some z/\r=[x,y,z]
 |x::xs,y::ys,z::zs,0,r,e=>⟨x,y,z,rfl,rfl,rfl,(B6 e).symm⟩
 |x::xs,y::ys,z::zs,j+1,r,e=>xW (xs:=xs) (ys:=ys) (zs:=zs) (j:=j) e
 |[],_,_,j,r,e=>by simp[mR]at e
 |_::_,[],_,j,r,e=>by simp[mR]at e
 |_::_,_::_,[],j,r,e=>by simp[mR]at e
theorem BS:∀{xs ys zs:List α},xs.length=n->ys.length=n->zs.length=n->(mR xs ys zs).length=n:=by
 induction n with
 |zero=>intro xs ys zs h1 h2 h3;rw[a0 h1];rfl
 |succ n ih=>
  intro xs ys zs h1 h2 h3;cases xs with
  |nil=>cases h1
  |cons x xs=>cases ys with
   |nil=>cases h2
   |cons y ys=>cases zs with
    |nil=>cases h3
    |cons z zs=>exact K7 (·+1) (ih (Nat.succ.inj h1) (Nat.succ.inj h2) (Nat.succ.inj h3))
inductive Lr:Hp->List (List V)->List ww->Hp->Prop
 |nil {H:_}:Lr H [] [] H
 |cons {H r rs p ps H':_}:H p=none->Lr (ci H p (.tup r)) rs ps H'->Lr H (r::rs) (p::ps) H'
section
variable {s':kt}
theorem nk(I0:be X xz σ H s):∀(ps:List ww) (rs:List (List V)) (H1:Hp),be X xz σ H1 {s with heap:=h'}->ps.length=rs.length->ps.Nodup->(∀p∈ps,s.heap.objs.size<=p/\H1 p=none)-> (∀(j:Nat) (p:ww) (r:List V),ps[j]?=some p->rs[j]?=some r->r.length<=sizeLine/\∃us,ce r us/\gq h' p us)->∃H2,Lr H1 rs ps H2/\be X xz σ H2 {s with heap:=h'}/\∀b,b∉ps->H2 b=H1 b
 |[],rs,H1,I,hl,_,_,_=>by
  cases rs with
  |nil=>exact⟨H1,.nil,I,λ b _=>rfl⟩
  |cons r rs=>cases hl
 |p::ps,rs,H1,I,hl,nd,hf,pr=>by
  cases rs with
  |nil=>cases hl
  |cons r rs=>
   obtain⟨f1,us,q1,t⟩:=pr 0 p r rfl rfl;obtain⟨vQ,lZ⟩:=hf p n6;have fo:=I0.jf (H':=H1) vQ lZ;have I1:be X xz σ (ci H1 p (.tup r)) {s with heap:=h'}:=be.nu I lZ ⟨f1,us,q1,⟨_,t,rfl,_,rfl⟩⟩ fo.2.1 (J0 I0.sz vQ) fo.2.2.2.2.1 fo.2.2.2.2.2;have Th:=nodup_cons.mp nd;obtain⟨H2,z1,z2,z3⟩:=nk I0 ps rs (ci H1 p (.tup r)) I1 (by simpa using hl) Th.2 (λ p' RE=>by
    obtain⟨a1,a2⟩:=hf p' (k7 _ RE);exact⟨a1,by rw[aN (λ e:p'=p=>Th.1 (by rw[<- e];exact RE))];exact a2⟩) λ j p' r' e e'=>pr (j+1) p' r' (by simpa using e) (by simpa using e')
   refine⟨H2,.cons lZ z1,z2,λ b hb=>?_⟩;rw[z3 b λ z=>hb (k7 _ z),aN (λ e:b=p=>hb (by rw[e];exact n6))]
end
section
variable {e2 e3:Expr}{p pos:Pos}
theorem vals3{x z:V}(r:ce [x,y,z] us):∃a b c,us=[a,b,c]/\bv x a/\bv y b/\bv z c:=by
 cases r with
 |cons a r=>cases r with
  |cons b r=>cases r with
   |cons c r=>cases r with
    |nil=>exact⟨_,_,_,rfl,a,b,c⟩
def XE(K:L6)(ta:TA):TE:=λ σ H Q=>ta σ H λ vs H1=>∃(b c d:Bool) (l m n:ww) (xs ys zs:List V) (k:Nat),vs=[.ref l,.ref m,.ref n]/\Sq b K H1 l xs/\Sq c K H1 m ys/\Sq d K H1 n zs/\xs.length=k/\ys.length=k/\zs.length=k/\k≠0/\k<=10000/\
 ∀(ps:List ww) (H2:Hp) (r:ww),Lr H1 (mR xs ys zs) ps H2->H2 r=none->Q (.ref r) (ci H2 r (.lst (ps.map V.ref)))
theorem Iu(hc:X.calm=true)(hg:Gl X "list")(hm:X.mg "list"=none)(EX:Gl X "zip")(EU:X.mg "zip"=none)(ha:PA X [e1,e2,e3] ta) (hs:starEach [e1,e2,e3] X.env=[(false,eval e1 X.env),(false,eval e2 X.env),(false,eval e3 X.env)]:=by rfl) (hs2:starEach [e2,e3] X.env=[(false,eval e2 X.env),(false,eval e3 X.env)]:=by rfl) (he:starEach [.Call (.Name "zip" p2) [e1,e2,e3] [] bY] X.env=(false,eval (.Call (.Name "zip" p2) [e1,e2,e3] [] bY) X.env)::starEach [] X.env:=by rfl):PE X (.Call (.Name "list" p) [.Call (.Name "zip" p2) [e1,e2,e3] [] bY] [] pos) (XE X.K ta):=by
 intro xz s σ H Q I h;refine p9 (fA I hg hm (show bootBuiltins "list"=some (.type "list") by decide+kernel) ?_);refine a7 ?_ he rfl;rw[he];show wpAny _ _ (spliced ((false,eval (.Call (.Name "zip" p2) [e1,e2,e3] [] bY) X.env)::backTo pos (starEach [] X.env))) _ _ s;refine Calls.spliced_cons ?_;refine Call_ (fA I EX EU boot_zip (a7 (dG (ha bY xz s σ H _ I h) λ us s1 ⟨vs,H1,I1,r1,q1⟩=>?_) (by rw[hs,hs2]) (by rw[hs2];rfl)));obtain⟨b,c,d,l,m,n,xs,ys,zs,k,ev,hl,fT,hn,lx,ly,lz,k0,ck,q⟩:=q1;subst ev;obtain⟨u1,u2,u3,rfl,r,r',Uy⟩:=vals3 r1;cases(show u1=Value.ref l from r);cases(show u2=Value.ref m from r');cases(show u3=Value.ref n from Uy);obtain⟨PB,v1,p1⟩:=gY I1 hl;obtain⟨U5,v2,Wx⟩:=gY I1 fT;obtain⟨Yh,v3,p3⟩:=gY I1 hn;refine IZ p1 Wx p3 λ g qs eq D Yl Z g6 g7=>?_;refine Calls.spliced_nil ?_;have XJ:PB.length=k:=v1.length.symm.trans lx;have XI:U5.length=k:=v2.length.symm.trans ly;have XH:Yh.length=k:=v3.length.symm.trans lz;have lt:∀{b:Bool} {l:ww} {xs:Array jp},gF b s1.heap l xs->l < g.objs.size:=λ x=>by rw[g6];exact p7 (rN x) (A4 _ _)
 have BN:∀j:Nat,j < 6->s1.heap.objs.size+j < g.objs.size:=λ j h=>by rw[g6];exact Nat.add_lt_add_left h _
 have ok:=qh (prog:=X.prog) (w:=X.w) (A:=X.A) (E:=X.xe) (s:={s1 with heap:=g}) (Q:=EP X xz σ Q) (n:=k) (I1.ok.hd hc) D (by rw[eq];simp) (by rw[eq];show 3<=100;decide) ck k0;refine ok ?_ (BN 5 (by decide)) (BN 3 (by decide)) (BN 4 (by decide)) ?_ Yl Z ?_
 ·rw[eq];simp only[G5,not_mem_nil,or_false,forall_eq_or_imp,forall_eq,y0];exact⟨XJ,XI,XH⟩
 ·rw[eq];simp only[G5,not_mem_nil,or_false,forall_eq_or_imp,forall_eq];exact⟨⟨BN 0 (by decide),lt p1⟩,⟨BN 1 (by decide),lt Wx⟩,BN 2 (by decide),lt p3⟩
 ·intro h' ps c' kp hS lK pr;have Vx:∀b o,s1.heap.get? b=some o->h'.get? b=some o:=λ b o e=>by have lt:∀k,b≠s1.heap.objs.size+k:=λ k=>G8 (p7 (G9 e) (A4 _ k));refine kp b o (lt 5) (lt 4) ?_ (g7 b o e);rw[eq];simp only[G5,not_mem_nil,or_false,forall_eq_or_imp,forall_eq];exact⟨lt 0,lt 1,lt 2⟩
  have I3:be X xz σ H1 {s1 with heap:=h'}:=I1.kept (t':=s1.toks) Vx;have ge:∀j p,ps[j]?=some p->s1.heap.objs.size<=p:=λ j p hj=>J0 (by show s1.heap.objs.size<=g.objs.size+1;rw[g6];exact A4 _ 7) (pr.2 j p hj).1;obtain⟨H2,z1,I4,z3⟩:=nk (s:=s1) (h':=h') I1 ps (mR xs ys zs) H1 I3 (by rw[lK,BS lx ly lz]) pr.1 (λ p hp=>by
    obtain⟨j,hj⟩:=mem_iff_getElem?.mp hp;exact⟨ge j p hj,I1.bx.fresh (ge j p hj)⟩) λ j p r hj hr=>by
     obtain⟨x,y,z,ex,ey,ez,rfl⟩:=xW hr;obtain⟨a,ea,ra⟩:=v1.get ex;obtain⟨b,eb,rb⟩:=v2.get ey;obtain⟨c,ec,rc⟩:=v3.get ez;refine⟨by show 3<=sizeLine;decide,[a,b,c],.cons ra (.cons rb (.cons rc .nil)),?_⟩;have t:=(pr.2 j p hj).2;rw[eq]at t;have gd:∀{is:List jp} {u:jp},is[j]?=some u->is.toArray.getD j .none=u:=λ e=>by simp[Array.getD_eq_getD_getElem?,e]
     simp only[rowAt,G4,map_nil,gd ea,gd eb,gd ec]at t;exact t
  have nS:∀p∈ps,p≠g.objs.size:=λ p hp e=>by obtain⟨j,hj⟩:=mem_iff_getElem?.mp hp;have:=(pr.2 j p hj).1;rw[e]at this;exact absurd this (Nat.not_succ_le_self _)
  have fr:s1.heap.objs.size<=g.objs.size:=by rw[g6];exact A4 _ 6
  have RJ:H2 g.objs.size=none:=(z3 _ λ h=>nS _ h rfl).trans (I1.bx.fresh fr);have fo:=I1.jf (H':=H2) fr RJ;have I5:be X xz σ (ci H2 g.objs.size (.lst (ps.map V.ref))) {s1 with heap:=h'}:=be.nu I4 RJ ⟨by rw[C1,lK];exact J0 ck (by decide),ps.map Value.ref,c',tX ps,hS⟩ fo.2.1 (J0 I1.sz fr) fo.2.2.2.2.1 fo.2.2.2.2.2;exact⟨.ref g.objs.size,_,I5,rfl,q ps H2 _ z1 RJ⟩
end
open PySem.Spec PyProof.Rows
theorem BC(hc:X.calm=true):c_ X (.type "list") (λ xs H Q=>∃r lo hi,xs=[.ref r]/\H r=some (.wz lo hi)/\(-100000000<=lo/\lo<=100000000)/\(-100000000<=hi/\hi<=100000000)/\(hi - lo).toNat<=10000/\∀p,H p=none->Q (.ref p) (ci H p (.lst (kQ lo (hi - lo).toNat)))):=by
 intro xz s σ H xs us Q I rr ⟨r,lo,hi,e,hr,h1,h2,hn,q⟩;subst e;obtain⟨u,rfl,rx⟩:=vals1 rr;cases rx;obtain⟨t,u,v,ho⟩:=I.bx r _ hr;have es:Builtin.Range.rangeSize lo hi 1=(((hi - lo).toNat:Nat):Int):=by rw[rangeSize_one];split <;> lia
 refine call_list_range (a:=lo) (b:=hi) (c:=1) (t:=t) (u:=u) (v:=v) (n:=(hi - lo).toNat) (I.ok.hd hc) ho (small_one (by lia) (by lia) (by lia) (by lia)) es (by lia) λ h' tk zn c' kp hS fG=>?_;have hf:=I.bx.fresh (J7 s.heap.objs.size);have fo:=I.jf (H':=H) (J7 s.heap.objs.size) hf;have I2:be X xz σ (ci H s.heap.objs.size (.lst (kQ lo (hi - lo).toNat))) {s with heap:=h',toks:=tk}:=
  be.nu (I.kept (t':=tk) kp) hf ⟨by unfold kQ;rw[C1,x8];exact J0 hn (by decide),zn.toList,c',qN fG,by rw[show zn.toList.toArray=zn by simp];exact hS⟩ fo.2.1 I.sz fo.2.2.2.2.1 fo.2.2.2.2.2
 exact⟨.ref s.heap.objs.size,_,I2,rfl,q _ hf⟩
end L2
namespace L3
open PySem.Spec PyProof.Rows L2 L5
def tT(xs ys zs:List D):List D:=(mR xs ys zs).map D.tup
theorem uA{rs:List (List V)}{ps:List ww}(h:Lr H rs ps H'):ar H H':=by
 induction h with
 |nil=>exact ar.refl _
 |cons hn _ ih=>exact(ar.laid hn).trans ih
theorem Ij{rs:List (List V)}{ps:List ww}(h:Lr H rs ps H')(r:ca K H M):ca K H' M:=by
 induction h with
 |nil=>exact r
 |cons hn _ ih=>exact ih (r.laid hn)
theorem uB:∀{rd:List (List D)} {rs:List (List V)} {ps:List ww} {H H2:Hp},Lr H rs ps H2->Paired (λ r v=>aD K H r v) rd rs->aD K H2 (rd.map D.tup) (ps.map V.ref)
 |_,_,_,_,_,.nil,.nil=>ao.mpr rfl
 |_,_,_,H,H2,.cons (r:=v) (p:=p) hn z,.cons (a:=r) a t=>by have t1:ar H (ci H p (.tup v)):=ar.laid hn;have t2:=uA z;exact ag.mpr ⟨.ref p,_,rfl,aZ.mpr ⟨p,v,rfl,.inl (.inl (t2.tup _ _ aR)),aD.mono (t1.trans t2) _ a⟩,uB z (Paired.wQ t λ r v h=>aD.mono t1 r h)⟩
theorem qq:∀{xs ys zs:List D} {xv yv zv:List V},aD K H xs xv->aD K H ys yv->aD K H zs zv->Paired (λ r v=>aD K H r v) (mR xs ys zs) (mR xv yv zv)
 |[],ys,zs,xv,yv,zv,h1,h2,h3=>by cases(ao.mp h1);exact .nil
 |x::xs,[],zs,xv,yv,zv,h1,h2,h3=>by obtain⟨a,r,rfl,_,_⟩:=ag.mp h1;cases(ao.mp h2);exact .nil
 |x::xs,y::ys,[],xv,yv,zv,h1,h2,h3=>by obtain⟨a,r,rfl,_,_⟩:=ag.mp h1;obtain⟨b,q,rfl,_,_⟩:=ag.mp h2;cases(ao.mp h3);exact .nil
 |x::xs,y::ys,z::zs,xv,yv,zv,h1,h2,h3=>by obtain⟨a,r,rfl,ha,hr⟩:=ag.mp h1;obtain⟨b,q,rfl,hb,hq⟩:=ag.mp h2;obtain⟨c,t,rfl,hc,ht⟩:=ag.mp h3;exact .cons (ag.mpr ⟨a,_,rfl,ha,ag.mpr ⟨b,_,rfl,hb,aD.one hc⟩⟩) (qq hr hq ht)
section
variable {e2 e3:Expr}{ta:e_}{p pos:Pos}
def CP(ta:e_):cS:=λ δ M Q=>ta δ M λ ds M1=>∃(d1 d2 d3:D) (xs ys zs:List D) (n:Nat),ds=[d1,d2,d3]/\cT M1 d1=some xs/\cT M1 d2=some ys/\cT M1 d3=some zs/\xs.length=n/\ys.length=n/\zs.length=n/\n≠0/\n<=10000/\∀p,M1 p=none->Q (.ref p) (ai M1 p (.lst (tT xs ys zs)))
theorem MR(hc:X.calm=true)(hg:Gl X "list")(hm:X.mg "list"=none)(EX:Gl X "zip")(EU:X.mg "zip"=none)(ha:QA X [e1,e2,e3] ta) (hs:starEach [e1,e2,e3] X.env=[(false,eval e1 X.env),(false,eval e2 X.env),(false,eval e3 X.env)]:=by rfl) (hs2:starEach [e2,e3] X.env=[(false,eval e2 X.env),(false,eval e3 X.env)]:=by rfl) (he:starEach [.Call (.Name "zip" p2) [e1,e2,e3] [] bY] X.env=(false,eval (.Call (.Name "zip" p2) [e1,e2,e3] [] bY) X.env)::starEach [] X.env:=by rfl):QE X (.Call (.Name "list" p) [.Call (.Name "zip" p2) [e1,e2,e3] [] bY] [] pos) (CP ta):=by refine bZ (Iu hc hg hm EX EU ha hs hs2 he) ?_;rintro σ H Q ⟨δ,M,Q2,hs,hm,q,k⟩;refine⟨δ,M,_,hs,hm,q,λ vs H1 ds M1 hd cv t1 ⟨d1,d2,d3,xs,ys,zs,n,e,s1,s2,s3,l1,l2,l3,n0,ck,q1⟩=>?_⟩;subst e;obtain⟨v1,r,rfl,Ve,hr⟩:=ag.mp hd;obtain⟨v2,r2,rfl,PC,pQ⟩:=ag.mp hr;obtain⟨v3,r3,rfl,Yv,Vk⟩:=ag.mp pQ;cases(ao.mp Vk);obtain⟨b1,l,xv,rfl,q3,dx⟩:=wo cv s1 Ve;obtain⟨b2,m,yv,rfl,q4,dy⟩:=wo cv s2 PC;obtain⟨b3,n',zv,rfl,q5,dz⟩:=wo cv s3 Yv;refine⟨b1,b2,b3,l,m,n',xv,yv,zv,n,rfl,q3,q4,q5,by rw[dx.length,l1],by rw[dy.length,l2],by rw[dz.length,l3],n0,ck,λ ps H2 r z hn=>?_⟩;have t2:=uA z;have t3:ar H2 (ci H2 r (.lst (ps.map V.ref))):=ar.laid hn;have m2:=Ij z cv;exact k _ _ _ _ (aE.mpr rfl) (m2.put (u:=.lst (tT xs ys zs)) t3 ⟨_,aR,aD.mono t3 _ (uB z (qq dx dy dz))⟩) (t1.trans (t2.trans t3)) (q1 r (m2.free hn))
def CQ(ta:e_):cS:=λ δ M Q=>ta δ M λ ds M1=>∃i j:Int,ds=[.int i,.int j]/\(-10000<=i/\i<=10000)/\(-10000<=j/\j<=10000)/\(j - i).toNat<=10000/\∀p,M1 p=none->Q (.ref p) (ai M1 p (.lst (cG i (j - i).toNat)))
theorem MS(hc:X.calm=true)(hg:Gl X "list")(hm:X.mg "list"=none)(OG:Gl X "range")(OD:X.mg "range"=none)(ha:QA X [e1,e2] ta)(hs:starEach [e1,e2] X.env=[(false,eval e1 X.env),(false,eval e2 X.env)]:=by rfl)(hs2:starEach [e2] X.env=[(false,eval e2 X.env)]:=by rfl):QE X (.Call (.Name "list" p) [.Call (.Name "range" p2) [e1,e2] [] bY] [] pos) (CQ ta):=by refine bZ (f' (BC hc) hg hm (by decide+kernel) (jS (f' Bz OG OD (by decide+kernel) ha (by decide) (by decide) (by rw[hs,hs2]) (by rw[hs2];rfl)) nV)) ?_;rintro σ H Q ⟨δ,M,Q2,hs,hm,q,k⟩;refine⟨δ,M,_,hs,hm,q,λ xs H1 ds M1 hd cv t1 ⟨i,j,e,hi,hj,hn,q1⟩=>?_⟩;subst e;obtain⟨x,r,rfl,hx,hr⟩:=ag.mp hd;obtain⟨y,r2,rfl,hy,pQ⟩:=ag.mp hr;cases(ao.mp pQ);cases(ax.mp hx);cases(ax.mp hy);refine⟨i,j,rfl,λ r Ow=>?_⟩;refine⟨r,i,j,rfl,aR,⟨by lia,by lia⟩,⟨by lia,by lia⟩,hn,λ p hp=>?_⟩;have t2:ar H1 (ci H1 r (.wz i j)):=ar.laid Ow;have t3:=ar.laid (o:=.lst (kQ i (j - i).toNat)) hp;exact k _ _ _ _ (aE.mpr rfl) ((cv.laid Ow).put (u:=.lst (cG i (j - i).toNat)) t3 ⟨_,aR,vj i _⟩) (t1.trans (t2.trans t3)) (q1 p ((cv.laid Ow).free hp))
end
end L3
namespace L4
open L2 L3
section
variable {e2 e3:Expr}{ta:e_}{p pos:Pos}
theorem Lx(hc:X.calm=true)(hg:Gl X "list")(hm:X.mg "list"=none)(EX:Gl X "zip")(EU:X.mg "zip"=none)(ha:WA X [e1,e2,e3] ta) (hs:starEach [e1,e2,e3] X.env=[(false,eval e1 X.env),(false,eval e2 X.env),(false,eval e3 X.env)]:=by rfl) (hs2:starEach [e2,e3] X.env=[(false,eval e2 X.env),(false,eval e3 X.env)]:=by rfl) (he:starEach [.Call (.Name "zip" p2) [e1,e2,e3] [] bY] X.env=(false,eval (.Call (.Name "zip" p2) [e1,e2,e3] [] bY) X.env)::starEach [] X.env:=by rfl):WE X (.Call (.Name "list" p) [.Call (.Name "zip" p2) [e1,e2,e3] [] bY] [] pos) (CP ta):=⟨MR hc hg hm EX EU ha.h hs hs2 he⟩
theorem Ly(hc:X.calm=true)(hg:Gl X "list")(hm:X.mg "list"=none)(OG:Gl X "range")(OD:X.mg "range"=none)(ha:WA X [e1,e2] ta)(hs:starEach [e1,e2] X.env=[(false,eval e1 X.env),(false,eval e2 X.env)]:=by rfl)(hs2:starEach [e2] X.env=[(false,eval e2 X.env)]:=by rfl):WE X (.Call (.Name "list" p) [.Call (.Name "range" p2) [e1,e2] [] bY] [] pos) (CQ ta):=⟨MS hc hg hm OG OD ha.h hs hs2⟩
end
theorem Ht{ta:e_}{Q:bR}(h:ta δ M λ ds M1=>∃(d1 d2 d3:D) (xs ys zs:List D) (n:Nat),ds=[d1,d2,d3]/\cT M1 d1=some xs/\cT M1 d2=some ys/\cT M1 d3=some zs/\xs.length=n/\ys.length=n/\zs.length=n/\n≠0/\n<=10000/\∀p,M1 p=none->Q (.ref p) (ai M1 p (.lst (tT xs ys zs)))):CP ta δ M Q:=h
theorem Hu{ta:e_}{Q:bR}(h:ta δ M λ ds M1=>∃i j:Int,ds=[.int i,.int j]/\(-10000<=i/\i<=10000)/\(-10000<=j/\j<=10000)/\(j - i).toNat<=10000/\∀p,M1 p=none->Q (.ref p) (ai M1 p (.lst (cG i (j - i).toNat)))):CQ ta δ M Q:=h
end L4
namespace L2
open PySem.Spec PyProof.Rows
abbrev SM:=ww->Option (Obj×V)
def SN(C:SM)(h:Heap):Prop:=∀b p,C b=some p->h.get? b=some p.1/\O8 b p.2 h
open PySem.Spec PyProof.Rows
structure kq(ps fv:List Str)(sc:Scope):Prop where
 kind:sc.kind=.function
 co:sc.isCoroutine=false
 gen:sc.isGenerator=false
 nd:(ps++fv).Nodup
 par:∀x∈ps,sc.names.lookup x=some .local
 D_:∀y∈sc.names,y.2≠.cell
 VW:∀x∈fv,sc.names.lookup x=some .free
 all:∀x,sc.names.lookup x=some .free->x∈fv
def vp(P:Program)(w:World)(K:L6)(mg:Str->Option jp)(base:Heap)(N:List Str)(qual:Str)(scope:Scope)(f c:ww)(cl:List (Str×ww))(A:Around)(outer:List Env)(s:kt)(H:Hp):Cx where
 prog:=P
 w:=w
 K:=K
 mg:=mg
 base:=base
 A:=A.deeper (PySem.W.envX qual scope s.heap.objs.size f (.ref c) cl)
 N:=N
 s₀:=s
 H₀:=H
 env:=PySem.W.envX qual scope s.heap.objs.size f (.ref c) cl
 outer:=outer
 stack:=PySem.W.envX qual scope s.heap.objs.size f (.ref c) cl::outer
 ex:=[]
 calm:=true
 fn:=λ _=>false
 pn:=[]
 xe:=λ _ _=>False
abbrev PU:=List V->List V->Hp->VK->Prop
structure Pk(h:Heap)(H:Hp)(cl:List (Str×ww))(fv:List Str)(fV:List V):Prop where
 len:fV.length=fv.length
 val:∀(i:Nat) (x:Str) (v:V),fv[i]?=some x->fV[i]?=some v->∃d,cl.lookup x=some d/\O8 d v h
 inj:∀x y d,cl.lookup x=some d->cl.lookup y=some d->x=y
 free:∀x d,cl.lookup x=some d->x∈fv/\H d=none
structure oW(P:Program)(w:World)(K:L6)(mg:Str->Option jp)(base:Heap)(k:Nat)(L:ql)(ps fv:List Str)(sp:PU):Prop where
 len:∀vs fV H Q,sp vs fV H Q->vs.length=ps.length
 run:∀(A:Around) (outer:List Env) (s:kt) (H:Hp) (f c:ww) (cl:List (Str×ww)) (us:List jp) (vs fV:List V) (Q:VK),de k A->tM P w K mg base A outer s H->lT f L c cl s.heap->qd c L.qual s.heap->Pk s.heap H cl fv fV->ce vs us->sp vs fV H Q->
  codeAny (model P w) A (.call (.ref f) ⟨us,[]⟩) (CR (λ _ _ _ _ _ _=>False) outer P w H s Q λ _ _ _=>False) s
theorem Lu:∀{ps:List Str} {us:List jp} {i:Nat},ps.Nodup->ps[i]?=some x->us[i]?=some u->(ps.zip us).reverse.lookup x=some u:=by
 intro ps us i nd h1 h2;have mem:(x,u)∈ps.zip us:=by have:(ps.zip us)[i]?=some (x,u):=getElem?_zip_eq_some.mpr ⟨h1,h2⟩;exact k8 this
 have un:∀v,(x,v)∈ps.zip us->v=u:=λ v hv=>by obtain⟨j,hj⟩:=mem_iff_getElem?.mp hv;obtain⟨a,b⟩:=getElem?_zip_eq_some.mp hj;have:=jV nd h1 a;subst this;rw[h2]at b;exact(B6 b).symm
 have go:∀l:List (Str×jp),(x,u)∈l->(∀v,(x,v)∈l->v=u)->l.lookup x=some u:=by
  intro l
  induction l with
  |nil=>intro h;cases h
  |cons p l ih=>
   intro h hu;obtain⟨y,v⟩:=p;rw[y6];cases hy:x==y with
   |true=>
    have:x=y:=by simpa using hy
    subst this;rw[hu v (.head _)]
   |false=>
    rcases G5.mp h with e|h
    ·cases e;simp at hy
    ·exact ih h λ w hw=>hu w (.tail _ hw)
 exact go _ (mem_reverse.mpr mem) λ v hv=>un v (mem_reverse.mp hv)
theorem N5{P:Program}{w:World}{K:L6}{mg:Str->Option jp}{base:Heap}{k:Nat}{L:ql}{ps fv:List Str}{sp:PU}(S:kq ps fv L.scope)(len:∀vs fV H Q,sp vs fV H Q->vs.length=ps.length) (oB:∀(cl:List (Str×ww)) (c:ww) (oM:jp) (us:List jp),us.length=ps.length->bindArgs (PySem.W.kla_fn "<lambda>" L.qual L.params L.body L.scope cl L.pm (.ref c) oM) ⟨us,[]⟩=pure (ps.zip us)) (eJ:∀(A:Around) (outer:List Env) (s:kt) (H:Hp) (f c:ww) (cl:List (Str×ww)) (vs fV:List V) (Q:VK),de k (A.deeper (PySem.W.envX L.qual L.scope s.heap.objs.size f (.ref c) cl))->sp vs fV H Q->
   ∃t,PE (vp P w K mg base (ps++fv) L.qual L.scope f c cl A outer s H) L.body t/\t ((vs++fV).map some) H Q):oW P w K mg base (k+1) L ps fv sp:=by
 refine⟨len,λ A outer s H f c cl us vs fV Q hr e0 hf hc hC r Bl=>?_⟩;have hl:=len _ _ _ _ Bl;have lim:s.heap.NoLimit:=e0.mod.nolimit.keeps λ b o e=>(e0.bs b o e).1;obtain⟨oM,ef⟩:=hf;refine PySem.W.kla_callFunE hr.depth ef rfl S.co S.gen rfl hc ?_;rw[oB cl c oM us (by rw[<- r.length];exact hl)];refine K2 (wpAny_newFunctionEnv S.D_ (λ y hy=>S.par _ (of_mem_zip (show(y.1,y.2)∈ps.zip us from hy)).1) (λ h1 Vv Jy=>⟨lim.fresh _ Jy,?_⟩) S.kind);show codeAny _ _ (.expr L.body (PySem.W.envX L.qual L.scope s.heap.objs.size f (.ref c) cl)) _ _;have PJ:∀b o,s.heap.get? b=some o->h1.get? b=some o:=λ b o e=>Jy.extBut b o (G8 (G9 e)) (j3 _ e);obtain⟨t,ht,hq⟩:=eJ A outer s H f c cl vs fV Q (hr.deeper _) Bl;have I:be (vp P w K mg base (ps++fv) L.qual L.scope f c cl A outer s H) [] ((vs++fV).map some) H {s with heap:=h1,toks:=s.toks+(ps.zip us).length}:=by
  have D':∀b:ww,b∉(vp P w K mg base (ps++fv) L.qual L.scope f c cl A outer s H).ex:=λ b z=>absurd (show b∈([]:List ww)from z) (by simp);refine⟨⟨e0.mod,S.kind,rfl,rfl,J7 _,hC.inj,λ y hy=>?_,λ y d z=>(by cases z),λ _=>hr.hd,Around.frames_deeper e0.frames,.inr ⟨rfl,rfl⟩,λ b z=>absurd z (D' b),e0.bs,e0.FO,λ b _ _=>D' b,λ b z=>absurd z (D' b),e0.lr,e0.Ld⟩,
   rfl,e0.bare,Un.kept PJ,⟨_,Vv,λ i y v q1 q2 q3=>?_⟩,λ y d q=>?_,e0.bx.fresh (J7 _),λ y d q=>(hC.free y d q).2,λ p hp=>absurd (show p∈([]:List (ww×Obj))from hp) (by simp),e0.bx.kept PJ,?_⟩
  ·have hy:L.scope.names.lookup y=some .cell\/L.scope.names.lookup y=some .free:=hy;rcases hy with hy|hy
   ·exact absurd rfl (S.D_ _ (l8 hy))
   ·obtain⟨i,hi⟩:=mem_iff_getElem?.mp (S.all y hy);have lt:i < fV.length:=by rw[hC.len];exact(i3.mp hi).1
    obtain⟨d,q,_⟩:=hC.val i y _ hi (i6 lt);exact⟨d,q⟩
  ·have q2:(vs++fV)[i]?=some v:=by
    rw[u7]at q2;cases z:(vs++fV)[i]? with
    |none=>rw[z]at q2;cases q2
    |some a=>rw[z]at q2;cases q2;rfl
   have q1:(ps++fv)[i]?=some y:=q1;by_cases hi:i < ps.length
   ·rw[c8 hi]at q1;rw[c8 (by rw[hl];exact hi)]at q2;obtain⟨u,hu,rv⟩:=r.get q2;exact⟨u,rv,.inl ⟨S.par y (k8 q1),Lu (nodup_append.mp S.nd).1 q1 hu⟩⟩
   ·rw[a9 (by lia)]at q1;rw[a9 (by lia),hl]at q2;obtain⟨d,q,u,rv,ic⟩:=hC.val _ y v q1 q2;exact⟨u,rv,.inr ⟨.inr (S.VW y (k8 q1)),d,q,let⟨o,a,b⟩:=ic;⟨o,PJ _ _ a,b⟩⟩⟩
  ·obtain⟨i,hi⟩:=mem_iff_getElem?.mp (hC.free y d q).1;have lt:i < fV.length:=by rw[hC.len];exact(i3.mp hi).1
   obtain⟨d',q',u,_,ic⟩:=hC.val i y _ hi (i6 lt);have:d'=d:=B6 (q'.symm.trans q);subst this;exact⟨some u,let⟨o,a,b⟩:=ic;⟨o,PJ _ _ a,b⟩⟩
  ·show _=(ps++fv).length;rw[C1,o6,o6,hl,hC.len]
 refine PySem.W.kla_codeExpr (K5 (ht [] _ _ H Q I hq) (λ u s' hs=>?_) λ e s' hs=>False.elim hs);obtain⟨v,H',J,rv,q⟩:=hs;exact⟨v,H',J.os,J.bare,J.base,J.bx,rv,q⟩
open PySem.Spec PyProof.Rows
structure Wr(cells:List (Str×ww))(cn:List (Str×Nat))(σ:St)(C:SM):Prop where
 has:∀x j,(x,j)∈cn->∃d o v,cells.lookup x=some d/\σ[j]?=some (some v)/\C d=some (o,v)
 only:∀d p,C d=some p->∃x j,(x,j)∈cn/\cells.lookup x=some d
theorem be.Sn(I:be X xz σ H s):∀(cn:List (Str×Nat)),(∀x j,(x,j)∈cn->X.env.kindOf x=some .cell/\X.N[j]?=some x/\∃v,σ[j]?=some (some v))->X.N.Nodup->∃C,Wr X.env.cells cn σ C/\SN C s.heap
 |[],_,_=>⟨λ _=>none,⟨(λ _ _ h=>nomatch h),(λ _ _ h=>nomatch h)⟩,(λ _ _ h=>nomatch h)⟩
 |(x,j)::cn,h,nd=>by
  obtain⟨C,h1,h2⟩:=I.Sn cn (λ y i hy=>h y i (.tail _ hy)) nd;obtain⟨hk,hN,v,hv⟩:=h x j (.head _);obtain⟨m,hn,hl⟩:=I.loc;obtain⟨u,r,lk⟩:=hl j x v hN hv (.inr (.inl hk));rcases lk with⟨q,_⟩|⟨_,d,hd,hc⟩
  ·rw[hk]at q;cases q
  obtain⟨o,ho,hz⟩:=JZ r hc;refine⟨λ b=>if b=d then some (o,v)else C b,⟨λ y i hy=>?_,λ b p hb=>?_⟩,λ b p hb=>?_⟩
  ·rcases G5.mp hy with e|WL
   ·cases e;exact⟨d,o,v,hd,hv,K9 rfl⟩
   ·obtain⟨d',o',v',e1,e2,e3⟩:=h1.has y i WL;by_cases z:d'=d
    ·subst z;have ZF:y=x:=I.ok.inj _ _ _ e1 hd;subst ZF;obtain⟨_,Zd,_⟩:=h y i (.tail _ WL);have:i=j:=jV nd Zd hN;subst this;exact⟨d',o,v,hd,hv,K9 rfl⟩
    ·exact⟨d',o',v',e1,e2,(L1 z).trans e3⟩
  ·by_cases z:b=d
   ·subst z;exact⟨x,j,.head _,hd⟩
   ·have hb:C b=some p:=(L1 z).symm.trans hb;obtain⟨y,i,m1,m2⟩:=h1.only b p hb;exact⟨y,i,.tail _ m1,m2⟩
  ·by_cases z:b=d
   ·subst z;have hb:some (o,v)=some p:=(K9 rfl).symm.trans hb;cases hb;exact⟨ho,u,r,hc⟩
   ·exact h2 b p ((L1 z).symm.trans hb)
section
variable {p pos:Pos}{t:TA}
theorem R6{h:Heap}{c:ww}(bx:jv P w H h)(e:H f=some (.eD o (.ext (lT f L c cl)))):lT f L c cl h:=(bx f _ e).2.1
end
end L2
namespace L3
open PySem.Spec PyProof.Rows L2 L5
abbrev BI:=List D->List D->Mem->bR->Prop
def P_(K:L6)(sp:BI):PU:=λ vs fV H Q=>∃ds cs M Q2,aD K H ds vs/\aD K H cs fV/\ca K H M/\sp ds cs M Q2/\jA K H Q2 Q
abbrev Kj(P:Program)(w:World)(K:L6)(mg:Str->Option jp)(base:Heap)(k:Nat)(L:ql)(ps fv:List Str)(sp:BI):Prop:=oW P w K mg base k L ps fv (P_ K sp)
theorem zB:∀{ds:List D} {vs:List V},ds.length=vs.length->(∀(i:Nat) (d:D) (v:V),ds[i]?=some d->vs[i]?=some v->bn K H d v)->aD K H ds vs
 |[],[],_,_=>ao.mpr rfl
 |d::ds,v::vs,hl,h=>ag.mpr ⟨v,vs,rfl,h 0 d v rfl rfl,zB (by simpa using hl) λ i d' v' a b=>h (i+1) d' v' (by simpa using a) (by simpa using b)⟩
theorem Jk{P:Program}{w:World}{K:L6}{mg:Str->Option jp}{base:Heap}{k:Nat}{L:ql}{ps fv:List Str}{sp:BI}(S:kq ps fv L.scope)(len:∀ds cs M Q,sp ds cs M Q->ds.length=ps.length) (oB:∀(cl:List (Str×ww)) (c:ww) (oM:jp) (us:List jp),us.length=ps.length->bindArgs (PySem.W.kla_fn "<lambda>" L.qual L.params L.body L.scope cl L.pm (.ref c) oM) ⟨us,[]⟩=pure (ps.zip us)) (eJ:∀(A:Around) (outer:List Env) (s:kt) (H:Hp) (f c:ww) (cl:List (Str×ww)) (ds cs:List D) (M:Mem) (Q:bR),de k (A.deeper (PySem.W.envX L.qual L.scope s.heap.objs.size f (.ref c) cl))->sp ds cs M Q->
   ∃t,QE (vp P w K mg base (ps++fv) L.qual L.scope f c cl A outer s H) L.body t/\t ((ds++cs).map some) M Q):Kj P w K mg base (k+1) L ps fv sp:=by
 refine N5 S (λ vs fV H Q h=>?_) oB λ A outer s H f c cl vs fV Q hr h=>?_
 ·obtain⟨ds,cs,M,Q2,hd,_,_,hs,_⟩:=h;rw[hd.length];exact len ds cs M Q2 hs
 ·obtain⟨ds,cs,M,Q2,hd,hc,hm,hs,kk⟩:=h;obtain⟨t,ht,q⟩:=eJ A outer s H f c cl ds cs M Q2 hr hs;refine⟨_,ht,(ds++cs).map some,M,Q2,⟨?_,λ i d e=>?_⟩,hm,q,kk⟩
  ·rw[C1,C1,(hd.append hc).length]
  ·rw[u7]at e;cases z:(ds++cs)[i]? with
   |none=>rw[z]at e;cases e
   |some d'=>rw[z]at e;cases e;obtain⟨v,a,r⟩:=(hd.append hc).get z;exact⟨v,by rw[u7,a];rfl,r⟩
end L3
namespace L2
open PySem.Spec PyProof.Rows
structure oY(K:L6)(x qual:Str)(st:Stmt)(dV:jp)(c f:ww)(fd:FuncData):Prop where
 ex:∃(oc:jp) (od:Option ww) (kV doc pm:jp) (an:Option ww) (ct:jp) (wJ:Array (Option jp)),
  fd=PySem.W.fnOf x qual (cK st) (bL st) (au st) dV kV doc pm an (.ref c) ct/\K.lookup f=some ⟨oc,od,.func fd,wJ⟩/\PySem.W.codeIn K (.ref c) qual=true
 kp:PySem.W.keepIn K (.ref f)=true
theorem oY.ok {x qual:Str}{st:Stmt}{dV:jp}{c f:ww}{fd:FuncData}{N ps:List Str}{k:Nat}{sp:Sp}(F:oY K x qual st dV c f fd)(S:aS N ps (au st))(len:∀vs H Q E,sp vs H Q E->vs.length=ps.length) (eJ:∀(A:Around) (outer:List Env) (s:kt) (H:Hp) (vs:List V) (Q:VK) (E:XK),de k (A.deeper (envOfC qual (au st) s.heap.objs.size f (.ref c)))->sp vs H Q E->
   ∃t,vL (pZ fX P w K mg base N qual (au st) f (.ref c) A outer s H E).IW (bL st) t/\t {nx:=λ _ H'=>Q .bw H',rt:=Q} (start N vs) H):cE P w K mg base fX (k+1) f fd ps sp:=by
 obtain⟨oc,od,kV,doc,pm,an,ct,wJ,rfl,lk,hcd⟩:=F.ex;refine Le lk hcd S len λ A outer s H vs Q E hr Bl=>?_;obtain⟨t,h,q⟩:=eJ A outer s H vs Q E hr Bl;exact⟨t,h.IW,q⟩
theorem JJ{c:ww}{oc:jp}{od an:Option ww}{kV doc pm ct:jp}(l:K.lookup f=some ⟨oc,od,.func (PySem.W.fnOf x qual (cK st) (bL st) (au st) dV kV doc pm an (.ref c) ct),wJ⟩) (e:PySem.W.codeIn K (.ref c) qual=true) (k:PySem.W.keepIn K (.ref f)=true):oY K x qual st dV c f (PySem.W.fnOf x qual (cK st) (bL st) (au st) dV kV doc pm an (.ref c) ct):=⟨⟨oc,od,kV,doc,pm,an,ct,wJ,rfl,l,e⟩,k⟩
theorem oY.binds{c:ww}{ds:List jp}(F:oY K x qual st dV c f fd) (h:∀(kV doc pm:jp) (an:Option ww) (ct:jp) (s:kt),K.In s.heap->∀(us:List jp),(us++ds).length=ps.length->BindsTo s (PySem.W.fnOf x qual (cK st) (bL st) (au st) dV kV doc pm an (.ref c) ct) ⟨us,[]⟩ (ps.zip (us++ds))):Binds K fd ps ds:=by obtain⟨oc,od,kV,doc,pm,an,ct,wJ,rfl,lk,hcd⟩:=F.ex;exact λ s us hk hl=>h kV doc pm an ct s hk us hl
theorem bX.X4{c:ww}(F:oY K x qual st dV c f fd)(G:cE P w K mg base fX k f fd ps sp)(hm:mg x=some (.ref f))(b:Binds K fd ps []):bX P w K mg base k x ps sp:=⟨f,fd,G,hm,F.kp,b⟩
end L2
namespace L4
open PySem.Spec L2 L3
theorem X2{x qual:Str}{st:Stmt}{dV:jp}{c f:ww}{fd:FuncData}{N ps:List Str}{k:Nat}{sp:iY}(F:oY K x qual st dV c f fd)(S:aS N ps (au st))(len:∀ds M Q,sp ds M Q->ds.length=ps.length) (eJ:∀(A:Around) (outer:List Env) (s:kt) (H:Hp) (E:XK) (ds:List D) (M:Mem) (Q:bR),de k (A.deeper (PyProof.Rows.envOfC qual (au st) s.heap.objs.size f (.ref c)))->sp ds M Q->
   ∃t,Gy (pZ fX P w K mg base N qual (au st) f (.ref c) A outer s H E).IW (bL st) t/\t {nx:=λ _ M'=>fin2 Q .bw M',rt:=fin2 Q} (gW N ds) M):cE P w K mg base fX (k+1) f fd ps (dv K sp):=by
 refine F.ok S (λ vs H Q E h=>?_) (λ A outer s H vs Q E hr h=>?_)
 ·obtain⟨ds,M,Q2,hd,_,hs,_⟩:=h;rw[hd.length];exact len ds M Q2 hs
 ·obtain⟨ds,M,Q2,hd,hm,hs,kk⟩:=h;obtain⟨t,ht,q⟩:=eJ A outer s H E ds M Q2 hr hs;refine⟨_,ht.h,gW N ds,M,_,qH hd,hm,q,⟨?_,?_,?_,?_⟩⟩
  ·exact λ σ' H' δ' M' _ fT t' ⟨kG,s,q⟩=>kk _ H' .bw kG (dN.mpr rfl) (fT.sub s) t' q
  ·exact λ v H' d M' mH fT t' ⟨kG,s,q⟩=>kk v H' d kG mH (fT.sub s) t' q
  ·exact λ σ' H' δ' M' _ fT t' q=>q
  ·exact λ σ' H' δ' M' _ fT t' q=>q
theorem UY{k:Nat}{L:ql}{ps fv:List Str}{sp:BI}(S:kq ps fv L.scope)(len:∀ds cs M Q,sp ds cs M Q->ds.length=ps.length) (oB:∀(cl:List (Str×ww)) (c:ww) (oM:jp) (us:List jp),us.length=ps.length->bindArgs (PySem.W.kla_fn "<lambda>" L.qual L.params L.body L.scope cl L.pm (.ref c) oM) ⟨us,[]⟩=pure (ps.zip us)) (eJ:∀(A:Around) (outer:List Env) (s:kt) (H:Hp) (f c:ww) (cl:List (Str×ww)) (ds cs:List D) (M:Mem) (Q:bR),de k (A.deeper (PySem.W.envX L.qual L.scope s.heap.objs.size f (.ref c) cl))->sp ds cs M Q->
   ∃t,WE (vp P w K mg base (ps++fv) L.qual L.scope f c cl A outer s H) L.body t/\t ((ds++cs).map some) M Q):Kj P w K mg base (k+1) L ps fv sp:=
 Jk S len oB λ A outer s H f c cl ds cs M Q hr h=>let⟨t,a,b⟩:=eJ A outer s H f c cl ds cs M Q hr h;⟨t,a.h,b⟩
end L4
namespace L2
open PySem.Spec PyProof.Rows
def zW(H:Hp)(ts:List ww):Prop:=(∀b,H b=none\/(∃o xs,H b=some (.eD o (.lst xs)))\/H b=some (.pe #[]))/\∀t∈ts,H t=some (.pe #[])
theorem Ba{mb:Str->Option jp}{CX:Gd}{fa:ww}{s₁:kt} (KX:K.In s₁.heap) (Vv:s₁.heap.Ns mainGlobals mg) (hb:s₁.heap.Ns builtinsNs mb) (Y5:∀x:Str,x≠"__name__"->mb x=bootBuiltins x) (Vy:s₁.heap.NoLimit) (hg:s₁.gens=#[]) (Y4:∃bm ob,mg "__builtins__"=some (.ref bm)/\bm≠builtinsNs/\s₁.heap.get? bm=some ob/\ob.cls=.type "module"/\ob.dict=some builtinsNs/\ob.data=.plain) (hT:∀q∈tabs,s₁.heap.get? q.2=some (PySem.W.tabObj #[])/\K.lookup q.2=none/\PySem.W.CodeHd s₁.heap q.1 q.2) (ha:s₁.heap.get? a=some {cls:=.type "list",data:=.seq vs.toArray}) (hi:IntsAre vs ns) (hl:ns.length<=sizeLine) (hr:de k callerA) (F:∀base:Heap,K.In base->(∀q∈tabs,GA mg base q.1 q.2)->cE P w K mg base CX k fa fd [x] sp) (oB:∀(s:kt) (u:jp),BindsTo s fd ⟨[u],[]⟩ [(x,u)]) (Bl:∀H:Hp,zW H (tabs.map (·.2))->fE K H a (ns.map V.int)->sp [.ref a] H (λ v _=>v=.bl true) λ _ _ _=>False) (VS:∀H e s',CX [] H s₁ (λ _ _ _=>False) e s'->False):codeAny (model P w) callerA (.call (.ref fa) ⟨[.ref a],[]⟩) (λ r s'=>r=.ok (.ret (.bool true))/\OldK s₁.heap s'.heap/\s'.os=s₁.os/\AllBare s'.gens) s₁:=by
 have rv:=qw hi;have UW:=hi.length;have tg:∀t∈tabs.map (·.2),s₁.heap.get? t=some (PySem.W.tabObj #[])/\K.lookup t=none:=λ t ht=>by obtain⟨q,hq,rfl⟩:=H0.mp ht;exact⟨(hT q hq).1,(hT q hq).2.1⟩
 have at':a∉tabs.map (·.2):=λ h=>by have:=(tg a h).1;rw[ha]at this;cases this
 have core:∀H:Hp,zW H (tabs.map (·.2))->fE K H a (ns.map V.int)->jv P w H s₁.heap->(∀b,H b≠none->b=a\/b∈tabs.map (·.2))->(H a≠none->K.lookup a=none)->
   codeAny (model P w) callerA (.call (.ref fa) ⟨[.ref a],[]⟩) (λ r s'=>r=.ok (.ret (.bool true))/\OldK s₁.heap s'.heap/\s'.os=s₁.os/\AllBare s'.gens) s₁:=by
  intro H hO hS bx hA hK;have mO:∀{b:ww} {o:Obj},s₁.heap.get? b=some o->H b=none->(pS s₁.heap H).get? b=some o:=λ e n=>EW e n;have D':∀{b:ww} {o:Obj},s₁.heap.get? b=some o->o≠PySem.W.tabObj #[]->(∀us n,o.data≠.seq us n)->H b=none:=λ{b o} e d1 d2=>by
   cases q:H b with
   |none=>rfl
   |some u=>
    rcases hA b (by rw[q];simp)with e'|e'
    ·subst e';rw[ha]at e;cases e;exact absurd rfl (d2 _ _)
    ·rw[(tg b e').1]at e;cases e;exact absurd rfl d1
  have X6:∀{b:ww} {o:Obj} {es:Array DictEntry} {ep:Nat},s₁.heap.get? b=some o->o.data=.dict es ep->H b=none:=λ{b o es ep} e d=>D' e (λ z=>by rw[z]at d;cases d) λ us n z=>by rw[d]at z;cases z
  have UQ:∀{b:ww} {m:Str->Option jp},s₁.heap.Ns b m->(pS s₁.heap H).Ns b m:=λ{b m} ⟨o,es,ep,e,d,r⟩=>⟨o,es,ep,mO e (X6 e d),d,r⟩;have Xe:K.In (pS s₁.heap H):=λ b o e=>mO (KX b o e) (by
   cases q:H b with
   |none=>rfl
   |some u=>
    rcases hA b (by rw[q];simp)with e'|e'
    ·subst e';rw[hK (by rw[q];simp)]at e;cases e
    ·rw[(tg b e').2]at e;cases e)
  have hM:Mod K mg (pS s₁.heap H):=⟨Xe,UQ Vv,⟨mb,UQ hb,Y5⟩,let⟨mc,h1,h2⟩:=Vy;⟨mc,UQ h1,h2⟩⟩;have VP:∀q∈tabs,GA mg (pS s₁.heap H) q.1 q.2:=λ q hq=>by
   refine⟨?_,?_⟩
   ·obtain⟨bm,ob,b1,b2,b3,b4,b5,b6⟩:=Y4;exact⟨bm,ob,b1,b2,mO b3 (D' b3 (λ z=>by rw[z]at b4;cases b4) λ us n z=>by rw[b6]at z;cases z),b4,b5,b6⟩
   ·obtain⟨o,vs,file,tf,flags,tg,To,text,tt,e,e1,e2,r⟩:=(hT q hq).2.2;exact⟨o,vs,file,tf,flags,tg,To,text,tt,mO e (D' e (λ z=>by rw[z]at e1;cases e1) λ us n z=>by rw[e2]at z;cases z),e1,e2,r⟩
  have e0:tM P w K mg (pS s₁.heap H) callerA [] s₁ H:=⟨rfl,hM,λ b o e=>IV e,J3 (Bp _ _),trivial,λ b hb=>absurd (show b∈([]:List ww)from hb) (by simp),bx,.of_eq hg⟩;refine J4 ((F _ Xe VP).run callerA [] s₁ H ⟨[.ref a],[]⟩ [.ref a] [.ref a] _ _ hr e0 (oB s₁ (.ref a)) (.cons rfl .nil) (Bl H hO hS)) λ r s' h=>?_;cases r with
  |error e=>exact(VS H e s' h).elim
  |ok fl=>
   cases fl with
   |next=>exact False.elim h
   |brk=>exact False.elim h
   |cont=>exact False.elim h
   |ret u=>
    obtain⟨v,H',os,bare,un,RF,r',q⟩:=h;have q':v=.bl true:=q;subst q';obtain rfl:u=Value.bool true:=r';refine⟨rfl,⟨λ b o e=>?_,λ b o e=>un.there b o e (by simp)⟩,os,bare⟩;cases q:H b with
    |none=>exact .inl (un.keep b o e q (by intro z;exact absurd (show b∈([]:List ww)from z) (by simp)) (by simp))
    |some u=>
     rcases hO.1 b with z|⟨ob,xs,z⟩|z
     ·rw[q]at z;cases z
     ·have z2:=un.pW b ob _ z;obtain⟨e1,_⟩:=bx b _ z;obtain⟨e2,_⟩:=RF b _ z2;rw[e]at e1;cases e1;exact .inl e2
     ·obtain⟨more,z2⟩:=un.pK b _ z;have e1:s₁.heap.get? b=some (PySem.W.tabObj #[]):=bx b _ z;have e2:s'.heap.get? b=some (PySem.W.tabObj (#[]++more)):=RF b _ z2;rcases hA b (by rw[q];simp)with e'|e'
      ·subst e';rw[ha]at e1;cases e1
      ·obtain⟨t,ht,rfl⟩:=H0.mp e';rw[e]at e1;cases e1;exact .inr (.inl ⟨((hT t ht).2.2.tab (hT t ht).1).isCodeTable,rfl,#[],more,rfl,e2⟩)
 cases hk:K.lookup a with
 |some o=>
  have e:=KX a o hk;rw[ha]at e;cases e;refine core (λ b=>if b∈tabs.map (·.2)then some (.pe #[])else none) ⟨λ b=>?_,λ t ht=>K9 ht⟩ (.inr ⟨_,vs.toArray,_,hk,rfl,rfl,rfl,by rw[y0,UW];exact hl,by simpa using rv⟩) (λ b u z=>?_) (λ b z=>?_) λ z=>absurd (L1 at') z
  ·by_cases hb:b∈tabs.map (·.2)
   ·exact .inr (.inr (K9 hb))
   ·exact .inl (L1 hb)
  ·by_cases hb:b∈tabs.map (·.2)
   ·have z':=(K9 hb).symm.trans z;cases z';exact(tg b hb).1
   ·have z':=(L1 hb).symm.trans z;cases z'
  ·by_cases hb:b∈tabs.map (·.2)
   ·exact .inr hb
   ·exact absurd (L1 hb) z
 |none=>
  refine core (λ b=>if b=a then some (.eD {cls:=.type "list",data:=.seq vs.toArray} (.lst (ns.map V.int)))else if b∈tabs.map (·.2)then some (.pe #[])else none) ⟨λ b=>?_,λ t ht=>?_⟩ (.inl (.inr ⟨{cls:=.type "list",data:=.seq vs.toArray},K9 rfl⟩)) (λ b u z=>?_) (λ b z=>?_) λ _=>hk
  ·by_cases hb:b=a
   ·exact .inr (.inl ⟨_,_,K9 hb⟩)
   ·by_cases ht:b∈tabs.map (·.2)
    ·exact .inr (.inr ((L1 hb).trans (K9 ht)))
    ·exact .inl ((L1 hb).trans (L1 ht))
  ·exact(L1 (λ z=>at' (by rw[<- z];exact ht))).trans (K9 ht)
  ·by_cases hb:b=a
   ·have z':=(K9 hb).symm.trans z;cases z';subst hb;exact⟨ha,by rw[C1];exact hl,vs,_,rv,ha⟩
   ·have z:=(L1 hb).symm.trans z;by_cases ht:b∈tabs.map (·.2)
    ·have z':=(K9 ht).symm.trans z;cases z';exact(tg b ht).1
    ·have z':=(L1 ht).symm.trans z;cases z'
  ·by_cases hb:b=a
   ·exact .inl hb
   ·by_cases ht:b∈tabs.map (·.2)
    ·exact .inr ht
    ·exact absurd ((L1 hb).trans (L1 ht)) z
theorem Ca{l:PySem.W.OpenLaw}{n k:Nat}{q:Program}{loose:List Str}{XP:(Str->Option jp)->Heap->Prop}{YP:World->Heap->Prop}{d:DefRec}{K:Params->L6}{CX:World->Gd}{sp:World->Sp}{x:Str}{tabs:List (ww×ww)}
  (hn:l.most=some n) (RJ:n<=sizeLine) (RR:d.params.defaults=[]) (hr:de k callerA)
  (hY:∀(w:World) (h:Heap),YP w h->(K w.params).In h/\∀q∈tabs,h.get? q.2=some (PySem.W.tabObj #[])/\(K w.params).lookup q.2=none/\PySem.W.CodeHd h q.1 q.2)
  (F:∀(w:World) (mg:Str->Option jp) (fa:ww) (h:Heap),(K w.params).In h->h.Ns mainGlobals mg->mg d.name=some (.ref fa)->
   ∃fd:FuncData,(∀(s:kt) (u:jp),BindsTo s fd ⟨[u],[]⟩ [(x,u)])/\
    ∀base:Heap,(K w.params).In base->(∀q∈tabs,GA mg base q.1 q.2)->cE l.prog w (K w.params) mg base (CX w) k fa fd [x] (sp w))
  (Bl:∀(w:World) (H:Hp) (a:ww) (ns:List Int),ns.length<=n->zW H (tabs.map (·.2))->fE (K w.params) H a (ns.map V.int)->sp w [.ref a] H (λ v _=>v=.bl true) λ _ _ _=>False)
  (VS:∀(w:World) (H:Hp) (s:kt) (e:jp) (s':kt),CX w [] H s (λ _ _ _=>False) e s'->False):
  PySem.W.WalkO q loose XP YP l.row.toRowW d [] (λ f vs=>PySem.call f vs):=by
 refine Xw.vH hn RR λ w s₀ s₁ mg mb fa o pm cd doc a vs ns G Y ho hd hcd RK ES hints hlen hg=>?_;obtain⟨KX,hT⟩:=hY w _ Y;obtain⟨fd,hb,hF⟩:=F w mg fa _ KX G.T.g RK;exact Ba KX G.T.g G.T.b G.T.builtins G.T.nolimit hg G.T.bmain hT ES hints (J0 hlen RJ) hr hF hb (λ H hO hS=>Bl w H a ns hlen hO hS) λ H e s'=>VS w H s₁ e s'
open PySem.Spec PyProof.Rows
section
variable {κ:Type}[DecidableEq κ]{knd:KeyKind prog w κ}
theorem kL{d:ww}{kvs:List (κ×jp)}{k:κ}{key v:jp}(iX:knd.is k key=true)(hm:s.heap.DictOf knd d kvs) (h1:∀u,valueAt kvs k=some u->Q u {s with toks:=s.toks+1}) (h2:valueAt kvs k=none->∀h',h'.DictOf knd d (stored kvs k v)->Heap.SameBut d s.heap h'->Q v {s with heap:=h',toks:=s.toks+1}) (hsz:kvs.length<=sizeLine):wpAny (model prog w) A (dictSetDefault d key v) Q E s:=by
 obtain⟨o,es,ep,ho,hc,hd,hk,hp,hn⟩:=hm;have Gr:es.size<=sizeLine:=by
  have e1:=hp.length;have e2:es.toList.length=es.size:=by simp
  lia
 have hf:findBy knd.is es k=valueAt kvs k:=by rw[<- hp.find k];obtain⟨l⟩:=es;simp[findBy]
 unfold dictSetDefault
 try with_reducible refine D4 ?_
 refine K1 (knd.pyHash iX ?_);refine K1 (wpAny_dictFind_of (s:={s with toks:=s.toks+1}) iX ho hd hk ?_);have VB:(es.findIdx? λ e=>knd.is k e.key)=kvs.findIdx? λ kv=>decide (kv.1=k):=by rw[<- hp.findIdx k];obtain⟨l⟩:=es;simp
 cases hi:es.findIdx? λ e=>knd.is k e.key with
 |some i=>
  have Tx:valueAt kvs k=(es[i]?).map (·.val):=by rw[<- hf,findBy_of_findIdx?,hi]
  refine K1 (wpAny_dictEntries (s:={s with toks:=s.toks+1}) ho hd ?_);cases he:es[i]? with
  |none=>exfalso;have gg:i < es.size:=(Array.findIdx?_eq_some_iff_findIdx_eq.mp hi).1;rw[c9 gg]at he;exact nomatch he
  |some e=>rw[he]at Tx;exact K1 (K3 (K2 (h1 e.val Tx)))
 |none=>
  have Tx:valueAt kvs k=none:=by rw[<- hf,findBy_of_findIdx?,hi]
  have RH:k∉kvs.map (·.1):=not_mem_of_findIdx_none (VB▸hi);have RT:¬(kvs.any λ kv=>decide (kv.1=k))=true:=by rw[List.any_eq_true];rintro⟨kv,tQ,he⟩;exact RH (H0.mpr ⟨kv,tQ,of_decide_eq_true he⟩)
  refine K1 (K3 (K1 (wpAny_updateDictKeys (hz:=Gr) (s:={s with toks:=s.toks+1}) ho hd (K2 (h2 Tx _ ⟨_,_,ep+1,j6 _ ho (Obj.isFreed_of_dict (Obj.data_mapDictKeys hd _)),
   hc.mapDictKeys _,Obj.data_mapDictKeys hd _,hk.push iX _,?_,?_⟩ (l6 ..))))))
  ·rw[stored,L1 RT];have:=hp.append iX (knd.hash k) v;obtain⟨l⟩:=es;simpa using this
  ·rw[stored,L1 RT,C3,nodup_append];refine⟨hn,by simp,?_⟩;intro a ha b hb;simp only[G4,map_nil,p8]at hb;subst hb;exact λ e=>RH (e▸ha)
theorem sv(d:ww){k:κ}{key:jp}(iX:knd.is k key=true)(hd:(d==sysModules)=false)(v:jp):
  MeetsIn prog w (Builtin.«dict.setdefault» ⟨[.ref d,key,v],[]⟩) (λ _ R s=>∃kvs,s.heap.DictOf knd d kvs/\kvs.length<=sizeLine/\
   (∀u,valueAt kvs k=some u->R (.ok (.ret u)) {s with toks:=s.toks+1})/\
   (valueAt kvs k=none->∀h',h'.DictOf knd d (stored kvs k v)->Heap.SameBut d s.heap h'->R (.ok (.ret v)) {s with heap:=h',toks:=s.toks+1})):=
 .of_wp λ A R s ⟨kvs,hm,hz,h1,h2⟩=>by unfold Builtin.«dict.setdefault»;refine K1 ?_;unfold Builtin.Dict.keyAndDefault;refine K1 (wpAny_notOrdered_dict hm.typeIs ?_);show wpAny _ _ (pure (d,key,some v)) _ _ s;refine K2 ?_;show wpAny _ _ (if(d==sysModules)=true then _ else(dictSetDefault d key v >>= _)) _ _ s;rw[L1 (by rw[hd];exact n9)];exact K1 (kL iX hm (λ u hu=>K2 ⟨u,rfl,h1 u hu⟩) (λ hn h' fT jD=>K2 ⟨v,rfl,h2 hn h' fT jD⟩) hz)
end
def HI:V->List V->Hp->VK->Prop:=λ x vs H Q=>∃a kvs k v,x=.ref a/\vs=[kV k,v]/\H a=some (.dK kvs)/\kvs.length < sizeLine/\(∀u,gw kvs k=some u->Q u H)/\(gw kvs k=none->Q v (ci H a (.dK (putK kvs k v))))
theorem AW:TR X "dict.setdefault" HI:=by
 intro xz s σ H x xs v us Q I rx rs ⟨a,kvs,k,y,e1,e2,e,hz,q1,q2⟩;subst e1;subst e2;cases(show v=Value.ref a from rx);obtain⟨u,r,rfl,ru,rr⟩:=vals2 rs;obtain⟨z,hd,vs,rel,dd⟩:=zu I.bx e;have hv:=rel.val k;refine call_meetsIn PySem.F.slot_dict_setdefault dd.typeIs PySem.F.entry_dict_setdefault (PySem.F.args_dict_setdefault_3 _ _ _) (sv a (ou ru) hd r) ⟨vs,dd,by rw[<- rel.length];exact z,λ u' hu=>?_,λ hn h' zA hs=>?_⟩
 ·cases ev:gw kvs k with
  |none=>rw[ev]at hv;exact(show False from(by rw[show valueAt vs k=some u' from hu]at hv;exact hv)).elim
  |some w=>rw[ev]at hv;rw[show valueAt vs k=some u' from hu]at hv;exact⟨w,H,I.tok _,hv,q1 w ev⟩
 ·cases ev:gw kvs k with
  |some w=>rw[ev]at hv;exact(show False from(by rw[show valueAt vs k=none from hn]at hv;exact hv)).elim
  |none=>
   have hl:(putK kvs k y).length<=sizeLine:=by have:=fL kvs k y;lia
   have he:∃q,h'.get? a=some q:=let⟨q,_,_,hq,_⟩:=zA;⟨q,hq⟩
   exact⟨y,_,iT I (by rw[e];exact True.intro) hs he (xx hl hd (rel.put k rr) zA),rr,q2 ev⟩
def zP(X:Cx)(cn:List (Str×Nat)):Bool:=cn.all λ p=>X.env.kindOf p.1==some .cell&&X.N[p.2]?==some p.1&&X.fn p.1
theorem Lo(h:zP X cn=true):∀x j,(x,j)∈cn->X.env.kindOf x=some .cell/\X.N[j]?=some x/\X.fn x=true:=λ x j hx=>by have:=A8.mp h _ hx;rw[A1,A1]at this;exact⟨by simpa using this.1.1,by simpa using this.1.2,this.2⟩
def JK(X:Cx)(ns:List (Str×NameKind)):Bool:=ns.all λ y=>y.2 != .free||X.env.kindOf y.1==some .cell||X.env.kindOf y.1==some .free
theorem R4{ns:List (Str×NameKind)}(h:JK X ns=true):∀n,(n,NameKind.free)∈ns->X.env.kindOf n=some .cell\/X.env.kindOf n=some .free:=λ n hn=>by
 have:=A8.mp h _ hn;rw[Bool.or_eq_true,Bool.or_eq_true]at this;rcases this with(h|h)|h
 ·cases h
 ·exact .inl (by simpa using h)
 ·exact .inr (by simpa using h)
theorem oW.mono{fv:List Str}{sp:PU}(h:oW P w K mg base j L ps fv sp)(hk:j<=k):oW P w K mg base k L ps fv sp:=
 ⟨h.len,λ A outer s H f c cl us vs fV Q hr=>h.run A outer s H f c cl us vs fV Q (hr.mono hk)⟩
end L2
namespace L3
open PySem.Spec PyProof.Rows L2 L5
section
variable {o:Expr}{t:e_}
def zC:D->List D->Mem->bR->Prop:=λ d ds M Q=>∃a kvs k v,d=.ref a/\ds=[k,v]/\M a=some (.di false kvs)/\iC false k/\kvs.length < sizeLine/\(∀u,dk kvs k=some u->Q u M)/\(dk kvs k=none->Q v (ai M a (.di false (putD kvs k v))))
def rW(to:cS)(t:e_):cS:=λ δ M Q=>to δ M λ d M1=>(∃a kvs,d=.ref a/\M1 a=some (.di false kvs))/\t δ M1 λ ds M2=>zC d ds M2 Q
theorem DA(ho:QE X o to)(ha:QA X (e::es) t)(hbase:attributeBase o "setdefault" X.env (eval o X.env)=eval o X.env:=by rfl) (hfew:((backTo cp (starEach (e::es) X.env)).all (λ x=>!x.1)&&(backToKw cp (keywordEach [] X.env)).all (λ x=>x.1.isSome)
   &&decide ((e::es).length+([]:List Keyword).length+(if([]:List Keyword).isEmpty then 0 else 1) < 30))=true:=by rfl)
  (hline:(apos.endLine==cp.line)=true:=by rfl) (hs:starEach (e::es) X.env=(false,eval e X.env)::starEach es X.env:=by rfl) (hplain:(backTo cp (starEach es X.env)).any (·.1)=false:=by rfl):
  QE X (.Call (.Attribute o "setdefault" apos) (e::es) [] cp) (rW to t):=by
 refine bZ (Kz PySem.F.plainAttrs_dict PySem.F.slot_dict_setdefault PySem.F.type_dict_setdefault AW ho ha hbase hfew hline hs hplain) ?_;rintro σ H Q ⟨δ,M,Q2,hs,hm,q,k⟩;refine⟨δ,M,_,hs,hm,q,λ x H1 d M1 hd cv t1 ⟨⟨a,kvs,e,hM⟩,q1⟩=>⟨?_,δ,M1,_,hs.mono t1,cv,q1,λ xs H2 ds M2 RQ lq t2 q2=>?_⟩⟩
 ·subst e;cases(aE.mp hd);obtain⟨xs,hx,_⟩:=cv a _ hM;exact .inr (.inr (.inl ⟨rfl,.inl ⟨xs,hx⟩⟩))
 ·obtain⟨a',N6,kk,v,e2,e3,RV,⟨ky,rfl⟩,hz,q3,q4⟩:=q2;subst e2;subst e3;cases(aE.mp hd);obtain⟨x1,r1,rfl,PJ,Ow⟩:=ag.mp RQ;obtain⟨x2,r2,rfl,PC,pQ⟩:=ag.mp Ow;cases(ao.mp pQ);rw[kg PJ];obtain⟨ys,hy,rel⟩:=lq a' _ RV;have lk:=rel.look ky;refine⟨a',ys,ky,x2,rfl,rfl,hy,by rw[<- G1 rel];exact hz,λ u hu=>?_,λ hn=>?_⟩
  ·rw[hu]at lk;cases el:dk N6 (gQ ky)with
   |none=>rw[el]at lk;exact(show False from lk).elim
   |some d'=>rw[el]at lk;exact k _ H2 d' M2 lk lq (t1.trans t2) (q3 d' el)
  ·rw[hn]at lk;cases el:dk N6 (gQ ky)with
   |some d'=>rw[el]at lk;exact(show False from lk).elim
   |none=>have t:=ar.mut (o:=.dK (putK ys ky x2)) hy (λ _ z=>by cases z) (λ _ _ z=>by cases z);exact k _ _ _ _ (bn.mono t _ PC) (lq.put (u:=.di false (putD N6 (gQ ky) v)) t ⟨_,aR,(rel.put ky PC).mono t⟩) ((t1.trans t2).trans t) (q4 el)
end
end L3
namespace L4
open L2 L3
theorem Cc{X:Cx}{o e:Expr}{es:List Expr}{to:cS}{t:e_}{apos cp:Pos}(ho:WE X o to)(ha:WA X (e::es) t)(hbase:attributeBase o "setdefault" X.env (eval o X.env)=eval o X.env:=by rfl) (hfew:((backTo cp (starEach (e::es) X.env)).all (λ x=>!x.1)&&(backToKw cp (keywordEach [] X.env)).all (λ x=>x.1.isSome)
   &&decide ((e::es).length+([]:List Keyword).length+(if([]:List Keyword).isEmpty then 0 else 1) < 30))=true:=by rfl)
  (hline:(apos.endLine==cp.line)=true:=by rfl) (hs:starEach (e::es) X.env=(false,eval e X.env)::starEach es X.env:=by rfl) (hplain:(backTo cp (starEach es X.env)).any (·.1)=false:=by rfl):
  WE X (.Call (.Attribute o "setdefault" apos) (e::es) [] cp) (rW to t):=⟨DA ho.h ha.h hbase hfew hline hs hplain⟩
theorem AH{t:e_}{Q:bR}(h:to δ M λ d M1=>(∃a kvs,d=.ref a/\M1 a=some (.di false kvs))/\t δ M1 λ ds M2=>zC d ds M2 Q):rW to t δ M Q:=h
end L4
namespace L2
open PySem.Spec PySem.W PyProof.Rows L5
theorem Nv{t u:TE}(h:PE X e t)(g:PE X e u):PE X e (λ σ H Q=>t σ H Q\/u σ H Q):=λ xz s σ H Q I q=>q.elim (h xz s σ H Q I) (g xz s σ H Q I)
theorem AO{k v:Expr}{tk tv:TE}{pos:Pos}(hk:PE X k tk)(hv:PE X v tv):PE X (.Dict [some k] [v] pos) (λ σ H Q=>∀p,H p=none->tk σ (ci H p (.dK [])) λ x H1=>tv σ H1 λ y H2=>∃ky,x=kV ky/\H2 p=some (.dK [])/\Q (.ref p) (ci H2 p (.dK (putK [] ky y)))):=by
 intro xz s σ H Q I h;refine wpAny_Dict_any rfl rfl (by simp) (by simp) ?_;have I0:be X xz σ (ci H s.heap.objs.size (.dK [])) {s with heap:=s.heap.push {cls:=.type "dict",data:=.dict #[]}}:=I.laid (a:=s.heap.objs.size) (o:=.dK []) (t':=s.toks) (λ _ _ q=>j3 _ q) (J7 _) (vh s.heap I.big);refine pairTrees_cons_walk (dG (hk xz _ σ _ _ I0 (h _ (I.bx.fresh (J7 _)))) λ kv s1 ⟨x,H1,I1,r1,q1⟩=>dG (hv xz s1 σ H1 _ I1 q1) λ vv s2 ⟨y,H2,I2,r2,q2⟩=>pairTrees_nil_walk ?_);obtain⟨ky,rfl,hp,q⟩:=q2;generalize s.heap.objs.size=p at*;obtain⟨z,nm,xs,rel,dd⟩:=zu I2.bx hp;cases rel;have lK:(putK [] ky y).length<=sizeLine:=by have:=fL [] ky y;exact J0 this (by decide)
 unfold storeAll;rw[C7];refine K1 (K1 (wpAny_dictSet_pairs (hsz:=J9 _) (ou r1) dd λ h' zA hs=>K2 ?_));dsimp only;rw[forIn_nil];have he:∃q,h'.get? p=some q:=let⟨q,_,_,hq,_⟩:=zA;⟨q,hq⟩
 exact K2 ⟨.ref p,_,iT I2 (by rw[hp];exact True.intro) hs he (xx lK nm (KV.put .nil ky r2) zA),rfl,q⟩
end L2
namespace L3
open PySem.Spec L2 L5 PyProof.Rows
def wy(tk tv:cS):cS:=λ δ M Q=>∃t:Bool,∀p,M p=none->tk δ (ai M p (.di t [])) λ x M1=>tv δ M1 λ y M2=>M2 p=some (.di t [])/\iC t x/\Q (.ref p) (ai M2 p (.di t [(x,y)]))
theorem HW{k v:Expr}{tk tv:cS}{pos:Pos}(hu:X.A.units+64 < cLine)(hk:QE X k tk)(hv:QE X v tv):QE X (.Dict [some k] [v] pos) (wy tk tv):=by
 refine bZ (Nv (HX (pos:=pos) hu hk hv) (AO (pos:=pos) hk hv)) ?_;rintro σ H Q ⟨δ,M,Q2,hs,hm,⟨t,q⟩,k⟩;cases t with
 |true=>exact .inl ⟨δ,M,Q2,hs,hm,q,k⟩
 |false=>refine .inr λ p hp=>?_;have t0:ar H (ci H p (.dK [])):=ar.laid hp;refine⟨δ,ai M p (.di false []),_,hs.mono t0,hm.put (u:=.di false []) t0 ⟨[],aR,.nil⟩,q p (hm.free hp),λ x H1 d M1 hd cv t1 q1=>?_⟩;refine⟨δ,M1,_,(hs.mono t0).mono t1,cv,q1,λ y H2 e M2 he lq t2 q2=>?_⟩;obtain⟨lZ,⟨ky,rfl⟩,q2⟩:=q2;obtain⟨xs,hx,rel⟩:=lq p _ lZ;cases rel;have t:=ar.mut (o:=.dK (putK [] ky y)) hx (λ _ z=>by cases z) (λ _ _ z=>by cases z);exact⟨ky,kg hd,hx,k _ _ _ _ (aE.mpr rfl) (lq.put (u:=.di false [(gQ ky,e)]) t ⟨_,aR,((Gb.put (kvs:=[]) .nil ky he):Gb X.K H2 [(gQ ky,e)] (putK [] ky y)).mono t⟩) ((t0.trans t1).trans (t2.trans t)) q2⟩
end L3
namespace L4
open PySem.Spec L2 L3 L5
theorem GG{k v:Expr}{tk tv:cS}{pos:Pos}(hu:X.A.units+64 < cLine)(hk:WE X k tk)(hv:WE X v tv):WE X (.Dict [some k] [v] pos) (wy tk tv):=⟨HW hu hk.h hv.h⟩
theorem Dr{tk tv:cS}{Q:bR}(t:Bool)(h:∀p,M p=none->tk δ (ai M p (.di t [])) λ x M1=>tv δ M1 λ y M2=>M2 p=some (.di t [])/\iC t x/\Q (.ref p) (ai M2 p (.di t [(x,y)]))):wy tk tv δ M Q:=⟨t,h⟩
end L4
namespace L2
open PySem.Spec PyProof.Rows
def gE(ps fv:List Str)(sc:Scope):Bool:=sc.kind==.function&&!sc.isCoroutine&&!sc.isGenerator&&(ps.all λ x=>sc.names.lookup x==some .local)&&(fv.all λ x=>sc.names.lookup x==some .free)&&sc.names.all λ y=>y.2 != .cell&&(y.2 != .free||fv.contains y.1)
theorem Rm{fv:List Str}{sc:Scope}(h:gE ps fv sc=true)(nd:(ps++fv).Nodup):kq ps fv sc:=by unfold gE at h;simp only[A1,A8]at h;obtain⟨⟨⟨⟨⟨h1,h2⟩,h3⟩,h4⟩,h5⟩,h6⟩:=h;refine⟨by simpa using h1,by simpa using h2,by simpa using h3,nd,λ x hx=>by simpa using h4 x hx,λ y hy=>by simpa using(h6 y hy).1,λ x hx=>by simpa using h5 x hx,λ x hx=>?_⟩;have:=(h6 _ (l8 hx)).2;simpa using this
open PySem
theorem oY.O'{c:ww}(F:oY K x qual st dV c f fd) (h:∀(kV doc pm:jp) (an:Option ww) (ct:jp) (s:kt),K.In s.heap->∀(us:List jp),us.length=ps.length->BindsTo s (PySem.W.fnOf x qual (cK st) (bL st) (au st) dV kV doc pm an (.ref c) ct) ⟨us,[]⟩ (ps.zip us)):Binds K fd ps []:=
 F.binds λ kV doc pm an ct s hk us hl=>by rw[B0]at hl ⊢;exact h kV doc pm an ct s hk us hl
end L2
namespace KK
abbrev Cs:=List Nat
def inc:Cs->Nat->Cs
 |[],_=>[]
 |a::as,0=>(a+1)::as
 |a::as,l+1=>a::inc as l
theorem iQ:∀(p:Cs) (l:Nat),(inc p l).length=p.length
 |[],_=>rfl
 |a::as,0=>rfl
 |a::as,l+1=>by show(inc as l).length+1=_;rw[iQ as l];rfl
theorem j_:∀{p:Cs} {l:Nat},l < p.length->(inc p l).sum=p.sum+1
 |a::as,0,_=>by show a+1+as.sum=a+as.sum+1;lia
 |a::as,l+1,h=>by have:=j_ (p:=as) (l:=l) (by simpa using h);show a+(inc as l).sum=a+as.sum+1;lia
def BO:Cs->Cs->Prop
 |a::as,b::bs=>b < a\/(a=b/\BO as bs)
 |_,_=>False
theorem iL:∀p:Cs,¬BO p p
 |[],h=>h
 |a::as,h=>h.elim (λ h=>G3 _ h) λ h=>iL as h.2
theorem lg:∀{p q r:Cs},BO p q->BO q r->BO p r
 |a::as,b::bs,c::cs,h,g=>by
  rcases h with h|⟨rfl,h⟩
  ·rcases g with g|⟨rfl,g⟩
   ·exact .inl (by lia)
   ·exact .inl h
  ·rcases g with g|⟨rfl,g⟩
   ·exact .inl g
   ·exact .inr ⟨rfl,lg h g⟩
 |[],_,_,h,_=>h.elim
 |_::_,[],_,h,_=>h.elim
 |_::_,_::_,[],_,g=>g.elim
theorem yM:∀{p q:Cs},p.length=q.length->p=q\/BO p q\/BO q p
 |[],[],_=>.inl rfl
 |a::as,b::bs,h=>by
  rcases Nat.lt_trichotomy a b with z|z|z
  ·exact .inr (.inr (.inl z))
  ·subst z;rcases yM (p:=as) (q:=bs) (by simpa using h)with e|e|e
   ·exact .inl (by rw[e])
   ·exact .inr (.inl (.inr ⟨rfl,e⟩))
   ·exact .inr (.inr (.inr ⟨rfl,e⟩))
  ·exact .inr (.inl (.inl z))
theorem yN:∀{p q:Cs} {l:Nat},BO p q->BO (inc p l) (inc q l)
 |a::as,b::bs,0,h=>by
  rcases h with h|⟨rfl,h⟩
  ·exact .inl (by lia)
  ·exact .inr ⟨rfl,h⟩
 |a::as,b::bs,l+1,h=>by
  rcases h with h|⟨rfl,h⟩
  ·exact .inl h
  ·exact .inr ⟨rfl,yN h⟩
 |[],_,_,h=>h.elim
 |_::_,[],_,h=>h.elim
def zb(p:Cs)(l:Nat):Prop:=∀j,l < j->p.getD j 0=0
def Ah(p q:Cs):Prop:=p.sum < q.sum\/(p.sum=q.sum/\BO p q)
theorem Ah.WK{p:Cs}(h:Ah p p):False:=h.elim (λ h=>G3 _ h) λ h=>iL _ h.2
theorem Ah.trans{p q r:Cs}(h:Ah p q)(g:Ah q r):Ah p r:=by
 rcases h with h|⟨e,h⟩
 ·rcases g with g|⟨f,g⟩
  ·exact .inl (by lia)
  ·exact .inl (by lia)
 ·rcases g with g|⟨f,g⟩
  ·exact .inl (by lia)
  ·exact .inr ⟨by lia,lg h g⟩
theorem Ah.not{p q:Cs}(h:Ah p q)(g:Ah q p):False:=(h.trans g).WK
theorem Ah.Xy{p q:Cs}(h:p.length=q.length):p=q\/Ah p q\/Ah q p:=by
 rcases Nat.lt_trichotomy p.sum q.sum with z|z|z
 ·exact .inr (.inl (.inl z))
 ·rcases yM h with e|e|e
  ·exact .inl e
  ·exact .inr (.inl (.inr ⟨z,e⟩))
  ·exact .inr (.inr (.inr ⟨z.symm,e⟩))
 ·exact .inr (.inr (.inl z))
theorem Ah.inc{p q:Cs}{l:Nat}(h:Ah p q)(hp:l < p.length)(hq:l < q.length):Ah (inc p l) (inc q l):=by
 have a:=j_ hp;have b:=j_ hq;rcases h with h|⟨e,h⟩
 ·exact .inl (by lia)
 ·exact .inr ⟨by lia,yN h⟩
theorem lastOf:∀{q:Cs},0 < q.sum->∃p l,l < q.length/\p.length=q.length/\q=inc p l/\zb p l
 |[],h=>absurd h (by decide)
 |c::cs,h=>by
  have h:0 < c+cs.sum:=h;by_cases z:cs.sum=0
  ·refine⟨(c - 1)::cs,0,by simp,by simp,?_,λ j hj=>?_⟩
   ·show c::cs=(c - 1+1)::cs;rw[show c - 1+1=c by lia]
   ·obtain⟨j,rfl⟩:∃k,j=k+1:=⟨j - 1,by lia⟩;rw[getD_cons_succ,c7];cases e:cs[j]? with
    |none=>rfl
    |some v=>
     have hv:=k8 e;have:∀{xs:Cs},xs.sum=0->∀v∈xs,v=0:=λ{xs}=>by
      induction xs with
      |nil=>intro _ v hv;cases hv
      |cons x xs ih=>
       intro h v hv;have h:x+xs.sum=0:=h;rcases G5.mp hv with rfl|hv
       ·lia
       ·exact ih (by lia) v hv
     exact this z v hv
  ·obtain⟨p,l,hl,hp,e,zz⟩:=lastOf (q:=cs) (by lia);refine⟨c::p,l+1,by simp;lia,by simp[hp],by rw[e];rfl,λ j hj=>?_⟩;obtain⟨j,rfl⟩:∃k,j=k+1:=⟨j - 1,by lia⟩;rw[getD_cons_succ];exact zz j (by lia)
def vS(T:Nat):List Nat:=(List.range (T+1)).map (T - ·)
def bC:Nat->Nat->List Cs
 |0,T=>if T=0 then[[]]else[]
 |k+1,T=>(vS T).flatMap λ n=>(bC k (T - n)).map (n::·)
theorem yJ{T:Nat}:n∈vS T↔n<=T:=by
 unfold vS;rw[H0];constructor
 ·rintro⟨a,_,rfl⟩;lia
 ·intro h;exact⟨T - n,mem_range.mpr (by lia),by lia⟩
set_option tactic.hygienic true in
theorem bQ:∀{k T:Nat} {p:Cs},p∈bC k T↔p.length=k/\p.sum=T
 |0,T,p=>by
  unfold bC;split
  ·rename_i h;subst h;rw[p8];exact⟨λ h=>by subst h;exact⟨rfl,rfl⟩,λ h=>j1.mp h.1⟩
  ·rename_i h;refine⟨λ h=>(by cases h),λ g=>?_⟩;have:=j1.mp g.1;subst this;exact absurd g.2.symm h
 |k+1,T,p=>by
  unfold bC;rw[mem_flatMap];constructor
  ·rintro⟨n,hn,h⟩;rw[H0]at h;obtain⟨r,hr,rfl⟩:=h;rw[bQ]at hr;rw[yJ]at hn;refine⟨by simp[hr.1],?_⟩;show n+r.sum=T;lia
  ·rintro⟨hl,hs⟩;cases p with
   |nil=>cases hl
   |cons n r=>have hs:n+r.sum=T:=hs;refine⟨n,yJ.mpr (by lia),H0.mpr ⟨r,bQ.mpr ⟨by simpa using hl,by lia⟩,rfl⟩⟩
theorem MW(T:Nat):(vS T).Pairwise (· > ·):=by unfold vS;rw[pairwise_map];have h:(List.range (T+1)).Pairwise (· < ·):=pairwise_lt_range;refine List.Pairwise.imp_of_mem (λ{a b} ha hb Lb=>?_) h;rw[mem_range]at hb;show T - b < T - a;lia
theorem jO:∀(k T:Nat),(bC k T).Pairwise BO
 |0,T=>by unfold bC;split <;> simp
 |k+1,T=>by
  unfold bC;rw[pairwise_flatMap];refine⟨λ n _=>?_,?_⟩
  ·rw[pairwise_map];exact(jO k (T - n)).imp λ h=>.inr ⟨rfl,h⟩
  ·refine(MW T).imp λ{a b} h x hx y hy=>?_;rw[H0]at hx hy;obtain⟨r,_,rfl⟩:=hx;obtain⟨s,_,rfl⟩:=hy;exact .inl h
theorem x'(T:Nat):bC 1 T=[[T]]:=by
 have h1:∀p∈bC 1 T,p=[T]:=λ p hp=>by
  rw[bQ]at hp
  match p,hp with
  |[a],hp=>rw[show a=T from by simpa using hp.2]
 have h2:[T]∈bC 1 T:=bQ.mpr ⟨rfl,by simp⟩;have h3:=jO 1 T;generalize bC 1 T=l at*
 match l,h1,h2,h3 with
 |[a],h1,_,_=>rw[h1 a (by simp)]
 |a::b::c,h1,_,h3=>have ha:=h1 a (by simp);have hb:=h1 b (by simp);subst ha;subst hb;exact absurd ((pairwise_cons.mp h3).1 _ (by simp)) (iL _)
theorem iu{β:Type}{f:α->List β}{m:Nat}:∀{l:List α},(∀x∈l,(f x).length<=m)->(l.flatMap f).length<=l.length*m
 |[],_=>by simp
 |a::l,h=>by rw[flatMap_cons,o6,y8,Nat.succ_mul];have:=h a (by simp);have:=iu (f:=f) (m:=m) (l:=l) λ x hx=>h x (k7 _ hx);lia
theorem qF{B:Nat}:∀{k T:Nat},T < B->(bC (k+1) T).length<=B^k
 |0,T,h=>by rw[x'];simp
 |k+1,T,h=>by
  unfold bC;have:=iu (f:=λ n=>(bC (k+1) (T - n)).map (n::·)) (m:=B^k) (l:=vS T) λ n hn=>by rw[C1];exact qF (by lia)
  refine J0 this ?_;unfold vS;rw[C1,x8,Nat.pow_succ,Nat.mul_comm];exact Nat.mul_le_mul_left _ (by lia)
def qi(h T:Nat):List Cs:=(List.range T).flatMap (bC h)
theorem fz{h T:Nat}{p:Cs}:p∈qi h T↔p.length=h/\p.sum < T:=by
 unfold qi;rw[mem_flatMap];constructor
 ·rintro⟨n,hn,hp⟩;rw[bQ]at hp;rw[mem_range]at hn;exact⟨hp.1,by lia⟩
 ·rintro⟨a,b⟩;exact⟨p.sum,mem_range.mpr b,bQ.mpr ⟨a,rfl⟩⟩
theorem Ia(h T:Nat):(qi h T).Pairwise Ah:=by
 unfold qi;rw[pairwise_flatMap];refine⟨λ n _=>?_,?_⟩
 ·refine List.Pairwise.imp_of_mem (λ{a b} ha hb Lb=>?_) (jO h n);rw[bQ]at ha hb;exact .inr ⟨by lia,Lb⟩
 ·refine(pairwise_lt_range (n:=T)).imp λ{a b} h x hx y hy=>?_;rw[bQ]at hx hy;exact .inl (by lia)
theorem BG(h T:Nat):qi h (T+1)=qi h T++bC h T:=by unfold qi;rw[range_succ,flatMap_append,flatMap_singleton]
theorem uw{R:α->α->Prop}{Q:α->Prop}:∀{l:List α},l.Pairwise R->(∃x∈l,Q x)->∃x∈l,Q x/\∀y∈l,Q y->y=x\/R x y
 |[],_,h=>by obtain⟨x,hx,_⟩:=h;cases hx
 |a::l,hp,h=>by
  rw[pairwise_cons]at hp;by_cases ha:Q a
  ·refine⟨a,by simp,ha,λ y hy _=>?_⟩;rcases G5.mp hy with z|z
   ·exact .inl z
   ·exact .inr (hp.1 y z)
  ·obtain⟨x,hx,hq,hm⟩:=uw hp.2 (by
    obtain⟨x,hx,hq⟩:=h;rcases G5.mp hx with rfl|z
    ·exact absurd hq ha
    ·exact⟨x,z,hq⟩)
   refine⟨x,k7 _ hx,hq,λ y hy Gi=>?_⟩;rcases G5.mp hy with rfl|z
   ·exact absurd Gi ha
   ·exact hm y z Gi
def iO{α:Type}(f:α->α):Nat->α->α
 |0,x=>x
 |n+1,x=>iO f n (f x)
theorem ow(f:α->α):∀(n:Nat) (x:α),iO f (n+1) x=f (iO f n x)
 |0,x=>rfl
 |n+1,x=>by show iO f (n+1) (f x)=_;rw[ow f n];rfl
def dw{α:Type}(F:Nat->α->α):Nat->α->Cs->α
 |_,s,[]=>s
 |i,s,c::cs=>dw F (i+1) (iO (F i) c s) cs
structure qp{α:Type}(S:α->Prop)(h:Nat)(F:Nat->α->α):Prop where
 cl:∀s i,i < h->S s->S (F i s)
 cm:∀s i j,i < h->j < h->S s->F i (F j s)=F j (F i s)
section
variable {S:α->Prop}{h:Nat}{F:Nat->α->α}
theorem qp.iO(C:qp S h F)(hi:i < h):∀(n:Nat) (s:α),S s->S (iO (F i) n s)
 |0,s,hs=>hs
 |n+1,s,hs=>C.iO hi n _ (C.cl s i hi hs)
theorem qp.w_(C:qp S h F)(hi:i < h)(hj:j < h):∀(n:Nat) (s:α),S s->KK.iO (F i) n (F j s)=F j (KK.iO (F i) n s)
 |0,s,hs=>rfl
 |n+1,s,hs=>by show KK.iO (F i) n (F i (F j s))=F j (KK.iO (F i) n (F i s));rw[C.cm s i j hi hj hs,C.w_ hi hj n _ (C.cl s i hi hs)]
theorem qp.dw(C:qp S h F):∀(cs:Cs) (i:Nat) (s:α),i+cs.length<=h->S s->S (dw F i s cs)
 |[],i,s,_,hs=>hs
 |c::cs,i,s,hl,hs=>by rw[y8]at hl;exact C.dw cs (i+1) _ (by lia) (C.iO (by lia) _ _ hs)
theorem qp.PM(C:qp S h F)(hj:j < h):∀(cs:Cs) (i:Nat) (s:α),i+cs.length<=h->S s->KK.dw F i (F j s) cs=F j (KK.dw F i s cs)
 |[],i,s,_,hs=>rfl
 |c::cs,i,s,hl,hs=>by rw[y8]at hl;show KK.dw F (i+1) (KK.iO (F i) c (F j s)) cs=F j (KK.dw F (i+1) (KK.iO (F i) c s) cs);rw[C.w_ (by lia) hj c s hs,C.PM hj cs (i+1) _ (by lia) (C.iO (by lia) _ _ hs)]
theorem qp.inc(C:qp S h F):∀(cs:Cs) (i l:Nat) (s:α),i+cs.length<=h->l < cs.length->S s->KK.dw F i s (KK.inc cs l)=F (i+l) (KK.dw F i s cs)
 |c::cs,i,0,s,hl,_,hs=>by rw[y8]at hl;show KK.dw F (i+1) (KK.iO (F i) (c+1) s) cs=F i (KK.dw F (i+1) (KK.iO (F i) c s) cs);rw[ow,C.PM (by lia) cs (i+1) _ (by lia) (C.iO (by lia) _ _ hs)]
 |c::cs,i,l+1,s,hl,hc,hs=>by rw[y8]at hl hc;show KK.dw F (i+1) (KK.iO (F i) c s) (KK.inc cs l)=F (i+(l+1)) (KK.dw F (i+1) (KK.iO (F i) c s) cs);rw[C.inc cs (i+1) l _ (by lia) (by lia) (C.iO (by lia) _ _ hs),show i+1+l=i+(l+1) by lia]
def oZ(F:Nat->α->α)(s0:α)(h:Nat)(p:Cs):Prop:=p.length=h/\∀q:Cs,q.length=h->Ah q p->dw F 0 s0 q≠dw F 0 s0 p
theorem oZ.uniq{s0:α}{p q:Cs}(a:oZ F s0 h p)(b:oZ F s0 h q)(e:dw F 0 s0 p=dw F 0 s0 q):p=q:=by
 rcases Ah.Xy (p:=p) (q:=q) (by rw[a.1,b.1])with z|z|z
 ·exact z
 ·exact absurd e (b.2 p a.1 z)
 ·exact absurd e.symm (a.2 q b.1 z)
theorem oZ.ex(F:Nat->α->α)(s0:α)(h:Nat){p:Cs}(hp:p.length=h):∃q,oZ F s0 h q/\dw F 0 s0 q=dw F 0 s0 p/\(p=q\/Ah q p):=by
 obtain⟨q,hq,e,hm⟩:=uw (Q:=λ q=>dw F 0 s0 q=dw F 0 s0 p) (Ia h (p.sum+1)) ⟨p,fz.mpr ⟨hp,by lia⟩,rfl⟩;have Vn:=fz.mp hq;refine⟨q,⟨Vn.1,λ r hr ha er=>?_⟩,e,hm p (fz.mpr ⟨hp,by lia⟩) rfl⟩;have hs:r.sum<=q.sum:=by rcases ha with z|z <;> lia
 rcases hm r (fz.mpr ⟨hr,by lia⟩) (er.trans e)with z|z
 ·subst z;exact ha.WK
 ·exact ha.not z
theorem oZ.dn(C:qp S h F){s0:α}(h0:S s0){p:Cs}{l:Nat}(hl:l < p.length)(a:oZ F s0 h (KK.inc p l)):oZ F s0 h p:=by
 have hp:p.length=h:=by rw[<- iQ p l];exact a.1
 refine⟨hp,λ q hq ha e=>?_⟩;refine a.2 (KK.inc q l) (by rw[iQ];exact hq) (ha.inc (by lia) hl) ?_;rw[C.inc q 0 l s0 (by lia) (by lia) h0,C.inc p 0 l s0 (by lia) hl h0,e]
def jB(h:Nat):Cs:=List.replicate h 0
theorem rH:∀{p:Cs},p.sum=0->p=jB p.length
 |[],_=>rfl
 |a::as,e=>by have e:a+as.sum=0:=e;have:=rH (p:=as) (by lia);show a::as=List.replicate (as.length+1) 0;rw[l9,show a=0 by lia];exact K7 _ this
theorem mh(h:Nat):(jB h).sum=0:=by unfold jB;simp
theorem fM(F:Nat->α->α)(s:α):∀(h i:Nat),dw F i s (jB h)=s
 |0,i=>rfl
 |h+1,i=>by show dw F (i+1) s (jB h)=s;exact fM F s h (i+1)
theorem oZ.jB(F:Nat->α->α)(s0:α)(h:Nat):oZ F s0 h (jB h):=by
 refine⟨by simp[KK.jB],λ q hq ha=>?_⟩;rcases ha with z|z
 ·rw[mh]at z;lia
 ·rw[mh]at z;have:=rH z.1;rw[hq]at this;rw[this]at z;exact absurd z.2 (iL _)
theorem oZ.par(C:qp S h F){s0:α}(h0:S s0){q:Cs}(a:oZ F s0 h q)(hz:q≠KK.jB h):∃p l,l < h/\p.length=h/\q=KK.inc p l/\zb p l/\oZ F s0 h p/\p.sum < q.sum:=by
 have hs:0 < q.sum:=Nat.pos_of_ne_zero λ z=>hz (by have:=rH z;rwa [a.1]at this);obtain⟨p,l,hl,hp,e,z⟩:=lastOf hs;have lK:l < p.length:=by lia
 subst e;refine⟨p,l,by rw[<- a.1];exact hl,by rw[hp];exact a.1,rfl,z,a.dn C h0 lK,by rw[j_ lK];lia⟩
theorem oZ.ck(C:qp S h F){s0:α}(h0:S s0){U:List α}(hU:∀s,S s->s∈U){p:Cs}(a:oZ F s0 h p):p.sum < U.length:=by
 have key:∀(n:Nat) (p:Cs),p.sum=n->oZ F s0 h p->∃L:List Cs,L.length=p.sum+1/\L.Nodup/\∀q∈L,oZ F s0 h q/\q.sum<=p.sum:=λ n=>by
  induction n with
  |zero=>exact λ p e fp=>⟨[p],by simp[e],by simp,λ q hq=>by rw[p8.mp hq];exact⟨fp,J7 _⟩⟩
  |succ n ih=>
   intro p e fp;obtain⟨p',l,hl,hp,e',z,Zq,hs⟩:=fp.par C h0 (λ z=>by rw[z,mh]at e;lia);have es:p.sum=p'.sum+1:=by rw[e',j_ (by lia)]
   obtain⟨L,hL,nd,hm⟩:=ih p' (by lia) Zq;refine⟨p::L,by rw[y8,hL];lia,nodup_cons.mpr ⟨λ hp=>?_,nd⟩,λ q hq=>?_⟩
   ·have:=(hm p hp).2;lia
   ·rcases G5.mp hq with rfl|g
    ·exact⟨fp,J7 _⟩
    ·have:=hm q g;exact⟨this.1,by lia⟩
 obtain⟨L,hL,nd,hm⟩:=key p.sum p rfl a;have X7:(L.map (dw F 0 s0)).Nodup:=by unfold List.Nodup;rw[pairwise_map];refine List.Pairwise.imp_of_mem (λ{x y} hx hy Yp e=>?_) nd;exact Yp ((hm x hx).1.uniq (hm y hy).1 e)
 have:=List.Nodup.length_le_of_subset X7 (l₂:=U) λ s hs=>by obtain⟨q,hq,rfl⟩:=H0.mp hs;exact hU _ (C.dw q 0 s0 (by rw[(hm q hq).1.1];lia) h0)
 rw[C1]at this;lia
end
open L3 L4 L5
inductive tG{α:Type}(F:Nat->α->α)(h:Nat)(s0:α):α->Prop
 |zero:tG F h s0 s0
 |step {s:α} {i:Nat}:tG F h s0 s->i < h->tG F h s0 (F i s)
set_option tactic.hygienic true in
theorem tG.sum{S:α->Prop}{h:Nat}{F:Nat->α->α}{s0:α}(C:qp S h F)(h0:S s0){s:α}(r:tG F h s0 s):∃p:Cs,p.length=h/\dw F 0 s0 p=s:=by
 induction r with
 |zero=>exact⟨jB h,by simp[jB],fM F s0 h 0⟩
 |step r hi ih=>obtain⟨p,hp,e⟩:=ih;rename_i i;exact⟨inc p i,by rw[iQ];exact hp,by rw[C.inc p 0 i s0 (by lia) (by lia) h0,e,J1]⟩
theorem tG.ok{S:α->Prop}{h:Nat}{F:Nat->α->α}{s0:α}(C:qp S h F)(h0:S s0){s:α}(r:tG F h s0 s):S s:=by
 induction r with
 |zero=>exact h0
 |step r hi ih=>exact C.cl _ _ hi ih
structure dD(m h:Nat)(x0:List Row):Prop where
 tb:Tb m h x0
 eW:qp (· < m) h (aM x0)
 BM:∀x,x < m->tG (aM x0) h 0 x
structure cZ{α:Type}(F:Nat->α->α)(aW:List α)(s:α)(i:Nat)(r:Row):Prop where
 len:r.length=i
 at':∀j,j < i->∃k:Nat,r[j]?=some (k:Int)/\aW[k]?=some (F j s)
theorem cZ.app{F:Nat->α->α}{aW ts:List α}{s:α}{r:Row}(a:cZ F aW s i r):cZ F (aW++ts) s i r:=
 ⟨a.len,λ j hj=>by
  obtain⟨k,e,h⟩:=a.at' j hj;exact⟨k,e,by rw[c8 (i3.mp h).1];exact h⟩⟩
theorem cZ.next{F:Nat->α->α}{aW:List α}{s:α}{r:Row}(a:cZ F aW s i r)(hk:aW[k]?=some (F i s)):cZ F aW s (i+1) (r++[(k:Int)]):=by
 refine⟨by simp[a.len],λ j hj=>?_⟩;by_cases g:j < i
 ·obtain⟨k,e,h⟩:=a.at' j g;exact⟨k,by rw[c8 (by rw[a.len];exact g)];exact e,h⟩
 ·have:j=i:=by lia
  subst this;refine⟨k,?_,hk⟩;rw[a9 (by rw[a.len];exact J7 _),a.len,Nat.sub_self];rfl
theorem cZ.nil(F:Nat->α->α)(aW:List α)(s:α):cZ F aW s 0 []:=⟨rfl,λ j hj=>absurd hj (by lia)⟩
structure rG{α:Type}(F:Nat->α->α)(s0:α)(h:Nat)(U aW:List α)(x0:List Row):Prop where
 nd:aW.Nodup
 tO:aW[0]?=some s0
 BM:∀s∈aW,tG F h s0 s
 sub:∀s∈aW,s∈U
 row:∀(d:Nat) (r:Row),x0[d]?=some r->∃s,aW[d]?=some s/\cZ F aW s h r
section
variable {F:Nat->α->α}{s0:α}{h:Nat}{U aW:List α}
theorem rG.start(hU:s0∈U):rG F s0 h U [s0] []:=
 ⟨by simp,rfl,λ s hs=>by rw[p8.mp hs];exact .zero,λ s hs=>by rw[p8.mp hs];exact hU,λ d r e=>by cases e⟩
theorem rG.add(e:rG F s0 h U aW x0){d:Nat}{s:α}(hd:aW[d]?=some s)(hi:i < h)(hU:F i s∈U)(hn:F i s∉aW):rG F s0 h U (aW++[F i s]) x0:=by
 refine⟨nodup_append.mpr ⟨e.nd,by simp,λ a ha b hb z=>hn (by rw[<- p8.mp hb,<- z];exact ha)⟩,?_,λ t ht=>?_,λ t ht=>?_,λ j r hj=>?_⟩
 ·rw[c8 (i3.mp e.tO).1];exact e.tO
 ·rcases C2.mp ht with z|z
  ·exact e.BM t z
  ·rw[p8.mp z];exact .step (e.BM s (k8 hd)) hi
 ·rcases C2.mp ht with z|z
  ·exact e.sub t z
  ·rw[p8.mp z];exact hU
 ·obtain⟨t,ht,hr⟩:=e.row j r hj;exact⟨t,by rw[c8 (i3.mp ht).1];exact ht,hr.app⟩
theorem rG.next(e:rG F s0 h U aW x0){s:α}{r:Row}(hd:aW[x0.length]?=some s)(hr:cZ F aW s h r):rG F s0 h U aW (x0++[r]):=by
 refine⟨e.nd,e.tO,e.BM,e.sub,λ j q hj=>?_⟩;by_cases g:j < x0.length
 ·rw[c8 g]at hj;exact e.row j q hj
 ·have hl:=(i3.mp hj).1;rw[o6,j8]at hl;have:j=x0.length:=by lia
  subst this;rw[a9 (J7 _),Nat.sub_self]at hj;cases hj;exact⟨s,hd,hr⟩
theorem rG.ck(e:rG F s0 h U aW x0):aW.length<=U.length:=List.Nodup.length_le_of_subset e.nd e.sub
theorem Eb{l:List α}(h:l.Nodup){x:α}(a:l[i]?=some x)(b:l[j]?=some x):i=j:=by obtain⟨hi,_⟩:=i3.mp a;exact(getElem?_inj hi h).mp (a.trans b.symm)
theorem rG.at(e:rG F s0 h U aW x0)(hl:x0.length=aW.length){d:Nat}{s:α}(hd:aW[d]?=some s)(hi:i < h):aW[aM x0 i d]?=some (F i s):=by have VI:=(i3.mp hd).1;obtain⟨t,ht,hr⟩:=e.row d x0[d] (i6 (by lia));rw[hd]at ht;cases ht;obtain⟨k,e1,e2⟩:=hr.at' i hi;unfold aM;rw[c7 (l:=x0),i6 (l:=x0) (i:=d) (by lia)];show aW[((x0[d]).getD i 0).toNat]?=_;rw[c7,e1];exact e2
theorem rG.tb{S:α->Prop}(C:qp S h F)(h0:S s0)(e:rG F s0 h U aW x0)(hl:x0.length=aW.length)(hU:U.length<=300)(hh:h<=12):dD x0.length h x0:=by
 have h1:0 < aW.length:=(i3.mp e.tO).1;have lt:∀{d i:Nat},d < x0.length->i < h->aM x0 i d < x0.length:=λ{d i} hd hi=>by rw[hl];exact(i3.mp (e.at hl (i6 (show d < aW.length by lia)) hi)).1
 refine⟨⟨rfl,by lia,by have:=e.ck;lia,hh,λ r hr=>?_⟩,⟨λ x i hi hx=>lt hx hi,λ x i j hi hj hx=>?_⟩,λ x hx=>?_⟩
 ·obtain⟨d,hd⟩:=getElem?_of_mem hr;obtain⟨s,hs,EN⟩:=e.row d r hd;refine⟨EN.len,λ x hx=>?_⟩;obtain⟨j,hj⟩:=getElem?_of_mem hx;have YR:=(i3.mp hj).1;obtain⟨k,e1,e2⟩:=EN.at' j (by rw[<- EN.len];exact YR);rw[hj]at e1;cases e1;have:=(i3.mp e2).1;lia
 ·have hs:=i6 (show x < aW.length by lia);have ss:=(e.BM _ (k8 hs)).ok C h0;refine Eb e.nd (x:=F i (F j aW[x])) (e.at hl (e.at hl hs hj) hi) ?_;rw[C.cm _ i j hi hj ss];exact e.at hl (e.at hl hs hi) hj
 ·have hs:=i6 (show x < aW.length by lia);have key:∀s,tG F h s0 s->∃k,aW[k]?=some s/\tG (aM x0) h 0 k:=λ s r=>by
   induction r with
   |zero=>exact⟨0,e.tO,.zero⟩
   |step r hi ih=>obtain⟨k,hk,hr⟩:=ih;exact⟨_,e.at hl hk hi,.step hr hi⟩
  obtain⟨k,hk,hr⟩:=key _ (e.BM _ (k8 hs));rw[Eb e.nd hs hk];exact hr
end
def Pj(m h:Nat)(x0:List Row)(f:Nat->Cs):Prop:=∀x,x < m->oZ (aM x0) 0 h (f x)/\dw (aM x0) 0 0 (f x)=x
theorem dD.fst{h:Nat}(T:dD m h x0):∃f,Pj m h x0 f:=by
 have:∀x:Nat,∃p:Cs,x < m->oZ (aM x0) 0 h p/\dw (aM x0) 0 0 p=x:=λ x=>by
  by_cases hx:x < m
  ·obtain⟨p,hp,e⟩:=(T.BM x hx).sum T.eW T.tb.pos;obtain⟨q,fq,eq,_⟩:=oZ.ex (aM x0) 0 h hp;exact⟨q,λ _=>⟨fq,by rw[eq,e]⟩⟩
  ·exact⟨[],λ g=>absurd g hx⟩
 exact⟨λ x=>Classical.choose (this x),λ x hx=>Classical.choose_spec (this x) hx⟩
theorem Pj.ck{h:Nat}{f:Nat->Cs}(T:dD m h x0)(hf:Pj m h x0 f){x:Nat}(hx:x < m):(f x).sum < m:=by
 have:=(hf x hx).1.ck T.eW (s0:=0) T.tb.pos (U:=List.range m) λ s hs=>mem_range.mpr hs
 rwa [x8]at this
abbrev nD(v:Nat):D:=.int (v:Int)
def fO(p:Cs):D:=.tup (p.map nD)
theorem zK(p:Cs):fO p=row (p.map λ v:Nat=>(v:Int)):=by unfold fO row;rw[H9];rfl
theorem rK(x0:List Row):∀(p:Cs) (i x:Nat),Gg x0 i x (p.map λ v:Nat=>(v:Int))=dw (aM x0) i x p
 |[],i,x=>rfl
 |c::cs,i,x=>by
  have e:∀n y,wZ (aM x0 i) n y=iO (aM x0 i) n y:=λ n=>by
   induction n with
   |zero=>exact λ y=>rfl
   |succ n ih=>exact λ y=>by show wZ (aM x0 i) n (aM x0 i y)=_;rw[ih];rfl
  show Gg x0 (i+1) (wZ (aM x0 i) c x) (cs.map _)=dw (aM x0) (i+1) (iO (aM x0 i) c x) cs;rw[rK x0 cs,e]
open L3 L4 L5
open L2 hiding aH
theorem lA{M':Mem}{c:ww}(h:bi M M')(F:Flow M f c):Fl f c M M':=by obtain⟨ns,p,b,sd,ct,h1,h2,h3⟩:=F;exact⟨⟨ns,p,b,sd,ct,h _ _ h1,h _ _ h2,h3⟩,λ b o _ e=>h b o e⟩
theorem bi.rfl:bi M M:=λ _ _ e=>e
structure Enc{α:Type}(k:Nat)(enc:α->D):Prop where
 inj:∀a b,enc a=enc b->a=b
 pl:∀a,Pl k (enc a)
structure Sx{α:Type}(enc:α->D)(F:Nat->α->α)(s0:α)(h:Nat)(U:List α)(p q:ww)(aW:List α)(x0:List Row)(M0 M:Mem):Prop where
 ext:bi M0 M
 np:M0 p=none
 nq:M0 q=none
 pq:p≠q
 st:M p=some (.lst (aW.map enc))
 hG:M q=some (.lst (x0.map row))
 ex:rG F s0 h U aW x0
 le:x0.length<=aW.length
section
variable {enc:α->D}{F:Nat->α->α}{s0:α}{h:Nat}{U:List α}{r:ww}{aW:List α}{M0:Mem}
theorem Sx.new(x:Sx enc F s0 h U p q aW x0 M0 M)(hr:M r=none)(o:MO):Sx enc F s0 h U p q aW x0 M0 (ai M r o):=
 ⟨x.ext.new hr o,x.np,x.nq,x.pq,by rw[aq (a_ x.st hr)];exact x.st,by rw[aq (a_ x.hG hr)];exact x.hG,x.ex,x.le⟩
theorem Sx.free(x:Sx enc F s0 h U p q aW x0 M0 M)(hr:M r=none):M0 r=none/\p≠r/\q≠r:=⟨x.ext.free hr,a_ x.st hr,a_ x.hG hr⟩
theorem Sx.own(x:Sx enc F s0 h U p q aW x0 M0 M)(hr:M0 r=none/\p≠r/\q≠r)(o:MO):Sx enc F s0 h U p q aW x0 M0 (ai M r o):=
 ⟨x.ext.own hr.1,x.np,x.nq,x.pq,by rw[aq hr.2.1];exact x.st,by rw[aq hr.2.2];exact x.hG,x.ex,x.le⟩
theorem Sx.add(x:Sx enc F s0 h U p q aW x0 M0 M){d:Nat}{s:α}(hd:aW[d]?=some s)(hi:i < h)(hU:F i s∈U)(hn:F i s∉aW):Sx enc F s0 h U p q (aW++[F i s]) x0 M0 (ai M p (.lst (aW.map enc++[enc (F i s)]))):=
 ⟨x.ext.own x.np,x.np,x.nq,x.pq,by rw[af,C3];rfl,by rw[aq (K8 x.pq)];exact x.hG,x.ex.add hd hi hU hn,by rw[o6];have:=x.le;lia⟩
theorem Sx.next(x:Sx enc F s0 h U p q aW x0 M0 M){s:α}{r:Row}(hd:aW[x0.length]?=some s)(hr:cZ F aW s h r):Sx enc F s0 h U p q aW (x0++[r]) M0 (ai M q (.lst (x0.map row++[row r]))):=
 ⟨x.ext.own x.nq,x.np,x.nq,x.pq,by rw[aq x.pq];exact x.st,by rw[af,C3];rfl,x.ex.next hd hr,by
  have:=(i3.mp hd).1;rw[o6,j8];lia⟩
theorem Sx.ck(x:Sx enc F s0 h U p q aW x0 M0 M):aW.length<=U.length/\x0.length<=U.length:=by have:=x.ex.ck;have:=x.le;lia
end
theorem sO[DecidableEq α]{xs:List α}{a:α}(h:a∈xs):xs[xs.idxOf a]?=some a:=by rw[i6 (idxOf_lt_length_of_mem h),getElem_idxOf]
def cnt(v lo w:Nat):Nat:=if v < lo+w then v else lo+(v - lo) % w
theorem FH{v lo w:Nat}(h:0 < w):cnt v lo w < lo+w:=by
 unfold cnt;split
 ·lia
 ·have:=Nat.mod_lt (v - lo) h;lia
theorem zM{v a lo w:Nat}(h:0 < w):cnt (cnt v lo w+a) lo w=cnt (v+a) lo w:=by
 unfold cnt;by_cases g:v < lo+w
 ·rw[K9 g]
 ·rw[L1 g];have hm:=Nat.mod_lt (v - lo) h;have e2:((v - lo) % w+a) % w=(v+a - lo) % w:=by rw[Nat.mod_add_mod];congr 1;lia
  by_cases g2:lo+(v - lo) % w+a < lo+w
  ·rw[K9 g2,L1 (by lia),<- e2,Nat.mod_eq_of_lt (show(v - lo) % w+a < w by lia)];lia
  ·rw[L1 g2,L1 (by lia),<- e2,show lo+(v - lo) % w+a - lo=(v - lo) % w+a by lia]
theorem zL{v a b lo w:Nat}(h:0 < w):cnt (cnt (v+a) lo w+b) lo w=cnt (cnt (v+b) lo w+a) lo w:=by rw[zM h,zM h,show v+a+b=v+b+a by lia]
def gs(m:Nat)(ls:Row):Prop:=ls.Pairwise (· < ·)/\∀x∈ls,0<=x/\x < (m:Int)
theorem gs.nil(m:Nat):gs m []:=⟨.nil,λ x h=>by cases h⟩
theorem gs.up(h:gs m ls):gs (m+1) ls:=⟨h.1,λ x hx=>by have:=h.2 x hx;lia⟩
theorem gs.add(h:gs m ls):gs (m+1) (ls++[(m:Int)]):=by
 refine⟨pairwise_append.mpr ⟨h.1,by simp,λ x hx y hy=>?_⟩,λ x hx=>?_⟩
 ·rw[p8.mp hy];exact(h.2 x hx).2
 ·rcases C2.mp hx with z|z
  ·have:=h.2 x z;lia
  ·rw[p8.mp z];lia
theorem gs.ck:∀{ls:Row},gs m ls->ls.length<=m:=λ{ls} h=>by
 have nd:(ls.map Int.toNat).Nodup:=by unfold List.Nodup;rw[pairwise_map];refine List.Pairwise.imp_of_mem (λ{a b} ha hb Lb=>?_) h.1;have:=h.2 a ha;have:=h.2 b hb;lia
 have:=List.Nodup.length_le_of_subset nd (l₂:=List.range m) λ x hx=>by obtain⟨y,hy,rfl⟩:=H0.mp hx;have:=h.2 y hy;exact mem_range.mpr (by lia)
 rwa [C1,x8]at this
open L3 L4 L5
open L2 hiding aH
theorem mj[DecidableEq α]{enc:α->D}{F:Nat->α->α}{s0:α}{h:Nat}{U:List α}{pw:ww}{aW:List α}{M0:Mem}{r:Row}{s:α}{jt js jr:Nat}{E:kr} (en:Enc k enc) (hk:k<=60) (X:Sx enc F s0 h U p q aW x0 M0 M) (hb:U.length<=300) (hh:h<=12) (fw:M0 pw=none/\p≠pw/\q≠pw) (hw:M pw=some (.lst (r.map D.int))) (hr:cZ F aW s i r) (hd:aW[x0.length]?=some s) (hi:i < h) (hU:F i s∈U) (et:δ[jt]?=some (some (enc (F i s)))) (es:δ[js]?=some (some (.ref p))) (er:δ[jr]?=some (some (.ref pw))) (kk:∀(gx:List α) (r':Row) (M':Mem),Sx enc F s0 h U p q gx x0 M0 M'->M' pw=some (.lst (r'.map D.int))->cZ F gx s (i+1) r'->gx[x0.length]?=some s->E.nx δ M'):CM (Hd (qK (CO mJ (jd jt) (jd js))) (uk (Pu "list" mK (jd js) (qL (jd jt) AA))) yj) (uk (Pu "list" mK (jd jr) (qL (Pu "list" xD (jd js) (qL (jd jt) AA)) AA))) E δ M:=by
 have vt:∀{M:Mem} {Q:bR},Q (enc (F i s)) M->jd jt δ M Q:=λ q=>nN et q;have vs:∀{M:Mem} {Q:bR},Q (.ref p) M->jd js δ M Q:=λ q=>nN es q;have vr:∀{M:Mem} {Q:bR},Q (.ref pw) M->jd jr δ M Q:=λ q=>nN er q;refine gB (λ δ' M'=>δ'=δ/\∃gx,Sx enc F s0 h U p q gx x0 M0 M'/\M' pw=some (.lst (r.map D.int))/\cZ F gx s i r/\gx[x0.length]?=some s/\F i s∈gx) (λ N hN=>?_) ?_
 ·refine Dl (yo (Kv (vt (vs ?_))));refine nO (k:=k) (b:=decide (F i s∈aW)) (ds:=aW.map enc) (dg X.st) (en.pl _) (dY λ x _=>en.pl x) hk (by rw[decide_eq_true_iff];exact(sr en.inj _).symm) ?_;refine eC (λ hn=>?_) (λ hn=>?_)
  ·have hn:F i s∉aW:=by simpa using hn
   refine rY (yu (vs ⟨⟨rfl,_,X.st⟩,my (vt (kT ?_))⟩));refine gC X.st (by rw[C1];have:=X.ck;exact p6 (show aW.length<=300 by lia) (by decide)) ?_;exact hN _ _ ⟨rfl,aW++[F i s],X.add hd hi hU hn,by rw[aq (K8 fw.2.1)];exact hw,hr.app,by rw[c8 (i3.mp hd).1];exact hd,by simp⟩
  ·have hn:F i s∈aW:=by simpa using hn
   exact hN _ _ ⟨rfl,aW,X,hw,hr,hd,hn⟩
 ·rintro δ' M' ⟨rfl,gx,X,hw,hr,hd,hm⟩;refine rY (yu (vr ⟨⟨rfl,_,hw⟩,my (yu (vs ⟨⟨rfl,_,X.st⟩,my (vt (kT ?_))⟩))⟩));refine ib enc en.inj X.st hm en.pl hk ?_;refine kT (gC hw (by rw[C1,hr.len];exact p6 (show i<=300 by lia) (by decide)) ?_);exact kk gx (r++[((gx.idxOf (F i s):Nat):Int)]) _ (X.own fw _) (by rw[af,C3];rfl) (hr.next (sO hm)) hd
open L3 L4 L5
open L2 hiding aH
theorem cD:Enc 0 nD:=⟨λ a b z=>Int.ofNat.inj (D.int.inj z),λ a=>cI 0 _⟩
theorem JP:Enc 1 fO:=by refine⟨λ a b z=>?_,λ a=>wH λ e he=>by obtain⟨x,_,rfl⟩:=H0.mp he;exact cI 0 _⟩;have:=D.tup.inj z;exact List.map_inj_right (f:=nD) (λ a b z=>cD.inj a b z) |>.mp this
def pD(p:Nat×Nat):D:=.tup [.int (p.1:Int),.int (p.2:Int)]
theorem Fv:Enc 1 pD:=by
 refine⟨λ a b z=>?_,λ a=>wH λ e he=>?_⟩
 ·have:=D.tup.inj z;injection this with h1 h2
  injection h2 with h2 _
  exact Prod.ext (cD.inj _ _ h1) (cD.inj _ _ h2)
 ·rcases G5.mp he with rfl|he
  ·exact cI 0 _
  ·rw[p8.mp he];exact cI 0 _
def stC:List (Nat×Nat)->Cs->Cs->Cs
 |(lo,w)::cs,a::ws,v::s=>cnt (v+a) lo w::stC cs ws s
 |_,_,_=>[]
def tm:List (Nat×Nat)->List Cs
 |[]=>[[]]
 |(lo,w)::cs=>(List.range (lo+w)).flatMap λ x=>(tm cs).map (x::·)
theorem yc:∀{cs:List (Nat×Nat)} {ws s:Cs},ws.length=cs.length->s.length=cs.length->(stC cs ws s).length=cs.length
 |[],[],[],_,_=>rfl
 |(lo,w)::cs,a::ws,v::s,h,g=>by show(stC cs ws s).length+1=_;rw[yc (cs:=cs) (by simpa using h) (by simpa using g)];rfl
theorem yd:∀{cs:List (Nat×Nat)} {ws us s:Cs},(∀c∈cs,0 < c.2)->ws.length=cs.length->us.length=cs.length->s.length=cs.length->stC cs ws (stC cs us s)=stC cs us (stC cs ws s)
 |[],_,_,_,_,_,_,_=>rfl
 |(lo,w)::cs,a::ws,b::us,v::s,hc,h1,h2,h3=>by show cnt (cnt (v+b) lo w+a) lo w::stC cs ws (stC cs us s)=cnt (cnt (v+a) lo w+b) lo w::stC cs us (stC cs ws s);rw[zL (hc (lo,w) (by simp)),yd (λ c hh=>hc c (by simp[hh])) (by simpa using h1) (by simpa using h2) (by simpa using h3)]
theorem ye:∀{cs:List (Nat×Nat)} {ws s:Cs},(∀c∈cs,0 < c.2)->ws.length=cs.length->s.length=cs.length->stC cs ws s∈tm cs
 |[],[],[],_,_,_=>by simp[stC,tm]
 |(lo,w)::cs,a::ws,v::s,hc,h1,h2=>by show cnt (v+a) lo w::stC cs ws s∈(List.range (lo+w)).flatMap λ x=>(tm cs).map (x::·);rw[mem_flatMap];exact⟨_,mem_range.mpr (FH (hc (lo,w) (by simp))),H0.mpr ⟨_,ye (λ c hh=>hc c (by simp[hh])) (by simpa using h1) (by simpa using h2),rfl⟩⟩
theorem xU:∀{cs:List (Nat×Nat)},(∀c∈cs,0 < c.2)->jB cs.length∈tm cs
 |[],_=>by simp[jB,tm]
 |(lo,w)::cs,hc=>by show 0::jB cs.length∈(List.range (lo+w)).flatMap λ x=>(tm cs).map (x::·);rw[mem_flatMap];have:=hc (lo,w) (by simp);exact⟨0,mem_range.mpr (by show 0 < lo+w;have:0 < w:=this;lia),H0.mpr ⟨_,xU λ c hh=>hc c (by simp[hh]),rfl⟩⟩
theorem tj(cs:List (Nat×Nat))(lo w:Nat):(tm ((lo,w)::cs)).length=(lo+w)*(tm cs).length:=by show((List.range (lo+w)).flatMap λ x=>(tm cs).map (x::·)).length=_;rw[length_flatMap];simp only[C1];rw[map_const',x8,sum_replicate_nat]
abbrev We:=Nat×Nat×Nat×Nat
def wb:List (Nat×Nat)->Cs->Cs->List We
 |c::cs,a::ws,v::s=>(v,a,c)::wb cs ws s
 |_,_,_=>[]
def Cf(t:We):D:=.tup [.int (t.1:Int),.int (t.2.1:Int),pD t.2.2]
theorem xY:∀{cs:List (Nat×Nat)} {ws s:Cs},ws.length=cs.length->s.length=cs.length->tT (s.map nD) (ws.map nD) (cs.map pD)=(wb cs ws s).map Cf/\stC cs ws s=(wb cs ws s).map λ t=>cnt (t.1+t.2.1) t.2.2.1 t.2.2.2
 |[],[],[],_,_=>⟨rfl,rfl⟩
 |c::cs,a::ws,v::s,h,g=>by
  have ih:=xY (cs:=cs) (ws:=ws) (s:=s) (by simpa using h) (by simpa using g);refine⟨?_,?_⟩
  ·show Cf (v,a,c)::tT (s.map nD) (ws.map nD) (cs.map pD)=Cf (v,a,c)::(wb cs ws s).map Cf;rw[ih.1]
  ·show cnt (v+a) c.1 c.2::stC cs ws s=cnt (v+a) c.1 c.2::(wb cs ws s).map _;rw[ih.2]
theorem xZ:∀{cs:List (Nat×Nat)} {ws s:Cs} {t:We},t∈wb cs ws s->t.2.2∈cs
 |c::cs,a::ws,v::s,t,h=>by
  rcases G5.mp (show t∈(v,a,c)::wb cs ws s from h)with e|e
  ·rw[e];simp
  ·exact k7 _ (xZ e)
 |[],_,_,_,h=>by cases h
 |_::_,[],_,_,h=>by cases h
 |_::_,_::_,[],_,h=>by cases h
theorem x_:∀{cs:List (Nat×Nat)} {ws s:Cs},(wb cs ws s).length<=cs.length
 |c::cs,a::ws,v::s=>by show(wb cs ws s).length+1<=cs.length+1;exact Nat.succ_le_succ x_
 |[],_,_=>J7 _
 |_::_,[],_=>J9 _
 |_::_,_::_,[]=>J9 _
def lP(cs:List (Nat×Nat)):Prop:=(∃lo w,cs=[(lo,w)]/\lo<=3/\1<=w/\w<=4)\/∃lo w Pz w',cs=[(lo,w),(Pz,w')]/\lo<=2/\1<=w/\w<=2/\Pz<=2/\1<=w'/\w'<=2
theorem lP.pos(h:lP cs):∀c∈cs,0 < c.2:=by
 rcases h with⟨lo,w,rfl,_,h,_⟩|⟨lo,w,Pz,w',rfl,_,h,_,_,h',_⟩
 ·intro c hc;rw[p8.mp hc];exact h
 ·intro c hc;rcases G5.mp hc with rfl|hc
  ·exact h
  ·rw[p8.mp hc];exact h'
theorem lP.box(h:lP cs):(tm cs).length<=16/\1<=cs.length/\cs.length<=2:=by
 rcases h with⟨lo,w,rfl,h1,h2,h3⟩|⟨lo,w,Pz,w',rfl,h1,h2,h3,h4,h5,h6⟩
 ·rw[tj];show(lo+w)*1<=16/\1<=1/\1<=2;lia
 ·rw[tj,tj];show(lo+w)*((Pz+w')*1)<=16/\1<=2/\2<=2;refine⟨J0 (Nat.mul_le_mul (show lo+w<=4 by lia) (show(Pz+w')*1<=4 by lia)) (by decide),by lia,by lia⟩
theorem lP.eW(h:lP cs){ws:List Cs}(hw:∀w∈ws,w.length=cs.length):qp (λ s:Cs=>s.length=cs.length) ws.length (λ i s=>stC cs (ws.getD i []) s):=by
 have hl:∀{i},i < ws.length->(ws.getD i []).length=cs.length:=λ{i} hi=>by rw[c7,i6 hi];exact hw _ (A3 hi)
 exact⟨λ s i hi hs=>yc (hl hi) hs,λ s i j hi hj hs=>yd h.pos (hl hi) (hl hj) hs⟩
def stN(L:Nat)(sz:Cs)(i:Nat)(s:Nat×Nat):Nat×Nat:=(s.1^^^sz.getD i 0,max s.2 (if 1 < sz.getD i 0 then 1 else 0)*L)
def FN:List (Nat×Nat):=(List.range 8).flatMap λ a=>(List.range 2).map λ b=>(a,b)
theorem yK{s:Nat×Nat}:s∈FN↔s.1 < 8/\s.2 < 2:=by
 unfold FN;rw[mem_flatMap];constructor
 ·rintro⟨a,ha,h⟩;obtain⟨b,hb,rfl⟩:=H0.mp h;exact⟨mem_range.mp ha,mem_range.mp hb⟩
 ·rintro⟨h1,h2⟩;exact⟨s.1,mem_range.mpr h1,H0.mpr ⟨s.2,mem_range.mpr h2,rfl⟩⟩
theorem GS{L h:Nat}{sz:Cs}(hL:L<=1)(hs:∀x∈sz,x < 5):qp (λ s=>s∈FN) h (stN L sz):=by
 have hz:∀i,sz.getD i 0 < 5:=λ i=>by
  rw[c7];cases e:sz[i]? with
  |none=>decide
  |some v=>exact hs v (k8 e)
 refine⟨λ s i _ hs=>?_,λ s i j _ _ _=>?_⟩
 ·rw[yK]at hs ⊢;refine⟨Nat.xor_lt_two_pow (n:=3) hs.1 (by have:=hz i;show sz.getD i 0 < 8;lia),?_⟩;show max s.2 (if 1 < sz.getD i 0 then 1 else 0)*L < 2;have:max s.2 (if 1 < sz.getD i 0 then 1 else 0)<=1:=by refine Nat.max_le.mpr ⟨by lia,?_⟩;split <;> lia
  exact p6 (Nat.mul_le_mul this hL) (by decide)
 ·unfold stN;dsimp only;refine Prod.ext ?_ ?_
  ·show s.1^^^_^^^_=s.1^^^_^^^_;rw[Nat.xor_assoc,Nat.xor_assoc,Nat.xor_comm (sz.getD j 0)]
  ·show max (max s.2 _*L) _*L=max (max s.2 _*L) _*L;rcases Nat.le_one_iff_eq_zero_or_eq_one.mp hL with e|e
   ·subst e;simp
   ·subst e;simp only[Nat.mul_one];rw[Nat.max_assoc,Nat.max_assoc,Nat.max_comm (if 1 < sz.getD j 0 then 1 else 0)]
def Pp(x0:List Row)(w:Nat)(ws:Cs)(i:Nat)(s:Nat×Nat):Nat×Nat:=(aM x0 i s.1,(s.2+ws.getD i 0) % w)
def BE(m w:Nat):List (Nat×Nat):=(List.range m).flatMap λ a=>(List.range w).map λ b=>(a,b)
theorem mD{w:Nat}{s:Nat×Nat}:s∈BE m w↔s.1 < m/\s.2 < w:=by
 unfold BE;rw[mem_flatMap];constructor
 ·rintro⟨a,ha,h⟩;obtain⟨b,hb,rfl⟩:=H0.mp h;exact⟨mem_range.mp ha,mem_range.mp hb⟩
 ·rintro⟨h1,h2⟩;exact⟨s.1,mem_range.mpr h1,H0.mpr ⟨s.2,mem_range.mpr h2,rfl⟩⟩
theorem Kb(m w:Nat):(BE m w).length=m*w:=by unfold BE;rw[length_flatMap];simp only[C1,x8];rw[map_const',x8,sum_replicate_nat]
theorem GU{h w:Nat}{ws:Cs}(T:dD m h x0)(hw:0 < w):qp (λ s=>s∈BE m w) h (Pp x0 w ws):=by
 refine⟨λ s i hi hs=>?_,λ s i j hi hj hs=>?_⟩
 ·rw[mD]at hs ⊢;exact⟨T.eW.cl _ _ hi hs.1,Nat.mod_lt _ hw⟩
 ·rw[mD]at hs;refine Prod.ext (T.eW.cm _ _ _ hi hj hs.1) ?_;show((s.2+ws.getD j 0) % w+ws.getD i 0) % w=((s.2+ws.getD i 0) % w+ws.getD j 0) % w;rw[Nat.mod_add_mod,Nat.mod_add_mod,Nat.add_right_comm]
theorem wc{h:Nat}(T:Tb m h x0){x:Nat}(hx:x < m)(hi:i < h):gS (x0.map row) (x:Int)=some (row (x0.getD x []))/\gS ((x0.getD x []).map D.int) (i:Int)=some (.int (aM x0 i x)):=by
 have tP:x < x0.length:=by rw[T.len];exact hx
 have a:=T.at hx hi;refine⟨bM (by rw[u7,i6 tP,c7,i6 tP];rfl),?_⟩;rw[FP (by rw[a.1];exact hi),a.2.1]
theorem Qm{h:Nat}{qM:List Row}{ord:List Nat}(T:dD m h x0)(hp:ord.Perm (List.range m))(h0:ord[0]?=some 0)(hl:qM.length=m)(hr:∀(d:Nat) (r:Row),qM[d]?=some r->∃x,ord[d]?=some x/\cZ (aM x0) ord x h r):dD m h qM:=by
 have e:rG (aM x0) 0 h (List.range m) ord qM:=⟨hp.nodup_iff.mpr nodup_range,h0,λ s hs=>T.BM s (mem_range.mp (hp.mem_iff.mp hs)),λ s hs=>hp.mem_iff.mp hs,hr⟩;have ol:ord.length=m:=by rw[hp.length_eq,x8]
 have:=e.tb T.eW T.tb.pos (by rw[hl,ol]) (by rw[x8];exact T.tb.ck) T.tb.xq
 rwa [hl]at this
theorem Dg{Q:bR}(h:M p=some (.lst ds))(q:∀p,M p=none->Q (.ref p) (ai M p (.lst ds))):dList [.ref p] M Q:=by show(match cT M (.ref p)with|some ds=>∀p,M p=none->Q (.ref p) (ai M p (.lst ds))|none=>False);rw[dg h];exact q
theorem Ej{xs:Row}(h:xs.Pairwise (·<=·))(nd:xs.Nodup)(hb:∀x∈xs,0<=x/\x < (m:Int)):gs m xs:=by refine⟨?_,hb⟩;have:=List.Pairwise.and h nd;exact this.imp λ{a b} z=>by have:=z.1;have:=z.2;lia
theorem DP(hm:0 < m){ns:List Nat}(h:ns.Perm ((List.range (m - 1)).map (·+1))):(0::ns).Perm (List.range m):=by obtain⟨k,rfl⟩:∃k,m=k+1:=⟨m - 1,by lia⟩;rw[range_succ_eq_map];exact h.cons 0
def eS(ord:List Nat)(r:Row):Row:=r.map λ y=>(ord.idxOf y.toNat:Int)
theorem Hg{h:Nat}{ord:List Nat}(G:dD m h x0)(hp:ord.Perm (List.range m)){x:Nat}(hx:x < m):cZ (aM x0) ord x h (eS ord (x0.getD x [])):=by
 have tP:x < x0.length:=by rw[G.tb.len];exact hx
 have e:(x0.getD x []).length=h:=by rw[c7,i6 tP];exact(G.tb.row _ (A3 tP)).1
 refine⟨by unfold eS;rw[C1];exact e,λ j hj=>⟨ord.idxOf (aM x0 j x),?_,sO (hp.mem_iff.mpr (mem_range.mpr (G.eW.cl _ _ hj hx)))⟩⟩;unfold eS aM;rw[u7,i6 (by lia),c7 (l:=x0.getD x []),i6 (by lia)];rfl
theorem CY{xs:Row}{ord:List Nat}(hp:ord.Perm (List.range m))(L:gs m ls)(h:xs.Perm (eS ord ls))(hs:xs.Pairwise (·<=·)):gs m xs:=by
 have PH:ord.length=m:=by rw[hp.length_eq,x8]
 have pR:∀y∈ls,y.toNat∈ord:=λ y hy=>hp.mem_iff.mpr (mem_range.mpr (by have:=L.2 y hy;lia));refine Ej hs (h.nodup_iff.mpr ?_) λ x hx=>?_
 ·unfold eS List.Nodup;rw[pairwise_map];refine List.Pairwise.imp_of_mem (λ{a b} ha hb Lb=>?_) L.1;intro e;have e:ord.idxOf a.toNat=ord.idxOf b.toNat:=by lia
  have h1:=sO (pR a ha);rw[e,sO (pR b hb)]at h1;have:=B6 h1;have:=L.2 a ha;have:=L.2 b hb;lia
 ·obtain⟨y,hy,rfl⟩:=H0.mp (h.mem_iff.mp hx);have:=idxOf_lt_length_of_mem (pR y hy);lia
theorem Ec{ns:List Nat}(h:b=true↔ns=[]):b=true↔ns.map nD=[]:=by rw[h,map_eq_nil_iff]
theorem yL{β:Type}(f:α->β):∀(l:List α) (j:Nat),(l.map f).eraseIdx j=(l.eraseIdx j).map f
 |[],_=>rfl
 |a::l,0=>rfl
 |a::l,j+1=>by show f a::(l.map f).eraseIdx j=f a::(l.eraseIdx j).map f;rw[yL f l j]
theorem uC:∀{l:List α} {j:Nat} (h:j < l.length),([l[j]]++l.eraseIdx j).Perm l
 |a::l,0,_=>.refl _
 |a::l,j+1,h=>by have:=uC (l:=l) (j:=j) (by simpa using h);show(l[j]'(by simpa using h)::a::l.eraseIdx j).Perm (a::l);exact(List.Perm.swap _ _ _).trans (this.cons a)
theorem xF{δc:dF}{xs:List α}(enc out:α->D)(hn:xs.length<=sizeLine)(hl:M1 a=some (.lst (xs.map enc))) (hs:∀(i:Nat) (x:α) (N:D->Mem->Prop),xs[i]?=some x->N (out x) M1->g (enc x) δc M1 λ δ2 M2=>te δ2 M2 N) (hd:Qe (xs.map out) M1):∃(B:Nat) (W:Nat->List D->Mem->Prop),W 0 [] M1/\∀i zn M,W i zn M->i<=B/\zn.length<=sizeLine/\match ad (.at a) M with
   |none=>False
   |some ds=>match ds[i]? with
    |none=>i=ds.length/\Qe zn M
    |some d=>g d δc M λ δ2 M2=>uj δ2 M2 λ b M3=>if b=true then te δ2 M3 λ y M4=>W (i+1) (zn++[y]) M4 else W (i+1) zn M3:=by
 refine Lp (ds:=xs.map enc) (λ i zn M=>M=M1/\zn=(xs.take i).map out) ⟨rfl,rfl⟩ (λ i zn M _ h=>by rw[h.1];exact hl) (λ i zn M _ h=>?_) (λ i d zn M hd2 h=>?_) (λ zn M h=>?_)
 ·rw[h.2,C1,A2];exact J0 (Nat.min_le_right _ _) hn
 ·obtain⟨rfl,rfl⟩:=h;rw[u7]at hd2;obtain⟨x,hx,rfl⟩:=Option.map_eq_some_iff.mp hd2;exact hs i x (λ y M4=>M4=M/\_) hx ⟨rfl,by rw[take_one hx,C3];rfl⟩
 ·obtain⟨rfl,rfl⟩:=h;rw[C1,z9];exact hd
theorem OV{t:Nat}(h:i < t+1):(vS t)[i]?=some (t - i):=by unfold vS;rw[u7,l7 h];rfl
theorem JQ(t:Nat):(vS t).length=t+1:=by simp[vS]
def gM(q t i:Nat):List Cs:=((vS t).take i).flatMap λ n=>(bC q (t - n)).map (n::·)
theorem iH(q t:Nat):gM q t (t+1)=bC (q+1) t:=by unfold gM;rw[take_of_length_le (by rw[JQ];exact J7 _)];rfl
theorem ny{q t:Nat}(h:i < t+1):gM q t (i+1)=gM q t i++(bC q (t - (t - i))).map ((t - i)::·):=by unfold gM;rw[take_one (OV h),flatMap_append,flatMap_singleton]
theorem qE{q t:Nat}(hq:q<=5)(ht:t<=19)(h:i<=t+1):(gM q t i).length<=sizeLine:=by
 have h1:(gM q t i).length<=(gM q t (t+1)).length:=by
  rw[iH];unfold gM;show _<=((vS t).flatMap λ n=>(bC q (t - n)).map (n::·)).length;generalize(λ n=>(bC q (t - n)).map (n::·))=f;have e:(vS t).flatMap f=((vS t).take i).flatMap f++((vS t).drop i).flatMap f:=by rw[<- flatMap_append,take_append_drop]
  rw[e,o6];lia
 rw[iH]at h1;have:=qF (B:=20) (k:=q) (T:=t) (by lia);have h3:20^q<=20^5:=Nat.pow_le_pow_right (by decide) hq;exact J0 h1 (J0 this (J0 h3 (by decide)))
theorem wd{q t:Nat}(hq:q<=6)(ht:t<=19):(bC q t).length<=sizeLine:=by
 cases q with
 |zero=>unfold bC;split <;> decide
 |succ q=>rw[<- iH];exact qE (by lia) ht (J7 _)
open L3 L4 L5
open L2 hiding aH
def xy{α:Type}(enc:α->D)(kvs:List (α×D)):List (D×D):=kvs.map λ p=>(enc p.1,p.2)
section
variable [DecidableEq α]{enc:α->D}
theorem n_(inj:∀a b,enc a=enc b->a=b)(x:α):∀kvs:List (α×D),dk (xy enc kvs) (enc x)=(kvs.find? λ p=>decide (p.1=x)).map (·.2)
 |[]=>rfl
 |p::kvs=>by
  have ih:=n_ inj x kvs;unfold dk xy at ih ⊢;rw[G4,B2,B2];by_cases z:p.1=x
  ·rw[C8 z,C8 (by rw[z])];rfl
  ·rw[B3 z,B3 (λ h=>z (inj _ _ h))];exact ih
theorem k_(inj:∀a b,enc a=enc b->a=b){kvs:List (α×D)}{x:α}(h:x∉kvs.map (·.1)):dk (xy enc kvs) (enc x)=none:=by
 rw[n_ inj,find?_eq_none.mpr]
 ·rfl
 ·intro p hp;rw[decide_eq_true_iff];exact λ e=>h (H0.mpr ⟨p,hp,e⟩)
theorem kZ(inj:∀a b,enc a=enc b->a=b){kvs:List (α×D)}{x:α}(nd:(kvs.map (·.1)).Nodup)(h:(x,d)∈kvs):dk (xy enc kvs) (enc x)=some d:=by
 rw[n_ inj];cases e:kvs.find? λ p=>decide (p.1=x)with
 |none=>have:=find?_eq_none.mp e _ h;simp at this
 |some q=>
  have h1:=find?_some e;have h2:=mem_of_find?_eq_some e;rw[decide_eq_true_iff]at h1;obtain⟨i,hi⟩:=getElem?_of_mem h;obtain⟨j,hj⟩:=getElem?_of_mem h2;have e1:(kvs.map (·.1))[i]?=some x:=by rw[u7,hi];rfl
  have e2:(kvs.map (·.1))[j]?=some x:=by rw[u7,hj,<- h1];rfl
  have:=Eb nd e1 e2;subst this;rw[hi]at hj;cases hj;rfl
theorem yz(inj:∀a b,enc a=enc b->a=b){kvs:List (α×D)}{x:α}(v:D)(h:x∉kvs.map (·.1)):putD (xy enc kvs) (enc x) v=xy enc (kvs++[(x,v)]):=by unfold putD;rw[k_ inj h,L1 (by simp)];unfold xy;rw[C3];rfl
end
theorem je(x:Nat):iC false (nD x):=⟨.inl x,rfl⟩
theorem wV:∀{p:Cs} {c:Nat},c∈p->c<=p.sum
 |a::p,c,h=>by
  show c<=a+p.sum;rcases G5.mp h with rfl|h
  ·lia
  ·have:=wV h;lia
theorem vb(F:Nat->α->α):∀(cs:Cs) (i:Nat) (s:α) (c:Nat),dw F i s (cs++[c])=iO (F (i+cs.length)) c (dw F i s cs)
 |[],i,s,c=>rfl
 |d::cs,i,s,c=>by show dw F (i+1) _ (cs++[c])=_;rw[vb F cs (i+1),y8,show i+1+cs.length=i+(cs.length+1) by lia];rfl
structure tL(x0:List Row)(m h:Nat)(L:List Cs)(es:List (Nat×Cs)):Prop where
 ent:∀e∈es,oZ (aM x0) 0 h e.2/\dw (aM x0) 0 0 e.2=e.1/\e.1 < m
 nd:(es.map (·.1)).Nodup
 all:∀p∈L,dw (aM x0) 0 0 p∈es.map (·.1)
theorem tL.nil(x0:List Row)(m h:Nat):tL x0 m h (qi h 0) []:=⟨λ e h=>(by cases h),.nil,λ p hp=>(by have:=(fz.mp hp).2;lia)⟩
theorem tL.ck{h:Nat}{L:List Cs}{es:List (Nat×Cs)}(f:tL x0 m h L es):es.length<=m:=by
 have:=List.Nodup.length_le_of_subset f.nd (l₂:=List.range m) λ x hx=>by obtain⟨e,he,rfl⟩:=H0.mp hx;exact mem_range.mpr (f.ent e he).2.2
 rwa [C1,x8]at this
def ir(h T i:Nat):List Cs:=qi h T++(bC h T).take i
theorem qW{h T:Nat}{p:Cs}(hp:(bC h T)[i]?=some p):ir h T (i+1)=ir h T i++[p]:=by unfold ir;rw[take_one hp,x4]
theorem Ff(h T:Nat):ir h T (bC h T).length=ir h (T+1) 0:=by unfold ir;rw[z9,take_zero,B0,BG]
theorem Fe{h T:Nat}{p q:Cs}(hp:(bC h T)[i]?=some p)(hq:q.length=h)(ha:Ah q p):q∈ir h T i:=by
 have Bn:=bQ.mp (k8 hp);unfold ir;rw[C2];by_cases hs:q.sum < T
 ·exact .inl (fz.mpr ⟨hq,hs⟩)
 ·have YE:q.sum=T:=by rcases ha with z|z <;> lia
  obtain⟨j,hj⟩:=getElem?_of_mem (bQ.mpr ⟨hq,YE⟩:q∈bC h T);have hl:BO q p:=by
   rcases ha with z|z
   ·lia
   ·exact z.2
  refine .inr ?_;by_cases YS:j < i
  ·exact k8 (i:=j) (by rw[getElem?_take_of_lt YS];exact hj)
  ·exfalso;obtain⟨h1,e1⟩:=i3.mp hp;obtain⟨h2,e2⟩:=i3.mp hj;by_cases he:j=i
   ·subst he;rw[hp]at hj;cases hj;exact iL _ hl
   ·have:=pairwise_iff_getElem.mp (jO h T) i j h1 h2 (by lia);rw[e1,e2]at this;exact iL _ (lg this hl)
theorem tL.old{h T:Nat}{es:List (Nat×Cs)}(f:tL x0 m h (ir h T i) es){p:Cs}(hp:(bC h T)[i]?=some p)(hk:dw (aM x0) 0 0 p∈es.map (·.1)):tL x0 m h (ir h T (i+1)) es:=
 ⟨f.ent,f.nd,λ q hq=>by
  rw[qW hp]at hq;rcases C2.mp hq with z|z
  ·exact f.all q z
  ·rw[p8.mp z];exact hk⟩
theorem tL.new{h T:Nat}{es:List (Nat×Cs)}(G:dD m h x0)(f:tL x0 m h (ir h T i) es){p:Cs}(hp:(bC h T)[i]?=some p)(hk:dw (aM x0) 0 0 p∉es.map (·.1)):tL x0 m h (ir h T (i+1)) (es++[(dw (aM x0) 0 0 p,p)]):=by
 have Bn:=bQ.mp (k8 hp);refine⟨λ e he=>?_,?_,λ q hq=>?_⟩
 ·rcases C2.mp he with z|z
  ·exact f.ent e z
  ·rw[p8.mp z];refine⟨⟨Bn.1,λ q hq ha e=>hk ?_⟩,rfl,G.eW.dw p 0 0 (by lia) G.tb.pos⟩;rw[<- e];exact f.all q (Fe hp hq ha)
 ·rw[C3];exact nodup_append.mpr ⟨f.nd,by simp,λ a ha b hb z=>hk (by rw[map_singleton,p8]at hb;have hb:b=dw (aM x0) 0 0 p:=hb;rw[<- hb,<- z];exact ha)⟩
 ·rw[qW hp]at hq;rw[C3,C2];rcases C2.mp hq with z|z
  ·exact .inl (f.all q z)
  ·rw[p8.mp z];exact .inr (by simp)
theorem tL.full{h T:Nat}{es:List (Nat×Cs)}(G:dD m h x0)(f:tL x0 m h (ir h T 0) es)(hT:m<=T):m<=es.length:=by
 obtain⟨g,hg⟩:=G.fst;have:=List.Nodup.length_le_of_subset (nodup_range (n:=m)) (l₂:=es.map (·.1)) λ x hx=>by
  have hx:=mem_range.mp hx;have h1:=hg.ck G hx;have:=f.all (g x) (by unfold ir;rw[C2];exact .inl (fz.mpr ⟨(hg x hx).1.1,by lia⟩))
  rwa [(hg x hx).2]at this
 rwa [C1,x8]at this
theorem tL.get{h:Nat}{L:List Cs}{es:List (Nat×Cs)}{g:Nat->Cs}(f:tL x0 m h L es)(hm:m<=es.length)(hg:Pj m h x0 g){x:Nat}(hx:x < m):(x,g x)∈es:=by
 have lW:∀y∈es.map (·.1),y∈List.range m:=λ y hy=>by obtain⟨e,he,rfl⟩:=H0.mp hy;exact mem_range.mpr (f.ent e he).2.2
 have pR:x∈es.map (·.1):=by
  refine Decidable.byContradiction λ hn=>?_;have:=List.Nodup.length_le_of_subset (nodup_cons.mpr ⟨hn,f.nd⟩) (l₂:=List.range m) λ y hy=>by
   rcases G5.mp hy with rfl|z
   ·exact mem_range.mpr hx
   ·exact lW y z
  rw[y8,C1,x8]at this;lia
 obtain⟨e,he,ex⟩:=H0.mp pR;have h1:=f.ent e he;have:e.2=g x:=h1.1.uniq (hg x hx).1 (by rw[h1.2.1,(hg x hx).2,ex]);rw[<- this,<- ex];exact he
end KK
namespace L2
open PySem.Spec PyProof.Rows
theorem jn:∀(names:List (Str×NameKind)) (zn:List (Str×ww)) (x:Str) (c:ww),(bI cells names zn).lookup x=some c->(x,NameKind.free)∈names\/zn.lookup x=some c
 |[],zn,x,c,e=>.inr e
 |(n,k)::r,zn,x,c,e=>by
  unfold bI at e;by_cases z:(k==NameKind.free)=true
  ·rw[K9 z]at e;have z:k=.free:=by simpa using z
   subst z;rcases jn r _ x c e with h|h
   ·exact .inl (k7 _ h)
   ·by_cases y:x=n
    ·subst y;exact .inl (n6 ..)
    ·rw[y6]at h;have:(x==n)=false:=by simpa using y
     rw[this]at h;exact .inr h
  ·rw[L1 z]at e;rcases jn r _ x c e with h|h
   ·exact .inl (k7 _ h)
   ·exact .inr h
end L2
namespace KK
open L3 L4 L5
def yi:iY:=λ ds M Q=>∃ns:List Int,ds=[.fl (ns.map D.int)]/\∀f c M',Flow M' f c->bi M M'->Q (.ref f) M'
theorem DO{M':Mem}{c b:ww}{x:XM}(F:Fl f c M M')(h:M b=some (.jC x))(hf:Flow M f c):M' b=some (.jC x):=by refine F.mv b _ (λ z=>?_) h;subst z;obtain⟨ns,p,bb,sd,ct,h1,_⟩:=hf;rw[h]at h1;cases h1
end KK
namespace L2
open PySem
abbrev zV(l:List Nat):Prop:=l.Pairwise (· < ·)
theorem kR{l:List Nat}(h:zV l){x y:Nat}(hi:l[i]?=some x)(hj:l[j]?=some y)(lt:i < j):x < y:=by obtain⟨a,ha⟩:=i3.mp hi;obtain⟨b,hb⟩:=i3.mp hj;have:=pairwise_iff_getElem.mp h i j a b lt;rw[ha,hb]at this;exact this
theorem oS{xs:Array Nat}(h:zV xs.toList):∀(fuel lo hi:Nat),lo<=hi->hi<=xs.size->hi - lo<=fuel->(∀(i:Nat) (v:Nat),i < lo->xs.toList[i]?=some v->v < j)->(∀(i:Nat) (v:Nat),hi<=i->xs.toList[i]?=some v->j<=v)->
  SetTable.below.go xs j fuel lo hi<=xs.size/\(∀(i:Nat) (v:Nat),i < SetTable.below.go xs j fuel lo hi->xs.toList[i]?=some v->v < j)/\(∀(i:Nat) (v:Nat),SetTable.below.go xs j fuel lo hi<=i->xs.toList[i]?=some v->j<=v)
 |0,lo,hi,h1,h2,h3,h4,h5=>by
  have:lo=hi:=by lia
  subst this;exact⟨h2,h4,h5⟩
 |fuel+1,lo,hi,h1,h2,h3,h4,h5=>by
  unfold SetTable.below.go;by_cases hl:lo < hi
  ·rw[K9 hl];have hm:(lo+hi) / 2 < xs.size:=by lia
   have hg:xs.getD ((lo+hi) / 2) j=xs[(lo+hi) / 2]:=by simp[Array.getD,hm]
   have hv:xs.toList[(lo+hi) / 2]?=some xs[(lo+hi) / 2]:=by rw[j9,c9 hm]
   dsimp only;rw[hg];by_cases hc:xs[(lo+hi) / 2] < j
   ·rw[K9 hc];refine oS h fuel _ hi (by lia) h2 (by lia) (λ i v uZ e=>?_) h5;by_cases z:i=(lo+hi) / 2
    ·subst z;rw[hv]at e;cases e;exact hc
    ·exact Nat.lt_trans (kR h e hv (by lia)) hc
   ·rw[L1 hc];refine oS h fuel lo _ (by lia) (by lia) (by lia) h4 (λ i v uZ e=>?_);by_cases z:i=(lo+hi) / 2
    ·subst z;rw[hv]at e;cases e;lia
    ·have:=kR h hv e (by lia);lia
  ·rw[L1 hl];have:lo=hi:=by lia
   subst this;exact⟨h2,h4,h5⟩
theorem iB{xs:Array Nat}(h:zV xs.toList)(j:Nat):SetTable.below xs j<=xs.size/\(∀(i:Nat) (v:Nat),i < SetTable.below xs j->xs.toList[i]?=some v->v < j)/\(∀(i:Nat) (v:Nat),SetTable.below xs j<=i->xs.toList[i]?=some v->j<=v):=
 oS h xs.size 0 xs.size (J9 _) (J7 _) (by lia) (λ i v h=>absurd h (by lia)) λ i v h e=>by rw[k5 (by rw[m6];exact h)]at e;cases e
theorem below_at{xs:Array Nat}(h:zV xs.toList)(e:xs.toList[i]?=some j):SetTable.below xs j=i:=by
 obtain⟨_,h1,h2⟩:=iB h j;refine C4 (y7 λ z=>?_) (y7 λ z=>?_)
 ·exact G3 _ (h1 i j z e)
 ·have hl:=(i3.mp e).1;have e2:=i6 (l:=xs.toList) (i:=SetTable.below xs j) (by lia);have a:=h2 _ _ (J7 _) e2;have b:=kR h e2 e z;lia
theorem xQ{xs:Array Nat}(h:zV xs.toList)(e:xs.toList[i]?=some j):SetTable.below xs (j+1)=i+1:=by
 obtain⟨h0,h1,h2⟩:=iB h (j+1);have hl:=(i3.mp e).1;refine C4 (y7 λ z=>?_) (y7 λ z=>?_)
 ·have hs:i+1 < xs.toList.length:=by rw[m6];lia
  have e2:=i6 hs;have a:=h1 (i+1) _ z e2;have b:=kR h e e2 (by lia);lia
 ·have:=h2 i j (by lia) e;lia
theorem xP{xs:Array Nat}(h:zV xs.toList):SetTable.below xs 0=0:=by
 obtain⟨h0,h1,h2⟩:=iB h 0;refine Decidable.byContradiction λ z=>?_;have hs:0 < xs.toList.length:=by rw[m6];lia
 exact absurd (h1 0 _ (by lia) (i6 hs)) (by lia)
theorem qI(h:zV t.place.toList)(e:t.place.toList[i]?=some j):t.slot j=.live i:=by unfold SetTable.slot;dsimp only;rw[below_at h e,<- j9,e];simp
theorem wm(hd:t.dummies=#[])(h:zV t.place.toList)(n:j∉t.place.toList):t.slot j=.empty:=by
 unfold SetTable.slot;dsimp only;have:(t.place[SetTable.below t.place j]?==some j)=false:=by rw[beq_eq_false_iff_ne];intro e;rw[<- j9]at e;exact n (k8 e)
 rw[this,hd];simp[SetTable.has,SetTable.below]
theorem He{xs:Array Nat}(h:zV xs.toList)(n:j∉xs.toList):zV (SetTable.insertAt xs (SetTable.below xs j) j).toList:=by
 rw[SetTable.toList_insertAt];obtain⟨h0,h1,h2⟩:=iB h j;generalize SetTable.below xs j=b at*;have hp:zV (xs.toList.take b++xs.toList.drop b):=by rw[take_append_drop];exact h
 unfold zV at hp ⊢;rw[pairwise_append]at hp ⊢;refine⟨hp.1,pairwise_cons.mpr ⟨λ y hy=>?_,hp.2.1⟩,λ x hx y hy=>?_⟩
 ·obtain⟨i,hi⟩:=getElem?_of_mem hy;rw[getElem?_drop]at hi;have:=h2 (b+i) y (by lia) hi;by_cases z:j=y
  ·subst z;exact absurd (k8 hi) n
  ·lia
 ·obtain⟨i,hi⟩:=getElem?_of_mem hx;have W':i < b:=by have:=(i3.mp hi).1;rw[A2]at this;lia
  rw[getElem?_take_of_lt W']at hi;have Yr:=h1 i x W' hi;rcases G5.mp hy with rfl|hy
  ·exact Yr
  ·exact hp.2.2 x hx y hy
theorem yI{xs:Array Nat}{p:Nat}:k∈(SetTable.insertAt xs p j).toList↔k=j\/k∈xs.toList:=by have:=(SetTable.insertAt_perm xs p j).mem_iff (a:=k);rw[this,Array.toList_push,C2,p8];exact⟨λ h=>h.symm,λ h=>h.symm⟩
def nI(mask i:Nat):List Nat:=(List.range (SetTable.runEnd mask i+1 - i)).map (i+·)
def iA(mask:Nat):Nat->Nat×Nat->List Nat
 |0,_=>[]
 |B+1,(i,pt)=>nI mask i++iA mask B (SetTable.leap mask i pt)
def hX(mask B:Nat)(p:SetTable.Probe):List Nat:=(List.range (p.more+1)).map (p.j+·)++iA mask B (SetTable.leap mask p.i p.perturb)
theorem kN(mask i:Nat):i<=SetTable.runEnd mask i/\SetTable.runEnd mask i<=i+9:=by unfold SetTable.runEnd;split <;> lia
theorem CU(mask i:Nat):1<=(nI mask i).length/\(nI mask i).length<=10:=by unfold nI;rw[C1,x8];have:=kN mask i;lia
theorem oR(mask:Nat):∀(B:Nat) (q:Nat×Nat),(iA mask B q).length<=10*B
 |0,_=>J7 _
 |B+1,(i,pt)=>by show(nI mask i++iA mask B (SetTable.leap mask i pt)).length<=_;rw[o6];have:=(CU mask i).2;have:=oR mask B (SetTable.leap mask i pt);lia
theorem nL{B pt:Nat}{d:Option Nat}:hX mask B {j:=i,more:=SetTable.runEnd mask i - i,i:=i,perturb:=pt,dummy:=d}=iA mask (B+1) (i,pt):=by unfold hX;show _=nI mask i++iA mask B (SetTable.leap mask i pt);unfold nI;have:=kN mask i;rw[show SetTable.runEnd mask i - i+1=SetTable.runEnd mask i+1 - i by lia]
theorem AD{B:Nat}{p:SetTable.Probe}(h:0 < p.more):hX t.mask B p=p.j::hX t.mask B (t.advance p)/\(t.advance p).dummy=p.dummy:=by
 unfold SetTable.advance;rw[K9 h];refine⟨?_,rfl⟩;unfold hX;dsimp only;rw[range_succ_eq_map,G4,H9,A7,Nat.add_zero,show p.more - 1+1=p.more by lia];have e:((p.j+·)∘Nat.succ)=(p.j+1+·):=funext λ x=>by show p.j+(x+1)=p.j+1+x;lia
 rw[e]
theorem AE{B:Nat}{p:SetTable.Probe}(h:p.more=0):hX t.mask (B+1) p=p.j::hX t.mask B (t.advance p)/\(t.advance p).dummy=p.dummy:=by
 have hn:¬p.more > 0:=by lia
 unfold SetTable.advance;rw[L1 hn];refine⟨?_,rfl⟩;have e1:hX t.mask (B+1) p=(List.range (p.more+1)).map (p.j+·)++iA t.mask (B+1) (SetTable.leap t.mask p.i p.perturb):=rfl;rw[e1,h];show _::iA t.mask (B+1) ((SetTable.leap t.mask p.i p.perturb).1,(SetTable.leap t.mask p.i p.perturb).2)=_;rw[<- nL (d:=p.dummy)];rfl
theorem CZ{p:SetTable.Probe}(h:p.more=0):hX mask 0 p=[p.j]:=by unfold hX;rw[h];rfl
theorem Fd(hd:t.dummies=#[])(hr:zV t.place.toList){hashAt:Nat->Int}{h:Int}:∀(fuel B:Nat) (p:SetTable.Probe),(hX t.mask B p).length<=fuel->p.dummy=none->(∃e∈hX t.mask B p,e∉t.place.toList)->
  ∃pre j post,hX t.mask B p=pre++j::post/\(∀k∈pre,∃i,t.place.toList[i]?=some k/\hashAt i≠h)/\
   ((j∉t.place.toList/\SetTable.probe.go t hashAt h fuel p=some (.empty j none))\/
    (∃i B' next,t.place.toList[i]?=some j/\hashAt i=h/\SetTable.probe.go t hashAt h fuel p=some (.candidate j i next)/\next.dummy=none/\(post≠[]->hX t.mask B' next=post)))
 |0,B,p,hl,_,⟨e,he,_⟩=>by rw[j1.mp (Nat.le_zero.mp hl)]at he;cases he
 |fuel+1,B,p,hl,hp,⟨e,he,dP⟩=>by
  have st:∃rest,hX t.mask B p=p.j::rest/\(t.advance p).dummy=none/\(rest≠[]->∃B',hX t.mask B' (t.advance p)=rest):=by
   by_cases hm:0 < p.more
   ·obtain⟨e1,e2⟩:=AD (t:=t) (B:=B) hm;exact⟨_,e1,e2.trans hp,λ _=>⟨B,rfl⟩⟩
   ·have hm:p.more=0:=by lia
    cases B with
    |zero=>
     have:(t.advance p).dummy=p.dummy:=by unfold SetTable.advance;rw[L1 (by lia)]
     exact⟨[],CZ hm,this.trans hp,λ z=>absurd rfl z⟩
    |succ B=>obtain⟨e1,e2⟩:=AE (t:=t) (B:=B) hm;exact⟨_,e1,e2.trans hp,λ _=>⟨B,rfl⟩⟩
  obtain⟨rest,e1,e2,e3⟩:=st;rw[e1]at hl he ⊢;unfold SetTable.probe.go;by_cases hj:p.j∈t.place.toList
  ·obtain⟨i,hi⟩:=getElem?_of_mem hj;rw[qI hr hi];dsimp only;by_cases hh:hashAt i=h
   ·rw[K9 (by simpa using hh)];by_cases zj:rest=[]
    ·exact⟨[],p.j,rest,rfl,λ k hk=>(by cases hk),.inr ⟨i,0,_,hi,hh,rfl,e2,λ z=>absurd zj z⟩⟩
    ·obtain⟨B',R3⟩:=e3 zj;exact⟨[],p.j,rest,rfl,λ k hk=>(by cases hk),.inr ⟨i,B',_,hi,hh,rfl,e2,λ _=>R3⟩⟩
   ·rw[L1 (by simpa using hh)];have Tz:e∈rest:=by
     rcases G5.mp he with z|z
     ·subst z;exact absurd hj dP
     ·exact z
    obtain⟨B',R3⟩:=e3 (ne_nil_of_mem Tz);obtain⟨pre,j,post,f1,f2,f3⟩:=Fd hd hr fuel B' (t.advance p) (by rw[R3];simpa using hl) e2 ⟨e,by rw[R3];exact Tz,dP⟩;rw[R3]at f1;refine⟨p.j::pre,j,post,by rw[f1];rfl,λ k hk=>?_,f3⟩;rcases G5.mp hk with rfl|z
    ·exact⟨i,hi,hh⟩
    ·exact f2 k z
  ·rw[wm hd hr hj];dsimp only;rw[hp];exact⟨[],p.j,rest,rfl,λ k hk=>(by cases hk),.inl ⟨hj,rfl⟩⟩
open PySem
def TH(m i:Nat):Nat:=(i*5+1) % m
def w_(m:Nat):Nat->Nat->Nat
 |0,i=>i
 |k+1,i=>w_ m k (TH m i)
theorem mF(m:Nat):∀(a b i:Nat),w_ m (a+b) i=w_ m b (w_ m a i)
 |0,b,i=>by rw[J1];rfl
 |a+1,b,i=>by rw[Nat.add_right_comm];show w_ m (a+b) (TH m i)=w_ m b (w_ m a (TH m i));exact mF m a b _
def UK(m:Nat):Nat->Nat->List Nat
 |0,_=>[]
 |k+1,i=>i::UK m k (TH m i)
theorem yF(m:Nat):∀(n i j:Nat),j∈UK m n i->∃k,k < n/\w_ m k i=j
 |0,i,j,h=>by cases h
 |n+1,i,j,h=>by
  rcases G5.mp h with rfl|h
  ·exact⟨0,Nat.succ_pos _,rfl⟩
  ·obtain⟨k,hk,e⟩:=yF m n _ j h;exact⟨k+1,Nat.succ_lt_succ hk,e⟩
abbrev Ki(m:Nat):Prop:=m=7\/m=31\/m=127
theorem yG(h:Ki m):((List.range (m+1)).all λ j=>(UK (m+1) (m+1) 0).contains j)=true/\w_ (m+1) (m+1) 0=0:=by
 rcases h with rfl|rfl|rfl
 ·exact⟨by decide+kernel,by decide+kernel⟩
 ·exact⟨by decide+kernel,by decide+kernel⟩
 ·exact⟨by decide+kernel,by decide+kernel⟩
theorem uT(h:Ki m)(hj:j<=m):∃k,k < m+1/\w_ (m+1) k 0=j:=by have:=A8.mp (yG h).1 j (mem_range.mpr (by lia));exact yF _ _ _ _ (by simpa using this)
theorem Js(h:Ki m)(hi:i<=m)(hj:j<=m):∃k,k < m+1/\w_ (m+1) k i=j:=by
 obtain⟨a,ha,ea⟩:=uT h hi;obtain⟨b,hb,eb⟩:=uT h hj;by_cases z:a<=b
 ·refine⟨b - a,by lia,?_⟩;rw[<- ea,<- mF,show a+(b - a)=b by lia];exact eb
 ·refine⟨m+1 - a+b,by lia,?_⟩;rw[mF,<- ea,<- mF _ a (m+1 - a),show a+(m+1 - a)=m+1 by lia,(yG h).2];exact eb
def lp(mask:Nat):Nat->Nat×Nat->Nat×Nat
 |0,q=>q
 |k+1,q=>lp mask k (SetTable.leap mask q.1 q.2)
theorem Ei(m:Nat):∀(a b:Nat) (q:Nat×Nat),lp m (a+b) q=lp m b (lp m a q)
 |0,b,i=>by rw[J1];rfl
 |a+1,b,i=>by rw[Nat.add_right_comm];exact Ei m a b _
theorem KJ:∀(k:Nat) (q:Nat×Nat),q.1<=m->(lp m k q).1<=m
 |0,_,h=>h
 |k+1,q,_=>KJ k _ (Nat.le_of_lt_succ (Nat.mod_lt _ (Nat.succ_pos _)))
theorem Eg:∀(k:Nat) (q:Nat×Nat),(lp m k q).2=q.2 / 32^k
 |0,q=>by rw[Nat.pow_zero,Nat.div_one];rfl
 |k+1,q=>by show(lp m k (SetTable.leap m q.1 q.2)).2=_;rw[Eg k,Nat.pow_succ,Nat.mul_comm,<- Nat.div_div_eq_div_mul];rfl
theorem Eh:∀(k i:Nat),lp m k (i,0)=(w_ (m+1) k i,0)
 |0,_=>rfl
 |k+1,i=>by show lp m k ((i*5+1+0 / 32) % (m+1),0 / 32)=_;exact Eh k _
theorem CT:i∈nI m i:=by unfold nI;have:=kN m i;exact H0.mpr ⟨0,mem_range.mpr (by lia),rfl⟩
theorem zS:∀(B k:Nat) (q:Nat×Nat),k < B->(lp m k q).1∈iA m B q
 |0,k,q,h=>by lia
 |B+1,0,(i,pt),_=>k9 _ CT
 |B+1,k+1,(i,pt),h=>j7 _ (zS B k _ (by lia))
theorem vF{pt:Nat}(h:Ki m)(hi:i<=m)(hp:pt < 2^64)(hj:j<=m):j∈iA m (m+15) (i,pt):=by
 have e:lp m 13 (i,pt)=((lp m 13 (i,pt)).1,0):=by refine Prod.ext rfl ?_;rw[Eg];exact Nat.div_eq_of_lt (p7 hp (by decide))
 obtain⟨k,hk,ek⟩:=Js h (KJ 13 (i,pt) hi) hj;have e2:(lp m (13+k) (i,pt)).1=j:=by rw[Ei,e,Eh];exact ek
 rw[<- e2];exact zS _ _ _ (by lia)
theorem L9(hi:i<=m)(h:j∈nI m i):j<=m:=by unfold nI at h;obtain⟨k,hk,rfl⟩:=H0.mp h;rw[mem_range]at hk;unfold SetTable.runEnd at hk;split at hk <;> lia
theorem mN:∀(B:Nat) (q:Nat×Nat),q.1<=m->j∈iA m B q->j<=m
 |0,_,_,h=>by cases h
 |B+1,(i,pt),hi,h=>by
  rcases C2.mp h with h|h
  ·exact L9 hi h
  ·exact mN B _ (Nat.le_of_lt_succ (Nat.mod_lt _ (Nat.succ_pos _))) h
theorem zT(h:Int):SetTable.bits h < 2^64:=by unfold SetTable.bits;have:=B5 h (b:=2^64) (by decide);have:=o8 h (b:=2^64) (by decide);lia
theorem Aw{l:List Nat}(h:l.length<=m):∃j,j<=m/\j∉l:=by
 refine Decidable.byContradiction λ z=>?_;have hs:List.range (m+1)⊆l:=λ j hj=>by refine Decidable.byContradiction λ n=>z ⟨j,?_,n⟩;have:=mem_range.mp hj;lia
 have:=List.Nodup.length_le_of_subset nodup_range hs;rw[x8]at this;lia
structure Tab0(t:SetTable)(n:Nat):Prop where
 dm:t.dummies=#[]
 Kt:zV t.place.toList
 sz:t.place.size=n
 le:∀j∈t.place.toList,j<=t.mask
 pl:t.plain=true
 Ti:Ki t.mask
theorem Ib(T:Tab0 t n)(hj:j<=t.mask)(nj:j∉t.place.toList):Tab0 (t.put j).1 (n+1)/\(t.put j).1.mask=t.mask/\(t.put j).1.led=t.led:=by
 have hd:SetTable.has t.dummies j=false:=by rw[T.dm];simp[SetTable.has,SetTable.below]
 unfold SetTable.put;dsimp only;rw[hd];refine⟨⟨T.dm,He T.Kt nj,?_,λ k hk=>?_,T.pl,T.Ti⟩,rfl,rfl⟩
 ·have:=(SetTable.insertAt_perm t.place (SetTable.below t.place j) j).length_eq;rw[m6,m6,Array.size_push,T.sz]at this;exact this
 ·rcases yI.mp hk with rfl|hk
  ·exact hj
  ·exact T.le k hk
theorem Tab0.fits(T:Tab0 t n)(hn:n<=t.mask):t.fits n=true:=by unfold SetTable.fits SetTable.fill;rw[T.sz,T.dm];simp[hn]
def sh(mask:Nat)(owner:Array (Option Nat)):List Nat:=(List.range (mask+1)).filterMap λ j=>owner.getD j none
theorem oD{f g:Nat->Option Nat}:∀(l:List Nat),(∀j∈l,f j=g j)->l.filterMap f=l.filterMap g
 |[],_=>rfl
 |a::l,h=>by rw[n5,n5,h a n6,oD l λ j hj=>h j (k7 _ hj)]
theorem Fj{f:Nat->Option Nat}:∀(l:List Nat),(∀j∈l,f j≠none)->(l.filterMap f).length=l.length
 |[],_=>rfl
 |a::l,h=>by
  cases e:f a with
  |none=>exact absurd e (h a n6)
  |some b=>rw[filterMap_cons_some e,y8,y8,Fj l λ j hj=>h j (k7 _ hj)]
theorem DN(hs:owner.size=mask+1)(hp:(sh mask owner).Perm (List.range k))(hk:k<=mask):∃j,j<=mask/\(owner.getD j (some 0)).isNone=true:=by
 refine Decidable.byContradiction λ z=>?_;have:=Fj (f:=λ j=>owner.getD j none) (List.range (mask+1)) λ j hj e=>by
  have lt:=mem_range.mp hj;refine z ⟨j,by lia,?_⟩;have h1:j < owner.size:=by lia
  simp only[Array.getD,h1,dite_true]at e ⊢;rw[e];rfl
 have h2:(sh mask owner).length=k:=by rw[hp.length_eq,x8]
 unfold sh at h2;rw[x8]at this;lia
theorem Iz(hs:owner.size=mask+1)(hp:(sh mask owner).Perm (List.range k))(hj:j<=mask)(hn:(owner.getD j (some 0)).isNone=true): (owner.setIfInBounds j (some k)).size=mask+1/\(sh mask (owner.setIfInBounds j (some k))).Perm (List.range (k+1)):=by
 refine⟨by rw[Array.size_setIfInBounds];exact hs,?_⟩;have h1:j < owner.size:=by lia
 have YI:owner.getD j none=none:=by simp only[Array.getD,h1,dite_true]at hn ⊢;exact Option.isNone_iff_eq_none.mp hn
 obtain⟨l1,l2,e⟩:=append_of_mem (mem_range.mpr (show j < mask+1 by lia));have nd:(l1++j::l2).Nodup:=by rw[<- e];exact nodup_range
 have n1:j∉l1:=λ z=>by have:=(nodup_append.mp nd).2.2 j z j n6;exact this rfl
 have n2:j∉l2:=(nodup_cons.mp (nodup_append.mp nd).2.1).1;have jC:∀i,i≠j->(owner.setIfInBounds j (some k)).getD i none=owner.getD i none:=λ i hi=>by
  simp only[Array.getD,Array.size_setIfInBounds];by_cases h2:i < owner.size
  ·simp only[h2,dite_true];have:(owner.setIfInBounds j (some k))[i]?=owner[i]?:=by rw[Array.getElem?_setIfInBounds,L1 (K8 hi)]
   rw[c9 h2,c9 (by rw[Array.size_setIfInBounds];exact h2)]at this;exact B6 this
  ·simp only[h2,dite_false]
 have at':(owner.setIfInBounds j (some k)).getD j none=some k:=by
  simp only[Array.getD,Array.size_setIfInBounds,h1,dite_true];have:(owner.setIfInBounds j (some k))[j]?=some (some k):=by rw[Array.getElem?_setIfInBounds,K9 rfl,K9 h1]
  rw[c9 (by rw[Array.size_setIfInBounds];exact h1)]at this;exact B6 this
 unfold sh at hp ⊢;rw[e,filterMap_append,filterMap_cons_none (f:=λ j=>owner.getD j none) YI]at hp;rw[e,filterMap_append,filterMap_cons_some (f:=λ i=>(owner.setIfInBounds j (some k)).getD i none) at',oD l1 λ i hi=>jC i λ z=>n1 (z▸hi),oD l2 λ i hi=>jC i λ z=>n2 (z▸hi),range_succ];exact perm_middle.trans ((hp.cons k).trans (perm_append_singleton k (List.range k)).symm)
theorem oh(f:Nat->Option Nat):∀l:List Nat,((l.filterMap λ j=>(f j).map (j,·)).map (·.1)).Sublist l
 |[]=>.slnil
 |a::l=>by
  cases e:f a with
  |none=>rw[filterMap_cons_none (by rw[e];rfl)];exact(oh f l).cons a
  |some b=>rw[filterMap_cons_some (b:=(a,b)) (by rw[e];rfl),G4];exact(oh f l).cons₂ a
theorem og(f:Nat->Option Nat):∀l:List Nat,(l.filterMap λ j=>(f j).map (j,·)).map (·.2)=l.filterMap f
 |[]=>rfl
 |a::l=>by
  cases e:f a with
  |none=>rw[filterMap_cons_none (by rw[e];rfl),filterMap_cons_none e];exact og f l
  |some b=>rw[filterMap_cons_some (b:=(a,b)) (by rw[e];rfl),G4,filterMap_cons_some e,og f l]
structure Tab(t:SetTable)(n:Nat):Prop extends Tab0 t n where
 PR:(t.mask=7/\n<=4)\/(t.mask=31/\n<=18)\/(t.mask=127/\n<=76)
theorem Tab.fit(T:Tab t n):t.fits n=true:=T.fits (by have:=T.PR;lia)
theorem As(f m:Nat)(led:Bool):Tab (.fresh f m led) 0:=⟨⟨rfl,List.Pairwise.nil,rfl,λ j h=>(by cases h),rfl,.inl rfl⟩,.inl ⟨rfl,J9 _⟩⟩
theorem lH(T:Tab0 t n):t.tooFull=decide (n*5 ≥ t.mask*3):=by unfold SetTable.tooFull SetTable.fill;rw[T.dm,T.sz];rfl
open PySem.Spec PyProof.Rows
abbrev fi(es:Array (Int×jp))(ep:Nat)(t:SetTable):Obj:={cls:=.type "set",dict:=none,data:=.set es ep t}
theorem uc{h:Heap}{es es':Array (Int×jp)}{t':SetTable}(ho:h.get? a=some (fi es ep t)):(h.update a (Obj.putSet es' t')).get? a=some (fi es' (ep+1) t'):=by have:=j6 (Obj.putSet es' t') ho (by rw[putSet_of es' t' rfl];rfl);rw[putSet_of es' t' rfl]at this;exact this
open PySem.Spec PyProof.Rows
def vE(w:World):Bool:=w.params.followText "set-order"
abbrev fR(w:World):Obj:=fi #[] 0 (.fresh 0 0 (!vE w))
theorem IY(a:jp)(h:Q (.ref s.heap.objs.size) {s with heap:=s.heap.push (fR w)}):codeAny (model prog w) A (.call (.builtin "set.__new__") ⟨[.type "set",a],[]⟩) (wants Q E) s:=by
 refine codeAny_of_tree ?_;show wpAny _ A.in1 (checkBuiltinCall "set.__new__" ⟨[.type "set",a],[]⟩ >>= λ _=>again (.builtin "set.__new__" ⟨[.type "set",a],[]⟩)) _ _ s;refine K1 (wpAny_of_eq (F.newCall_set_1 a) (K2 ⟨G6 F.plain_set_new _,B9 F.entry_set_new ?_⟩));rw[l0 F.plain_set_new _];unfold Builtin.«set.__new__» Builtin.Frozenset.newClass;have lW:=sub_set_self;obtain⟨hp,g,d,tk,os⟩:=s;dsimp only
 wp_walk
 refine wpAny_askSetting (K2 ?_);dsimp only;simp only[newObj];refine K1 (wpAny_alloc (K2 ?_));exact K2 h
theorem xK{T newId xc:String}{Bi:Builtin}{args:List jp}{Q Q₁:jp->kt->Prop}(ft:TypeCalled T newId xc)(hct:checkTypeCall T ⟨args,[]⟩=pure ())(OU:entryFor table xc=some Bi) (ET:codeAny (model prog w) A.in1 (.call (.builtin newId) ⟨.type T::args,[]⟩) (wants Q₁ E) s) (RI:∀obj s₁,Q₁ obj s₁->s₁.TypeIs obj T/\wpAny (model prog w) A.in1.in1 (checkBuiltinCall xc ⟨obj::args,[]⟩) (λ _ s₁=>wpAny (model prog w) A.in1.in1 (Bi ⟨obj::args,[]⟩)
    (λ fin s'=>match fin with| .done f=>wants (λ r s₂=>r=.none/\Q obj s₂) E (.ok f) s'| .again c'=>c'.quiet=true/\codeAny (model prog w) A.in1 c' (wants (λ r s₂=>r=.none/\Q obj s₂) E) s')
    (λ e s'=>wants (λ r s₂=>r=.none/\Q obj s₂) E (.error e) s') s₁) (λ e s'=>wants (λ r s₂=>r=.none/\Q obj s₂) E (.error e) s') s₁):
  wpAny (model prog w) A (call (.type T) args) Q E s:=by
 obtain⟨c,tl,YK⟩:=ft.mro;have W4:=ft.made;have lW:=ft.sub;refine wpAny_call (codeAny_of_tree ?_);show wpAny _ _ (callAny (.type T) _) _ _ _;refine K2 ⟨Code.quiet_builtin _ (by decide+kernel),B9 F.entry_type_call ?_⟩;rw[Around.under_plain (weight_type_call_type T args []) rfl];have h1:=ft.notType;have h2:=ft.canCreate
 repeat(any_goals (first|assumption|wp_step))
 refine J4 ET λ r s₁ hr=>?_;cases r with
 |error e=>exact hr
 |ok fl=>
  cases fl with
  |ret obj=>
   obtain⟨hT,bx⟩:=RI _ _ hr;have hli:=ft.init.lookup;have hbi:=ft.init.bind obj
   repeat(any_goals (first|assumption|wp_step))
   refine J4 (codeAny_call_builtin ft.init.plain OU bx) λ r₂ s₂ Vh=>?_;cases r₂ with
   |error e=>exact Vh
   |ok fl=>
    cases fl with
    |ret r=>
     obtain⟨rfl,hq⟩:=Vh
     repeat(any_goals (first|assumption|wp_step))
    |_=>exact Vh.elim
  |_=>exact hr.elim
open PySem.Spec PySem.W PySem.Calls PyProof.Rows
theorem yB(next:Nat->Nat):∀(fuel k:Nat) (left:List α) (out:Array α),left.length=fuel->(pickOrder.go next fuel k left out).toList.Perm (out.toList++left)
 |0,k,left,out,h=>by rw[j1.mp h,B0];exact List.Perm.refl _
 |fuel+1,k,left,out,h=>by
  unfold pickOrder.go;have lt:next k % left.length < left.length:=Nat.mod_lt _ (by lia)
  rw[i6 lt];dsimp only;refine(yB next fuel (k+1) _ _ (by rw[length_eraseIdx_of_lt lt];lia)).trans ?_;rw[Array.toList_push,x4];refine List.Perm.append_left _ ?_;rw[singleton_append];have e:=take_append_drop (next k % left.length) left;rw[g9 lt]at e;rw[eraseIdx_eq_take_drop_succ];generalize left[next k % left.length]=x at*
  conv=>rhs;rw[<- e]
  exact perm_middle.symm
theorem AM(next:Nat->Nat)(xs:Array α):(pickOrder next xs).toList.Perm xs.toList:=yB next xs.size 0 xs.toList #[] (m6)
def gL(w:World)(a:ww)(ep:Nat)(es:Array (Int×jp)):Array (Int×jp):=if vE w then pickOrder (w.params.setOrder a ep) es else es
theorem mX(w:World)(a:ww)(ep:Nat)(es:Array (Int×jp)):(gL w a ep es).toList.Perm es.toList:=by
 unfold gL;split
 ·exact AM _ _
 ·exact List.Perm.refl _
theorem mW(w:World)(a:ww)(ep:Nat)(es:Array (Int×jp)):(gL w a ep es).size=es.size:=by
 have:=(mX w a ep es).length_eq
 rwa [m6,m6]at this
theorem nE:entryFor table "set.__iter__"=some Builtin.«frozenset.__iter__»:=entryFor_alias (id':="frozenset.__iter__") (by kernel_rfl) rfl (by decide+kernel) (by kernel_rfl)
theorem dj:Slot "set_iterator" "__next__" "set_iterator.__next__":=
 .of (owner:="set_iterator") (n:="__next__") (by rw[typeLookup_type,builtinLookup_eq_fast];kernel_rfl) (by decide+kernel) (by decide+kernel) (by decide+kernel)
  (by first|exact .inl (by decide+kernel)|exact .inr (by decide+kernel)) (by rw[isSubtype_type];kernel_rfl)
theorem jH:Slot "set_iterator" "__iter__" "set_iterator.__iter__":=
 .of (owner:="set_iterator") (n:="__iter__") (by rw[typeLookup_type,builtinLookup_eq_fast];kernel_rfl) (by decide+kernel) (by decide+kernel) (by decide+kernel)
  (by first|exact .inl (by decide+kernel)|exact .inr (by decide+kernel)) (by rw[isSubtype_type];kernel_rfl)
theorem i_:entryFor table "set_iterator.__next__"=some Builtin.«set_iterator.__next__»:=entryFor_of_tree (by kernel_rfl)
theorem pL:entryFor table "set_iterator.__iter__"=some Builtin.«dict_keyiterator.__iter__»:=entryFor_alias (id':="dict_keyiterator.__iter__") (by kernel_rfl) rfl (by decide+kernel) (by kernel_rfl)
theorem uf:Manifest.owners.lookup (String.ofList ['r','o','t','a','r','e','t','i','_','t','e','s'].reverse)=some Manifest.sig_set_iterator:=by kernel_rfl
theorem jI(a:jp):argsOk "set_iterator.__next__" ⟨[a],[]⟩:=by unfold argsOk;rw[signature?_of (id:="set_iterator.__next__") (n:=['_','_','t','x','e','n','_','_']) (o:=['r','o','t','a','r','e','t','i','_','t','e','s']) (by kernel_rfl) uf];kernel_rfl
theorem rS(a:jp):argsOk "set_iterator.__iter__" ⟨[a],[]⟩:=by unfold argsOk;rw[signature?_of (id:="set_iterator.__iter__") (n:=['_','_','r','e','t','i','_','_']) (o:=['r','o','t','a','r','e','t','i','_','t','e','s']) (by kernel_rfl) uf];kernel_rfl
abbrev Wv(sl i:Nat)(a:ww)(n ep:Nat):Obj:={cls:=.type "set_iterator",data:=.fields #[.int sl 0,.int i 0,.ref a,.int n 0,.int ep 0]}
section
variable {I:ww}{es:Array (Int×jp)}
theorem uh{sl:Nat}{Q:Option (jp×Nat)->kt->Prop}(ho:s.heap.get? a=some (fi es ep t))(T:Tab t es.size)(hl:t.led=!vE w)(hs:vE w=false->SetTable.below t.place sl=i) (h:∀G_:Nat,(vE w=false->i < es.size->SetTable.below t.place G_=i+1)->Q ((gL w a ep es)[i]?.map λ e=>(e.2,G_)) s):wpAny (model prog w) A (setNext a sl i ep) Q E s:=by
 unfold setNext;refine K1 (wpAny_setState_of ho rfl T.fit ?_);dsimp only;unfold setsByText;refine K1 (K1 (wpAny_askSetting (K2 ?_)));show wpAny _ _ (if vE w=true then _ else _) _ _ s;cases hb:vE w with
 |true=>
  rw[K9 rfl,L1 (by simp)];refine K1 ?_;unfold setWalk;refine K1 (wpAny_setState_of ho rfl T.fit ?_);dsimp only;unfold setsByText;refine K1 (K1 (wpAny_askSetting (K2 ?_)));show wpAny _ _ (if vE w=true then _ else _) _ _ s;rw[hb,K9 rfl];refine K1 (wpAny_askSetting (K2 (K2 ?_)));have:=h sl λ z=>by rw[hb]at z;cases z
  unfold gL at this;rw[hb,K9 rfl]at this;exact this
 |false=>
  rw[L1 (by decide)];refine wpAny_ite_split (λ z=>absurd z ?_) λ _=>?_
  ·show ¬((!t.plain&&decide (es.size > 1))=true);rw[T.pl];simp
  refine K1 ?_;show wpAny _ _ (if(!t.led&&!es.isEmpty)=true then _ else _) _ _ s;rw[hl,hb,L1 (by simp)];refine K2 ?_;rw[hs hb];have e2:gL w a ep es=es:=by unfold gL;rw[hb];rfl
  rw[e2]at h;by_cases lt:i < es.size
  ·have BN:i < t.place.size:=by rw[T.sz];exact lt
   have:=h (t.place[i]+1) λ _ _=>xQ T.Kt (by rw[j9,c9 BN]);rw[c9 lt]at this ⊢;rw[c9 BN];exact K2 this
  ·have:=h 0 λ _ z=>absurd z lt;rw[j2 (y7 lt)]at this ⊢;exact K2 this
def FW(w:World)(I a:ww)(es:Array (Int×jp))(ep:Nat)(t:SetTable)(i:Nat)(h:Heap):Prop:=∃sl:Nat,h.get? I=some (Wv sl i a es.size ep)/\h.get? a=some (fi es ep t)/\(vE w=false->SetTable.below t.place sl=i)
theorem Ha{e:Int×jp}{Q:Option jp->kt->Prop}(ne:a≠I)(T:Tab t es.size)(hl:t.led=!vE w)(st:FW w I a es ep t i s.heap)(lt:i < es.size)(he:(gL w a ep es)[i]?=some e) (hQ:∀h',FW w I a es ep t (i+1) h'->Heap.SameBut I s.heap h'->Q (some e.2) {s with heap:=h'}):wpAny (model prog w) A (pyNext (.ref I)) Q E s:=by
 obtain⟨sl,hI,ha,hb⟩:=st;have hT:s.TypeIs (.ref I) "set_iterator":=⟨_,hI,rfl⟩;unfold pyNext;refine K1 (G0 (j0 (name:=Str.ofString "__next__") hT dj (A0 dj hT i_ ?_ (jI _))));refine K1 (K2 ?_);refine K1 (wpAny_fieldsOf hI rfl ?_);dsimp only;refine K1 (wpAny_setEntries_of ha rfl T.fit ?_);rw[L1 (by simp)];rw[show((i:Int)).toNat=i from w6 i,show((ep:Int)).toNat=ep from w6 ep,show((sl:Int)).toNat=sl from w6 sl];refine K1 (uh ha T hl hb λ G_ jD=>?_);rw[he];dsimp only[Option.map];refine K1 (D3 hI rfl (by simp) ?_);have h1:=j6 (Obj.mapFields (·.setIfInBounds 0 (rawInt G_))) hI rfl;refine K1 (D3 h1 rfl (by simp[Obj.mapFields]) ?_);have h2:=j6 (Obj.mapFields (·.setIfInBounds 1 (rawInt ((i:Int)+1)))) h1 rfl;have sb:=(l6 s.heap I (Obj.mapFields (·.setIfInBounds 0 (rawInt G_)))).trans (l6 _ I (Obj.mapFields (·.setIfInBounds 1 (rawInt ((i:Int)+1)))));refine K2 ⟨_,rfl,K2 (hQ _ ⟨G_,?_,?_,λ z=>jD z lt⟩ sb)⟩
 ·exact h2
 ·rw[sb.2 a ne];exact ha
theorem LR{Q:Option jp->kt->Prop}(hh:A.handled=none)(T:Tab t es.size)(hl:t.led=!vE w)(st:FW w I a es ep t es.size s.heap) (hQ:∀h',Heap.ExtBut I s.heap h'->Q none {s with heap:=h'}):wpAny (model prog w) A (pyNext (.ref I)) Q E s:=by obtain⟨sl,hI,ha,hb⟩:=st;have hT:s.TypeIs (.ref I) "set_iterator":=⟨_,hI,rfl⟩;unfold pyNext;refine K1 (G0 (j0 (name:=Str.ofString "__next__") hT dj (A0 dj hT i_ ?_ (jI _))));refine K1 (K2 ?_);refine K1 (wpAny_fieldsOf hI rfl ?_);dsimp only;refine K1 (wpAny_setEntries_of ha rfl T.fit ?_);rw[L1 (by simp)];rw[show((es.size:Int)).toNat=es.size from w6 _,show((ep:Int)).toNat=ep from w6 ep,show((sl:Int)).toNat=sl from w6 sl];refine K1 (uh ha T hl hb λ G_ jD=>?_);rw[j2 (by rw[mW];exact J7 _)];dsimp only[Option.map];refine K1 (D3 hI rfl (by simp) ?_);show wpAny _ _ (newExc (.type "StopIteration") [] >>= _) _ _ _;refine K1 ?_;simp only[newExc,newTuple];refine K1 (w9 ?_ (by size_fits));refine K1 (m:=firstArgMember _ _) (wpAny_of_eq (a:=Value.none) (by first|rfl|(simp only[firstArgMember];rfl)) ?_);refine w9 ?_ (by size_fits);simp only[raiseNew];refine K1 (wpAny_handled ?_);rw[show A.in1.handled=none from hh];refine K1 (K2 (wpAny_throw ?_));refine K1 (A6 (T:="StopIteration") (b:=true) ⟨_,m7 _ rfl,rfl⟩ isSubtype_stop ?_);exact K2 (hQ _ (((l6 ..).extBut.push _).push _))
theorem G'(st:FW w I a es ep t i s.heap)(h:Q (.ref I) s):wpAny (model prog w) A (pyIter (.ref I)) Q E s:=by obtain⟨sl,hI,ha,hb⟩:=st;have hT:s.TypeIs (.ref I) "set_iterator":=⟨_,hI,rfl⟩;refine wpAny_pyIter_slot hT jH (A0 jH hT pL ?_ (rS _));exact K2 ⟨_,rfl,"set_iterator",_,hT,dj.lookup,h⟩
theorem Ak(hh:A.handled=none)(I a:ww)(ne:a≠I)(T:Tab t es.size)(hl:t.led=!vE w):Walks prog w A I [I,a] [I] es.size (λ i v=>∃e,(gL w a ep es)[i]?=some e/\e.2=v) (FW w I a es ep t) where
 sub:=λ b hb=>by simp at hb;simp[hb]
 frame:=λ _ _ _ st hk=>let⟨sl,h1,h2,h3⟩:=st;⟨sl,hk I (by simp) _ h1,hk a (by simp) _ h2,h3⟩
 item:=λ i s Q E hi st hQ=>by
  have lt:i < (gL w a ep es).size:=by rw[mW];exact hi
  exact Ha ne T hl st hi (c9 lt) λ h' gX sb=>hQ _ h' s.toks ⟨_,c9 lt,rfl⟩ gX λ b o hb e=>by rw[sb.2 b λ z=>hb (by simp[z])];exact e
 done:=λ s Q E st hQ=>LR hh T hl st λ h' Tz=>hQ h' s.toks λ b o hb e=>Tz b o (λ h=>hb (by simp[h])) e
 self:=λ _ _ _ _ st hQ=>G' st hQ
theorem CG(ha:s.heap.get? a=some (fi es ep t))(T:Tab t es.size)(hQ:Q (.ref s.heap.objs.size) {s with heap:=s.heap.push (Wv 0 0 a es.size ep)}):wpAny (model prog w) A (pyIter (.ref a)) Q E s:=by have hT:s.TypeIs (.ref a) "set":=⟨_,ha,rfl⟩;refine wpAny_pyIter_slot hT F.slot_set_iter (A0 F.slot_set_iter hT nE ?_ (F.args_set_iter_1 _));unfold Builtin.«frozenset.__iter__» Builtin.Frozenset.slot0 Builtin.Frozenset.sizeOf;refine K1 (K1 (K2 ?_));refine K2 ?_;refine K1 (K1 (wpAny_setEntries_of ha rfl T.fit (K2 ?_)));refine K1 ?_;unfold setDrawn;refine K1 (wpAny_setState_of ha rfl T.fit ?_);dsimp only;unfold setsByText;refine K1 (K1 (wpAny_askSetting (K2 (K2 ?_))));show wpAny _ _ (if(!vE w&&(!t.plain&&decide (es.size > 1)))=true then _ else _) _ _ s;rw[T.pl,L1 (by simp)];refine K1 (K2 ?_);unfold setEpoch;refine K1 (K1 (wpAny_setState_of ha rfl T.fit (K2 ?_)));refine K1 (w9 ?_ (by size_fits));exact K2 ⟨_,rfl,"set_iterator",_,⟨_,m7 _ rfl,rfl⟩,dj.lookup,hQ⟩
theorem CH{Q:Bool->kt->Prop}(hT:s.TypeIs (.ref a) "set")(h:Q false s):wpAny (model prog w) A (Builtin.List.listLengthHint (.ref a)) Q E s:=by
 unfold Builtin.List.listLengthHint;refine K1 (C6 hT F.slot_set_len.lookup ?_);generalize W_:("set.__len__":String)=Yk
 wp_delta
 rw[show splitId Yk=some ("set","__len__")from by subst W_;decide+kernel];subst W_;refine K1 (A6 (T:="set") (b:=true) hT (by rw[isSubtype_type];kernel_rfl) ?_);refine wpAny_ite_split (λ Lb=>absurd Lb (by decide)) (λ _=>?_);refine wpAny_ite_split (λ _=>?_) (λ Lb=>absurd (by decide+kernel) Lb);refine K1 (wpAny_typeOf hT ?_);exact K2 h
theorem GX(T:Tab t es.size)(hl:t.led=!vE w):KdlSrc prog w "set" a a es.size (λ i v=>∃e,(gL w a ep es)[i]?=some e/\e.2=v) (λ h=>h.get? a=some (fi es ep t)) where
 type:=λ _ hm=>⟨_,hm,rfl⟩
 there:=λ _ hm=>⟨G9 hm,G9 hm⟩
 keep:=λ _ _ hm hk=>hk a (.inl rfl) _ hm
 notList:=by decide
 notTuple:=by decide
 hint:=λ _ _ _ _ hm hq=>CH ⟨_,hm,rfl⟩ hq
 iter:=λ _ s hh hm=>⟨_,_,(λ _ _ hq=>CG hm T hq),Ak hh _ a (G8 (G9 hm)) T hl,⟨0,m7 _ rfl,j3 _ hm,λ _=>xP T.Kt⟩⟩
end
end L2
namespace KK
open L3 L4 L5
open L2 hiding aH
abbrev kd(K:List Nat)(x:Nat):Nat:=K.getD x 0
abbrev kI(v:Nat):Int:=v
theorem Eu{K:List Nat}{x:Nat}(h:x < K.length):K[x]?=some (kd K x):=by unfold kd;rw[c7,i6 h];rfl
theorem kd_mem{K:List Nat}{x:Nat}(h:x < K.length):kd K x∈K:=k8 (Eu h)
theorem nJ{h:Nat}(G:Tb m h x0){x:Nat}(hx:x < m):gS (x0.map row) (x:Int)=some (.tup ((x0.getD x []).map D.int))/\(x0.getD x []).length=h/\∀y∈x0.getD x [],0<=y/\y < (m:Int):=by
 have h0:x < x0.length:=by rw[G.len];exact hx
 rw[c7,i6 h0];exact⟨bM (by rw[u7,i6 h0];rfl),G.row _ (A3 h0)⟩
theorem KN{K:List Nat}{x:Nat}(h:x < K.length):gS (K.map nD) (x:Int)=some (nD (kd K x)):=bM (by rw[u7,Eu h];rfl)
theorem Ku(x:Nat):Px x=nD x:=by show D.int (0+(x:Int))=_;rw[G7]
theorem nK{x:Nat}(h:(List.range n)[i]?=some x):x < n:=mem_range.mp (k8 h)
open L3 L4 L5
open L2 hiding aH
def GW(r q:List Row)(i:Nat)(p:Nat×Nat):Nat×Nat:=(aM r i p.1,aM q i p.2)
def Pr(r q:List Row)(h x y v:Nat):Prop:=tG (GW r q) h (0,x) (y,v)
theorem yA{h m2:Nat}{q:List Row}(G:dD m h r)(T:Tb m2 h q){x:Nat}(hx:x < m2){p:Nat×Nat}(R:tG (GW r q) h (0,x) p):p.1 < m/\p.2 < m2:=by
 induction R with
 |zero=>exact⟨G.tb.pos,hx⟩
 |step R hi ih=>exact⟨G.eW.cl _ _ hi ih.1,T.Cj hi _ ih.2⟩
theorem QX{h:Nat}{q:List Row}(G:dD m h r)(x:Nat){y:Nat}(hy:y < m):∃v,Pr r q h x y v:=by
 have:∀y,tG (aM r) h 0 y->∃v,Pr r q h x y v:=λ y R=>by
  induction R with
  |zero=>exact⟨x,.zero⟩
  |step R hi ih=>obtain⟨v,hv⟩:=ih;exact⟨_,.step hv hi⟩
 exact this y (G.BM y hy)
structure zY(r q:List Row)(h x:Nat)(kv:List (Nat×Nat))(ws:List Nat):Prop where
 nd:(kv.map (·.1)).Nodup
 pr:∀e∈kv,Pr r q h x e.1 e.2
 tO:(0,x)∈kv
 wt:∀y∈ws,y∈kv.map (·.1)
 dn:∀y∈kv.map (·.1),y∉ws->∀i,i < h->aM r i y∈kv.map (·.1)
section
variable {h m2 x:Nat}{q:List Row}{ws:List Nat}
theorem zY.start(r q:List Row)(h x:Nat):zY r q h x [(0,x)] [0]:=⟨by simp,λ e he=>by rw[p8.mp he];exact .zero,by simp,λ y hy=>by simpa using hy,λ y hy n=>absurd (by simpa using hy) (by simpa using n)⟩
theorem zY.ck(G:dD m h r)(T:Tb m2 h q)(hx:x < m2)(c:zY r q h x kv ws):kv.length<=m:=by
 have:=List.Nodup.length_le_of_subset c.nd (l₂:=List.range m) λ y hy=>by obtain⟨e,he,rfl⟩:=H0.mp hy;exact mem_range.mpr (yA G T hx (c.pr e he)).1
 rwa [C1,x8]at this
theorem zY.all(G:dD m h r)(c:zY r q h x kv []){y:Nat}(hy:y < m):y∈kv.map (·.1):=by
 have:∀y,tG (aM r) h 0 y->y∈kv.map (·.1):=λ y R=>by
  induction R with
  |zero=>exact H0.mpr ⟨_,c.tO,rfl⟩
  |step R hi ih=>exact c.dn _ ih (by simp) _ hi
 exact this y (G.BM y hy)
end
structure qo(r q:List Row)(h x:Nat)(kv:List (Nat×Nat))(ws:List Nat)(y v i:Nat):Prop where
 nd:(kv.map (·.1)).Nodup
 pr:∀e∈kv,Pr r q h x e.1 e.2
 tO:(0,x)∈kv
 wt:∀y∈ws,y∈kv.map (·.1)
 dn:∀z∈kv.map (·.1),z∉ws->z≠y->∀i,i < h->aM r i z∈kv.map (·.1)
 at':(y,v)∈kv
 so:∀j,j < i->aM r j y∈kv.map (·.1)
section
variable {h x y v:Nat}{q:List Row}{ws:List Nat}
theorem zY.pop(c:zY r q h x kv (ws++[y])):∃v,qo r q h x kv ws y v 0:=by obtain⟨e,he,rfl⟩:=H0.mp (c.wt y (by simp));exact⟨e.2,c.nd,c.pr,c.tO,λ z hz=>c.wt z (k9 _ hz),λ z hz n ne=>c.dn z hz (by rw[C2,p8];exact λ o=>o.elim n ne),he,λ j hj=>absurd hj (by lia)⟩
theorem qo.old(c:qo r q h x kv ws y v i)(hn:aM r i y∈kv.map (·.1)):qo r q h x kv ws y v (i+1):=
 ⟨c.nd,c.pr,c.tO,c.wt,c.dn,c.at',λ j hj=>by
  by_cases z:j=i
  ·rw[z];exact hn
  ·exact c.so j (by lia)⟩
theorem qo.new(c:qo r q h x kv ws y v i)(hi:i < h)(hn:aM r i y∉kv.map (·.1)):qo r q h x (kv++[(aM r i y,aM q i v)]) (ws++[aM r i y]) y v (i+1):=by
 have up:∀z,z∈kv.map (·.1)->z∈(kv++[(aM r i y,aM q i v)]).map (·.1):=λ z hz=>by rw[C3];exact k9 _ hz
 have nw:aM r i y∈(kv++[(aM r i y,aM q i v)]).map (·.1):=by simp
 refine⟨?_,λ e he=>?_,k9 _ c.tO,λ z hz=>?_,λ z hz n ne j hj=>?_,k9 _ c.at',λ j hj=>?_⟩
 ·rw[C3];exact nodup_append.mpr ⟨c.nd,by simp,λ a ha b hb z=>hn (by rw[z,p8.mp hb]at ha;exact ha)⟩
 ·rcases C2.mp he with he|he
  ·exact c.pr e he
  ·rw[p8.mp he];exact tG.step (c.pr _ c.at') hi
 ·rcases C2.mp hz with hz|hz
  ·exact up z (c.wt z hz)
  ·rw[p8.mp hz];exact nw
 ·rw[C2,p8,not_or]at n;rw[C3]at hz;rcases C2.mp hz with hz|hz
  ·exact up _ (c.dn z hz n.1 ne j hj)
  ·exact absurd (by simpa using hz) n.2
 ·by_cases z:j=i
  ·rw[z];exact nw
  ·exact up _ (c.so j (by lia))
theorem qo.done(c:qo r q h x kv ws y v h):zY r q h x kv ws:=
 ⟨c.nd,c.pr,c.tO,c.wt,λ z hz n i hi=>by
  by_cases e:z=y
  ·rw[e];exact c.so i hi
  ·exact c.dn z hz n e i hi⟩
end
structure Xu(m:Nat)(r q:List Row)(h x:Nat)(kv:List (Nat×Nat)):Prop where
 nd:(kv.map (·.1)).Nodup
 pr:∀e∈kv,Pr r q h x e.1 e.2
 all:∀y,y < m->∃v,(y,v)∈kv
 ck:kv.length<=m
 tO:(0,x)∈kv
theorem zY.ZV{h m2 x:Nat}{q:List Row}(G:dD m h r)(T:Tb m2 h q)(hx:x < m2)(c:zY r q h x kv []):Xu m r q h x kv:=
 ⟨c.nd,c.pr,λ y hy=>by
  obtain⟨e,he,e2⟩:=H0.mp (c.all G hy);subst e2;exact⟨e.2,he⟩,c.ck G T hx,c.tO⟩
open L3 L4 L5
open L2 hiding aH
def dH(ls:Row)(x:Nat):Bool:=decide ((x:Int)∈ls)
structure rF(m h:Nat)(r:List Row)(ls:Row)(m2:Nat)(q:List Row)(cz:Row)(g:Nat->Nat):Prop where
 lt:∀x,x < m->g x < m2
 tO:g 0=0
 st:∀x i,x < m->i < h->g (aM r i x)=aM q i (g x)
 ls:∀x,x < m->dH ls x=dH cz (g x)
section
variable {h m2:Nat}{q:List Row}{cz:Row}{g:Nat->Nat}
set_option tactic.hygienic true in
theorem rF.pr(G:dD m h r)(H:rF m h r ls m2 q cz g){p:Nat×Nat}(R:tG (GW r q) h (0,0) p):p.2=g p.1:=by
 have:p.1 < m/\p.2=g p.1:=by
  induction R with
  |zero=>exact⟨G.tb.pos,H.tO.symm⟩
  |step R hi ih=>rename_i s i;refine⟨G.eW.cl _ _ hi ih.1,?_⟩;show aM q i s.2=g (aM r i s.1);rw[H.st _ _ ih.1 hi,ih.2]
 exact this.2
theorem rF.wZ(G:dD m h r)(H:rF m h r ls m2 q cz g)(hi:i < h):∀(n x:Nat),x < m->g (wZ (aM r i) n x)=KK.wZ (aM q i) n (g x)
 |0,x,_=>rfl
 |n+1,x,hx=>by show g (KK.wZ (aM r i) n (aM r i x))=KK.wZ (aM q i) n (aM q i (g x));rw[rF.wZ G H hi n _ (G.eW.cl _ _ hi hx),H.st x i hx hi]
theorem rF.Gg(G:dD m h r)(H:rF m h r ls m2 q cz g):∀(cs:Row) (i x:Nat),i+cs.length<=h->x < m->g (Gg r i x cs)=KK.Gg q i (g x) cs
 |[],i,x,_,_=>rfl
 |c::cs,i,x,hl,hx=>by rw[y8]at hl;show g (KK.Gg r (i+1) (KK.wZ (aM r i) c.toNat x) cs)=KK.Gg q (i+1) (KK.wZ (aM q i) c.toNat (g x)) cs;rw[rF.Gg G H cs (i+1) _ (by lia) (EC (G.tb.Cj (by lia)) _ _ hx),H.wZ G (by lia) _ _ hx]
end
open L3 L4 L5
open L2 hiding aH
def Ii(r:List Row)(ls:Row)(x y:Nat)(p:Cs):Prop:=dH ls (dw (aM r) 0 x p)≠dH ls (dw (aM r) 0 y p)
section
variable {h:Nat}{x y:Nat}
theorem OQ(G:dD m h r)(hx:x < m){p:Cs}(hp:p.length=h):dw (aM r) 0 x p < m:=G.eW.dw p 0 x (by lia) hx
end
end KK
namespace L2
open PySem
abbrev mV(mask:Nat)(h:Int):List Nat:=iA mask (mask+15) (SetTable.bits h % (mask+1),SetTable.bits h)
def Pf(mask:Nat)(Tf:Nat->Prop)(h:Int)(j:Nat):Prop:=∃pre post,mV mask h=pre++j::post/\∀k∈pre,Tf k
theorem Pf.mono{Tf Rb:Nat->Prop}{h:Int}(a:Pf mask Tf h j)(s:∀k,Tf k->Rb k):Pf mask Rb h j:=
 let⟨pre,post,e,o⟩:=a
 ⟨pre,post,e,λ k hk=>s k (o k hk)⟩
def FZ(t:SetTable)(hs:List Int):Prop:=∀(i:Nat) (j:Nat) (h:Int),t.place.toList[i]?=some j->hs[i]?=some h->Pf t.mask (·∈t.place.toList) h j
theorem ve:∀(fuel i pt:Nat),(∃e∈iA mask fuel (i,pt),(owner.getD e (some 0)).isNone=true)->
  ∃pre j post,iA mask fuel (i,pt)=pre++j::post/\(∀k∈pre,(owner.getD k (some 0)).isNone=false)/\(owner.getD j (some 0)).isNone=true/\SetTable.layClean.free mask owner fuel i pt=some j
 |0,i,pt,⟨e,he,_⟩=>by cases he
 |fuel+1,i,pt,⟨e,he,hn⟩=>by
  unfold SetTable.layClean.free;have eb:iA mask (fuel+1) (i,pt)=(List.range (SetTable.runEnd mask i+1 - i)).map (i+·)++iA mask fuel (SetTable.leap mask i pt):=rfl;rw[eb];cases hf:(List.range (SetTable.runEnd mask i+1 - i)).find? λ k=>(owner.getD (i+k) (some 0)).isNone with
  |some k=>obtain⟨h1,as,bs,h2,h3⟩:=find?_eq_some_iff_append.mp hf;refine⟨as.map (i+·),i+k,bs.map (i+·)++iA mask fuel (SetTable.leap mask i pt),by rw[h2,C3,G4,x4,A7],λ z hz=>?_,h1,rfl⟩;obtain⟨y,hy,rfl⟩:=H0.mp hz;have:=h3 y hy;simpa using this
  |none=>
   rcases C2.mp (eb▸he)with he|he
   ·obtain⟨k,hk,rfl⟩:=H0.mp he;exact absurd hn (find?_eq_none.mp hf k hk)
   ·obtain⟨pre,j,post,a,b,c,d⟩:=ve fuel (SetTable.leap mask i pt).1 (SetTable.leap mask i pt).2 ⟨e,he,hn⟩;refine⟨(List.range (SetTable.runEnd mask i+1 - i)).map (i+·)++pre,j,post,by rw[x4,<- a],λ z hz=>?_,c,d⟩;rcases C2.mp hz with hz|hz
    ·obtain⟨k,hk,rfl⟩:=H0.mp hz;exact Bool.eq_false_iff.mpr (find?_eq_none.mp hf k hk)
    ·exact b z hz
structure Own(mask:Nat)(hs:List Int)(owner:Array (Option Nat))(k:Nat):Prop where
 sz:owner.size=mask+1
 pm:(sh mask owner).Perm (List.range k)
 rc:∀j i h,owner.getD j none=some i->hs[i]?=some h->Pf mask (λ s=>owner.getD s none≠none) h j
theorem qX(hs:owner.size=mask+1)(hj:j<=mask):owner.getD j (some 0)=owner.getD j none:=by
 have h1:j < owner.size:=by lia
 simp[Array.getD,h1]
theorem Own.next(M:Ki mask){hs:List Int}(O:Own mask hs owner k){h:Int}(hk:hs[k]?=some h)(kl:k<=mask):∃j,SetTable.layClean.free mask owner (SetTable.turns mask) (SetTable.bits h % (mask+1)) (SetTable.bits h)=some j/\Own mask hs (owner.setIfInBounds j (some k)) (k+1):=by
 have hi:SetTable.bits h % (mask+1)<=mask:=Nat.le_of_lt_succ (Nat.mod_lt _ (Nat.succ_pos _));obtain⟨e,he,dP⟩:=DN O.sz O.pm kl;obtain⟨pre,j,post,a,b,c,d⟩:=ve (mask:=mask) (owner:=owner) (SetTable.turns mask) (SetTable.bits h % (mask+1)) (SetTable.bits h) ⟨e,vF M hi (zT h) he,dP⟩;have aw:mV mask h=pre++j::post:=a;have le:∀z∈mV mask h,z<=mask:=λ z hz=>mN (mask+15) (SetTable.bits h % (mask+1),SetTable.bits h) hi hz;have jm:j<=mask:=le j (by rw[aw];simp);obtain⟨h4,h5⟩:=Iz O.sz O.pm jm c;have cn:owner.getD j none=none:=by rw[qX O.sz jm]at c;exact Option.isNone_iff_eq_none.mp c
 have jC:∀i,i≠j->(owner.setIfInBounds j (some k)).getD i none=owner.getD i none:=λ i hi=>by rw[Array.getD_eq_getD_getElem?,Array.getD_eq_getD_getElem?,Array.getElem?_setIfInBounds,L1 (K8 hi)]
 have at':(owner.setIfInBounds j (some k)).getD j none=some k:=by rw[Array.getD_eq_getD_getElem?,Array.getElem?_setIfInBounds,K9 rfl,K9 (by rw[O.sz];lia)];rfl
 have up:∀s,owner.getD s none≠none->(owner.setIfInBounds j (some k)).getD s none≠none:=λ s z=>by
  by_cases g:s=j
  ·rw[g,at'];simp
  ·rw[jC s g];exact z
 refine⟨j,d,h4,h5,λ j' i h' z hz=>?_⟩;by_cases g:j'=j
 ·subst g;rw[at']at z;cases z;rw[hk]at hz;cases hz;refine⟨pre,post,aw,λ s hs=>up s ?_⟩;have:=b s hs;rw[qX O.sz (le s (by rw[aw];simp[hs]))]at this;intro w;rw[w]at this;cases this
 ·rw[jC j' g]at z;exact(O.rc j' i h' z hz).mono up
theorem Ji(M:Ki mask)(hashes:Array Int)(hn:hashes.size<=mask+1):∃owner,SetTable.layClean mask hashes=some owner/\Own mask hashes.toList owner hashes.size:=by
 have gen:∀(l:List Int) (pre:List Int) (owner:Array (Option Nat)),pre++l=hashes.toList->Own mask hashes.toList owner pre.length->
   ∃DM,l.foldl (init:=some (owner,pre.length)) (λ zn h=>do
    let(owner,k) <- zn
    let j <- SetTable.layClean.free mask owner (SetTable.turns mask) (SetTable.bits h % (mask+1)) (SetTable.bits h)
    pure (owner.setIfInBounds j (some k),k+1))=some (DM,hashes.size)/\Own mask hashes.toList DM hashes.size:=by
  intro l
  induction l with
  |nil=>intro pre owner e O;rw[B0]at e;subst e;rw[m6]at O;exact⟨owner,by rw[m6];rfl,O⟩
  |cons h l ih=>
   intro pre owner e O;have hk:hashes.toList[pre.length]?=some h:=by rw[<- e,a9 (J7 _),Nat.sub_self];rfl
   have kl:pre.length < hashes.size:=by
    have:=(i3.mp hk).1
    rwa [m6]at this
   obtain⟨j,d,O2⟩:=O.next M hk (by lia);obtain⟨o',f1,f2⟩:=ih (pre++[h]) _ (by rw[x4];exact e) (by rw[o6,j8];exact O2);refine⟨o',?_,f2⟩;rw[foldl_cons];have:(do let(owner,k) <- some (owner,pre.length);let j <- SetTable.layClean.free mask owner (SetTable.turns mask) (SetTable.bits h % (mask+1)) (SetTable.bits h);pure (owner.setIfInBounds j (some k),k+1):Option (Array (Option Nat)×Nat))=some (owner.setIfInBounds j (some pre.length),pre.length+1):=by show(SetTable.layClean.free mask owner (SetTable.turns mask) (SetTable.bits h % (mask+1)) (SetTable.bits h)).bind _=_;rw[d];rfl
   rw[this];rw[o6,j8]at f1;exact f1
 have e0:sh mask (Array.replicate (mask+1) none)=[]:=by unfold sh;rw[filterMap_eq_nil_iff];intro j _;rw[Array.getD_eq_getD_getElem?,Array.getElem?_replicate];split <;> rfl
 obtain⟨o',f1,f2⟩:=gen hashes.toList [] (Array.replicate (mask+1) none) rfl ⟨by simp,by rw[e0];exact List.Perm.refl _,λ j i h z=>by
  rw[Array.getD_eq_getD_getElem?,Array.getElem?_replicate]at z;split at z <;> cases z⟩
 refine⟨o',?_,f2⟩;unfold SetTable.layClean;rw[<- Array.foldl_toList];have:(some (Array.replicate (mask+1) none,0):Option (Array (Option Nat)×Nat))=some (Array.replicate (mask+1) none,([]:List Int).length):=rfl;rw[this,f1];rfl
theorem Jd(f:Nat->Option Nat):∀(l:List Nat) (i:Nat) (j k:Nat),(l.filterMap λ j=>(f j).map (j,·))[i]?=some (j,k)->j∈l/\f j=some k:=λ l i j k h=>by have:=k8 h;obtain⟨a,ha,e⟩:=mem_filterMap.mp this;obtain⟨b,hb,e2⟩:=Option.map_eq_some_iff.mp e;cases e2;exact⟨ha,hb⟩
theorem zp{es:Array (Int×jp)}:∀(l:List Nat),(∀k∈l,k < es.size)->∀i:Nat,(l.filterMap (es[·]?))[i]?=(l[i]?).bind λ k=>es[k]?
 |[],_,i=>by simp
 |a::l,h,i=>by
  have ha:=c9 (h a n6);rw[filterMap_cons_some ha];cases i with
  |zero=>simp[ha]
  |succ i=>simpa using zp l (λ k hk=>h k (k7 _ hk)) i
theorem AF{es:Array (Int×jp)}{wanted:Nat}(pl:t.plain=true)(e:SetTable.sizeAbove wanted=m+1)(M:Ki m)(hn:es.size<=m):∃t2 ord Fn,t.relaid (es.map (·.1)) wanted=some (t2,ord)/\ord.filterMap (es[·]?)=Fn/\ord.toList.Perm (List.range es.size)/\Tab0 t2 es.size/\t2.mask=m/\t2.led=t.led/\Fn.size=es.size/\Fn.toList.Perm es.toList/\FZ t2 (Fn.toList.map (·.1)):=by
 obtain⟨owner,o1,O⟩:=Ji M (es.map (·.1)) (by rw[Array.size_map];lia);have o3:=O.pm;rw[Array.size_map]at o3;have sl:=oh (λ j=>owner.getD j none) (List.range (m+1));have sn:=og (λ j=>owner.getD j none) (List.range (m+1));have la:=Jd (λ j=>owner.getD j none) (List.range (m+1));have lm:∀s,s<=m->owner.getD s none≠none->s∈((List.range (m+1)).filterMap λ j=>(owner.getD j none).map (j,·)).map (·.1):=λ s hs z=>by
  cases ez:owner.getD s none with
  |none=>exact absurd ez z
  |some k=>exact H0.mpr ⟨(s,k),mem_filterMap.mpr ⟨s,mem_range.mpr (by lia),by rw[ez];rfl⟩,rfl⟩
 generalize hl:((List.range (m+1)).filterMap λ j=>(owner.getD j none).map (j,·))=live at sl sn la lm;have hp:(live.map (·.2)).Perm (List.range es.size):=by rw[sn];exact o3
 have len:live.length=es.size:=by rw[<- C1 (f:=(·.2)),hp.length_eq,x8]
 have er:t.relaid (es.map (·.1)) wanted=some ({mask:=m,place:=(live.map (·.1)).toArray,dummies:=#[],finger:=t.finger,led:=t.led,moves:=t.movedTo m,plain:=t.plain},(live.map (·.2)).toArray):=by unfold SetTable.relaid SetTable.laid;rw[e,Nat.add_sub_cancel,o1];show some (_,_)=_;rw[hl]
 have lt:∀k∈live.map (·.2),k < es.size:=λ k hk=>mem_range.mp (hp.mem_iff.mp hk);have el:((live.map (·.2)).toArray.filterMap (es[·]?)).toList=(live.map (·.2)).filterMap (es[·]?):=by rw[Array.toList_filterMap]
 have pm:((live.map (·.2)).filterMap (es[·]?)).Perm es.toList:=by
  refine(hp.filterMap _).trans ?_;have:(List.range es.size).filterMap (es[·]?)=es.toList:=by
   refine y3 λ i=>?_;rw[zp _ λ k hk=>mem_range.mp hk];by_cases z:i < es.size
   ·rw[l7 z,j9];rfl
   ·rw[k5 (by rw[x8];lia),k5 (by rw[m6];lia)];rfl
  rw[this]
 refine⟨_,_,_,er,rfl,hp,⟨rfl,List.Pairwise.sublist sl pairwise_lt_range,?_,λ j hj=>?_,pl,M⟩,rfl,rfl,?_,by rw[el];exact pm,λ i j h hj hh=>?_⟩
 ·show(live.map (·.1)).toArray.size=_;rw[y0,C1,len]
 ·have:=mem_range.mp (sl.subset hj);exact Nat.le_of_lt_succ this
 ·rw[<- m6,el,pm.length_eq,m6]
 ·have hj:(live.map (·.1))[i]?=some j:=hj;rw[u7]at hj;obtain⟨⟨j',k⟩,Gk,ej⟩:=Option.map_eq_some_iff.mp hj;cases ej;obtain⟨_,ok⟩:=la i j' k Gk;have kl:k < es.size:=lt k (H0.mpr ⟨_,k8 Gk,rfl⟩);rw[el,u7,zp _ lt,u7,Gk]at hh;have YV:(es.map (·.1)).toList[k]?=some h:=by rw[Array.toList_map,u7,j9];exact hh
  have R:=O.rc j' k h ok YV;obtain⟨pre,post,e1,e2⟩:=R;have hi:SetTable.bits h % (m+1)<=m:=Nat.le_of_lt_succ (Nat.mod_lt _ (Nat.succ_pos _));refine⟨pre,post,e1,λ s hs=>lm s ?_ (e2 s hs)⟩;exact mN (m+15) (SetTable.bits h % (m+1),SetTable.bits h) hi (by show s∈mV m h;rw[e1];exact k9 _ hs)
open PySem.Spec PyProof.Rows
def xT(prog:Program)(w:World)(h:Heap)(es:Array (Int×jp))(ks:List IK):Prop:=es.size=ks.length/\∀(i:Nat) (k:IK),ks[i]?=some k->∃b,es[i]?=some (eN k,.ref b)/\(aX prog w).is h k b
def SetT(prog:Program)(w:World)(us:List jp)(h:Heap)(a:ww)(led:Bool)(ks:List IK):Prop:=∃es ep t,h.get? a=some (fi es ep t)/\xT prog w h es ks/\ks.Nodup/\Tab t es.size/\t.led=led/\FZ t (ks.map eN)/\∀e∈es.toList,e.2∈us
theorem iG{h:Heap}{k:IK}{b:ww}(q:∀b o,o.cls=.type "tuple"->h.get? b=some o->h'.get? b=some o)(x:(aX prog w).is h k b):(aX prog w).is h' k b:=⟨x.1,zd q k x.2⟩
theorem uF:∀(n:Nat) (k:IK),k.dep<=n->∀{A:Around} {E:jp->kt->Prop} {s:kt} {v:jp} {Q:Bool->kt->Prop},cC s.heap k v->Q false s->wpAny (model prog w) A (ofAClassStatement n v) Q E s:=by
 intro n
 induction n with
 |zero=>
  intro k hk A E s v Q hi h;cases k with
  |i m=>unfold cC at hi;rcases hi with⟨t,rfl⟩|⟨b,rfl,_⟩ <;> (unfold ofAClassStatement;exact K2 h)
  |t ks=>unfold IK.dep at hk;lia
 |succ n ih=>
  intro k hk A E s v Q hi h;cases k with
  |i m=>unfold cC at hi;rcases hi with⟨t,rfl⟩|⟨b,rfl,_⟩ <;> (unfold ofAClassStatement;exact K2 h)
  |t ks=>
   unfold cC at hi;obtain⟨a,o,ay,m,rfl,ho,hc,hd,hits⟩:=hi;have gR:IK.jh ks<=n:=by unfold IK.dep at hk;lia
   have hT:s.TypeIs (.ref a) "tuple":=⟨o,ho,hc⟩;unfold ofAClassStatement;refine K1 (wpAny_typeOf hT ?_);dsimp only;rw[K9 (by decide)];refine K1 (K2 ?_);rw[L1 (by decide)];refine K1 (C9 ho hd ?_);dsimp only;refine K1 ?_;rw[<- u6];refine wpAny_forIn_list _ (λ rest r s'=>r.1=none/\s'=s/\∃left,(∀l∈left,l∈ks)/\bH s.heap left rest) _ ?_ ?_ _ _ ⟨rfl,rfl,ks,λ l hl=>hl,by simpa using hits⟩
   ·rintro x rest r s' ⟨hr,rfl,left,lW,hl⟩;cases left with
    |nil=>unfold bH at hl;cases hl
    |cons k1 left=>unfold bH at hl;obtain⟨v,r',e,h1,h2⟩:=hl;cases e;refine K1 (ih k1 (J0 (gj (lW k1 (n6 ..))) gR) h1 ?_);simp only[o7,K6];exact K2 ⟨rfl,rfl,left,λ l hl=>lW l (k7 _ hl),h2⟩
   ·rintro⟨r1,r2⟩ s' ⟨hr,rfl,_⟩;simp only at hr;subst hr;exact K2 h
theorem DZ{k:IK}{b:ww}(hk:(aX prog w).is s.heap k b){Q:Bool->kt->Prop}(h:Q false s):∀(vs:List jp),(∀v∈vs,∃k' c,v=.ref c/\(aX prog w).is s.heap k' c)->wpAny (model prog w) A (searchCouldBeSeen (.ref b) vs) Q E s:=by
 intro vs hv;unfold searchCouldBeSeen;refine K1 ?_;refine wpAny_forIn_list _ (λ rest r s'=>r.1=none/\s'=s/\∀v∈rest,v∈vs) _ ?_ ?_ _ _ ⟨rfl,rfl,λ v h=>h⟩
 ·rintro y rest r s' ⟨hr,rfl,hl⟩;obtain⟨k',c,rfl,hc⟩:=hv y (hl y n6);have fin:∀v∈rest,v∈vs:=λ v hv=>hl v (k7 _ hv);dsimp only;split
  ·exact K2 ⟨rfl,rfl,fin⟩
  ·refine K1 ((aX prog w).quiet hk ?_);simp only[Bool.not_true,o7,K6];refine K1 ((aX prog w).quiet hc ?_);simp only[Bool.not_true,o7,K6];refine K1 (uF 8 k (J0 hk.1 (by decide)) hk.2 ?_);simp only[o7,K6];refine K1 (uF 8 k' (J0 hc.1 (by decide)) hc.2 ?_);simp only[o7,K6];exact K2 ⟨rfl,rfl,fin⟩
 ·rintro⟨r1,r2⟩ s' ⟨hr,rfl,_⟩;simp only at hr;subst hr;exact K2 h
theorem Ax{b:ww}{es:Array (Int×jp)}{k:IK}(ho:s.heap.get? a=some (fi es ep t))(En:xT prog w s.heap es ks)(T:Tab t es.size)(hk:(aX prog w).is s.heap k b)(hu:A.units+8 < cLine)(R:FZ t (ks.map eN)) {Q:SetFound->kt->Prop} (Yx:k∈ks->Q (.there none) s) (Bq:k∉ks->∀j,j<=t.mask->j∉t.place.toList->Pf t.mask (·∈t.place.toList) (eN k) j->Q (.free j false) s):∀(n fuel:Nat) (iZ:Option SetTable.Probe) (B:Nat) (rZ rest:List Nat),mV t.mask (eN k)=rZ++rest->hX t.mask B (iZ.getD (t.probeStart (eN k)))=rest->(iZ.getD (t.probeStart (eN k))).dummy=none->rest.length<=n->n < fuel->
   (∀z∈rZ,∃(i:Nat) (k':IK),t.place.toList[i]?=some z/\ks[i]?=some k'/\k'≠k)->wpAny (model prog w) A (setSearchFrom a (.ref b) (eN k) true fuel iZ) Q E s:=by
 have hi:SetTable.bits (eN k) % (t.mask+1)<=t.mask:=Nat.le_of_lt_succ (Nat.mod_lt _ (Nat.succ_pos _));have PR:es.size<=t.mask:=by have:=T.PR;lia
 have odd:t.gaveWay=false:=by unfold SetTable.gaveWay;rcases T.Ti with e|e|e <;> rw[e] <;> rfl
 obtain⟨fe,YZ,Gp⟩:=Aw (l:=t.place.toList) (m:=t.mask) (by rw[m6,T.sz];exact PR);have ck:fe∈mV t.mask (eN k):=vF T.Ti hi (zT _) YZ;have wl:(mV t.mask (eN k)).length<=10*(t.mask+15):=oR _ _ _;intro n
 induction n with
 |zero=>intro fuel iZ B rZ rest e1 e2 e3 e4 e5 e6;have:rest=[]:=j1.mp (by lia);subst this;rw[e1,B0]at ck;obtain⟨i,_,hz,_⟩:=e6 fe ck;exact absurd (k8 hz) Gp
 |succ n ih=>
  intro fuel iZ B rZ rest e1 e2 e3 e4 e5 e6;obtain⟨fuel,rfl⟩:∃f,fuel=f+1:=⟨fuel - 1,by lia⟩;have inr:fe∈rest:=by
   rw[e1]at ck;rcases C2.mp ck with z|z
   ·obtain⟨i,_,hz,_⟩:=e6 fe z;exact absurd (k8 hz) Gp
   ·exact z
  unfold setSearchFrom;refine K1 (wpAny_setState_of ho rfl T.fit ?_);dsimp only;rw[odd,L1 (by decide)];obtain⟨pre,j,post,f1,f2,f3⟩:=Fd T.dm T.Kt (hashAt:=λ i=>(es[i]?.map (·.1)).getD 0) (h:=eN k) (10*SetTable.turns t.mask) B (iZ.getD (t.probeStart (eN k))) (by
   rw[e2];have:rest.length<=(mV t.mask (eN k)).length:=by rw[e1,o6];lia
   exact J0 this wl) e3 ⟨fe,by rw[e2];exact inr,Gp⟩
  rw[e2]at f1;have key:∀(i z:Nat),t.place.toList[i]?=some z->∃k' c,ks[i]?=some k'/\es[i]?=some (eN k',.ref c)/\(aX prog w).is s.heap k' c:=λ i z hz=>by have lt:=(i3.mp hz).1;rw[m6,T.sz,En.1]at lt;obtain⟨c,c1,c2⟩:=En.2 i _ (i6 lt);exact⟨_,c,i6 lt,c1,c2⟩
  have sg:∀z∈pre,∃(i:Nat) (k':IK),t.place.toList[i]?=some z/\ks[i]?=some k'/\k'≠k:=λ z hz=>by obtain⟨i,U7,hh⟩:=f2 z hz;obtain⟨k',c,c1,c2,_⟩:=key i z U7;refine⟨i,k',U7,c1,λ w=>hh ?_⟩;rw[c2,w];rfl
  have jw:j∈mV t.mask (eN k):=by rw[e1,f1];simp
  have jm:j<=t.mask:=mN (t.mask+15) (SetTable.bits (eN k) % (t.mask+1),SetTable.bits (eN k)) hi jw;rcases f3 with⟨nj,pr⟩|⟨i,B',next,hj,hh,pr,Th,rem⟩
  ·show wpAny _ _ (match SetTable.probe t (λ i=>(es[i]?.map (·.1)).getD 0) (eN k) (iZ.getD (t.probeStart (eN k)))with|some met=>_|x=>_) _ _ s;have QY:SetTable.probe t (λ i=>(es[i]?.map (·.1)).getD 0) (eN k) (iZ.getD (t.probeStart (eN k)))=some (.empty j none):=pr;rw[QY];dsimp only;refine K2 ?_;have live:∀z∈rZ++pre,z∈t.place.toList:=λ z hz=>by
    rcases C2.mp hz with q|q
    ·obtain⟨i,_,q,_⟩:=e6 z q;exact k8 q
    ·obtain⟨i,_,q,_⟩:=sg z q;exact k8 q
   by_cases pR:k∈ks
   ·exfalso;obtain⟨i0,RO⟩:=getElem?_of_mem pR;have il:=(i3.mp RO).1;have Rt:i0 < t.place.toList.length:=by rw[m6,T.sz,En.1];exact il
    obtain⟨pk,qk,w1,w2⟩:=R i0 _ (eN k) (i6 Rt) (by rw[u7,RO];rfl);have w3:pk++t.place.toList[i0]::qk=(rZ++pre)++j::post:=by rw[<- w1,e1,f1,x4]
    have mem:t.place.toList[i0]∈rZ++pre:=by
     rcases append_eq_append_iff.mp w3 with⟨as,a1,a2⟩|⟨bs,b1,b2⟩
     ·cases as with
      |nil=>rw[B1]at a2;have:=(List.cons.inj a2).1;exact absurd (by rw[<- this];exact A3 Rt) nj
      |cons x as=>rw[A7]at a2;rw[a1,(List.cons.inj a2).1];simp
     ·cases bs with
      |nil=>rw[B1]at b2;have:=(List.cons.inj b2).1;exact absurd (by rw[this];exact A3 Rt) nj
      |cons x bs=>rw[A7]at b2;exact absurd (w2 j (by rw[b1,(List.cons.inj b2).1];simp)) nj
    have un:∀(i:Nat) (k':IK),t.place.toList[i]?=some t.place.toList[i0]->ks[i]?=some k'->k'=k:=λ i k' q1 q2=>by
     have:i=i0:=by
      rcases Nat.lt_trichotomy i i0 with z|z|z
      ·exact absurd (kR T.Kt q1 (i6 Rt) z) (G3 _)
      ·exact z
      ·exact absurd (kR T.Kt (i6 Rt) q1 z) (G3 _)
     rw[this,RO]at q2;exact(B6 q2).symm
    rcases C2.mp mem with q|q
    ·obtain⟨i,k',q1,q2,q3⟩:=e6 _ q;exact q3 (un i k' q1 q2)
    ·obtain⟨i,k',q1,q2,q3⟩:=sg _ q;exact q3 (un i k' q1 q2)
   ·exact Bq pR j jm nj ⟨rZ++pre,post,by rw[e1,f1,x4],live⟩
  ·obtain⟨k',c,c1,c2,c3⟩:=key i j hj;show wpAny _ _ (match SetTable.probe t (λ i=>(es[i]?.map (·.1)).getD 0) (eN k) (iZ.getD (t.probeStart (eN k)))with|some met=>_|x=>_) _ _ s;have QY:SetTable.probe t (λ i=>(es[i]?.map (·.1)).getD 0) (eN k) (iZ.getD (t.probeStart (eN k)))=some (.candidate j i next):=pr;rw[QY];dsimp only;have sl:t.slot j=.live i:=qI T.Kt hj;have sm:t.sameMemory t.moves t.mask=some true:=by unfold SetTable.sameMemory;rw[K9 (by simp)]
   have tail:wpAny (model prog w) A (do
     let(_,y) <- (pure (eN k',Value.ref c):Sem (Int×jp))
     let equal <- holding [y] (eqBool y (.ref b))
     let(es',_,t') <- setState a
     if true&&equal then return .there none
     let some same:=t'.sameMemory t.moves t.mask|unsupported "set.changed-during-lookup:is-the-new-block-at-the-old-address"
     let Qi <- match(if same then t'.slot j else .empty)with
      | .live i'=>match es'[i']? with
       |some (_,y')=>do pure (if <- isSame y' y then some i' else none)
       |none=>pure none
      |_=>pure none
     match Qi with
     |none=>rule "set.search.anew";setSearchFrom a (.ref b) (eN k) true fuel none
     |some i'=>if equal then return .there (some i')else setSearchFrom a (.ref b) (eN k) true fuel (some next)) Q E s:=by
    refine K1 (K2 ?_);dsimp only;refine K1 (D4 ((aX prog w).eqBool hu c3 hk ?_));refine K1 (wpAny_setState_of ho rfl T.fit ?_);dsimp only;by_cases eq:k'=k
    ·rw[C8 eq,Bool.and_self,K9 rfl];exact K2 (Yx (by rw[<- eq];exact k8 c1))
    ·rw[B3 eq,Bool.and_false,L1 (by decide),sm];dsimp only;rw[K9 rfl,sl];dsimp only;rw[c2];dsimp only;refine K1 ?_;unfold isSame;dsimp only;rw[K9 (by simp)];refine K2 (K1 (K2 ?_));rw[K9 rfl];dsimp only;rw[L1 (by decide)];have pn:post≠[]:=λ z=>by
      rw[f1,z]at inr;rcases C2.mp inr with q|q
      ·obtain⟨i,_,q,_⟩:=sg fe q;exact Gp (k8 q)
      ·rw[p8.mp q]at Gp;exact Gp (k8 hj)
     refine ih fuel (some next) B' (rZ++pre++[j]) post (by rw[e1,f1];simp) (rem pn) Th (by rw[f1,o6,y8]at e4;lia) (by lia) λ z hz=>?_;rcases C2.mp hz with q|q
     ·rcases C2.mp q with q|q
      ·exact e6 z q
      ·exact sg z q
     ·rw[p8.mp q];exact⟨i,k',hj,c1,eq⟩
   cases hl:t.led with
   |true=>rw[L1 (by decide),c2];exact tail
   |false=>
    rw[K9 (by decide)];refine K1 (DZ hk ?_ _ λ v hv=>?_)
    ·rw[L1 (by decide),c2];exact tail
    ·obtain⟨e,he,rfl⟩:=H0.mp hv;have VH:e∈es.toList:=by rw[Array.toList_filter]at he;exact(mem_filter.mp he).1
     obtain⟨i',uZ⟩:=getElem?_of_mem VH;have lt:=(i3.mp uZ).1;rw[m6,En.1]at lt;obtain⟨c',d1,d2⟩:=En.2 i' _ (i6 lt);rw[j9,d1]at uZ;cases uZ;exact⟨_,c',rfl,d2⟩
open PySem.Spec PyProof.Rows
theorem sJ(l:List α)(x:α){p:Nat}(hp:p<=l.length)(i:Nat):(l.take p++x::l.drop p)[i]?=if i < p then l[i]? else if i=p then some x else l[i - 1]?:=by
 have tl:(l.take p).length=p:=by rw[A2];lia
 by_cases h1:i < p
 ·rw[K9 h1,c8 (by lia),getElem?_take_of_lt h1]
 ·rw[L1 h1,a9 (by lia),tl];by_cases h2:i=p
  ·rw[K9 h2,h2,Nat.sub_self];rfl
  ·rw[L1 h2];obtain⟨d,hd⟩:∃d,i - p=d+1:=⟨i - p - 1,by lia⟩;rw[hd,getElem?_cons_succ,getElem?_drop];congr 1;lia
theorem xp{es:List α}:∀(l:List Nat),(∀k∈l,k < es.length)->∀i:Nat,(l.filterMap (es[·]?))[i]?=(l[i]?).bind λ k=>es[k]?
 |[],_,i=>by simp
 |a::l,h,i=>by
  have ha:=i6 (h a n6);rw[filterMap_cons_some ha];cases i with
  |zero=>simp[ha]
  |succ i=>simpa using xp l (λ k hk=>h k (k7 _ hk)) i
theorem Fb:∀(n:Nat) (k:IK),k.dep<=n->∀{A:Around} {E:jp->kt->Prop} {s:kt} {v:jp} {Q:Bool->kt->Prop},cC s.heap k v->Q true s->wpAny (model prog w) A (hashByValue n v) Q E s:=by
 intro n
 induction n with
 |zero=>
  intro k hk A E s v Q hi h;cases k with
  |i m=>unfold cC at hi;rcases hi with⟨t,rfl⟩|⟨b,rfl,_⟩ <;> (unfold hashByValue;exact K2 h)
  |t ks=>unfold IK.dep at hk;lia
 |succ n ih=>
  intro k hk A E s v Q hi h;cases k with
  |i m=>unfold cC at hi;rcases hi with⟨t,rfl⟩|⟨b,rfl,_⟩ <;> (unfold hashByValue;exact K2 h)
  |t ks=>
   unfold cC at hi;obtain⟨a,o,ay,m,rfl,ho,hc,hd,hits⟩:=hi;have gR:IK.jh ks<=n:=by unfold IK.dep at hk;lia
   have hT:s.TypeIs (.ref a) "tuple":=⟨o,ho,hc⟩;unfold hashByValue;refine K1 (C6 hT F.slot_tuple_hash.lookup ?_);dsimp only;refine K1 (C9 ho hd ?_);refine K1 ?_;show wpAny _ _ (forIn ay.toArray _ _) _ _ s;rw[<- u6];refine wpAny_forIn_list _ (λ rest r s'=>r.1=none/\s'=s/\∃left,(∀l∈left,l∈ks)/\bH s.heap left rest) _ ?_ ?_ _ _ ⟨rfl,rfl,ks,λ l hl=>hl,by simpa using hits⟩
   ·rintro x rest r s' ⟨hr,rfl,left,lW,hl⟩;cases left with
    |nil=>unfold bH at hl;cases hl
    |cons k1 left=>unfold bH at hl;obtain⟨v,r',e,h1,h2⟩:=hl;cases e;refine K1 (ih k1 (J0 (gj (lW k1 (n6 ..))) gR) h1 ?_);simp only[Bool.not_true,o7,K6];exact K2 ⟨rfl,rfl,left,λ l hl=>lW l (k7 _ hl),h2⟩
   ·rintro⟨r1,r2⟩ s' ⟨hr,rfl,_⟩;simp only at hr;subst hr;exact K2 h
theorem JO{h:Heap}{es:Array (Int×jp)}{k:IK}{b:ww}(En:xT prog w h es ks)(hk:(aX prog w).is h k b){p:Nat}(hp:p<=ks.length):xT prog w h (SetTable.insertAt es p (eN k,.ref b)) (ks.take p++k::ks.drop p):=by
 have lZ:p<=es.toList.length:=by rw[m6,En.1];exact hp
 refine⟨?_,λ i k' hi=>?_⟩
 ·rw[<- m6,SetTable.toList_insertAt,o6,o6,y8,y8,A2,A2,length_drop,length_drop,m6,En.1]
 ·rw[sJ ks k hp]at hi;rw[<- j9,SetTable.toList_insertAt,sJ _ _ lZ];by_cases h1:i < p
  ·rw[K9 h1]at hi ⊢;obtain⟨c,c1,c2⟩:=En.2 i k' hi;exact⟨c,by rw[j9];exact c1,c2⟩
  ·rw[L1 h1]at hi ⊢;by_cases h2:i=p
   ·rw[K9 h2]at hi ⊢;cases hi;exact⟨b,rfl,hk⟩
   ·rw[L1 h2]at hi ⊢;obtain⟨c,c1,c2⟩:=En.2 (i - 1) k' hi;exact⟨c,by rw[j9];exact c1,c2⟩
theorem Du{k:IK}(T:Tab0 t n)(hn:ks.length=n)(nj:j∉t.place.toList)(R:FZ t (ks.map eN))(rj:Pf t.mask (·∈t.place.toList) (eN k) j):FZ (t.put j).1 ((ks.take (t.put j).2++k::ks.drop (t.put j).2).map eN)/\(t.put j).2<=ks.length:=by
 have hp:(t.put j).2<=t.place.toList.length:=by have:=(iB T.Kt j).1;rw[m6];exact this
 have lZ:(t.put j).2<=ks.length:=by rw[hn,<- T.sz,<- m6];exact hp
 have pl:(t.put j).1.place.toList=t.place.toList.take (t.put j).2++j::t.place.toList.drop (t.put j).2:=by unfold SetTable.put;dsimp only;rw[SetTable.toList_insertAt]
 have mk:(t.put j).1.mask=t.mask:=rfl;have up:∀z,z∈t.place.toList->z∈(t.put j).1.place.toList:=λ z hz=>by unfold SetTable.put;exact yI.mpr (.inr hz)
 refine⟨λ i j' h' h1 h2=>?_,lZ⟩;rw[mk];rw[pl,sJ _ _ hp]at h1;rw[C3,G4,map_take,map_drop,sJ _ _ (by rw[C1];exact lZ)]at h2;by_cases g1:i < (t.put j).2
 ·rw[K9 g1]at h1 h2;exact(R i j' h' h1 h2).mono up
 ·rw[L1 g1]at h1 h2;by_cases g2:i=(t.put j).2
  ·rw[K9 g2]at h1 h2;cases h1;cases h2;exact rj.mono up
  ·rw[L1 g2]at h1 h2;exact(R (i - 1) j' h' h1 h2).mono up
theorem uU(l:List α)(x:α)(p:Nat):(l.take p++x::l.drop p).Perm (x::l):=by refine perm_middle.trans ?_;rw[take_append_drop]
theorem vJ{b:ww}{led:Bool}{k:IK}{Q:Bool->kt->Prop}(S:SetT prog w us s.heap a led ks)(Vf: .ref b∈us)(ck:ks.length < 76)(hk:(aX prog w).is s.heap k b)(hu:A.units+8 < cLine) (h:∀(z:Bool) (h':Heap) (Es:List IK),Heap.SameBut a s.heap h'->(∀c o,c≠a->s.heap.get? c=some o->h'.get? c=some o)->SetT prog w us h' a led Es->Es.Perm (if k∈ks then ks else k::ks)->Q z {s with heap:=h'}):wpAny (model prog w) A (setAddHashed a (.ref b) (eN k)) Q E s:=by
 obtain⟨es,ep,t,ho,En,nd,T,hl,R,U⟩:=S;have sz:=En.1;unfold setAddHashed setAddHashedIn;refine D4 (K1 (wpAny_setState_of ho rfl T.fit ?_));dsimp only;rw[show byScan (.ref b) es=false from rfl,L1 (by decide)];unfold setSearch;have wl:(mV t.mask (eN k)).length<=10*(t.mask+15):=oR _ _ _;have ml:t.mask<=127:=by rcases T.Ti with e|e|e <;> lia
 refine K1 (Ax ho En T hk hu R (λ pR=>?_) (λ hn j jm nj rj=>?_) _ 100000 none (t.mask+14) [] (mV t.mask (eN k)) rfl nL rfl (J7 _) (by lia) (λ z hz=>by cases hz))
 ·dsimp only;refine K2 ?_;exact h false s.heap ks (Heap.SameBut.refl a s.heap) (λ c o _ z=>z) ⟨es,ep,t,ho,En,nd,T,hl,R,U⟩ (by rw[K9 pR])
 ·dsimp only;obtain⟨T1,m1,l1⟩:=Ib T.toTab0 jm nj;obtain⟨R1,pl⟩:=Du T.toTab0 sz.symm nj R rj;have E1:=JO En hk pl;have WD:(ks.take (t.put j).2++k::ks.drop (t.put j).2).Nodup:=(uU ks k _).nodup_iff.mpr (nodup_cons.mpr ⟨hn,nd⟩);have UG:=uU ks k (t.put j).2;generalize hks:ks.take (t.put j).2++k::ks.drop (t.put j).2=Jn at*;have kl:Jn.length=ks.length+1:=by rw[UG.length_eq];rfl
  have U1:∀e∈(SetTable.insertAt es (t.put j).2 (eN k,.ref b)).toList,e.2∈us:=λ e he=>by
   rw[SetTable.toList_insertAt]at he;rcases C2.mp he with z|z
   ·exact U e (mem_of_mem_take z)
   ·rcases G5.mp z with rfl|z
    ·exact Vf
    ·exact U e (mem_of_mem_drop z)
  generalize Gr:SetTable.insertAt es (t.put j).2 (eN k,.ref b)=sS at*;have VZ:sS.size=es.size+1:=by rw[E1.1,kl,sz]
  refine K1 (wpAny_setState_of ho rfl T.fit ?_);dsimp only;rw[T1.pl,K9 rfl];refine K1 (Fb 8 k (J0 hk.1 (by decide)) hk.2 ?_);rw[K9 rfl,Gr];have Wu:sS.size<=sizeLine:=by rw[J8];lia
  refine K1 (wpAny_storeSet_of ho rfl ?_ Wu);have o1:=uc (es':=sS) (t':=(t.put j).1) ho;have b1:=l6 s.heap a (Obj.putSet sS (t.put j).1);have nA:∀{h h':Heap} {Xl:Array (Int×jp)} {Xm:Nat} {t0:SetTable} {UZ:List IK} {VY:Array (Int×jp)},h.get? a=some (fi Xl Xm t0)->Heap.SameBut a h h'->xT prog w h VY UZ->xT prog w h' VY UZ:=λ{h h' Xl Xm t0 UZ VY} hg sb en=>⟨en.1,λ i k' hi=>let⟨c,c1,c2⟩:=en.2 i k' hi;⟨c,c1,iG (λ b o hc hb=>by
   have ne:b≠a:=λ z=>by subst z;rw[hg]at hb;cases hb;exact absurd hc (λ z=>by simp[fi]at z)
   rw[sb.2 b ne];exact hb) c2⟩⟩
  have jC:∀{h h':Heap},Heap.SameBut a h h'->∀c o,c≠a->h.get? c=some o->h'.get? c=some o:=λ{h h'} sb c o ne hc=>by rw[sb.2 c ne];exact hc
  have En1:=nA ho b1 E1;have PR:=T.PR;have TN:Tab0 (t.put j).1 sS.size:=by rw[VZ];exact T1
  cases tf:(t.put j).1.tooFull with
  |false=>rw[L1 (by decide)];refine K2 (h true _ Jn b1 (jC b1) ⟨sS,ep+1,(t.put j).1,o1,En1,WD,⟨TN,?_⟩,l1.trans hl,R1,U1⟩ (by rw[L1 hn];exact UG));rw[lH TN,decide_eq_false_iff_not,m1]at tf;rw[m1];lia
  |true=>
   rw[K9 (by rfl)];rw[lH TN,u9,m1]at tf;unfold setRelay;refine K1 (K1 (wpAny_setState_of o1 rfl (TN.fits (by rw[m1];lia)) ?_));dsimp only;have two:∃mm,SetTable.sizeAbove (SetTable.grown (es.size+1))=mm+1/\Ki mm/\sS.size<=mm/\((mm=31/\sS.size<=18)\/(mm=127/\sS.size<=76)):=by
    have:(es.size=4/\t.mask=7)\/(es.size=18/\t.mask=31):=by lia
    rcases this with⟨z,_⟩|⟨z,_⟩
    ·exact⟨31,by rw[z];decide+kernel,.inr (.inl rfl),by lia,.inl ⟨rfl,by lia⟩⟩
    ·exact⟨127,by rw[z];decide+kernel,.inr (.inr rfl),by lia,.inr ⟨rfl,by lia⟩⟩
   obtain⟨mm,s1,s2,s3,s4⟩:=two;obtain⟨t2,ord,Fn,r1,r2,r3,r4,r5,r6,r7,r8,r9⟩:=AF (t:=(t.put j).1) (es:=sS) (wanted:=SetTable.grown (es.size+1)) T1.pl s1 s2 s3;have ml2:sS.size<=76:=by rcases s4 with z|z <;> lia
   rw[L1 (by rw[s1,J8];rcases s4 with z|z <;> lia),r1];show wpAny (model prog w) A ((do
    if(ord.filterMap (sS[·]?)).size != sS.size then unsupported "internal:set-table-lost-an-element"
    pure (ord.filterMap (sS[·]?),t2):Sem (Array (Int×jp)×SetTable)) >>= λ x=>storeSet a x.1 x.2) _ _ _
   rw[r2];refine K1 ?_;rw[L1 (by rw[r7];simp)];refine K2 ?_;dsimp only;refine wpAny_storeSet_of o1 rfl ?_ (by rw[r7];exact Wu);have b2:=b1.trans (l6 (s.heap.update a (Obj.putSet sS (t.put j).1)) a (Obj.putSet Fn t2));have lt:∀x∈ord.toList,x < sS.size:=λ x hx=>mem_range.mp (r3.mem_iff.mp hx);have OF:(ord.toList.filterMap (Jn[·]?)).Perm Jn:=by
    refine(r3.filterMap _).trans ?_;have:(List.range sS.size).filterMap (Jn[·]?)=Jn:=by
     refine y3 λ i=>?_;rw[xp _ λ x hx=>by rw[<- E1.1];exact mem_range.mp hx];by_cases z:i < sS.size
     ·rw[l7 z];rfl
     ·rw[k5 (by rw[x8];lia),k5 (by rw[<- E1.1];lia)];rfl
    rw[this]
   have at2:∀i,(ord.toList.filterMap (Jn[·]?))[i]?=(ord.toList[i]?).bind λ x=>Jn[x]?:=xp _ λ x hx=>by rw[<- E1.1];exact lt x hx
   have at3:∀i,Fn[i]?=(ord.toList[i]?).bind λ x=>sS[x]?:=λ i=>by rw[<- j9,<- r2,Array.toList_filterMap,zp _ lt]
   generalize hk2:ord.toList.filterMap (Jn[·]?)=N9 at*;have l2:Fn.size=N9.length:=by rw[r7,E1.1,OF.length_eq]
   have E2:xT prog w s.heap Fn N9:=⟨l2,λ i k' hi=>by
    rw[at2]at hi;obtain⟨x,x1,x2⟩:=Option.bind_eq_some_iff.mp hi;obtain⟨c,c1,c2⟩:=E1.2 x k' x2;exact⟨c,by rw[at3,x1];exact c1,c2⟩⟩
   have hh:Fn.toList.map (·.1)=N9.map eN:=by
    refine y3 λ i=>?_;rw[u7,u7,j9];by_cases z:i < N9.length
    ·obtain⟨c,c1,_⟩:=E2.2 i _ (i6 z);rw[c1,i6 z];rfl
    ·rw[k5 (by lia),j2 (by lia)];rfl
   rw[hh]at r9;refine K2 (h true _ N9 b2 (jC b2) ⟨Fn,ep+1+1,t2,uc o1,nA ho b2 E2,OF.nodup_iff.mpr WD,⟨by rw[r7];exact r4,?_⟩,r6.trans (l1.trans hl),r9,λ e he=>U1 e (r8.mem_iff.mp he)⟩ (by rw[L1 hn];exact OF.trans UG));rw[r5,r7];rcases s4 with⟨z1,z2⟩|⟨z1,z2⟩ <;> lia
open PySem.Spec PyProof.Rows
def ko(ks ns:List IK):Prop:=ks.Nodup/\∀k,k∈ks↔k∈ns
theorem ko.step{Es ns:List IK}{k:IK}(o:ko ks ns)(p:Es.Perm (if k∈ks then ks else k::ks)):ko Es (ns++[k]):=by
 by_cases h:k∈ks
 ·rw[K9 h]at p;refine⟨p.nodup_iff.mpr o.1,λ x=>?_⟩;rw[p.mem_iff,o.2,C2,p8];exact⟨.inl,λ z=>z.elim id λ z=>by subst z;exact(o.2 _).mp h⟩
 ·rw[L1 h]at p;refine⟨p.nodup_iff.mpr (nodup_cons.mpr ⟨h,o.1⟩),λ x=>?_⟩;rw[p.mem_iff,G5,o.2,C2,p8];exact⟨λ z=>z.symm,λ z=>z.symm⟩
theorem ko.ck{ns:List IK}(o:ko ks ns):ks.length<=ns.length:=List.Nodup.length_le_of_subset o.1 λ k h=>(o.2 k).mp h
section
theorem SetT.move{h0 h:Heap}{led:Bool}(S:SetT prog w us h a led ks)(qa:∀o,h.get? a=some o->h'.get? a=some o)(q1:∀b o,h0.get? b=some o->h.get? b=some o)(q2:∀b o,h0.get? b=some o->h'.get? b=some o) (U:∀v∈us,∃k b,v=.ref b/\(aX prog w).is h0 k b):SetT prog w us h' a led ks:=by obtain⟨es,ep,t,e,⟨l,en⟩,nd,T,hl,R,uu⟩:=S;refine⟨es,ep,t,qa _ e,⟨l,λ i k hk=>?_⟩,nd,T,hl,R,uu⟩;obtain⟨b,e1,e2⟩:=en i k hk;have mem:(eN k,Value.ref b)∈es.toList:=k8 (by rw[j9];exact e1);obtain⟨k',b',eb,KW⟩:=U _ (uu _ mem);cases eb;have h1:=iG (λ b o _ z=>q1 b o z) KW;have:=sL k k' e2.2 h1.2;subst this;exact⟨b,e1,iG (λ b o _ z=>q2 b o z) KW⟩
variable {I:ww}{wr:List ww}{G:Array GenState->Array GenState->Prop}{P:Nat->jp->Prop}{St:Nat->kt->Prop}
theorem Al{R:Result->kt->Prop}{ns:List IK}{h0:Heap}(W:WalksS prog w A.in1 I fp wr G ns.length P St)(S:ww)(hS:S∉fp)(led:Bool)(hu:A.units+9 < cLine) (val:∀i v,P i v->∃(k:IK) (b:ww),ns[i]?=some k/\v=.ref b/\v∈us/\(aX prog w).is h0 k b) (U:∀v∈us,∃k b,v=.ref b/\(aX prog w).is h0 k b) (apart:∀b o,h0.get? b=some o->b≠S/\b∉wr) (ck:ns.length<=76):∀(m i:Nat) (s:kt) (ks:List IK),m+i=ns.length->St i s->(∀b o,h0.get? b=some o->s.heap.get? b=some o)->SetT prog w us s.heap S led ks->ko ks (ns.take i)-> (∀s' Es,Moved (S::wr) G s s'->SetT prog w us s'.heap S led Es->ko Es ns->R (.ok (.ret .none)) s')->
  codeAny (model prog w) A (.builtin "set.update.loop" ⟨[.ref S,.ref I],[]⟩) R s:=by
 have hw:S∉wr:=λ z=>hS (W.sub _ z);have sub:∀b∈wr,b∈S::wr:=λ b z=>k7 _ z;intro m
 induction m with
 |zero=>
  intro i s ks e st q0 hZ ho hR;have e:i=ns.length:=by lia
  subst e;refine B9 F.entry_set_update_loop ?_;rw[l0 F.plain_set_update_loop _];show wpAny _ A.in1 (pyNext (.ref I) >>= _) _ _ s;refine K1 (W.done s _ _ st λ s' mv=>?_);rw[z9]at ho;exact K2 (hR s' ks (mv.mono sub) (hZ.move (λ o z=>mv.heap S o hw z) q0 (λ b o z=>mv.heap b o (apart b o z).2 (q0 b o z)) U) ho)
 |succ m ih=>
  intro i s ks e st q0 hZ ho hR;refine B9 F.entry_set_update_loop ?_;rw[l0 F.plain_set_update_loop _];show wpAny _ A.in1 (pyNext (.ref I) >>= _) _ _ s;refine K1 (W.item i s _ _ (by lia) st λ v s' hP gX mv=>?_);obtain⟨k,b,hk,rfl,hb,tr⟩:=val i v hP;have q1:∀b o,h0.get? b=some o->s'.heap.get? b=some o:=λ b o z=>mv.heap b o (apart b o z).2 (q0 b o z);have Y_:SetT prog w us s'.heap S led ks:=hZ.move (λ o z=>mv.heap S o hw z) q0 q1 U;have lk:ks.length < 76:=by have:=ho.ck;rw[A2]at this;lia
  have T6:=iG (λ b o _ z=>q1 b o z) tr;show wpAny _ A.in1 (holding [Value.ref b] (setAdd S (.ref b)) >>= _) _ _ s';refine K1 (D4 ?_);unfold setAdd;have d5:k.dep<=5:=T6.1;refine D4 (K1 (ze 5 k d5 (show A.units+1+k.dep < cLine by lia) T6.2 ?_));refine vJ (s:={s' with toks:=s'.toks+Bj k}) Y_ hb lk T6 (show A.units+1+8 < cLine by lia) λ z h' Es sb jC TC pm=>?_;have JE:ko Es (ns.take (i+1)):=by rw[take_add_one,hk];exact ho.step pm
  refine K2 ⟨G6 F.plain_set_update_loop _,ih (i+1) _ Es (by lia) (W.frame _ s' _ _ gX (A4 _ _) λ b hb o z=>?_) (λ b o z=>jC b o (apart b o z).1 (q1 b o z)) TC JE λ s2 N9 X9 Y9 Tu=>?_⟩
  ·rw[sb.2 b λ z2:b=S=>hS (by rw[<- z2];exact hb)];exact z
  ·refine hR s2 N9 (Moved.trans W.gtrans ((mv.mono sub).then_heap (A4 _ _) λ b o hb z=>?_) X9) Y9 Tu;rw[sb.2 b λ z2:b=S=>hb (by rw[z2];exact n6)];exact z
end
theorem xM{l:ww}{ad:Array jp}{ns:List IK}(hh:A.handled=none)(hu:A.units+64 < cLine)(hl:s.heap.IsList l ad)(len:ad.size=ns.length) (hi:∀(i:Nat) (v:jp),ad[i]?=some v->∃(k:IK) (b:ww),ns[i]?=some k/\v=.ref b/\(aX prog w).is s.heap k b) (ck:ns.length<=76) (h:∀(h':Heap) (tk:Nat) (ks:List IK),SetT prog w ad.toList h' s.heap.objs.size (!vE w) ks->ko ks ns->(∀b o,s.heap.get? b=some o->h'.get? b=some o)->Q (.ref s.heap.objs.size) {s with heap:=h',toks:=tk}):wpAny (model prog w) A (call (.type "set") [.ref l]) Q E s:=by
 refine xK (Q₁:=λ obj s₁=>obj=.ref s.heap.objs.size/\s₁={s with heap:=s.heap.push (fR w)}) F.called_set (F.typeCall_set_1 _) F.entry_set_init (IY _ ⟨rfl,rfl⟩) λ obj s₁ h₁=>?_;obtain⟨rfl,rfl⟩:=h₁;have hS:(s.heap.push (fR w)).get? s.heap.objs.size=some (fR w):=m7 _ rfl;obtain⟨ol,PH,EZ,nl,VI⟩:=hl;obtain⟨X5,Wy,Wz,UI⟩:=ol;simp only at EZ VI;subst EZ;subst VI;have Vt:=j3 (fR w) PH;have W6:l < s.heap.objs.size:=G9 PH;have Yy:=F.sub_list_set;have Yz:=F.sub_list_frozenset;have dP:(Value.type "list"==Value.type "dict")=false:=by decide
 have W7:(s.heap.push (fR w)).IsList l ad:=⟨_,Vt,rfl,nl,rfl⟩;have hT:Shared.TypeIs {s with heap:=s.heap.push (fR w)} (.ref s.heap.objs.size) "set":=⟨_,hS,rfl⟩;refine⟨hT,check_set_init_1 hT ?_⟩;unfold Builtin.«set.__init__» noKeywords Builtin.Frozenset.updateFrom;generalize Zc:pyIter=PI
 wp_walk
 subst Zc;refine x6 W7 (K1 (wpAny_runValue ?_));have ne1:l≠(s.heap.push (fR w)).objs.size:=by rw[D1];exact G8 (y4 W6)
 have nf:s.heap.objs.size∉[(s.heap.push (fR w)).objs.size,l]:=by rw[D1];simp only[G5,not_mem_nil,or_false,not_or];exact⟨G8 (Nat.lt_succ_self _),J5 W6⟩
 have W:=(Walks.list (prog:=prog) (w:=w) (A:=A.in1.in1.in1) (by simpa using hh) (s.heap.push (fR w)).objs.size l ne1 ad).toS;rw[len]at W;refine Al (us:=ad.toList) (h0:=s.heap) W s.heap.objs.size nf (!vE w) (show A.units+1+1+9 < cLine by lia) (λ i v hv=>?_) (λ v hv=>?_) (λ b o z=>?_) ck ns.length 0 _ [] (by lia) ⟨⟨_,m7 _ rfl,rfl,rfl⟩,W7.push _⟩ (λ b o z=>j3 _ (j3 _ z))
  ⟨#[],0,_,j3 _ hS,⟨rfl,λ i k hk=>by cases hk⟩,nodup_nil,As 0 0 _,rfl,λ i j h' _ hh=>(by cases hh),λ e z=>(by cases z)⟩ ⟨nodup_nil,λ k=>by simp⟩ λ s' ks mv hZ ho=>?_
 ·obtain⟨k,b,h1,h2,h3⟩:=hi i v hv;exact⟨k,b,h1,h2,k8 (by rw[j9];exact hv),h3⟩
 ·obtain⟨i,uZ⟩:=getElem?_of_mem hv;rw[j9]at uZ;obtain⟨k,b,_,h2,h3⟩:=hi i v uZ;exact⟨k,b,h2,h3⟩
 ·have lt:=G9 z;refine⟨G8 lt,?_⟩;rw[D1];simp only[G5,not_mem_nil,or_false];exact G8 (y4 lt)
 ·obtain⟨h',g',d',T7,UJ⟩:=s';have eg:g'=s.gens:=mv.gens;have ed:d'=s.drawn:=mv.drawn;have eo:UJ=s.os:=mv.os;subst eg;subst ed;subst eo;refine K2 (K2 ⟨rfl,h h' T7 ks hZ ho λ b o z=>?_⟩);have lt:=G9 z;refine mv.heap b o ?_ (j3 _ (j3 _ z));rw[D1];simp only[G5,not_mem_nil,or_false,not_or];exact⟨G8 lt,G8 (y4 lt)⟩
end L2
namespace L5
open PySem.W PySem.Calls PyProof.Rows
theorem Em{lt:Nat->Nat->Bool}{ks:List jp}{Q:α->kt->Prop}(hc:∀i j C,i < n->j < n->C (lt i j) s->wpAny (model prog w) A (keyLt' κ (ks.getD i Value.none) (ks.getD j Value.none)) C (λ _ _=>False) s):∀(t:KasT α),kw n lt t (λ a=>Q a s)->t.kasWp (kas_ask prog w A κ ks) Q s
 | .ret a,h=>h
 | .ask i j f,h=>hc i j _ h.1 h.2.1 (Em hc (f (lt i j)) h.2.2)
theorem sx{κ:SortKind}{lt:Nat->Nat->Bool}{P:PySem.Fin->kt->Prop}(O:Ord lt)(ho:s.heap.get? a=some (seqObj "list" vs.toArray n))(pG:vs.length < 64)
  (lL:∀s':kt,(∀b o,b≠a->s.heap.get? b=some o->s'.heap.get? b=some o)->2<=vs.length->∀C:SortKind->kt->Prop,C κ s'->wpAny (model prog w) A (keyKind' vs.toArray) C E s')
  (hc:∀s':kt,(∀b o,b≠a->s.heap.get? b=some o->s'.heap.get? b=some o)->∀i j (C:Bool->kt->Prop),i < vs.length->j < vs.length->C (lt i j) s'->wpAny (model prog w) A (keyLt' κ (vs.getD i Value.none) (vs.getD j Value.none)) C (λ _ _=>False) s')
  (h:∀out,Out lt vs Value.none out->P (.done (.ret .none)) {s with heap:=sortedHeap s.heap a vs (List.toArray out)}):
  wpAny (model prog w) A (Builtin.«list.sort» ⟨[.ref a],[]⟩) P E s:=by
 have s1:=l6 s.heap a (Obj.mapSeq λ _=>(#[]:Array jp));obtain⟨e1,W2⟩:∃e1,(s.heap.update a (Obj.mapSeq λ _=>(#[]:Array jp))).get? a=some (seqObj "list" #[] e1):=⟨_,get?_update_seq ho λ _=>#[]⟩;have Tu:(((s.heap.update a (Obj.mapSeq λ _=>(#[]:Array jp))).push (seqObj "tuple" vs.toArray 0)).push (seqObj "list" #[] 0)).get? a=some (seqObj "list" #[] e1):=j3 _ (j3 _ W2);have keep:∀b o,b≠a->s.heap.get? b=some o->(((s.heap.update a (Obj.mapSeq λ _=>(#[]:Array jp))).push (seqObj "tuple" vs.toArray 0)).push (seqObj "list" #[] 0)).get? b=some o:=λ b o ne z=>j3 _ (j3 _ ((s1.2 b ne).trans z));rw[list_sort_plain];refine K1 (listItems_at ho rfl ?_);refine K1 (listUpdate_at ho rfl ?_ (by rw[y0,J8];lia) (J9 _));refine K1 (seqEpoch_at W2 rfl ?_);refine K1 (wpAny_newTuple ?_ (by show vs.length<=_;rw[J8];lia));refine K1 (wpAny_newList ?_ (J9 _));refine D4 ?_;show wpAny (model prog w) A _ P E {s with heap:=((s.heap.update a (Obj.mapSeq λ _=>(#[]:Array jp))).push (seqObj "tuple" vs.toArray 0)).push (seqObj "list" #[] 0)};dsimp only;have fin:∀(gX:SortSt) (out:List jp),(arrOf gX).map (·.2)=List.toArray out->failedOf gX=none->out.length=vs.length->Out lt vs Value.none out->wpAny (model prog w) A (do
   let touched:=(<- seqEpoch a) != e1
   Builtin.List.listUpdate (.ref a) λ _=>(arrOf gX).map (·.2)
   if let some e:=failedOf gX then rule "list.sort.comparison-raised";throw e
   if touched then rule "list.sort.modified";raiseError "ValueError" "list modified during sort"
   ret .none) P E {s with heap:=((s.heap.update a (Obj.mapSeq λ _=>(#[]:Array jp))).push (seqObj "tuple" vs.toArray 0)).push (seqObj "list" #[] 0)}:=λ gX out e hf hl hO=>by
  rw[e];refine K1 (seqEpoch_at Tu rfl ?_);refine K1 (listUpdate_at Tu rfl ?_ (J9 _) (by rw[y0,hl,J8];lia));rw[hf];simp only[bne_self_eq_false,o7,K6];exact K2 (h out hO)
 by_cases h2:vs.length < 2
 ·have z2:vs.toArray.size < 2:=by rw[y0];exact h2
  rw[K9 z2,K9 z2];refine K1 (K2 (K1 ?_));rw[StateT.run_pure];refine K2 ?_;refine fin (SortSt.mk' general' (vs.toArray.zip vs.toArray) #[] 7 none) vs ?_ rfl rfl (yE O _ h2);show(vs.toArray.zip vs.toArray).map (·.2)=_;apply Array.toList_inj.mp;simp;exact map_snd_zip (by lia)
 ·have z2:¬vs.toArray.size < 2:=by rw[y0];exact h2
  rw[L1 z2,L1 z2];refine K1 (lL _ keep (by lia) _ ?_);refine K1 (K5 (kat_run (Q:=λ gX s'=>s'={s with heap:=((s.heap.update a (Obj.mapSeq λ _=>(#[]:Array jp))).push (seqObj "tuple" vs.toArray 0)).push (seqObj "list" #[] 0)}/\∃p:Array Nat,p.size=vs.length/\arrOf gX=p.map (kas_item (vs.toArray.zip vs.toArray))/\failedOf gX=none/\Pm vs.length p/\Up lt p vs.length)
   (G:=λ p s'=>s'={s with heap:=((s.heap.update a (Obj.mapSeq λ _=>(#[]:Array jp))).push (seqObj "tuple" vs.toArray 0)).push (seqObj "list" #[] 0)}/\Pm vs.length p/\Up lt p vs.length) rfl (by lia) pG (λ p gX s' a1 a2 a3 a4=>⟨a4.1,p,a1,a2,a3,a4.2⟩) (Em (hc _ keep) _ (yR O (by lia) λ p p1 p2=>⟨rfl,p1,p2⟩))) ?_ λ _ _ x=>x)
  rintro⟨⟨⟩,gX⟩ s' ⟨rfl,p,hp,VN,hf,p1,p2⟩;dsimp only;exact fin gX _ (kat_snds rfl VN) hf (by rw[C1,m6,hp]) ⟨p,p1,p2,rfl⟩
end L5
namespace L2
open PySem.W PySem.Calls PyProof.Rows L5
open HT (lexLt cJ cR cA cB)
theorem uR{fin:Bool}{Q:Bool->kt->Prop}:∀{xs ys:List jp} {ns ms:List Int} {i:Nat},IntsAre xs ns->IntsAre ys ms->fin=decide (ns.length < ms.length)->Q (lexLt ns ms) s->KatLex prog w A true fin Q (xs.zip ys) i s
 |_,_,_,_,_,.nil,.nil,hf,h=>by subst hf;exact kat_nil h
 |_,_,_,_,_,.nil,.cons _ _ _,hf,h=>by subst hf;exact kat_nil h
 |_,_,_,_,_,.cons _ _ _,.nil,hf,h=>by subst hf;exact kat_nil h
 |_,_,_,_,i,.cons x tx hx,.cons y ty hy,hf,h=>by
  rw[zip_cons_cons];refine kat_cons (SeqAt.EqAt.int_int x tx y ty prog w _ _ ?_);unfold HT.lexLt at h;by_cases e:x=y
  ·rw[K9 e]at h;rw[show(x==y)=true by simp[e]];refine kat_yes (uR hx hy ?_ h);rw[hf];simp
  ·rw[L1 e]at h;rw[show(x==y)=false by simp[e]];refine kat_no ?_;cases i with
   |zero=>exact oneLt_int h
   |succ i=>exact kat_one _ _ (lt_int h)
open PySem.Spec PySem.W PySem.Calls PyProof.Rows L5
open HT (lexLt cJ cR cA cB)
def mG(r:List Int):IK:=.t (r.map .i)
theorem Jw{a b:List Int}(h:mG a=mG b):a=b:=by unfold mG at h;have h:=IK.t.inj h;exact List.map_inj_right (λ x y z=>IK.i.inj z) |>.mp h
theorem za:∀r:List Int,IK.jh (r.map .i)=0
 |[]=>rfl
 |a::r=>by show max (IK.dep (.i a)) (IK.jh (r.map .i))=0;rw[za r];rfl
theorem zg(r:List Int):(mG r).dep<=5:=by unfold mG IK.dep;rw[za];decide
theorem yS:∀r:List Int,ij K H (r.map .i) (r.map V.int)
 |[]=>by unfold ij;rfl
 |a::r=>by unfold ij;exact⟨_,_,rfl,by unfold gf;exact .inl rfl,yS r⟩
theorem Er{r:List Int}(h:gn K H p (r.map V.int)):gf K H (mG r) (.ref p):=by unfold mG gf;exact⟨p,_,rfl,h,yS r⟩
theorem Je(key:Nat->List Int):Ord λ i j=>lexLt (key i) (key j):=⟨λ a b h=>oi _ _ h,λ a b c h g=>wU _ _ _ h g⟩
theorem xo(l:List α)(d:α):(List.range l.length).map (λ i=>l.getD i d)=l:=by refine ext_getElem (by simp) λ i h1 h2=>?_;simp[h2]
abbrev rE(X:Cx)(H:Hp)(q:ww)(r:List Int):Prop:=r≠[]/\gn X.K H q (r.map V.int)
noncomputable def Og (prog:Program)(w:World)(h:Heap)(e:Int×jp):IK:=@Classical.epsilon IK ⟨.i 0⟩ λ k=>∃b,e.2=.ref b/\(aX prog w).is h k b
theorem yW{h:Heap}{e:Int×jp}{k:IK}{b:ww}(e1:e.2=.ref b)(e2:(aX X.prog X.w).is h k b):Og X.prog X.w h e=k:=by have:=@Classical.epsilon_spec IK (λ k=>∃b,e.2=.ref b/\(aX X.prog X.w).is h k b) ⟨k,b,e1,e2⟩;obtain⟨b',z1,z2⟩:=this;rw[e1]at z1;cases z1;exact sL _ _ z2.2 e2.2
theorem yk(I:be X xz σ H s)(U:∀v∈us,∃q r,v=.ref q/\rE X H q r):∀(l:List (Int×jp)),(∀e∈l,e.2∈us)->
  ∃(qs:List ww) (rs:List (List Int)),l.map (·.2)=qs.map Value.ref/\qs.length=rs.length/\(∀(i:Nat) q r,qs[i]?=some q->rs[i]?=some r->rE X H q r)/\l.map (Og X.prog X.w s.heap)=rs.map mG
 |[],_=>⟨[],[],rfl,rfl,λ i q r h=>(by cases h),rfl⟩
 |e::l,h=>by
  obtain⟨qs,rs,a,b,c,d⟩:=yk I U l λ e he=>h e (k7 _ he);obtain⟨q,r,e1,e2⟩:=U _ (h e n6);refine⟨q::qs,r::rs,by rw[G4,G4,a,e1],by simp[b],λ i q' r' h1 h2=>?_,?_⟩
  ·cases i with
   |zero=>cases h1;cases h2;exact e2
   |succ i=>exact c i q' r' (by simpa using h1) (by simpa using h2)
  ·rw[G4,G4,d,yW e1 (k:=mG r) ⟨zg r,jY I (mG r) (Er e2.2) rfl⟩]
theorem ug(hc:X.calm=true){S:ww}{Q:VK}(I:be X xz σ H s)(hZ:SetT X.prog X.w us s.heap S (!vE X.w) ks)(U:∀v∈us,∃q r,v=.ref q/\rE X H q r)(pG:ks.length < 64) (q:∀(qs:List ww) (rs:List (List Int)) (p:ww),qs.length=rs.length->(∀(i:Nat) q r,qs[i]?=some q->rs[i]?=some r->rE X H q r)->(rs.map mG).Perm ks->H p=none->Q (.ref p) (ci H p (.lst (qs.map V.ref)))):wpAny (model X.prog X.w) X.A (call (.builtin "sorted") [.ref S]) (EP X xz σ Q) X.xe s:=by
 obtain⟨es,ep,t,ho,En,nd,T,hl,R,uu⟩:=hZ;have sz:=En.1;refine call_function_entry kind_sorted plain_sorted entry_sorted (args_sorted1 _) ?_;unfold Builtin.«sorted»;refine K1 (m:=checkCount "sorted" 1 1 _) (K2 (K1 (kdu_collect (A:=X.A.in1) (GX (ep:=ep) T hl) (show X.A.in1.handled=none from I.ok.hd hc) ho (by rw[J8];lia) λ h' tk zn RM fG=>?_)));have pw:=mX X.w S ep es;generalize hW:gL X.w S ep es=os at pw fG;have La:zn.toList=os.toList.map (·.2):=by
  have l2:os.toList.length=es.size:=by rw[pw.length_eq,m6]
  refine y3 λ j=>?_;rw[u7];by_cases z:j < es.size
  ·have lt:j < zn.size:=by rw[fG.1];exact z
   obtain⟨e,e1,e2⟩:=fG.2 j _ (c9 lt);rw[j9,j9,c9 lt,e1,<- e2];rfl
  ·rw[k5 (by rw[m6,fG.1];lia),k5 (by lia)];rfl
 obtain⟨qs,rs,a1,a2,a3,a4⟩:=yk I U os.toList λ e he=>uu e (pw.mem_iff.mp he);have kk:es.toList.map (Og X.prog X.w s.heap)=ks:=by
  refine y3 λ i=>?_;rw[u7,j9];by_cases z:i < ks.length
  ·obtain⟨c,c1,c2⟩:=En.2 i _ (i6 z);rw[c1,i6 z];exact K7 some (yW rfl c2)
  ·rw[k5 (by lia),j2 (by lia)];rfl
 have pk:(rs.map mG).Perm ks:=by rw[<- a4,<- kk];exact pw.map _
 rw[a1]at La;have qn:qs.length=ks.length:=by rw[a2,<- C1 (f:=mG),pk.length_eq]
 rw[La];have I0:be X xz σ H {s with heap:=h',toks:=tk}:=I.kept (t':=tk) RM;refine K1 (wpAny_newList ?_ (by rw[C1,J8];lia));have Bo:(h'.push (seqObj "list" (qs.map Value.ref).toArray 0)).get? h'.objs.size=some (seqObj "list" (qs.map Value.ref).toArray 0):=m7 _ rfl;have tup:∀i,i < qs.length->∃(o:Obj) (ay:List jp) (n:Nat),(qs.map Value.ref).getD i Value.none=.ref (qs.getD i 0)/\h'.get? (qs.getD i 0)=some o/\o.cls=.type "tuple"/\o.data=.seq ay.toArray n/\IntsAre ay (rs.getD i [])/\rs.getD i []≠[]:=λ i hi=>by
  have VC:i < rs.length:=by lia
  have:=a3 i _ _ (i6 hi) (i6 VC);obtain⟨ay,rv,⟨o,e1,e2,n,e3⟩,_⟩:=I0.tuple this.2;refine⟨o,ay,n,?_,?_,e2,e3,?_,?_⟩
  ·simp[c7,hi]
  ·rw[show qs.getD i 0=qs[i] by simp[c7,hi]];exact e1
  ·rw[show rs.getD i []=rs[i] by simp[c7,VC]];exact ka rv
  ·rw[show rs.getD i []=rs[i] by simp[c7,VC]];exact this.1
 have stays:∀{s':kt},(∀b o,b≠h'.objs.size->(h'.push (seqObj "list" (qs.map Value.ref).toArray 0)).get? b=some o->s'.heap.get? b=some o)->∀i,i < qs.length->∃(o:Obj) (ay:List jp) (n:Nat),(qs.map Value.ref).getD i Value.none=.ref (qs.getD i 0)/\s'.heap.get? (qs.getD i 0)=some o/\o.cls=.type "tuple"/\o.data=.seq ay.toArray n/\IntsAre ay (rs.getD i [])/\rs.getD i []≠[]:=λ{s'} kp i hi=>by obtain⟨o,ay,n,b1,b2,b3⟩:=tup i hi;exact⟨o,ay,n,b1,kp _ o (G8 (G9 b2)) (j3 _ b2),b3⟩
 refine K1 (D4 (A0 slot_list_sort ⟨_,Bo,rfl⟩ entry_list_sort (sx (κ:=tuples' true) (Je λ i=>rs.getD i []) Bo (by rw[C1];lia) (λ s' kp h2 C hC=>?_) (λ s' kp i j C hi hj hC=>?_) λ out hO=>⟨_,rfl,?_⟩) (args_list_sort _)))
 ·have ni:∀(n:Nat),n<=qs.length->∃fs,KatTups s'.heap ((qs.drop (qs.length - n)).map Value.ref) fs/\fs.length=n/\∀v∈fs,∃i t,v=Value.int i t:=λ n=>by
   induction n with
   |zero=>intro _;rw[Nat.sub_zero,drop_length];exact⟨[],KatTups.nil,rfl,λ v hv=>by cases hv⟩
   |succ n ih=>
    intro hn;obtain⟨fs,f1,f2,f3⟩:=ih (by lia);have lt:qs.length - (n+1) < qs.length:=by lia
    obtain⟨o,ay,m,b1,b2,b3,b4,b5,b6⟩:=stays kp _ lt;have eq:qs.drop (qs.length - (n+1))=qs.getD (qs.length - (n+1)) 0::qs.drop (qs.length - n):=by rw[g9 lt,show qs.length - (n+1)+1=qs.length - n by lia];simp[c7,lt]
    rw[eq,G4];generalize rs.getD (qs.length - (n+1)) []=r at b5 b6;cases b5 with
    |nil=>exact absurd rfl b6
    |cons x tx hx=>
     refine⟨_::fs,KatTups.cons b2 b3 b4 (by simp;rfl) f1,by simp[f2],λ v hv=>?_⟩;rcases G5.mp hv with rfl|hv
     ·exact⟨x,tx,rfl⟩
     ·exact f3 v hv
  obtain⟨fs,t1,t2,t3⟩:=ni qs.length (J7 _);rw[Nat.sub_self,drop_zero]at t1;rw[C1]at h2;refine kat_kind (T:=.type "int") t1 (by lia) (λ v hv=>?_) rfl hC;obtain⟨i,t,rfl⟩:=t3 v hv;exact(show Looks _ s'.heap (pure (Value.type "int")) _ from .now)
 ·rw[C1]at hi hj;obtain⟨o,ay,n,b1,b2,b3,b4,b5,b6⟩:=stays kp i hi;obtain⟨o',its',n',c1,c2,c3,c4,c5,c6⟩:=stays kp j hj;rw[b1,c1];refine kat_lt b2 b4 c2 c4 ?_;refine uR b5 c5 ?_ hC;rw[y0,y0,IntsAre.length b5,IntsAre.length c5]
 ·refine K2 ⟨_,rfl,?_⟩;obtain⟨c,Gw⟩:=sortedHeap_at (out:=out.toArray) Bo;obtain⟨pp,p1,_,p3⟩:=hO;rw[C1]at p1;have pm:pp.toList.Perm (List.range qs.length):=by have:=p1;unfold Pm at this;simpa using Array.Perm.toList this
  have below:∀i∈pp.toList,i < qs.length:=λ i hi=>mem_range.mp (pm.mem_iff.mp hi);have eo:out=(pp.toList.map λ i=>qs.getD i 0).map Value.ref:=by rw[p3,H9];refine m9 λ i hi=>?_;have:=below i hi;simp[c7,this]
  have kp:∀b o,h'.get? b=some o->(sortedHeap (h'.push (seqObj "list" (qs.map Value.ref).toArray 0)) h'.objs.size (qs.map Value.ref) out.toArray).get? b=some o:=λ b o e=>by rw[sortedHeap_old (G8 (G9 e)) (by rw[size_push'];exact y4 (G9 e))];exact j3 _ e
  have ln:(pp.toList.map λ i=>qs.getD i 0).length=qs.length:=by rw[C1,pm.length_eq,x8]
  refine⟨.ref h'.objs.size,_,I0.laid (t':=tk) kp (J7 _) (show bA X.prog X.w _ _ _ (.lst ((pp.toList.map λ i=>qs.getD i 0).map V.ref))from⟨by rw[C1,ln,J8];lia,out,c,by rw[eo];exact qv _,Gw⟩),rfl,q (pp.toList.map λ i=>qs.getD i 0) (pp.toList.map λ i=>rs.getD i []) _ (by simp) (λ i q' r' g1 g2=>?_) ?_ (I0.bx.fresh (J7 _))⟩
  ·rw[u7]at g1 g2;obtain⟨x,x1,x2⟩:=Option.map_eq_some_iff.mp g1;rw[x1]at g2;have:=below x (k8 x1);have h2:x < rs.length:=by lia
   refine a3 x q' r' ?_ ?_
   ·rw[i6 this,<- x2];simp[c7,this]
   ·rw[i6 h2,<- B6 g2];simp[c7,h2]
  ·refine(List.Perm.map mG ?_).trans pk;have:=pm.map λ i=>rs.getD i [];rw[a2,xo rs []]at this;exact this
open PySem.Spec PySem.W PySem.Calls PyProof.Rows L5
section
variable {p pos:Pos}
def Qb(X:Cx)(ta:TA):TE:=λ σ H Q=>ta σ H λ vs H1=>∃(l:ww) (ps:List ww) (x0:List (List Int)),vs=[.ref l]/\fE X.K H1 l (ps.map V.ref)/\ps.length=x0.length/\(∀(i:Nat) p r,ps[i]?=some p->x0[i]?=some r->rE X H1 p r)/\x0.length < 64/\
 ∀(qs:List ww) (rs:List (List Int)) (p:ww),qs.length=rs.length->(∀(i:Nat) q r,qs[i]?=some q->rs[i]?=some r->rE X H1 q r)->rs.Nodup->(∀r,r∈rs↔r∈x0)->H1 p=none->Q (.ref p) (ci H1 p (.lst (qs.map V.ref)))
theorem Iq(hc:X.calm=true)(hu:X.A.units+64 < cLine)(hg:Gl X "sorted")(hm:X.mg "sorted"=none)(EX:Gl X "set")(EU:X.mg "set"=none)(ha:PA X [e1] ta) (hs:starEach [e1] X.env=(false,eval e1 X.env)::starEach [] X.env:=by rfl) (he:starEach [.Call (.Name "set" p2) [e1] [] bY] X.env=(false,eval (.Call (.Name "set" p2) [e1] [] bY) X.env)::starEach [] X.env:=by rfl):PE X (.Call (.Name "sorted" p) [.Call (.Name "set" p2) [e1] [] bY] [] pos) (Qb X ta):=by
 intro xz s σ H Q I h;refine p9 (fA I hg hm (show bootBuiltins "sorted"=some (.builtin "sorted") by decide+kernel) ?_ (by decide) (by decide));refine PyProof.Rows.callWith_builtin1 ?_ he rfl;rw[he];show wpAny _ _ (spliced ((false,eval (.Call (.Name "set" p2) [e1] [] bY) X.env)::backTo pos (starEach [] X.env))) _ _ s;refine Calls.spliced_cons ?_;refine Call_ (fA I EX EU (show bootBuiltins "set"=some (.type "set") by decide+kernel) (a7 (dG (ha bY xz s σ H _ I h) λ us s1 ⟨vs,H1,I1,r1,q1⟩=>?_) hs (by rfl)));obtain⟨l,ps,x0,ev,hl,pl,row,ck,q⟩:=q1;subst ev;obtain⟨u1,rfl,rx⟩:=vals1 r1;cases(show u1=Value.ref l from rx);obtain⟨ay,r',UH,hz⟩:=I1.list hl;have hits:=qO _ r';subst hits;have tree:∀(i:Nat) (v:jp),(ps.map Value.ref).toArray[i]?=some v->∃(k:IK) (b:ww),(x0.map mG)[i]?=some k/\v=.ref b/\(aX X.prog X.w).is s1.heap k b:=λ i v hv=>by
  rw[getElem?_toArray,u7]at hv;obtain⟨b,b1,b2⟩:=Option.map_eq_some_iff.mp hv;have lt:=(i3.mp b1).1;have BN:i < x0.length:=by lia
  have hG:=row i b _ b1 (i6 BN);exact⟨mG x0[i],b,by rw[u7,i6 BN];rfl,b2.symm,zg _,jY I1 _ (Er hG.2) rfl⟩
 refine xM (ns:=x0.map mG) (I1.ok.hd hc) hu UH.isList (by simp[pl]) tree (by rw[C1];lia) λ h' tk ks hZ ho kp=>Calls.spliced_nil ?_;have I2:be X xz σ H1 {s1 with heap:=h',toks:=tk}:=I1.kept (t':=tk) kp;refine ug hc I2 hZ (λ v hv=>?_) (by have:=ho.ck;rw[C1]at this;lia) λ qs rs p' g1 g2 g3 g4=>q qs rs p' g1 g2 ?_ (λ r=>?_) g4
 ·have hv:v∈ps.map Value.ref:=by simpa using hv
  obtain⟨b,hb,rfl⟩:=H0.mp hv;obtain⟨i,hi⟩:=getElem?_of_mem hb;have lt:=(i3.mp hi).1;exact⟨b,x0[i]'(by lia),rfl,row i b _ hi (i6 (by lia))⟩
 ·have:(rs.map mG).Nodup:=g3.nodup_iff.mpr ho.1;exact(pairwise_map.mp this).imp λ z w=>z (by rw[w])
 ·have:mG r∈rs.map mG↔mG r∈x0.map mG:=g3.mem_iff.trans (ho.2 _);have inj:∀l:List (List Int),mG r∈l.map mG↔r∈l:=λ l=>⟨λ z=>by
   obtain⟨a,a1,a2⟩:=H0.mp z;rw[<- Jw a2];exact a1,λ z=>H0.mpr ⟨r,z,rfl⟩⟩
  rw[inj,inj]at this;exact this
end
end L2
namespace L3
open PySem.Spec PyProof.Rows L2 L5
abbrev cV(r:List Int):D:=.tup (r.map D.int)
section
variable {ta:e_}{p pos:Pos}
def CK(ta:e_):cS:=λ δ M Q=>ta δ M λ ds M1=>∃(l:ww) (x0:List (List Int)),ds=[.ref l]/\M1 l=some (.lst (x0.map cV))/\(∀r∈x0,r≠[])/\x0.length < 64/\∀(rs:List (List Int)) (p:ww),rs.Nodup->(∀r,r∈rs↔r∈x0)->M1 p=none->Q (.ref p) (ai M1 p (.lst (rs.map cV)))
theorem CV:∀{x0:List (List Int)} {xv:List V},aD K H (x0.map cV) xv->∃ps:List ww,xv=ps.map V.ref/\ps.length=x0.length/\∀(i:Nat) p r,ps[i]?=some p->x0[i]?=some r->gn K H p (r.map V.int)
 |[],xv,h=>by cases(ao.mp h);exact⟨[],rfl,rfl,λ i p r z=>by cases z⟩
 |r::x0,xv,h=>by
  obtain⟨x,t,rfl,h1,h2⟩:=ag.mp h;obtain⟨ps,a,b,c⟩:=CV h2;obtain⟨p,xs,rfl,h3,h4⟩:=aZ.mp h1;rw[dC h4]at h3;refine⟨p::ps,by rw[a];rfl,by simp[b],λ i p' r' z1 z2=>?_⟩;cases i with
  |zero=>cases z1;cases z2;exact h3
  |succ i=>exact c i p' r' (by simpa using z1) (by simpa using z2)
theorem FT:∀{rs:List (List Int)} {qs:List ww},qs.length=rs.length->(∀(i:Nat) q r,qs[i]?=some q->rs[i]?=some r->gn K H q (r.map V.int))->aD K H (rs.map cV) (qs.map V.ref)
 |[],[],_,_=>ao.mpr rfl
 |[],_::_,h,_=>by cases h
 |_::_,[],h,_=>by cases h
 |r::rs,q::qs,h,a=>ag.mpr ⟨_,_,rfl,aZ.mpr ⟨q,_,rfl,a 0 q r rfl rfl,gm r⟩,FT (Nat.succ.inj h) λ i q' r' z1 z2=>a (i+1) q' r' (by simpa using z1) (by simpa using z2)⟩
theorem MP(hc:X.calm=true)(hu:X.A.units+64 < cLine)(hg:Gl X "sorted")(hm:X.mg "sorted"=none)(EX:Gl X "set")(EU:X.mg "set"=none)(ha:QA X [e1] ta) (hs:starEach [e1] X.env=(false,eval e1 X.env)::starEach [] X.env:=by rfl) (he:starEach [.Call (.Name "set" p2) [e1] [] bY] X.env=(false,eval (.Call (.Name "set" p2) [e1] [] bY) X.env)::starEach [] X.env:=by rfl):QE X (.Call (.Name "sorted" p) [.Call (.Name "set" p2) [e1] [] bY] [] pos) (CK ta):=by refine bZ (Iq hc hu hg hm EX EU ha hs he) ?_;rintro σ H Q ⟨δ,M,Q2,hs,hm,q,k⟩;refine⟨δ,M,_,hs,hm,q,λ vs H1 ds M1 hd cv t1 ⟨l,x0,e,hM,ne,ck,q1⟩=>?_⟩;subst e;obtain⟨v1,r,rfl,Ve,hr⟩:=ag.mp hd;cases(ao.mp hr);cases(aE.mp Ve);obtain⟨xv,VA,Gr⟩:=(show ∃xv,H1 l=some (.lst xv)/\aD X.K H1 (x0.map cV) xv from cv l _ hM);have hl:fE X.K H1 l xv:=.inl (.inl VA);obtain⟨ps,rfl,pl,pr⟩:=CV Gr;refine⟨l,ps,x0,rfl,hl,pl,λ i p r z1 z2=>⟨ne r (k8 z2),pr i p r z1 z2⟩,ck,λ qs rs p g1 g2 g3 g4 hp=>?_⟩;exact k _ _ (.ref p) _ (aE.mpr rfl) (dM hp (FT g1 λ i q r z1 z2=>(g2 i q r z1 z2).2) cv) (t1.trans (ar.laid hp)) (q1 rs p g3 g4 (cv.free hp))
end
end L3
namespace L4
open L2 L3
theorem Lv{ta:e_}{p pos:Pos}(hc:X.calm=true)(hu:X.A.units+64 < cLine)(hg:Gl X "sorted")(hm:X.mg "sorted"=none)(EX:Gl X "set")(EU:X.mg "set"=none)(ha:WA X [e1] ta) (hs:starEach [e1] X.env=(false,eval e1 X.env)::starEach [] X.env:=by rfl) (he:starEach [.Call (.Name "set" p2) [e1] [] bY] X.env=(false,eval (.Call (.Name "set" p2) [e1] [] bY) X.env)::starEach [] X.env:=by rfl):WE X (.Call (.Name "sorted" p) [.Call (.Name "set" p2) [e1] [] bY] [] pos) (CK ta):=⟨MP hc hu hg hm EX EU ha.h hs he⟩
theorem Hk{ta:e_}{Q:bR}(h:ta δ M λ ds M1=>∃(l:ww) (x0:List (List Int)),ds=[.ref l]/\M1 l=some (.lst (x0.map cV))/\(∀r∈x0,r≠[])/\x0.length < 64/\∀(rs:List (List Int)) (p:ww),rs.Nodup->(∀r,r∈rs↔r∈x0)->M1 p=none->Q (.ref p) (ai M1 p (.lst (rs.map cV)))):CK ta δ M Q:=h
end L4
namespace KK
open L3 L4 L5
open L2 hiding aH
def cq(r:List Row)(ls:Row)(h:Nat):Nat->Nat->Nat->Prop
 |0,x,y=>dH ls x=dH ls y
 |t+1,x,y=>cq r ls h t x y/\∀i,i < h->cq r ls h t (aM r i x) (aM r i y)
section
variable {h:Nat}
theorem mL:∀(t x:Nat),cq r ls h t x x
 |0,x=>rfl
 |t+1,x=>⟨mL t x,λ i _=>mL t _⟩
theorem ki:∀(t x y:Nat),cq r ls h t x y->cq r ls h t y x
 |0,x,y,e=>Eq.symm e
 |t+1,x,y,e=>⟨ki t x y e.1,λ i hi=>ki t _ _ (e.2 i hi)⟩
theorem fB:∀(t x y z:Nat),cq r ls h t x y->cq r ls h t y z->cq r ls h t x z
 |0,x,y,z,e,f=>Eq.trans e f
 |t+1,x,y,z,e,f=>⟨fB t x y z e.1 f.1,λ i hi=>fB t _ _ _ (e.2 i hi) (f.2 i hi)⟩
theorem FF:∀(t x y:Nat),cq r ls h t x y->dH ls x=dH ls y
 |0,x,y,e=>e
 |t+1,x,y,e=>FF t x y e.1
theorem zO{p q:Nat->Bool}:∀(l:List Nat),(∀x∈l,p x=true->q x=true)->l.countP p<=l.countP q
 |[],_=>J7 _
 |a::l,i=>by
  have ih:=zO l λ x hx=>i x (k7 _ hx);have ia:=i a n6;rw[countP_cons,countP_cons];cases pa:p a with
  |false=>simp only[o7,K6];lia
  |true=>rw[K9 rfl,K9 (ia pa)];lia
theorem zN{p q:Nat->Bool}:∀(l:List Nat),(∀x∈l,p x=true->q x=true)->(∃x∈l,p x=false/\q x=true)->l.countP p < l.countP q
 |[],_,⟨x,hx,_⟩=>by cases hx
 |a::l,i,⟨x,hx,px,qx⟩=>by
  have il:∀x∈l,p x=true->q x=true:=λ x hx=>i x (k7 _ hx);rw[countP_cons,countP_cons];rcases G5.mp hx with e|hx
  ·have:=zO l il;rw[<- e,px,qx,K9 rfl];simp only[o7,K6];lia
  ·have ih:=zN l il ⟨x,hx,px,qx⟩;have ia:=i a n6;cases pa:p a with
   |false=>simp only[o7,K6];lia
   |true=>rw[K9 rfl,K9 (ia pa)];lia
noncomputable def Ro (r:List Row)(ls:Row)(h t x:Nat):Bool:=@decide (∀y,y < x->¬cq r ls h t y x) (Classical.propDecidable _)
theorem jX{t x:Nat}:Ro r ls h t x=true↔∀y,y < x->¬cq r ls h t y x:=@decide_eq_true_iff _ (Classical.propDecidable _)
theorem uM{p:Nat->Prop}(hn:p n):∃k,p k/\k<=n/\∀j,j < k->¬p j:=by
 induction n using Nat.strongRecOn with
 |_ n ih=>
  by_cases z:∃j,j < n/\p j
  ·obtain⟨j,hj,pj⟩:=z;obtain⟨k,a,b,c⟩:=ih j hj pj;exact⟨k,a,by lia,c⟩
  ·exact⟨n,hn,J7 _,λ j hj pj=>z ⟨j,hj,pj⟩⟩
def Kq(r:List Row)(ls:Row)(h m t:Nat):Prop:=∀x y,x < m->y < m->cq r ls h t x y->cq r ls h (t+1) x y
theorem LN(G:dD m h r){t:Nat}(s:Kq r ls h m t):Kq r ls h m (t+1):=λ x y hx hy e=>
 ⟨e,λ i hi=>s _ _ (G.eW.cl _ _ hi hx) (G.eW.cl _ _ hi hy) (e.2 i hi)⟩
theorem Cm(G:dD m h r){t:Nat}(s:Kq r ls h m t):∀k,Kq r ls h m (t+k)
 |0=>s
 |k+1=>LN G (Cm G s k)
theorem Ek{t:Nat}(n:¬Kq r ls h m t):(List.range m).countP (Ro r ls h t) < (List.range m).countP (Ro r ls h (t+1)):=by
 refine zN _ (λ x _ hx=>jX.mpr λ y hy e=>jX.mp hx y hy e.1) ?_;obtain⟨x,y,hx,hy,e,ne⟩:∃x y,x < m/\y < m/\cq r ls h t x y/\¬cq r ls h (t+1) x y:=by refine Classical.byContradiction λ z=>n λ x y hx hy e=>Classical.byContradiction λ ne=>z ⟨x,y,hx,hy,e,ne⟩
 obtain⟨l,l1,l2,l3⟩:=uM (p:=λ l=>cq r ls h t l x) (n:=x) (mL t x);obtain⟨z,z1,z2,z3⟩:∃z,z < m/\cq r ls h t l z/\¬cq r ls h (t+1) l z:=by
  by_cases a:cq r ls h (t+1) l x
  ·refine⟨y,hy,fB t _ _ _ l1 e,λ b=>ne (fB _ _ _ _ (ki _ _ _ a) b)⟩
  ·exact⟨x,hx,l1,a⟩
 obtain⟨w,⟨w1,w2,w3⟩,w4,w5⟩:=uM (p:=λ z=>z < m/\cq r ls h t l z/\¬cq r ls h (t+1) l z) ⟨z1,z2,z3⟩;have lw:l < w:=by
  rcases Nat.lt_trichotomy l w with g|g|g
  ·exact g
  ·subst g;exact absurd (mL _ _) w3
  ·exact absurd (fB t _ _ _ (ki t _ _ w2) l1) (l3 w g)
 refine⟨w,mem_range.mpr w1,?_,jX.mpr λ y hy e2=>?_⟩
 ·rw[<- Bool.not_eq_true,jX];exact λ z=>z l lw w2
 ·exact w5 y hy ⟨by lia,fB t _ _ _ w2 (ki t _ _ e2.1),λ a=>w3 (fB _ _ _ _ a e2)⟩
theorem Ck(hm:0 < m):∀t:Nat,(∃s,s < t/\Kq r ls h m s)\/t+1<=(List.range m).countP (Ro r ls h t)
 |0=>.inr (countP_pos_iff.mpr ⟨0,mem_range.mpr hm,jX.mpr λ y hy=>by lia⟩)
 |t+1=>by
  rcases Ck hm t with⟨s,hs,z⟩|z
  ·exact .inl ⟨s,by lia,z⟩
  ·by_cases g:Kq r ls h m t
   ·exact .inl ⟨t,by lia,g⟩
   ·have:=Ek g;exact .inr (by lia)
theorem Qj(G:dD m h r):Kq r ls h m m:=by
 rcases Ck (r:=r) (ls:=ls) (h:=h) G.tb.pos m with⟨s,hs,z⟩|z
 ·have:=Cm G z (m - s)
  rwa [show s+(m - s)=m by lia]at this
 ·have:=countP_le_length (p:=Ro r ls h m) (l:=List.range m);rw[x8]at this;lia
theorem FE(G:dD m h r)(hi:i < h):∀(n x y:Nat),x < m->y < m->cq r ls h m x y->cq r ls h m (iO (aM r i) n x) (iO (aM r i) n y)
 |0,x,y,_,_,e=>e
 |n+1,x,y,hx,hy,e=>FE G hi n _ _ (G.eW.cl _ _ hi hx) (G.eW.cl _ _ hi hy) ((Qj G x y hx hy e).2 i hi)
theorem FG(G:dD m h r):∀(p:Cs) (i x y:Nat),i+p.length<=h->x < m->y < m->cq r ls h m x y->cq r ls h m (dw (aM r) i x p) (dw (aM r) i y p)
 |[],i,x,y,_,_,_,e=>e
 |c::p,i,x,y,hl,hx,hy,e=>by rw[y8]at hl;exact FG G p (i+1) _ _ (by lia) (G.eW.iO (by lia) c x hx) (G.eW.iO (by lia) c y hy) (FE G (by lia) c x y hx hy e)
theorem oT(G:dD m h r):∀(t x y:Nat),x < m->y < m->(∀q:Cs,q.length=h->¬Ii r ls x y q)->cq r ls h t x y
 |0,x,y,hx,hy,a=>by have:=a (jB h) (by unfold jB;simp);unfold Ii at this;rw[fM,fM]at this;exact(Decidable.not_not.mp this:dH ls x=dH ls y)
 |t+1,x,y,hx,hy,a=>⟨oT G t x y hx hy a,λ i hi=>oT G t _ _ (G.eW.cl _ _ hi hx) (G.eW.cl _ _ hi hy) λ q hq pq=>by
  refine a (inc q i) (by rw[iQ];exact hq) ?_;unfold Ii at pq ⊢;rw[G.eW.PM hi q 0 x (by lia) hx,G.eW.PM hi q 0 y (by lia) hy]at pq
  rwa [G.eW.inc q 0 i x (by lia) (by lia) hx,G.eW.inc q 0 i y (by lia) (by lia) hy,J1]⟩
theorem O4(G:dD m h r){x y:Nat}(hx:x < m)(hy:y < m):cq r ls h m x y↔∀q:Cs,q.length=h->¬Ii r ls x y q:=
 ⟨λ e q hq pq=>pq (FF m _ _ (FG G q 0 x y (by lia) hx hy e)),oT G m x y hx hy⟩
end
section
variable {h x y:Nat}{p:Cs}
theorem Jx[DecidableEq α]{l:List α}{a b:α}(ha:a∈l)(hb:b∈l)(e:l.idxOf a=l.idxOf b):a=b:=by
 have i:=idxOf_lt_length_of_mem ha;have j:=idxOf_lt_length_of_mem hb;have f:l[l.idxOf a]?=some a:=by rw[i6 i,getElem_idxOf]
 have g:l[l.idxOf b]?=some b:=by rw[i6 j,getElem_idxOf]
 rw[e,g]at f;exact(B6 f).symm
def Oo{α:Type}[DecidableEq α](l:List α)(a:α):Nat:=l.idxOf a
theorem Jq[DecidableEq α]{l:List α}{a b:α}(ha:a∈l)(hb:b∈l):Oo l a=Oo l b↔a=b:=⟨Jx ha hb,λ e=>K7 _ e⟩
def ie(r:List Row)(h:Nat)(f:Nat->Nat)(x:Nat):List Int:=(f x:Int)::(List.range h).map λ i=>(f (aM r i x):Int)
theorem IA{f:Nat->Nat}{t:Nat}(G:dD m h r)(c:∀x y,x < m->y < m->(f x=f y↔cq r ls h t x y))(hx:x < m)(hy:y < m):ie r h f x=ie r h f y↔cq r ls h (t+1) x y:=by
 unfold ie;rw[List.cons.injEq];constructor
 ·rintro⟨a,b⟩;refine⟨(c x y hx hy).mp (Int.ofNat.inj a),λ i hi=>(c _ _ (G.eW.cl _ _ hi hx) (G.eW.cl _ _ hi hy)).mp ?_⟩;have:=K7 (λ l:List Int=>l[i]?) b;simp only[u7,l7 hi,Option.map_some]at this;exact Int.ofNat.inj (B6 this)
 ·rintro⟨a,b⟩;refine⟨K7 _ ((c x y hx hy).mpr a),m9 λ i hi=>?_⟩;have hi:=mem_range.mp hi;exact K7 _ ((c _ _ (G.eW.cl _ _ hi hx) (G.eW.cl _ _ hi hy)).mpr (b i hi))
theorem AB(a b:List Int)(e:cV a=cV b):a=b:=by have:=D.tup.inj e;exact(List.map_inj_right λ _ _ z=>D.int.inj z).mp this
end
end KK
namespace L5
open PySem.W PySem.Calls PyProof.Rows
theorem GZ{l q:ww}{Pv:List jp->Prop}{Q:jp->kt->Prop} (EY:∀Q':List jp->kt->Prop,(∀(h1:Heap) (tk:Nat) (vs:List jp),(∀b o,s.heap.get? b=some o->h1.get? b=some o)->Pv vs->Q' vs {s with heap:=h1,toks:=tk})->wpAny (model prog w) A.in1 (collect (.ref l)) Q' E s) (pG:∀vs,Pv vs->vs.length < 64) (h:∀(h1:Heap) (tk:Nat) (vs:List jp),(∀b o,s.heap.get? b=some o->h1.get? b=some o)->Pv vs->∀(h':Heap) (e1:Nat),h'.get? h1.objs.size=some (seqObj "list" #[] e1)->h'.get? (h1.objs.size+2)=some (seqObj "list" #[] 0)->(∀b o,h1.get? b=some o->h'.get? b=some o)->
   wpAny (model prog w) A.in1.in1 (ksk_rest h1.objs.size (.ref q) false vs.toArray e1 (.ref (h1.objs.size+2))) (λ f s'=>f=.done (.ret .none)/\Q (.ref h1.objs.size) s') E {s with heap:=h',toks:=tk}):
  wpAny (model prog w) A (call (.builtin "sorted") [.ref l] [(Str.ofString "key",.ref q)]) Q E s:=by
 refine call_function_entry_kw kind_sorted plain_sorted entry_sorted (ksk_s1 _ _) ?_;unfold Builtin.«sorted»;refine K1 (m:=checkCount "sorted" 1 1 _) (K2 (K1 (EY _ λ h1 tk vs k1 pv=>?_)));have ck:=pG vs pv;refine K1 (wpAny_newList ?_ (by rw[J8];lia));have h:=h h1 tk vs k1 pv;clear EY pG;generalize hn:h1.objs.size=n at*;have g1:(h1.push (seqObj "list" vs.toArray 0)).get? n=some (seqObj "list" vs.toArray 0):=by rw[<- hn];exact m7 _ rfl
 have k2:∀b o,h1.get? b=some o->(h1.push (seqObj "list" vs.toArray 0)).get? b=some o:=λ b o q=>j3 _ q;show wpAny _ _ _ _ _ {s with heap:=h1.push (seqObj "list" vs.toArray 0),toks:=tk};refine K1 (D4 (wpAny_call_entry_kw slot_list_sort ⟨_,g1,rfl⟩ entry_list_sort ?body (ksk_l1 _ _)))
 case body=>
  show wpAny (model prog w) A.in1.in1 (Builtin.«list.sort» ⟨[.ref n],[(Str.ofString "key",.ref q)]⟩) _ _ _;rw[ksk_t1];unfold ksk_tree;generalize hH:h1.push (seqObj "list" vs.toArray 0)=H at*;have eH:H.objs.size=n+1:=by rw[<- hH,size_push',hn]
  obtain⟨c1,o1⟩:∃c1,(H.update n (Obj.mapSeq λ _=>(#[]:Array jp))).get? n=some (seqObj "list" #[] c1):=⟨_,get?_update_seq g1 λ _=>#[]⟩;refine K1 (listItems_at g1 rfl (K1 (listUpdate_at g1 rfl (K1 (seqEpoch_at o1 rfl (K1 (wpAny_newTuple (K1 (wpAny_newList (D4 ?_) (J9 _))) (by show vs.length<=_;rw[J8];lia))))) (by rw[y0,J8];lia) (J9 _))));have e2:(H.update n (Obj.mapSeq λ _=>(#[]:Array jp))).objs.size=n+1:=by rw[A5,eH]
  have e3:((H.update n (Obj.mapSeq λ _=>(#[]:Array jp))).push (seqObj "tuple" vs.toArray 0)).objs.size=n+2:=by rw[size_push',e2]
  have g3:(((H.update n (Obj.mapSeq λ _=>(#[]:Array jp))).push (seqObj "tuple" vs.toArray 0)).push (seqObj "list" #[] 0)).get? (n+2)=some (seqObj "list" #[] 0):=by rw[<- e3];exact m7 _ rfl
  show wpAny (model prog w) A.in1.in1 (ksk_rest n (.ref q) false vs.toArray c1 (.ref ((H.update n (Obj.mapSeq λ _=>(#[]:Array jp))).push (seqObj "tuple" vs.toArray 0)).objs.size)) _ _ {s with heap:=((H.update n (Obj.mapSeq λ _=>(#[]:Array jp))).push (seqObj "tuple" vs.toArray 0)).push (seqObj "list" #[] 0),toks:=tk};rw[e3];refine K5 (h _ c1 (j3 _ (j3 _ o1)) g3 λ b o x=>j3 _ (j3 _ (by
   have hb:b < n:=by rw[<- hn];exact G9 x
   rw[Heap.get?_update_ne _ _ _ _ (G8 hb)];exact k2 b o x))) (λ f s' hf=>?_) λ _ _ x=>x
  obtain⟨rfl,hq⟩:=hf;exact⟨_,rfl,K2 ⟨_,rfl,hq⟩⟩
end L5
namespace L2
open PySem.Spec PyProof.Rows L5 PySem.W
def Xv(X:Cx)(s:kt)(l:ww)(ys:List V):Prop:=∀Q':List jp->kt->Prop,(∀(h1:Heap) (tk:Nat) (vs:List jp),(∀b o,s.heap.get? b=some o->h1.get? b=some o)->ce ys vs->Q' vs {s with heap:=h1,toks:=tk})->wpAny (model X.prog X.w) X.A.in1 (collect (.ref l)) Q' X.xe s
theorem sX{κ:SortKind}{lt:Nat->Nat->Bool}(O:Ord lt){l q:ww}{ys:List V}{Q:VK}(I:be X xz σ H s)(EY:Xv X s l ys)(pG:ys.length < 64)(R:List V->Hp->Prop)(h0:R [] H) (hc:∀(pins':List (ww×Obj)) kvs H' s' y x,be X pins' σ H' s'->R kvs H'->ys[kvs.length]?=some y->bv y x->wpAny (model X.prog X.w) X.A.in1.in1 (call (.ref q) [x]) (EP X pins' σ λ k H2=>R (kvs++[k]) H2) (λ _ _=>False) s') (hk:∀(pins':List (ww×Obj)) kvs H' s' ks,be X pins' σ H' s'->ce kvs ks->R kvs H'->kvs.length=ys.length->(2<=ys.length->∀C:SortKind->kt->Prop,C κ s'->wpAny (model X.prog X.w) X.A.in1.in1 (keyKind' (List.toArray ks)) C X.xe s')/\
   (2<=ys.length->∀i j C,i < ys.length->j < ys.length->C (lt i j) s'->wpAny (model X.prog X.w) X.A.in1.in1 (keyLt' κ (ks.getD i Value.none) (ks.getD j Value.none)) C (λ _ _=>False) s')/\∀p out,H' p=none->Out lt ys V.bw out->Q (.ref p) (ci H' p (.lst out))):
  wpAny (model X.prog X.w) X.A (call (.builtin "sorted") [.ref l] [(Str.ofString "key",.ref q)]) (EP X xz σ Q) X.xe s:=by
 refine GZ EY (λ vs r=>by rw[<- r.length];exact pG) λ h1 tk ay k1 rv g e1 gD gK gk=>?_;have hlen:=rv.length;have I:=I.kept (t':=tk) k1;have e0:({s with heap:=h1,toks:=tk}:kt).heap.objs.size=h1.objs.size:=rfl;have e9:({s with heap:=h1,toks:=tk}:kt).heap=h1:=rfl;have es:({s with heap:=g,toks:=tk}:kt)={{s with heap:=h1,toks:=tk}with heap:=g}:=rfl;rw[es];clear EY;generalize({s with heap:=h1,toks:=tk}:kt)=s at*;have f1:=I.jf (H':=λ _=>none) (b:=h1.objs.size) (by lia) rfl;have f3:=I.jf (H':=λ _=>none) (b:=h1.objs.size+2) (by lia) rfl;have dP:h1.objs.size≠h1.objs.size+2:=by lia
 refine Jm (J:=λ ks e s'=>∃kvs H',be X ((h1.objs.size+2,seqObj "list" (List.toArray ks) e)::(h1.objs.size,seqObj "list" #[] e1)::xz) σ H' s'/\ce kvs ks/\R kvs H'/\ks.length<=ay.length) (by lia) ?_ ?_ ?_ ?_
 ·rintro ks e s' ⟨kvs,H',I',rk,hR,lK⟩;exact⟨(I'.pin _ (j7 _ (.head _))).1,lK⟩
 ·rintro x ks e s' ⟨kvs,H',I',rk,hR,lK⟩ hx;have lk:=rk.length;obtain⟨y,hy,ry⟩:∃y,ys[kvs.length]?=some y/\bv y x:=by
   have hi:kvs.length < ys.length:=by have:=(i3.mp hx).1;lia
   obtain⟨u,Tq,ru⟩:=rv.get (i6 hi);rw[lk,hx]at Tq;cases Tq;exact⟨_,i6 hi,ru⟩
  refine K5 (hc _ kvs H' s' y x I' hR hy ry) (λ u s2 hq=>?_) λ _ _ z=>z;obtain⟨kv,H2,I2,ru,Zb⟩:=hq;have pk:=I2.pin _ (j7 _ (n6 ..));refine⟨pk.1,λ h' c YW sb=>⟨kvs++[kv],H2,?_,rk.append (.cons ru .nil),Zb,?_⟩⟩
  ·have I3:be X ((h1.objs.size,seqObj "list" #[] e1)::xz) σ H2 s2:=I2.eX λ p hp=>I2.pin p (j7 _ (.tail _ hp));have pd:=I2.pin _ (j7 _ (List.Mem.tail _ (n6 ..)));have fk:jz X ((h1.objs.size,seqObj "list" #[] e1)::xz) H2 (h1.objs.size+2):=⟨pk.2.1,f3.2.1,f3.2.2.1,f3.2.2.2.1,f3.2.2.2.2.1,λ p hp=>by
    rcases C2.mp hp with z|z
    ·exact f3.2.2.2.2.2 p (k9 _ z)
    ·rcases G5.mp z with rfl|z
     ·exact dP
     ·exact f3.2.2.2.2.2 p (j7 _ z)⟩
   have I4:be X ((h1.objs.size,seqObj "list" #[] e1)::xz) σ H2 {s2 with heap:=h'}:=tZ (t':=s2.toks) (ch:=[h1.objs.size+2]) I3 (λ b o hb e=>(sb.2 b (λ z=>hb (by simp[z]))).trans e) λ b JG=>by
    have:b=h1.objs.size+2:=by simpa using JG
    subst this;exact fk
   refine I4.eX λ p hp=>?_;rcases G5.mp hp with rfl|z
   ·exact⟨YW,pk.2.1,f3.2.1,f3.2.2.1,λ v z=>by cases z⟩
   ·exact I4.pin p (j7 _ z)
  ·have:=(i3.mp hx).1;rw[o6,j8];lia
 ·have I5:be X xz σ H {s with heap:=g}:=I.kept (t':=s.toks) λ b o q=>gk b o (by rw[<- e9];exact q);have hn:∀b,h1.objs.size<=b->H b=none:=λ b hb=>I.bx.fresh (by lia);refine⟨[],H,I5.eX λ p hp=>?_,.nil,h0,J9 _⟩;rcases G5.mp hp with rfl|z
  ·exact⟨gK,hn _ (by lia),f3.2.1,f3.2.2.1,λ v z=>by cases z⟩
  ·rcases G5.mp z with rfl|z
   ·exact⟨gD,hn _ (by lia),f1.2.1,f1.2.2.1,λ v z=>by cases z⟩
   ·exact I5.pin p (j7 _ z)
 ·rintro ks e s' ⟨kvs,H',I',rk,hR,_⟩ lK;have lk:=rk.length;obtain⟨lL,gg,hQ⟩:=hk _ kvs H' s' ks I' rk hR (by lia);have pk:=I'.pin _ (j7 _ (n6 ..));have pd:=I'.pin _ (j7 _ (List.Mem.tail _ (n6 ..)));rw[hlen]at lL gg;refine N8 O lK (by lia) pk.1 pd.1 dP lL gg λ out h' c ho hD zl=>⟨rfl,?_⟩;obtain⟨p,p1,p2,p3⟩:=ho;subst p3;have I6:be X xz σ H' s':=I'.eX λ p hp=>I'.pin p (j7 _ (.tail _ (.tail _ hp)));have I7:be X xz σ H' {s' with heap:=h'}:=tZ (t':=s'.toks) (ch:=[h1.objs.size,h1.objs.size+2]) I6 (λ b o hb e=>zl b o (λ z=>hb (by simp[z])) (λ z=>hb (by simp[z])) e) λ b JG=>by
   simp at JG;rcases JG with rfl|rfl
   ·exact⟨pd.2.1,f1.2⟩
   ·exact⟨pk.2.1,f3.2⟩
  have XQ:ce (p.toList.map λ i=>ys.getD i V.bw) (p.toList.map λ i=>ay.getD i Value.none):=Cd rv _;have U8:(p.toList.map λ i=>ys.getD i V.bw).length<=sizeLine:=by rw[C1,m6,p1.size,J8];lia
  refine⟨.ref h1.objs.size,_,be.nu (D:=h1.objs.size) (o:=.lst (p.toList.map λ i=>ys.getD i V.bw)) I7 pd.2.1 (show _/\∃(ay:List jp) (n:Nat),ce _ ay/\_ from⟨U8,_,c,XQ,hD⟩) f1.2.1 (J0 I.sz (by lia)) f1.2.2.2.2.1 f1.2.2.2.2.2,rfl,hQ _ _ pd.2.1 ⟨p,by rw[hlen];exact p1,by rw[hlen];exact p2,rfl⟩⟩
open PySem.Spec PyProof.Rows L5 PySem.W
theorem FJ(I:be X xz σ H s)(hr:de k A)(en:tM X.prog X.w X.K X.mg X.base A X.stack s H){fv:List Str}{sp:PU}{fV:List V}(ok:oW X.prog X.w X.K X.mg X.base k L ps fv sp){c:ww} (hf:∃o,H f=some (.eD o (.ext (lT f L c (bI X.env.cells L.scope.names []))))) (hcd:∃o,H c=some (.eD o (.ext (qd c L.qual)))) (Gj:gE ps fv L.scope=true) (KZ:fv=cn.map (·.1)) (Gu:∀x j,(x,j)∈cn->X.env.kindOf x=some .cell/\X.N[j]?=some x) (hN:X.N.Nodup) (hl:fV.length=cn.length) (Gs:∀(i:Nat) (x:Str) (j:Nat) (v:V),cn[i]?=some (x,j)->fV[i]?=some v->σ[j]?=some (some v))  {x:jp} (r:bv y x) {Q:VK} (q:sp [y] fV H Q):wpAny (model X.prog X.w) A (call (.ref f) [x]) (EP X xz σ Q) (λ _ _=>False) s:=by
 obtain⟨o1,h1⟩:=hf;obtain⟨o2,h2⟩:=hcd;have Y0:=R6 I.bx h1;have Y3:qd c L.qual s.heap:=(I.bx c _ h2).2.1;unfold gE at Gj;simp only[A1,A8]at Gj;obtain⟨⟨_,h5⟩,h6⟩:=Gj;have val:∀i x j,cn[i]?=some (x,j)->∃v,fV[i]?=some v/\σ[j]?=some (some v):=λ i x j e=>by have lt:=(i3.mp e).1;have ev:=i6 (show i < fV.length by lia);exact⟨_,ev,Gs i x j _ e ev⟩
 obtain⟨C,hC,ZW⟩:=I.Sn cn (λ x j hx=>by
  obtain⟨i,hi⟩:=getElem?_of_mem hx;obtain⟨v,_,hv⟩:=val i x j hi;exact⟨(Gu x j hx).1,(Gu x j hx).2,v,hv⟩) hN
 have fr:∀x,(x,NameKind.free)∈L.scope.names->x∈fv:=λ x hx=>by simpa using(h6 _ hx).2
 have Yi:∀x∈fv,∃j,(x,j)∈cn:=λ x hx=>by rw[KZ]at hx;obtain⟨p,hp,rfl⟩:=H0.mp hx;exact⟨p.2,hp⟩
 have look:=gH (cells:=X.env.cells) L.scope.names [] (λ n hx=>by
  obtain⟨j,hj⟩:=Yi n (fr n hx);obtain⟨d,_,_,e,_⟩:=hC.has n j hj;exact⟨d,e⟩) λ x c e=>by simp at e
 have free:=λ x c e=>(jn (cells:=X.env.cells) L.scope.names [] x c e).elim (fr x) λ z=>by simp at z
 refine wpAny_call (J4 (ok.run A X.stack s H f c _ [x] [y] fV _ hr en Y0 Y3 ⟨by rw[hl,KZ,C1],λ i x v e1 e2=>?_,λ x y d e1 e2=>I.ok.inj _ _ _ (look x d e1) (look y d e2),λ x d e=>⟨free x d e,I.gh x d (look x d e)⟩⟩ (.cons r .nil) q) λ r s' hq=>?_)
 ·rw[KZ,u7]at e1;obtain⟨p,hp,rfl⟩:=Option.map_eq_some_iff.mp e1;have hx:p.1∈fv:=by rw[KZ];exact H0.mpr ⟨p,k8 hp,rfl⟩
  have hm:(p.1,NameKind.free)∈L.scope.names:=by have:=h5 _ hx;exact l8 (by simpa using this)
  obtain⟨b,hb⟩:=Option.isSome_iff_exists.mp (iU (cells:=X.env.cells) L.scope.names [] hm);obtain⟨b',o',v',z1,z2,z3⟩:=hC.has p.1 p.2 (k8 hp);rw[look _ b hb]at z1;cases z1;rw[Gs i p.1 p.2 v hp e2]at z2;cases z2;exact⟨b,hb,(ZW b _ z3).2⟩
 ·cases r with
  |error e=>exact False.elim hq
  |ok fl=>
   cases fl with
   |ret u=>exact I.after hq
   |next=>exact False.elim hq
   |brk=>exact False.elim hq
   |cont=>exact False.elim hq
theorem Of(I:be X xz σ H s)(hu:A.units+1 < cLine){kvs:List V}{ks:List jp}{key:Nat->Ky}(rk:ce kvs ks)(hl:kvs.length=n)(iX:∀i k,kvs[i]?=some k->oX X.K true H k (key i)): (2<=n->∀C:SortKind->kt->Prop,C (tuples' true) s->wpAny (model X.prog X.w) A (keyKind' (List.toArray ks)) C E s)/\ (2<=n->∀i j C,i < n->j < n->C (klt (key i) (key j)) s->wpAny (model X.prog X.w) A (keyLt' (tuples' true) (ks.getD i Value.none) (ks.getD j Value.none)) C (λ _ _=>False) s):=by
 have lk:=rk.length;refine⟨λ h2 C hC=>?_,λ h2 i j C hi hj hC=>?_⟩
 ·obtain⟨fs,t1,t2,t3⟩:=uO I rk iX;refine kat_kind (T:=.type "int") t1 (by lia) (λ v hv=>?_) rfl hC;obtain⟨i,t,rfl⟩:=t3 v hv;exact(show Looks _ s.heap (pure (Value.type "int")) _ from .now)
 ·have gi:∀i,i < n->∃k u,kvs[i]?=some k/\ks.getD i Value.none=u/\bv k u:=λ i hi=>by
   have uZ:i < kvs.length:=by lia
   obtain⟨u,e,r⟩:=rk.get (i6 uZ);exact⟨_,u,i6 uZ,by rw[c7,e];rfl,r⟩
  obtain⟨k1,u1,a1,a2,a3⟩:=gi i hi;obtain⟨k2,u2,b1,b2,b3⟩:=gi j hj;rw[a2,b2];exact Oc I hu (iX i k1 a1) (iX j k2 b1) a3 b3 hC
theorem JX(I:be X xz σ H s)(hc:X.calm=true){r:ww}(h:H r=some (.wz 0 n))(ck:n < 64):Xv X s r (kQ 0 n):=λ Q' k=>by
 obtain⟨t,u,v,ho⟩:=I.bx r _ h;have es:Builtin.Range.rangeSize 0 (n:Int) 1=((n:Nat):Int):=by rw[rangeSize_one];split <;> lia
 exact qc (A:=X.A.in1) (a:=0) (b:=n) (c:=1) (t:=t) (u:=u) (v:=v) (n:=n) (I.ok.hd hc) ho (small_one (by lia) (by lia) (by lia) (by lia)) es (by lia) λ h' tk zn kp fG=>k h' tk zn.toList kp (qN fG)
section
variable {c P:ww}{lp p pos kp:Pos}{te:TE}
def Dw(X:Cx)(k:Nat)(P:ww)(L:ql)(cn:List (Str×Nat))(σ:St)(x:V)(H:Hp)(Q:VK):Prop:=
 ∃(r:ww) (n:Nat) (ps fv:List Str) (sp:PU) (fV:List V),x=.ref r/\H r=some (.wz 0 n)/\n < 64/\oW X.prog X.w X.K X.mg X.base k L ps fv sp/\gE ps fv L.scope=true/\fv=cn.map (·.1)/\fV.length=cn.length/\(∀(i:Nat) (x:Str) (j:Nat) (v:V),cn[i]?=some (x,j)->fV[i]?=some v->σ[j]?=some (some v))/\FU H P L.qual/\
 ∀H':Hp,(∀b u,b≠P->H b=some u->H' b=some u)->FU H' P L.qual->∃(R:List V->Hp->Prop) (key:Nat->Ky),R [] H'/\(∀kvs H2,R kvs H2->∀b o u,H' b=some (.eD o u)->H2 b=some (.eD o u))/\(∀kvs H2 v,R kvs H2->(kQ 0 n)[kvs.length]?=some v->sp [v] fV H2 (λ k H3=>R (kvs++[k]) H3))/\
  ∀kvs H2,R kvs H2->kvs.length=n->(∀i k,kvs[i]?=some k->oX X.K true H2 k (key i))/\∀p out,H2 p=none->Out (λ i j=>klt (key i) (key j)) (kQ 0 n) V.bw out->Q (.ref p) (ci H2 p (.lst out))
theorem jK(a:Int)(n:Nat):(kQ a n).length=n:=by unfold kQ;rw[C1,x8]
theorem Ir(hc:X.calm=true)(hr:de (k+2) X.A)(hg:Gl X "sorted")(hm:X.mg "sorted"=none)(he:PE X e te)(lM:X.env.code=.ref c)(B:GA X.mg X.base c P)(xl:defaultsOf L.params X.env=([],[]))(Bn:L.pm=(X.mg "__name__").getD .none)(hq:X.env.qual++"<lambda>"=L.qual) (Bq:∀n,(n,NameKind.free)∈L.scope.names->X.env.kindOf n=some .cell\/X.env.kindOf n=some .free) (Gu:∀x j,(x,j)∈cn->X.env.kindOf x=some .cell/\X.N[j]?=some x) (hN:X.N.Nodup) (hs:starEach [e] X.env=[(false,eval e X.env)]:=by rfl) (Bm:backTo pos (starEach [e] X.env)=(false,eval e X.env)::backTo pos (starEach [] X.env):=by rfl) (hs2:(backTo pos (starEach [e] X.env)).any (·.1)=false:=by rfl):PE X (.Call (.Name "sorted" p) [e] [⟨some "key",.Lambda L.params L.body L.scope lp,kp⟩] pos) (λ σ H Q=>te σ H λ x H1=>Dw X k P L cn σ x H1 Q):=by
 intro xz s σ H Q I h;refine p9 (fA I hg hm PyProof.Rows.boot_sorted ?_ (by decide) (by decide));refine PyProof.Rows.callWith_kw (dG ((jS he nV (by rw[hs];rfl)) pos xz s σ H (λ vs H1=>match vs with|[x]=>Dw X k P L cn σ x H1 Q|_=>False) I h) λ us s1 ⟨vs,H1,I1,r1,q1⟩=>?_) Bm hs2;cases vs with
 |nil=>exact q1.elim
 |cons x vs=>
  cases vs with
  |cons _ _=>exact q1.elim
  |nil=>
  obtain⟨r,n,ps,fv,sp,fV,rfl,Vi,ck,ok,Gj,KZ,hl,Gs,tb,q⟩:=(show Dw X k P L cn σ x H1 Q from q1);refine dG ((Ik (Np (pos:=lp) lM B xl Bn hq Bq) Nf) pos xz s1 σ H1 (λ vs H2=>∃f c,vs=[.ref f]/\(∀b u,b≠P->H1 b=some u->H2 b=some u)/\FU H2 P L.qual/\(∃o,H2 c=some (.eD o (.ext (qd c L.qual))))/\∃o,H2 f=some (.eD o (.ext (lT f L c (bI X.env.cells L.scope.names []))))) I1 ⟨tb,λ f c H2 _ _ old T8 JF VF=>⟨f,c,rfl,old,T8,JF,VF⟩⟩) λ ws s2 ⟨zs,H2,I2,rz,f,cf,e2,old,T8,JF,VF⟩=>?_;subst e2;obtain⟨u,rfl,ru⟩:=vals1 r1;obtain⟨v,rfl,rv⟩:=vals1 rz;cases(show u=Value.ref r from ru);cases(show v=Value.ref f from rv);obtain⟨R,key,h0,zl,u_,hk⟩:=q H2 old T8;have rP:r≠P:=λ z=>by obtain⟨cs,z1,_⟩:=tb;rw[z,z1]at Vi;cases Vi
  have room:de k X.A.in1.in1:=(hr.in1 (k:=k+1)).in1;have WQ:X.A.in1.in1.units+1 < cLine:=by have:=room.units;lia
  refine sX (Jo key) (κ:=tuples' true) I2 (JX I2 hc (old r _ rP Vi) ck) (by rw[jK];exact ck) R h0 (λ pins' kvs H' s' y x I' hR hy ry=>?_) λ pins' kvs H' s' ks I' rk hR lK=>?_
  ·obtain⟨o1,z1⟩:=VF;obtain⟨o2,z2⟩:=JF;exact FJ I' room I'.R_.in1.in1 ok ⟨o1,zl kvs H' hR _ _ _ z1⟩ ⟨o2,zl kvs H' hR _ _ _ z2⟩ Gj KZ Gu hN hl Gs ry (u_ kvs H' y hR hy)
  ·rw[jK]at lK ⊢;obtain⟨a1,a2⟩:=hk kvs H' hR lK;obtain⟨b1,b2⟩:=Of (E:=X.xe) I' WQ rk lK a1;exact⟨b1,b2,a2⟩
end
open PySem.Spec PyProof.Rows
def El(s:Stmt)(j:Nat)(q:Str)(mg:Str->Option jp):ql:=match(bL s)[j]? with
 |some (.Assign _ (.Call _ _ [⟨_,.Lambda a b c _,_⟩] _) _)=>⟨q,a,b,c,(mg "__name__").getD .none⟩
 |_=>⟨q,cK s,.Constant .none 0 ⟨0,0,0,0⟩,au s,.none⟩
end L2
namespace L3
open PySem.Spec PyProof.Rows L2 L5
section
variable {c P:ww}{lp p pos kp:Pos}{ta:e_}
def Lh(Pr:Program)(w:World)(K:L6)(mg:Str->Option jp)(base:Heap)(k:Nat)(P:ww)(L:ql)(cn:List (Str×Nat))(δ:dF)(ds:List D)(M1:Mem)(Q:bR):Prop:=∃(n:Nat) (ps fv:List Str) (sp:BI) (cs:List D) (R:List D->Mem->Prop) (key:Nat->Ky),
 ds=[.int n]/\n < 64/\Kj Pr w K mg base k L ps fv sp/\gE ps fv L.scope=true/\fv=cn.map (·.1)/\cs.length=cn.length/\(∀(i:Nat) (x:Str) (j:Nat) (d:D),cn[i]?=some (x,j)->cs[i]?=some d->δ[j]?=some (some d))/\M1 P=some (.jC (.pe L.qual))/\R [] M1/\
 (∀jZ M2,R jZ M2->jZ.length < n->sp [.int (jZ.length:Nat)] cs M2 (λ k M3=>R (jZ++[k]) M3))/\
 ∀jZ M2,R jZ M2->jZ.length=n->(∀i k,jZ[i]?=some k->Kk true M2 k (key i))/\∀p out,M2 p=none->Out (λ i j=>klt (key i) (key j)) (cG 0 n) D.bw out->Q (.ref p) (ai M2 p (.lst out))
def CL(Pr:Program)(w:World)(K:L6)(mg:Str->Option jp)(base:Heap)(k:Nat)(P:ww)(L:ql)(cn:List (Str×Nat))(ta:e_):cS:=λ δ M Q=>ta δ M λ ds M1=>Lh Pr w K mg base k P L cn δ ds M1 Q
theorem MQ(hc:X.calm=true)(hr:de (k+2) X.A)(hg:Gl X "sorted")(hm:X.mg "sorted"=none)(OG:Gl X "range")(OD:X.mg "range"=none)(ha:QA X [e1] ta)(lM:X.env.code=.ref c)(B:GA X.mg X.base c P)(xl:defaultsOf L.params X.env=([],[]))(Bn:L.pm=(X.mg "__name__").getD .none)(hq:X.env.qual++"<lambda>"=L.qual) (Bq:∀n,(n,NameKind.free)∈L.scope.names->X.env.kindOf n=some .cell\/X.env.kindOf n=some .free) (Gu:∀x j,(x,j)∈cn->X.env.kindOf x=some .cell/\X.N[j]?=some x) (hN:X.N.Nodup) (hs:starEach [e1] X.env=(false,eval e1 X.env)::starEach [] X.env:=by rfl) (ht:starEach [.Call (.Name "range" p2) [e1] [] bY] X.env=[(false,eval (.Call (.Name "range" p2) [e1] [] bY) X.env)]:=by rfl) (Bm:backTo pos (starEach [.Call (.Name "range" p2) [e1] [] bY] X.env)=(false,eval (.Call (.Name "range" p2) [e1] [] bY) X.env)::backTo pos (starEach [] X.env):=by rfl) (hs2:(backTo pos (starEach [.Call (.Name "range" p2) [e1] [] bY] X.env)).any (·.1)=false:=by rfl):QE X (.Call (.Name "sorted" p) [.Call (.Name "range" p2) [e1] [] bY] [⟨some "key",.Lambda L.params L.body L.scope lp,kp⟩] pos) (CL X.prog X.w X.K X.mg X.base k P L cn ta):=by
 refine bZ (Ir (k:=k) (cn:=cn) hc hr hg hm (f' BA OG OD (by decide+kernel) ha (by decide) (by decide) hs (by rfl)) lM B xl Bn hq Bq Gu hN ht Bm hs2) ?_;rintro σ H Q ⟨δ,M,Q2,hs,hm,q,kk⟩;refine⟨δ,M,_,hs,hm,q,λ xs H1 ds M1 hd cv t1 ⟨n,ps,fv,sp,cs,R,key,e,ck,ok,Gj,KZ,hl,Gs,hP,h0,u_,hk⟩=>?_⟩;subst e;obtain⟨x,r,rfl,hx,hr⟩:=ag.mp hd;cases(ao.mp hr);cases(ax.mp hx);refine⟨(n:Int),rfl,λ r hr=>?_⟩;have m1:=cv.laid (o:=.wz 0 (n:Int)) hr;have tt:ar H1 (ci H1 r (.wz 0 (n:Int))):=ar.laid hr;let fV:List V:=cn.map λ p=>((σ[p.2]?).bind id).getD V.bw
 have at':∀(i:Nat) (x:Str) (j:Nat) (d:D),cn[i]?=some (x,j)->cs[i]?=some d->∃v,fV[i]?=some v/\σ[j]?=some (some v)/\bn X.K H d v:=λ i x j d a b=>by obtain⟨v,ev,rv⟩:=hs.get j d (Gs i x j d a b);refine⟨v,?_,ev,rv⟩;show(cn.map _)[i]?=_;rw[u7,a];show some (((σ[j]?).bind id).getD V.bw)=_;rw[ev];rfl
 have lc:fV.length=cn.length:=C1 ..;have ent:∀i x j v,cn[i]?=some (x,j)->fV[i]?=some v->σ[j]?=some (some v):=λ i x j v a b=>by have lt:=(i3.mp a).1;obtain⟨v',a1,a2,_⟩:=at' i x j _ a (i6 (show i < cs.length by lia));rw[b]at a1;cases a1;exact a2
 have Y2:aD X.K H cs fV:=zB (by lia) λ i d v a b=>by have lt:=(i3.mp a).1;obtain⟨v',a1,_,a3⟩:=at' i _ _ d (i6 (show i < cn.length by lia)) a;rw[b]at a1;cases a1;exact a3
 have tb:FU (ci H1 r (.wz 0 (n:Int))) P L.qual:=m1 P _ hP;obtain⟨tcs,eP,_⟩:=id tb;refine⟨r,n,ps,fv,_,fV,rfl,aR,ck,ok,Gj,KZ,lc,ent,tb,λ H' old XB=>?_⟩;have t2:ar (ci H1 r (.wz 0 (n:Int))) H':=⟨λ b xs e=>old b _ (λ z=>by rw[z,eP]at e;cases e) e,λ b o u e=>old b _ (λ z=>by rw[z,eP]at e;cases e) e⟩;have m2:ca X.K H' M1:=λ a o e=>by
  by_cases y:a=P
  ·subst y;rw[hP]at e;cases e;exact XB
  ·obtain⟨u,hu⟩:=(m1 a o e).there;exact(m1 a o e).mono t2 (by rw[hu];exact old a u y hu)
 have LM:=t1.trans (tt.trans t2);refine⟨λ kvs H2=>∃jZ M2,aD X.K H2 jZ kvs/\ca X.K H2 M2/\ar H' H2/\R jZ M2,key,⟨[],M1,by rw[ao],m2,ar.refl _,h0⟩,λ kvs H2 ⟨_,_,_,_,t3,_⟩ b o u e=>t3.eD b o u e,?_,?_⟩
 ·rintro kvs H2 v ⟨jZ,M2,g1,g2,t3,hR⟩ hv;have Gk:=g1.length;have lt:=(i3.mp hv).1;rw[jK]at lt;have ev:v=.int (jZ.length:Nat):=by unfold kQ at hv;rw[u7,l7 lt]at hv;have:=B6 hv;rw[<- this,<- Gk];exact K7 V.int (G7 _)
  subst ev;refine⟨[.int (jZ.length:Nat)],cs,M2,_,aD.one (ax.mpr rfl),aD.mono (LM.trans t3) _ Y2,g2,u_ jZ M2 hR (by lia),λ w H3 d3 M3 VJ OE t4 q3=>?_⟩;exact⟨jZ++[d3],M3,(aD.mono t4 jZ g1).append (aD.one VJ),OE,t3.trans t4,q3⟩
 ·rintro kvs H2 ⟨jZ,M2,g1,g2,t3,hR⟩ lK;have Gk:=g1.length;obtain⟨a1,a2⟩:=hk jZ M2 hR (by lia);refine⟨λ i w hw=>?_,λ p out hp ho=>?_⟩
  ·obtain⟨d3,e3,VJ⟩:=g1.Bs hw;exact(a1 i d3 e3).v9 VJ g2
  ·obtain⟨π,p1,p2,rfl⟩:=ho;rw[jK]at p1 p2;have rl:(cG 0 n).length=n:=bt 0 n;refine kk _ _ (.ref p) _ (aE.mpr rfl) (dM hp (rm (vj (K:=X.K) (H:=H2) 0 n) π.toList) g2) (LM.trans (t3.trans (ar.laid hp))) (a2 p _ (g2.free hp) ⟨π,by rw[rl];exact p1,by rw[rl];exact p2,rfl⟩)
end
end L3
namespace L4
open L2 L3 L5
theorem O6(h:zP X cn=true):∀x j,(x,j)∈cn->X.env.kindOf x=some .cell/\X.N[j]?=some x:=λ x j hx=>⟨(Lo h x j hx).1,(Lo h x j hx).2.1⟩
theorem Lw{c P:ww}{lp p pos kp:Pos}{ta:e_}(hc:X.calm=true)(hr:de (k+2) X.A)(hg:Gl X "sorted")(hm:X.mg "sorted"=none)(OG:Gl X "range")(OD:X.mg "range"=none)(ha:WA X [e1] ta)(lM:X.env.code=.ref c)(B:GA X.mg X.base c P)(xl:defaultsOf L.params X.env=([],[]))(Bn:L.pm=(X.mg "__name__").getD .none)(hq:X.env.qual++"<lambda>"=L.qual) (Bq:∀n,(n,NameKind.free)∈L.scope.names->X.env.kindOf n=some .cell\/X.env.kindOf n=some .free) (Gu:∀x j,(x,j)∈cn->X.env.kindOf x=some .cell/\X.N[j]?=some x) (hN:X.N.Nodup) (hs:starEach [e1] X.env=(false,eval e1 X.env)::starEach [] X.env:=by rfl) (ht:starEach [.Call (.Name "range" p2) [e1] [] bY] X.env=[(false,eval (.Call (.Name "range" p2) [e1] [] bY) X.env)]:=by rfl) (Bm:backTo pos (starEach [.Call (.Name "range" p2) [e1] [] bY] X.env)=(false,eval (.Call (.Name "range" p2) [e1] [] bY) X.env)::backTo pos (starEach [] X.env):=by rfl) (hs2:(backTo pos (starEach [.Call (.Name "range" p2) [e1] [] bY] X.env)).any (·.1)=false:=by rfl):WE X (.Call (.Name "sorted" p) [.Call (.Name "range" p2) [e1] [] bY] [⟨some "key",.Lambda L.params L.body L.scope lp,kp⟩] pos) (CL X.prog X.w X.K X.mg X.base k P L cn ta):=⟨MQ hc hr hg hm OG OD ha.h lM B xl Bn hq Bq Gu hN hs ht Bm hs2⟩
theorem Hl{Pr:Program}{P:ww}{ta:e_}{Q:bR}(h:ta δ M λ ds M1=>Lh Pr w K mg base k P L cn δ ds M1 Q):CL Pr w K mg base k P L cn ta δ M Q:=h
end L4
namespace KK
open L3 L4 L5
open L2 hiding aH
theorem wI{key:Nat->L2.Ky}{outD:List D}(h:Out (λ i j=>klt (key i) (key j)) (cG 0 n) D.bw outD):∃ord:List Nat,outD=ord.map nD/\ord.Perm (List.range n)/\ord.Pairwise (λ i j=>klt (key j) (key i)=false):=by
 obtain⟨p,p1,p2,rfl⟩:=h;rw[bt]at p1 p2;have q:p.toList.Perm (List.range n):=by have:=Array.perm_iff_toList_perm.mp p1;simpa using this
 refine⟨p.toList,m9 λ i hi=>?_,q,?_⟩
 ·have hi:=mem_range.mp (q.mem_iff.mp hi);rw[cQ,c7,u7,l7 hi];exact Ku i
 ·rw[pairwise_iff_getElem];intro i j hi hj vR;have hz:=p1.size;have Tw:j < n:=by rw[<- hz];simpa using hj
  have:=p2 i j (J6 vR) Tw;have g:∀k (hk:k < p.toList.length),pg p k=p.toList[k]:=λ k hk=>by
   rw[jR];have KW:k < p.size:=by simpa using hk
   simp[KW]
  rw[g i hi,g j hj]at this;exact this
section
variable {h m2:Nat}{q:List Row}{g:Nat->Nat}
theorem MA(G:dD m h r)(T:Tb m2 h q)(g0:g 0=0)(lt:∀x,x < m->g x < m2)(NM:∀d,d < m2->∃x,x < m/\g x=d)(st:∀x i,x < m->i < h->g (aM r i x)=aM q i (g x)):dD m2 h q:=by
 refine⟨T,⟨λ s i hi hs=>?_,λ s i j hi hj hs=>?_⟩,λ d hd=>?_⟩
 ·obtain⟨x,hx,rfl⟩:=NM s hs;rw[<- st x i hx hi];exact lt _ (G.eW.cl _ _ hi hx)
 ·obtain⟨x,hx,rfl⟩:=NM s hs;rw[<- st x j hx hj,<- st x i hx hi,<- st _ i (G.eW.cl _ _ hj hx) hi,<- st _ j (G.eW.cl _ _ hi hx) hj,G.eW.cm x i j hi hj hx]
 ·obtain⟨x,hx,rfl⟩:=NM d hd;have go:∀y,tG (aM r) h 0 y->y < m/\tG (aM q) h 0 (g y):=λ y R=>by
   induction R with
   |zero=>rw[g0];exact⟨G.tb.pos,.zero⟩
   |step R hi ih=>rw[st _ _ ih.1 hi];exact⟨G.eW.cl _ _ hi ih.1,.step ih.2 hi⟩
  exact(go x (G.BM x hx)).2
theorem FR(G:dD m h r){x y:Nat}(hx:x < m)(hy:y < m)(hi:i < h)(a:∀q:Cs,q.length=h->¬Ii r ls x y q):∀q:Cs,q.length=h->¬Ii r ls (aM r i x) (aM r i y) q:=λ q hq pq=>by
 refine a (inc q i) (by rw[iQ];exact hq) ?_;unfold Ii at pq ⊢;rw[G.eW.PM hi q 0 x (by lia) hx,G.eW.PM hi q 0 y (by lia) hy]at pq
 rwa [G.eW.inc q 0 i x (by lia) (by lia) hx,G.eW.inc q 0 i y (by lia) (by lia) hy,J1]
structure BL(f:Nat->Nat)(xs ch:List Nat):Prop where
 nd:(ch.map f).Nodup
 sub:∀c∈ch,c∈xs
 TJ:∀x∈xs,f x∈ch.map f
 hd:ch.head?=xs.head?
variable {f:Nat->Nat}{xs ch:List Nat}
theorem BL.nil(f:Nat->Nat):BL f [] []:=⟨.nil,λ c h=>h,(λ x h=>nomatch h),rfl⟩
theorem BL.skip(c:BL f xs ch){x:Nat}(hx:f x∈ch.map f):BL f (xs++[x]) ch:=by
 refine⟨c.nd,λ y hy=>k9 _ (c.sub y hy),λ y hy=>?_,?_⟩
 ·rcases C2.mp hy with z|z
  ·exact c.TJ y z
  ·rw[p8.mp z];exact hx
 ·rw[c.hd];cases xs with
  |nil=>
   have:=c.hd;cases ch with
   |nil=>cases hx
   |cons a l=>cases this
  |cons a l=>rfl
theorem BL.add(c:BL f xs ch){x:Nat}(hx:f x∉ch.map f):BL f (xs++[x]) (ch++[x]):=by
 refine⟨?_,λ y hy=>?_,λ y hy=>?_,?_⟩
 ·rw[C3];exact nodup_append.mpr ⟨c.nd,by simp,λ a ha b hb e=>hx (by rw[map_singleton,p8]at hb;rw[<- hb,<- e];exact ha)⟩
 ·rcases C2.mp hy with z|z
  ·exact k9 _ (c.sub y z)
  ·exact j7 _ z
 ·rw[C3];rcases C2.mp hy with z|z
  ·exact k9 _ (c.TJ y z)
  ·rw[p8.mp z];exact j7 _ (by simp)
 ·have:=c.hd;cases ch with
  |nil=>
   cases xs with
   |nil=>rfl
   |cons a l=>cases this
  |cons b k=>
   cases xs with
   |nil=>cases this
   |cons a l=>exact this
def BP(f:Nat->Nat)(ch:List Nat)(x:Nat):Nat:=Oo (ch.map f) (f x)
def fF(r:List Row)(h:Nat)(f:Nat->Nat)(ch:List Nat)(c:Nat):Row:=(List.range h).map λ i=>(BP f ch (aM r i c):Int)
theorem BL.tb(G:dD m h r)(c:BL f xs ch)(perm:xs.Perm (List.range m))(h0:xs.head?=some 0)(V7:∀x y i,x < m->y < m->i < h->f x=f y->f (aM r i x)=f (aM r i y)):dD ch.length h (ch.map (fF r h f ch)):=by
 have mx:∀x,x∈xs↔x < m:=λ x=>by rw[perm.mem_iff,mem_range]
 have cm:∀d,d < ch.length->∃x,ch[d]?=some x/\x < m:=λ d hd=>⟨ch[d],i6 hd,(mx _).mp (c.sub _ (A3 hd))⟩;have gl:∀x,x < m->BP f ch x < ch.length/\∃y,ch[BP f ch x]?=some y/\y < m/\f y=f x:=λ x hx=>by
  have i1:=c.TJ x ((mx x).mpr hx);have lt:BP f ch x < (ch.map f).length:=idxOf_lt_length_of_mem i1;have at':(ch.map f)[BP f ch x]?=some (f x):=by rw[i6 lt];exact K7 some (getElem_idxOf lt)
  rw[C1]at lt;refine⟨lt,?_⟩;rw[u7]at at';obtain⟨y,hy,e⟩:=Option.map_eq_some_iff.mp at';exact⟨y,hy,(mx y).mp (c.sub y (k8 hy)),e⟩
 have gd:∀d x,ch[d]?=some x->BP f ch x=d:=λ d x e=>by
  have lt:=(i3.mp e).1;have ed:(ch.map f)[d]?=some (f x):=by rw[u7,e];rfl
  have xm:=(mx x).mp (c.sub x (k8 e));obtain⟨l1,y,e1,_,e2⟩:=gl x xm;have ey:(ch.map f)[BP f ch x]?=some (f x):=by rw[u7,e1];exact K7 some e2
  exact(getElem?_inj (by rw[C1];exact l1) c.nd).mp (ey.trans ed.symm)
 have pos:0 < ch.length:=by
  have:=c.hd.trans h0;cases ch with
  |nil=>cases this
  |cons a l=>simp
 have hsz:ch.length<=m:=by
  have nd:ch.Nodup:=(pairwise_map.mp c.nd).imp λ z e=>z (by rw[e]);have:=List.Nodup.length_le_of_subset nd (l₂:=List.range m) λ z hz=>mem_range.mpr ((mx z).mp (c.sub z hz))
  rwa [x8]at this
 have ck:=G.tb.ck;have XN:∀d x i,ch[d]?=some x->i < h->aM (ch.map (fF r h f ch)) i d=BP f ch (aM r i x):=λ d x i e hi=>by
  have e1:(ch.map (fF r h f ch)).getD d []=fF r h f ch x:=by rw[c7,u7,e];rfl
  have e2:(fF r h f ch x).getD i 0=(BP f ch (aM r i x):Int):=by unfold fF;rw[c7,u7,l7 hi];rfl
  show(((ch.map (fF r h f ch)).getD d []).getD i 0).toNat=_;rw[e1,e2];exact w6 _
 have T:Tb ch.length h (ch.map (fF r h f ch)):=by refine⟨by rw[C1],pos,by lia,G.tb.xq,λ w hw=>?_⟩;obtain⟨x,hx,rfl⟩:=H0.mp hw;have xm:=(mx x).mp (c.sub x hx);refine⟨by unfold fF;rw[C1,x8],λ v hv=>?_⟩;unfold fF at hv;obtain⟨i,hi,rfl⟩:=H0.mp hv;have:=(gl _ (G.eW.cl _ _ (mem_range.mp hi) xm)).1;lia
 refine MA (g:=BP f ch) G T ?_ (λ x hx=>(gl x hx).1) (λ d hd=>?_) λ x i hx hi=>?_
 ·refine gd 0 0 ?_;have:=c.hd.trans h0;cases ch with
  |nil=>cases this
  |cons a l=>exact this
 ·obtain⟨x,e,hx⟩:=cm d hd;exact⟨x,hx,gd d x e⟩
 ·obtain⟨_,y,e1,ym,e2⟩:=gl x hx;rw[XN _ y i e1 hi];show Oo _ _=Oo _ _;rw[V7 x y i hx ym hi e2.symm]
theorem Q5(G:dD m h r){g:Nat->Cs}(hg:Pj m h r g){ord:List Nat}(perm:ord.Perm (List.range m))(up:ord.Pairwise λ i j=>klt (N_ ((g j).map kI)) (N_ ((g i).map kI))=false):ord.head?=some 0:=by
 have m0:0∈ord:=perm.mem_iff.mpr (mem_range.mpr G.tb.pos);cases ord with
 |nil=>cases m0
 |cons a l=>
  rcases G5.mp m0 with e|e
  ·rw[<- e];rfl
  ·have am:a < m:=mem_range.mp (perm.mem_iff.mp n6);have:=(pairwise_cons.mp up).1 0 e;have s0:g 0=jB h:=(hg 0 G.tb.pos).1.uniq (oZ.jB (aM r) 0 h) (by rw[(hg 0 G.tb.pos).2,fM]);have sm:∀p:Cs,(p.map kI).sum=((p.sum:Nat):Int):=λ p=>by
    induction p with
    |nil=>rfl
    |cons c p ih=>rw[G4,sum_cons,sum_cons,ih];exact(Int.natCast_add _ _).symm
   by_cases z:(g a).sum=0
   ·have:=rH z;rw[(hg a am).1.1]at this;have e2:=(hg a am).2;rw[this,fM]at e2;rw[<- e2];rfl
   ·exfalso;unfold klt N_ at this;dsimp only at this;rw[sm,sm,s0,mh,L1 (by lia)]at this;have:=q8 this;lia
end
end KK
namespace L2
open PySem.Spec PySem.W PySem.Calls PyProof.Rows L5
theorem p_{l:ww}{Q:List jp->kt->Prop}(hl:IsTup s.heap l vs.toArray) (h:Q vs {s with heap:=(s.heap.push (seqObj "list" #[] 0)).update s.heap.objs.size (Obj.mapSeq (·++vs.toArray))}) (hsz:vs.length<=sizeLine):wpAny (model prog w) A (collect (.ref l)) Q E s:=by
 obtain⟨o,ho,hc,n,hd⟩:=id hl;unfold collect;refine K1 (wpAny_runValue (B9 entry_proto_collect' ?_));show wpAny _ _ (do again (.builtin "list.__iadd__" ⟨[<- newList [],.ref l],[]⟩)) _ _ s;refine K1 (wpAny_newList (K2 ⟨Code.quiet_builtin _ (by decide+kernel),B9 entry_list_iadd' ?_⟩));show wpAny _ _ (Builtin.List.listExtendWith (.ref s.heap.objs.size) (.ref l) (.ref s.heap.objs.size)) _ _ {s with heap:=s.heap.push (seqObj "list" #[] 0)};unfold Builtin.List.listExtendWith;have pF:(s.heap.push (seqObj "list" #[] 0)).get? l=some o:=j3 _ ho;refine K1 (wpAny_typeOf (T:="tuple") ⟨o,pF,hc⟩ ?_);have ht:(Value.type "tuple"==Value.type "tuple")=true:=by rfl
 rw[K9 (by rw[ht];simp)];refine K1 (listItems_at pF hd ?_);refine K1 (listItems_at (xs:=#[]) (n:=0) (m7 _ rfl) rfl ?_);rw[L1 (by simp)];refine K1 (listUpdate_at (xs:=#[]) (n:=0) (m7 _ rfl) rfl ?_ (J9 _) (by show(#[]++vs.toArray).size<=sizeLine+1;simp only[Array.size_append,y0,length_nil];lia));refine K2 ?_;show wpAny (model prog w) A (do
   let o <- load s.heap.objs.size
   match o.data with
   | .seq xs _=>pure xs.toList
   |_=>unsupported "internal:collect") Q E {s with heap:=(s.heap.push (seqObj "list" #[] 0)).update s.heap.objs.size (Obj.mapSeq (·++vs.toArray))}
 refine K1 (wpAny_load (get?_update_seq (m7 _ rfl) _) ?_);show wpAny _ _ (pure ((#[]:Array jp)++vs.toArray).toList) Q E _;rw[show((#[]:Array jp)++vs.toArray).toList=vs by simp];exact K2 h
theorem vw:c_ X (.builtin "sorted") (λ xs H Q=>∃(a:ww) (ns:List Int),xs=[.ref a]/\gn X.K H a (ns.map V.int)/\ns.length < 64/\∀(eM:List Int) (p:ww),eM.Perm ns->eM.Pairwise (·<=·)->H p=none->Q (.ref p) (ci H p (.lst (eM.map V.int)))):=by
 intro xz s σ H xs us Q I r ⟨a,ns,e,hq,pG,q⟩;subst e;obtain⟨u,rfl,rx⟩:=vals1 r;cases(show u=Value.ref a from rx);obtain⟨ay,r',pl,hz⟩:=I.tuple hq;have hI:=ka r';have hl:=r'.length;rw[C1]at hl;refine call_function_entry kind_sorted plain_sorted entry_sorted (args_sorted1 _) ?_;unfold Builtin.«sorted»;refine K1 (m:=checkCount "sorted" 1 1 _) (K2 (K1 (p_ pl ?_ (by rw[J8];lia))));have e1:((s.heap.push (seqObj "list" #[] 0)).update s.heap.objs.size (Obj.mapSeq (·++ay.toArray))).objs.size=s.heap.objs.size+1:=by rw[A5,size_push']
 have RM:∀b o,s.heap.get? b=some o->((s.heap.push (seqObj "list" #[] 0)).update s.heap.objs.size (Obj.mapSeq (·++ay.toArray))).get? b=some o:=λ b o q=>by rw[Heap.get?_update_ne _ _ _ _ (G8 (G9 q))];exact j3 _ q
 generalize(s.heap.push (seqObj "list" #[] 0)).update s.heap.objs.size (Obj.mapSeq (·++ay.toArray))=h' at*;refine K1 (wpAny_newList ?_ (by rw[J8];lia));have Bo:(h'.push (seqObj "list" ay.toArray 0)).get? h'.objs.size=some (seqObj "list" ay.toArray 0):=m7 _ rfl;refine K1 (D4 (A0 slot_list_sort ⟨_,Bo,rfl⟩ entry_list_sort (list_sort_tree Bo hI (by lia) λ out eM a1 a2 a3=>⟨_,rfl,?_⟩) (args_list_sort _)));refine K2 ⟨_,rfl,?_⟩;obtain⟨c,Gw⟩:=sortedHeap_at (out:=out) Bo;have I0:be X xz σ H {s with heap:=h'}:=I.kept (t':=s.toks) RM;have kp:∀b o,h'.get? b=some o->(sortedHeap (h'.push (seqObj "list" ay.toArray 0)) h'.objs.size ay out).get? b=some o:=λ b o e=>by rw[sortedHeap_old (G8 (G9 e)) (by rw[size_push'];exact y4 (G9 e))];exact j3 _ e
 exact⟨.ref h'.objs.size,_,I0.laid (t':=s.toks) kp (J7 _) (show bA X.prog X.w _ _ _ (.lst (eM.map V.int))from⟨by rw[C1,a2.length_eq,J8];lia,out.toList,c,oy a1,by rw[Array.toArray_toList];exact Gw⟩),rfl,q eM _ a2 a3 (I0.bx.fresh (J7 _))⟩
end L2
namespace L3
open PySem.Spec L2 L5 PyProof.Rows
def OW:List D->Mem->bR->Prop:=λ xs M Q=>∃ns:List Int,xs=[.tup (ns.map D.int)]/\ns.length < 64/\∀(eM:List Int) (p:ww),eM.Perm ns->eM.Pairwise (·<=·)->M p=none->Q (.ref p) (ai M p (.lst (eM.map D.int)))
theorem J':dB X (.builtin "sorted") OW:=⟨_,vw,λ xs ds H M Q2 Q hd hm q k=>by
 obtain⟨ns,rfl,pG,q⟩:=q;obtain⟨x,r,rfl,hx,hr⟩:=ag.mp hd;cases(ao.mp hr);obtain⟨p,xs,rfl,hq,Gr⟩:=aZ.mp hx;rw[dC Gr]at hq;exact⟨p,ns,rfl,hq,pG,λ eM p a1 a2 hp=>k _ _ (.ref p) _ (aE.mpr rfl) (dM hp (gm eM) hm) (ar.laid hp) (q eM p a1 a2 (hm.free hp))⟩⟩
end L3
namespace KK
open L3 L4 L5
open L2 hiding aH
local macro_rules|`(tactic|walk_at "mem")=>`(tactic|first|assumption|exact af|(rw[aq (by assumption)];assumption)|(rw[aq (by assumption),aq (by assumption)];assumption)|(rw[aq (by assumption)];exact af))
local macro_rules|`(tactic|walk_at "rd1")=>`(tactic|first|(with_reducible first|refine Mf ?_|refine Dl ?_|refine yq ?_|refine Mg ?_|refine Mu ?_|refine rY ?_|refine eB ?_|refine Md ?_|refine yo ?_|refine Kv ?_|refine Qn ?_)|((with_reducible refine' nN ?k1 ?_);(case k1=>rfl))|(with_reducible first|refine Ut ?_|refine Mv ?_|refine Qp ?_|refine Mi ?_|refine HG ?_|refine kT ?_|refine my ?_|refine Mb ?_|refine Mm ?_|refine Mc ?_|refine HD ?_|refine Ds ?_|refine Mn ?_|refine Hn ?_|refine HE ?_|refine HF ?_)|((with_reducible refine' mz ?k1 ?_);(case k1=>walk_at "mem"))|(with_reducible first|refine Ma ?_|refine Qr ?_|refine Us ?_|refine yu ?_|refine Mt ?_)|((with_reducible refine Df ?k1 ?_);(case k1=>first|assumption|decide))|((with_reducible refine Ms ?k1 ?k2 ?_);(case k1=>first|assumption|decide);(case k2=>first|assumption|decide|lia))|((with_reducible refine nP ?k1 ?_);(case k1=>exact FI (by decide) (by decide)))|(with_reducible first|refine Hh ?_|refine Hs ?_|refine Dk ?_|refine Qq ?_|refine ur ?_|refine Dm ?_|refine Dp ?_)|((with_reducible refine' Dq ?k1 ?_);(case k1=>walk_at "mem"))|(with_reducible first|refine HA ?_|refine HB ?_|refine Hz ?_|refine Hq ?_|refine yr ?_|refine Hi ?_|refine Mj ?_|refine mr ?_)|((with_reducible refine' cF ?k1 ?k2 ?_);(case k1=>walk_at "mem");(case k2=>rfl))|((with_reducible refine' bp ?k2 ?_);(case k2=>rfl))|((with_reducible refine' Hv ?k1 ?_);(case k1=>walk_at "mem"))|((with_reducible refine' Me ?k1 ?k2 ?_);(case k1=>walk_at "mem");(case k2=>rfl))|(with_reducible first|refine Hk ?_|refine Hl ?_|refine Ht ?_|refine Hu ?_|refine AH ?_|refine Di ?_|refine Dj ?_|refine Hx ?_|refine Hy ?_))
local macro_rules|`(tactic|walk_at "rd")=>`(tactic|repeat(walk_at "rd1"))
local macro_rules|`(tactic|walk_at "rx")=>`(tactic|repeat(first|walk_at "rd1"|((with_reducible refine' Qo ?k1 ?_);(case k1=>exact Nat.le_of_ble_eq_true rfl))))
local macro_rules|`(tactic|rfl')=>`(tactic|walk_at "rx")
def top(i:Nat):Stmt:=PySem.Challenge.pw_lastloser_k32_tables_led.main.body.getD i (.Pass ⟨0,0,0,0⟩)
structure lR(K:L6)(mg:Str->Option jp):Prop where
 all:mg "all"=none
 any:mg "any"=none
 bool:mg "bool"=none
 enumerate:mg "enumerate"=none
 int:mg "int"=none
 isinstance:mg "isinstance"=none
 len:mg "len"=none
 list:mg "list"=none
 max:mg "max"=none
 range:mg "range"=none
 set:mg "set"=none
 sorted:mg "sorted"=none
 str:mg "str"=none
 sum:mg "sum"=none
 tuple:mg "tuple"=none
 zip:mg "zip"=none
 sP:gP K "bool"
 KQ:gP K "int"
 EM:gP K "list"
 KP:gP K "str"
 zi:gP K "tuple"
def ue:iY:=λ ds M Q=>∃ns:List Int,ds=[.fl (ns.map D.int)]/\M 123=some (.jC (.pe "_law_least.<locals>.<lambda>"))/\∀M',Q (.bl true) M'
theorem g_:aS ["_law_flow_here","_law_many","_law_cell","_law_digit"] ["_law_flow_here","_law_many"] (au (top 7)):=⟨rfl,rfl,rfl,by decide+kernel,rfl,by decide+kernel,by decide+kernel⟩
theorem IH(F:jb K "_law_pick" "_law_pick" (top 7) f fd)(T:lR K mg):cE P w K mg base fX 1 f fd ["_law_flow_here","_law_many"] (dv K gy):=by
 refine nW F g_ (λ ds M Q h=>?_) (λ dQ A outer s H E ds M Q hr h=>?_)
 ·obtain⟨a,c,n,rfl,_⟩:=h;rfl
 ·obtain⟨a,c,n,rfl,⟨ns,p,b,sd,ct,hf,hc,dP,hp,hb,Ry,Bm⟩,zk,hn1,k⟩:=h;refine⟨_,(ae (bG (mU (aI (cO hr.units) (aJ aH (ak 0) ah (λ _ _=>rfl)) ah (aG _)) (rJ (aI nX (aJ aH (ak 0) ah (λ _ _=>rfl)) (aA bW (by rfl) T.len (by decide+kernel) (aa (aJ aH (ak 0) ah (λ _ _=>rfl)) ab)) (aG _)))).pt
 (ae (aB (i:=2) g_.nd rfl (Or.inl rfl) (aJ aH (aJ aH (ak 0) ah (λ _ _=>rfl)) (aJ aH (ak 0) ah (λ _ _=>rfl)) (λ _ _=>rfl)))
 (ae (gu (bS bT (aJ aH (ak 0) ah (λ _ _=>rfl)) ah) (jc (ak 0) ah nG))
 (aj (bG (aI UN (ak 2) (bS Rf ah ah) (aG _))
 (aj (gu (ak 2) (jc (ak 0) ah nG)))
 (aj (gu (bS jU (bS bT (bS bT (bS kW (aJ aH (ak 0) ah (λ _ _=>rfl)) ah) (bS jU (ak 2) ah)) ah) ah) (jc (ak 0) ah nG)))))))
 aP)
 (ae (bG (aI Rh (aJ aH (ak 0) ah (λ _ _=>rfl)) ah (aG _))
 (ae (aB (i:=3) g_.nd rfl (Or.inl rfl) (bS jU (aJ aH (ak 0) ah (λ _ _=>rfl)) (ak 1)))
 (ae (gu (bS wM (aJ aH (ak 0) ah (λ _ _=>rfl)) (ak 1)) (jc (ak 0) ah nG))
 (aj (aL (ak 3)))))
 aP)
 (ae (gu (bS bT (aJ aH (ak 0) ah (λ _ _=>rfl)) ah) (jc (ak 0) ah nG))
 (ae (gu (bS jU (bS bT (bS bT (bS kW (aJ aH (ak 0) ah (λ _ _=>rfl)) ah) ah) (aJ aH (ak 0) ah (λ _ _=>rfl))) ah) (jc (ak 0) ah nG))
 (aj (aL (bS jU (bS wM (bS jU (bS kW (bS bT (bS jU (aJ aH (ak 0) ah (λ _ _=>rfl)) ah) ah) (bS bT (bS wM (aJ aH (ak 0) ah (λ _ _=>rfl)) ah) ah)) ah) ah) (ak 1)))))))),?_⟩
  refine gB (λ δ' M'=>∃(p b sd ct:Int) (v:Option D),δ'=[some (.ref a),some (.int n),v,none]/\M'=ai M a (.lst (Lf c p b sd ct))/\0<=p/\0<=b/\0<=sd/\sd < 2147483647) (λ N hN=>?_) ?_
  ·walk_at "rd";refine aO (λ OM=>?_) (λ OM=>?_)
   ·walk_at "rd";refine aO (λ hpl=>?_) (λ hpl=>?_)
    ·obtain⟨x,hx⟩:∃x:Int,gS (ns.map D.int) p=some (.int x):=by
      have hl:p.toNat < ns.length:=by rw[C1]at hpl;lia
      refine⟨ns[p.toNat],?_⟩;have e:((p.toNat:Nat):Int)=p:=by lia
      have q:gS (ns.map D.int) ((p.toNat:Nat):Int)=some (.int ns[p.toNat]):=bM (by simp[hl]);rw[e]at q;exact q
     walk_at "rd";refine cF hc hx ?_;walk_at "rd";refine Ur ⟨by decide,by decide,by decide⟩ ?_;walk_at "rd";refine aO (λ OK=>?_) (λ OK=>?_)
     ·walk_at "rd";rw[fb];refine hN _ _ ⟨p+1,x,sd,ct,_,rfl,rfl,by lia,?_,Ry,Bm⟩;have OK:(10:Int)^(18:Int).toNat<=x:=OK;have e:(10:Int)^(18:Int).toNat=1000000000000000000:=by decide
      lia
     ·walk_at "rd";rw[fb];refine hN _ _ ⟨p+1,b,_,ct,_,rfl,rfl,by lia,hb,B5 _ (by decide),o8 _ (by decide)⟩
    ·walk_at "rd";exact hN _ _ ⟨p,b,sd,ct,none,rfl,(qz hf).symm,hp,hb,Ry,Bm⟩
   ·walk_at "rd";exact hN _ _ ⟨p,b,sd,ct,none,rfl,(qz hf).symm,hp,hb,Ry,Bm⟩
  ·rintro δ' M' ⟨p,b,sd,ct,v,rfl,rfl,hp,hb,Ry,Bm⟩;walk_at "rd";refine aO (λ OM=>?_) (λ OM=>?_)
   ·walk_at "rd";rw[fb];refine av (k _ _ (B5 _ (by lia)) (o8 _ zk) ⟨ns,p,_,sd,ct,af,by rw[aq dP];exact hc,dP,hp,Int.ediv_nonneg hb (by lia),Ry,Bm⟩)
   ·walk_at "rd";refine nP (O7 ?_ ?_) ?_
    ·have:=B5 ((sd*48271+12820163+(ct+1)) % 2147483647) (show(65521:Int)≠0 by decide);lia
    ·have:=o8 ((sd*48271+12820163+(ct+1)) % 2147483647) (show(0:Int) < 65521 by decide);lia
    walk_at "rd";rw[fb,fb];exact av (k _ _ (B5 _ (by lia)) (o8 _ zk) ⟨ns,p,b,_,_,af,by rw[aq dP];exact hc,dP,hp,hb,B5 _ (by decide),o8 _ (by decide)⟩)
theorem ui:aS ["_law_script"] ["_law_script"] (au (top 6)):=⟨rfl,rfl,rfl,by decide+kernel,rfl,by decide+kernel,by decide+kernel⟩
theorem IQ(F:jb K "_law_flow" "_law_flow" (top 6) f fd)(T:lR K mg):cE P w K mg base fX 1 f fd ["_law_script"] (dv K yi):=by
 refine nW F ui (λ ds M Q h=>?_) (λ dQ A outer s H E ds M Q hr h=>?_)
 ·obtain⟨a,rfl,_⟩:=h;rfl
 ·obtain⟨ns,rfl,k⟩:=h;refine⟨_,(aj (aL (cU (aa (bq td (by rfl) T.list (by decide+kernel) (aa (ak 0) ab)) (aa ah (aa ah (aa ah (aa ah ab)))))))),?_⟩;walk_at "rd";refine Dh λ c Gu=>?_;walk_at "rd";refine⟨small (by show 5<=10000;decide),λ fl VE=>?_⟩;have dP:c≠fl:=λ z=>by subst z;rw[af]at VE;cases VE
  exact av (k fl c _ ⟨ns,0,0,1,0,af,by rw[aq dP];exact af,dP,by decide,by decide,by decide,by decide⟩ (bi.new (bi.new bi.rfl Gu _) VE _))
theorem rV:aS ["_law_found","_law_due_here"] ["_law_found","_law_due_here"] (au (top 9)):=⟨rfl,rfl,rfl,by decide+kernel,rfl,by decide+kernel,by decide+kernel⟩
theorem NT(F:jb K "_law_alike" "_law_alike" (top 9) f fd)(T:lR K mg)(Vw:mg "_law_alike"=some (.ref f))(OM:Binds K fd ["_law_found","_law_due_here"] []):∀k,cE P w K mg base fX (k+1) f fd ["_law_found","_law_due_here"] (dv K (CF k)):=by
 intro k
 induction k with
 |zero=>exact zo GY
 |succ k ih=>
 have eK:=bX.of F ih Vw OM;rw[show k+1+1=k+1+1 by lia];clear ih;refine nW F rV (λ ds M Q h=>?_) (λ dQ A outer s H E ds M Q hr h=>?_)
 ·obtain⟨x,y,rfl,_⟩:=h;rfl
 ·obtain⟨x,y,rfl,hs,k⟩:=h;refine⟨_,(ae (bG (aI KC (ak 1) qu (aG _))
 (aj (aL (eU KC (ak 0) qu (aG _))))
 aP)
 (ae (bG (BY (gT (aA (gO T.sP) (by rfl) T.isinstance (by decide+kernel) (aa (ak 1) (aa (lS (n:="bool") (by rfl) T.bool (by decide+kernel)) ab)))) (vY (gT (aA (gO T.sP) (by rfl) T.isinstance (by decide+kernel) (aa (ak 0) (aa (lS (n:="bool") (by rfl) T.bool (by decide+kernel)) ab)))))).pt
 (aj (aL (w_and (aA (gO T.sP) (by rfl) T.isinstance (by decide+kernel) (aa (ak 1) (aa (lS (n:="bool") (by rfl) T.bool (by decide+kernel)) ab))) (w_and (aA (gO T.sP) (by rfl) T.isinstance (by decide+kernel) (aa (ak 0) (aa (lS (n:="bool") (by rfl) T.bool (by decide+kernel)) ab))) (tW (eU (cO hr.units) (ak 0) (ak 1) (aG _)))))))
 aP)
 (ae (bG (gT (aA (gO T.KQ) (by rfl) T.isinstance (by decide+kernel) (aa (ak 1) (aa (lS (n:="int") (by rfl) T.int (by decide+kernel)) ab))))
 (aj (aL (w_and (aA (gO T.KQ) (by rfl) T.isinstance (by decide+kernel) (aa (ak 0) (aa (lS (n:="int") (by rfl) T.int (by decide+kernel)) ab))) (tW (eU (cO hr.units) (ak 0) (ak 1) (aG _))))))
 aP)
 (ae (bG (gT (aA (gO T.KP) (by rfl) T.isinstance (by decide+kernel) (aa (ak 1) (aa (lS (n:="str") (by rfl) T.str (by decide+kernel)) ab))))
 (aj (aL (w_and (aA (gO T.KP) (by rfl) T.isinstance (by decide+kernel) (aa (ak 0) (aa (lS (n:="str") (by rfl) T.str (by decide+kernel)) ab))) (tW (eU (cO hr.units) (ak 0) (ak 1) (aG _))))))
 aP)
 (ae (bG (BY (aI (jT hr.units) (aA (gO T.zi) (by rfl) T.isinstance (by decide+kernel) (aa (ak 1) (aa (lS (n:="tuple") (by rfl) T.tuple (by decide+kernel)) ab))) (aA (gO T.zi) (by rfl) T.isinstance (by decide+kernel) (aa (ak 0) (aa (lS (n:="tuple") (by rfl) T.tuple (by decide+kernel)) ab))) (aG _)) (vY (aI (jT hr.units) (aA (gO T.EM) (by rfl) T.isinstance (by decide+kernel) (aa (ak 1) (aa (lS (n:="list") (by rfl) T.list (by decide+kernel)) ab))) (aA (gO T.EM) (by rfl) T.isinstance (by decide+kernel) (aa (ak 0) (aa (lS (n:="list") (by rfl) T.list (by decide+kernel)) ab))) (aG _)))).pt
 (aj (aL GH))
 aP)
 (aj (aL (w_and (eU (cO hr.units) (aA bW (by rfl) T.len (by decide+kernel) (aa (ak 0) ab)) (aA bW (by rfl) T.len (by decide+kernel) (aa (ak 1) ab)) (aG _)) (tW (Cb (Sz rfl) GJ (by rfl) T.all (by decide+kernel) (tgs:=["_law_k"]) (fr:=[0,1]) ⟨bg (by kernel_rfl),rfl,(λ _ _ h=>h),(bu rfl T.range (aa (aA bW (by rfl) T.len (by decide+kernel) (aa (ak 1) ab)) ab)),(aQ (λ _ _ _ _ _=>(aF (i:=0) (show(["_law_k","_law_found","_law_due_here"]:List Str).Nodup by decide+kernel) rfl (Or.inl rfl))) (by decide)),(λ _ _ _ _ _=>bc),(λ _ _ _ _ _=>(aK eK (hr.mono (by lia)) (by rfl) (aa (aJ aH (ak 1) (ak 0) (λ _ _=>rfl)) (aa (aJ aH (ak 2) (ak 0) (λ _ _=>rfl)) ab))))⟩)))))))))),?_⟩
  rcases hs with⟨rfl,hx⟩|⟨ds,es,rfl,rfl,hl,hz,hs⟩|⟨p,q,ds,es,rfl,rfl,hp,hq,hl,hz,hs⟩
  ·cases x with
   |bw=>rfl';refine uq ?_;rfl';refine uq ?_;rfl';exact av k
   |bl b=>rfl';refine jL (by simp[pI]) ?_;rfl';refine bB (n:="bool") rfl (b:=true) (by decide) ?_;rfl';refine bB (n:="bool") rfl (b:=true) (by decide) ?_;rfl';refine bB (n:="bool") rfl (b:=true) (by decide) ?_;rfl';rw[C8 (rfl:b=b)];exact av k
   |int i=>rfl';refine jL (by simp[pI]) ?_;rfl';refine bB (n:="int") rfl (b:=false) (by decide) ?_;rfl';refine bB (n:="int") rfl (b:=false) (by decide) ?_;rfl';refine bB (n:="int") rfl (b:=true) (by decide) ?_;rfl';refine bB (n:="int") rfl (b:=true) (by decide) ?_;rfl';rw[C8 (rfl:i=i)];exact av k
   |str z=>rfl';refine jL (by simp[pI]) ?_;rfl';refine bB (n:="str") rfl (b:=false) (by decide) ?_;rfl';refine bB (n:="str") rfl (b:=false) (by decide) ?_;rfl';refine bB (n:="str") rfl (b:=false) (by decide) ?_;rfl';refine bB (n:="str") rfl (b:=true) (by decide) ?_;rfl';refine bB (n:="str") rfl (b:=true) (by decide) ?_;rfl';rw[C8 (rfl:z=z)];exact av k
   |_=>cases hx
  ·rfl';refine jL (by simp[pI]) ?_;rfl';refine bB (n:="tuple") rfl (b:=false) (by decide) ?_;rfl';refine bB (n:="tuple") rfl (b:=false) (by decide) ?_;rfl';refine bB (n:="tuple") rfl (b:=false) (by decide) ?_;rfl';refine bB (n:="tuple") rfl (b:=false) (by decide) ?_;rfl';refine bB (n:="tuple") rfl (b:=true) (by decide) ?_;rfl';refine bB (n:="tuple") rfl (b:=true) (by decide) ?_;rfl';refine mw (λ h=>absurd rfl h) (λ _=>?_);rfl';refine bB (n:="tuple") rfl (b:=false) (by decide) ?_;rfl';refine bB (n:="tuple") rfl (b:=false) (by decide) ?_;rfl';refine mw (λ h=>absurd rfl h) (λ _=>?_);rfl';rw[hl];refine aO (λ _=>?_) (λ hl=>absurd rfl hl);rfl';refine⟨dh (by lia) (by lia),?_⟩;rw[w6];refine jo (λ i zn M'=>M'=M/\zn=(List.replicate i true).map D.bl) ⟨rfl,rfl⟩ (λ i zn M' hi h=>?_) (λ i d zn M' hd h=>?_) (λ zn M' h=>?_)
   ·obtain⟨_,rfl⟩:=h;rw[bt]at hi;simp only[C1,k4];exact small (by lia)
   ·obtain⟨rfl,rfl⟩:=h;obtain⟨hi,rfl⟩:=dX hd;rfl';refine bp (mP (by lia)) ?_;rfl';refine bp (mP hi) ?_;refine⟨_,_,rfl,hs i _ _ (i6 (by lia)) (i6 hi),rfl,?_⟩;rw[replicate_succ',C3];rfl
   ·obtain⟨rfl,rfl⟩:=h;unfold zI;rw[oQ];show fin2 Q (.bl ((List.replicate _ true).all id)) _;rw[tE];exact av k
  ·have tp:pI M (.ref p)=some "list":=by show(bD M p).map (λ _=>"list")=_;unfold bD;rw[hp];rfl
   have tq:pI M (.ref q)=some "list":=by show(bD M q).map (λ _=>"list")=_;unfold bD;rw[hq];rfl
   rfl';refine jL (by rw[tq];simp) ?_;rfl';refine bB tq (b:=false) (by decide) ?_;rfl';refine bB tp (b:=false) (by decide) ?_;rfl';refine bB tq (b:=false) (by decide) ?_;rfl';refine bB tq (b:=false) (by decide) ?_;rfl';refine bB tq (b:=false) (by decide) ?_;rfl';refine bB tp (b:=false) (by decide) ?_;rfl';refine mw (λ h=>absurd rfl h) (λ _=>?_);rfl';refine bB tq (b:=true) (by decide) ?_;rfl';refine bB tp (b:=true) (by decide) ?_;rfl';refine mw (λ h=>absurd rfl h) (λ _=>?_);rfl';rw[hl];refine aO (λ _=>?_) (λ hl=>absurd rfl hl);rfl';refine⟨dh (by lia) (by lia),?_⟩;rw[w6];refine jo (λ i zn M'=>M'=M/\zn=(List.replicate i true).map D.bl) ⟨rfl,rfl⟩ (λ i zn M' hi h=>?_) (λ i d zn M' hd h=>?_) (λ zn M' h=>?_)
   ·obtain⟨_,rfl⟩:=h;rw[bt]at hi;simp only[C1,k4];exact small (by lia)
   ·obtain⟨rfl,rfl⟩:=h;obtain⟨hi,rfl⟩:=dX hd;rfl';refine cF hp (mP (by lia)) ?_;rfl';refine cF hq (mP hi) ?_;refine⟨_,_,rfl,hs i _ _ (i6 (by lia)) (i6 hi),rfl,?_⟩;rw[replicate_succ',C3];rfl
   ·obtain⟨rfl,rfl⟩:=h;unfold zI;rw[oQ];show fin2 Q (.bl ((List.replicate _ true).all id)) _;rw[tE];exact av k
theorem wu:aS ["_law_counts"] ["_law_counts"] (au (top 21)):=⟨rfl,rfl,rfl,by decide+kernel,rfl,by decide+kernel,by decide+kernel⟩
theorem NR(F:jb K "_law_key" "_law_key" (top 21) f fd)(T:lR K mg):cE P w K mg base fX 1 f fd ["_law_counts"] (dv K Cz):=by
 refine nW F wu (λ ds M Q h=>?_) (λ dQ A outer s H E ds M Q hr h=>?_)
 ·obtain⟨a,rfl,_⟩:=h;rfl
 ·obtain⟨as,rfl,hz,k⟩:=h;refine⟨_,(aj (aL (dA (aa (aA (Sv rfl) (by rfl) T.sum (by decide+kernel) (aa (ak 0) ab)) (aa (fh bo cw (by rfl) T.tuple (by decide+kernel) (tgs:=["_law_n"]) (fr:=[]) ⟨bg (by kernel_rfl),rfl,(λ _ _ h=>h),(cj (ak 0)),(aQ (λ _ _ _ _ _=>(aF (i:=0) (show(["_law_n"]:List Str).Nodup by decide+kernel) rfl (Or.inl rfl))) (by decide)),(λ _ _ _ _ _=>bc),(λ _ _ _ _ _=>(bS yH ah (ak 0)))⟩) ab))))),?_⟩;walk_at "rd";refine Hj ?_;walk_at "rd";refine jo (λ i zn M'=>M'=M/\zn=((as.map λ a=>0 - a).take i).map D.int) ⟨rfl,by simp⟩ (λ i zn M' hi h=>?_) (λ i d zn M' hd h=>?_) (λ zn M' h=>?_)
  ·obtain⟨_,rfl⟩:=h;rw[C1,A2];rw[C1]at hi;exact small (by lia)
  ·obtain⟨rfl,rfl⟩:=h;rw[u7]at hd;cases e:as[i]? with
   |none=>rw[e]at hd;cases hd
   |some a=>rw[e]at hd;cases hd;walk_at "rd";refine⟨rfl,?_⟩;rw[take_snoc (a:=0 - a) (by simp[e]),C3];rfl
  ·obtain⟨rfl,rfl⟩:=h;walk_at "rd";refine⟨by show 2<=sizeLine;decide,av ?_⟩;have e:(as.map λ a=>0 - a).take (as.map D.int).length=as.map λ a=>0 - a:=by rw[C1];exact take_of_length_le (by simp)
   rw[e];exact k
def CB:iY:=λ ds M Q=>∃(v lo w:Nat),ds=[.int v,.int lo,.int w]/\0 < w/\Q (.int (cnt v lo w)) M
def yg(B H:Nat):iY:=λ ds M Q=>∃(f c:ww),ds=[.ref f]/\Flow M f c/\∀(m h:Nat) (x0:List Row) (ls:Row) (M':Mem),dD m h x0->m<=B->h<=H->gs m ls->Fl f c M M'->Q (cu x0 ls) M'
theorem nF:aS ["_law_value","_law_low","_law_wide"] ["_law_value","_law_low","_law_wide"] (au (top 13)):=⟨rfl,rfl,rfl,by decide+kernel,rfl,by decide+kernel,by decide+kernel⟩
theorem NS(F:jb K "_law_counted" "_law_counted" (top 13) f fd)(T:lR K mg):cE P w K mg base fX 1 f fd ["_law_value","_law_low","_law_wide"] (dv K CB):=by
 refine nW F nF (λ ds M Q h=>?_) (λ dQ A outer s H E ds M Q hr h=>?_)
 ·obtain⟨v,lo,w,rfl,_⟩:=h;rfl
 ·obtain⟨v,lo,w,rfl,hw,k⟩:=h;refine⟨_,(ae (bG (aI nX (ak 0) (bS bT (ak 1) (ak 2)) (aG _))
 (aj (aL (ak 0)))
 aP)
 (aj (aL (bS bT (ak 1) (bS jU (bS yH (ak 0) (ak 1)) (ak 2)))))),?_⟩
  rfl';refine aO (λ hl=>?_) (λ hl=>?_)
  ·rfl';unfold cnt at k;rw[K9 (by lia)]at k;exact av k
  ·have KS:(0:Int) < w:=by lia
   rfl';unfold cnt at k;rw[L1 (by lia)]at k;rw[show(lo:Int)+((v:Int) - (lo:Int)) % (w:Int)=((lo+(v - lo) % w:Nat):Int) by
    rw[Int.natCast_add,Int.natCast_emod,Int.natCast_sub (by lia)]]
   exact av k
theorem aY:aS ["_law_flow_here","_law_low","_law_wide","_law_weights","_law_states","_law_rows","_law_row","_law_weight","_law_then"] ["_law_flow_here"] (au (top 15)):=⟨rfl,rfl,rfl,by decide+kernel,rfl,by decide+kernel,by decide+kernel⟩
theorem IJ(F:jb K "_law_long_table" "_law_long_table" (top 15) f fd)(T:lR K mg)(az:cL P w K mg base 1 "_law_pick" ["_law_flow_here","_law_many"] gy)(fU:cL P w K mg base 1 "_law_counted" ["_law_value","_law_low","_law_wide"] CB):cE P w K mg base fX 2 f fd ["_law_flow_here"] (dv K (yg 19 2)):=by
 refine nW F aY (λ ds M Q h=>?_) (λ dQ A outer s H E ds M Q hr h=>?_)
 ·obtain⟨f,c,rfl,_⟩:=h;rfl
 ·obtain⟨f,cc,rfl,hF,k⟩:=h;refine⟨_,(ae (aB (i:=1) aY.nd rfl (Or.inl rfl) (aK az (hr.mono (by decide)) (by rfl) (aa (ak 0) (aa ah ab))))
 (ae (aB (i:=2) aY.nd rfl (Or.inl rfl) (bS bT ah (aK az (hr.mono (by decide)) (by rfl) (aa (ak 0) (aa ah ab)))))
 (ae (df (i:=3) aY.nd rfl (Or.inl rfl) (tgs:=["_law_h"]) (fr:=[0]) ⟨bg (by kernel_rfl),rfl,(λ _ _ h=>h),(bu rfl T.range (aa (bS bT ah (aK az (hr.mono (by decide)) (by rfl) (aa (ak 0) (aa ah ab)))) ab)),(aQ (λ _ _ _ _ _=>(aF (i:=0) (show(["_law_h","_law_flow_here"]:List Str).Nodup by decide+kernel) rfl (Or.inl rfl))) (by decide)),(λ _ _ _ _ _=>bc),(λ _ _ _ _ _=>(aK az (hr.mono (by decide)) (by rfl) (aa (ak 1) (aa ah ab))))⟩)
 (ae (aB (i:=4) aY.nd rfl (Or.inl rfl) (cU (aa ah ab)))
 (ae (aB (i:=5) aY.nd rfl (Or.inl rfl) (cU ab))
 (ae (fg B7 (aI nX (aA bW (by rfl) T.len (by decide+kernel) (aa (ak 5) ab)) (aA bW (by rfl) T.len (by decide+kernel) (aa (ak 4) ab)) (aG _))
 (ae (aB (i:=6) aY.nd rfl (Or.inl rfl) (cU ab))
 (ae (dU B7 rfl (cj (ak 3)) (bF (i:=7) aY.nd rfl (Or.inl rfl))
 (ae (aB (i:=8) aY.nd rfl (Or.inl rfl) (aK fU (hr.mono (by decide)) (by rfl) (aa (bS bT (aJ aH (ak 4) (aA bW (by rfl) T.len (by decide+kernel) (aa (ak 5) ab)) (λ _ _=>rfl)) (ak 7)) (aa (ak 1) (aa (ak 2) ab)))))
 (ae (bG (aI (gb hr.units) (ak 8) (ak 4) rfl)
 (aj (cb (eQ i8 i5 i7 bU (ak 4) (aa (ak 8) ab))))
 aP)
 (aj (cb (eQ i8 i5 i7 bU (ak 6) (aa (eQ i8 PySem.F.slot_list_index PySem.F.type_list_index (fK hr.units) (ak 4) (aa (ak 8) ab)) ab)))))))
 (aj (cb (eQ i8 i5 i7 bU (ak 5) (aa (bq bo (by rfl) T.tuple (by decide+kernel) (aa (ak 6) ab)) ab)))))))
 (aj (aL (dA (aa (bq bo (by rfl) T.tuple (by decide+kernel) (aa (ak 5) ab)) (aa (fh bo cw (by rfl) T.tuple (by decide+kernel) (tgs:=["_law_k"]) (fr:=[0]) ⟨bg (by kernel_rfl),rfl,(λ _ _ h=>h),(bu rfl T.range (aa (aA bW (by rfl) T.len (by decide+kernel) (aa (ak 5) ab)) ab)),(aQ (λ _ _ _ _ _=>(aF (i:=0) (show(["_law_k","_law_flow_here"]:List Str).Nodup by decide+kernel) rfl (Or.inl rfl))) (by decide)),(λ _ _ _ _ _=>(iE (aI (cO hr.units) (aK az (hr.mono (by decide)) (by rfl) (aa (ak 1) (aa ah ab))) ah (aG _)))),(λ _ _ _ _ _=>(ak 0))⟩) ab))))))))))),?_⟩
  rfl';refine⟨f,cc,10,rfl,hF,by decide,by decide,λ d1 o1 JI Lc va=>?_⟩;have F1:Fl f cc M _:=Fl.pick va;generalize ai M f o1=M1 at*;obtain⟨lo,rfl⟩:∃n:Nat,d1=(n:Int):=⟨d1.toNat,by lia⟩;rfl';refine⟨f,cc,10,rfl,F1.bz,by decide,by decide,λ d2 o2 VU VT ON=>?_⟩;have F2:=F1.trans (Fl.pick ON);generalize ai M1 f o2=M2 at*;obtain⟨w,ew⟩:∃n:Nat,1+d2=(n:Int):=⟨(1+d2).toNat,by lia⟩;rfl';rw[ew];refine⟨f,cc,2,rfl,F2.bz,by decide,by decide,λ d3 o3 Zl Zk VR=>?_⟩;have F3:=F2.trans (Fl.pick VR);generalize ai M2 f o3=M3 at*;rfl';refine⟨dh (by lia) (by lia),?_⟩;rw[cQ];refine lG nD (λ ys M'=>Fl f cc M M'/\∀y∈ys,y < 3) (by rw[x8];lia) ⟨F3,λ y h=>by cases h⟩ (λ i x ys M' N hx hl hI hN=>?_) (λ ws M4 hl hI=>?_)
  ·rfl';refine⟨f,cc,3,rfl,hI.1.bz,by decide,by decide,λ d o h0 h1 Br=>?_⟩;obtain⟨y,rfl⟩:∃n:Nat,d=(n:Int):=⟨d.toNat,by lia⟩;refine hN y _ ⟨hI.1.trans (Fl.pick Br),λ z hz=>?_⟩;rcases C2.mp hz with e|e
   ·exact hI.2 z e
   ·rw[p8.mp e];lia
  ·obtain⟨F4,hw3⟩:=hI;rw[x8]at hl;intro pA xg;have F5:=F4.trans (Fl.put (o:=.lst (ws.map nD)) F4.bz xg);have KR:ai M4 pA (.lst (ws.map nD)) pA=some (.lst (ws.map nD)):=af;generalize ai M4 pA (.lst (ws.map nD))=M5 at*;rfl';intro p hp;rfl';intro q hq;have C:qp (λ _=>True) ws.length (λ i s=>cnt (s+ws.getD i 0) lo w):=⟨λ _ _ _ _=>True.intro,λ s i j _ _ _=>zL (by lia)⟩;have hU:∀i s,cnt (s+ws.getD i 0) lo w∈List.range (lo+w):=λ i s=>mem_range.mpr (FH (by lia));have X0:Sx nD (λ i s=>cnt (s+ws.getD i 0) lo w) 0 ws.length (List.range (lo+w)) p q [0] [] M5 (ai (ai M5 p (.lst [.int 0])) q (.lst [])):=by have lX:p≠q:=a_ (show ai M5 p (.lst [.int 0]) p=some _ from af) hq;refine⟨bi.new (bi.new bi.rfl hp _) hq _,hp,bi.free (bi.new bi.rfl hp _) hq,lX,?_,af,rG.start (mem_range.mpr (by lia)),by simp⟩;rw[aq lX,af];rfl
   generalize ai (ai M5 p (.lst [.int 0])) q (.lst [])=M6 at*;have hUl:(List.range (lo+w)).length<=19:=by rw[x8];lia
   generalize List.range (lo+w)=U at*;rfl';refine fu ⟨λ m δ M'=>∃(v6 v7 v8:Option D) (aW:List Nat) (x0:List Row),δ=[some (.ref f),some (.int lo),some (.int w),some (.ref pA),some (.ref p),some (.ref q),v6,v7,v8]/\Sx nD (λ i s=>cnt (s+ws.getD i 0) lo w) 0 ws.length U p q aW x0 M5 M'/\m=20 - x0.length,⟨_,none,none,none,[0],[],rfl,X0,rfl⟩,?_⟩;rintro m δ M' ⟨v6,v7,v8,aW,x0,rfl,X,rfl⟩;have hfew:=X.ck;have hst:=X.st;have pE:=X.hG;rfl';rw[C1,C1];refine aO (λ gg=>?_) (λ KY=>?_)
   ·obtain⟨s,hs⟩:∃s,aW[x0.length]?=some s:=⟨_,i6 (by lia)⟩;refine⟨λ δ' kG=>∃(v6 v7 v8:Option D) (aW:List Nat) (r:Row),δ'=[some (.ref f),some (.int lo),some (.int w),some (.ref pA),some (.ref p),some (.ref q),v6,v7,v8]/\Sx nD (λ i s=>cnt (s+ws.getD i 0) lo w) 0 ws.length U p q aW (x0++[r]) M5 kG,?_,?_⟩
    ·rintro δ' kG ⟨v6,v7,v8,aW,r,rfl,X⟩;exact⟨_,by rw[o6,j8];lia,v6,v7,v8,aW,_,rfl,X,rfl⟩
    ·rfl';intro pw EO;have fw:=X.free EO;have X1:=X.new EO (.lst []);have Ot:ai M' pw (.lst []) pw=some (.lst (([]:Row).map D.int)):=af;generalize ai M' pw (.lst [])=M7 at*;have Yt:=X1.ext _ _ KR;rfl';refine zq (ds:=ws.map nD) (λ i δ M8=>∃(v7 v8:Option D) (aW:List Nat) (r:Row),δ=[some (.ref f),some (.int lo),some (.int w),some (.ref pA),some (.ref p),some (.ref q),some (.ref pw),v7,v8]/\Sx nD (λ i s=>cnt (s+ws.getD i 0) lo w) 0 ws.length U p q aW x0 M5 M8/\M8 pw=some (.lst (r.map D.int))/\cZ (λ i s=>cnt (s+ws.getD i 0) lo w) aW s i r/\aW[x0.length]?=some s) ⟨v7,v8,aW,[],rfl,X1,Ot,cZ.nil _ _ _,hs⟩ (λ i δ M8 _ h=>?_) (λ i d δ M8 hd h=>?_) (λ δ M8 h=>?_)
     ·obtain⟨_,_,_,_,_,X,_⟩:=h;exact X.ext _ _ KR
     ·obtain⟨v7,v8,aW,r,rfl,X,hw,hr,hs⟩:=h;rw[u7]at hd;obtain⟨y,hy,rfl⟩:=Option.map_eq_some_iff.mp hd;have Gm:i < ws.length:=(i3.mp hy).1;have ey:ws.getD i 0=y:=by rw[c7,hy];rfl
      have hst:=X.st;have pE:=X.hG;rfl';rw[C1];refine cF X.st (d:=.int s) (bM (by rw[u7,hs];rfl)) ?_;rfl';refine⟨s+y,lo,w,rfl,by lia,eB ?_⟩;have OP:(0:Nat)<=60:=by decide
      have Ou:U.length<=300:=by lia
      have xk:ws.length<=12:=by lia
      with_reducible refine mj cD OP X Ou xk fw hw hr hs Gm (hU i s) ?_ ?_ ?_ (λ gx r' M' X' KS EN jD=>?_)
      ·show some (some (D.int (cnt (s+y) lo w:Nat)))=some (some (nD (cnt (s+ws.getD i 0) lo w)));rw[ey]
      ·rfl
      ·rfl
      ·exact⟨_,_,gx,r',rfl,X',KS,EN,jD⟩
     ·obtain⟨v7,v8,aW,r,rfl,X,hw,hr,hs⟩:=h;rw[C1]at hr;have hfew:=X.ck;have pE:=X.hG;rfl';refine⟨⟨rfl,_,pE⟩,?_⟩;rfl';refine bK hw ?_;rfl';refine gC pE (by rw[C1];exact p6 (show x0.length<=300 by lia) (by decide)) ?_;exact⟨_,_,_,aW,r,rfl,X.next hs hr⟩
   ·have el:x0.length=aW.length:=by have:=X.le;lia
    have TG:=X.ex.tb C True.intro el (by lia) (by lia);have F6:=F5.trans (lA X.ext F5.bz);have Zm:x0.length<=19:=by lia
    rfl';refine bK pE ?_;rfl';rw[C1];refine⟨dh (by lia) (by lia),?_⟩;rw[w6];refine jo (λ i zn M7=>∃ls:Row,zn=ls.map D.int/\gs i ls/\Fl f cc M M7) ⟨[],rfl,gs.nil 0,F6⟩ (λ i zn M7 hi h=>?_) (λ i d zn M7 hd h=>?_) (λ zn M7 h=>?_)
    ·obtain⟨ls,rfl,L,_⟩:=h;rw[bt]at hi;have:=L.ck;rw[C1];exact small (by lia)
    ·obtain⟨ls,rfl,L,F7⟩:=h;obtain⟨hi,rfl⟩:=dX hd;rfl';refine⟨f,cc,4,rfl,F7.bz,by decide,by decide,λ d o _ _ Br=>?_⟩;have F8:=F7.trans (Fl.pick Br);generalize ai M7 f o=M8 at*;rfl';refine aO (λ _=>?_) (λ _=>?_)
     ·rfl';exact⟨ls++[(i:Int)],by rw[C3,G7];rfl,L.add,F8⟩
     ·exact⟨ls,rfl,L.up,F8⟩
    ·obtain⟨ls,rfl,L,F7⟩:=h;rw[bt]at L;rfl';exact av (k _ _ x0 ls _ TG Zm (by lia) L F7)
def wj:iY:=λ ds M Q=>∃(f c:ww) (n:Nat),ds=[.ref f,.int n]/\Flow M f c/\n<=6/\∀(m:Nat) (x0:List Row) (ls:Row) (M':Mem),dD m n x0->m<=16->gs m ls->Fl f c M M'->Q (cu x0 ls) M'
theorem aU:aS ["_law_flow_here","_law_many","_law_counters","_law_weights","_law_states","_law_rows","_law_row","_law_h","_law_trios","_law_then"] ["_law_flow_here","_law_many"] (au (top 14)):=⟨rfl,rfl,rfl,by decide+kernel,rfl,by decide+kernel,by decide+kernel⟩
theorem IU(F:jb K "_law_any_table" "_law_any_table" (top 14) f fd)(T:lR K mg)(az:cL P w K mg base 1 "_law_pick" ["_law_flow_here","_law_many"] gy)(fU:cL P w K mg base 1 "_law_counted" ["_law_value","_law_low","_law_wide"] CB):cE P w K mg base fX 2 f fd ["_law_flow_here","_law_many"] (dv K wj):=by
 refine nW F aU (λ ds M Q h=>?_) (λ dQ A outer s H E ds M Q hr h=>?_)
 ·obtain⟨f,c,n,rfl,_⟩:=h;rfl
 ·obtain⟨f,cc,n,rfl,hF,hn,k⟩:=h;refine⟨_,(ae (aB (i:=2) aU.nd rfl (Or.inr rfl) (cU (aa (dA (aa (aK az (hr.mono (by decide)) (by rfl) (aa (ak 0) (aa ah ab))) (aa (bS bT ah (aK az (hr.mono (by decide)) (by rfl) (aa (ak 0) (aa ah ab)))) ab))) ab)))
 (ae (bG (aI (cO hr.units) (aK az (hr.mono (by decide)) (by rfl) (aa (ak 0) (aa ah ab))) ah (aG _))
 (aj (aB (i:=2) aU.nd rfl (Or.inr rfl) (eO (tgs:=["_law_k"]) (fr:=[0]) ⟨bg (by kernel_rfl),rfl,(λ _ _ h=>h),(bu rfl T.range (aa ah ab)),(aQ (λ _ _ _ _ _=>(aF (i:=0) (show(["_law_k","_law_flow_here"]:List Str).Nodup by decide+kernel) rfl (Or.inl rfl))) (by decide)),(λ _ _ _ _ _=>bc),(λ _ _ _ _ _=>(dA (aa (aK az (hr.mono (by decide)) (by rfl) (aa (ak 1) (aa ah ab))) (aa (bS bT ah (aK az (hr.mono (by decide)) (by rfl) (aa (ak 1) (aa ah ab)))) ab))))⟩)))
 aP)
 (ae (df (i:=3) aU.nd rfl (Or.inl rfl) (tgs:=["_law_h"]) (fr:=[0,2]) ⟨bg (by kernel_rfl),rfl,(λ _ _ h=>h),(bu rfl T.range (aa (ak 1) ab)),(aQ (λ _ _ _ _ _=>(aF (i:=0) (show(["_law_h","_law_flow_here","_law_counters"]:List Str).Nodup by decide+kernel) rfl (Or.inl rfl))) (by decide)),(λ _ _ _ _ _=>bc),(λ _ _ _ _ _=>(eO (tgs:=["_law_counter"]) (fr:=[1]) ⟨bg (by kernel_rfl),rfl,(λ _ _ h=>h),(cj (ak 2)),(aQ (λ _ _ _ _ _=>(aF (i:=0) (show(["_law_counter","_law_flow_here"]:List Str).Nodup by decide+kernel) rfl (Or.inl rfl))) (by decide)),(λ _ _ _ _ _=>bc),(λ _ _ _ _ _=>(aK az (hr.mono (by decide)) (by rfl) (aa (ak 1) (aa ah ab))))⟩))⟩)
 (ae (aB (i:=4) aU.nd rfl (Or.inl rfl) (cU (aa (bS kW (dA (aa ah ab)) (aA bW (by rfl) T.len (by decide+kernel) (aa (ak 2) ab))) ab)))
 (ae (aB (i:=5) aU.nd rfl (Or.inl rfl) (cU ab))
 (ae (fg B7 (aI nX (aA bW (by rfl) T.len (by decide+kernel) (aa (ak 5) ab)) (aA bW (by rfl) T.len (by decide+kernel) (aa (ak 4) ab)) (aG _))
 (ae (aB (i:=6) aU.nd rfl (Or.inl rfl) (cU ab))
 (ae (dU B7 rfl (bu rfl T.range (aa (ak 1) ab)) (bF (i:=7) aU.nd rfl (Or.inl rfl))
 (ae (aB (i:=8) aU.nd rfl (Or.inl rfl) (Lx rfl (by rfl) T.list (by rfl) T.zip (aa (aJ aH (ak 4) (aA bW (by rfl) T.len (by decide+kernel) (aa (ak 5) ab)) (λ _ _=>rfl)) (aa (aJ aH (ak 3) (ak 7) (λ _ _=>rfl)) (aa (ak 2) ab)))))
 (ae (aB (i:=9) aU.nd rfl (Or.inl rfl) (fh bo cw (by rfl) T.tuple (by decide+kernel) (tgs:=["_law_value","_law_weight","_law_pair"]) (fr:=[]) ⟨bg (by kernel_rfl),rfl,(λ _ _ h=>h),(cj (ak 8)),(BZ (λ _ _ _ _ _=>(kU rfl (cN (aF (i:=0) (show(["_law_value","_law_weight","_law_pair"]:List Str).Nodup by decide+kernel) rfl (Or.inl rfl)) (cN (aF (i:=1) (show(["_law_value","_law_weight","_law_pair"]:List Str).Nodup by decide+kernel) rfl (Or.inl rfl)) (cN (aF (i:=2) (show(["_law_value","_law_weight","_law_pair"]:List Str).Nodup by decide+kernel) rfl (Or.inl rfl)) iJ))))) (by decide) (by decide) (by decide)),(λ _ _ _ _ _=>bc),(λ _ _ _ _ _=>(aK fU (hr.mono (by decide)) (by rfl) (aa (bS bT (ak 0) (ak 1)) (aa (aJ aH (ak 2) ah (λ _ _=>rfl)) (aa (aJ aH (ak 2) ah (λ _ _=>rfl)) ab)))))⟩))
 (ae (bG (aI (gb hr.units) (ak 9) (ak 4) rfl)
 (aj (cb (eQ i8 i5 i7 bU (ak 4) (aa (ak 9) ab))))
 aP)
 (aj (cb (eQ i8 i5 i7 bU (ak 6) (aa (eQ i8 PySem.F.slot_list_index PySem.F.type_list_index (fK hr.units) (ak 4) (aa (ak 9) ab)) ab))))))))
 (aj (cb (eQ i8 i5 i7 bU (ak 5) (aa (bq bo (by rfl) T.tuple (by decide+kernel) (aa (ak 6) ab)) ab)))))))
 (aj (aL (dA (aa (bq bo (by rfl) T.tuple (by decide+kernel) (aa (ak 5) ab)) (aa (fh bo cw (by rfl) T.tuple (by decide+kernel) (tgs:=["_law_k"]) (fr:=[0]) ⟨bg (by kernel_rfl),rfl,(λ _ _ h=>h),(bu rfl T.range (aa (aA bW (by rfl) T.len (by decide+kernel) (aa (ak 5) ab)) ab)),(aQ (λ _ _ _ _ _=>(aF (i:=0) (show(["_law_k","_law_flow_here"]:List Str).Nodup by decide+kernel) rfl (Or.inl rfl))) (by decide)),(λ _ _ _ _ _=>(iE (aI (cO hr.units) (aK az (hr.mono (by decide)) (by rfl) (aa (ak 1) (aa ah ab))) ah (aG _)))),(λ _ _ _ _ _=>(ak 0))⟩) ab))))))))))),?_⟩
  refine gB (λ δ' M'=>∃(pc:ww) (cs:List (Nat×Nat)),δ'=[some (.ref f),some (.int n),some (.ref pc),none,none,none,none,none,none,none]/\lP cs/\M' pc=some (.lst (cs.map pD))/\pc≠f/\Fl f cc M M') (λ N hN=>?_) ?_
  ·rfl';refine⟨f,cc,4,rfl,hF,by decide,by decide,λ d1 o1 JI Lc va=>?_⟩;have F1:Fl f cc M _:=Fl.pick va;generalize ai M f o1=M1 at*;rfl';refine⟨f,cc,4,rfl,F1.bz,by decide,by decide,λ d2 o2 VU VT ON=>?_⟩;have F2:=F1.trans (Fl.pick ON);generalize ai M1 f o2=M2 at*;rfl';intro p hp;refine hN _ _ ⟨p,[(d1.toNat,(1+d2).toNat)],rfl,.inl ⟨_,_,rfl,by lia,by lia,by lia⟩,?_,(F2.bz.ne hp).1,F2.trans (Fl.put F2.bz hp)⟩;rw[af];show _=some (MO.lst [.tup [.int (d1.toNat:Int),.int ((1+d2).toNat:Int)]]);rw[show((d1.toNat:Nat):Int)=d1 by lia,show(((1+d2).toNat:Nat):Int)=1+d2 by lia]
  rintro δ' M' ⟨pc,cs,rfl,hc,sQ,dP,F2⟩;refine gB (λ δ' M'=>∃(pc:ww) (cs:List (Nat×Nat)),δ'=[some (.ref f),some (.int n),some (.ref pc),none,none,none,none,none,none,none]/\lP cs/\M' pc=some (.lst (cs.map pD))/\pc≠f/\Fl f cc M M') (λ N hN=>?_) ?_
  ·rfl';refine⟨f,cc,2,rfl,F2.bz,by decide,by decide,λ d1 o1 JI Lc va=>?_⟩;have P1:=Fl.pick va;have F3:=F2.trans P1;have sQ:=P1.mv _ _ dP sQ;generalize ai M' f o1=M3 at*;rfl';refine aO (λ _=>?_) (λ _=>?_)
   ·rfl';refine⟨dh (by lia) (by lia),?_⟩;rw[cQ];refine lG pD (λ ys M'=>Fl f cc M M'/\∀y∈ys,y.1<=2/\1<=y.2/\y.2<=2) (by decide) ⟨F3,λ y h=>by cases h⟩ (λ i x ys M' N hx hl hI hN=>?_) (λ cs M4 hl hI=>?_)
    ·rfl';refine⟨f,cc,3,rfl,hI.1.bz,by decide,by decide,λ d1 o1 JI Lc va=>?_⟩;have F4:=hI.1.trans (Fl.pick va);generalize ai M' f o1=M5 at*;rfl';refine⟨f,cc,2,rfl,F4.bz,by decide,by decide,λ d2 o2 VU VT ON=>?_⟩;have F5:=F4.trans (Fl.pick ON);generalize ai M5 f o2=M6 at*;rfl';have:=hN (d1.toNat,(1+d2).toNat) M6 ⟨F5,λ y hy=>?_⟩
     ·unfold pD at this;dsimp only at this;rw[show((d1.toNat:Nat):Int)=d1 by lia,show(((1+d2).toNat:Nat):Int)=1+d2 by lia]at this;exact this
     ·rcases C2.mp hy with e|e
      ·exact hI.2 y e
      ·rw[p8.mp e];dsimp only;lia
    ·obtain⟨F4,h4⟩:=hI;intro p hp;rfl';have hl:cs.length=2:=hl;obtain⟨a,b,rfl⟩:∃a b,cs=[a,b]:=by
      match cs,hl with
      |[a,b],_=>exact⟨a,b,rfl⟩
     have ha:=h4 a (by simp);have hb:=h4 b (by simp);exact hN _ _ ⟨p,[a,b],rfl,.inr ⟨_,_,_,_,rfl,ha.1,ha.2.1,ha.2.2,hb.1,hb.2.1,hb.2.2⟩,af,(F4.bz.ne hp).1,F4.trans (Fl.put F4.bz hp)⟩
   ·rfl';exact hN _ _ ⟨pc,cs,rfl,hc,sQ,dP,F3⟩
  clear sQ dP F2 hc M' pc cs;rintro δ' M1 ⟨pc,cs,rfl,hc,sQ,dP,F1⟩;have hbx:=hc.box;rfl';refine⟨dh (by lia) (by lia),?_⟩;rw[w6,cQ];refine lG (β:=ww×Cs) (λ y=>.ref y.1) (λ ys M'=>Fl f cc M M'/\M' pc=some (.lst (cs.map pD))/\∀y∈ys,y.1≠f/\M' y.1=some (.lst (y.2.map nD))/\y.2.length=cs.length) (by rw[x8];lia) ⟨F1,sQ,λ y h=>by cases h⟩ (λ i x ys M' N hx hl hI hN=>?_) (λ ys M4 hl hI=>?_)
  ·obtain⟨F2,sQ,vP⟩:=hI;rfl';refine vq pD nD (λ zs M'=>Fl f cc M M'/\M' pc=some (.lst (cs.map pD))/\∀y∈ys,y.1≠f/\M' y.1=some (.lst (y.2.map nD))/\y.2.length=cs.length) (by lia) ⟨F2,sQ,vP⟩ (λ _ _ h=>h.2.1) (λ i x zs M' N hx hl hI hN=>?_) (λ zs M4 hl hI=>?_)
   ·obtain⟨F3,sQ,vP⟩:=hI;rfl';refine⟨f,cc,3,rfl,F3.bz,by decide,by decide,λ d o h0 h1 Br=>?_⟩;have P:=Fl.pick Br;have:=hN d.toNat _ ⟨F3.trans P,P.mv _ _ dP sQ,λ y hy=>⟨(vP y hy).1,P.mv _ _ (vP y hy).1 (vP y hy).2.1,(vP y hy).2.2⟩⟩;unfold nD at this;rw[show((d.toNat:Nat):Int)=d by lia]at this;exact this
   ·obtain⟨F3,sQ,vP⟩:=hI;intro p hp;refine hN (p,zs) _ ⟨F3.trans (Fl.put F3.bz hp),by rw[aq (a_ sQ hp)];exact sQ,λ y hy=>?_⟩;rcases C2.mp hy with e|e
    ·have:=vP y e;exact⟨this.1,by rw[aq (a_ this.2.1 hp)];exact this.2.1,this.2.2⟩
    ·rw[p8.mp e];exact⟨(F3.bz.ne hp).1,af,hl⟩
  ·obtain⟨F4,sQ,vP⟩:=hI;rw[x8]at hl;intro pA xg;have F5:=F4.trans (Fl.put (o:=.lst (ys.map λ y=>.ref y.1)) F4.bz xg);have sQ:ai M4 pA (.lst (ys.map λ y=>.ref y.1)) pc=some (.lst (cs.map pD)):=by rw[aq (a_ sQ xg)];exact sQ
   have vP:∀y∈ys,ai M4 pA (.lst (ys.map λ y=>.ref y.1)) y.1=some (.lst (y.2.map nD))/\y.2.length=cs.length:=λ y hy=>⟨by rw[aq (a_ (vP y hy).2.1 xg)];exact(vP y hy).2.1,(vP y hy).2.2⟩;have KR:ai M4 pA (.lst (ys.map λ y=>.ref y.1)) pA=some (.lst (ys.map λ y=>.ref y.1)):=af;generalize ai M4 pA (.lst (ys.map λ y=>.ref y.1))=M5 at*;have el:(ys.map (·.2)).length=n:=by rw[C1];exact hl
   have C:=hc.eW (ws:=ys.map (·.2)) λ w hw=>by obtain⟨y,hy,rfl⟩:=H0.mp hw;exact(vP y hy).2
   rw[el]at C;have hz:jB cs.length∈tm cs:=xU hc.pos;have hU:∀i s,i < n->s.length=cs.length->stC cs ((ys.map (·.2)).getD i []) s∈tm cs:=λ i s hi hs=>ye hc.pos (by rw[c7,u7,i6 (by lia)];exact(vP _ (A3 _)).2) hs;generalize Xf:(λ i s=>stC cs ((ys.map (·.2)).getD i []) s)=F at C;rfl';rw[C1];refine C' (by lia) (by lia) ?_;rw[w6];rfl';intro p hp;rfl';intro q hq;have X0:Sx fO F (jB cs.length) n (tm cs) p q [jB cs.length] [] M5 (ai (ai M5 p (.lst [.tup (List.replicate cs.length (.int 0))])) q (.lst [])):=by have lX:p≠q:=a_ (show ai M5 p (.lst [.tup (List.replicate cs.length (.int 0))]) p=some _ from af) hq;refine⟨bi.new (bi.new bi.rfl hp _) hq _,hp,bi.free (bi.new bi.rfl hp _) hq,lX,?_,af,rG.start hz,by simp⟩;rw[aq lX,af];show _=some (MO.lst [fO (jB cs.length)]);unfold fO jB;rw[map_replicate];rfl
   generalize ai (ai M5 p (.lst [.tup (List.replicate cs.length (.int 0))])) q (.lst [])=M6 at*;rfl';refine fu ⟨λ m δ M'=>∃(v6 v7 v8 v9:Option D) (aW:List Cs) (x0:List Row),δ=[some (.ref f),some (.int n),some (.ref pc),some (.ref pA),some (.ref p),some (.ref q),v6,v7,v8,v9]/\Sx fO F (jB cs.length) n (tm cs) p q aW x0 M5 M'/\m=20 - x0.length,⟨_,none,none,none,none,_,[],rfl,X0,rfl⟩,?_⟩;rintro m δ M' ⟨v6,v7,v8,v9,aW,x0,rfl,X,rfl⟩;have hfew:=X.ck;have hst:=X.st;have pE:=X.hG;rfl';rw[C1,C1];refine aO (λ gg=>?_) (λ KY=>?_)
   ·obtain⟨s,hs⟩:∃s,aW[x0.length]?=some s:=⟨_,i6 (by lia)⟩;have Tr:s.length=cs.length:=(X.ex.BM s (k8 hs)).ok C (by simp[jB]);refine⟨λ δ' kG=>∃(v6 v7 v8 v9:Option D) (aW:List Cs) (r:Row),δ'=[some (.ref f),some (.int n),some (.ref pc),some (.ref pA),some (.ref p),some (.ref q),v6,v7,v8,v9]/\Sx fO F (jB cs.length) n (tm cs) p q aW (x0++[r]) M5 kG,?_,?_⟩
    ·rintro δ' kG ⟨v6,v7,v8,v9,aW,r,rfl,X⟩;exact⟨_,by rw[o6,j8];lia,v6,v7,v8,v9,aW,_,rfl,X,rfl⟩
    ·rfl';intro pw EO;have fw:=X.free EO;have X1:=X.new EO (.lst []);have Ot:ai M' pw (.lst []) pw=some (.lst (([]:Row).map D.int)):=af;generalize ai M' pw (.lst [])=M7 at*;rfl';refine⟨dh (by lia) (by lia),?_⟩;rw[w6];refine iw (λ i δ M8=>∃(v7 v8 v9:Option D) (aW:List Cs) (r:Row),δ=[some (.ref f),some (.int n),some (.ref pc),some (.ref pA),some (.ref p),some (.ref q),some (.ref pw),v7,v8,v9]/\Sx fO F (jB cs.length) n (tm cs) p q aW x0 M5 M8/\M8 pw=some (.lst (r.map D.int))/\cZ F aW s i r/\aW[x0.length]?=some s) ⟨v7,v8,v9,aW,[],rfl,X1,Ot,cZ.nil _ _ _,hs⟩ (λ i d δ M8 hd h=>?_) (λ δ M8 h=>?_)
     ·obtain⟨v7,v8,v9,aW,r,rfl,X,hw,hr,hs⟩:=h;obtain⟨hi,rfl⟩:=dX hd;obtain⟨y,hy⟩:∃y,ys[i]?=some y:=⟨_,i6 (by lia)⟩;have Gi:=vP y (k8 hy);have eF:F i s=stC cs y.2 s:=by rw[<- Xf];show stC cs ((ys.map (·.2)).getD i []) s=_;rw[c7,u7,hy];rfl
      have RX:F i s∈tm cs:=by rw[<- Xf];exact hU i s hi Tr
      have tz:=xY (ws:=y.2) (s:=s) Gi.2 Tr;have hst:=X.st;have pE:=X.hG;rfl';rw[C1];refine cF X.st (d:=fO s) (bM (by rw[u7,hs];rfl)) ?_;rfl';refine cF (X.ext _ _ KR) (d:=.ref y.1) (by rw[G7];exact bM (by rw[u7,hy];rfl)) ?_;rfl';refine⟨fO s,.ref y.1,.ref pc,s.map nD,y.2.map nD,cs.map pD,cs.length,rfl,rfl,dg (X.ext _ _ Gi.1),dg (X.ext _ _ sQ),by rw[C1];exact Tr,by rw[C1];exact Gi.2,by rw[C1],by lia,by lia,λ pt ER=>?_⟩;rw[tz.1];have hw:ai M8 pt (.lst ((wb cs y.2 s).map Cf)) pw=some (.lst (r.map D.int)):=by rw[aq (a_ hw ER)];exact hw
      have X:=X.new ER (.lst ((wb cs y.2 s).map Cf));have ht:ai M8 pt (.lst ((wb cs y.2 s).map Cf)) pt=some (.lst ((wb cs y.2 s).map Cf)):=af;generalize ai M8 pt (.lst ((wb cs y.2 s).map Cf))=M9 at*;rfl';have htl:=x_ (cs:=cs) (ws:=y.2) (s:=s);refine eA Cf (λ t=>nD (cnt (t.1+t.2.1) t.2.2.1 t.2.2.2)) (by lia) ht (λ j t N hj hN=>?_) ?_
      ·obtain⟨a,b,lo,w⟩:=t;have hm:=hc.pos _ (xZ (k8 hj));unfold Cf pD;rfl';exact⟨a+b,lo,w,rfl,hm,hN⟩
      ·have e9:(wb cs y.2 s).map (λ t=>nD (cnt (t.1+t.2.1) t.2.2.1 t.2.2.2))=(F i s).map nD:=by rw[eF,tz.2,H9];rfl
       rw[e9];refine eB ?_;have OP:(1:Nat)<=60:=by decide
       have Ou:(tm cs).length<=300:=by lia
       have xk:n<=12:=by lia
       with_reducible refine mj JP OP X Ou xk fw hw hr hs hi RX ?_ ?_ ?_ (λ gx r' M' X' KS EN jD=>?_)
       ·rfl
       ·rfl
       ·rfl
       ·exact⟨_,_,_,gx,r',rfl,X',KS,EN,jD⟩
     ·obtain⟨v7,v8,v9,aW,r,rfl,X,hw,hr,hs⟩:=h;rw[bt]at hr;have hfew:=X.ck;have pE:=X.hG;rfl';refine⟨⟨rfl,_,pE⟩,?_⟩;rfl';refine bK hw ?_;rfl';refine gC pE (by rw[C1];exact p6 (show x0.length<=300 by lia) (by decide)) ?_;exact⟨_,_,_,_,aW,r,rfl,X.next hs hr⟩
   ·have el:x0.length=aW.length:=by have:=X.le;lia
    have TG:=X.ex.tb C (by simp[jB]) el (by lia) (by lia);have F6:=F5.trans (lA X.ext F5.bz);have Zo:x0.length<=16:=by lia
    rfl';refine bK pE ?_;rfl';rw[C1];refine⟨dh (by lia) (by lia),?_⟩;rw[w6];refine jo (λ i zn M7=>∃ls:Row,zn=ls.map D.int/\gs i ls/\Fl f cc M M7) ⟨[],rfl,gs.nil 0,F6⟩ (λ i zn M7 hi h=>?_) (λ i d zn M7 hd h=>?_) (λ zn M7 h=>?_)
    ·obtain⟨ls,rfl,L,_⟩:=h;rw[bt]at hi;have:=L.ck;rw[C1];exact small (by lia)
    ·obtain⟨ls,rfl,L,F7⟩:=h;obtain⟨hi,rfl⟩:=dX hd;rfl';refine⟨f,cc,2,rfl,F7.bz,by decide,by decide,λ d o _ _ Br=>?_⟩;have F8:=F7.trans (Fl.pick Br);generalize ai M7 f o=M8 at*;rfl';refine aO (λ _=>?_) (λ _=>?_)
     ·rfl';exact⟨ls++[(i:Int)],by rw[C3,G7];rfl,L.add,F8⟩
     ·exact⟨ls,rfl,L.up,F8⟩
    ·obtain⟨ls,rfl,L,F7⟩:=h;rw[bt]at L;rfl';exact av (k _ x0 ls _ TG Zo L F7)
def Cu:iY:=λ ds M Q=>∃(a:ww) (sz:Cs) (l:Str),ds=[.ref a,.str l]/\M a=some (.lst (sz.map nD))/\(∀x∈sz,x < 5)/\sz.length<=6/\∀(m:Nat) (x0:List Row) (ls:Row) (M':Mem),dD m sz.length x0->m<=16->gs m ls->bi M M'->Q (cu x0 ls) M'
theorem bf:aS ["_law_sizes","_law_last","_law_states","_law_rows","_law_losing","_law_row","_law_size","_law_number","_law_great","_law_then"] ["_law_sizes","_law_last"] (au (top 10)):=⟨rfl,rfl,rfl,by decide+kernel,rfl,by decide+kernel,by decide+kernel⟩
theorem II(F:jb K "_law_nim_table" "_law_nim_table" (top 10) f fd)(T:lR K mg):cE P w K mg base fX 1 f fd ["_law_sizes","_law_last"] (dv K Cu):=by
 refine nW F bf (λ ds M Q h=>?_) (λ dQ A outer s H E ds M Q hr h=>?_)
 ·obtain⟨a,sz,l,rfl,_⟩:=h;rfl
 ·obtain⟨a,sz,l,rfl,ha,h5,h6,k⟩:=h;obtain⟨L,eL,hL⟩:∃L:Nat,(if decide (l=Str.ofString "loses")=true then(1:Int)else 0)=(L:Int)/\L<=1:=by
   by_cases z:l=Str.ofString "loses"
   ·exact⟨1,by simp[z],by lia⟩
   ·exact⟨0,by simp[z],by lia⟩
  have C:=GS (h:=sz.length) hL h5;have hz:((0,0):Nat×Nat)∈FN:=yK.mpr ⟨by decide,by decide⟩;have TB:FN.length=16:=by decide
  refine⟨_,(ae (aB (i:=2) bf.nd rfl (Or.inl rfl) (cU (aa (dA (aa ah (aa ah ab))) ab)))
 (ae (aB (i:=3) bf.nd rfl (Or.inl rfl) (cU ab))
 (ae (fg B7 (aI nX (aA bW (by rfl) T.len (by decide+kernel) (aa (ak 3) ab)) (aA bW (by rfl) T.len (by decide+kernel) (aa (ak 2) ab)) (aG _))
 (ae (gu (aJ aH (ak 2) (aA bW (by rfl) T.len (by decide+kernel) (aa (ak 3) ab)) (λ _ _=>rfl)) (kH (n:=2) rfl (cM (bF (i:=7) bf.nd rfl (Or.inl rfl)) (cM (bF (i:=8) bf.nd rfl (Or.inl rfl)) iF))))
 (ae (aB (i:=5) bf.nd rfl (Or.inl rfl) (cU ab))
 (ae (dU B7 rfl (cj (ak 0)) (bF (i:=6) bf.nd rfl (Or.inl rfl))
 (ae (aB (i:=9) bf.nd rfl (Or.inl rfl) (dA (aa (bS Rc (ak 7) (ak 6)) (aa (bS kW (aA (Sw rfl) (by rfl) T.max (by decide+kernel) (aa (ak 8) (aa (bq oO (by rfl) T.int (by decide+kernel) (aa (eU Rh (ak 6) ah (aG _)) ab)) ab))) (bq oO (by rfl) T.int (by decide+kernel) (aa (eU (cO hr.units) (ak 1) xX (aG _)) ab))) ab))))
 (ae (bG (aI (gb hr.units) (ak 9) (ak 2) rfl)
 (aj (cb (eQ i8 i5 i7 bU (ak 2) (aa (ak 9) ab))))
 aP)
 (aj (cb (eQ i8 i5 i7 bU (ak 5) (aa (eQ i8 PySem.F.slot_list_index PySem.F.type_list_index (fK hr.units) (ak 2) (aa (ak 9) ab)) ab)))))))
 (aj (cb (eQ i8 i5 i7 bU (ak 3) (aa (bq bo (by rfl) T.tuple (by decide+kernel) (aa (ak 5) ab)) ab))))))))
 (ae (df (i:=4) bf.nd rfl (Or.inl rfl) (tgs:=["_law_k","_law_state"]) (fr:=[1]) ⟨bg (by kernel_rfl),rfl,(λ _ _ h=>h),(fJ rfl T.enumerate (aa (ak 2) ab)),(jE (λ _ _ _ _ _=>(kU rfl (cN (aF (i:=0) (show(["_law_k","_law_state","_law_last"]:List Str).Nodup by decide+kernel) rfl (Or.inl rfl)) (cN (aF (i:=1) (show(["_law_k","_law_state","_law_last"]:List Str).Nodup by decide+kernel) rfl (Or.inl rfl)) iJ)))) (by decide) (by decide)),(λ _ _ _ _ _=>(iE (aI (cO hr.units) (aJ aH (ak 1) ah (λ _ _=>rfl)) (bq oO (by rfl) T.int (by decide+kernel) (aa (w_and (eU (cO hr.units) (ak 2) xX (aG _)) (tW (eU (cO hr.units) (aJ aH (ak 1) ah (λ _ _=>rfl)) ah (aG _)))) ab)) (aG _)))),(λ _ _ _ _ _=>(ak 0))⟩)
 (aj (aL (dA (aa (bq bo (by rfl) T.tuple (by decide+kernel) (aa (ak 3) ab)) (aa (bq bo (by rfl) T.tuple (by decide+kernel) (aa (ak 4) ab)) ab))))))))),?_⟩
  rfl';intro p hp;rfl';intro q hq;have X0:Sx pD (stN L sz) (0,0) sz.length FN p q [(0,0)] [] M (ai (ai M p (.lst [.tup [.int 0,.int 0]])) q (.lst [])):=by have lX:p≠q:=a_ (show ai M p (.lst [.tup [.int 0,.int 0]]) p=some _ from af) hq;refine⟨bi.new (bi.new bi.rfl hp _) hq _,hp,bi.free (bi.new bi.rfl hp _) hq,lX,?_,af,rG.start hz,by simp⟩;rw[aq lX,af];rfl
  generalize ai (ai M p (.lst [.tup [.int 0,.int 0]])) q (.lst [])=M6 at*;rfl';refine fu ⟨λ m δ M'=>∃(v5 v6 v7 v8 v9:Option D) (aW:List (Nat×Nat)) (x0:List Row),δ=[some (.ref a),some (.str l),some (.ref p),some (.ref q),none,v5,v6,v7,v8,v9]/\Sx pD (stN L sz) (0,0) sz.length FN p q aW x0 M M'/\m=20 - x0.length,⟨_,none,none,none,none,none,_,[],rfl,X0,rfl⟩,?_⟩;rintro m δ M' ⟨v5,v6,v7,v8,v9,aW,x0,rfl,X,rfl⟩;have hfew:=X.ck;rw[TB]at hfew;have hst:=X.st;have pE:=X.hG;rfl';rw[C1,C1];refine aO (λ gg=>?_) (λ KY=>?_)
  ·obtain⟨s,hs⟩:∃s,aW[x0.length]?=some s:=⟨_,i6 (by lia)⟩;have Jy:s∈FN:=X.ex.sub s (k8 hs);refine⟨λ δ' kG=>∃(v5 v6 v7 v8 v9:Option D) (aW:List (Nat×Nat)) (r:Row),δ'=[some (.ref a),some (.str l),some (.ref p),some (.ref q),none,v5,v6,v7,v8,v9]/\Sx pD (stN L sz) (0,0) sz.length FN p q aW (x0++[r]) M kG,?_,?_⟩
   ·rintro δ' kG ⟨v5,v6,v7,v8,v9,aW,r,rfl,X⟩;exact⟨_,by rw[o6,j8];lia,v5,v6,v7,v8,v9,aW,_,rfl,X,rfl⟩
   ·rfl';rw[C1];refine cF X.st (d:=.tup [.int (s.1:Int),.int (s.2:Int)]) (bM (by rw[u7,hs];rfl)) ?_;rfl';intro pw EO;have fw:=X.free EO;have X1:=X.new EO (.lst []);have Ot:ai M' pw (.lst []) pw=some (.lst (([]:Row).map D.int)):=af;generalize ai M' pw (.lst [])=M7 at*;have ha7:=X1.ext _ _ ha;rfl';refine zq (ds:=sz.map nD) (λ i δ M8=>∃(v6 v9:Option D) (aW:List (Nat×Nat)) (r:Row),δ=[some (.ref a),some (.str l),some (.ref p),some (.ref q),none,some (.ref pw),v6,some (.int (s.1:Int)),some (.int (s.2:Int)),v9]/\Sx pD (stN L sz) (0,0) sz.length FN p q aW x0 M M8/\M8 pw=some (.lst (r.map D.int))/\cZ (stN L sz) aW s i r/\aW[x0.length]?=some s) ⟨v6,v9,aW,[],rfl,X1,Ot,cZ.nil _ _ _,hs⟩ (λ i δ M8 _ h=>?_) (λ i d δ M8 hd h=>?_) (λ δ M8 h=>?_)
    ·obtain⟨_,_,_,_,_,X,_⟩:=h;exact X.ext _ _ ha
    ·obtain⟨v6,v9,aW,r,rfl,X,hw,hr,hs⟩:=h;rw[u7]at hd;obtain⟨y,hy,rfl⟩:=Option.map_eq_some_iff.mp hd;have Gm:i < sz.length:=(i3.mp hy).1;have ey:sz.getD i 0=y:=by rw[c7,hy];rfl
     have e1:max (s.2:Int) (if decide (1 < (y:Int))=true then 1 else 0)=((max s.2 (if 1 < y then 1 else 0):Nat):Int):=by
      by_cases z:1 < y
      ·rw[K9 z,K9 (by rw[decide_eq_true_iff];lia)];lia
      ·rw[L1 z,L1 (by rw[decide_eq_true_iff];lia)];lia
     rfl';rw[e1];rw[show(if decide (l="loses")=true then(1:Int)else 0)=(L:Int)from eL];have h0:((max s.2 (if 1 < y then 1 else 0):Nat):Int)*(L:Int)=((max s.2 (if 1 < y then 1 else 0)*L:Nat):Int):=by rw[Int.natCast_mul]
     refine nP (FI (by lia) (by lia)) ?_;rw[h0,xO];refine kT ⟨by show 2<=sizeLine;decide,eB ?_⟩;have OP:(1:Nat)<=60:=by decide
     have Ou:FN.length<=300:=by rw[TB];decide
     have xk:sz.length<=12:=by lia
     have RX:=C.cl s i Gm Jy
     with_reducible refine mj Fv OP X Ou xk fw hw hr hs Gm RX ?_ ?_ ?_ (λ gx r' M' X' KS EN jD=>?_)
     ·show some (some (pD (s.1^^^y,max s.2 (if 1 < y then 1 else 0)*L)))=some (some (pD (stN L sz i s)));unfold stN;rw[ey]
     ·rfl
     ·rfl
     ·exact⟨_,_,gx,r',rfl,X',KS,EN,jD⟩
    ·obtain⟨v6,v9,aW,r,rfl,X,hw,hr,hs⟩:=h;rw[C1]at hr;have hfew:=X.ck;rw[TB]at hfew;have pE:=X.hG;rfl';refine⟨⟨rfl,_,pE⟩,?_⟩;rfl';refine bK hw ?_;rfl';refine gC pE (by rw[C1];exact p6 (show x0.length<=300 by lia) (by decide)) ?_;exact⟨_,_,_,_,_,aW,r,rfl,X.next hs hr⟩
  ·have el:x0.length=aW.length:=by have:=X.le;lia
   have TG:=X.ex.tb C hz el (by lia) (by lia);rfl';refine xE (ds:=dS (aW.map pD)) (λ i zn M7=>M7=M'/\∃ls:Row,zn=ls.map D.int/\gs i ls) ⟨rfl,[],rfl,gs.nil 0⟩ (λ i zn M7 _ h=>?_) (λ i zn M7 hi h=>?_) (λ i d zn M7 hd h=>?_) (λ zn M7 h=>?_)
   ·obtain⟨rfl,_⟩:=h;show fN (.ref p) M7=_;unfold fN;rw[dg hst];rfl
   ·obtain⟨rfl,ls,rfl,L⟩:=h;rw[b_,C1]at hi;have:=L.ck;rw[C1];exact small (by lia)
   ·obtain⟨rfl,ls,rfl,L⟩:=h;obtain⟨hi,rfl⟩:=gG hd;rw[C1]at hi;obtain⟨x,hx⟩:∃x,aW[i]?=some x:=⟨_,i6 hi⟩;rw[show(aW.map pD).getD i .bw=.tup [.int (x.1:Int),.int (x.2:Int)] by rw[c7,u7,hx];rfl];have y1:∃pB:Row,ls.map D.int++[.int (i:Int)]=pB.map D.int/\gs (i+1) pB:=⟨ls++[(i:Int)],by rw[C3];rfl,L.add⟩;have y2:∃pB:Row,ls.map D.int=pB.map D.int/\gs (i+1) pB:=⟨ls,rfl,L.up⟩;rfl';refine aO (λ _=>?_) (λ _=>?_)
    ·rfl';refine aO (λ _=>?_) (λ _=>?_)
     ·rfl';exact⟨rfl,y1⟩
     ·exact⟨rfl,y2⟩
    ·rfl';refine aO (λ _=>?_) (λ _=>?_)
     ·rfl';exact⟨rfl,y1⟩
     ·exact⟨rfl,y2⟩
   ·obtain⟨rfl,ls,rfl,L⟩:=h;rw[b_,C1]at L;intro pl hpl;rfl';refine bK (by rw[aq (a_ pE hpl)];exact pE) ?_;rfl';refine bK af ?_;rfl';exact av (k _ x0 ls _ TG (by lia) (by rw[el];exact L) (X.ext.new hpl _))
def rR:iY:=λ ds M Q=>∃(f c:ww) (m h:Nat) (x0:List Row) (ls:Row),ds=[.ref f,cu x0 ls]/\Flow M f c/\dD m h x0/\m<=6/\h<=3/\(∀(m:Nat) (x0:List Row) (ls:Row) (M':Mem),dD m h x0->m<=18->gs m ls->Fl f c M M'->Q (cu x0 ls) M')
theorem L'{h:Nat}(G:Tb m h x0):gS (x0.map row) 0=some (.tup ((x0.getD 0 []).map D.int))/\(x0.getD 0 []).length=h:=by
 have h0:0 < x0.length:=by rw[G.len];exact G.pos
 rw[c7,i6 h0];exact⟨bM (j:=0) (by rw[u7,i6 h0];rfl),(G.row _ (A3 h0)).1⟩
theorem br:aS ["_law_flow_here","_law_table_here","_law_many","_law_wide","_law_weights","_law_states","_law_rows","_law_row","_law_h","_law_thing","_law_count","_law_then"] ["_law_flow_here","_law_table_here"] (au (top 11)):=⟨rfl,rfl,rfl,by decide+kernel,rfl,by decide+kernel,by decide+kernel⟩
theorem DV(F:jb K "_law_blown" "_law_blown" (top 11) f fd)(T:lR K mg)(az:cL P w K mg base 1 "_law_pick" ["_law_flow_here","_law_many"] gy):cE P w K mg base fX 2 f fd ["_law_flow_here","_law_table_here"] (dv K rR):=by
 refine nW F br (λ ds M Q h=>?_) (λ dQ A outer s H E ds M Q hr h=>?_)
 ·obtain⟨f,c,m,h,x0,ls,rfl,_⟩:=h;rfl
 ·obtain⟨f,cc,m,h,fZ,LF,rfl,hF,G,hm,hh,k⟩:=h;have KU:=L' G.tb;have pT:cu fZ LF=.tup [.tup (fZ.map row),row LF]:=rfl;rw[pT];refine⟨_,(ae (aB (i:=2) br.nd rfl (Or.inl rfl) (aA bW (by rfl) T.len (by decide+kernel) (aa (aJ aH (aJ aH (ak 1) ah (λ _ _=>rfl)) ah (λ _ _=>rfl)) ab)))
 (ae (aB (i:=3) br.nd rfl (Or.inr rfl) (bS bT ah (aK az (hr.mono (by decide)) (by rfl) (aa (ak 0) (aa ah ab)))))
 (ae (df (i:=4) br.nd rfl (Or.inl rfl) (tgs:=["_law_h"]) (fr:=[0,3]) ⟨bg (by kernel_rfl),rfl,(λ _ _ h=>h),(bu rfl T.range (aa (ak 2) ab)),(aQ (λ _ _ _ _ _=>(aF (i:=0) (show(["_law_h","_law_flow_here","_law_wide"]:List Str).Nodup by decide+kernel) rfl (Or.inl rfl))) (by decide)),(λ _ _ _ _ _=>bc),(λ _ _ _ _ _=>(aK az (hr.mono (by decide)) (by rfl) (aa (ak 1) (aa (ak 2) ab))))⟩)
 (ae (aB (i:=5) br.nd rfl (Or.inl rfl) (cU (aa (dA (aa ah (aa ah ab))) ab)))
 (ae (aB (i:=6) br.nd rfl (Or.inl rfl) (cU ab))
 (ae (fg B7 (aI nX (aA bW (by rfl) T.len (by decide+kernel) (aa (ak 6) ab)) (aA bW (by rfl) T.len (by decide+kernel) (aa (ak 5) ab)) (aG _))
 (ae (gu (aJ aH (ak 5) (aA bW (by rfl) T.len (by decide+kernel) (aa (ak 6) ab)) (λ _ _=>rfl)) (kH (n:=2) rfl (cM (bF (i:=9) br.nd rfl (Or.inl rfl)) (cM (bF (i:=10) br.nd rfl (Or.inl rfl)) iF))))
 (ae (aB (i:=7) br.nd rfl (Or.inl rfl) (cU ab))
 (ae (dU B7 rfl (bu rfl T.range (aa (ak 2) ab)) (bF (i:=8) br.nd rfl (Or.inl rfl))
 (ae (aB (i:=11) br.nd rfl (Or.inl rfl) (dA (aa (aJ aH (aJ aH (aJ aH (ak 1) ah (λ _ _=>rfl)) (ak 9) (λ _ _=>rfl)) (ak 8) (λ _ _=>rfl)) (aa (bS jU (bS bT (ak 10) (aJ aH (ak 4) (ak 8) (λ _ _=>rfl))) (ak 3)) ab))))
 (ae (bG (aI (gb hr.units) (ak 11) (ak 5) rfl)
 (aj (cb (eQ i8 i5 i7 bU (ak 5) (aa (ak 11) ab))))
 aP)
 (aj (cb (eQ i8 i5 i7 bU (ak 7) (aa (eQ i8 PySem.F.slot_list_index PySem.F.type_list_index (fK hr.units) (ak 5) (aa (ak 11) ab)) ab)))))))
 (aj (cb (eQ i8 i5 i7 bU (ak 6) (aa (bq bo (by rfl) T.tuple (by decide+kernel) (aa (ak 7) ab)) ab))))))))
 (aj (aL (dA (aa (bq bo (by rfl) T.tuple (by decide+kernel) (aa (ak 6) ab)) (aa (fh bo cw (by rfl) T.tuple (by decide+kernel) (tgs:=["_law_k","_law_state"]) (fr:=[1]) ⟨bg (by kernel_rfl),rfl,(λ _ _ h=>h),(fJ rfl T.enumerate (aa (ak 5) ab)),(jE (λ _ _ _ _ _=>(kU rfl (cN (aF (i:=0) (show(["_law_k","_law_state","_law_table_here"]:List Str).Nodup by decide+kernel) rfl (Or.inl rfl)) (cN (aF (i:=1) (show(["_law_k","_law_state","_law_table_here"]:List Str).Nodup by decide+kernel) rfl (Or.inl rfl)) iJ)))) (by decide) (by decide)),(λ _ _ _ _ _=>(iE (aI (nY hr.units) (aJ aH (ak 1) ah (λ _ _=>rfl)) (aJ aH (ak 2) ah (λ _ _=>rfl)) rfl))),(λ _ _ _ _ _=>(ak 0))⟩) ab))))))))))),?_⟩
  rfl';refine bp KU.1 ?_;rfl';rw[C1,KU.2];refine⟨f,cc,2,rfl,hF,by decide,by decide,λ d1 o1 JI Lc va=>?_⟩;have F1:Fl f cc M _:=Fl.pick va;generalize ai M f o1=M1 at*;obtain⟨w,ew⟩:∃n:Nat,2+d1=(n:Int):=⟨(2+d1).toNat,by lia⟩;rfl';rw[ew];refine⟨dh (by lia) (by lia),?_⟩;rw[w6,cQ];refine lG nD (λ ys M'=>Fl f cc M M') (by rw[x8];lia) F1 (λ i x ys M' N hx hl hI hN=>?_) (λ ws M4 hl F4=>?_)
  ·rfl';refine⟨f,cc,w,rfl,hI.bz,by lia,by lia,λ d o h0 h1 Br=>?_⟩;obtain⟨y,rfl⟩:∃n:Nat,d=(n:Int):=⟨d.toNat,by lia⟩;exact hN y _ (hI.trans (Fl.pick Br))
  rw[x8]at hl;intro pA xg;have F5:=F4.trans (Fl.put (o:=.lst (ws.map nD)) F4.bz xg);have KR:ai M4 pA (.lst (ws.map nD)) pA=some (.lst (ws.map nD)):=af;generalize ai M4 pA (.lst (ws.map nD))=M5 at*;have WO:0 < w:=by lia
  have C:=GU (ws:=ws) G WO;have hz:((0,0):Nat×Nat)∈BE m w:=mD.mpr ⟨G.tb.pos,WO⟩;have TB:(BE m w).length<=18:=by rw[Kb];exact J0 (Nat.mul_le_mul hm (show w<=3 by lia)) (by decide)
  rfl';intro p hp;rfl';intro q hq;have X0:Sx pD (Pp fZ w ws) (0,0) h (BE m w) p q [(0,0)] [] M5 (ai (ai M5 p (.lst [.tup [.int 0,.int 0]])) q (.lst [])):=by have lX:p≠q:=a_ (show ai M5 p (.lst [.tup [.int 0,.int 0]]) p=some _ from af) hq;refine⟨bi.new (bi.new bi.rfl hp _) hq _,hp,bi.free (bi.new bi.rfl hp _) hq,lX,?_,af,rG.start hz,by simp⟩;rw[aq lX,af];rfl
  generalize ai (ai M5 p (.lst [.tup [.int 0,.int 0]])) q (.lst [])=M6 at*;rfl';refine fu ⟨λ m' δ M'=>∃(v7 v8 v9 v10 v11:Option D) (aW:List (Nat×Nat)) (x0:List Row),δ=[some (.ref f),some (.tup [.tup (fZ.map row),row LF]),some (.int h),some (.int w),some (.ref pA),some (.ref p),some (.ref q),v7,v8,v9,v10,v11]/\Sx pD (Pp fZ w ws) (0,0) h (BE m w) p q aW x0 M5 M'/\m'=20 - x0.length,⟨_,none,none,none,none,none,_,[],rfl,X0,rfl⟩,?_⟩;rintro m' δ M' ⟨v7,v8,v9,v10,v11,aW,x0,rfl,X,rfl⟩;have hfew:=X.ck;have hst:=X.st;have pE:=X.hG;rfl';rw[C1,C1];refine aO (λ gg=>?_) (λ KY=>?_)
  ·obtain⟨s,hs⟩:∃s,aW[x0.length]?=some s:=⟨_,i6 (by lia)⟩;have Jy:s∈BE m w:=X.ex.sub s (k8 hs);have Bm:=(mD.mp Jy).1;refine⟨λ δ' kG=>∃(v7 v8 v9 v10 v11:Option D) (aW:List (Nat×Nat)) (r:Row),δ'=[some (.ref f),some (.tup [.tup (fZ.map row),row LF]),some (.int h),some (.int w),some (.ref pA),some (.ref p),some (.ref q),v7,v8,v9,v10,v11]/\Sx pD (Pp fZ w ws) (0,0) h (BE m w) p q aW (x0++[r]) M5 kG,?_,?_⟩
   ·rintro δ' kG ⟨v7,v8,v9,v10,v11,aW,r,rfl,X⟩;exact⟨_,by rw[o6,j8];lia,v7,v8,v9,v10,v11,aW,_,rfl,X,rfl⟩
   ·rfl';rw[C1];refine cF X.st (d:=.tup [.int (s.1:Int),.int (s.2:Int)]) (bM (by rw[u7,hs];rfl)) ?_;rfl';intro pw EO;have fw:=X.free EO;have X1:=X.new EO (.lst []);have Ot:ai M' pw (.lst []) pw=some (.lst (([]:Row).map D.int)):=af;generalize ai M' pw (.lst [])=M7 at*;rfl';refine⟨dh (by lia) (by lia),?_⟩;rw[w6];refine iw (λ i δ M8=>∃(v8 v11:Option D) (aW:List (Nat×Nat)) (r:Row),δ=[some (.ref f),some (.tup [.tup (fZ.map row),row LF]),some (.int h),some (.int w),some (.ref pA),some (.ref p),some (.ref q),some (.ref pw),v8,some (.int (s.1:Int)),some (.int (s.2:Int)),v11]/\Sx pD (Pp fZ w ws) (0,0) h (BE m w) p q aW x0 M5 M8/\M8 pw=some (.lst (r.map D.int))/\cZ (Pp fZ w ws) aW s i r/\aW[x0.length]?=some s) ⟨v8,v11,aW,[],rfl,X1,Ot,cZ.nil _ _ _,hs⟩ (λ i d δ M8 hd h=>?_) (λ δ M8 h=>?_)
    ·obtain⟨v8,v11,aW,r,rfl,X,hw,hr,hs⟩:=h;obtain⟨hi,rfl⟩:=dX hd;have ta:=wc G.tb Bm hi;rfl';refine bp (d:=.tup ((fZ.getD s.1 []).map D.int)) ta.1 ?_;rfl';rw[G7];refine bp ta.2 ?_;rfl';refine cF (X.ext _ _ KR) (d:=.int (ws.getD i 0:Nat)) (bM (by rw[u7,i6 (by lia),c7,i6 (by lia)];rfl)) ?_;have Va:(0:Int) < (w:Int):=by lia
     refine ur (nN rfl (Df Va (kT ⟨by show 2<=sizeLine;decide,eB ?_⟩)));have OP:(1:Nat)<=60:=by decide
     have Ou:(BE m w).length<=300:=by lia
     have xk:h<=12:=by lia
     have RX:=C.cl s i hi Jy
     with_reducible refine mj Fv OP X Ou xk fw hw hr hs hi RX ?_ ?_ ?_ (λ gx r' M' X' KS EN jD=>?_)
     ·show some (some (D.tup [.int (aM fZ i s.1:Nat),.int (((s.2:Int)+(ws.getD i 0:Nat)) % (w:Int))]))=some (some (D.tup [.int (aM fZ i s.1:Nat),.int (((s.2+ws.getD i 0) % w:Nat):Int)]));rw[Int.natCast_emod,Int.natCast_add]
     ·rfl
     ·rfl
     ·exact⟨_,_,gx,r',rfl,X',KS,EN,jD⟩
    ·obtain⟨v8,v11,aW,r,rfl,X,hw,hr,hs⟩:=h;rw[bt]at hr;have hfew:=X.ck;have pE:=X.hG;rfl';refine⟨⟨rfl,_,pE⟩,?_⟩;rfl';refine bK hw ?_;rfl';refine gC pE (by rw[C1];exact p6 (show x0.length<=300 by lia) (by decide)) ?_;exact⟨_,_,_,_,_,aW,r,rfl,X.next hs hr⟩
  ·have el:x0.length=aW.length:=by have:=X.le;lia
   have TG:=X.ex.tb C hz el (by lia) (by lia);have F6:=F5.trans (lA X.ext F5.bz);rfl';refine bK pE ?_;rfl';refine xE (ds:=dS (aW.map pD)) (λ i zn M7=>M7=M'/\∃ls:Row,zn=ls.map D.int/\gs i ls) ⟨rfl,[],rfl,gs.nil 0⟩ (λ i zn M7 _ h=>?_) (λ i zn M7 hi h=>?_) (λ i d zn M7 hd h=>?_) (λ zn M7 h=>?_)
   ·obtain⟨rfl,_⟩:=h;show fN (.ref p) M7=_;unfold fN;rw[dg hst];rfl
   ·obtain⟨rfl,ls,rfl,L⟩:=h;rw[b_,C1]at hi;have:=L.ck;rw[C1];exact small (by lia)
   ·obtain⟨rfl,ls,rfl,L⟩:=h;obtain⟨hi,rfl⟩:=gG hd;rw[C1]at hi;obtain⟨x,hx⟩:∃x,aW[i]?=some x:=⟨_,i6 hi⟩;rw[show(aW.map pD).getD i .bw=.tup [.int (x.1:Int),.int (x.2:Int)] by rw[c7,u7,hx];rfl];have y1:∃pB:Row,ls.map D.int++[.int (i:Int)]=pB.map D.int/\gs (i+1) pB:=⟨ls++[(i:Int)],by rw[C3];rfl,L.add⟩;have y2:∃pB:Row,ls.map D.int=pB.map D.int/\gs (i+1) pB:=⟨ls,rfl,L.up⟩;rfl';refine rX (k:=0) (b:=decide ((x.1:Int)∈LF)) (ds:=LF.map D.int) rfl (cI 0 _) (dY λ x _=>cI 0 _) (by decide) (by rw[decide_eq_true_iff];exact(sr (enc:=D.int) (λ a b z=>D.int.inj z) _).symm) ?_;refine aO (λ _=>?_) (λ _=>?_)
    ·rfl';exact⟨rfl,y1⟩
    ·exact⟨rfl,y2⟩
   ·obtain⟨rfl,ls,rfl,L⟩:=h;rw[b_,C1]at L;rfl';exact av (k _ x0 ls _ TG (by lia) (by rw[el];exact L) F6)
def Cr:iY:=λ ds M Q=>∃(f c a:ww) (ns:List Nat),ds=[.ref f,.ref a]/\Flow M f c/\M a=some (.lst (ns.map nD))/\ns.length<=300/\∀(p:ww) (eM:List Nat) (M':Mem),eM.Perm ns->M p=none->M' p=some (.lst (eM.map nD))->Fl f c M M'->Q (.ref p) M'
def Ct:iY:=λ ds M Q=>∃(f c:ww) (m h:Nat) (x0:List Row) (ls:Row),ds=[.ref f,cu x0 ls]/\Flow M f c/\dD m h x0/\m<=60/\gs m ls/\∀(x0:List Row) (ls:Row) (M':Mem),dD m h x0->gs m ls->Fl f c M M'->Q (cu x0 ls) M'
theorem eR:aS ["_law_flow_here","_law_things","_law_left","_law_told"] ["_law_flow_here","_law_things"] (au (top 8)):=⟨rfl,rfl,rfl,by decide+kernel,rfl,by decide+kernel,by decide+kernel⟩
theorem IG(F:jb K "_law_shuffled" "_law_shuffled" (top 8) f fd)(T:lR K mg)(az:cL P w K mg base 1 "_law_pick" ["_law_flow_here","_law_many"] gy):cE P w K mg base fX 2 f fd ["_law_flow_here","_law_things"] (dv K Cr):=by
 refine nW F eR (λ ds M Q h=>?_) (λ dQ A outer s H E ds M Q hr h=>?_)
 ·obtain⟨f,c,a,ns,rfl,_⟩:=h;rfl
 ·obtain⟨f,cc,a,ns,rfl,hF,ha,hl,k⟩:=h;refine⟨_,(ae (aB (i:=2) eR.nd rfl (Or.inl rfl) (bq td (by rfl) T.list (by decide+kernel) (aa (ak 1) ab)))
 (ae (aB (i:=3) eR.nd rfl (Or.inl rfl) (cU ab))
 (ae (fg B7 (aI (jT hr.units) (ak 2) (cU ab) (aG _))
 (aj (cb (eQ i8 i5 i7 bU (ak 3) (aa (eQ i8 PySem.F.slot_list_pop PySem.F.type_list_pop KI (ak 2) (aa (aK az (hr.mono (by decide)) (by rfl) (aa (ak 0) (aa (aA bW (by rfl) T.len (by decide+kernel) (aa (ak 2) ab)) ab))) ab)) ab)))))
 (aj (aL (ak 3)))))),?_⟩
  rfl';refine Dg ha λ p hp=>?_;rfl';intro q hq;have lX:p≠q:=a_ (show ai M p (.lst (ns.map nD)) p=some _ from af) hq;have Vl:M q=none:=bi.free (bi.new bi.rfl hp _) hq;have pf:=(hF.ne hp).1;have qf:=(hF.ne Vl).1;have F0:Fl f cc M (ai (ai M p (.lst (ns.map nD))) q (.lst [])):=lA (bi.new (bi.new bi.rfl hp _) hq _) hF;have h1:ai (ai M p (.lst (ns.map nD))) q (.lst []) p=some (.lst (ns.map nD)):=by rw[aq lX,af]
  have h2:ai (ai M p (.lst (ns.map nD))) q (.lst []) q=some (.lst (([]:List Nat).map nD)):=af;generalize ai (ai M p (.lst (ns.map nD))) q (.lst [])=M2 at*;rfl';refine fu ⟨λ m δ M'=>∃(xs ys:List Nat),δ=[some (.ref f),some (.ref a),some (.ref p),some (.ref q)]/\M' p=some (.lst (xs.map nD))/\M' q=some (.lst (ys.map nD))/\(ys++xs).Perm ns/\Fl f cc M M'/\m=xs.length,⟨_,ns,[],rfl,h1,h2,.refl _,F0,rfl⟩,?_⟩;rintro m δ M' ⟨xs,ys,rfl,h1,h2,qU,F1,rfl⟩;have hlen:=qU.length_eq;rw[o6]at hlen;rfl';intro e he;refine mq (k:=0) (b:=decide (xs=[])) (by rw[aq (a_ h1 he)];exact h1) af (dY λ x _=>cI 0 _) (λ e he=>by cases he) (by decide) (Ec (by rw[decide_eq_true_iff])) ?_;have h1:ai M' e (.lst []) p=some (.lst (xs.map nD)):=by rw[aq (a_ h1 he)];exact h1
  have h2:ai M' e (.lst []) q=some (.lst (ys.map nD)):=by rw[aq (a_ h2 he)];exact h2
  have F1:=F1.trans (Fl.put (o:=.lst []) F1.bz he);generalize ai M' e (.lst [])=M3 at*;refine eC (λ hn=>?_) (λ hn=>?_)
  ·have hn:xs≠[]:=by simpa using hn
   have Oz:0 < xs.length:=length_pos_iff.mpr hn;refine⟨λ δ' M'=>∃(Kl SQ:List Nat),δ'=[some (.ref f),some (.ref a),some (.ref p),some (.ref q)]/\M' p=some (.lst (Kl.map nD))/\M' q=some (.lst (SQ.map nD))/\(SQ++Kl).Perm ns/\Fl f cc M M'/\Kl.length < xs.length,?_,?_⟩
   ·rintro δ' M' ⟨Kl,SQ,rfl,a1,a2,a3,a4,a5⟩;exact⟨_,a5,Kl,SQ,rfl,a1,a2,a3,a4,rfl⟩
   ·rfl';refine⟨⟨rfl,_,h2⟩,?_⟩;rfl';refine⟨⟨rfl,_,h1⟩,?_⟩;rfl';rw[C1];refine⟨f,cc,xs.length,rfl,F1.bz,by lia,by lia,λ d o h0 JI Br=>?_⟩;have P:=Fl.pick Br;have F2:=F1.trans P;have h1:=P.mv _ _ pf h1;have h2:=P.mv _ _ qf h2;generalize ai M3 f o=M4 at*;obtain⟨j,rfl⟩:∃n:Nat,d=(n:Int):=⟨d.toNat,by lia⟩;have hj:j < xs.length:=by lia
    rfl';refine C_ h1 (y:=nD xs[j]) (by rw[u7,i6 hj];rfl) (by rw[C1];lia) ?_;rfl';refine gC (ds:=ys.map nD) (by rw[aq (K8 lX)];exact h2) (by rw[C1];exact p6 (show ys.length<=300 by lia) (by decide)) ?_;refine⟨xs.eraseIdx j,ys++[xs[j]],rfl,?_,?_,?_,(F2.own hF hp).own hF Vl,?_⟩
    ·rw[aq lX,af,yL]
    ·rw[af,C3];rfl
    ·refine List.Perm.trans ?_ qU;rw[x4];refine List.Perm.append_left _ ?_;exact uC hj
    ·rw[length_eraseIdx_of_lt hj];lia
  ·have hn:xs=[]:=by simpa using hn
   subst hn;rw[B0]at qU;rfl';exact av (k q ys _ qU Vl h2 F1)
theorem dJ:aS ["_law_flow_here","_law_table_here","_law_order","_law_rows"] ["_law_flow_here","_law_table_here"] (au (top 12)):=⟨rfl,rfl,rfl,by decide+kernel,rfl,by decide+kernel,by decide+kernel⟩
theorem NO(F:jb K "_law_renumbered" "_law_renumbered" (top 12) f fd)(T:lR K mg)(oK:cL P w K mg base 2 "_law_shuffled" ["_law_flow_here","_law_things"] Cr):cE P w K mg base fX 3 f fd ["_law_flow_here","_law_table_here"] (dv K Ct):=by
 refine nW F dJ (λ ds M Q h=>?_) (λ dQ A outer s H E ds M Q hr h=>?_)
 ·obtain⟨f,c,m,h,x0,ls,rfl,_⟩:=h;rfl
 ·obtain⟨f,cc,m,h,x0,ls,rfl,hF,G,hm,L,k⟩:=h;have pT:cu x0 ls=.tup [.tup (x0.map row),row ls]:=rfl;rw[pT];have pP:=G.tb.len;have Oz:=G.tb.pos;refine⟨_,(ae (aB (i:=2) dJ.nd rfl (Or.inr rfl) (bS bT (cU (aa ah ab)) (aK oK (hr.mono (by decide)) (by rfl) (aa (ak 0) (aa (Ly rfl (by rfl) T.list (by rfl) T.range (aa ah (aa (aA bW (by rfl) T.len (by decide+kernel) (aa (aJ aH (ak 1) ah (λ _ _=>rfl)) ab)) ab))) ab)))))
 (ae (df (i:=3) dJ.nd rfl (Or.inl rfl) (tgs:=["_law_x"]) (fr:=[2,1]) ⟨bg (by kernel_rfl),rfl,(λ _ _ h=>h),(cj (ak 2)),(aQ (λ _ _ _ _ _=>(aF (i:=0) (show(["_law_x","_law_order","_law_table_here"]:List Str).Nodup by decide+kernel) rfl (Or.inl rfl))) (by decide)),(λ _ _ _ _ _=>bc),(λ _ _ _ _ _=>(fh bo cw (by rfl) T.tuple (by decide+kernel) (tgs:=["_law_y"]) (fr:=[1]) ⟨bg (by kernel_rfl),rfl,(λ _ _ h=>h),(cj (aJ aH (aJ aH (ak 2) ah (λ _ _=>rfl)) (ak 0) (λ _ _=>rfl))),(aQ (λ _ _ _ _ _=>(aF (i:=0) (show(["_law_y","_law_order"]:List Str).Nodup by decide+kernel) rfl (Or.inl rfl))) (by decide)),(λ _ _ _ _ _=>bc),(λ _ _ _ _ _=>(eQ i8 PySem.F.slot_list_index PySem.F.type_list_index (fK hr.units) (ak 1) (aa (ak 0) ab)))⟩))⟩)
 (aj (aL (dA (aa (bq bo (by rfl) T.tuple (by decide+kernel) (aa (ak 3) ab)) (aa (bq bo (by rfl) T.tuple (by decide+kernel) (aa (aA (Ka rfl) (by rfl) T.sorted (by decide+kernel) (aa (eO (tgs:=["_law_x"]) (fr:=[2]) ⟨bg (by kernel_rfl),rfl,(λ _ _ h=>h),(cj (aJ aH (ak 1) ah (λ _ _=>rfl))),(aQ (λ _ _ _ _ _=>(aF (i:=0) (show(["_law_x","_law_order"]:List Str).Nodup by decide+kernel) rfl (Or.inl rfl))) (by decide)),(λ _ _ _ _ _=>bc),(λ _ _ _ _ _=>(eQ i8 PySem.F.slot_list_index PySem.F.type_list_index (fK hr.units) (ak 1) (aa (ak 0) ab)))⟩) ab)) ab)) ab))))))),?_⟩
  rfl';intro p0 RD;have F0:=Fl.put (o:=.lst [.int 0]) hF RD;have h0:ai M p0 (.lst [.int 0]) p0=some (.lst [.int 0]):=af;have n0:=(hF.ne RD).1;generalize ai M p0 (.lst [.int 0])=M0 at*;rfl';rw[C1,pP];refine⟨1,(m:Int),rfl,⟨by lia,by lia⟩,⟨by lia,by lia⟩,by lia,λ p1 vQ=>?_⟩;have e1:cG 1 ((m:Int) - 1).toNat=((List.range (m - 1)).map (·+1)).map nD:=by unfold cG;rw[H9,show((m:Int) - 1).toNat=m - 1 by lia];refine m9 λ x _=>?_;show D.int (1+(x:Int))=D.int ((x+1:Nat):Int);rw[show(1:Int)+(x:Int)=((x+1:Nat):Int) by lia]
  rw[e1];have F1:=F0.trans (Fl.put (o:=.lst (((List.range (m - 1)).map (·+1)).map nD)) F0.bz vQ);have h0:ai M0 p1 (.lst (((List.range (m - 1)).map (·+1)).map nD)) p0=some (.lst [.int 0]):=by rw[aq (a_ h0 vQ)];exact h0
  have h1:ai M0 p1 (.lst (((List.range (m - 1)).map (·+1)).map nD)) p1=some (.lst (((List.range (m - 1)).map (·+1)).map nD)):=af;generalize ai M0 p1 (.lst (((List.range (m - 1)).map (·+1)).map nD))=M1 at*;refine⟨f,cc,p1,_,rfl,F1.bz,h1,by simp;lia,λ p2 ns M2 qU lZ h2 F2=>?_⟩;have F3:=F1.trans F2;have h0:=F2.mv _ _ n0 h0;have xj:=DP Oz qU;have hz:(0::ns)[0]?=some 0:=rfl;have PH:(0::ns).length=m:=by rw[xj.length_eq,x8]
  refine Dt h0 h2 (by rw[C1];rw[y8]at PH;exact small (by show 1+ns.length<=10000;lia)) λ po Tt=>?_;have e2:[D.int 0]++ns.map nD=(0::ns).map nD:=rfl;rw[e2];generalize 0::ns=ord at*;have F4:=F3.trans (Fl.put (o:=.lst (ord.map nD)) F3.bz Tt);have ho:ai M2 po (.lst (ord.map nD)) po=some (.lst (ord.map nD)):=af;generalize ai M2 po (.lst (ord.map nD))=M3 at*;have WZ:∀x∈ord,x < m:=λ x hx=>mem_range.mp (xj.mem_iff.mp hx);rfl';refine eA nD (λ x=>row (eS ord (x0.getD x []))) (by lia) ho (λ i x N hx hN=>?_) ?_
  ·have WM:=WZ x (k8 hx);have tP:x < x0.length:=by lia
   have YB:gS (x0.map row) (x:Int)=some (.tup ((x0.getD x []).map D.int)):=bM (by rw[u7,i6 tP,c7,i6 tP];rfl);have YC:(x0.getD x []).length=h/\∀y∈x0.getD x [],0<=y/\y < (m:Int):=by rw[c7,i6 tP];exact G.tb.row _ (A3 tP)
   have:=G.tb.xq;rfl';refine bp YB ?_;rfl';refine dO (enc:=D.int) (λ y=>.int (ord.idxOf y.toNat:Nat)) (by lia) (λ j y N hy hN=>?_) ?_
   ·have Gi:=YC.2 y (k8 hy);rfl';refine⟨⟨rfl,_,ho⟩,?_⟩;rfl';rw[show D.int y=nD y.toNat by show _=D.int (y.toNat:Int);rw[show((y.toNat:Nat):Int)=y by lia]];refine ib nD cD.inj ho (xj.mem_iff.mpr (mem_range.mpr (by lia))) cD.pl (by decide) ?_;exact hN
   ·rfl';have e3:(x0.getD x []).map (λ y=>D.int (ord.idxOf y.toNat:Nat))=(eS ord (x0.getD x [])).map D.int:=by unfold eS;rw[H9];rfl
    rw[e3];exact hN
  ·intro pr Oy;have F5:=F4.trans (Fl.put (o:=.lst (ord.map λ x=>row (eS ord (x0.getD x [])))) F4.bz Oy);have ho:ai M3 pr (.lst (ord.map λ x=>row (eS ord (x0.getD x [])))) po=some (.lst (ord.map nD)):=by rw[aq (a_ ho Oy)];exact ho
   have e4:(ord.map λ x=>row (eS ord (x0.getD x [])))=(ord.map λ x=>eS ord (x0.getD x [])).map row:=by rw[H9];rfl
   have Ow:ai M3 pr (.lst (ord.map λ x=>row (eS ord (x0.getD x [])))) pr=some (.lst ((ord.map λ x=>eS ord (x0.getD x [])).map row)):=by rw[af,e4]
   generalize ai M3 pr (.lst (ord.map λ x=>row (eS ord (x0.getD x []))))=M4 at*;have TG:dD m h (ord.map λ x=>eS ord (x0.getD x [])):=Qm G xj hz (by rw[C1];exact PH) λ d r hd=>by rw[u7]at hd;obtain⟨x,hx,rfl⟩:=Option.map_eq_some_iff.mp hd;exact⟨x,hx,Hg G xj (WZ x (k8 hx))⟩
   generalize(ord.map λ x=>eS ord (x0.getD x []))=qM at*;have YN:=L.ck;rfl';refine bK Ow ?_;rfl';refine dO (enc:=D.int) (λ y=>.int (ord.idxOf y.toNat:Nat)) (by lia) (λ j y N hy hN=>?_) ?_
   ·have Gi:=L.2 y (k8 hy);rfl';refine⟨⟨rfl,_,ho⟩,?_⟩;rfl';rw[show D.int y=nD y.toNat by show _=D.int (y.toNat:Int);rw[show((y.toNat:Nat):Int)=y by lia]];refine ib nD cD.inj ho (xj.mem_iff.mpr (mem_range.mpr (by lia))) cD.pl (by decide) ?_;exact hN
   ·intro pl hpl;have e5:ls.map (λ y=>D.int (ord.idxOf y.toNat:Nat))=(eS ord ls).map D.int:=by unfold eS;rw[H9];rfl
    rw[e5];have F6:=F5.trans (Fl.put (o:=.lst ((eS ord ls).map D.int)) F5.bz hpl);have h6:ai M4 pl (.lst ((eS ord ls).map D.int)) pl=some (.lst ((eS ord ls).map D.int)):=af;generalize ai M4 pl (.lst ((eS ord ls).map D.int))=M5 at*;rfl';refine AG (eS ord ls) h6 (by unfold eS;rw[C1];lia) λ xs ps Yq U9 Ox=>?_;rfl';refine bK af ?_;rfl';exact av (k qM xs _ TG (CY xj L Yq U9) (F6.trans (Fl.put F6.bz Ox)))
theorem cg:aS ["_law_flow_here","_law_many","_law_table_here","_law_sizes"] ["_law_flow_here"] (au (top 16)):=⟨rfl,rfl,rfl,by decide+kernel,rfl,by decide+kernel,by decide+kernel⟩
theorem DQ(F:jb K "_law_table" "_law_table" (top 16) f fd)(T:lR K mg)(az:cL P w K mg base 1 "_law_pick" ["_law_flow_here","_law_many"] gy)(lD:cL P w K mg base 2 "_law_long_table" ["_law_flow_here"] (yg 19 2))(eT:cL P w K mg base 2 "_law_any_table" ["_law_flow_here","_law_many"] wj)(l_:cL P w K mg base 1 "_law_nim_table" ["_law_sizes","_law_last"] Cu)(iy:cL P w K mg base 2 "_law_blown" ["_law_flow_here","_law_table_here"] rR)(d_:cL P w K mg base 3 "_law_renumbered" ["_law_flow_here","_law_table_here"] Ct):cE P w K mg base fX 4 f fd ["_law_flow_here"] (dv K (yg 19 6)):=by
 refine nW F cg (λ ds M Q h=>?_) (λ dQ A outer s H E ds M Q hr h=>?_)
 ·obtain⟨f,c,rfl,_⟩:=h;rfl
 ·obtain⟨f,cc,rfl,hF,k⟩:=h;refine⟨_,(ae (bG (aI (cO hr.units) (aK az (hr.mono (by decide)) (by rfl) (aa (ak 0) (aa ah ab))) ah (aG _))
 (aj (aL (aK lD (hr.mono (by decide)) (by rfl) (aa (ak 0) ab))))
 aP)
 (ae (aB (i:=1) cg.nd rfl (Or.inl rfl) (aK az (hr.mono (by decide)) (by rfl) (aa (ak 0) (aa ah ab))))
 (ae (bG (aI (cO hr.units) (aK az (hr.mono (by decide)) (by rfl) (aa (ak 0) (aa ah ab))) ah (aG _))
 (aj (aB (i:=1) cg.nd rfl (Or.inl rfl) (aK az (hr.mono (by decide)) (by rfl) (aa (ak 0) (aa ah ab)))))
 aP)
 (ae (aB (i:=2) cg.nd rfl (Or.inl rfl) (aK eT (hr.mono (by decide)) (by rfl) (aa (ak 0) (aa (ak 1) ab))))
 (ae (bG (aI (cO hr.units) (aK az (hr.mono (by decide)) (by rfl) (aa (ak 0) (aa ah ab))) ah (aG _))
 (ae (df (i:=3) cg.nd rfl (Or.inl rfl) (tgs:=["_law_h"]) (fr:=[0]) ⟨bg (by kernel_rfl),rfl,(λ _ _ h=>h),(bu rfl T.range (aa (ak 1) ab)),(aQ (λ _ _ _ _ _=>(aF (i:=0) (show(["_law_h","_law_flow_here"]:List Str).Nodup by decide+kernel) rfl (Or.inl rfl))) (by decide)),(λ _ _ _ _ _=>bc),(λ _ _ _ _ _=>(aK az (hr.mono (by decide)) (by rfl) (aa (ak 1) (aa ah ab))))⟩)
 (aj (aB (i:=2) cg.nd rfl (Or.inl rfl) (aK l_ (hr.mono (by decide)) (by rfl) (aa (ak 3) (aa (aJ aH (cU (aa xX (aa xX ab))) (aK az (hr.mono (by decide)) (by rfl) (aa (ak 0) (aa ah ab))) (λ _ _=>rfl)) ab))))))
 aP)
 (ae (bG (mU (aI (cO hr.units) (aK az (hr.mono (by decide)) (by rfl) (aa (ak 0) (aa ah ab))) ah (aG _)) (mU (aI nX (aA bW (by rfl) T.len (by decide+kernel) (aa (aJ aH (ak 2) ah (λ _ _=>rfl)) ab)) ah (aG _)) (rJ (aI nX (ak 1) ah (aG _))))).pt
 (aj (aB (i:=2) cg.nd rfl (Or.inl rfl) (aK iy (hr.mono (by decide)) (by rfl) (aa (ak 0) (aa (ak 2) ab)))))
 aP)
 (ae (bG (aI (cO hr.units) (aK az (hr.mono (by decide)) (by rfl) (aa (ak 0) (aa ah ab))) ah (aG _))
 (aj (aB (i:=2) cg.nd rfl (Or.inl rfl) (aK d_ (hr.mono (by decide)) (by rfl) (aa (ak 0) (aa (ak 2) ab)))))
 aP)
 (aj (aL (ak 2)))))))))),?_⟩
  rfl';refine⟨f,cc,4,rfl,hF,by decide,by decide,λ d1 o1 JI Lc va=>?_⟩;have F1:Fl f cc M _:=Fl.pick va;generalize ai M f o1=M1 at*;rfl';refine aO (λ _=>?_) (λ _=>?_)
  ·rfl';refine⟨f,cc,rfl,F1.bz,λ m h x0 ls M2 G hm hh L F2=>?_⟩;rfl';exact av (k m h x0 ls _ G hm (by lia) L (F1.trans F2))
  ·rfl';refine⟨f,cc,4,rfl,F1.bz,by decide,by decide,λ d2 o2 VU VT ON=>?_⟩;have F2:=F1.trans (Fl.pick ON);generalize ai M1 f o2=M2 at*;refine eB ?_
   with_reducible refine gB (λ δ' M'=>∃n:Nat,δ'=[some (.ref f),some (.int n),none,none]/\n<=6/\Fl f cc M M') (λ N hN=>?_) ?_
   ·rfl';refine⟨f,cc,6,rfl,F2.bz,by decide,by decide,λ d3 o3 Zl Zk VR=>?_⟩;have F3:=F2.trans (Fl.pick VR);generalize ai M2 f o3=M3 at*;rfl';refine aO (λ _=>?_) (λ _=>?_)
    ·rfl';refine⟨f,cc,7,rfl,F3.bz,by decide,by decide,λ d4 o4 h40 h41 Zg=>?_⟩;have F4:=F3.trans (Fl.pick Zg);generalize ai M3 f o4=M4 at*;rfl';obtain⟨n,rfl⟩:∃n:Nat,d4=(n:Int):=⟨d4.toNat,by lia⟩;exact hN _ _ ⟨n,rfl,by lia,F4⟩
    ·rfl';obtain⟨n,rfl⟩:∃n:Nat,d2=(n:Int):=⟨d2.toNat,by lia⟩;exact hN _ _ ⟨n,rfl,by lia,F3⟩
   rintro δ' M3 ⟨n,rfl,hn,F3⟩;rfl';refine⟨f,cc,n,rfl,F3.bz,hn,λ m x0 ls M4 G hm L F4=>?_⟩;have Xt:=F3.trans F4;clear F4;have F4:=Xt;clear Xt;refine eB ?_
   with_reducible refine gB (λ δ' M'=>∃(v:Option D) (m:Nat) (x0:List Row) (ls:Row),δ'=[some (.ref f),some (.int n),some (cu x0 ls),v]/\dD m n x0/\m<=16/\gs m ls/\Fl f cc M M') (λ N hN=>?_) ?_
   ·rfl';refine⟨f,cc,3,rfl,F4.bz,by decide,by decide,λ d5 o5 Xh Xg RY=>?_⟩;have F5:=F4.trans (Fl.pick RY);generalize ai M4 f o5=M5 at*;rfl';refine aO (λ _=>?_) (λ _=>?_)
    ·rfl';refine⟨dh (by lia) (by lia),?_⟩;rw[w6,cQ];refine lG nD (λ ys M'=>Fl f cc M M'/\∀y∈ys,y < 5) (by rw[x8];lia) ⟨F5,λ y h=>by cases h⟩ (λ i x ys M' N hx hl hI hN=>?_) (λ sz M6 hl hI=>?_)
     ·rfl';refine⟨f,cc,5,rfl,hI.1.bz,by decide,by decide,λ d o h0 h1 Br=>?_⟩;obtain⟨y,rfl⟩:∃n:Nat,d=(n:Int):=⟨d.toNat,by lia⟩;refine hN y _ ⟨hI.1.trans (Fl.pick Br),λ z hz=>?_⟩;rcases C2.mp hz with e|e
      ·exact hI.2 z e
      ·rw[p8.mp e];lia
     ·obtain⟨F6,h5⟩:=hI;rw[x8]at hl;intro ps Ox;have nf:=(F6.bz.ne Ox).1;have F7:=F6.trans (Fl.put (o:=.lst (sz.map nD)) F6.bz Ox);have h7:ai M6 ps (.lst (sz.map nD)) ps=some (.lst (sz.map nD)):=af;generalize ai M6 ps (.lst (sz.map nD))=M7 at*;rfl';intro pl hpl;have h8:ai M7 pl (.lst [.str "loses",.str "wins"]) pl=some (.lst [.str "loses",.str "wins"]):=af;have h7:ai M7 pl (.lst [.str "loses",.str "wins"]) ps=some (.lst (sz.map nD)):=by rw[aq (a_ h7 hpl)];exact h7
      have F8:=F7.trans (Fl.put (o:=.lst [.str "loses",.str "wins"]) F7.bz hpl);have nl:=(F7.bz.ne hpl).1;generalize ai M7 pl (.lst [.str "loses",.str "wins"])=M8 at*;rfl';refine⟨f,cc,2,rfl,F8.bz,by decide,by decide,λ d9 o9 h90 h91 Zf=>?_⟩;have P:=Fl.pick Zf;have F9:=F8.trans P;have h7:=P.mv _ _ nf h7;have h8:=P.mv _ _ nl h8;generalize ai M8 f o9=M9 at*;obtain⟨l,Vz⟩:∃l:Str,gS [D.str "loses",D.str "wins"] d9=some (.str l):=by
       rcases(show d9=0\/d9=1 by lia)with rfl|rfl
       ·exact⟨_,rfl⟩
       ·exact⟨_,rfl⟩
      refine cF h8 Vz ?_;rfl';refine⟨ps,sz,l,rfl,h7,h5,by lia,λ m x0 ls M' G hm L hE=>?_⟩;refine eB ?_;rw[hl]at G;exact hN _ _ ⟨_,m,x0,ls,rfl,G,hm,L,F9.trans (lA hE F9.bz)⟩
    ·rfl';exact hN _ _ ⟨_,m,x0,ls,rfl,G,hm,L,F5⟩
   clear L hm G x0 ls m F4 M4;rintro δ' M4 ⟨v,m,x0,ls,rfl,G,hm,L,F4⟩
   with_reducible refine gB (λ δ' M'=>∃(v:Option D) (m:Nat) (x0:List Row) (ls:Row),δ'=[some (.ref f),some (.int n),some (cu x0 ls),v]/\dD m n x0/\m<=19/\gs m ls/\Fl f cc M M') (λ N hN=>?_) ?_
   ·have pP:=G.tb.len;have Tv:∀M',Fl f cc M M'->N [some (.ref f),some (.int n),some (cu x0 ls),v] M':=λ M' F'=>hN _ _ ⟨_,m,x0,ls,rfl,G,by lia,L,F'⟩;have pT:cu x0 ls=.tup [.tup (x0.map row),row ls]:=rfl;rw[pT]at Tv ⊢;rfl';refine⟨f,cc,3,rfl,F4.bz,by decide,by decide,λ d5 o5 Xh Xg RY=>?_⟩;have F5:=F4.trans (Fl.pick RY);generalize ai M4 f o5=M5 at*;rfl';refine aO (λ _=>?_) (λ _=>?_)
    ·rfl';rw[C1,pP];refine aO (λ hm7=>?_) (λ _=>?_)
     ·rfl';refine aO (λ W3=>?_) (λ _=>?_)
      ·rfl';refine⟨f,cc,m,n,x0,ls,rfl,F5.bz,G,by lia,by lia,λ m x0 ls M6 G hm L F6=>?_⟩;refine eB ?_;exact hN _ _ ⟨_,m,x0,ls,rfl,G,by lia,L,F5.trans F6⟩
      ·rfl';exact Tv _ F5
     ·rfl';exact Tv _ F5
    ·rfl';exact Tv _ F5
   clear L hm G x0 ls m F4 M4 v;rintro δ' M4 ⟨v,m,x0,ls,rfl,G,hm,L,F4⟩;rfl';refine⟨f,cc,2,rfl,F4.bz,by decide,by decide,λ d5 o5 Xh Xg RY=>?_⟩;have F5:=F4.trans (Fl.pick RY);generalize ai M4 f o5=M5 at*;rfl';refine aO (λ _=>?_) (λ _=>?_)
   ·rfl';refine⟨f,cc,m,n,x0,ls,rfl,F5.bz,G,by lia,L,λ x0 ls M6 G L F6=>?_⟩;rfl';exact av (k m n x0 ls _ G hm hn L (F5.trans F6))
   ·rfl';exact av (k m n x0 ls _ G hm hn L F5)
def we(k:Nat):iY:=λ ds M Q=>∃(n t:Nat),ds=[.int n,.int t]/\n < k/\n<=6/\t<=19/\∀(p:ww) (M':Mem),M p=none->M' p=some (.lst ((bC n t).map fO))->bi M M'->Q (.ref p) M'
theorem Cq:∀ds M Q,¬we 0 ds M Q:=λ ds M Q ⟨n,t,_,h,_⟩=>by lia
theorem gZ:aS ["_law_many","_law_total","_law_found","_law_n"] ["_law_many","_law_total"] (au (top 17)):=⟨rfl,rfl,rfl,by decide+kernel,rfl,by decide+kernel,by decide+kernel⟩
theorem DR(F:jb K "_law_sums" "_law_sums" (top 17) f fd)(T:lR K mg)(Vw:mg "_law_sums"=some (.ref f))(OM:Binds K fd ["_law_many","_law_total"] []):∀k,cE P w K mg base fX (k+1) f fd ["_law_many","_law_total"] (dv K (we k)):=by
 intro k
 induction k with
 |zero=>exact zo Cq
 |succ k ih=>
 have jk:=bX.of F ih Vw OM;rw[show k+1+1=k+1+1 by lia];clear ih;refine nW F gZ (λ ds M Q h=>?_) (λ dQ A outer s H E ds M Q hr h=>?_)
 ·obtain⟨n,t,rfl,_⟩:=h;rfl
 ·obtain⟨n,t,rfl,hnk,hn,ht,kk⟩:=h;refine⟨_,(ae (bG (aI (cO hr.units) (ak 0) ah (aG _))
 (aj (aL (bS kW (cU (aa (dA ab) ab)) (bq oO (by rfl) T.int (by decide+kernel) (aa (eU (cO hr.units) (ak 1) ah (aG _)) ab)))))
 aP)
 (ae (bG (aI (cO hr.units) (ak 0) ah (aG _))
 (aj (aL (cU (aa (dA (aa (ak 1) ab)) ab))))
 aP)
 (ae (aB (i:=2) gZ.nd rfl (Or.inl rfl) (cU ab))
 (ae (dU B7 rfl (Aj rfl T.range (aa (ak 1) (aa (PZ Kn ah) (aa (PZ Kn ah) ab)))) (bF (i:=3) gZ.nd rfl (Or.inr rfl))
 (aj (cb (eQ i8 PySem.F.slot_list_extend PySem.F.type_list_extend Ee (ak 2) (aa (eO (tgs:=["_law_rest"]) (fr:=[3]) ⟨bg (by kernel_rfl),rfl,(λ _ _ h=>h),(cj (aK jk (hr.mono (by lia)) (by rfl) (aa (bS yH (ak 0) ah) (aa (bS yH (ak 1) (ak 3)) ab)))),(aQ (λ _ _ _ _ _=>(aF (i:=0) (show(["_law_rest","_law_n"]:List Str).Nodup by decide+kernel) rfl (Or.inl rfl))) (by decide)),(λ _ _ _ _ _=>bc),(λ _ _ _ _ _=>(bS bT (dA (aa (ak 1) ab)) (ak 0)))⟩) ab)))))
 (aj (aL (ak 2))))))),?_⟩
  rfl';refine aO (λ h0=>?_) (λ h0=>?_)
  ·have h0:n=0:=by lia
   subst h0;rfl';intro p hp;rfl';have hE:bi M (ai M p (.lst [.tup []])):=bi.new bi.rfl hp _;have h2:ai M p (.lst [.tup []]) p=some (.lst [.tup []]):=af;generalize ai M p (.lst [.tup []])=M1 at*;have e:∃j:Nat,(if decide ((t:Int)=0)=true then(1:Int)else 0)=(j:Int)/\j<=1/\List.replicate j (D.tup [])=(bC 0 t).map fO:=by
    by_cases z:t=0
    ·subst z;exact⟨1,rfl,by lia,rfl⟩
    ·refine⟨0,by rw[L1];rfl;rw[decide_eq_true_iff];lia,by lia,?_⟩;unfold bC;rw[L1 z];rfl
   obtain⟨j,ej,hj,e2⟩:=e;rw[ej];refine Dc h2 (by lia) (by lia) λ r hr=>?_;rw[w6,e2];exact av (kk r _ (hE.free hr) af (hE.new hr _))
  ·rfl';refine aO (λ h1=>?_) (λ h1=>?_)
   ·have h1:n=1:=by lia
    subst h1;rfl';intro p hp;refine av (kk p _ hp ?_ (bi.new bi.rfl hp _));rw[af,x'];rfl
   ·obtain⟨q,rfl⟩:∃q,n=q+1:=⟨n - 1,by lia⟩;rfl';intro p hp;have hE:bi M (ai M p (.lst [])):=bi.new bi.rfl hp _;have h2:ai M p (.lst []) p=some (.lst ((gM q t 0).map fO)):=af;generalize ai M p (.lst [])=M1 at*;rfl';refine HC ?_;rfl';refine⟨(t:Int),-1,rfl,⟨by lia,by lia,by lia,by lia⟩,?_⟩;rw[show((t:Int) - -1).toNat=t+1 by lia];refine iw (λ i δ M'=>∃v:Option D,δ=[some (.int ((q+1:Nat):Int)),some (.int t),some (.ref p),v]/\M' p=some (.lst ((gM q t i).map fO))/\bi M M') ⟨none,rfl,h2,hE⟩ (λ i d δ M' hd h=>?_) (λ δ M' h=>?_)
    ·obtain⟨v,rfl,h2,hE⟩:=h;obtain⟨hi,rfl⟩:=Fx hd;have Ze:=hp;rfl';refine⟨⟨rfl,_,h2⟩,?_⟩;rfl';refine⟨q,t - (t - i),?_,by lia,by lia,by lia,λ r M2 hr pQ RZ=>?_⟩
     ·rw[show((q+1:Nat):Int) - 1=(q:Int) by lia,show(t:Int) - ((t:Int) - (i:Int))=((t - (t - i):Nat):Int) by lia]
     ·have hsz:=wd (q:=q) (t:=t - (t - i)) (by lia) (by lia);refine mz pQ ?_;refine xF fO (λ c=>fO ((t - i)::c)) hsz pQ (λ j c N hc hN=>?_) ?_
      ·rfl';have EZ:=(bQ.mp (k8 hc)).1;unfold fO;refine nQ (by rw[C1,EZ];exact small (by show 1+q<=10000;lia)) ?_;rw[show[D.int ((t:Int) - (i:Int))]++c.map nD=((t - i)::c).map nD by rw[show(t:Int) - (i:Int)=((t - i:Nat):Int) by lia];rfl];exact hN
      ·intro u hu;have h2:=RZ _ _ h2;have e3:(bC q (t - (t - i))).map (λ c=>fO ((t - i)::c))=((bC q (t - (t - i))).map ((t - i)::·)).map fO:=by rw[H9];rfl
       rw[e3];have hL:=qE (q:=q) (t:=t) (i:=i+1) (by lia) (by lia) (by lia);rw[ny hi,o6]at hL;rfl';refine Mo (ds:=(gM q t i).map fO) (by rw[aq (a_ h2 hu)];exact h2) af (by rw[C1,C1];exact hL) ?_;refine⟨_,rfl,?_,?_⟩
       ·rw[af,ny hi,C3]
       ·exact((hE.trans RZ).new hu _).own Ze
    ·obtain⟨v,rfl,h2,hE⟩:=h;rw[lB,iH]at h2;rfl';exact av (kk p _ hp h2 hE)
def wg:iY:=λ ds M Q=>∃(m h x:Nat) (x0:List Row) (ls:Row) (p:Cs),ds=[cu x0 ls,.int x,fO p]/\dD m h x0/\x < m/\p.length=h/\(∀c∈p,c<=1000)/\Q (.int (dw (aM x0) 0 x p:Nat)) M
def rO:iY:=λ ds M Q=>∃(m h:Nat) (x0:List Row) (ls:Row),ds=[cu x0 ls]/\dD m h x0/\m<=19/\h<=6/\∀(p:ww) (g:Nat->Cs) (M':Mem),M p=none->Pj m h x0 g->M' p=some (.lst ((List.range m).map λ x=>fO (g x)))->bi M M'->Q (.ref p) M'
theorem eI:aS ["_law_table_here","_law_x","_law_counts","_law_h","_law_n","_law_k"] ["_law_table_here","_law_x","_law_counts"] (au (top 18)):=⟨rfl,rfl,rfl,by decide+kernel,rfl,by decide+kernel,by decide+kernel⟩
theorem IP(F:jb K "_law_from" "_law_from" (top 18) f fd)(T:lR K mg):cE P w K mg base fX 1 f fd ["_law_table_here","_law_x","_law_counts"] (dv K wg):=by
 refine nW F eI (λ ds M Q h=>?_) (λ dQ A outer s H E ds M Q hr h=>?_)
 ·obtain⟨m,h,x,x0,ls,p,rfl,_⟩:=h;rfl
 ·obtain⟨m,h,x,x0,ls,p,rfl,G,hx,hp,hc,k⟩:=h;refine⟨_,(ae (dU B7 rfl (fJ rfl T.enumerate (aa (ak 2) ab)) (kH (n:=2) rfl (cM (bF (i:=3) eI.nd rfl (Or.inl rfl)) (cM (bF (i:=4) eI.nd rfl (Or.inl rfl)) iF)))
 (aj (dU B7 rfl (bu rfl T.range (aa (ak 4) ab)) (bF (i:=5) eI.nd rfl (Or.inl rfl))
 (aj (aB (i:=1) eI.nd rfl (Or.inl rfl) (aJ aH (aJ aH (aJ aH (ak 0) ah (λ _ _=>rfl)) (ak 1) (λ _ _=>rfl)) (ak 3) (λ _ _=>rfl)))))))
 (aj (aL (ak 1)))),?_⟩
  have hh:=G.tb.xq;unfold fO;have pT:cu x0 ls=.tup [.tup (x0.map row),row ls]:=rfl;rw[pT];rfl';refine iw (λ i δ M'=>M'=M/\∃v3 v4 v5:Option D,δ=[some (.tup [.tup (x0.map row),row ls]),some (.int (dw (aM x0) 0 x (p.take i):Nat)),some (.tup (p.map nD)),v3,v4,v5]) ⟨rfl,none,none,none,rfl⟩ (λ i d δ M' hd h=>?_) (λ δ M' h=>?_)
  ·obtain⟨rfl,v3,v4,v5,rfl⟩:=h;obtain⟨hi,rfl⟩:=gG hd;rw[C1]at hi;have Vp:p[i]?=some p[i]:=i6 hi;rw[show(p.map nD).getD i .bw=.int (p[i]:Nat) by rw[c7,u7,Vp];rfl];have hci:=hc _ (k8 Vp);have hy:dw (aM x0) 0 x (p.take i) < m:=G.eW.dw _ 0 x (by rw[A2];lia) hx;have hst:dw (aM x0) 0 x (p.take (i+1))=iO (aM x0 i) p[i] (dw (aM x0) 0 x (p.take i)):=by rw[take_one Vp,vb,A2,Nat.min_eq_left (by lia),J1]
   generalize p[i]=c at*;generalize dw (aM x0) 0 x (p.take i)=y at*;rfl';refine⟨dh (by lia) (by lia),?_⟩;rw[w6];refine iw (λ j δ kG=>kG=M'/\∃v5:Option D,δ=[some (.tup [.tup (x0.map row),row ls]),some (.int (iO (aM x0 i) j y:Nat)),some (.tup (p.map nD)),some (.int (i:Int)),some (.int (c:Int)),v5]) ⟨rfl,_,rfl⟩ (λ j d δ kG hd h=>?_) (λ δ kG h=>?_)
   ·obtain⟨rfl,v5,rfl⟩:=h;obtain⟨hj,rfl⟩:=dX hd;have hz:iO (aM x0 i) j y < m:=G.eW.iO (by lia) j y hy;have ta:=wc G.tb hz (i:=i) (by lia);have hs:=ow (aM x0 i) j y;generalize iO (aM x0 i) j y=z at*;rfl';refine bp (d:=.tup ((x0.getD z []).map D.int)) ta.1 ?_;rfl';refine bp ta.2 ?_;rfl';exact⟨rfl,_,by rw[hs];rfl⟩
   ·obtain⟨rfl,v5,rfl⟩:=h;rw[bt];exact⟨rfl,_,_,_,by rw[hst]⟩
  ·obtain⟨rfl,v3,v4,v5,rfl⟩:=h;rw[b_,C1,z9];rfl';exact av k
theorem bJ:aS ["_law_table_here","_law_many","_law_found","_law_total","_law_counts"] ["_law_table_here"] (au (top 19)):=⟨rfl,rfl,rfl,by decide+kernel,rfl,by decide+kernel,by decide+kernel⟩
theorem DT(F:jb K "_law_first_sums" "_law_first_sums" (top 19) f fd)(T:lR K mg)(jk:cL P w K mg base 8 "_law_sums" ["_law_many","_law_total"] (we 7))(jl:cL P w K mg base 1 "_law_from" ["_law_table_here","_law_x","_law_counts"] wg):cE P w K mg base fX 9 f fd ["_law_table_here"] (dv K rO):=by
 refine nW F bJ (λ ds M Q h=>?_) (λ dQ A outer s H E ds M Q hr h=>?_)
 ·obtain⟨m,h,x0,ls,rfl,_⟩:=h;rfl
 ·obtain⟨m,h,x0,ls,rfl,G,hm,hh,k⟩:=h;obtain⟨g,hg⟩:=G.fst;have KU:=L' G.tb;have pP:=G.tb.len;have pT:cu x0 ls=.tup [.tup (x0.map row),row ls]:=rfl;refine⟨_,(ae (aB (i:=1) bJ.nd rfl (Or.inl rfl) (aA oN (by rfl) T.len (by decide+kernel) (aa (aJ (eG hr.units) (aJ (eG hr.units) (ak 0) ah (λ _ _=>rfl)) ah (λ _ _=>rfl)) ab)))
 (ae (aB (i:=2) bJ.nd rfl (Or.inr rfl) (Lz false))
 (ae (aB (i:=3) bJ.nd rfl (Or.inl rfl) ah)
 (ae (fg B7 (aI nX (aA oN (by rfl) T.len (by decide+kernel) (aa (ak 2) ab)) (aA oN (by rfl) T.len (by decide+kernel) (aa (aJ (eG hr.units) (ak 0) ah (λ _ _=>rfl)) ab)) (aG _))
 (ae (dU B7 rfl (cj (aK jk (hr.mono (by decide)) (by rfl) (aa (ak 1) (aa (ak 3) ab)))) (bF (i:=4) bJ.nd rfl (Or.inl rfl))
 (aj (cb (Cc (ak 2) (aa (aK jl (hr.mono (by decide)) (by rfl) (aa (ak 0) (aa ah (aa (ak 4) ab)))) (aa (ak 4) ab))))))
 (aj (aB (i:=3) bJ.nd rfl (Or.inl rfl) (bS bT (ak 3) ah)))))
 (aj (aL (eO (tgs:=["_law_x"]) (fr:=[2]) ⟨bg (by kernel_rfl),rfl,(λ _ _ h=>h),(bu rfl T.range (aa (aA oN (by rfl) T.len (by decide+kernel) (aa (aJ (eG hr.units) (ak 0) ah (λ _ _=>rfl)) ab)) ab)),(aQ (λ _ _ _ _ _=>(aF (i:=0) (show(["_law_x","_law_found"]:List Str).Nodup by decide+kernel) rfl (Or.inl rfl))) (by decide)),(λ _ _ _ _ _=>bc),(λ _ _ _ _ _=>(aJ (eG hr.units) (ak 1) (ak 0) (λ _ _=>rfl)))⟩))))))),?_⟩
  rw[pT];rfl';refine cW (bp (d:=.tup (x0.map row)) rfl ?_);rfl';refine cW (bp KU.1 ?_);rfl';refine jM (mr ?_);rw[C1,KU.2];rfl';intro q hq;rfl';have Zh:bi M (ai M q (.di false [])):=bi.new bi.rfl hq _;have YG:ai M q (.di false []) q=some (.di false (xy nD ((([]:List (Nat×Cs)).map λ e=>(e.1,fO e.2))))):=af;generalize ai M q (.di false [])=M0 at*;refine fu ⟨λ m' δ M'=>∃(v4:Option D) (es:List (Nat×Cs)) (t:Nat),δ=[some (.tup [.tup (x0.map row),row ls]),some (.int (h:Int)),some (.ref q),some (.int (t:Int)),v4]/\bi M M'/\M' q=some (.di false (xy nD (es.map λ e=>(e.1,fO e.2))))/\tL x0 m h (ir h t 0) es/\m'=m+1 - t,⟨_,none,[],0,rfl,Zh,YG,by show tL x0 m h (qi h 0++[]) [];rw[B0];exact tL.nil x0 m h,rfl⟩,?_⟩;rintro m' δ M1 ⟨v4,es,t,rfl,hE,hd,hf,rfl⟩;have W8:∀{es:List (Nat×Cs)},(xy nD (es.map λ e=>(e.1,fO e.2))).length=es.length:=λ{es}=>by simp[xy]
  have hfew:=hf.ck;rfl';refine Hw hd ?_;rfl';refine cW (bp (d:=.tup (x0.map row)) rfl ?_);rfl';refine jM (mr ?_);rfl';rw[C1,pP,W8];refine aO (λ gg=>?_) (λ KY=>?_)
  ·have htm:t < m:=y9 λ z=>by have:=hf.full G z;lia
   refine⟨λ δ' M'=>∃(v4:Option D) (es:List (Nat×Cs)),δ'=[some (.tup [.tup (x0.map row),row ls]),some (.int (h:Int)),some (.ref q),some (.int ((t+1:Nat):Int)),v4]/\bi M M'/\M' q=some (.di false (xy nD (es.map λ e=>(e.1,fO e.2))))/\tL x0 m h (ir h (t+1) 0) es,?_,?_⟩
   ·rintro δ' M' ⟨v4,es,rfl,a1,a2,a3⟩;exact⟨_,by lia,v4,es,t+1,rfl,a1,a2,a3,rfl⟩
   ·rfl';refine⟨h,t,rfl,by lia,by lia,by lia,λ r M2 hr pQ RZ=>?_⟩;refine mz pQ ?_;have YF:q≠r:=a_ hd hr;refine zq (ds:=(bC h t).map fO) (λ i δ M'=>∃(v4:Option D) (es:List (Nat×Cs)),δ=[some (.tup [.tup (x0.map row),row ls]),some (.int (h:Int)),some (.ref q),some (.int (t:Int)),v4]/\bi M M'/\M' r=some (.lst ((bC h t).map fO))/\M' q=some (.di false (xy nD (es.map λ e=>(e.1,fO e.2))))/\tL x0 m h (ir h t i) es) ⟨v4,es,rfl,hE.trans RZ,pQ,RZ _ _ hd,hf⟩ (λ i δ M' _ h=>?_) (λ i d δ M' hd2 h=>?_) (λ δ M' h=>?_)
    ·obtain⟨_,_,_,_,h2,_⟩:=h;exact h2
    ·obtain⟨v4,es,rfl,hE,pQ,hd,hf⟩:=h;rw[u7]at hd2;obtain⟨p,hp,rfl⟩:=Option.map_eq_some_iff.mp hd2;have Bn:=bQ.mp (k8 hp);rfl';refine⟨⟨q,_,rfl,hd⟩,?_⟩;rfl';refine⟨m,h,0,x0,ls,p,rfl,G,G.tb.pos,Bn.1,λ c hc=>?_,?_⟩
     ·have:=wV hc;lia
     ·rfl';have Gr:=hf.ck;have iX:(es.map λ e=>(e.1,fO e.2)).map (·.1)=es.map (·.1):=by rw[H9];rfl
      refine⟨q,_,nD (dw (aM x0) 0 0 p),fO p,rfl,rfl,hd,je _,by rw[W8];exact p6 (show es.length<=100 by lia) (by decide),λ u hu=>?_,λ hu=>?_⟩
      ·have pR:dw (aM x0) 0 0 p∈es.map (·.1):=Decidable.byContradiction λ hn=>by rw[k_ cD.inj (by rw[iX];exact hn)]at hu;cases hu
       exact⟨_,es,rfl,hE,pQ,hd,hf.old hp pR⟩
      ·have pR:dw (aM x0) 0 0 p∉es.map (·.1):=λ hn=>by obtain⟨e,he,ee⟩:=H0.mp hn;rw[<- ee,kZ (x:=e.1) (d:=fO e.2) cD.inj (by rw[iX];exact hf.nd) (H0.mpr ⟨e,he,rfl⟩)]at hu;cases hu
       rw[yz cD.inj _ (by rw[iX];exact pR)];refine⟨_,es++[(dw (aM x0) 0 0 p,p)],rfl,hE.own hq,?_,?_,hf.new G hp pR⟩
       ·rw[aq (K8 YF)];exact pQ
       ·rw[af,C3];rfl
    ·obtain⟨v4,es,rfl,hE,pQ,hd,hf⟩:=h;rw[C1,Ff]at hf;rfl';exact⟨_,es,rfl,hE,hd,hf⟩
  ·rfl';refine cW (bp (d:=.tup (x0.map row)) rfl ?_);rfl';refine jM (mr ?_);rfl';rw[C1,pP];refine⟨dh (by lia) (by lia),?_⟩;rw[w6,cQ];refine dO (λ x=>fO (g x)) (by rw[x8];lia) (λ i x N hx hN=>?_) ?_
   ·have WM:x < m:=mem_range.mp (k8 hx);rw[wA];rfl';refine wB hd (je x) (kZ (x:=x) (d:=fO (g x)) cD.inj (by rw[H9];exact hf.nd) (H0.mpr ⟨_,hf.get (by lia) hg WM,rfl⟩)) ?_;exact hN
   ·intro u hu;exact av (k u g _ (hE.free hu) hg af (hE.new hu _))
theorem EF(ls:Row)(x:Nat):dH ls x=true↔D.int (x:Int)∈ls.map D.int:=by
 unfold dH;rw[decide_eq_true_iff];constructor
 ·intro h;exact H0.mpr ⟨_,h,rfl⟩
 ·intro h;obtain⟨y,hy,e⟩:=H0.mp h;rw[<- D.int.inj e];exact hy
theorem yt{Q:bR}{x:Nat}(q:Q (.bl (dH ls x)) M):Sg (.int (x:Int)) (row ls) M Q:=.inl (rX (k:=0) (ds:=ls.map D.int) rfl (cI 0 _) (dY λ x _=>cI 0 _) (by decide) (EF ls x) q)
theorem jN{Q:bR}{x:Nat}(q:Q (.bl (dH ls x)) M):JV (.int (x:Int)) (row ls) M Q:=rX (k:=0) (ds:=ls.map D.int) rfl (cI 0 _) (dY λ x _=>cI 0 _) (by decide) (EF ls x) q
def CC:iY:=λ ds M Q=>∃(m h:Nat) (r:List Row) (ls:Row),ds=[cu r ls]/\dD m h r/\m < 64/\∀(p:ww) (f:Nat->Nat) (M':Mem),M p=none->M' p=some (.lst ((List.range m).map λ x=>nD (f x)))->(∀x y,x < m->y < m->(f x=f y↔∀q:Cs,q.length=h->¬Ii r ls x y q))->bi M M'->Q (.ref p) M'
theorem mn{h:Nat}(G:Tb m h r){x:Nat}(hx:x < m):gS (r.map row) (x:Int)=some (.tup (((List.range h).map λ i=>aM r i x).map nD)):=by
 have tP:x < r.length:=by rw[G.len];exact hx
 have e:=i6 tP;refine bM ?_;rw[u7,e];have rl:=(G.row _ (A3 tP)).1;have g:r.getD x []=r[x]:=by rw[c7,e];rfl
 refine K7 (λ z=>some (D.tup z)) (y3 λ i=>?_);rw[u7,u7,u7];by_cases hi:i < h
 ·have:=(G.at hx hi).2.1;rw[g,c7,i6 (by lia)]at this;rw[l7 hi,i6 (by lia)];exact K7 (λ z=>some (D.int z)) this
 ·rw[k5 (by lia),k5 (by rw[x8];lia)];rfl
theorem cx:aS ["_law_table_here","_law_found","_law_turn","_law_rows","_law_some"] ["_law_table_here"] (au (top 20)):=⟨rfl,rfl,rfl,by decide+kernel,rfl,by decide+kernel,by decide+kernel⟩
theorem IS(F:jb K "_law_classes" "_law_classes" (top 20) f fd)(T:lR K mg):cE P w K mg base fX 1 f fd ["_law_table_here"] (dv K CC):=by
 refine nW F cx (λ ds M Q h=>?_) (λ dQ A outer s H E ds M Q hr h=>?_)
 ·obtain⟨m,h,r,ls,rfl,_⟩:=h;rfl
 ·obtain⟨m,h,r,ls,rfl,G,hm,k⟩:=h;have pT:cu r ls=.tup [.tup (r.map row),row ls]:=rfl;have pP:=G.tb.len;have hh:=G.tb.xq;rw[pT];refine⟨_,(ae (aB (i:=1) cx.nd rfl (Or.inr rfl) (eO (tgs:=["_law_x"]) (fr:=[0]) ⟨bg (by kernel_rfl),rfl,(λ _ _ h=>h),(bu rfl T.range (aa (aA bW (by rfl) T.len (by decide+kernel) (aa (aJ aH (ak 0) ah (λ _ _=>rfl)) ab)) ab)),(aQ (λ _ _ _ _ _=>(aF (i:=0) (show(["_law_x","_law_table_here"]:List Str).Nodup by decide+kernel) rfl (Or.inl rfl))) (by decide)),(λ _ _ _ _ _=>bc),(λ _ _ _ _ _=>(bq oO (by rfl) T.int (by decide+kernel) (aa (eU (nY hr.units) (ak 0) (aJ aH (ak 1) ah (λ _ _=>rfl)) rfl) ab)))⟩))
 (ae (dU B7 rfl (bu rfl T.range (aa (aA bW (by rfl) T.len (by decide+kernel) (aa (aJ aH (ak 0) ah (λ _ _=>rfl)) ab)) ab)) (bF (i:=2) cx.nd rfl (Or.inl rfl))
 (ae (df (i:=3) cx.nd rfl (Or.inl rfl) (tgs:=["_law_x"]) (fr:=[1,0]) ⟨bg (by kernel_rfl),rfl,(λ _ _ h=>h),(bu rfl T.range (aa (aA bW (by rfl) T.len (by decide+kernel) (aa (aJ aH (ak 0) ah (λ _ _=>rfl)) ab)) ab)),(aQ (λ _ _ _ _ _=>(aF (i:=0) (show(["_law_x","_law_found","_law_table_here"]:List Str).Nodup by decide+kernel) rfl (Or.inl rfl))) (by decide)),(λ _ _ _ _ _=>bc),(λ _ _ _ _ _=>(bS bT (dA (aa (aJ aH (ak 1) (ak 0) (λ _ _=>rfl)) ab)) (fh bo cw (by rfl) T.tuple (by decide+kernel) (tgs:=["_law_y"]) (fr:=[1]) ⟨bg (by kernel_rfl),rfl,(λ _ _ h=>h),(cj (aJ aH (aJ aH (ak 2) ah (λ _ _=>rfl)) (ak 0) (λ _ _=>rfl))),(aQ (λ _ _ _ _ _=>(aF (i:=0) (show(["_law_y","_law_found"]:List Str).Nodup by decide+kernel) rfl (Or.inl rfl))) (by decide)),(λ _ _ _ _ _=>bc),(λ _ _ _ _ _=>(aJ aH (ak 1) (ak 0) (λ _ _=>rfl)))⟩)))⟩)
 (ae (aB (i:=4) cx.nd rfl (Or.inr rfl) (Lv rfl hr.units (by rfl) T.sorted (by rfl) T.set (aa (ak 3) ab)))
 (aj (aB (i:=1) cx.nd rfl (Or.inr rfl) (eO (tgs:=["_law_one"]) (fr:=[4]) ⟨bg (by kernel_rfl),rfl,(λ _ _ h=>h),(cj (ak 3)),(aQ (λ _ _ _ _ _=>(aF (i:=0) (show(["_law_one","_law_some"]:List Str).Nodup by decide+kernel) rfl (Or.inl rfl))) (by decide)),(λ _ _ _ _ _=>bc),(λ _ _ _ _ _=>(eQ i8 PySem.F.slot_list_index PySem.F.type_list_index (fK hr.units) (ak 1) (aa (ak 0) ab)))⟩))))))
 (aj (aL (ak 1))))),?_⟩
  rfl';rw[C1,pP];refine⟨dh (by lia) (by lia),?_⟩;rw[w6,cQ];refine dO (xs:=List.range m) (enc:=Px) (λ x=>nD (if dH ls x then 1 else 0)) (by rw[x8];lia) (λ i x N hx hN=>?_) ?_
  ·rw[wA];rfl';refine jN ?_;rfl';have e:D.int (if dH ls x=true then 1 else 0)=nD (if dH ls x then 1 else 0):=by cases dH ls x <;> rfl
   rw[e];exact hN
  intro p0 RD;have E0:=bi.new (bi.rfl (M:=M)) RD (.lst ((List.range m).map λ x=>nD (if dH ls x then 1 else 0)));have h0:ai M p0 (.lst ((List.range m).map λ x=>nD (if dH ls x then 1 else 0))) p0=some (.lst ((List.range m).map λ x=>nD (if dH ls x then 1 else 0))):=af;generalize ai M p0 (.lst ((List.range m).map λ x=>nD (if dH ls x then 1 else 0)))=M0 at*;rfl';rw[C1,pP];refine⟨dh (by lia) (by lia),?_⟩;rw[w6];refine iw (λ t δ M'=>∃(v2 v3 v4:Option D) (p:ww) (f:Nat->Nat),δ=[some (.tup [.tup (r.map row),row ls]),some (.ref p),v2,v3,v4]/\M p=none/\M' p=some (.lst ((List.range m).map λ x=>nD (f x)))/\(∀x y,x < m->y < m->(f x=f y↔cq r ls h t x y))/\bi M M') ⟨_,_,_,p0,λ x=>if dH ls x then 1 else 0,rfl,RD,h0,λ x y _ _=>?_,E0⟩ (λ t d δ M' hd hI=>?_) (λ δ M' hI=>?_)
  ·show(if dH ls x=true then 1 else 0)=(if dH ls y=true then 1 else 0)↔dH ls x=dH ls y;generalize dH ls x=a;generalize dH ls y=b;cases a <;> cases b <;> simp
  ·obtain⟨v2,v3,v4,p,f,rfl,WY,hp,hf,E1⟩:=hI;rfl';rw[C1,pP];refine⟨dh (by lia) (by lia),?_⟩;rw[w6,cQ];refine dO (xs:=List.range m) (enc:=Px) (λ x=>cV (ie r h f x)) (by rw[x8];lia) (λ i x N hx hN=>?_) ?_
   ·have hx:=nK hx;rw[wA];rfl';refine cF hp (d:=nD (f x)) (bM (by rw[u7,l7 hx];rfl)) ?_;rfl';refine bp (mn G.tb hx) ?_;rfl';refine dO (xs:=(List.range h).map λ i=>aM r i x) (enc:=nD) (λ y=>nD (f y)) (by rw[C1,x8];lia) (λ j y M2 hy hN=>?_) ?_
    ·rw[u7]at hy;obtain⟨i,hi,rfl⟩:=Option.map_eq_some_iff.mp hy;have hi:=nK hi;rfl';exact cF hp (d:=nD (f (aM r i x))) (bM (by rw[u7,l7 (G.eW.cl _ _ hi hx)];rfl)) hN
    ·rfl';refine nQ (by rw[C1,C1,x8];exact small (by show 1+h<=10000;lia)) ?_;have e:[D.int ((f x:Nat):Int)]++((List.range h).map λ i=>aM r i x).map (λ y=>nD (f y))=(ie r h f x).map D.int:=by unfold ie;rw[G4,H9,H9];rfl
     rw[e];exact hN
   intro pr Oy;have e:(List.range m).map (λ x=>cV (ie r h f x))=((List.range m).map (ie r h f)).map cV:=by rw[H9];rfl
   rw[e];have E2:=E1.new Oy (.lst (((List.range m).map (ie r h f)).map cV));have h2:ai M' pr (.lst (((List.range m).map (ie r h f)).map cV)) pr=some (.lst (((List.range m).map (ie r h f)).map cV)):=af;generalize ai M' pr (.lst (((List.range m).map (ie r h f)).map cV))=M2 at*;rfl';refine⟨pr,(List.range m).map (ie r h f),rfl,h2,λ z hz=>?_,by rw[C1,x8];exact hm,λ rs ps nd mem Ox=>?_⟩
   ·obtain⟨x,_,rfl⟩:=H0.mp hz;unfold ie;exact cons_ne_nil _ _
   have E3:=E2.new Ox (.lst (rs.map cV));have h3:ai M2 ps (.lst (rs.map cV)) pr=some (.lst (((List.range m).map (ie r h f)).map cV)):=by rw[aq (a_ h2 Ox)];exact h2
   have s3:ai M2 ps (.lst (rs.map cV)) ps=some (.lst (rs.map cV)):=af;generalize ai M2 ps (.lst (rs.map cV))=M3 at*;have inr:∀x,x < m->ie r h f x∈rs:=λ x hx=>(mem _).mpr (H0.mpr ⟨x,mem_range.mpr hx,rfl⟩);rfl';refine eA cV (λ z=>nD (Oo rs z)) (by rw[C1,x8];lia) h3 (λ i z N hz hN=>?_) ?_
   ·rfl';refine⟨⟨rfl,_,s3⟩,?_⟩;rfl';refine ib cV AB s3 ((mem _).mpr (k8 hz)) (λ a=>wH (k:=0) (dY λ x _=>cI 0 _)) (by decide) ?_;exact hN
   ·intro q hq;rw[H9];refine⟨_,_,_,q,λ x=>Oo rs (ie r h f x),rfl,E3.free hq,af,λ x y hx hy=>?_,E3.new hq _⟩;rw[<- IA G hf hx hy];exact Jq (inr x hx) (inr y hy)
  ·obtain⟨v2,v3,v4,p,f,rfl,WY,hp,hf,E1⟩:=hI;rw[bt]at hf;rfl';exact av (k p f _ WY hp (λ x y hx hy=>(hf x y hx hy).trans (O4 G hx hy)) E1)
def Cy:BI:=λ ds cs M Q=>∃(m x:Nat) (g:Nat->Cs) (a:ww),ds=[.int x]/\cs=[.ref a]/\M a=some (.lst ((List.range m).map λ x=>fO (g x)))/\x < m/\(g x).length<=1000/\Q (.tup [.int ((g x).map kI).sum,row (((g x).map kI).map λ a=>0 - a)]) M
def SD(M:Mem):Prop:=M 123=some (.jC (.pe "_law_least.<locals>.<lambda>"))
structure Wk(m h:Nat)(r:List Row)(ls:Row)(f:Nat->Nat)(g:Nat->Cs)(ord ch:List Nat)(cz:Row):Prop where
 cl:∀x y,x < m->y < m->(f x=f y↔∀q:Cs,q.length=h->¬Ii r ls x y q)
 fs:Pj m h r g
 perm:ord.Perm (List.range m)
 up:ord.Pairwise λ i j=>klt (N_ ((g j).map kI)) (N_ ((g i).map kI))=false
 V9:BL f ord ch
 Yb:gs ch.length cz
 isl:∀(d x:Nat),ch[d]?=some x->dH cz d=dH ls x
def Cw:iY:=λ ds M Q=>∃(m h:Nat) (r:List Row) (ls:Row),ds=[cu r ls]/\SD M/\dD m h r/\m<=19/\h<=6/\∀f g ord ch cz M',Wk m h r ls f g ord ch cz->bi M M'->Q (cu (ch.map (fF r h f ch)) cz) M'
theorem Wk.tb{h:Nat}{f:Nat->Nat}{g:Nat->Cs}{ord ch:List Nat}{cz:Row}(G:dD m h r)(L:Wk m h r ls f g ord ch cz):dD ch.length h (ch.map (fF r h f ch))/\ch.length<=m:=by
 refine⟨L.V9.tb G L.perm (Q5 G L.fs L.perm L.up) λ x y i hx hy hi e=>(L.cl _ _ (G.eW.cl _ _ hi hx) (G.eW.cl _ _ hi hy)).mpr (FR G hx hy hi ((L.cl x y hx hy).mp e)),?_⟩;have nd:ch.Nodup:=(pairwise_map.mp L.V9.nd).imp λ z e=>z (by rw[e]);have:=List.Nodup.length_le_of_subset nd (l₂:=List.range m) λ z hz=>L.perm.mem_iff.mp (L.V9.sub z hz)
 rwa [x8]at this
theorem Jj(T:lR K mg)(lE:cL P w K mg base 1 "_law_key" ["_law_counts"] Cz):Kj P w K mg base 2 (El (top 22) 2 "_law_least.<locals>.<lambda>" mg) ["_law_x"] ["_law_first_of"] Cy:=by
 refine UY (Rm (by kernel_rfl) (by decide+kernel)) (λ ds cs M Q h=>?_) (λ _ _ _=>Yd λ _=>rfl) (λ A outer s H f c cl ds cs M Q hr h=>?_)
 ·obtain⟨m,x,g,a,rfl,_⟩:=h;rfl
 ·obtain⟨m,x,g,a,rfl,rfl,ha,hx,hl,k⟩:=h;refine⟨_,(aK lE (hr.mono (by decide)) (by rfl) (aa (aJ aH (ak 1) (ak 0) (λ _ _=>rfl)) ab)),?_⟩;rfl';refine cF ha (d:=fO (g x)) (bM (by rw[u7,l7 hx];rfl)) ?_;rfl';exact⟨(g x).map kI,by rw[zK],by rw[C1];exact hl,k⟩
theorem bO:aS ["_law_table_here","_law_classes_here","_law_first_of","_law_order","_law_chosen","_law_x","_law_least_own","_law_rows"] ["_law_table_here"] (au (top 22)):=⟨rfl,rfl,rfl,by decide+kernel,rfl,by decide+kernel,by decide+kernel⟩
theorem IL(F:oY K "_law_least" "_law_least" (top 22) .none 125 f fd)(T:lR K mg)(B:GA mg base 125 123)(pX:cL P w K mg base 1 "_law_classes" ["_law_table_here"] CC)(eh:cL P w K mg base 9 "_law_first_sums" ["_law_table_here"] rO)(lE:cL P w K mg base 1 "_law_key" ["_law_counts"] Cz):cE P w K mg base fX 15 f fd ["_law_table_here"] (dv K Cw):=by
 refine X2 F bO (λ ds M Q h=>?_) (λ A outer s H E ds M Q hr h=>?_)
 ·obtain⟨m,h,r,ls,rfl,_⟩:=h;rfl
 ·obtain⟨m,h,r,ls,rfl,hT,G,hm,hh,k⟩:=h;have pT:cu r ls=.tup [.tup (r.map row),row ls]:=rfl;have pP:=G.tb.len;have Gj:gE ["_law_x"] ["_law_first_of"] ((El (top 22) 2 "_law_least.<locals>.<lambda>" mg)).scope=true:=by kernel_rfl
  have RW:=(Jj (P:=P) (w:=w) (base:=base) T lE).mono (show _<=5 by decide);refine⟨_,(ae (aB (i:=1) bO.nd rfl (Or.inr rfl) (aK pX (hr.mono (by decide)) (by rfl) (aa (ak 0) ab)))
 (ae (aB (i:=2) bO.nd rfl (Or.inr rfl) (aK eh (hr.mono (by decide)) (by rfl) (aa (ak 0) ab)))
 (ae (aB (i:=3) bO.nd rfl (Or.inl rfl) (Lw (k:=5) (L:=El (top 22) 2 "_law_least.<locals>.<lambda>" mg) (cn:=[("_law_first_of",2)]) rfl (hr.mono (by decide)) (by rfl) T.sorted (by rfl) T.range (aa (aA bW (by rfl) T.len (by decide+kernel) (aa (aJ aH (ak 0) ah (λ _ _=>rfl)) ab)) ab) rfl B rfl rfl (by kernel_rfl) (R4 (by kernel_rfl)) (O6 (by kernel_rfl)) bO.nd))
 (ae (aB (i:=4) bO.nd rfl (Or.inl rfl) (cU ab))
 (ae (dU B7 rfl (cj (ak 3)) (bF (i:=5) bO.nd rfl (Or.inl rfl))
 (aj (bG (aI (gb hr.units) (aJ aH (ak 1) (ak 5) (λ _ _=>rfl)) (eO (tgs:=["_law_y"]) (fr:=[1]) ⟨bg (by kernel_rfl),rfl,(λ _ _ h=>h),(cj (ak 4)),(aQ (λ _ _ _ _ _=>(aF (i:=0) (show(["_law_y","_law_classes_here"]:List Str).Nodup by decide+kernel) rfl (Or.inl rfl))) (by decide)),(λ _ _ _ _ _=>bc),(λ _ _ _ _ _=>(aJ aH (ak 1) (ak 0) (λ _ _=>rfl)))⟩) rfl)
 (aj (cb (eQ i8 i5 i7 bU (ak 4) (aa (ak 5) ab))))
 aP)))
 (ae (aB (i:=6) bO.nd rfl (Or.inr rfl) (eO (tgs:=["_law_x"]) (fr:=[1]) ⟨bg (by kernel_rfl),rfl,(λ _ _ h=>h),(cj (ak 4)),(aQ (λ _ _ _ _ _=>(aF (i:=0) (show(["_law_x","_law_classes_here"]:List Str).Nodup by decide+kernel) rfl (Or.inl rfl))) (by decide)),(λ _ _ _ _ _=>bc),(λ _ _ _ _ _=>(aJ aH (ak 1) (ak 0) (λ _ _=>rfl)))⟩))
 (ae (df (i:=7) bO.nd rfl (Or.inl rfl) (tgs:=["_law_x"]) (fr:=[6,1,0]) ⟨bg (by kernel_rfl),rfl,(λ _ _ h=>h),(cj (ak 4)),(aQ (λ _ _ _ _ _=>(aF (i:=0) (show(["_law_x","_law_least_own","_law_classes_here","_law_table_here"]:List Str).Nodup by decide+kernel) rfl (Or.inl rfl))) (by decide)),(λ _ _ _ _ _=>bc),(λ _ _ _ _ _=>(fh bo cw (by rfl) T.tuple (by decide+kernel) (tgs:=["_law_y"]) (fr:=[1,2]) ⟨bg (by kernel_rfl),rfl,(λ _ _ h=>h),(cj (aJ aH (aJ aH (ak 3) ah (λ _ _=>rfl)) (ak 0) (λ _ _=>rfl))),(aQ (λ _ _ _ _ _=>(aF (i:=0) (show(["_law_y","_law_least_own","_law_classes_here"]:List Str).Nodup by decide+kernel) rfl (Or.inl rfl))) (by decide)),(λ _ _ _ _ _=>bc),(λ _ _ _ _ _=>(eQ i8 PySem.F.slot_list_index PySem.F.type_list_index (fK hr.units) (ak 1) (aa (aJ aH (ak 2) (ak 0) (λ _ _=>rfl)) ab)))⟩))⟩)
 (aj (aL (dA (aa (bq bo (by rfl) T.tuple (by decide+kernel) (aa (ak 7) ab)) (aa (fh bo cw (by rfl) T.tuple (by decide+kernel) (tgs:=["_law_k","_law_x"]) (fr:=[0]) ⟨bg (by kernel_rfl),rfl,(λ _ _ h=>h),(fJ rfl T.enumerate (aa (ak 4) ab)),(jE (λ _ _ _ _ _=>(kU rfl (cN (aF (i:=0) (show(["_law_k","_law_x","_law_table_here"]:List Str).Nodup by decide+kernel) rfl (Or.inl rfl)) (cN (aF (i:=1) (show(["_law_k","_law_x","_law_table_here"]:List Str).Nodup by decide+kernel) rfl (Or.inl rfl)) iJ)))) (by decide) (by decide)),(λ _ _ _ _ _=>(iE (aI (nY hr.units) (ak 1) (aJ aH (ak 2) ah (λ _ _=>rfl)) rfl))),(λ _ _ _ _ _=>(ak 0))⟩) ab)))))))))))),?_⟩
  rfl';refine⟨m,h,r,ls,rfl,G,by lia,λ pc f M1 sQ JC hf E1=>?_⟩;rfl';refine⟨m,h,r,ls,rfl,G,hm,hh,λ pg g M2 WX hg RB E2=>?_⟩;have JC:=E2 _ _ JC;have E2:=E1.trans E2;rw[pT];rfl';rw[C1,pP];refine⟨m,["_law_x"],["_law_first_of"],Cy,[.ref pg],λ jZ M'=>M'=M2/\jZ.length<=m/\∀i k,jZ[i]?=some k->Kk true M' k (N_ ((g i).map kI)),λ i=>N_ ((g i).map kI),rfl,by lia,RW,Gj,rfl,rfl,λ i x j d a b=>?_,E2 _ _ hT,⟨rfl,J9 _,λ i k e=>by simp at e⟩,?_,?_⟩
  ·cases i with
   |zero=>cases a;cases b;rfl
   |succ i=>cases a
  ·rintro jZ M' ⟨rfl,kl,kk⟩ gg;have gl:=(hg jZ.length gg).1.1;refine⟨m,jZ.length,g,pg,rfl,rfl,RB,gg,by lia,rfl,?_,λ i k e=>?_⟩
   ·rw[o6,j8];lia
   ·by_cases hi:i < jZ.length
    ·rw[c8 hi]at e;exact kk i k e
    ·rw[a9 (by lia)]at e;have RO:i - jZ.length=0:=by have:=(i3.mp e).1;simp at this;lia
     rw[RO]at e;have YU:i=jZ.length:=by lia
     subst YU;exact(B6 e).symm
  rintro jZ M' ⟨rfl,kl,kk⟩ hlen;refine⟨kk,λ po outD Tt ho=>?_⟩;obtain⟨ord,rfl,perm,up⟩:=wI ho;have mo:∀x∈ord,x < m:=λ x hx=>mem_range.mp (perm.mem_iff.mp hx);have ol:ord.length=m:=by rw[perm.length_eq,x8]
  have E3:=E2.new Tt (.lst (ord.map nD));have OB:ai M' po (.lst (ord.map nD)) pc=some (.lst ((List.range m).map λ x=>nD (f x))):=by rw[aq (a_ JC Tt)];exact JC
  have OA:ai M' po (.lst (ord.map nD)) po=some (.lst (ord.map nD)):=af;generalize ai M' po (.lst (ord.map nD))=M3 at*;have fx:∀x,x < m->gS ((List.range m).map λ x=>nD (f x)) (x:Int)=some (nD (f x)):=λ x hx=>bM (by rw[u7,l7 hx];rfl);clear kk kl ho RW Gj RB;rfl';intro ph PD;have Vq:=E3.free PD;have E4:=E3.new PD (.lst []);have lY:ai M3 ph (.lst []) pc=some (.lst ((List.range m).map λ x=>nD (f x))):=by rw[aq (a_ OB PD)];exact OB
  have xh:ai M3 ph (.lst []) po=some (.lst (ord.map nD)):=by rw[aq (a_ OA PD)];exact OA
  have oA:ai M3 ph (.lst []) ph=some (.lst (([]:List Nat).map nD)):=af;have XY:po≠ph:=a_ OA PD;have XZ:pc≠ph:=a_ OB PD;generalize ai M3 ph (.lst [])=M4 at*;rfl';refine zq (ds:=ord.map nD) (λ i δ M'=>∃(v5:Option D) (ch:List Nat),δ=[some (.tup [.tup (r.map row),row ls]),some (.ref pc),some (.ref pg),some (.ref po),some (.ref ph),v5,none,none]/\BL f (ord.take i) ch/\M' ph=some (.lst (ch.map nD))/\M' po=some (.lst (ord.map nD))/\M' pc=some (.lst ((List.range m).map λ x=>nD (f x)))/\bi M M') ⟨_,[],rfl,BL.nil f,oA,xh,lY,E4⟩ (λ i δ M' _ hI=>?_) (λ i d δ M' hd hI=>?_) (λ δ M' hI=>?_)
  ·obtain⟨_,_,_,_,_,h5,_⟩:=hI;exact h5
  ·clear oA xh lY E4;obtain⟨v5,ch,rfl,C,oA,xh,lY,E4⟩:=hI;rw[u7]at hd;obtain⟨x,hx,rfl⟩:=Option.map_eq_some_iff.mp hd;have xm:=mo x (k8 hx);have cm:∀c∈ch,c < m:=λ c hc=>mo c (mem_of_mem_take (C.sub c hc));have cl:ch.length<=m:=by
    have nd:ch.Nodup:=(pairwise_map.mp C.nd).imp λ z e=>z (by rw[e]);have:=List.Nodup.length_le_of_subset nd (l₂:=List.range m) λ z hz=>mem_range.mpr (cm z hz)
    rwa [x8]at this
   rfl';refine cF lY (fx x xm) ?_;rfl';refine eA nD (λ y=>nD (f y)) (by lia) oA (λ j y N hy hN=>?_) ?_
   ·rfl';exact cF lY (fx y (cm y (k8 hy))) hN
   intro pt ER;have e5:(ch.map λ y=>nD (f y))=(ch.map f).map nD:=by rw[H9];rfl
   rw[e5];have E5:=E4.new ER (.lst ((ch.map f).map nD));have xi:ai M' pt (.lst ((ch.map f).map nD)) ph=some (.lst (ch.map nD)):=by rw[aq (a_ oA ER)];exact oA
   have RA:ai M' pt (.lst ((ch.map f).map nD)) po=some (.lst (ord.map nD)):=by rw[aq (a_ xh ER)];exact xh
   have JB:ai M' pt (.lst ((ch.map f).map nD)) pc=some (.lst ((List.range m).map λ x=>nD (f x))):=by rw[aq (a_ lY ER)];exact lY
   have Jz:ai M' pt (.lst ((ch.map f).map nD)) pt=some (.lst ((ch.map f).map nD)):=af;generalize ai M' pt (.lst ((ch.map f).map nD))=M5 at*;refine nO (k:=0) (b:=decide (f x∈ch.map f)) (ds:=(ch.map f).map nD) (dg Jz) (cI 0 _) (dY λ x _=>cI 0 _) (by decide) (by rw[decide_eq_true_iff];exact(sr cD.inj _).symm) ?_;have tk:=take_one hx;refine eC (λ hz=>?_) (λ hz=>?_)
   ·have hz:f x∉ch.map f:=by simpa using hz
    rfl';refine⟨⟨rfl,_,xi⟩,?_⟩;rfl';refine gC xi (by rw[C1];exact p6 (show ch.length<=300 by lia) (by decide)) ?_;refine⟨_,ch++[x],rfl,by rw[tk];exact C.add hz,by rw[af,C3];rfl,by rw[aq XY];exact RA,by rw[aq XZ];exact JB,E5.own Vq⟩
   ·have hz:f x∈ch.map f:=Decidable.not_not.mp (by simpa using hz);exact⟨_,ch,rfl,by rw[tk];exact C.skip hz,xi,RA,JB,E5⟩
  clear oA xh lY E4;obtain⟨v5,ch,rfl,C,oA,xh,lY,E4⟩:=hI;rw[C1,z9]at C;have cm:∀c∈ch,c < m:=λ c hc=>mo c (C.sub c hc);have cl:ch.length<=m:=by
   have nd:ch.Nodup:=(pairwise_map.mp C.nd).imp λ z e=>z (by rw[e]);have:=List.Nodup.length_le_of_subset nd (l₂:=List.range m) λ z hz=>mem_range.mpr (cm z hz)
   rwa [x8]at this
  rfl';refine eA nD (λ y=>nD (f y)) (by lia) oA (λ j y N hy hN=>?_) ?_
  ·rfl';exact cF lY (fx y (cm y (k8 hy))) hN
  intro pt ER;have e5:(ch.map λ y=>nD (f y))=(ch.map f).map nD:=by rw[H9];rfl
  rw[e5];have E5:=E4.new ER (.lst ((ch.map f).map nD));have xi:ai M' pt (.lst ((ch.map f).map nD)) ph=some (.lst (ch.map nD)):=by rw[aq (a_ oA ER)];exact oA
  have JB:ai M' pt (.lst ((ch.map f).map nD)) pc=some (.lst ((List.range m).map λ x=>nD (f x))):=by rw[aq (a_ lY ER)];exact lY
  have Jz:ai M' pt (.lst ((ch.map f).map nD)) pt=some (.lst ((ch.map f).map nD)):=af;generalize ai M' pt (.lst ((ch.map f).map nD))=M5 at*;rfl';refine eA nD (λ x=>row (fF r h f ch x)) (by lia) xi (λ j x N hx hN=>?_) ?_
  ·have xm:=cm x (k8 hx);rfl';refine bp (mn G.tb xm) ?_;rfl';refine dO (xs:=(List.range h).map λ i=>aM r i x) (enc:=nD) (λ y=>nD (BP f ch y)) (by rw[C1,x8];lia) (λ j y M2 hy hN=>?_) ?_
   ·rw[u7]at hy;obtain⟨i,hi,rfl⟩:=Option.map_eq_some_iff.mp hy;have ym:=G.eW.cl _ _ (nK hi) xm;rfl';refine⟨⟨rfl,_,Jz⟩,?_⟩;rfl';refine cF JB (fx _ ym) ?_;rfl';exact ib nD cD.inj Jz (C.TJ _ (perm.mem_iff.mpr (mem_range.mpr ym))) cD.pl (by decide) hN
   ·rfl';have e6:((List.range h).map λ i=>aM r i x).map (λ y=>nD (BP f ch y))=(fF r h f ch x).map D.int:=by unfold fF;rw[H9,H9];rfl
    rw[e6];exact hN
  intro pr Oy;have e7:(ch.map λ x=>row (fF r h f ch x))=(ch.map (fF r h f ch)).map row:=by rw[H9];rfl
  rw[e7];have E6:=E5.new Oy (.lst ((ch.map (fF r h f ch)).map row));have Vr:ai M5 pr (.lst ((ch.map (fF r h f ch)).map row)) ph=some (.lst (ch.map nD)):=by rw[aq (a_ xi Oy)];exact xi
  have Vo:ai M5 pr (.lst ((ch.map (fF r h f ch)).map row)) pr=some (.lst ((ch.map (fF r h f ch)).map row)):=af;generalize ai M5 pr (.lst ((ch.map (fF r h f ch)).map row))=M6 at*;rfl';refine bK Vo ?_;rfl';refine xE (ds:=dS (ch.map nD)) (λ i zn M7=>M7=M6/\∃pB:Row,zn=pB.map D.int/\gs i pB/\∀d x,d < i->ch[d]?=some x->dH pB d=dH ls x) ⟨rfl,[],rfl,gs.nil 0,λ d x z=>absurd z (by lia)⟩ (λ i zn M7 _ h=>?_) (λ i zn M7 hi h=>?_) (λ i d zn M7 hd h=>?_) (λ zn M7 h=>?_)
  ·obtain⟨rfl,_⟩:=h;show fN (.ref ph) M7=_;unfold fN;rw[dg Vr];rfl
  ·obtain⟨rfl,pB,rfl,L,_⟩:=h;rw[b_,C1]at hi;have:=L.ck;rw[C1];exact small (by lia)
  ·obtain⟨rfl,pB,rfl,L,is⟩:=h;obtain⟨hi,rfl⟩:=gG hd;rw[C1]at hi;obtain⟨x,hx⟩:∃x,ch[i]?=some x:=⟨_,i6 hi⟩;rw[show(ch.map nD).getD i .bw=.int (x:Int) by rw[c7,u7,hx];rfl];rfl';refine jN ?_;have out:dH pB i=false:=by unfold dH;exact B3 λ z=>by have:=(L.2 _ z).2;lia
   refine eC (λ hz=>?_) (λ hz=>?_)
   ·rfl';refine⟨rfl,pB++[(i:Int)],by rw[C3];rfl,L.add,λ d y hd hy=>?_⟩;by_cases z:d=i
    ·subst z;rw[hx]at hy;cases hy;rw[hz];unfold dH;exact C8 (by simp)
    ·rw[<- is d y (by lia) hy];unfold dH;have:(d:Int)≠(i:Int):=by lia
     simp[this]
   ·refine⟨rfl,pB,rfl,L.up,λ d y hd hy=>?_⟩;by_cases z:d=i
    ·subst z;rw[hx]at hy;cases hy;rw[hz,out]
    ·exact is d y (by lia) hy
  ·obtain⟨rfl,pB,rfl,L,is⟩:=h;rw[b_,C1]at L is;rfl';exact av (k f g ord ch pB _ ⟨hf,hg,perm,up,C,L,λ d x hx=>is d x (i3.mp hx).1 hx⟩ E6)
def yh:iY:=λ ds M Q=>∃(f c:ww) (m h:Nat) (r:List Row) (ls:Row),ds=[.ref f,cu r ls]/\SD M/\Flow M f c/\dD m h r/\m<=19/\h<=6/\gs m ls/\∀(m2:Nat) (q:List Row) (cz:Row) (M':Mem),dD m2 h q->m2<=19->gs m2 cz->Fl f c M M'->Q (cu q cz) M'
def Kr:iY:=λ ds M Q=>∃(f c:ww) (m h:Nat) (r:List Row) (ls:Row),ds=[.ref f,cu r ls]/\Flow M f c/\dD m h r/\m<=19/\gs m ls/\∀(cz:Row) (M':Mem),gs m cz->Fl f c M M'->Q (cu r cz) M'
theorem gz:aS ["_law_flow_here","_law_table_here","_law_many","_law_way"] ["_law_flow_here","_law_table_here"] (au (top 23)):=⟨rfl,rfl,rfl,by decide+kernel,rfl,by decide+kernel,by decide+kernel⟩
theorem DS(F:jb K "_law_other" "_law_other" (top 23) f fd)(T:lR K mg)(az:cL P w K mg base 1 "_law_pick" ["_law_flow_here","_law_many"] gy)(d_:cL P w K mg base 3 "_law_renumbered" ["_law_flow_here","_law_table_here"] Ct)(iy:cL P w K mg base 2 "_law_blown" ["_law_flow_here","_law_table_here"] rR)(vn:cL P w K mg base 15 "_law_least" ["_law_table_here"] Cw)(eT:cL P w K mg base 2 "_law_any_table" ["_law_flow_here","_law_many"] wj):cE P w K mg base fX 16 f fd ["_law_flow_here","_law_table_here"] (dv K yh):=by
 refine nW F gz (λ ds M Q h=>?_) (λ dQ A outer s H E ds M Q hr h=>?_)
 ·obtain⟨f,c,m,h,r,ls,rfl,_⟩:=h;rfl
 ·obtain⟨f,cc,m,h,r,ls,rfl,hT,hF,G,hm,hh,L,k⟩:=h;have KU:=L' G.tb;have pP:=G.tb.len;have pT:cu r ls=.tup [.tup (r.map row),row ls]:=rfl;rw[pT];refine⟨_,(ae (aB (i:=2) gz.nd rfl (Or.inl rfl) (aA bW (by rfl) T.len (by decide+kernel) (aa (aJ aH (aJ aH (ak 1) ah (λ _ _=>rfl)) ah (λ _ _=>rfl)) ab)))
 (ae (aB (i:=3) gz.nd rfl (Or.inl rfl) (aK az (hr.mono (by decide)) (by rfl) (aa (ak 0) (aa ah ab))))
 (ae (bG (aI (cO hr.units) (ak 3) ah (aG _))
 (aj (aL (aK d_ (hr.mono (by decide)) (by rfl) (aa (ak 0) (aa (ak 1) ab)))))
 aP)
 (ae (bG (mU (aI (cO hr.units) (ak 3) ah (aG _)) (mU (aI nX (aA bW (by rfl) T.len (by decide+kernel) (aa (aJ aH (ak 1) ah (λ _ _=>rfl)) ab)) ah (aG _)) (rJ (aI nX (ak 2) ah (aG _))))).pt
 (aj (aL (aK iy (hr.mono (by decide)) (by rfl) (aa (ak 0) (aa (ak 1) ab)))))
 aP)
 (ae (bG (aI (cO hr.units) (ak 3) ah (aG _))
 (aj (aL (aK vn (hr.mono (by decide)) (by rfl) (aa (ak 1) ab))))
 aP)
 (ae (bG (aI (cO hr.units) (ak 3) ah (aG _))
 (aj (aL (ak 1)))
 aP)
 (aj (aL (aK eT (hr.mono (by decide)) (by rfl) (aa (ak 0) (aa (ak 2) ab))))))))))),?_⟩
  rfl';refine bp KU.1 ?_;rfl';rw[C1,KU.2];refine⟨f,cc,5,rfl,hF,by decide,by decide,λ d1 o1 JI Lc va=>?_⟩;have F1:Fl f cc M _:=Fl.pick va;have Y':SD (ai M f o1):=DO F1 hT hF;generalize ai M f o1=M1 at*;rfl';refine aO (λ h0=>?_) (λ h0=>?_)
  ·rfl';refine⟨f,cc,m,h,r,ls,rfl,F1.bz,G,by lia,L,λ q cz M' Gq Lq Fq=>?_⟩;exact av (k m q cz _ Gq hm Lq (F1.trans Fq))
  with_reducible refine yq ?_
  with_reducible refine gB (λ δ' M'=>δ'=[some (.ref f),some (.tup [.tup (r.map row),row ls]),some (.int (h:Int)),some (.int d1)]/\M'=M1) (λ N hN=>?_) ?_
  ·have go:=hN _ _ ⟨rfl,rfl⟩;rfl';refine aO (λ _=>?_) (λ _=>?_)
   ·rfl';rw[C1,pP];refine aO (λ h1=>?_) (λ _=>?_)
    ·rfl';refine aO (λ h2=>?_) (λ _=>?_)
     ·rfl';refine⟨f,cc,m,h,r,ls,rfl,F1.bz,G,by lia,by lia,λ m2 q cz M' Gq hq Lq Fq=>?_⟩;exact av (k m2 q cz _ Gq (by lia) Lq (F1.trans Fq))
     ·exact go
    ·exact go
   ·exact go
  rintro δ' M' ⟨rfl,rfl⟩;rfl';refine aO (λ _=>?_) (λ _=>?_)
  ·rfl';refine⟨m,h,r,ls,rfl,Y',G,hm,hh,λ fk g ord ch cz M2 LL E2=>?_⟩;have tb:=LL.tb G;exact av (k ch.length _ cz _ tb.1 (by have:=tb.2;lia) LL.Yb (F1.trans (lA E2 F1.bz)))
  rfl';refine aO (λ _=>?_) (λ _=>?_)
  ·rfl';exact av (k m r ls _ G hm L F1)
  rfl';refine⟨f,cc,h,rfl,F1.bz,hh,λ m2 q cz M' Gq hq Lq Fq=>?_⟩;exact av (k m2 q cz _ Gq (by lia) Lq (F1.trans Fq))
theorem ja:aS ["_law_flow_here","_law_table_here","_law_x"] ["_law_flow_here","_law_table_here"] (au (top 24)):=⟨rfl,rfl,rfl,by decide+kernel,rfl,by decide+kernel,by decide+kernel⟩
theorem NN(F:jb K "_law_spoilt" "_law_spoilt" (top 24) f fd)(T:lR K mg)(az:cL P w K mg base 1 "_law_pick" ["_law_flow_here","_law_many"] gy):cE P w K mg base fX 2 f fd ["_law_flow_here","_law_table_here"] (dv K Kr):=by
 refine nW F ja (λ ds M Q h=>?_) (λ dQ A outer s H E ds M Q hr h=>?_)
 ·obtain⟨f,c,m,h,r,ls,rfl,_⟩:=h;rfl
 ·obtain⟨f,cc,m,h,r,ls,rfl,hF,G,hm,L,k⟩:=h;have pP:=G.tb.len;have Oz:=G.tb.pos;have pT:cu r ls=.tup [.tup (r.map row),row ls]:=rfl;have YN:=L.ck;rw[pT];refine⟨_,(ae (aB (i:=2) ja.nd rfl (Or.inr rfl) (aK az (hr.mono (by decide)) (by rfl) (aa (ak 0) (aa (aA bW (by rfl) T.len (by decide+kernel) (aa (aJ aH (ak 1) ah (λ _ _=>rfl)) ab)) ab))))
 (ae (bG (aI (nY hr.units) (ak 2) (aJ aH (ak 1) ah (λ _ _=>rfl)) rfl)
 (aj (aL (dA (aa (aJ aH (ak 1) ah (λ _ _=>rfl)) (aa (fh bo cw (by rfl) T.tuple (by decide+kernel) (tgs:=["_law_y"]) (fr:=[2]) ⟨bg (by kernel_rfl),rfl,(λ _ _ h=>h),(cj (aJ aH (ak 1) ah (λ _ _=>rfl))),(aQ (λ _ _ _ _ _=>(aF (i:=0) (show(["_law_y","_law_x"]:List Str).Nodup by decide+kernel) rfl (Or.inl rfl))) (by decide)),(λ _ _ _ _ _=>(iE (aI (jT hr.units) (ak 0) (ak 1) (aG _)))),(λ _ _ _ _ _=>(ak 0))⟩) ab)))))
 aP)
 (aj (aL (dA (aa (aJ aH (ak 1) ah (λ _ _=>rfl)) (aa (bq bo (by rfl) T.tuple (by decide+kernel) (aa (aA J' (by rfl) T.sorted (by decide+kernel) (aa (bS bT (aJ aH (ak 1) ah (λ _ _=>rfl)) (dA (aa (ak 2) ab))) ab)) ab)) ab))))))),?_⟩
  rfl';rw[C1,pP];refine⟨f,cc,m,rfl,hF,by lia,by lia,λ d1 o1 JI Lc va=>?_⟩;have F1:Fl f cc M _:=Fl.pick va;generalize ai M f o1=M1 at*;obtain⟨x,rfl⟩:∃n:Nat,d1=(n:Int):=⟨d1.toNat,by lia⟩;rfl';refine jN ?_;refine eC (λ hz=>?_) (λ hz=>?_)
  ·rfl';refine jo (λ i zn M'=>M'=M1/\zn=(((ls.take i).filter λ y=>y != (x:Int))).map D.int) ⟨rfl,rfl⟩ (λ i zn M' hi h=>?_) (λ i d zn M' hd h=>?_) (λ zn M' h=>?_)
   ·obtain⟨_,rfl⟩:=h;have:=length_filter_le (λ y=>y != (x:Int)) (ls.take i);rw[A2]at this;rw[C1];exact small (by lia)
   ·obtain⟨rfl,rfl⟩:=h;rw[u7]at hd;obtain⟨y,hy,rfl⟩:=Option.map_eq_some_iff.mp hd;have tk:=take_one hy;rfl';refine eC (λ hn=>?_) (λ hn=>?_)
    ·rfl';refine⟨rfl,?_⟩;have hn:y≠(x:Int):=by simpa using hn
     rw[tk,filter_append,C3,filter_cons_of_pos (by simp[hn])];rfl
    ·refine⟨rfl,?_⟩;have hn:y=(x:Int):=by simpa using hn
     rw[tk,filter_append,filter_cons_of_neg (by simp[hn])];simp
   ·obtain⟨rfl,rfl⟩:=h;rw[C1,z9];rfl';exact av (k (ls.filter λ y=>y != (x:Int)) _ ⟨L.1.sublist filter_sublist,λ y hy=>L.2 y (mem_filter.mp hy).1⟩ F1)
  ·rfl';refine nQ (by rw[C1];exact small (by show ls.length+1<=10000;lia)) ?_;rfl';refine⟨ls++[(x:Int)],by rw[C3];rfl,by rw[o6,j8];lia,λ xs p hp hs YH=>?_⟩;rfl';refine bK af ?_;rfl';refine av (k xs _ (Ej hs (hp.nodup_iff.mpr ?_) λ y hy=>?_) (F1.trans (Fl.put F1.bz YH)))
   ·refine nodup_append.mpr ⟨L.1.imp λ z=>by lia,by simp,λ a ha b hb e=>?_⟩;rw[p8]at hb;subst e;subst hb;unfold dH at hz;exact q8 hz ha
   ·rcases C2.mp (hp.mem_iff.mp hy)with z|z
    ·exact L.2 y z
    ·rw[p8.mp z];lia
theorem Ft{cs:Row}(h:(dS (cs.map D.int))[i]?=some d):i < cs.length/\cs[i]?=some (cs.getD i 0)/\cs.take (i+1)=cs.take i++[cs.getD i 0]/\d=.tup [.int (i:Int),.int (cs.getD i 0)]:=by
 obtain⟨hi,e⟩:=gG h;rw[C1]at hi;have e1:cs[i]?=some (cs.getD i 0):=by rw[c7,i6 hi];rfl
 refine⟨hi,e1,by rw[take_add_one,e1];rfl,?_⟩;rw[e,c7,u7,e1];rfl
abbrev pN(kv:List (Nat×Nat)):List (D×D):=xy nD (kv.map λ e=>(e.1,nD e.2))
theorem Jl(kv:List (Nat×Nat)):(pN kv).length=kv.length:=by simp[xy]
theorem wX(kv:List (Nat×Nat)):(kv.map λ e=>(e.1,nD e.2)).map (·.1)=kv.map (·.1):=by rw[H9];rfl
theorem om{y v:Nat}(nd:(kv.map (·.1)).Nodup)(h:(y,v)∈kv):dk (pN kv) (nD y)=some (nD v):=kZ cD.inj (by rw[wX];exact nd) (H0.mpr ⟨_,h,rfl⟩)
theorem Rq{y:Nat}(h:y∉kv.map (·.1)):dk (pN kv) (nD y)=none:=k_ cD.inj (by rw[wX];exact h)
theorem N7{y v:Nat}(h:y∉kv.map (·.1)):putD (pN kv) (nD y) (nD v)=pN (kv++[(y,v)]):=by unfold pN;rw[yz cD.inj _ (by rw[wX];exact h),C3];rfl
def CD:iY:=λ ds M Q=>∃(m h m2 x:Nat) (r q:List Row),ds=[.tup (r.map row),.tup (q.map row),.int x]/\dD m h r/\Tb m2 h q/\x < m2/\∀(p:ww) (kv:List (Nat×Nat)) (M':Mem),M p=none->M' p=some (.di false (pN kv))->Xu m r q h x kv->bi M M'->Q (.ref p) M'
theorem dW:aS ["steps","others","start","told","waiting","thing","heap","later"] ["steps","others","start"] (au (top 1)):=⟨rfl,rfl,rfl,by decide+kernel,rfl,by decide+kernel,by decide+kernel⟩
theorem IT(F:jb K "carried" "carried" (top 1) f fd)(T:lR K mg):cE P w K mg base fX 1 f fd ["steps","others","start"] (dv K CD):=by
 refine nW F dW (λ ds M Q h=>?_) (λ dQ A outer s H E ds M Q hr h=>?_)
 ·obtain⟨m,h,m2,x,r,q,rfl,_⟩:=h;rfl
 ·obtain⟨m,h,m2,x,r,q,rfl,G,T2,hx,k⟩:=h;have hm:=G.tb.ck;have hh:=G.tb.xq;refine⟨_,(ae (aB (i:=3) dW.nd rfl (Or.inl rfl) (GG hr.units ah (ak 2)))
 (ae (aB (i:=4) dW.nd rfl (Or.inl rfl) (cU (aa ah ab)))
 (ae (fg B7 (aI (jT hr.units) (ak 4) (cU ab) (aG _))
 (ae (aB (i:=5) dW.nd rfl (Or.inl rfl) (P0 i8 PySem.F.slot_list_pop PySem.F.type_list_pop KI (ak 4)))
 (aj (dU B7 rfl (fJ rfl T.enumerate (aa (aJ (eG hr.units) (ak 0) (ak 5) (λ _ _=>rfl)) ab)) (kH (n:=2) rfl (cM (bF (i:=6) dW.nd rfl (Or.inl rfl)) (cM (bF (i:=7) dW.nd rfl (Or.inl rfl)) iF)))
 (aj (bG (aI (DX hr.units) (ak 7) (ak 3) rfl)
 (ae (gu (aJ (eG hr.units) (aJ (eG hr.units) (ak 1) (aJ (eG hr.units) (ak 3) (ak 5) (λ _ _=>rfl)) (λ _ _=>rfl)) (ak 6) (λ _ _=>rfl)) (jc (ak 3) (ak 7) (LS hr.units)))
 (aj (cb (eQ i8 i5 i7 bU (ak 4) (aa (ak 7) ab)))))
 aP))))))
 (aj (aL (ak 3)))))),?_⟩
  rfl';refine Dr false λ p hp=>?_;rfl';refine⟨af,je 0,?_⟩;rw[fb];have E1:bi M (ai M p (.di false [(.int 0,.int x)])):=bi.new bi.rfl hp _;have h1:ai M p (.di false [(.int 0,.int x)]) p=some (.di false (pN [(0,x)])):=af;generalize ai M p (.di false [(.int 0,.int x)])=M1 at*;rfl';intro w hw;have WN:=E1.free hw;have pw:p≠w:=a_ h1 hw;have E2:=E1.new hw (.lst [.int 0]);have h2:ai M1 w (.lst [.int 0]) p=some (.di false (pN [(0,x)])):=by rw[aq pw];exact h1
  have w2:ai M1 w (.lst [.int 0]) w=some (.lst ([0].map nD)):=af;generalize ai M1 w (.lst [.int 0])=M2 at*;clear E1 h1 M1 hw;rfl';refine fu ⟨λ me δ M'=>∃(v5 v6 v7:Option D) (kv:List (Nat×Nat)) (ws:List Nat),δ=[some (.tup (r.map row)),some (.tup (q.map row)),some (.int x),some (.ref p),some (.ref w),v5,v6,v7]/\M' p=some (.di false (pN kv))/\M' w=some (.lst (ws.map nD))/\zY r q h x kv ws/\bi M M'/\ws.length<=kv.length/\me=2*(m - kv.length)+ws.length,⟨_,none,none,none,[(0,x)],[0],rfl,h2,w2,zY.start r q h x,E2,J7 _,rfl⟩,?_⟩;clear h2 w2 E2 M2;rintro me δ M1 ⟨v5,v6,v7,kv,ws,rfl,h1,w1,C,E1,lw,rfl⟩;have kf:=C.ck G T2 hx;rfl';intro e he;refine mq (k:=0) (b:=decide (ws=[])) (by rw[aq (a_ w1 he)];exact w1) af (dY λ x _=>cI 0 _) (λ e he=>by cases he) (by decide) (Ec (by rw[decide_eq_true_iff])) ?_;have h1:ai M1 e (.lst []) p=some (.di false (pN kv)):=by rw[aq (a_ h1 he)];exact h1
  have w1:ai M1 e (.lst []) w=some (.lst (ws.map nD)):=by rw[aq (a_ w1 he)];exact w1
  have E1:=E1.new he (.lst []);generalize ai M1 e (.lst [])=M2 at*;refine eC (λ hn=>?_) (λ hn=>?_)
  ·have hn:ws≠[]:=by simpa using hn
   obtain⟨B_,y,rfl⟩:∃B_ y,ws=B_++[y]:=⟨_,_,(dropLast_concat_getLast hn).symm⟩;obtain⟨v,CI⟩:=C.pop;have hy:=yA G T2 hx (C.pr _ CI.at');refine⟨λ δ' M'=>∃(v5 v6 v7:Option D) (lJ:List (Nat×Nat)) (vN:List Nat),δ'=[some (.tup (r.map row)),some (.tup (q.map row)),some (.int x),some (.ref p),some (.ref w),v5,v6,v7]/\M' p=some (.di false (pN lJ))/\M' w=some (.lst (vN.map nD))/\zY r q h x lJ vN/\bi M M'/\kv.length+vN.length=lJ.length+B_.length/\kv.length<=lJ.length,?_,?_⟩
   ·rintro δ' M' ⟨v5,v6,v7,lJ,vN,rfl,a1,a2,a3,a4,a5,a6⟩;have:=a3.ck G T2 hx;rw[o6,j8]at lw;exact⟨_,by rw[o6,j8];lia,v5,v6,v7,lJ,vN,rfl,a1,a2,a3,a4,by lia,rfl⟩
   rfl';refine⟨⟨rfl,_,w1⟩,?_⟩;rfl';refine Mh (ds:=B_.map nD) (y:=nD y) (by rw[w1,C3];rfl) ?_;have h1:ai M2 w (.lst (B_.map nD)) p=some (.di false (pN kv)):=by rw[aq pw];exact h1
   have w1:ai M2 w (.lst (B_.map nD)) w=some (.lst (B_.map nD)):=af;have E1:bi M (ai M2 w (.lst (B_.map nD))):=E1.own WN;generalize ai M2 w (.lst (B_.map nD))=M3 at*;obtain⟨r1,r2,r3⟩:=nJ G.tb hy.1;obtain⟨q1,q2,q3⟩:=nJ T2 hy.2;rfl';refine cW (bp r1 ?_);rfl';refine iw (λ i δ M'=>∃(v6 v7:Option D) (lJ:List (Nat×Nat)) (vN:List Nat),δ=[some (.tup (r.map row)),some (.tup (q.map row)),some (.int x),some (.ref p),some (.ref w),some (nD y),v6,v7]/\M' p=some (.di false (pN lJ))/\M' w=some (.lst (vN.map nD))/\qo r q h x lJ vN y v i/\bi M M'/\kv.length+vN.length=lJ.length+B_.length/\kv.length<=lJ.length/\lJ.length<=m) ⟨v6,v7,kv,B_,rfl,h1,w1,CI,E1,rfl,J7 _,kf⟩ (λ i d δ M' hd hI=>?_) (λ δ M' hI=>?_)
   ·clear h1 w1 CI E1;obtain⟨v6,v7,lJ,vN,rfl,h1,w1,CI,E1,l1,l2,l3⟩:=hI;obtain⟨hi,e1,_,rfl⟩:=Ft hd;rw[r2]at hi;have ex:(r.getD y []).getD i 0=(aM r i y:Int):=(G.tb.at hy.1 hi).2.1;rw[ex];have ez:D.int (aM r i y:Int)=nD (aM r i y):=rfl;rw[ez];rfl';refine AI h1 (je _) ?_;by_cases pR:aM r i y∈lJ.map (·.1)
    ·obtain⟨en,he,ee⟩:=H0.mp pR;rw[show(!(dk (pN lJ) (nD (aM r i y))).isSome)=false by rw[<- ee,om CI.nd (v:=en.2) he];rfl];rfl';exact⟨_,_,lJ,vN,rfl,h1,w1,CI.old pR,E1,l1,l2,l3⟩
    ·rw[show(!(dk (pN lJ) (nD (aM r i y))).isSome)=true by rw[Rq pR];rfl];rfl';refine wB h1 (je _) (om CI.nd CI.at') ?_;rfl';refine cW (bp q1 ?_);rfl';refine cW (bp (d:=nD (aM q i v)) ?_ ?_)
     ·exact(wc T2 hy.2 hi).2
     rfl';refine Hm h1 (je _) (by rw[Jl];exact p6 (show lJ.length<=300 by lia) (by decide)) ?_;rw[N7 pR];have w2:ai M' p (.di false (pN (lJ++[(aM r i y,aM q i v)]))) w=some (.lst (vN.map nD)):=by rw[aq (K8 pw)];exact w1
     have h2:ai M' p (.di false (pN (lJ++[(aM r i y,aM q i v)]))) p=some (.di false (pN (lJ++[(aM r i y,aM q i v)]))):=af;have E2:bi M (ai M' p (.di false (pN (lJ++[(aM r i y,aM q i v)])))):=E1.own hp;generalize ai M' p (.di false (pN (lJ++[(aM r i y,aM q i v)])))=M4 at*;have CN:=CI.new hi pR;have nf:=CN.nd;have l4:(lJ++[(aM r i y,aM q i v)]).length<=m:=by
      have:=List.Nodup.length_le_of_subset nf (l₂:=List.range m) λ z hz=>by obtain⟨e,he,rfl⟩:=H0.mp hz;exact mem_range.mpr (yA G T2 hx (CN.pr e he)).1
      rwa [C1,x8]at this
     rfl';refine⟨⟨rfl,_,w2⟩,?_⟩;rfl';refine gC w2 (by rw[C1];exact p6 (show vN.length<=700 by rw[o6,j8]at lw;lia) (by decide)) ?_;refine⟨_,_,_,vN++[aM r i y],rfl,by rw[aq pw];exact h2,by rw[af,C3];rfl,CN,E2.own WN,?_,?_,l4⟩
     ·rw[o6,o6,j8,j8];lia
     ·rw[o6];lia
   ·obtain⟨v6,v7,lJ,vN,rfl,h1,w1,CI,E1,l1,l2,l3⟩:=hI;rw[b_,C1,r2]at CI;exact⟨_,_,_,lJ,vN,rfl,h1,w1,CI.done,E1,l1,l2⟩
  ·have hn:ws=[]:=by simpa using hn
   subst hn;rfl';exact av (k p kv _ hp h1 (C.ZV G T2 hx) E1)
def uQ(m h:Nat)(r q:List Row)(V:List Nat):Bool:=(List.range m).all λ x=>(List.range h).all λ i=>decide (kd V (aM r i x)=aM q i (kd V x))
theorem iN{h:Nat}{q:List Row}{V:List Nat}:uQ m h r q V=true↔∀x,x < m->∀i,i < h->kd V (aM r i x)=aM q i (kd V x):=by
 unfold uQ;rw[A8];constructor
 ·intro z x hx i hi;have:=A8.mp (z x (mem_range.mpr hx)) i (mem_range.mpr hi);exact of_decide_eq_true this
 ·intro z x hx;refine A8.mpr λ i hi=>C8 (z x (mem_range.mp hx) i (mem_range.mp hi))
def CA:iY:=λ ds M Q=>∃(m h m2:Nat) (r q:List Row) (V:List Nat),ds=[.tup (r.map row),.tup (q.map row),fO V]/\Tb m h r/\Tb m2 h q/\V.length=m/\(∀v∈V,v < m2)/\∀M',bi M M'->Q (.bl (uQ m h r q V)) M'
def Cv:iY:=λ ds M Q=>∃(m h m2:Nat) (r q:List Row) (ls cz:Row),ds=[cu r ls,cu q cz]/\dD m h r/\Tb m2 h q/\(∀g M',rF m h r ls m2 q cz g->bi M M'->Q (fO ((List.range m).map g)) M')/\((∀g,¬rF m h r ls m2 q cz g)->∀M',bi M M'->Q .bw M')
theorem yl{h:Nat}(G:Tb m h r){x:Nat}(hx:x < m):r.getD x []=((List.range h).map λ i=>aM r i x).map kI:=by
 obtain⟨e1,e2,e3⟩:=nJ G hx;refine y3 λ i=>?_;rw[u7,u7];by_cases hi:i < h
 ·rw[l7 hi];have:=(G.at hx hi).2.1;rw[c7 (l:=r.getD x []),i6 (by lia)]at this;rw[i6 (by lia)];exact K7 some this
 ·rw[k5 (by lia),k5 (by rw[x8];lia)];rfl
theorem fj:aS ["steps","others","goes","x","row"] ["steps","others","goes"] (au (top 3)):=⟨rfl,rfl,rfl,by decide+kernel,rfl,by decide+kernel,by decide+kernel⟩
theorem IM(F:jb K "keeps_steps" "keeps_steps" (top 3) f fd)(T:lR K mg):cE P w K mg base fX 1 f fd ["steps","others","goes"] (dv K CA):=by
 refine nW F fj (λ ds M Q h=>?_) (λ dQ A outer s H E ds M Q hr h=>?_)
 ·obtain⟨m,h,m2,r,q,V,rfl,_⟩:=h;rfl
 ·obtain⟨m,h,m2,r,q,V,rfl,G,G2,hV,hv,k⟩:=h;have hm:=G.ck;have hh:=G.xq;have pP:=G.len;refine⟨_,(ae (dU B7 rfl (fJ rfl T.enumerate (aa (ak 0) ab)) (kH (n:=2) rfl (cM (bF (i:=3) fj.nd rfl (Or.inl rfl)) (cM (bF (i:=4) fj.nd rfl (Or.inl rfl)) iF)))
 (aj (bG (aI (jT hr.units) (eO (tgs:=["later"]) (fr:=[2]) ⟨bg (by kernel_rfl),rfl,(λ _ _ h=>h),(cj (ak 4)),(aQ (λ _ _ _ _ _=>(aF (i:=0) (show(["later","goes"]:List Str).Nodup by decide+kernel) rfl (Or.inl rfl))) (by decide)),(λ _ _ _ _ _=>bc),(λ _ _ _ _ _=>(aJ aH (ak 1) (ak 0) (λ _ _=>rfl)))⟩) (bq td (by rfl) T.list (by decide+kernel) (aa (aJ aH (ak 1) (aJ aH (ak 2) (ak 3) (λ _ _=>rfl)) (λ _ _=>rfl)) ab)) (aG _))
 (aj (aL GH))
 aP)))
 (aj (aL GH))),?_⟩
  unfold fO;rfl';refine iw (λ i δ M'=>∃v3 v4:Option D,δ=[some (.tup (r.map row)),some (.tup (q.map row)),some (.tup (V.map nD)),v3,v4]/\bi M M'/\∀x,x < i->∀i,i < h->kd V (aM r i x)=aM q i (kd V x)) ⟨none,none,rfl,bi.rfl,λ x z=>absurd z (by lia)⟩ (λ x d δ M' hd hI=>?_) (λ δ M' hI=>?_)
  ·obtain⟨v3,v4,rfl,E1,old⟩:=hI;obtain⟨hi,rfl⟩:=gG hd;rw[C1,pP]at hi;have er:(r.map row).getD x .bw=.tup ((r.getD x []).map D.int):=by rw[c7,u7,i6 (by lia),c7,i6 (by lia)];rfl
   rw[er];have kx:kd V x < m2:=hv _ (kd_mem (by lia));obtain⟨r1,r2,r3⟩:=nJ G hi;obtain⟨q1,q2,q3⟩:=nJ G2 kx;rfl';refine dO (enc:=D.int) (λ y=>nD (kd V y.toNat)) (by lia) (λ j y N hy hN=>?_) ?_
   ·have hy:=r3 y (k8 hy);rfl';refine bp (d:=nD (kd V y.toNat)) ?_ hN;have:=KN (K:=V) (x:=y.toNat) (by lia)
    rwa [show((y.toNat:Nat):Int)=y by lia]at this
   intro p hp;have E2:=E1.new hp (.lst ((r.getD x []).map λ y=>nD (kd V y.toNat)));have h2:ai M' p (.lst ((r.getD x []).map λ y=>nD (kd V y.toNat))) p=some (.lst ((r.getD x []).map λ y=>nD (kd V y.toNat))):=af;generalize ai M' p (.lst ((r.getD x []).map λ y=>nD (kd V y.toNat)))=M2 at*;rfl';refine bp (KN (by lia)) ?_;rfl';refine bp q1 ?_;rfl';intro p2 lZ;have E3:=E2.new lZ (.lst ((q.getD (kd V x) []).map D.int));have h3:ai M2 p2 (.lst ((q.getD (kd V x) []).map D.int)) p=some (.lst ((r.getD x []).map λ y=>nD (kd V y.toNat))):=by rw[aq (a_ h2 lZ)];exact h2
   refine mq (k:=0) (b:=decide (∀i,i < h->kd V (aM r i x)=aM q i (kd V x))) h3 af (dY λ x _=>cI 0 _) (dY λ x _=>cI 0 _) (by decide) ?_ ?_
   ·rw[decide_eq_true_iff,yl G hi,yl G2 kx,H9,H9,H9,H9];constructor
    ·intro z;refine m9 λ i hi=>?_;show nD (kd V (kI (aM r i x)).toNat)=D.int (kI (aM q i (kd V x)));rw[show(kI (aM r i x)).toNat=aM r i x from w6 _,z i (mem_range.mp hi)]
    ·intro z i hi;have:=K7 (λ l:List D=>l[i]?) z;simp only[u7,l7 hi,Option.map_some]at this;have:=D.int.inj (B6 this);exact Int.ofNat.inj this
   ·generalize ai M2 p2 (.lst ((q.getD (kd V x) []).map D.int))=M3 at*;refine eC (λ hn=>?_) (λ hn=>?_)
    ·have hn:¬∀i,i < h->kd V (aM r i x)=aM q i (kd V x):=by simpa using hn
     have kf:uQ m h r q V=false:=by rw[<- Bool.not_eq_true,iN];exact λ z=>hn (z x hi)
     rw[kf]at k;rfl';exact av (k _ E3)
    ·have hn:∀i,i < h->kd V (aM r i x)=aM q i (kd V x):=by simpa using hn
     refine⟨_,_,rfl,E3,λ y hy i hj=>?_⟩;by_cases z:y=x
     ·rw[z];exact hn i hj
     ·exact old y (by lia) i hj
  ·obtain⟨v3,v4,rfl,E1,old⟩:=hI;rw[b_,C1,pP]at old;rw[iN.mpr old]at k;rfl';exact av (k _ E1)
theorem wq:aS ["one","other","goes","told"] ["one","other"] (au (top 4)):=⟨rfl,rfl,rfl,by decide+kernel,rfl,by decide+kernel,by decide+kernel⟩
theorem NP(F:jb K "led" "led" (top 4) f fd)(T:lR K mg)(Bx:cL P w K mg base 1 "carried" ["steps","others","start"] CD)(pY:cL P w K mg base 1 "keeps_steps" ["steps","others","goes"] CA):cE P w K mg base fX 2 f fd ["one","other"] (dv K Cv):=by
 refine nW F wq (λ ds M Q h=>?_) (λ dQ A outer s H E ds M Q hr h=>?_)
 ·obtain⟨m,h,m2,r,q,ls,cz,rfl,_⟩:=h;rfl
 ·obtain⟨m,h,m2,r,q,ls,cz,rfl,G,G2,kh,kn⟩:=h;have pT:cu r ls=.tup [.tup (r.map row),row ls]:=rfl;have OH:cu q cz=.tup [.tup (q.map row),row cz]:=rfl;rw[pT,OH];have hm:=G.tb.ck;have pP:=G.tb.len;refine⟨_,(ae (aB (i:=2) wq.nd rfl (Or.inr rfl) (aK Bx (hr.mono (by decide)) (by rfl) (aa (aJ (eG hr.units) (ak 0) ah (λ _ _=>rfl)) (aa (aJ (eG hr.units) (ak 1) ah (λ _ _=>rfl)) (aa ah ab)))))
 (ae (aB (i:=3) wq.nd rfl (Or.inl rfl) (fh bo cw (by rfl) T.tuple (by decide+kernel) (tgs:=["x"]) (fr:=[2]) ⟨bg (by kernel_rfl),rfl,(λ _ _ h=>h),(bu rfl T.range (aa (aA oN (by rfl) T.len (by decide+kernel) (aa (aJ (eG hr.units) (ak 0) ah (λ _ _=>rfl)) ab)) ab)),(aQ (λ _ _ _ _ _=>(aF (i:=0) (show(["x","goes"]:List Str).Nodup by decide+kernel) rfl (Or.inl rfl))) (by decide)),(λ _ _ _ _ _=>bc),(λ _ _ _ _ _=>(aJ (eG hr.units) (ak 1) (ak 0) (λ _ _=>rfl)))⟩))
 (ae (bG (vZ (gT (aK pY (hr.mono (by decide)) (by rfl) (aa (aJ (eG hr.units) (ak 0) ah (λ _ _=>rfl)) (aa (aJ (eG hr.units) (ak 1) ah (λ _ _=>rfl)) (aa (ak 3) ab))))))
 (aj (aL qu))
 aP)
 (ae (bG (gT (Cb (Sy rfl) GI (by rfl) T.any (by decide+kernel) (tgs:=["x","y"]) (fr:=[0,1]) ⟨bg (by kernel_rfl),rfl,(λ _ _ h=>h),(fJ rfl T.enumerate (aa (ak 3) ab)),(jE (λ _ _ _ _ _=>(kU rfl (cN (aF (i:=0) (show(["x","y","one","other"]:List Str).Nodup by decide+kernel) rfl (Or.inl rfl)) (cN (aF (i:=1) (show(["x","y","one","other"]:List Str).Nodup by decide+kernel) rfl (Or.inl rfl)) iJ)))) (by decide) (by decide)),(λ _ _ _ _ _=>bc),(λ _ _ _ _ _=>(eU (jT hr.units) (eU (KG hr.units) (ak 0) (aJ (eG hr.units) (ak 2) ah (λ _ _=>rfl)) rfl) (eU (KG hr.units) (ak 1) (aJ (eG hr.units) (ak 3) ah (λ _ _=>rfl)) rfl) (aG _)))⟩))
 (aj (aL qu))
 aP)
 (aj (aL (ak 3))))))),?_⟩
  rfl';refine cW (bp (d:=.tup (r.map row)) rfl ?_);rfl';refine cW (bp (d:=.tup (q.map row)) rfl ?_);rfl';refine⟨m,h,m2,0,r,q,rfl,G,G2,G2.pos,λ p kv M1 hp h1 C E1=>?_⟩;have Bk:∀x:Nat,∃v:Nat,x < m->(x,v)∈kv:=λ x=>by
   by_cases hx:x < m
   ·obtain⟨v,hv⟩:=C.all x hx;exact⟨v,λ _=>hv⟩
   ·exact⟨0,λ z=>absurd z hx⟩
  obtain⟨val,Bk⟩:=Classical.axiomOfChoice Bk;rfl';refine cW (bp (d:=.tup (r.map row)) rfl ?_);rfl';refine jM ?_;rfl';rw[C1,pP];refine⟨dh (by lia) (by lia),?_⟩;rw[w6,cQ];refine dO (xs:=List.range m) (enc:=Px) (λ x=>nD (val x)) (by rw[x8];lia) (λ i x N hx hN=>?_) ?_
  ·have hx:=nK hx;rfl';rw[Ku];exact wB h1 (je _) (om C.nd (Bk x hx)) hN
  rfl';have eV:(List.range m).map (λ x=>nD (val x))=((List.range m).map val).map nD:=by rw[H9];rfl
  rw[eV];have lV:((List.range m).map val).length=m:=by simp
  have aV:∀x,x < m->kd ((List.range m).map val) x=val x:=λ x hx=>by have:=Eu (K:=(List.range m).map val) (x:=x) (by lia);rw[u7,l7 hx]at this;exact(B6 this).symm
  have bV:∀x,x < m->val x < m2:=λ x hx=>(yA G G2 G2.pos (C.pr _ (Bk x hx))).2;have z0:val 0=0:=by have a:=om C.nd (Bk 0 G.tb.pos);rw[om C.nd C.tO]at a;exact(cD.inj _ _ (B6 a)).symm
  have Yg:(∀x,x < m->∀i,i < h->kd ((List.range m).map val) (aM r i x)=aM q i (kd ((List.range m).map val) x))->(∀x,x < m->dH ls x=dH cz (val x))->rF m h r ls m2 q cz val:=λ a b=>⟨bV,z0,λ x i hx hi=>by
   have:=a x hx i hi
   rwa [aV x hx,aV _ (G.eW.cl _ _ hi hx)]at this,b⟩
  have KH:∀g,rF m h r ls m2 q cz g->∀x,x < m->val x=g x:=λ g H x hx=>H.pr G (C.pr _ (Bk x hx));refine cW (bp (d:=.tup (r.map row)) rfl ?_);rfl';refine cW (bp (d:=.tup (q.map row)) rfl ?_);rfl';refine⟨m,h,m2,r,q,(List.range m).map val,rfl,G.tb,G2,lV,λ v hv=>?_,λ M2 E2=>?_⟩
  ·obtain⟨x,hx,rfl⟩:=H0.mp hv;exact bV x (mem_range.mp hx)
  have E2:=E1.trans E2;cases kb:uQ m h r q ((List.range m).map val)with
  |false=>rfl';refine av (kn (λ g H=>?_) _ E2);rw[<- Bool.not_eq_true,iN]at kb;refine kb λ x hx i hi=>?_;rw[aV x hx,aV _ (G.eW.cl _ _ hi hx),KH g H x hx,KH g H _ (G.eW.cl _ _ hi hx),H.st x i hx hi]
  |true=>
   rw[iN]at kb;rfl';have eE:dS (((List.range m).map val).map nD)=(List.range m).map λ x:Nat=>D.tup [.int (x:Int),nD (val x)]:=by unfold dS;rw[C1,C1,x8];refine m9 λ x hx=>?_;rw[c7,u7,u7,l7 (mem_range.mp hx)];rfl
   rw[eE];refine dO (xs:=List.range m) (enc:=λ x:Nat=>D.tup [.int (x:Int),nD (val x)]) (λ x=>.bl (dH ls x != dH cz (val x))) (by rw[x8];lia) (λ i x N hx hN=>?_) ?_
   ·have hx:=nK hx;rfl';refine cW (bp (d:=row ls) rfl ?_);refine yt ?_;rfl';refine cW (bp (d:=row cz) rfl ?_);refine yt ?_;refine yr ?_;have e:(dH ls x != dH cz (val x))=!decide (dH ls x=dH cz (val x)):=by cases dH ls x <;> cases dH cz (val x) <;> rfl
    rw[e]at hN;exact hN
   ·refine⟨(List.range m).map λ x=>dH ls x != dH cz (val x),by rw[H9];rfl,?_⟩;cases an:((List.range m).map λ x=>dH ls x != dH cz (val x)).any id with
    |true=>rfl';refine av (kn (λ g H=>?_) _ E2);obtain⟨b,hb,Y8⟩:=List.any_eq_true.mp an;obtain⟨x,hx,rfl⟩:=H0.mp hb;have hx:=mem_range.mp hx;have:=H.ls x hx;rw[<- KH g H x hx]at this;simp[this]at Y8
    |false=>
     have al:∀x,x < m->dH ls x=dH cz (val x):=λ x hx=>by have:=List.any_eq_false.mp an _ (H0.mpr ⟨x,mem_range.mpr hx,rfl⟩);simpa using this
     rfl';exact av (kh val _ (Yg kb al) E2)
def rQ:iY:=λ ds M Q=>∃(m h m2:Nat) (r q:List Row) (ls cz:Row),ds=[cu r ls,cu q cz]/\dD m h r/\dD m2 h q/\m<=19/\h<=6/\(∀g M',rF m h r ls m2 q cz g->bi M M'->Q (fO ((List.range m).map g)) M')/\((∀g,¬rF m h r ls m2 q cz g)->∀M',bi M M'->Q .bw M')
theorem JD{h m2:Nat}{q:List Row}{cz:Row}{f:Nat->Nat}(G:dD m h r)(H:rF m h r ls m2 q cz f){p:Cs}(hp:p.length=h):f (dw (aM r) 0 0 p)=dw (aM q) 0 0 p:=by
 have:=H.Gg G (p.map λ v:Nat=>(v:Int)) 0 0 (by rw[C1];lia) G.tb.pos
 rwa [rK,rK,H.tO]at this
theorem gA:aS ["_law_one","_law_other_here","_law_goes","_law_x","_law_y"] ["_law_one","_law_other_here"] (au (top 25)):=⟨rfl,rfl,rfl,by decide+kernel,rfl,by decide+kernel,by decide+kernel⟩
theorem DU(F:jb K "_law_due" "_law_due" (top 25) f fd)(T:lR K mg)(jl:cL P w K mg base 1 "_law_from" ["_law_table_here","_law_x","_law_counts"] wg)(eh:cL P w K mg base 9 "_law_first_sums" ["_law_table_here"] rO):cE P w K mg base fX 10 f fd ["_law_one","_law_other_here"] (dv K rQ):=by
 refine nW F gA (λ ds M Q h=>?_) (λ dQ A outer s H E ds M Q hr h=>?_)
 ·obtain⟨m,h,m2,r,q,ls,cz,rfl,_⟩:=h;rfl
 ·obtain⟨m,h,m2,r,q,ls,cz,rfl,G,G2,hm,hh,kh,kn⟩:=h;have pT:cu r ls=.tup [.tup (r.map row),row ls]:=rfl;have OH:cu q cz=.tup [.tup (q.map row),row cz]:=rfl;refine⟨_,(ae (aB (i:=2) gA.nd rfl (Or.inr rfl) (eO (tgs:=["_law_counts"]) (fr:=[1]) ⟨bg (by kernel_rfl),rfl,(λ _ _ h=>h),(cj (aK eh (hr.mono (by decide)) (by rfl) (aa (ak 0) ab))),(aQ (λ _ _ _ _ _=>(aF (i:=0) (show(["_law_counts","_law_other_here"]:List Str).Nodup by decide+kernel) rfl (Or.inl rfl))) (by decide)),(λ _ _ _ _ _=>bc),(λ _ _ _ _ _=>(aK jl (hr.mono (by decide)) (by rfl) (aa (ak 1) (aa ah (aa (ak 0) ab)))))⟩))
 (ae (dU B7 rfl (fJ rfl T.enumerate (aa (ak 2) ab)) (kH (n:=2) rfl (cM (bF (i:=3) gA.nd rfl (Or.inl rfl)) (cM (bF (i:=4) gA.nd rfl (Or.inl rfl)) iF)))
 (ae (bG (aI (jT hr.units) (eU (nY hr.units) (ak 3) (aJ aH (ak 0) ah (λ _ _=>rfl)) rfl) (eU (nY hr.units) (ak 4) (aJ aH (ak 1) ah (λ _ _=>rfl)) rfl) (aG _))
 (aj (aL qu))
 aP)
 (aj (bG (aI (jT hr.units) (eO (tgs:=["_law_z"]) (fr:=[2]) ⟨bg (by kernel_rfl),rfl,(λ _ _ h=>h),(cj (aJ aH (aJ aH (ak 0) ah (λ _ _=>rfl)) (ak 3) (λ _ _=>rfl))),(aQ (λ _ _ _ _ _=>(aF (i:=0) (show(["_law_z","_law_goes"]:List Str).Nodup by decide+kernel) rfl (Or.inl rfl))) (by decide)),(λ _ _ _ _ _=>bc),(λ _ _ _ _ _=>(aJ aH (ak 1) (ak 0) (λ _ _=>rfl)))⟩) (bq td (by rfl) T.list (by decide+kernel) (aa (aJ aH (aJ aH (ak 1) ah (λ _ _=>rfl)) (ak 4) (λ _ _=>rfl)) ab)) (aG _))
 (aj (aL qu))
 aP))))
 (aj (aL (bq bo (by rfl) T.tuple (by decide+kernel) (aa (ak 2) ab)))))),?_⟩
  rfl';refine⟨m,h,r,ls,rfl,G,hm,hh,λ pa g M1 hpa hg RC E1=>?_⟩;have XO:∀x,x < m->∀c∈g x,c<=1000:=λ x hx c hc=>by have:=wV hc;have:=hg.ck G hx;lia
  refine mz RC ?_;refine eA (xs:=List.range m) (λ x=>fO (g x)) (λ x=>nD (dw (aM q) 0 0 (g x))) (by rw[x8];lia) RC (λ i x N hx hN=>?_) ?_
  ·have hx:=nK hx;rfl';exact⟨m2,h,0,q,cz,g x,rfl,G2,G2.tb.pos,(hg x hx).1.1,XO x hx,hN⟩
  have KH:∀f,rF m h r ls m2 q cz f->∀x,x < m->dw (aM q) 0 0 (g x)=f x:=λ f H x hx=>by rw[<- JD G H (hg x hx).1.1,(hg x hx).2]
  have v0:dw (aM q) 0 0 (g 0)=0:=by have s0:g 0=jB h:=(hg 0 G.tb.pos).1.uniq (oZ.jB (aM r) 0 h) (by rw[(hg 0 G.tb.pos).2,fM]);rw[s0,fM]
  have T3:∀x,x < m->dw (aM q) 0 0 (g x) < m2:=λ x hx=>OQ G2 G2.tb.pos (hg x hx).1.1;generalize hv:(λ x=>dw (aM q) 0 0 (g x))=val at*;have hv:∀x,dw (aM q) 0 0 (g x)=val x:=λ x=>congrFun hv x;intro pg WX;have e1:((List.range m).map λ x=>nD (dw (aM q) 0 0 (g x)))=((List.range m).map val).map nD:=by rw[H9];exact m9 λ x _=>K7 nD (hv x)
  rw[e1];simp only[hv]at KH v0 T3;have E2:=E1.new WX (.lst (((List.range m).map val).map nD));have h2:ai M1 pg (.lst (((List.range m).map val).map nD)) pg=some (.lst (((List.range m).map val).map nD)):=af;generalize ai M1 pg (.lst (((List.range m).map val).map nD))=M2 at*;rw[pT,OH];rfl';have vx:∀x,x < m->gS (((List.range m).map val).map nD) (x:Int)=some (nD (val x)):=λ x hx=>bM (by rw[u7,u7,l7 hx];rfl);refine OS (ds:=dS (((List.range m).map val).map nD)) (λ i δ M'=>∃v3 v4:Option D,δ=[some (.tup [.tup (r.map row),row ls]),some (.tup [.tup (q.map row),row cz]),some (.ref pg),v3,v4]/\M' pg=some (.lst (((List.range m).map val).map nD))/\bi M M'/\∀x,x < i->dH ls x=dH cz (val x)/\∀j,j < h->val (aM r j x)=aM q j (val x)) ⟨_,_,rfl,h2,E2,λ x z=>absurd z (by lia)⟩ (λ i δ M' _ hI=>?_) (λ i d δ M' hd hI=>?_) (λ δ M' hI=>?_)
  ·obtain⟨_,_,_,hM,_⟩:=hI;show fN (.ref pg) M'=_;unfold fN;rw[dg hM];rfl
  ·clear h2 E2;obtain⟨v3,v4,rfl,h2,E2,old⟩:=hI;obtain⟨hi,rfl⟩:=gG hd;rw[C1,C1,x8]at hi;rw[show(((List.range m).map val).map nD).getD i .bw=.int (val i:Int) by rw[c7,u7,u7,l7 hi];rfl];rfl';refine jN ?_;rfl';refine jN ?_;rfl';refine eC (λ hz=>?_) (λ hz=>?_)
   ·have hz:dH ls i≠dH cz (val i):=by simpa using hz
    rfl';exact av (kn (λ f H=>hz (by rw[H.ls i hi,KH f H i hi])) _ E2)
   have hz:dH ls i=dH cz (val i):=by simpa using hz
   rfl';refine bp (mn G.tb hi) ?_;rfl';refine dO (xs:=(List.range h).map λ j=>aM r j i) (enc:=nD) (λ y=>nD (val y)) (by rw[C1,x8];lia) (λ j y N hy hN=>?_) ?_
   ·rw[u7]at hy;obtain⟨j,hj,rfl⟩:=Option.map_eq_some_iff.mp hy;rfl';exact cF h2 (vx _ (G.eW.cl _ _ (nK hj) hi)) hN
   intro p3 PF;have h3:ai M' p3 (.lst (((List.range h).map λ j=>aM r j i).map λ y=>nD (val y))) p3=some (.lst (((List.range h).map λ j=>aM r j i).map λ y=>nD (val y))):=af;have g3:ai M' p3 (.lst (((List.range h).map λ j=>aM r j i).map λ y=>nD (val y))) pg=some (.lst (((List.range m).map val).map nD)):=by rw[aq (a_ h2 PF)];exact h2
   have E3:=E2.new PF (.lst (((List.range h).map λ j=>aM r j i).map λ y=>nD (val y)));generalize ai M' p3 (.lst (((List.range h).map λ j=>aM r j i).map λ y=>nD (val y)))=M3 at*;rfl';refine bp (mn G2.tb (T3 i hi)) ?_;rfl';intro p4 Vs;have E4:=E3.new Vs (.lst (((List.range h).map λ j=>aM q j (val i)).map nD));have h4:ai M3 p4 (.lst (((List.range h).map λ j=>aM q j (val i)).map nD)) p3=some (.lst (((List.range h).map λ j=>aM r j i).map λ y=>nD (val y))):=by rw[aq (a_ h3 Vs)];exact h3
   have g4:ai M3 p4 (.lst (((List.range h).map λ j=>aM q j (val i)).map nD)) pg=some (.lst (((List.range m).map val).map nD)):=by rw[aq (a_ g3 Vs)];exact g3
   refine mq (k:=0) (b:=decide (∀j,j < h->val (aM r j i)=aM q j (val i))) h4 af (dY λ x _=>cI 0 _) (dY λ x _=>cI 0 _) (by decide) ?_ ?_
   ·rw[decide_eq_true_iff,H9,H9];constructor
    ·intro z;exact m9 λ j hj=>K7 nD (z j (mem_range.mp hj))
    ·intro z j hj;have:=K7 (λ l:List D=>l[j]?) z;simp only[u7,l7 hj,Option.map_some]at this;exact cD.inj _ _ (B6 this)
   generalize ai M3 p4 (.lst (((List.range h).map λ j=>aM q j (val i)).map nD))=M4 at*;refine eC (λ hw=>?_) (λ hw=>?_)
   ·have hw:¬∀j,j < h->val (aM r j i)=aM q j (val i):=by simpa using hw
    rfl';refine av (kn (λ f H=>hw λ j hj=>?_) _ E4);rw[KH f H _ (G.eW.cl _ _ hj hi),KH f H i hi,H.st i j hi hj]
   ·have hw:∀j,j < h->val (aM r j i)=aM q j (val i):=by simpa using hw
    refine⟨_,_,rfl,g4,E4,λ x hx=>?_⟩;by_cases z:x=i
    ·rw[z];exact⟨hz,hw⟩
    ·exact old x (by lia)
  ·clear h2 E2;obtain⟨v3,v4,rfl,h2,E2,old⟩:=hI;rw[b_,C1,C1,x8]at old;rfl';refine bK h2 ?_;exact av (kh val _ ⟨T3,v0,λ x i hx hi=>(old x hx).2 i hi,λ x hx=>(old x hx).1⟩ E2)
theorem OC{h m2:Nat}{q:List Row}{cz:Row}{g f:Nat->Nat}(G:dD m h r)(a:rF m h r ls m2 q cz g)(b:rF m h r ls m2 q cz f):(List.range m).map f=(List.range m).map g:=m9 λ x hx=>by obtain⟨v,hv⟩:=QX (q:=q) G 0 (mem_range.mp hx);rw[<- a.pr G hv,<- b.pr G hv]
def zX(m h:Nat)(r:List Row)(ls:Row)(m2:Nat)(q:List Row)(cz:Row)(d:D):Prop:=(∃g,d=fO ((List.range m).map g)/\rF m h r ls m2 q cz g)\/(d=.bw/\∀g,¬rF m h r ls m2 q cz g)
section
variable {h m2:Nat}{q:List Row}{cz:Row}{e:D}{Q:bR}
theorem jg(G:dD m h r)(a:zX m h r ls m2 q cz d)(b:zX m h r ls m2 q cz e):FY M 5 d e:=by
 rcases a with⟨g,rfl,H⟩|⟨rfl,n⟩
 ·rcases b with⟨f,rfl,H2⟩|⟨rfl,n'⟩
  ·rw[OC G H H2,zK];exact CJ _ _ (by rw[C1,C1,x8];have:=G.tb.ck;lia)
  ·exact absurd H (n' g)
 ·rcases b with⟨f,rfl,H2⟩|⟨rfl,n'⟩
  ·exact absurd H2 (n f)
  ·exact .inl ⟨rfl,True.intro⟩
theorem sy(G:dD m h r)(G2:dD m2 h q)(k:∀d M',zX m h r ls m2 q cz d->bi M M'->Q d M'):Cv [cu r ls,cu q cz] M Q:=
 ⟨m,h,m2,r,q,ls,cz,rfl,G,G2.tb,λ g M' H E=>k _ _ (.inl ⟨g,rfl,H⟩) E,λ no M' E=>k _ _ (.inr ⟨rfl,no⟩) E⟩
theorem zr(G:dD m h r)(G2:dD m2 h q)(hm:m<=19)(hh:h<=6)(k:∀d M',zX m h r ls m2 q cz d->bi M M'->Q d M'):rQ [cu r ls,cu q cz] M Q:=
 ⟨m,h,m2,r,q,ls,cz,rfl,G,G2,hm,hh,λ g M' H E=>k _ _ (.inl ⟨g,rfl,H⟩) E,λ no M' E=>k _ _ (.inr ⟨rfl,no⟩) E⟩
end
theorem kM:aS ["_law_script","_law_flow_here","_law_one","_law_other_here","_law_due_here"] ["_law_script"] (au (top 26)):=⟨rfl,rfl,rfl,by decide+kernel,rfl,by decide+kernel,by decide+kernel⟩
theorem NQ(F:jb K "law" "law" (top 26) f fd)(T:lR K mg)(xB:cL P w K mg base 1 "_law_flow" ["_law_script"] yi)(vl:cL P w K mg base 4 "_law_table" ["_law_flow_here"] (yg 19 6))(vm:cL P w K mg base 16 "_law_other" ["_law_flow_here","_law_table_here"] yh)(az:cL P w K mg base 1 "_law_pick" ["_law_flow_here","_law_many"] gy)(sU:cL P w K mg base 2 "_law_spoilt" ["_law_flow_here","_law_table_here"] Kr)(rn:cL P w K mg base 10 "_law_due" ["_law_one","_law_other_here"] rQ)(eK:cL P w K mg base 6 "_law_alike" ["_law_found","_law_due_here"] (CF 5))(FA:cL P w K mg base 2 "led" ["one","other"] Cv):cE P w K mg base fX 17 f fd ["_law_script"] (dv K ue):=by
 refine nW F kM (λ ds M Q h=>?_) (λ dQ A outer s H E ds M Q hr h=>?_)
 ·obtain⟨ns,rfl,_⟩:=h;rfl
 ·obtain⟨ns,rfl,hT,k⟩:=h;refine⟨_,(ae (aB (i:=1) kM.nd rfl (Or.inl rfl) (aK xB (hr.mono (by decide)) (by rfl) (aa (ak 0) ab)))
 (ae (aB (i:=2) kM.nd rfl (Or.inl rfl) (aK vl (hr.mono (by decide)) (by rfl) (aa (ak 1) ab)))
 (ae (aB (i:=3) kM.nd rfl (Or.inl rfl) (aK vm (hr.mono (by decide)) (by rfl) (aa (ak 1) (aa (ak 2) ab))))
 (ae (bG (aI (cO hr.units) (aK az (hr.mono (by decide)) (by rfl) (aa (ak 1) (aa ah ab))) ah (aG _))
 (aj (aB (i:=3) kM.nd rfl (Or.inl rfl) (aK sU (hr.mono (by decide)) (by rfl) (aa (ak 1) (aa (ak 3) ab)))))
 aP)
 (ae (aB (i:=4) kM.nd rfl (Or.inl rfl) (aK rn (hr.mono (by decide)) (by rfl) (aa (ak 2) (aa (ak 3) ab))))
 (ae (bG (BY (vZ (gT (aK eK (hr.mono (by decide)) (by rfl) (aa (aK FA (hr.mono (by decide)) (by rfl) (aa (ak 2) (aa (ak 3) ab))) (aa (ak 4) ab))))) (vY (vZ (gT (aK eK (hr.mono (by decide)) (by rfl) (aa (aK FA (hr.mono (by decide)) (by rfl) (aa (ak 3) (aa (ak 2) ab))) (aa (aK rn (hr.mono (by decide)) (by rfl) (aa (ak 3) (aa (ak 2) ab))) ab))))))).pt
 (aj (aL GH))
 aP)
 (aj (aL (aK eK (hr.mono (by decide)) (by rfl) (aa (aK FA (hr.mono (by decide)) (by rfl) (aa (ak 2) (aa (ak 3) ab))) (aa (ak 4) ab))))))))))),?_⟩
  rfl';refine⟨ns,rfl,λ f cc M1 hF E1=>?_⟩;have hT:SD M1:=E1 _ _ hT;rfl';refine⟨f,cc,rfl,hF,λ m h r ls M2 G hm hh L F2=>?_⟩;have hT:SD M2:=DO F2 hT hF;rfl';refine⟨f,cc,m,h,r,ls,rfl,hT,F2.bz,G,hm,hh,L,λ m2 q cz M3 G2 lq L2 F3=>?_⟩;refine eB ?_
  with_reducible refine gB (λ δ' M'=>∃cz:Row,δ'=[some (.fl (ns.map D.int)),some (.ref f),some (cu r ls),some (cu q cz),none]) (λ N hN=>?_) ?_
  ·rfl';refine⟨f,cc,4,rfl,F3.bz,by decide,by decide,λ d1 o1 JI Lc va=>?_⟩;have F4:Fl f cc M3 _:=Fl.pick va;rfl';refine aO (λ _=>?_) (λ _=>?_)
   ·rfl';refine⟨f,cc,m2,h,q,cz,rfl,F4.bz,G2,lq,L2,λ Ya M5 L3 F5=>?_⟩;exact hN _ _ ⟨Ya,rfl⟩
   ·exact hN _ _ ⟨cz,rfl⟩
  rintro δ' M4 ⟨cz,rfl⟩;rfl';refine zr G G2 hm hh λ d5 M5 D5 E5=>?_;rfl';refine sy G G2 λ d6 M6 D6 E6=>?_;rfl';refine⟨_,_,rfl,jg G D6 D5,?_⟩;rfl';refine sy G2 G λ d7 M7 D7 E7=>?_;rfl';refine zr G2 G lq hh λ d8 M8 D8 E8=>?_;rfl';refine⟨_,_,rfl,jg G2 D7 D8,?_⟩;rfl';refine sy G G2 λ d9 M9 D9 E9=>?_;rfl';refine⟨_,_,rfl,jg G D9 D5,?_⟩;exact av (k _)
theorem EE(K:L6):gP K "bool":=⟨by kernel_rfl,by kernel_rfl,by kernel_rfl,by kernel_rfl,by kernel_rfl,by kernel_rfl⟩
theorem Ju(K:L6):gP K "int":=⟨by kernel_rfl,by kernel_rfl,by kernel_rfl,by kernel_rfl,by kernel_rfl,by kernel_rfl⟩
theorem ED(K:L6):gP K "list":=⟨by kernel_rfl,by kernel_rfl,by kernel_rfl,by kernel_rfl,by kernel_rfl,by kernel_rfl⟩
theorem Jt(K:L6):gP K "str":=⟨by kernel_rfl,by kernel_rfl,by kernel_rfl,by kernel_rfl,by kernel_rfl,by kernel_rfl⟩
theorem Bg(K:L6):gP K "tuple":=⟨by kernel_rfl,by kernel_rfl,by kernel_rfl,by kernel_rfl,by kernel_rfl,by kernel_rfl⟩
theorem N3(hO:zW H [123])(hS:fE K H a (ns.map V.int)):dv K ue [.ref a] H (λ v _=>v=.bl true) λ _ _ _=>False:=by
 have Bq:GB K H a (ns.map V.int):=by
  rcases hS with(h|⟨o,h⟩)|h
  ·rcases hO.1 a with z|⟨o,xs,z⟩|z
   ·rw[z]at h;cases h
   ·rw[z]at h;cases h
   ·rw[z]at h;cases h
  ·exact .inl ⟨o,h⟩
  ·exact .inr h
 refine⟨[.fl (ns.map D.int)],λ b=>if b=123 then some (.jC (.pe "_law_least.<locals>.<lambda>"))else none,λ d _=>d=.bl true,aD.one (jj.mpr ⟨a,_,rfl,Bq,gm ns⟩),λ a o e=>?_,⟨ns,rfl,K9 rfl,λ _=>rfl⟩,λ v H' d M' hd hm t e=>?_⟩
 ·by_cases z0:a=123
  ·subst z0;have e:=(K9 rfl).symm.trans e;cases e;exact⟨[],hO.2 _ (by simp),λ p hp=>nomatch hp⟩
  ·have e:=(L1 z0).symm.trans e;cases e
 ·subst e;exact ba.mp hd
structure TopC(K:L6)(mg:Str->Option jp)(x:Str)(i:Nat)(dV:jp)(c f:ww)(d:FuncData):Prop where
 m:mg x=some (.ref f)
 F:oY K x x (top i) dV c f d
theorem N1{A:Type}{P:List A->Prop}(h:∀a t,t.length=n->P (a::t)):∀us:List A,us.length=n+1->P us
 |[],e=>nomatch e
 |a::t,e=>h a t (Nat.succ.inj e)
theorem uL{A:Type}{P:List A->Prop}(h:∀a,P [a]):∀us:List A,us.length=1->P us:=N1 λ a t e=>by rw[a0 e];exact h a
theorem lh{A:Type}{P:List A->Prop}(h:∀a b,P [a,b]):∀us:List A,us.length=2->P us:=N1 λ a=>uL (P:=λ t=>P (a::t)) (h a)
theorem Jf{A:Type}{P:List A->Prop}(h:∀a b c,P [a,b,c]):∀us:List A,us.length=3->P us:=N1 λ a=>lh (P:=λ t=>P (a::t)) (h a)
structure eZ(K:L6)(mg:Str->Option jp)(x:Str)(i:Nat)(f:ww)(d:FuncData):Prop where
 m:mg x=some (.ref f)
 F:jb K x x (top i) f d
theorem all_mk{l:PySem.W.OpenLaw}{w:World}{K:L6}{mg:Str->Option jp}{f0 f1 f2 f3 f4 f5 f6 f7 f8 f9 ZE ZD ZC ZA Zz Zy Zx Zw Zv Zu Zt Zs Zr Xj:ww}{d0 d1 d2 d3 d4 d5 d6 d7 d8 d9 ZU ZT ZS ZR ZQ ZP ZO ZN ZM ZL ZK ZJ ZI:FuncData}{kV dc pm cd ct:jp}{an:Option ww}
  (T:lR K mg)
  (t0:eZ K mg "carried" 1 f0 d0)
  (t1:eZ K mg "keeps_steps" 3 f1 d1)
  (t2:eZ K mg "led" 4 f2 d2)
  (t3:eZ K mg "_law_flow" 6 f3 d3)
  (t4:eZ K mg "_law_pick" 7 f4 d4)
  (t5:eZ K mg "_law_shuffled" 8 f5 d5)
  (t6:eZ K mg "_law_alike" 9 f6 d6)
  (t7:eZ K mg "_law_nim_table" 10 f7 d7)
  (t8:eZ K mg "_law_blown" 11 f8 d8)
  (t9:eZ K mg "_law_renumbered" 12 f9 d9)
  (S':eZ K mg "_law_counted" 13 ZE ZU)
  (S_:eZ K mg "_law_any_table" 14 ZD ZT)
  (LM:eZ K mg "_law_long_table" 15 ZC ZS)
  (S9:eZ K mg "_law_table" 16 ZA ZR)
  (Qh:eZ K mg "_law_sums" 17 Zz ZQ)
  (S8:eZ K mg "_law_from" 18 Zy ZP)
  (S7:eZ K mg "_law_first_sums" 19 Zx ZO)
  (S6:eZ K mg "_law_classes" 20 Zw ZN)
  (S5:eZ K mg "_law_key" 21 Zv ZM)
  (S4:TopC K mg "_law_least" 22 .none 125 Zu ZL)
  (S3:eZ K mg "_law_other" 23 Zt ZK)
  (S0:eZ K mg "_law_spoilt" 24 Zs ZJ)
  (SY:eZ K mg "_law_due" 25 Zr ZI)
  (XG:eZ K mg "law" 26 Xj (PySem.W.fnOf "law" "law" (cK (top 26)) (bL (top 26)) (au (top 26)) .none kV dc pm an cd ct)):
  ∃fd:FuncData,(∀(s:kt) (v:jp),BindsTo s fd ⟨[v],[]⟩ [("_law_script",v)])/\∀base:Heap,K.In base->(∀q∈([(125,123)]:List (ww×ww)),GA mg base q.1 q.2)->cE l.prog w K mg base fX 17 Xj fd ["_law_script"] (dv K ue):=by
 refine⟨PySem.W.fnOf "law" "law" (cK (top 26)) (bL (top 26)) (au (top 26)) .none kV dc pm an cd ct,λ s v=>.of_eq rfl,λ base _ VP=>?_⟩;have b0:=t0.F.binds (ps:=["steps","others","start"]) λ _ _ _ _ _ _=>Jf λ _ _ _=>rfl;have b1:=t1.F.binds (ps:=["steps","others","goes"]) λ _ _ _ _ _ _=>Jf λ _ _ _=>rfl;have b2:=t2.F.binds (ps:=["one","other"]) λ _ _ _ _ _ _=>lh λ _ _=>rfl;have b3:=t3.F.binds (ps:=["_law_script"]) λ _ _ _ _ _ _=>uL λ _=>rfl;have b4:=t4.F.binds (ps:=["_law_flow_here","_law_many"]) λ _ _ _ _ _ _=>lh λ _ _=>rfl;have b5:=t5.F.binds (ps:=["_law_flow_here","_law_things"]) λ _ _ _ _ _ _=>lh λ _ _=>rfl;have b6:=t6.F.binds (ps:=["_law_found","_law_due_here"]) λ _ _ _ _ _ _=>lh λ _ _=>rfl;have b7:=t7.F.binds (ps:=["_law_sizes","_law_last"]) λ _ _ _ _ _ _=>lh λ _ _=>rfl;have b8:=t8.F.binds (ps:=["_law_flow_here","_law_table_here"]) λ _ _ _ _ _ _=>lh λ _ _=>rfl;have b9:=t9.F.binds (ps:=["_law_flow_here","_law_table_here"]) λ _ _ _ _ _ _=>lh λ _ _=>rfl;have b10:=S'.F.binds (ps:=["_law_value","_law_low","_law_wide"]) λ _ _ _ _ _ _=>Jf λ _ _ _=>rfl;have b11:=S_.F.binds (ps:=["_law_flow_here","_law_many"]) λ _ _ _ _ _ _=>lh λ _ _=>rfl;have b12:=LM.F.binds (ps:=["_law_flow_here"]) λ _ _ _ _ _ _=>uL λ _=>rfl;have b13:=S9.F.binds (ps:=["_law_flow_here"]) λ _ _ _ _ _ _=>uL λ _=>rfl;have Xq:=Qh.F.binds (ps:=["_law_many","_law_total"]) λ _ _ _ _ _ _=>lh λ _ _=>rfl;have Z_:=S8.F.binds (ps:=["_law_table_here","_law_x","_law_counts"]) λ _ _ _ _ _ _=>Jf λ _ _ _=>rfl;have Z9:=S7.F.binds (ps:=["_law_table_here"]) λ _ _ _ _ _ _=>uL λ _=>rfl;have Z8:=S6.F.binds (ps:=["_law_table_here"]) λ _ _ _ _ _ _=>uL λ _=>rfl;have Z7:=S5.F.binds (ps:=["_law_counts"]) λ _ _ _ _ _ _=>uL λ _=>rfl;have Z6:=S4.F.O' (ps:=["_law_table_here"]) λ _ _ _ _ _ s hk=>uL λ _=>.of_eq rfl;have Z5:=S3.F.binds (ps:=["_law_flow_here","_law_table_here"]) λ _ _ _ _ _ _=>lh λ _ _=>rfl;have Z3:=S0.F.binds (ps:=["_law_flow_here","_law_table_here"]) λ _ _ _ _ _ _=>lh λ _ _=>rfl;have Z1:=SY.F.binds (ps:=["_law_one","_law_other_here"]) λ _ _ _ _ _ _=>lh λ _ _=>rfl;have dE:=bX.of t4.F (IH t4.F T (P:=l.prog) (w:=w) (base:=base)) t4.m b4;have Af:=bX.of t3.F (IQ t3.F T (P:=l.prog) (w:=w) (base:=base)) t3.m b3;have BX:=bX.of t6.F (NT t6.F T t6.m b6 (P:=l.prog) (w:=w) (base:=base) 5) t6.m b6;have BW:=bX.of S5.F (NR S5.F T (P:=l.prog) (w:=w) (base:=base)) S5.m Z7;have tV:=bX.of S'.F (NS S'.F T (P:=l.prog) (w:=w) (base:=base)) S'.m b10;have Ac:=bX.of LM.F (IJ LM.F T dE tV (P:=l.prog) (w:=w) (base:=base)) LM.m b12;have qt:=bX.of S_.F (IU S_.F T dE tV (P:=l.prog) (w:=w) (base:=base)) S_.m b11;have Ab:=bX.of t7.F (II t7.F T (P:=l.prog) (w:=w) (base:=base)) t7.m b7;have mT:=bX.of t8.F (DV t8.F T dE (P:=l.prog) (w:=w) (base:=base)) t8.m b8;have Aa:=bX.of t5.F (IG t5.F T dE (P:=l.prog) (w:=w) (base:=base)) t5.m b5;have tU:=bX.of t9.F (NO t9.F T Aa (P:=l.prog) (w:=w) (base:=base)) t9.m b9;have vV:=bX.of S9.F (DQ S9.F T dE Ac qt Ab mT tU (P:=l.prog) (w:=w) (base:=base)) S9.m b13;have z_:=bX.of Qh.F (DR Qh.F T Qh.m Xq (P:=l.prog) (w:=w) (base:=base) 7) Qh.m Xq;have qr:=bX.of S8.F (IP S8.F T (P:=l.prog) (w:=w) (base:=base)) S8.m Z_;have mS:=bX.of S7.F (DT S7.F T z_ qr (P:=l.prog) (w:=w) (base:=base)) S7.m Z9;have Ag:=bX.of S6.F (IS S6.F T (P:=l.prog) (w:=w) (base:=base)) S6.m Z8;have Ad:=bX.X4 S4.F (IL S4.F T (VP (125,123) (by simp)) Ag mS BW (P:=l.prog) (w:=w) (base:=base)) S4.m Z6;have vW:=bX.of S3.F (DS S3.F T dE tU mT Ad qt (P:=l.prog) (w:=w) (base:=base)) S3.m Z5;have BU:=bX.of S0.F (NN S0.F T dE (P:=l.prog) (w:=w) (base:=base)) S0.m Z3;have Ai:=bX.of t0.F (IT t0.F T (P:=l.prog) (w:=w) (base:=base)) t0.m b0;have Ae:=bX.of t1.F (IM t1.F T (P:=l.prog) (w:=w) (base:=base)) t1.m b1;have BV:=bX.of t2.F (NP t2.F T Ai Ae (P:=l.prog) (w:=w) (base:=base)) t2.m b2;have vX:=bX.of SY.F (DU SY.F T qr mS (P:=l.prog) (w:=w) (base:=base)) SY.m Z1;exact NQ XG.F T Af vV vW dE BU vX BX BV
theorem walk{q:Program}{loose:List Str}{XP:(Str->Option jp)->Heap->Prop}{YP:World->Heap->Prop}{d:DefRec}{K:Params->L6}(hn:l.most=some 63)(RR:d.params.defaults=[])
  (hY:∀(w:World) (h:Heap),YP w h->(K w.params).In h/\∀q∈([(125,123)]:List (ww×ww)),h.get? q.2=some (PySem.W.tabObj #[])/\(K w.params).lookup q.2=none/\PySem.W.CodeHd h q.1 q.2)
  (F:∀(w:World) (mg:Str->Option jp) (fa:ww) (h:Heap),(K w.params).In h->h.Ns mainGlobals mg->mg d.name=some (.ref fa)->
   ∃fd:FuncData,(∀(s:kt) (u:jp),BindsTo s fd ⟨[u],[]⟩ [("_law_script",u)])/\∀base:Heap,(K w.params).In base->(∀q∈([(125,123)]:List (ww×ww)),GA mg base q.1 q.2)->cE l.prog w (K w.params) mg base fX 17 fa fd ["_law_script"] (dv (K w.params) ue)):
  PySem.W.WalkO q loose XP YP l.row.toRowW d [] (λ f vs=>PySem.call f vs):=
 L2.Ca (n:=63) (k:=17) (x:="_law_script") (CX:=λ _=>fX) (sp:=λ w=>dv (K w.params) ue) hn (by decide) RR ⟨rfl,by decide,by decide⟩ hY F (λ _ _ a ns hl hO hS=>N3 hO hS) λ _ _ _ _ _ z=>z
end KK
open PySem.W PyProof.Rows
def PySem.W.Fast.tw5193629229544260465:Program:=PySem.Challenge.pw_lastloser_k32_tables_led
theorem PySem.W.Fast.te5193629229544260465 : PySem.Challenge.pw_lastloser_k32_tables_led = PySem.W.Fast.tw5193629229544260465 := rfl
def PySem.W.Fast.tw17746664274521288261:Nat:=0
def PySem.W.Fast.tw3025875076125936939:Nat:=0
def PySem.W.Fast.tw17389258389358423757:Nat:=0
def PySem.W.Fast.tw7996459906266274575:Nat:=0
def PySem.W.Fast.tw340943301801174815:Nat:=0
namespace KK
open L2
noncomputable def kE (P:Params)(x:Str)(t:Nat)(v:jp):DictEntry:={hash:=PyData.keyHash P x,key:=.str x t,val:=v}
noncomputable def kO (x:Str)(t l n r s u:Nat)(v w:jp):Obj:={cls:=.type "code",data:=.fields #[.str x t,.str x (t+1),.str "/claim/cut.py" (t+2),.int l 0,.int n 0,.int 0 0,.int 0 0,.int 3 0,.ref r,.bool true,.int 181 0,.ref (r+1),.none,v,w,.ref s,.int u 0,.int l 0,.str "/claim/cut.py" (u+1)]}
noncomputable def kF (x:Str)(i:Nat)(m:Str×Nat)(c:Nat)(d:jp:=.none):Obj:={cls:=.type "function",data:=.func (PySem.W.fnOf x x (cK (top i)) (bL (top i)) (au (top i)) d .none .none (.str m.1 m.2) none (.ref c) .none)}
noncomputable def kP (x:Str)(a i:Nat)(m:Str×Nat)(t l n u q:Nat)(d:jp:=.none):List (Nat×Obj):=[(a,if q=0 then kO x t l n (a - 3) (a - 1) u .none .none else kO x t l n (a - 5) (a - 1) u (.ref (a - 3)) (.ref (a - 2))),(a+1,kF x i m a d)]
noncomputable def m0:Str×Nat:=("lastloser.leading",203)
noncomputable def m1:Str×Nat:=("lastloser.things",187)
noncomputable def m2:Str×Nat:=("law_lastloser_k32_tables_led",217)
noncomputable def kD (P:Params):Obj:={cls:=.type "dict",data:=.dict #[kE P "__name__" 165 (.str "law_lastloser_k32_tables_led" 217),kE P "__doc__" 166 .none,kE P "__package__" 167 .none,kE P "__loader__" 168 (.builtin "__main__.__loader__#opaque"),kE P "__spec__" 169 .none,kE P "__annotations__" 170 (.ref 6),kE P "__builtins__" 171 (.ref 4),kE P "__file__" 173 (.str "/claim/cut.py" 172),kE P "__cached__" 174 .none,kE P "carried" 202 (.ref 21),kE P "keeps_steps" 210 (.ref 26),kE P "led" 216 (.ref 31),kE P "_law_flow" 225 (.ref 38),kE P "_law_pick" 235 (.ref 45),kE P "_law_shuffled" 245 (.ref 52),kE P "_law_alike" 251 (.ref 57),kE P "_law_nim_table" 257 (.ref 62),kE P "_law_blown" 263 (.ref 67),kE P "_law_renumbered" 269 (.ref 72),kE P "_law_counted" 278 (.ref 79),kE P "_law_any_table" 284 (.ref 84),kE P "_law_long_table" 290 (.ref 89),kE P "_law_table" 296 (.ref 94),kE P "_law_sums" 302 (.ref 99),kE P "_law_from" 314 (.ref 106),kE P "_law_first_sums" 320 (.ref 111),kE P "_law_classes" 326 (.ref 116),kE P "_law_key" 332 (.ref 121),kE P "_law_least" 338 (.ref 126),kE P "_law_other" 348 (.ref 133),kE P "_law_spoilt" 354 (.ref 138),kE P "_law_due" 360 (.ref 143),kE P "law" 371 (.ref 150)] 33}
noncomputable def kK (P:Params):L6:=(3,kD P)::[kP "carried" 20 1 m1 189 2 3 200 1,kP "keeps_steps" 25 3 m0 205 13 3 208 0,kP "led" 30 4 m0 211 18 2 214 0,kP "_law_flow" 37 6 m2 219 27 1 223 1,kP "_law_pick" 44 7 m2 226 29 2 233 1,kP "_law_shuffled" 51 8 m2 236 44 2 243 1,kP "_law_alike" 56 9 m2 246 50 2 249 0,kP "_law_nim_table" 61 10 m2 252 62 2 255 0,kP "_law_blown" 66 11 m2 258 76 2 261 0,kP "_law_renumbered" 71 12 m2 264 92 2 267 0,kP "_law_counted" 78 13 m2 270 96 3 276 1,kP "_law_any_table" 83 14 m2 279 100 2 282 0,kP "_law_long_table" 88 15 m2 285 117 1 288 0,kP "_law_table" 93 16 m2 291 132 1 294 0,kP "_law_sums" 98 17 m2 297 147 2 300 0,kP "_law_from" 105 18 m2 303 156 3 312 1,kP "_law_first_sums" 110 19 m2 315 161 1 318 0,kP "_law_classes" 115 20 m2 321 170 1 324 0,kP "_law_key" 120 21 m2 327 177 1 330 0,kP "_law_least" 125 22 m2 333 179 1 336 0,kP "_law_other" 132 23 m2 339 190 2 346 1,kP "_law_spoilt" 137 24 m2 349 202 2 352 0,kP "_law_due" 142 25 m2 355 207 2 358 0,kP "law" 149 26 m2 361 215 1 369 1].flatten
noncomputable def kA:List ww:=[3,20,21,25,26,30,31,37,38,44,45,51,52,56,57,61,62,66,67,71,72,78,79,83,84,88,89,93,94,98,99,105,106,110,111,115,116,120,121,125,126,132,133,137,138,142,143,149,150]
theorem tF{h:Heap}(X:K.In h)(G:h.Ns mainGlobals mg)(m:Str×Nat)(c:Nat)(a:PySem.W.nsIn K mainGlobals x=some (some (.ref (c+1))):=by kernel_rfl)(l:K.lookup (c+1)=some (kF x i m c):=by kernel_rfl)(e:PySem.W.codeIn K (.ref c) x=true:=by kernel_rfl):eZ K mg x i (c+1) (PySem.W.fnOf x x (cK (top i)) (bL (top i)) (au (top i)) .none .none .none (.str m.1 m.2) none (.ref c) .none):=
 ⟨PySem.W.mg_of X G a,OR (st:=top i) l e (by unfold PySem.W.keepIn;dsimp only;rw[l];rfl)⟩
theorem kn{h:Heap}(X:K.In h)(G:h.Ns mainGlobals mg)(e:PySem.W.nsIn K mainGlobals x=some none:=by kernel_rfl):mg x=none:=PySem.W.mg_none_of X G e
theorem tC{h:Heap}{d:jp}(X:K.In h)(G:h.Ns mainGlobals mg)(m:Str×Nat)(c:Nat)(a:PySem.W.nsIn K mainGlobals x=some (some (.ref (c+1))):=by kernel_rfl)(l:K.lookup (c+1)=some (kF x i m c d):=by kernel_rfl)(e:PySem.W.codeIn K (.ref c) x=true:=by kernel_rfl):TopC K mg x i d c (c+1) (PySem.W.fnOf x x (cK (top i)) (bL (top i)) (au (top i)) d .none .none (.str m.1 m.2) none (.ref c) .none):=
 ⟨PySem.W.mg_of X G a,JJ (st:=top i) l e (by unfold PySem.W.keepIn;dsimp only;rw[l];rfl)⟩
noncomputable def U4 (P:Params):L6:=[(123,PySem.W.tabObj #[])]++kK P
noncomputable def Yf:List ww:=[123]++kA
theorem cH{h:Heap}(X:K.In h)(c P:ww)(o:Obj)(vs:Array jp)(file:Str)(tf:Nat)(flags:Int)(tg:Nat)(To:Bool)(text:Int)(tt:Nat)(l:K.lookup c=some o)(e1:o.cls=.type "code")(e2:o.data=.fields vs)(e3:vs[11]?=some (.ref P))(e4:vs.getD 11 .none=.ref P)(e5:vs.getD 18 .none=.str file tf)(e6:vs.getD 7 .none=.int flags tg)(e7:vs.getD 9 .none=.bool To)(e8:vs.getD 10 .none=.int text tt)(e9:c≠P):PySem.W.CodeHd h c P:=⟨o,vs,file,tf,flags,tg,To,text,tt,X _ _ l,e1,e2,e3,e4,e5,e6,e7,e8,e9⟩
theorem k0{P:Params}{h:Heap}(X:(U4 P).In h):(kK P).In h/\∀q∈([(125,123)]:List (ww×ww)),h.get? q.2=some (PySem.W.tabObj #[])/\(kK P).lookup q.2=none/\PySem.W.CodeHd h q.1 q.2:=by
 have n0:(kK P).lookup 123=none:=by kernel_rfl
 have Y:(kK P).In h:=λ b o e=>by
  refine X b o ?_;unfold U4;by_cases z0:b=123
  ·rw[z0,n0]at e;cases e
  simp only[A7,B1,y6,beq_false_of_ne z0];exact e
 refine⟨Y,λ q hq=>?_⟩;simp only[G5,not_mem_nil,or_false]at hq;rcases hq with rfl
 ·exact⟨X _ _ (by kernel_rfl),n0,cH Y 125 123 (kO "_law_least" 333 179 1 122 124 336 .none .none) _ _ _ _ _ _ _ _ (by kernel_rfl) rfl rfl rfl rfl rfl rfl rfl rfl (by decide)⟩
def pg:Program:={PySem.Challenge.pw_lastloser_k32_tables_led with main:={PySem.Challenge.pw_lastloser_k32_tables_led.main with body:=[top 0,top 1,top 2,top 3,top 4,top 5,top 6,top 7,top 8,top 9,top 10,top 11,top 12,top 13,top 14,top 15,top 16,top 17,top 18,top 19,top 20,top 21,top 22,top 23,top 24,top 25,top 26]}}
def lw:PySem.W.OpenLaw:={PySem.Challenge.rw_lastloser_k32_tables_led with prog:=pg}
end KK
set_option maxRecDepth 100000 in
set_option maxHeartbeats 0 in
theorem KK.pre:KK.lw.Holds:=by
 w_on;o_law;o_head (PySem.W.kHook KK.U4 KK.Yf (λ _=>by kernel_rfl));(case hw=>w_witness2)
 refine KK.walk (l:=KK.lw) rfl rfl (K:=KK.kK) (λ w h Y=>KK.k0 (PySem.W.kIn_of Y)) ?F
 case F=>
  intro w mg fa h KX G RK;have hm:mg "law"=some (.ref fa):=RK;have e:=hm.symm.trans (PySem.W.mg_of KX G (v:=.ref (149+1)) (by kernel_rfl));cases e;exact KK.all_mk ⟨KK.kn KX G,KK.kn KX G,KK.kn KX G,KK.kn KX G,KK.kn KX G,KK.kn KX G,KK.kn KX G,KK.kn KX G,KK.kn KX G,KK.kn KX G,KK.kn KX G,KK.kn KX G,KK.kn KX G,KK.kn KX G,KK.kn KX G,KK.kn KX G,KK.EE _,KK.Ju _,KK.ED _,KK.Jt _,KK.Bg _⟩ (KK.tF KX G KK.m1 20) (KK.tF KX G KK.m0 25) (KK.tF KX G KK.m0 30) (KK.tF KX G KK.m2 37) (KK.tF KX G KK.m2 44) (KK.tF KX G KK.m2 51) (KK.tF KX G KK.m2 56) (KK.tF KX G KK.m2 61) (KK.tF KX G KK.m2 66) (KK.tF KX G KK.m2 71) (KK.tF KX G KK.m2 78) (KK.tF KX G KK.m2 83) (KK.tF KX G KK.m2 88) (KK.tF KX G KK.m2 93) (KK.tF KX G KK.m2 98) (KK.tF KX G KK.m2 105) (KK.tF KX G KK.m2 110) (KK.tF KX G KK.m2 115) (KK.tF KX G KK.m2 120) (KK.tC KX G KK.m2 125) (KK.tF KX G KK.m2 132) (KK.tF KX G KK.m2 137) (KK.tF KX G KK.m2 142) (KK.tF KX G KK.m2 149)
theorem PySem.Challenge.cw_lastloser_k32_tables_led_holds : PySem.Challenge.rw_lastloser_k32_tables_led.Holds :=
 KK.pre
