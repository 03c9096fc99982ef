import PyProof.Rows.All
import Wide.All
import OpenK.AllK
import Wide.FinOn
import Lean
import PyProof.EqAt
import PyProof.EqKinds
import PyProof.TupleCall
import PyProof.StrWalks
import PyProof.ConsumeWalk
import PyProof.TupleKey
import PyProof.DictFindH
import PyProof.P3Eq
import PyProof.DictRoadsH
import PyProof.Rows.TupTab
import KE.KLam
import KE.KSortTup
import PyProof.ZipIter
import PyProof.Draws
import PyProof.WalksMore
import PyProof.ListMulRoad
import PyProof.AutoListH
import PyProof.FactsAll.tuple_2
import PyProof.FactsAll.tuple
import PyProof.TupleIter
import PyProof.AttrMissHeap
import PyProof.DictIter
import PyProof.DictWalks
import KE.KDictSum
import KE.KDictOf
import PyProof.EnumMake
import KE.BitLaws
import PyProof.RaisesMany
import PyProof.ExcInit
import PyProof.ExcClass3
import PyProof.ExcArgsOwn
import PyProof.RulesTry
import PyProof.RulesAs
import PyProof.NsDelKeeps
import KE.KIsAll
import PyProof.Rows.SortWalk
import PyProof.Rows.Range3
import PyProof.ListRange
import KE.KIntText
import PyProof.Rows.StrNews
import PyProof.Rows.FStr
import PyProof.CallStr
import PyProof.StrLawsIn
import PySem.Challenge.RW_lastloser_k11_texts_of_sums
set_option tactic.hygienic false
local macro_rules|`(tactic|omega)=>`(tactic|lia)
local macro_rules|`(tactic|obtain $p:rcasesPatMed:=$t:term)=>`(tactic|first|(refine Classical.byContradiction fun k=>?_;rcases $t:term with $p:rcasesPatMed<;>(refine k ?_;clear k))|rcases $t:term with $p:rcasesPatMed)
set_option Elab.async false
set_option linter.all false
set_option maxRecDepth 100000
set_option maxHeartbeats 4000000
open List
abbrev jp:=PySem.Value
abbrev kt:=PySem.Shared
abbrev ww:=PySem.Addr
def a8:=@PyProof.Rows.slot_tuple_getitem
def a9:=@PySem.wpAny_typeNameOfWhole_keyiter
def c4:=@PySem.F.slot_dict_keyiterator_next
def c5:=@PyProof.Rows.callWith_type1
def c6:=@PySem.F.slot_tuple_iterator_next
def c7:=@getElem?_append_right
def c8:=@getD_eq_getElem?_getD
def c9:=@PySem.F.excBase_ValueError
def g9:=@getElem?_append_left
def i0:=@Array.getElem?_eq_getElem
def i4:=@drop_eq_getElem_cons
def i5:=@List.getElem?_eq_some_iff
def i6:=@List.getElem?_eq_none_iff
def i7:=@PySem.F.slot_list_append
def i8:=@getElem?_eq_getElem
def i9:=@PySem.F.type_list_append
def j0:=@PySem.F.plainAttrs_list
def j1:=@getElem?_replicate
def j2:=@PySem.wpAny_callSpecial?_slot
def j3:=@length_eq_zero_iff
def j4:=@take_of_length_le
def j5:=@drop_eq_nil_of_le
def j6:=@Array.getElem?_eq_none
def j7:=@PySem.Heap.get?_push_of_some
def j8:=@PySem.Heap.get?_update_other
def j9:=@getElem?_set_self
def k4:=@PySem.Heap.get?_update_self
def k7:=@mem_append_right
def k8:=@length_singleton
def k9:=@Array.getElem?_toList
def l0:=@length_replicate
def l5:=@getElem?_eq_none
def l6:=@PySem.Obj.isFreed_of_fields
def l7:=@mem_cons_of_mem
def l8:=@mem_of_getElem?
def l9:=@PySem.Around.under_plainId
def m5:=@mem_of_mem_take
def m6:=@PySem.codeAny_call_builtin
def m7:=@getElem?_set_ne
def m8:=@PySem.W.hideAll_none
def m9:=@PySem.Heap.SameBut.update
def n0:=@PySem.mem_of_lookup
def n5:=@replicate_succ
def n6:=@Array.length_toList
def n9:=@PySem.Heap.get?_push_size
def o7:=@PySem.wpAny_isSubtype_exc
def o8:=@map_congr_left
def o9:=@filterMap_cons
def p0:=@mem_cons_self
def p9:=@Bool.false_ne_true
def q8:=@length_append
def q9:=@Bool.false_eq_true
def r6:=@Int.emod_lt_of_pos
def r9:=@PySem.wpAny_setField_rec
def s9:=@Nat.lt_of_le_of_lt
def u3:=@Nat.lt_of_lt_of_le
def u4:=@mem_singleton
def u5:=@PySem.wpAny_Call_Name_kw
def u6:=@PySem.W.tail_of_in
def u7:=@filter_append
def u9:=@of_decide_eq_false
def v8:=@PySem.Obj.data_mapFields
def v9:=@Int.lt_of_le_of_lt
def w5:=@PySem.tupleKind_room_in1
def w6:=@Array.forIn_toList
def w9:=@PySem.W.of_hideAll
def x6:=@getElem?_map
def x8:=@decide_eq_true_eq
def x9:=@Int.toNat_natCast
def y0:=@PySem.wpAny_newObj_type
def y3:=@flatten_cons
def y4:=@PySem.wpAny_truthy_bool
def y6:=@PySem.wpAny_pyIter_list
def y7:=@length_range
def y8:=@Option.isSome_map
def y9:=@List.size_toArray
def z9:=@PySem.wpAny_loadPart_at
def A0:=@PySem.SeqAt.eqAt_reads
def A1:=@lookup_cons
def A2:=@Nat.le_of_not_lt
def A3:=@length_cons
def A4:=@length_drop
def A5:=@take_length
def A6:=@PySem.wpAny_call_entry
def A7:=@Bool.and_eq_true
def A8:=@length_take
def A9:=@getElem_mem
def B0:=@List.all_eq_true
def B1:=@Bool.eq_iff_iff
def B2:=@append_nil
def B3:=@find?_cons
def B4:=@decide_eq_false
def B5:=@PySem.wpAny_loadPart'
def B6:=@Int.emod_nonneg
def B7:=@Option.some.inj
def B8:=@PySem.PassesOwn.never
def B9:=@PySem.wpAny_passesOwn
def C1:=@PySem.W.kia_one
def C2:=@length_map
def C3:=@mem_append
def C4:=@map_append
def C5:=@Nat.le_antisymm
def C6:=@PySem.wpAny_specialOf
def C7:=@length_set
def C8:=@of_mem_zip
def C9:=@PySem.wpAny_execs_nil
def D1:=@decide_eq_true
def D3:=@PySem.wpAny_seqItems
def D4:=@PySem.Heap.size_push
def D5:=@PySem.wpAny_setField
def D6:=@PySem.wpAny_holding
def D7:=@PySem.wpAny_attempt
def D8:=@PySem.Paired.length
def D9:=@Nat.lt_irrefl
def F9:=@map_cons
def G0:=@mem_cons
def G1:=@PySem.W.mg_of
def G3:=@sum_cons
def G4:=@PySem.wpAny_standAt
def G5:=@Int.zero_add
def G6:=@Nat.ne_of_lt
def G7:=@PySem.Heap.lt_size
def G8:=@mem_map
def G9:=@List.map_map
def H9:=@Nat.le_trans
def J0:=@Nat.le_of_eq
def J7:=@PySem.wpAny_typeOf
def J8:=@PySem.codeAny_mono
def J9:=@Nat.ne_of_gt
def K0:=@Nat.le_of_lt
def K1:=@Nat.le_refl
def K2:=@PySem.sizeLine_eq
def K3:=@Nat.zero_le
def K4:=@PySem.wpAny_field
def K5:=@PySem.wpAny_bind
def K6:=@PySem.wpAny_pure
def K7:=@PySem.wpAny_rule
def K8:=@PySem.call_meets
def K9:=@PySem.wpAny_mono
def L6:=@PySem.wpAny_call
def L7:=@if_false
def L8:=@congrArg
def L9:=@Ne.symm
def N0:=@if_true
def N3:=@if_pos
def N4:=@if_neg
abbrev N5:=PySem.W.Frag
open PySem
variable {E Q Ex:jp->kt->Prop}{mg mA mN:Str->Option jp}{xz:List (ww×Obj)}{K:N5}{s s':kt}{w:World}{fd:FuncData}{A:Around}{P prog:Program}{a f p C b0 q dx:ww}{es ifs rest as:List Expr}{x z qual name:Str}{pos e_ apos pos' ck p2:Pos}{base h':Heap}{k i n c t' ep j m:Nat}{e tg iter:Expr}{ps zs ws tgs N ys sn:List Str}{u cd:jp}{b hdct:Bool}{α:Type}{us ay:List jp}{scope:Scope}{ns:List Int}{outer:List Env}{kindOf:Str->Option NameKind}{T:String}{vs:Array jp}{fr:List Nat}{S:Heap->ww->Array jp->Prop}{body suite:List Stmt}{st:Stmt}{ts:List (Str×Int)}{sl:Array (Option jp)}{XP:(Str->Option jp)->Heap->Prop}{fp ch:List ww}{cells cl:List (Str×ww)}{J:List jp->Nat->kt->Prop}{dd:Option ww}{env:Env}{l:PySem.W.OpenLaw}{col:Option Bool}{os:OsState}{YP:World->Heap->Prop}{oe:Obj}
namespace L2
open PySem.Spec PyProof.Rows
abbrev Key:=Sum Int Str
def rp:Key->jp->Bool
 | .inl k,v=>Value.isInt k v
 | .inr x,v=>Value.isStrOf x v
def XI(w:World):Key->Int
 | .inl k=>hashInt k
 | .inr x=>hashStr w x
theorem bW:∀{k:Key} {v:jp},rp k v=true->(∃i t,k=Sum.inl i/\v=Value.int i t)\/(∃x t,k=Sum.inr x/\v=Value.str x t)
 | .inl i,v,h=>by obtain⟨t,e⟩:=Value.isInt_shape (k:=i) (v:=v) h;exact .inl ⟨i,t,rfl,e⟩
 | .inr x,v,h=>by obtain⟨t,e⟩:=Value.isStrOf_shape (x:=x) (v:=v) h;exact .inr ⟨x,t,rfl,e⟩
theorem BP(i:Int)(t:Tok):rp (.inl i) (.int i t)=true:=by simp[rp,Value.isInt]
theorem BO(x:Str)(t:Tok):rp (.inr x) (.str x t)=true:=by simp[rp,Value.isStrOf]
theorem PR(a b:Int):decide ((Sum.inl a:Key)=Sum.inl b)=(a==b):=by
 by_cases e:a=b
 ·subst e;simp
 ·have h:¬(Sum.inl a:Key)=Sum.inl b:=λ q=>e (Sum.inl.inj q);rw[B4 h];exact(beq_eq_false_iff_ne.mpr e).symm
theorem PL(a b:Str):decide ((Sum.inr a:Key)=Sum.inr b)=decide (a=b):=by
 by_cases e:a=b
 ·subst e;simp
 ·have h:¬(Sum.inr a:Key)=Sum.inr b:=λ q=>e (Sum.inr.inj q);rw[B4 h,B4 e]
theorem PQ(a:Int)(b:Str):decide ((Sum.inl a:Key)=Sum.inr b)=false:=B4 (λ q=>nomatch q)
theorem PM(a:Str)(b:Int):decide ((Sum.inr a:Key)=Sum.inl b)=false:=B4 (λ q=>nomatch q)
def cz(prog:Program)(w:World):PySem.KeyKind prog w Key where
 is:=rp
 hash:=XI w
 inj:=λ v a b ha hb=>by
  rcases bW ha with⟨i,t,rfl,rfl⟩|⟨x,t,rfl,rfl⟩
  ·rcases bW hb with⟨j,u,rfl,e⟩|⟨y,u,rfl,e⟩
   ·injection e with e1 _;rw[e1]
   ·exact nomatch e
  ·rcases bW hb with⟨j,u,rfl,e⟩|⟨y,u,rfl,e⟩
   ·exact nomatch e
   ·injection e with e1 _;rw[e1]
 byValue:=λ k v h=>by rcases bW h with⟨i,t,rfl,rfl⟩|⟨x,t,rfl,rfl⟩ <;> rfl
 pyHash:=λ hv h=>by
  rcases bW hv with⟨i,t,rfl,rfl⟩|⟨x,t,rfl,rfl⟩
  ·exact wpAny_pyHash_int h
  ·exact wpAny_pyHash_str h
 eqBool:=λ hu hv h=>by
  rcases bW hu with⟨i,t,rfl,rfl⟩|⟨x,t,rfl,rfl⟩
  ·rcases bW hv with⟨j,u,rfl,rfl⟩|⟨y,u,rfl,rfl⟩
   ·rw[PR]at h;exact wpAny_eqBool_int h
   ·rw[PQ]at h;exact SeqAt.EqAt.int_str i t y u _ _ _ _ h
  ·rcases bW hv with⟨j,u,rfl,rfl⟩|⟨y,u,rfl,rfl⟩
   ·rw[PM]at h;exact SeqAt.EqAt.str_int x t j u _ _ _ _ h
   ·rw[PL]at h;exact wpAny_eqBool_str h
 «strs»:=λ k x t v h=>by
  rcases bW h with⟨i,u,rfl,e⟩|⟨y,u,rfl,e⟩
  ·exact nomatch e
  ·injection e with e1 _
   subst e1;cases v <;> rfl
theorem lY(prog:Program)(w:World)(i:Int)(t:Tok):(cz prog w).is (.inl i) (.int i t)=true:=BP i t
theorem vA(prog:Program)(w:World)(x:Str)(t:Tok):(cz prog w).is (.inr x) (.str x t)=true:=BO x t
inductive V where
 |bu|bl (b:Bool)|int (i:Int)|str (x:Str)|CU (b:Array UInt8)|Qx (b:UInt64)|ref (a:ww)|ty (n:String)
 deriving DecidableEq
def bv:V->jp->Prop
 | .bu,u=>u=Value.none
 | .bl b,u=>u=Value.bool b
 | .int i,u=>∃t,u=Value.int i t
 | .str x,u=>∃t,u=Value.str x t
 | .CU b,u=>∃t,u=Value.bytes b t
 | .Qx b,u=>∃t,u=Value.float b t
 | .ref a,u=>u=Value.ref a
 | .ty n,u=>u=Value.type n
abbrev cr:List V->List jp->Prop:=Paired bv
theorem cr.length{xs:List V}(r:cr xs us):xs.length=us.length:=D8 r
theorem cr.get:∀{xs:List V} {us:List jp} {i:Nat} {x:V},cr xs us->xs[i]?=some x->∃u,us[i]?=some u/\bv x u
 |_,_,_,_,.nil,e=>by simp at e
 |_,_,0,_,.cons r _,e=>by simp at e;subst e;exact⟨_,rfl,r⟩
 |_,_,i+1,x,.cons _ t,e=>by obtain⟨u,h1,h2⟩:=cr.get (i:=i) (x:=x) t (by simpa using e);exact⟨u,by simpa using h1,h2⟩
theorem cr.set{x:V}(r:bv x u):∀{xs:List V} {us:List jp} (i:Nat),cr xs us->cr (xs.set i x) (us.set i u)
 |_,_,_,.nil=>.nil
 |_,_,0,.cons _ t=>.cons r t
 |_,_,i+1,.cons q t=>.cons q (cr.set r i t)
theorem cr.append:∀{xs ys:List V} {us ws:List jp},cr xs us->cr ys ws->cr (xs++ys) (us++ws)
 |_,_,_,_,.nil,s=>s
 |_,_,_,_,.cons r t,s=>.cons r (cr.append t s)
theorem cr.take:∀{xs:List V} {us:List jp} (n:Nat),cr xs us->cr (xs.take n) (us.take n)
 |_,_,0,_=>.nil
 |_,_,_+1,.nil=>.nil
 |_,_,n+1,.cons r t=>.cons r (cr.take n t)
theorem cr.drop:∀{xs:List V} {us:List jp} (n:Nat),cr xs us->cr (xs.drop n) (us.drop n)
 |_,_,0,r=>r
 |_,_,_+1,.nil=>.nil
 |_,_,n+1,.cons _ t=>cr.drop n t
theorem cr.none_of:∀{xs:List V} {us:List jp} {i:Nat},cr xs us->xs[i]?=none->us[i]?=none:=λ{xs us i} r e=>by have h1:=r.length;have h2:xs.length<=i:=i6.mp e;exact i6.mpr (by omega)
def ib:Option V->Option jp->Prop
 |some v,some u=>bv v u
 |none,none=>True
 |_,_=>False
def KV{κ:Type}:List (κ×V)->List (κ×jp)->Prop:=Paired λ(p:κ×V) (q:κ×jp)=>p.1=q.1/\bv p.2 q.2
def kV:Key->V
 | .inl i=>.int i
 | .inr x=>.str x
inductive HO where
  |lst (xs:List V)
  |tup (xs:List V)
  |dK (aA:List (Key×V))|dT (aA:List (List Key×V))
  |set (S:Int->Bool) (n:Nat)
  |ins (C dx:ww) (fs:List (Str×V))
  |own (x:ww)
  |xd (fs:List (Str×V))
  |met (f x:ww)
  |W4 (lo hi:Int)
  |ia (o:Obj) (u:HO)
  |CP (ps:Array jp)
  |ext (φ:Heap->Prop)
abbrev Hp:=ww->Option HO
def dl(H:Hp)(a:ww)(o:HO):Hp:=λ b=>if b=a then some o else H b
theorem aV{H:Hp}{o:HO}:dl H a o a=some o:=by unfold dl;rw[N3 rfl]
theorem aB{H:Hp}{b:ww}{o:HO}(h:b≠a):dl H a o b=H b:=by unfold dl;rw[N4 h]
theorem jK{H:Hp}{o u:HO}:dl (dl H a o) a u=dl H a u:=by funext b;unfold dl;split <;> rfl
theorem bq{H:Hp}{b:ww}{o u:HO}(h:H a=some o)(h':H b=some u)(d:o≠u):a≠b:=by intro e;subst e;rw[h]at h';exact d (B7 h')
theorem aZ{H:Hp}{b:ww}{o:HO}(h:H a=some o)(h':H b=none):a≠b:=by intro e;subst e;rw[h]at h';cases h'
section
variable (P:Program)(w:World)
def bD(H:Hp)(h:Heap)(a:ww):HO->Prop
 | .lst xs=>xs.length<=sizeLine/\∃(ay:List jp) (n:Nat),cr xs ay/\h.get? a=some {cls:=.type "list",data:=.seq ay.toArray n}
 | .tup xs=>xs.length<=sizeLine/\∃ay:List jp,cr xs ay/\IsTup h a ay.toArray
 | .dK aA=>aA.length<=sizeLine/\(a==sysModules)=false/\∃vs,KV aA vs/\h.DictOf (cz P w) a vs
 | .dT aA=>aA.length<=sizeLine/\(a==sysModules)=false/\∃xs:List (List Key×ww×jp),
   Paired (λ(p:List Key×V) (q:List Key×ww×jp)=>p.1=q.1/\H q.2.1=some (.tup (p.1.map kV))/\bv p.2 q.2.2) aA xs/\
   ∃o es ep,h.get? a=some o/\o.ExactDict/\o.data=.dict es ep/\es.toList=xs.map (entryOfKey (tupleKind (cz P w)))/\(xs.map (·.1)).Nodup
 | .set S n=>h.SetOf (intKind P w) a S n
 | .ins C dx fs=>H dx=some (.own a)/\fs.length<=1000/\dx≠a/\h.get? a=some (PySem.W.instObj C dx)/\
   ∃mA,h.Ns1 dx mA/\(∀f,ib (fs.lookup f) (mA f))/\PySem.Within mA (fs.map (·.1))
 | .own _=>∃o,h.get? a=some o
 | .xd fs=>∃mA,h.Ns1 a mA/\∀f,ib (fs.lookup f) (mA f)
 | .W4 lo hi=>∃t u v,h.get? a=some {cls:=.type "range",data:=.fields #[.int lo t,.int hi u,.int 1 v]}
 | .ia o u=>h.get? a=some o/\bD H h a u
 | .CP ps=>h.get? a=some {cls:=.none,data:=.fields ps}
 | .met f x=>h.get? a=some (PySem.W.methodObj (.ref f) (.ref x))
 | .ext φ=>φ h/\(∃o,h.get? a=some o)/\∀h1 h2:Heap,φ h1->(∀o,h1.get? a=some o->h2.get? a=some o)->φ h2
def gE(H:Hp)(h:Heap):Prop:=∀a o,H a=some o->bD P w H h a o
end
section
variable {H H':Hp}{h:Heap}{o:HO}
theorem bD.lt(x:bD P w H h a o):a < h.objs.size:=by
 cases o with
 |lst xs=>obtain⟨_,_,_,_,e⟩:=x;exact G7 e
 |tup xs=>obtain⟨_,_,_,p⟩:=x;exact p.lt
 |dK aA=>obtain⟨_,_,_,_,o,_,_,e,_⟩:=x;exact G7 e
 |dT aA=>obtain⟨_,_,_,_,o,_,_,e,_⟩:=x;exact G7 e
 |set S n=>obtain⟨o,_,_,_,e,_⟩:=x;exact G7 e
 |ins C dx fs=>obtain⟨_,_,_,e,_⟩:=x;exact G7 e
 |own y=>obtain⟨_,e⟩:=x;exact G7 e
 |xd fs=>obtain⟨_,⟨_,_,_,e,_⟩,_⟩:=x;exact G7 e
 |W4 lo hi=>obtain⟨_,_,_,e⟩:=x;exact G7 e
 |ia ob u=>obtain⟨e,_⟩:=x;exact G7 e
 |CP ps=>exact G7 (show h.get? a=some _ from x)
 |met f y=>exact G7 (show h.get? a=some _ from x)
 |ext φ=>obtain⟨_,⟨_,e⟩,_⟩:=x;exact G7 e
theorem Paired.BM{β:Type}{F G:α->β->Prop}:∀{l₁:List α} {l₂:List β},Paired F l₁ l₂->(∀a b,F a b->G a b)->Paired G l₁ l₂
 |_,_,.nil,_=>.nil
 |_,_,.cons r t,f=>.cons (f _ _ r) (Paired.BM t f)
theorem bD.fb(x:bD P w H h a o)(k:∀b u,(b=a\/H b=some (.own a))->h.get? b=some u->h'.get? b=some u) (ho:∀b,H b=some (.own a)->H' b=some (.own a)) (ht:∀b xs,H b=some (.tup xs)->H' b=some (.tup xs)):bD P w H' h' a o:=by
 induction o with
 |lst xs=>obtain⟨z,ay,n,r,e⟩:=x;exact⟨z,ay,n,r,k _ _ (.inl rfl) e⟩
 |tup xs=>obtain⟨z,ay,r,ob,e,c⟩:=x;exact⟨z,ay,r,ob,k _ _ (.inl rfl) e,c⟩
 |dK aA=>obtain⟨z,y,vs,r,ob,es,ep,e,c⟩:=x;exact⟨z,y,vs,r,ob,es,ep,k _ _ (.inl rfl) e,c⟩
 |dT aA=>obtain⟨z,y,xs,r,ob,es,ep,e,c⟩:=x;exact⟨z,y,xs,Paired.BM r λ p q z=>⟨z.1,ht _ _ z.2.1,z.2.2⟩,ob,es,ep,k _ _ (.inl rfl) e,c⟩
 |set S n=>obtain⟨ob,es,ep,t,e,c⟩:=x;exact⟨ob,es,ep,t,k _ _ (.inl rfl) e,c⟩
 |ins C dx fs=>obtain⟨d,z,ne,e,mA,⟨od,es,ep,e2,c⟩,r⟩:=x;exact⟨ho _ d,z,ne,k _ _ (.inl rfl) e,mA,⟨od,es,ep,k _ _ (.inr d) e2,c⟩,r⟩
 |own y=>obtain⟨ob,e⟩:=x;exact⟨ob,k _ _ (.inl rfl) e⟩
 |xd fs=>obtain⟨mA,⟨od,es,ep,e,c⟩,r⟩:=x;exact⟨mA,⟨od,es,ep,k _ _ (.inl rfl) e,c⟩,r⟩
 |W4 lo hi=>obtain⟨t,u,v,e⟩:=x;exact⟨t,u,v,k _ _ (.inl rfl) e⟩
 |ia ob u ih=>obtain⟨e,q⟩:=x;exact⟨k _ _ (.inl rfl) e,ih q⟩
 |CP ps=>have e:h.get? a=some {cls:=.none,data:=.fields ps}:=x;show h'.get? a=some {cls:=.none,data:=.fields ps};exact k a _ (.inl rfl) e
 |met f y=>have e:h.get? a=some (PySem.W.methodObj (.ref f) (.ref y)):=x;show h'.get? a=some (PySem.W.methodObj (.ref f) (.ref y));exact k a _ (.inl rfl) e
 |ext φ=>obtain⟨p,⟨o,e⟩,st⟩:=x;exact⟨st _ _ p λ o q=>k _ _ (.inl rfl) q,⟨o,k _ _ (.inl rfl) e⟩,st⟩
theorem gE.lt(x:gE P w H h)(e:H a=some o):a < h.objs.size:=(x a o e).lt
theorem gE.fresh(x:gE P w H h)(e:h.objs.size<=a):H a=none:=by
 cases q:H a with
 |none=>rfl
 |some u=>exact absurd (u3 (x.lt q) e) (D9 _)
theorem gE.kept(x:gE P w H h)(k:∀b u,h.get? b=some u->h'.get? b=some u):gE P w H h':=λ a o e=>
 (x a o e).fb (λ b u _ q=>k b u q) (λ _ q=>q) λ _ _ q=>q
theorem gE.laid(x:gE P w H h)(k:∀b u,h.get? b=some u->h'.get? b=some u)(hp:h.objs.size<=a)(new:bD P w (dl H a o) h' a o):gE P w (dl H a o) h':=λ b u e=>by
 have hn:=x.fresh hp;by_cases hb:b=a
 ·subst hb;rw[aV]at e;cases e;exact new
 ·rw[aB hb]at e;exact(x b u e).fb (λ c v _ q=>k c v q) (λ c q=>by rw[aB (aZ q hn)];exact q) λ c xs q=>by rw[aB (aZ q hn)];exact q
end
def Rd(H:Hp)(a:ww)(u:HO):Prop:=H a=some u\/∃o,H a=some (.ia o u)
theorem Rd.ok{H:Hp}{h:Heap}{u:HO}(r:Rd H a u)(x:gE P w H h):bD P w H h a u:=by
 rcases r with r|⟨o,r⟩
 ·exact x a u r
 ·obtain⟨_,q⟩:=x a _ r;exact q
def Va:Option HO->Prop
 |some (.lst _)=>True
 |some (.dK _)=>True
 |some (.dT _)=>True
 |some (.set _ _)=>True
 |some (.ins _ _ _)=>True
 |some (.ext _)=>True
 |_=>False
section
variable {H:Hp}{h:Heap}{x e:ww}{o':HO}
theorem gE.write(ok:gE P w H h)(mu:Va (H x))(he:e=x\/H e=some (.own x))(k:∀b u,b≠e->h.get? b=some u->h'.get? b=some u)(Rt:∃u,h'.get? e=some u) (new:bD P w (dl H x o') h' x o'):gE P w (dl H x o') h':=λ b u q=>by
 have Te:∀c y,H c=some (.own y)->c≠x:=λ c y r z=>by subst z;rw[r]at mu;exact mu
 have Xp:∀c xs,H c=some (.tup xs)->c≠x:=λ c xs r z=>by subst z;rw[r]at mu;exact mu
 by_cases hb:b=x
 ·subst hb;rw[aV]at q;cases q;exact new
 ·rw[aB hb]at q;by_cases Qs:b=e
  ·have q':H b=some (.own x):=by
    rcases he with z|z
    ·exact absurd (Qs.trans z) hb
    ·rw[Qs];exact z
   rw[q]at q';cases q';obtain⟨v,hv⟩:=Rt;exact⟨v,by rw[Qs];exact hv⟩
  ·refine(ok b u q).fb (λ c v hc r=>k c v ?_ r) (λ c r=>by rw[aB (Te c b r)];exact r) λ c xs r=>by rw[aB (Xp c xs r)];exact r
   rcases hc with rfl|hc
   ·exact Qs
   ·rintro rfl;rcases he with z|z
    ·exact Te c b hc z
    ·rw[hc]at z;cases z;exact hb rfl
end
structure Un(fs ex:List ww)(H H':Hp)(h h':Heap):Prop where
 keep:∀b o,h.get? b=some o->H b=none->b∉fs->b∉ex->h'.get? b=some o
 slot:∀b o,h.get? b=some o->H b=none->b∈fs->b∉ex->∃sl,h'.get? b=some {o with slots:=sl}
 free:∀b o,h.get? b=some o->H b=none->b∉ex->H' b=none
 there:∀b o,h.get? b=some o->b∉ex->∃o',h'.get? b=some o'
 gr:∀b xs,H b=some (.tup xs)->H' b=some (.tup xs)
 gc:∀b o u,H b=some (.ia o u)->H' b=some (.ia o u)
 gH:∀b ps,H b=some (.CP ps)->∃more,H' b=some (.CP (ps++more))
section
variable {fs fs' ex ex':List ww}{H H1 H2:Hp}{h h1 h2:Heap}{x e:ww}{o:HO}
theorem Un.any(u:Un fs ex H H1 h h1){b:ww}{ob:Obj}(q:h.get? b=some ob)(n:H b=none)(hx:b∉ex):∃sl,h1.get? b=some {ob with slots:=sl}:=by
 by_cases hb:b∈fs
 ·exact u.slot b ob q n hb hx
 ·exact⟨ob.slots,u.keep b ob q n hb hx⟩
theorem Un.kept(k:∀b u,h.get? b=some u->h'.get? b=some u):Un fs ex H H h h':=
 ⟨λ b ob q _ _ _=>k b ob q,λ b ob q _ _ _=>⟨ob.slots,k b ob q⟩,λ _ _ _ n _=>n,λ b ob q _=>⟨ob,k b ob q⟩,λ _ _ q=>q,λ _ _ _ q=>q,λ _ ps q=>⟨#[],by rw[q];simp⟩⟩
theorem Un.refl:Un fs ex H H h h:=Un.kept λ _ _ q=>q
theorem Un.laid(k:∀b u,h.get? b=some u->h'.get? b=some u)(hp:h.objs.size<=a)(hn:H a=none):Un fs ex H (dl H a o) h h' where
 keep:=λ b u q _ _ _=>k b u q
 slot:=λ b u q _ _ _=>⟨u.slots,k b u q⟩
 free:=λ b u q n _=>by rw[aB (G6 (u3 (G7 q) hp))];exact n
 there:=λ b u q _=>⟨u,k b u q⟩
 gr:=λ b xs q=>by rw[aB (aZ q hn)];exact q
 gc:=λ b u xs q=>by rw[aB (aZ q hn)];exact q
 gH:=λ b ps q=>⟨#[],by rw[aB (aZ q hn),q];simp⟩
theorem Un.write(mu:Va (H x))(he:e=x\/H e=some (.own x))(k:∀b u,b≠e->h.get? b=some u->h'.get? b=some u)(Rt:∃u,h'.get? e=some u):Un fs ex H (dl H x o) h h':=by
 have hx:∀b,H b=none->b≠x:=λ b n z=>by subst z;rw[n]at mu;exact mu
 have hb:∀b,H b=none->b≠e:=λ b n z=>by
  subst z;rcases he with r|r
  ·exact hx b n r
  ·rw[n]at r;cases r
 have hm:∀b u,H b=some u->¬Va (some u)->b≠x:=λ b u q nm z=>by subst z;rw[q]at mu;exact nm mu
 refine⟨λ b u q n _ _=>k b u (hb b n) q,λ b u q n _ _=>⟨u.slots,k b u (hb b n) q⟩,λ b u q n _=>by rw[aB (hx b n)];exact n,λ b u q _=>?_,
  λ b xs q=>by rw[aB (hm b _ q λ z=>z)];exact q,λ b u xs q=>by rw[aB (hm b _ q λ z=>z)];exact q,λ b ps q=>⟨#[],by rw[aB (hm b _ q λ z=>z),q];simp⟩⟩
 by_cases Qs:b=e
 ·subst Qs;exact Rt
 ·exact⟨u,k b u Qs q⟩
end
def Vk(h:Heap)(H:Hp):List ww:=(List.range h.objs.size).filter λ a=>(H a).isSome
def tW(h:Heap)(H:Hp):Heap:=PySem.W.hideAll h (Vk h H)
theorem Ca(h:Heap)(H:Hp):(tW h H).objs.size=h.objs.size:=PySem.W.hideAll_size _ _
theorem Gx{h:Heap}{H:Hp}{b:ww}{o:Obj}(e:h.get? b=some o)(n:H b=none):(tW h H).get? b=some o:=
 PySem.W.hideAll_get _ e λ hm=>by have q:(H b).isSome=true:=(mem_filter.mp hm).2;rw[n]at q;simp at q
theorem Kr{h:Heap}{H:Hp}{b:ww}{o:Obj}(e:(tW h H).get? b=some o):h.get? b=some o/\H b=none:=by
 have e':h.get? b=some o:=w9 (Vk h H) e;refine⟨e',?_⟩;cases q:H b with
 |none=>rfl
 |some x=>have hm:b∈Vk h H:=mem_filter.mpr ⟨mem_range.mpr (G7 e'),by simp[q]⟩;have z:(tW h H).get? b=none:=m8 (Vk h H) hm;rw[z]at e;cases e
structure Mod(K:N5)(mg:Str->Option jp)(base:Heap):Prop where
 Rm:K.In base
 glob:base.Ns mainGlobals mg
 blt:∃mb,base.Ns builtinsNs mb/\∀x:Str,x≠"__name__"->mb x=bootBuiltins x
 nolimit:base.NoLimit
structure Cx where
 prog:Program
 w:World
 K:N5
 mg:Str->Option jp
 base:Heap
 A:Around
 N:List Str
 s₀:kt
 H₀:Hp
 env:Env
 outer:List Env
 stack:List Env
 ex:List ww
 fn:Str->Bool
 calm:Bool
 pn:List (ww×Obj)
 xe:jp->kt->Prop
def je(l:List Env):List ww:=l.filterMap (·.frame)
abbrev Cx.fs (X:Cx):List ww:=je X.outer
def U5(sc:Scope)(x:Str):Prop:=sc.names.lookup x=some .local\/sc.names.lookup x=some .cell\/sc.names.lookup x=some .free
def Loc(sc:Scope)(x:Str):Prop:=sc.names.lookup x=some .local\/sc.names.lookup x=some .cell
def Look(env:Env)(h:Heap)(m:Str->Option jp)(x:Str)(u:jp):Prop:=
 (env.kindOf x=some .local/\m x=some u)\/((env.kindOf x=some .cell\/env.kindOf x=some .free)/\∃c,env.cells.lookup x=some c/\h.IsCell c (some u))
structure Cx.Ok (X:Cx):Prop where
 mod:Mod X.K X.mg X.base
 kind:X.env.scope.kind=.function
 glob:X.env.globals=mainGlobals
 blt:X.env.builtins=builtinsNs
 above:X.s₀.heap.objs.size<=X.env.locals
 inj:∀x y c,X.env.cells.lookup x=some c->X.env.cells.lookup y=some c->x=y
 has:∀x,(X.env.kindOf x=some .cell\/X.env.kindOf x=some .free)->∃c,X.env.cells.lookup x=some c
 Rx:∀x c,X.fn x=true->X.env.cells.lookup x=some c->X.s₀.heap.objs.size<=c
 hd:X.calm=true->X.A.handled=none
 frames:X.A.frames=some X.stack
 R3:X.stack=X.outer\/(X.stack=X.env::X.outer/\X.env.frame=some X.env.locals)
 YB:∀b∈X.ex,b≠X.env.locals/\∀x c,X.env.cells.lookup x=some c->c≠b
 bs:∀b o,X.base.get? b=some o->X.s₀.heap.get? b=some o/\X.H₀ b=none
 CV:X.base.objs.size<=X.s₀.heap.objs.size
 yf:∀b o,X.base.get? b=some o->b∉X.ex
 GP:∀b∈X.ex,b∉X.fs
 ke:X.s₀.heap.FunFrames X.base X.outer
 Ls:∀b∈X.fs,X.H₀ b=none
structure be(X:Cx)(xz:List (ww×Obj))(σ:List (Option V))(H:Hp)(s:kt):Prop where
 ok:X.Ok
 os:s.os=X.s₀.os
 bare:AllBare s.gens
 base:Un X.fs X.ex X.H₀ H X.s₀.heap s.heap
 loc:∃m,s.heap.Ns X.env.locals m/\∀(i:Nat) (x:Str) (v:V),X.N[i]?=some x->σ[i]?=some (some v)->U5 X.env.scope x->∃u,bv v u/\Look X.env s.heap m x u
 cell:∀x c,X.env.cells.lookup x=some c->∃v,s.heap.IsCell c v
 free:H X.env.locals=none
 fv:∀x c,X.env.cells.lookup x=some c->H c=none
 pin:∀p∈X.pn++xz,s.heap.get? p.1=some p.2/\H p.1=none/\p.1≠X.env.locals/\p.1∉X.fs/\∀v,p.2.data≠.cell v
 bj:gE X.prog X.w H s.heap
 len:σ.length=X.N.length
section
variable {X:Cx}{σ:List (Option V)}{H H':Hp}
theorem Cx.Ok.Xs(ok:X.Ok){b:ww}{o:Obj}(e:X.base.get? b=some o):b∉X.fs:=λ hb=>by have:=(ok.ke.mem hb).1;rw[e]at this;cases this
theorem be.bs(I:be X xz σ H s):∀b o,X.base.get? b=some o->s.heap.get? b=some o/\H b=none:=λ b o e=>
 ⟨I.base.keep b o (I.ok.bs b o e).1 (I.ok.bs b o e).2 (I.ok.Xs e) (I.ok.yf b o e),I.base.free b o (I.ok.bs b o e).1 (I.ok.bs b o e).2 (I.ok.yf b o e)⟩
theorem be.bk(I:be X xz σ H s):∀b o,X.base.get? b=some o->s.heap.get? b=some o:=λ b o e=>(I.bs b o e).1
theorem be.mod(I:be X xz σ H s):Mod X.K X.mg X.base:=I.ok.mod
theorem be.hV(I:be X xz σ H s):X.K.In s.heap:=I.ok.mod.Rm.keeps I.bk
theorem be.lt(I:be X xz σ H s):X.env.locals < s.heap.objs.size:=let⟨_,hn,_⟩:=I.loc;hn.lt
theorem be.sz(I:be X xz σ H s):X.s₀.heap.objs.size<=s.heap.objs.size:=H9 I.ok.above (K0 I.lt)
theorem be.Xr(I:be X xz σ H s)(h:s.heap.objs.size<=a):a∉X.fs:=λ hb=>by obtain⟨_,o,ho,_⟩:=I.ok.ke.mem hb;exact absurd (u3 (G7 ho) (H9 I.sz h)) (D9 _)
theorem be.Hf(I:be X xz σ H s):∀x c,X.env.cells.lookup x=some c->c≠X.env.locals:=λ x c e z=>by obtain⟨v,o,ho,hd⟩:=I.cell x c e;obtain⟨m,⟨o',es,ep,ly,jc,_⟩,_⟩:=I.loc;rw[z,ly]at ho;cases ho;rw[jc]at hd;cases hd
theorem be.ke(I:be X xz σ H s):s.heap.FunFrames X.base X.outer:=by
 have all:∀(l:List Env),(∀b∈je l,b∈X.fs)->X.s₀.heap.FunFrames X.base l->s.heap.FunFrames X.base l:=by
  intro l
  induction l with
  |nil=>intro _ _;trivial
  |cons env r ih=>intro hs hl;obtain⟨hk,⟨L,o,hf,hn,ho,hd⟩,hr⟩:=hl;have hL:L∈X.fs:=hs L (by unfold je;rw[o9,hf];exact p0);obtain⟨sl,e⟩:=I.base.slot L o ho (I.ok.Ls L hL) hL λ z=>I.ok.GP L z hL;exact⟨hk,⟨L,_,hf,hn,e,hd⟩,ih (λ b hb=>hs b (by unfold je;rw[o9,hf];exact l7 _ hb)) hr⟩
 exact all X.outer (λ _ hb=>hb) I.ok.ke
theorem be.stack(I:be X xz σ H s):s.heap.FunFrames X.base X.stack:=by
 rcases I.ok.R3 with e|⟨e,hf⟩
 ·rw[e];exact I.ke
 ·rw[e];obtain⟨m,hn,_⟩:=I.loc;refine .cons (by rw[I.ok.kind];decide) hf hn ?_ I.ke;exact Heap.get?_none_of_le (H9 I.ok.CV I.ok.above)
theorem be.sG(I:be X xz σ H s):∀b∈je X.stack,b∈X.env.locals::X.fs:=λ b hb=>by
 rcases I.ok.R3 with e|⟨e,hf⟩
 ·rw[e]at hb;exact l7 _ hb
 ·rw[e]at hb;unfold je at hb;rw[o9,hf]at hb;exact hb
theorem be.jM(I:be X xz σ H s):∀b∈je X.stack,H b=none:=λ b hb=>by
 rcases G0.mp (I.sG b hb)with e|hb
 ·rw[e];exact I.free
 ·obtain⟨_,o,ho,_⟩:=I.ok.ke.mem hb;exact I.base.free b o ho (I.ok.Ls b hb) λ z=>I.ok.GP b z hb
theorem be.step{g':Array GenState}{d':Drawn}(I:be X xz σ H s) (yz:∀b∈ch,(b∈X.ex\/X.s₀.heap.objs.size<=b)/\b≠X.env.locals/\(∀x c,X.env.cells.lookup x=some c->c≠b)/\∀p∈X.pn++xz,p.1≠b) (keep:∀b o,b≠X.env.locals->b∉X.fs->b∉ch->s.heap.get? b=some o->H b=none->h'.get? b=some o) (slot:∀b o,b≠X.env.locals->b∈X.fs->b∉ch->s.heap.get? b=some o->H b=none->∃sl,h'.get? b=some {o with slots:=sl}) (free:∀b o,b∉ch->s.heap.get? b=some o->H b=none->H' b=none) (there:∀b o,b∉ch->s.heap.get? b=some o->∃o',h'.get? b=some o') (gr:∀b xs,H b=some (.tup xs)->H' b=some (.tup xs)) (gc:∀b o u,H b=some (.ia o u)->H' b=some (.ia o u)) (gH:∀b ps,H b=some (.CP ps)->∃more,H' b=some (.CP (ps++more))) (ns:∀m,s.heap.Ns X.env.locals m->h'.Ns X.env.locals m) (bj:gE X.prog X.w H' h') (hg:AllBare g'):be X xz σ H' {s with heap:=h',gens:=g',drawn:=d',toks:=t'}:=by
 have Zm:∀b o,X.s₀.heap.get? b=some o->b≠X.env.locals:=λ b o e=>G6 (u3 (G7 e) I.ok.above);have VX:∀b o,X.s₀.heap.get? b=some o->b∉X.ex->b∉ch:=λ b o e hx hb=>by
  rcases(yz b hb).1 with z|z
  ·exact hx z
  ·exact absurd (u3 (G7 e) z) (D9 _)
 have cellK:∀x c,X.env.cells.lookup x=some c->∀v,s.heap.IsCell c v->h'.IsCell c v:=λ x c e v ⟨o,ho,hd⟩=>by
  have Tj:c∉ch:=λ z=>(yz c z).2.2.1 x c e rfl;by_cases hc:c∈X.fs
  ·obtain⟨sl,q⟩:=slot c o (I.Hf x c e) hc Tj ho (I.fv x c e);exact⟨_,q,hd⟩
  ·exact⟨o,keep c o (I.Hf x c e) hc Tj ho (I.fv x c e),hd⟩
 refine⟨I.ok,I.os,hg,⟨λ b o e n hb hx=>?_,λ b o e n hb hx=>?_,λ b o e n hx=>?_,λ b o e hx=>?_,λ b xs e=>gr b xs (I.base.gr b xs e),λ b o xs e=>gc b o xs (I.base.gc b o xs e),λ b ps e=>?_⟩,?_,λ x c e=>?_,?_,λ x c e=>?_,λ p hp=>?_,bj,I.len⟩
 ·exact keep b o (Zm b o e) hb (VX b o e hx) (I.base.keep b o e n hb hx) (I.base.free b o e n hx)
 ·obtain⟨sl,e1⟩:=I.base.slot b o e n hb hx;obtain⟨WX,e2⟩:=slot b _ (Zm b o e) hb (VX b o e hx) e1 (I.base.free b o e n hx);exact⟨WX,e2⟩
 ·obtain⟨o',e1⟩:=I.base.there b o e hx;exact free b o' (VX b o e hx) e1 (I.base.free b o e n hx)
 ·obtain⟨o',e1⟩:=I.base.there b o e hx;exact there b o' (VX b o e hx) e1
 ·obtain⟨m1,e1⟩:=I.base.gH b ps e;obtain⟨m2,e2⟩:=gH b _ e1;exact⟨m1++m2,by rw[e2,Array.append_assoc]⟩
 ·obtain⟨m,hn,hl⟩:=I.loc;refine⟨m,ns m hn,λ i x v e1 e2 e3=>?_⟩;obtain⟨u,r,l⟩:=hl i x v e1 e2 e3;refine⟨u,r,?_⟩;rcases l with l|⟨k,c,e,z⟩
  ·exact .inl l
  ·exact .inr ⟨k,c,e,cellK x c e _ z⟩
 ·obtain⟨v,z⟩:=I.cell x c e;exact⟨v,cellK x c e v z⟩
 ·obtain⟨m,⟨o,_,_,ho,_⟩,_⟩:=I.loc;exact free _ o (λ z=>(yz _ z).2.1 rfl) ho I.free
 ·obtain⟨v,o,ho,hd⟩:=I.cell x c e;exact free c o (λ z=>(yz c z).2.2.1 x c e rfl) ho (I.fv x c e)
 ·obtain⟨e,n,ne,nf,d⟩:=I.pin p hp;have Tj:p.1∉ch:=λ z=>(yz p.1 z).2.2.2 p hp rfl;exact⟨keep p.1 p.2 ne nf Tj e n,free p.1 p.2 Tj e n,ne,nf,d⟩
theorem be.un(I:be X xz σ H s)(u:Un X.fs [] H H' s.heap h')(bj:gE X.prog X.w H' h'):be X xz σ H' {s with heap:=h',toks:=t'}:=by
 obtain⟨m,⟨o,es,ep,ho,r⟩,_⟩:=id I.loc;obtain⟨sl,hL⟩:=u.any ho I.free (by simp);exact I.step (g':=s.gens) (d':=s.drawn) (ch:=[]) (λ _ z=>nomatch z) (λ b o _ hb _ e n=>u.keep b o e n hb (by simp)) (λ b o _ hb _ e n=>u.slot b o e n hb (by simp)) (λ b o _ e n=>u.free b o e n (by simp)) (λ b o _ e=>u.there b o e (by simp)) u.gr u.gc u.gH (λ m' hm=>by
  obtain⟨o',MS,YD,ly,r'⟩:=hm;rw[ho]at ly;cases ly;exact⟨_,MS,YD,hL,r'⟩) bj I.bare
theorem be.call{g':Array GenState}{d':Drawn}(I:be X xz σ H s)(u:Un (je X.stack) ch H H' s.heap h')(bj:gE X.prog X.w H' h')(hg:AllBare g') (yz:∀b∈ch,(b∈X.ex\/X.s₀.heap.objs.size<=b)/\b≠X.env.locals/\(∀x c,X.env.cells.lookup x=some c->c≠b)/\∀p∈X.pn++xz,p.1≠b):be X xz σ H' {s with heap:=h',gens:=g',drawn:=d',toks:=t'}:=by
 obtain⟨m,⟨o,es,ep,ho,r⟩,_⟩:=id I.loc;obtain⟨sl,hL⟩:=u.any ho I.free λ z=>(yz _ z).2.1 rfl;exact I.step (ch:=ch) yz (λ b o hL hb hc e n=>u.keep b o e n (λ z=>(G0.mp (I.sG b z)).elim hL hb) hc) (λ b o _ _ hc e n=>u.any e n hc) (λ b o hc e n=>u.free b o e n hc) (λ b o hc e=>u.there b o e hc) u.gr u.gc u.gH (λ m' hm=>by
  obtain⟨o',MS,YD,ly,r'⟩:=hm;rw[ho]at ly;cases ly;exact⟨_,MS,YD,hL,r'⟩) bj hg
theorem be.turned{it:ww}(I:be X xz σ H s)(k:∀b o,b≠it->s.heap.get? b=some o->h'.get? b=some o)(hn:H it=none)(hL:it≠X.env.locals) (h1:it∈X.ex\/X.s₀.heap.objs.size<=it) (h2:∀x c,X.env.cells.lookup x=some c->c≠it) (h3:∀p∈X.pn++xz,p.1≠it):be X xz σ H {s with heap:=h',toks:=t'}:=by
 have Ti:∀b u,H b=some u->b≠it:=λ b u e z=>by rw[z,hn]at e;cases e
 refine I.step (g':=s.gens) (d':=s.drawn) (ch:=[it]) (λ b hb=>?_) (λ b o _ _ hc e _=>k b o (λ z=>hc (by simp[z])) e) (λ b o _ _ hc e _=>⟨o.slots,k b o (λ z=>hc (by simp[z])) e⟩) (λ _ _ _ _ n=>n)
  (λ b o hc e=>⟨o,k b o (λ z=>hc (by simp[z])) e⟩) (λ _ _ e=>e) (λ _ _ _ e=>e) (λ b ps e=>⟨#[],by rw[e];simp⟩) (λ m hm=>?_) (λ b u e=>?_) I.bare
 ·have e:b=it:=by simpa using hb
  subst e;exact⟨h1,hL,h2,h3⟩
 ·obtain⟨o,es,ep,ho,r⟩:=hm;exact⟨o,es,ep,k _ o (L9 hL) ho,r⟩
 ·refine(I.bj b u e).fb (λ c v hc q=>k c v ?_ q) (λ _ q=>q) λ _ _ q=>q;rcases hc with z|z
  ·rw[z];exact Ti b u e
  ·exact Ti c _ z
theorem be.tok(I:be X xz σ H s)(t:Nat):be X xz σ H {s with toks:=t}:=I.un (h':=s.heap) (t':=t) Un.refl I.bj
theorem be.kept(I:be X xz σ H s)(k:∀b u,s.heap.get? b=some u->h'.get? b=some u):be X xz σ H {s with heap:=h',toks:=t'}:=I.un (Un.kept k) (I.bj.kept k)
theorem be.laid{o:HO}(I:be X xz σ H s)(k:∀b u,s.heap.get? b=some u->h'.get? b=some u)(hp:s.heap.objs.size<=a)(new:bD X.prog X.w (dl H a o) h' a o):be X xz σ (dl H a o) {s with heap:=h',toks:=t'}:=I.un (Un.laid k hp (I.bj.fresh hp)) (I.bj.laid k hp new)
theorem be.write{x e:ww}{o:HO}(I:be X xz σ H s)(mu:Va (H x))(he:e=x\/H e=some (.own x))(k:∀b u,b≠e->s.heap.get? b=some u->h'.get? b=some u)(Rt:∃u,h'.get? e=some u) (new:bD X.prog X.w (dl H x o) h' x o):be X xz σ (dl H x o) {s with heap:=h',toks:=t'}:=I.un (Un.write mu he k Rt) (I.bj.write mu he k Rt new)
theorem be.weak{σ':List (Option V)}(I:be X xz σ H s)(hl:σ'.length=σ.length)(w:∀(i:Nat) v,σ'[i]?=some (some v)->σ[i]?=some (some v)):be X xz σ' H s:=
 ⟨I.ok,I.os,I.bare,I.base,let⟨m,hn,B'⟩:=I.loc;⟨m,hn,λ i x v e1 e2 e3=>B' i x v e1 (w i v e2) e3⟩,I.cell,I.free,I.fv,I.pin,I.bj,hl.trans I.len⟩
theorem be.eS{pins':List (ww×Obj)}(I:be X xz σ H s)(h:∀p∈pins',s.heap.get? p.1=some p.2/\H p.1=none/\p.1≠X.env.locals/\p.1∉X.fs/\∀v,p.2.data≠.cell v):be X pins' σ H s:=
 ⟨I.ok,I.os,I.bare,I.base,I.loc,I.cell,I.free,I.fv,λ p hp=>(C3.mp hp).elim (λ z=>I.pin p (mem_append_left _ z)) (h p),I.bj,I.len⟩
theorem oQ(hN:N.Nodup)(a:N[i]?=some x)(b:N[j]?=some x):i=j:=by obtain⟨h1,e1⟩:=i5.mp a;obtain⟨h2,e2⟩:=i5.mp b;exact(getElem_inj hN).mp (e1.trans e2.symm)
theorem qS{M:Model}{v:V}{Q:Unit->kt->Prop}(I:be X xz σ H s)(hN:X.N.Nodup)(hi:X.N[i]?=some x)(hx:Loc X.env.scope x)(r:bv v u) (h:∀s',be X xz (σ.set i (some v)) H s'->(∃a,Heap.SameBut a s.heap s'.heap/\(a=X.env.locals\/X.env.cells.lookup x=some a))->Q () s') (hf:X.fn x=true\/X.env.scope.names.lookup x=some .local:=by first|exact .inl rfl|exact .inr rfl|assumption):wpAny M A (storeName X.env x u) Q E s:=by
 obtain⟨m,hn,hl⟩:=id I.loc;have Qq:(X.env.scope.kind==.class||(X.env.scope.kind==.module&&X.env.locals != X.env.globals))=false:=by rw[I.ok.kind];rfl
 have ZG:i < σ.length:=by rw[I.len];exact(i5.mp hi).1
 have Hf:=I.Hf;have tracked:∀{a:ww} {h':Heap},(∃o,s.heap.get? a=some o/\H a=none)->Heap.SameBut a s.heap h'->gE X.prog X.w H h':=λ{a h'} ha hs b ob e=>by
  obtain⟨_,_,ML⟩:=ha;refine(I.bj b ob e).fb (λ c w' hc q=>(hs.2 c ?_).trans q) (λ _ q=>q) λ _ _ q=>q;rintro rfl;rcases hc with rfl|hc
  ·rw[ML]at e;cases e
  ·rw[ML]at hc;cases hc
 rcases hx with hk|hk
 ·refine wpAny_storeName_local hk hn (λ h' Li hs=>?_) Qq;obtain⟨oL,_,_,ZC,_⟩:=id hn;refine h _ ⟨I.ok,I.os,I.bare,⟨λ b o e n hb hx=>?_,λ b o e n hb hx=>?_,I.base.free,λ b o e hx=>?_,I.base.gr,I.base.gc,I.base.gH⟩,⟨_,Li,λ j y v' e1 e2 e3=>?_⟩,λ y c e=>?_,I.free,I.fv,λ p hp=>?_,tracked ⟨oL,ZC,I.free⟩ hs,by simpa using I.len⟩ ⟨_,hs,.inl rfl⟩
  ·exact(hs.2 b (G6 (u3 (G7 e) I.ok.above))).trans (I.base.keep b o e n hb hx)
  ·obtain⟨sl,e1⟩:=I.base.slot b o e n hb hx;exact⟨sl,(hs.2 b (G6 (u3 (G7 e) I.ok.above))).trans e1⟩
  ·obtain⟨o',e1⟩:=I.base.there b o e hx;exact⟨o',(hs.2 b (G6 (u3 (G7 e) I.ok.above))).trans e1⟩
  ·by_cases hj:j=i
   ·subst hj;rw[hi]at e1;cases e1;rw[j9 ZG]at e2;cases e2;exact⟨u,r,.inl ⟨hk,by simp⟩⟩
   ·rw[m7 (L9 hj)]at e2;obtain⟨u',r',q⟩:=hl j y v' e1 e2 e3;refine⟨u',r',?_⟩;rcases q with⟨k,e⟩|⟨k,c,e,z⟩
    ·refine .inl ⟨k,?_⟩;have:y≠x:=λ e=>hj (oQ hN e1 (e▸hi));simp[this,e]
    ·exact .inr ⟨k,c,e,z.sameBut hs (Hf y c e)⟩
  ·obtain⟨w',z⟩:=I.cell y c e;exact⟨w',z.sameBut hs (Hf y c e)⟩
  ·obtain⟨e,n,ne,nf,d⟩:=I.pin p hp;exact⟨(hs.2 p.1 ne).trans e,n,ne,nf,d⟩
 ·have Yl:X.fn x=true:=by
   rcases hf with z|z
   ·exact z
   ·rw[z]at hk;cases hk
  obtain⟨c,hc⟩:=I.ok.has x (.inl hk);obtain⟨w',z⟩:=I.cell x c hc;refine wpAny_storeName_cell I.ok.kind hk hc z (λ h' GA hs=>?_);obtain⟨oc,ZA,Yd⟩:=id z;refine h {s with heap:=h'} ⟨I.ok,I.os,I.bare,⟨λ b o e n hb hx=>?_,λ b o e n hb hx=>?_,I.base.free,λ b o e hx=>?_,I.base.gr,I.base.gc,I.base.gH⟩,⟨m,hn.sameBut hs (L9 (Hf x c hc)),λ j y v' e1 e2 e3=>?_⟩,λ y c' e=>?_,I.free,I.fv,λ p hp=>?_,tracked ⟨oc,ZA,I.fv x c hc⟩ hs,by simpa using I.len⟩ ⟨c,hs,.inr hc⟩
  ·exact(hs.2 b (G6 (u3 (G7 e) (I.ok.Rx x c Yl hc)))).trans (I.base.keep b o e n hb hx)
  ·obtain⟨sl,e1⟩:=I.base.slot b o e n hb hx;exact⟨sl,(hs.2 b (G6 (u3 (G7 e) (I.ok.Rx x c Yl hc)))).trans e1⟩
  ·obtain⟨o',e1⟩:=I.base.there b o e hx;exact⟨o',(hs.2 b (G6 (u3 (G7 e) (I.ok.Rx x c Yl hc)))).trans e1⟩
  ·by_cases hj:j=i
   ·subst hj;rw[hi]at e1;cases e1;rw[j9 ZG]at e2;cases e2;exact⟨u,r,.inr ⟨.inl hk,c,hc,GA⟩⟩
   ·rw[m7 (L9 hj)]at e2;obtain⟨u',r',q⟩:=hl j y v' e1 e2 e3;refine⟨u',r',?_⟩;rcases q with q|⟨k,c',e,z'⟩
    ·exact .inl q
    ·refine .inr ⟨k,c',e,z'.sameBut hs ?_⟩;rintro rfl;exact hj (oQ hN e1 (I.ok.inj _ _ _ e hc▸hi))
  ·by_cases ZK:c'=c
   ·subst ZK;exact⟨_,GA⟩
   ·obtain⟨w2,z2⟩:=I.cell y c' e;exact⟨w2,z2.sameBut hs ZK⟩
  ·obtain⟨e,n,ne,nf,d⟩:=I.pin p hp;refine⟨(hs.2 p.1 ?_).trans e,n,ne,nf,d⟩;intro q;rw[q,ZA]at e;have q':oc=p.2:=B7 e;exact d w' (by rw[<- q'];exact Yd)
theorem jL{M:Model}{v:V}{Q:Unit->kt->Prop}(I:be X xz σ H s)(hN:X.N.Nodup)(hi:X.N[i]?=some x)(hx:Loc X.env.scope x)(r:bv v u) (h:∀s',be X xz (σ.set i (some v)) H s'->Q () s') (hf:X.fn x=true\/X.env.scope.names.lookup x=some .local:=by first|exact .inl rfl|exact .inr rfl|assumption):wpAny M A (storeName X.env x u) Q E s:=
 qS I hN hi hx r (λ s' I' _=>h s' I') hf
theorem be.rT(I:be X xz σ H s)(ho:s'.os=s.os)(u:Un (je X.stack) ch H H' s.heap s'.heap)(bj:gE X.prog X.w H' s'.heap)(hg:AllBare s'.gens) (yz:∀b∈ch,(b∈X.ex\/X.s₀.heap.objs.size<=b)/\b≠X.env.locals/\(∀x c,X.env.cells.lookup x=some c->c≠b)/\∀p∈X.pn++xz,p.1≠b):be X xz σ H' s':=by obtain⟨h',g',d',t',o'⟩:=s';have e:o'=s.os:=ho;subst e;exact I.call (g':=g') (t':=t') (d':=d') u bj hg yz
end
abbrev XK:=jp->Option ww->Hp->Prop
abbrev St:=List (Option V)
abbrev VK:=V->Hp->Prop
abbrev TE:=St->Hp->VK->Prop
abbrev TT:=St->Hp->(Bool->Hp->Prop)->Prop
abbrev TA:=St->Hp->(List V->Hp->Prop)->Prop
structure Ends where
 nx:St->Hp->Prop
 rt:VK
 bk:St->Hp->Prop:=λ _ _=>False
 ct:St->Hp->Prop:=λ _ _=>False
abbrev TS:=Ends->St->Hp->Prop
def EP(X:Cx)(xz:List (ww×Obj))(σ:St)(Q:VK)(u:jp)(s':kt):Prop:=∃v H',be X xz σ H' s'/\bv v u/\Q v H'
def TP(X:Cx)(xz:List (ww×Obj))(σ:St)(Q:Bool->Hp->Prop)(b:Bool)(s':kt):Prop:=∃H',be X xz σ H' s'/\Q b H'
def AP(X:Cx)(xz:List (ww×Obj))(σ:St)(Q:List V->Hp->Prop)(us:List jp)(s':kt):Prop:=∃vs H',be X xz σ H' s'/\cr vs us/\Q vs H'
def SP(X:Cx)(xz:List (ww×Obj))(D:Ends)(f:Flow)(s':kt):Prop:=
 match f with
 | .next=>∃σ' H',be X xz σ' H' s'/\D.nx σ' H'
 | .brk=>∃σ' H',be X xz σ' H' s'/\D.bk σ' H'
 | .cont=>∃σ' H',be X xz σ' H' s'/\D.ct σ' H'
 | .ret u=>∃v σ' H',be X xz σ' H' s'/\bv v u/\D.rt v H'
def PE(X:Cx)(e:Expr)(t:TE):Prop:=
 ∀(xz:List (ww×Obj)) (s:kt) (σ:St) (H:Hp) (Q:VK),be X xz σ H s->t σ H Q->wpAny (model X.prog X.w) X.A (eval e X.env) (EP X xz σ Q) X.xe s
def PT(X:Cx)(e:Expr)(t:TT):Prop:=
 ∀(xz:List (ww×Obj)) (s:kt) (σ:St) (H:Hp) (Q:Bool->Hp->Prop),be X xz σ H s->t σ H Q->wpAny (model X.prog X.w) X.A (isTrue e X.env (eval e X.env)) (TP X xz σ Q) X.xe s
def PW(X:Cx)(e:Expr)(t:TT):Prop:=
 ∀(whole:Sem jp) (xz:List (ww×Obj)) (s:kt) (σ:St) (H:Hp) (Q:Bool->Hp->Prop),be X xz σ H s->t σ H Q->wpAny (model X.prog X.w) X.A (isTrue e X.env whole) (TP X xz σ Q) X.xe s
theorem PW.pt{X:Cx}{t:TT}(h:PW X e t):PT X e t:=h _
def PA(X:Cx)(es:List Expr)(t:TA):Prop:=
 ∀(pos:Pos) (xz:List (ww×Obj)) (s:kt) (σ:St) (H:Hp) (Q:List V->Hp->Prop),be X xz σ H s->t σ H Q->wpAny (model X.prog X.w) X.A (spliced (backTo pos (starEach es X.env))) (AP X xz σ Q) X.xe s
def PS(X:Cx)(st:Stmt)(t:TS):Prop:=
 ∀(xz:List (ww×Obj)) (s:kt) (σ:St) (H:Hp) (D:Ends),be X xz σ H s->t D σ H->wpAny (model X.prog X.w) X.A (exec st X.env) (SP X xz D) X.xe s
def rZ(X:Cx)(st:List Stmt)(t:TS):Prop:=
 ∀(xz:List (ww×Obj)) (s:kt) (σ:St) (H:Hp) (D:Ends),be X xz σ H s->t D σ H->wpAny (model X.prog X.w) X.A (execs st X.env) (SP X xz D) X.xe s
theorem cm{t:Sem α}{Q Q':α->kt->Prop}{M:Model}(h:wpAny M A t Q E s)(hQ:∀a s,Q a s->Q' a s):wpAny M A t Q' E s:=K9 h hQ λ _ _ x=>x
section
variable {X:Cx}
def RQ(i:Nat):TE:=λ σ H Q=>∃v,σ[i]?=some (some v)/\Q v H
def tC(v:V):TE:=λ _ H Q=>Q v H
theorem ER(hN:X.N[i]?=some x)(hv:U5 X.env.scope x)(hd:(x==("__debug__":Str))=false:=by decide)(hcd:(x==("__classdict__":Str))=false:=by decide):PE X (.Name x pos) (RQ i):=by
 intro xz s σ H Q I h;obtain⟨v,e,h⟩:=h;obtain⟨m,hn,hl⟩:=I.loc;obtain⟨u,r,l⟩:=hl i x v hN e hv;have fin:EP X xz σ Q u s:=⟨v,H,I,r,h⟩;rcases l with⟨hk,hm⟩|⟨hk,c,hc,MM⟩
 ·exact wpAny_Name (wpAny_loadName_local I.ok.kind hk hn hm fin) hd
 ·rcases hk with hk|hk
  ·exact wpAny_Name (wpAny_loadName_cell I.ok.kind hk hc MM fin) hd
  ·exact wpAny_Name (wpAny_loadName_free I.ok.kind hk hc MM fin hcd) hd
theorem ll{i j pos:_}:PE X (.Constant (.int i) j pos) (tC (.int i)):=λ _ _ _ H _ I h=>wpAny_Constant_int ⟨.int i,H,I.tok _,⟨_,rfl⟩,h⟩
theorem My{b j pos:_}:PE X (.Constant (.bool b) j pos) (tC (.bl b)):=λ _ _ _ H _ I h=>Constant_bool ⟨.bl b,H,I,rfl,h⟩
theorem O5{j pos:_}:PE X (.Constant .none j pos) (tC .bu):=λ _ _ _ H _ I h=>Constant_none ⟨.bu,H,I,rfl,h⟩
theorem oG{x j pos:_}:PE X (.Constant (.str x) j pos) (tC (.str x)):=λ _ _ _ H _ I h=>Calls.Constant_str ⟨.str x,H,I.tok _,⟨_,rfl⟩,h⟩
def Gl(X:Cx)(x:Str):Prop:=X.env.kindOf x=some .globalImplicit
theorem fQ{σ:St}{H:Hp}(I:be X xz σ H s)(hg:Gl X x)(hm:X.mg x=some u)(h:Q u s) (hd:(x==("__debug__":Str))=false:=by decide):wpAny (model X.prog X.w) X.A (eval (.Name x pos) X.env) Q E s:=
 Calls.Name_function_global I.ok.kind hg (Calls.loadGlobal_global (by rw[I.ok.glob];exact I.mod.glob.keeps I.bk) hm h) hd
theorem iD{σ:St}{H:Hp}(I:be X xz σ H s)(hg:Gl X x)(hm:X.mg x=none)(hv:bootBuiltins x=some u)(h:Q u s) (hn:x≠"__name__":=by decide) (hd:(x==("__debug__":Str))=false:=by decide):wpAny (model X.prog X.w) X.A (eval (.Name x pos) X.env) Q E s:=by obtain⟨mb,h1,h2⟩:=I.mod.blt;exact Calls.Name_function_global I.ok.kind hg (Calls.loadGlobal_builtin (by rw[I.ok.glob];exact I.mod.glob.keeps I.bk) hm (by rw[I.ok.blt];exact h1.keeps I.bk) ((h2 x hn).trans hv) h) hd
theorem JZ{v:V}(hg:Gl X x)(hm:X.mg x=some u)(r:bv v u)(hd:(x==("__debug__":Str))=false:=by decide):PE X (.Name x pos) (tC v):=
 λ _ _ _ H _ I h=>fQ I hg hm ⟨v,H,I,r,h⟩ hd
theorem zK{v:V}(hg:Gl X x)(hm:X.mg x=none)(hv:bootBuiltins x=some u)(r:bv v u)(hn:x≠"__name__":=by decide)(hd:(x==("__debug__":Str))=false:=by decide):PE X (.Name x pos) (tC v):=
 λ _ _ _ H _ I h=>iD I hg hm hv ⟨v,H,I,r,h⟩ hn hd
variable {a b:Expr}{ta tb:TE}
def tB(t:TE):TT:=λ σ H Q=>t σ H λ x H1=>∃c,x=.bl c/\Q c H1
theorem lg{t:TE}(h:PE X e t)(he:∀whole,isTrue e X.env whole=(do let v <- whole;standAt e.pos;holding [v] (truthy v)):=by intro _;rfl):PT X e (tB t):=by intro xz s σ H Q I hw;refine isTrue_plain (cm (h xz s σ H _ I hw) λ v s1 ⟨x,H1,I1,r1,q1⟩=>?_) (he _);obtain⟨d,rfl,q⟩:=q1;cases r1;exact y4 ⟨H1,I1,q⟩
variable {tA Vo:TT}
def WR(t u:TT):TT:=λ σ H Q=>t σ H λ c H1=>if c=true then u σ H1 Q else Q false H1
def tOr(t u:TT):TT:=λ σ H Q=>t σ H λ c H1=>if c=true then Q true H1 else u σ H1 Q
def WL(t:TT):TT:=λ σ H Q=>t σ H λ c H1=>Q (!c) H1
theorem zE(ha:PT X a tA):PW X (.BoolOp .And [a] pos) tA:=by
 intro wh xz s σ H Q I h;refine isTrue_and (cm (ha xz s σ H Q I h) λ c s1 e=>?_);cases c with
 |true=>exact isTrue_and_nil e
 |false=>exact e
theorem OW(ha:PT X a tA):PW X (.BoolOp .Or [a] pos) tA:=by
 intro wh xz s σ H Q I h;refine isTrue_or (cm (ha xz s σ H Q I h) λ c s1 e=>?_);cases c with
 |false=>exact isTrue_or_nil e
 |true=>exact e
theorem xV(ha:PT X a tA)(hb:PW X (.BoolOp .And (b::rest) pos) Vo):PW X (.BoolOp .And (a::b::rest) pos) (WR tA Vo):=by
 intro wh xz s σ H Q I h;refine isTrue_and (cm (ha xz s σ H _ I h) λ c s1 ⟨H1,I1,q1⟩=>?_);cases c with
 |true=>exact hb wh xz s1 σ H1 Q I1 q1
 |false=>exact⟨H1,I1,q1⟩
theorem SU(ha:PT X a tA)(hb:PW X (.BoolOp .Or (b::rest) pos) Vo):PW X (.BoolOp .Or (a::b::rest) pos) (tOr tA Vo):=by
 intro wh xz s σ H Q I h;refine isTrue_or (cm (ha xz s σ H _ I h) λ c s1 ⟨H1,I1,q1⟩=>?_);cases c with
 |true=>exact⟨H1,I1,q1⟩
 |false=>exact hb wh xz s1 σ H1 Q I1 q1
theorem Ez(ha:PT X a tA):PT X (.UnaryOp .Not a pos) (WL tA):=by intro xz s σ H Q I h;exact isTrue_not (ha xz s σ H (λ c H1=>Q (!c) H1) I h)
def RZ(ta tb:TE):TE:=λ σ H Q=>ta σ H λ x H1=>∃c,x=.bl c/\if c=true then tb σ H1 Q else Q (.bl false) H1
def WK(ta tb:TE):TE:=λ σ H Q=>ta σ H λ x H1=>∃c,x=.bl c/\if c=true then Q (.bl true) H1 else tb σ H1 Q
theorem O4{op:_}{t:TE}(h:PE X a t):PE X (.BoolOp op [a] pos) t:=λ xz s σ H Q I hw=>BoolOp_one (h xz s σ H Q I hw)
theorem O7(ha:PE X a ta)(hb:PE X (.BoolOp .And (b::rest) pos) tb):PE X (.BoolOp .And (a::b::rest) pos) (RZ ta tb):=by
 intro xz s σ H Q I h;refine BoolOp_and (cm (ha xz s σ H _ I h) λ v s1 ⟨x,H1,I1,r1,q1⟩=>?_);obtain⟨c,rfl,q1⟩:=q1;cases r1;refine y4 ?_;cases c with
 |true=>exact hb xz s1 σ H1 Q I1 q1
 |false=>exact⟨.bl false,H1,I1,rfl,q1⟩
theorem S0(ha:PE X a ta)(hb:PE X (.BoolOp .Or (b::rest) pos) tb):PE X (.BoolOp .Or (a::b::rest) pos) (WK ta tb):=by
 intro xz s σ H Q I h;refine BoolOp_or (cm (ha xz s σ H _ I h) λ v s1 ⟨x,H1,I1,r1,q1⟩=>?_);obtain⟨c,rfl,q1⟩:=q1;cases r1;refine y4 ?_;cases c with
 |false=>exact hb xz s1 σ H1 Q I1 q1
 |true=>exact⟨.bl true,H1,I1,rfl,q1⟩
def tIf(t:TT)(ta tb:TE):TE:=λ σ H Q=>t σ H λ c H1=>if c=true then ta σ H1 Q else tb σ H1 Q
theorem EU{c:Expr}(hc:PT X c tA)(ha:PE X a ta)(hb:PE X b tb):PE X (.IfExp c a b pos) (tIf tA ta tb):=by
 intro xz s σ H Q I h;refine wpAny_IfExp (cm (hc xz s σ H _ I h) λ d s1 ⟨H1,I1,q1⟩=>?_);cases d with
 |true=>exact ha xz s1 σ H1 Q I1 q1
 |false=>exact hb xz s1 σ H1 Q I1 q1
end
def dr(K:N5)(H:Hp)(a:ww)(xs:List V):Prop:=
 Rd H a (.lst xs)\/
  ∃(o:Obj) (ay:Array jp) (n:Nat),K.lookup a=some o/\o.cls=.type "list"/\o.dict=none/\o.data=.seq ay n/\ay.size<=sizeLine/\cr xs ay.toList
def gh(K:N5)(H:Hp)(a:ww)(xs:List V):Prop:=
 Rd H a (.tup xs)\/
  ∃(o:Obj) (ay:Array jp) (n:Nat),K.lookup a=some o/\o.cls=.type "tuple"/\o.data=.seq ay n/\ay.size<=sizeLine/\cr xs ay.toList
def YV:jp->Option V
 | .none=>some .bu
 | .bool b=>some (.bl b)
 | .int i _=>some (.int i)
 | .str x _=>some (.str x)
 | .bytes b _=>some (.CU b)
 | .float b _=>some (.Qx b)
 | .ref a=>some (.ref a)
 | .type n=>some (.ty n)
 |_=>none
theorem bv.abs{x:V}(r:bv x u):YV u=some x:=by
 cases x with
 |bu=>cases r;rfl
 |bl _=>cases r;rfl
 |int _=>obtain⟨t,rfl⟩:=r;rfl
 |str _=>obtain⟨t,rfl⟩:=r;rfl
 |CU _=>obtain⟨t,rfl⟩:=r;rfl
 |Qx _=>obtain⟨t,rfl⟩:=r;rfl
 |ref _=>cases r;rfl
 |ty _=>cases r;rfl
theorem bv.inj{x y:V}(r:bv x u)(q:bv y u):x=y:=B7 (r.abs.symm.trans q.abs)
theorem cr.inj:∀{xs ys:List V} {us:List jp},cr xs us->cr ys us->xs=ys
 |_,_,_,.nil,.nil=>rfl
 |_,_,_,.cons r t,.cons r' t'=>by rw[r.inj r',cr.inj t t']
section
variable {X:Cx}{σ:St}{H:Hp}{xs ys:List V}
theorem dr.of(h:H a=some (.lst xs)):dr K H a xs:=.inl (.inl h)
theorem gh.of(h:H a=some (.tup xs)):gh K H a xs:=.inl (.inl h)
theorem be.list(I:be X xz σ H s)(h:dr X.K H a xs):∃ay:List jp,cr xs ay/\PlainL s.heap a ay.toArray/\xs.length<=sizeLine:=by
 rcases h with h|⟨o,ay,n,hk,hc,hd,hs,hz,r⟩
 ·obtain⟨z,ay,n,r,e⟩:=h.ok I.bj;exact⟨ay,r,⟨_,n,e,rfl,rfl,rfl⟩,z⟩
 ·refine⟨ay.toList,r,⟨o,n,I.hV a o hk,hc,hd,by simpa using hs⟩,?_⟩;have e:=r.length;simp only[n6]at e;omega
theorem be.tuple(I:be X xz σ H s)(h:gh X.K H a xs):∃ay:List jp,cr xs ay/\IsTup s.heap a ay.toArray/\xs.length<=sizeLine:=by
 rcases h with h|⟨o,ay,n,hk,hc,hs,hz,r⟩
 ·obtain⟨z,ay,r,p⟩:=h.ok I.bj;exact⟨ay,r,p,z⟩
 ·refine⟨ay.toList,r,⟨o,I.hV a o hk,hc,n,by simpa using hs⟩,?_⟩;have e:=r.length;simp only[n6]at e;omega
theorem be.vF(I:be X xz σ H s)(h:dr X.K H a xs)(h':dr X.K H a ys):xs=ys:=by
 obtain⟨ay,r,⟨o,n,e,_,_,d⟩,_⟩:=I.list h;obtain⟨its',r',⟨o',n',e',_,_,d'⟩,_⟩:=I.list h';rw[e]at e';cases e';rw[d]at d';injection d' with d1 _
 have:ay=its':=by simpa using L8 Array.toList d1
 subst this;exact r.inj r'
theorem be.qQ(I:be X xz σ H s)(h:gh X.K H a xs)(h':gh X.K H a ys):xs=ys:=by
 obtain⟨ay,r,⟨o,e,_,n,d⟩,_⟩:=I.tuple h;obtain⟨its',r',⟨o',e',_,n',d'⟩,_⟩:=I.tuple h';rw[e]at e';cases e';rw[d]at d';injection d' with d1 _
 have:ay=its':=by simpa using L8 Array.toList d1
 subst this;exact r.inj r'
end
abbrev Cx.h_ (X:Cx)(E:jp->kt->Prop):Cx:={X with xe:=E}
abbrev Cx.zP (X:Cx):Cx:=X.h_ λ _ _=>False
theorem Cx.Ok.h_{X:Cx}(ok:X.Ok)(E:jp->kt->Prop):(X.h_ E).Ok:=
 ⟨ok.mod,ok.kind,ok.glob,ok.blt,ok.above,ok.inj,ok.has,ok.Rx,ok.hd,ok.frames,ok.R3,ok.YB,ok.bs,ok.CV,ok.yf,ok.GP,ok.ke,ok.Ls⟩
theorem Cx.Ok.eZ{X:Cx}(ok:(X.h_ E).Ok):X.Ok:=
 ⟨ok.mod,ok.kind,ok.glob,ok.blt,ok.above,ok.inj,ok.has,ok.Rx,ok.hd,ok.frames,ok.R3,ok.YB,ok.bs,ok.CV,ok.yf,ok.GP,ok.ke,ok.Ls⟩
section
variable {X:Cx}{σ:St}{H:Hp}
theorem be.h_(I:be X xz σ H s)(E:jp->kt->Prop):be (X.h_ E) xz σ H s:=⟨I.ok.h_ E,I.os,I.bare,I.base,I.loc,I.cell,I.free,I.fv,I.pin,I.bj,I.len⟩
theorem be.eZ(I:be (X.h_ E) xz σ H s):be X xz σ H s:=⟨I.ok.eZ,I.os,I.bare,I.base,I.loc,I.cell,I.free,I.fv,I.pin,I.bj,I.len⟩
theorem SP.eZ{D:Ends}{f:Flow}(h:SP (X.h_ E) xz D f s'):SP X xz D f s':=by
 cases f with
 |next=>obtain⟨σ',H',I,q⟩:=h;exact⟨σ',H',I.eZ,q⟩
 |brk=>obtain⟨σ',H',I,q⟩:=h;exact⟨σ',H',I.eZ,q⟩
 |cont=>obtain⟨σ',H',I,q⟩:=h;exact⟨σ',H',I.eZ,q⟩
 |ret u=>obtain⟨v,σ',H',I,r,q⟩:=h;exact⟨v,σ',H',I.eZ,r,q⟩
theorem PE.zP{t:TE}(h:PE X.zP e t):PE X e t:=λ xz s σ H Q I hw=>
 K9 (h xz s σ H Q (I.h_ _) hw) (λ _ _ ⟨v,H',I',r,q⟩=>⟨v,H',I'.eZ,r,q⟩) λ _ _ z=>False.elim z
theorem PT.zP{t:TT}(h:PT X.zP e t):PT X e t:=λ xz s σ H Q I hw=>
 K9 (h xz s σ H Q (I.h_ _) hw) (λ _ _ ⟨H',I',q⟩=>⟨H',I'.eZ,q⟩) λ _ _ z=>False.elim z
theorem rZ.zP{st:List Stmt}{t:TS}(h:rZ X.zP st t):rZ X st t:=λ xz s σ H D I hw=>
 K9 (h xz s σ H D (I.h_ _) hw) (λ _ _ q=>q.eZ) λ _ _ z=>False.elim z
end
section
variable {X:Cx}{rest:List Stmt}{t u:TS}{te:TE}
def RV:TS:=λ D σ H=>D.nx σ H
def WD(t u:TS):TS:=λ D σ H=>t {D with nx:=u D} σ H
theorem jW:rZ X [] RV:=λ _ _ σ H _ I h=>C9 ⟨σ,H,I,h⟩
theorem dz(h1:PS X st t)(h2:rZ X rest u):rZ X (st::rest) (WD t u):=by
 intro xz s σ H D I h;refine wpAny_execs_cons (cm (h1 xz s σ H {D with nx:=u D} I h) λ f s1 q=>?_);cases f with
 |next=>obtain⟨σ',H',I',q⟩:=q;exact h2 xz s1 σ' H' D I' q
 |ret v=>exact q
 |brk=>exact q
 |cont=>exact q
theorem eR(h1:PS X st t):rZ X [st] t:=by
 intro xz s σ H D I h;refine wpAny_execs_cons (cm (h1 xz s σ H D I h) λ f s1 q=>?_);cases f with
 |next=>exact C9 q
 |ret v=>exact q
 |brk=>exact q
 |cont=>exact q
theorem be.quiet{σ:St}{H:Hp}(I:be X xz σ H s):interactive X.env=false:=by simp[interactive,I.ok.kind]
def RX(te:TE):TS:=λ D σ H=>te σ H λ _ H1=>D.nx σ H1
theorem mW(he:PE X e te)(hs:swapsWith e none pos.line X.env=pure false:=by rfl):PS X (.Expr e pos) (RX te):=by intro xz s σ H D I h;exact wpAny_Expr_any (cm (he xz s σ H _ I h) λ v s1 ⟨x,H1,I1,r1,q1⟩=>⟨σ,H1,I1,q1⟩) I.quiet hs
def WH(te:TE):TS:=λ D σ H=>te σ H D.rt
theorem OX(he:PE X e te):PS X (.Return (some e) pos) (WH te):=by intro xz s σ H D I h;exact wpAny_Return_some (cm (he xz s σ H _ I h) λ v s1 ⟨x,H1,I1,r1,q1⟩=>⟨x,σ,H1,I1,r1,q1⟩)
def WN(c:TT)(t u:TS):TS:=λ D σ H=>c σ H λ b H1=>if b=true then t D σ H1 else u D σ H1
theorem vh{c:Expr}{a b:List Stmt}{tc:TT}(hc:PT X c tc)(ha:rZ X a t)(hb:rZ X b u):PS X (.If c a b pos) (WN tc t u):=by
 intro xz s σ H D I h;refine wpAny_If (cm (hc xz s σ H _ I h) λ d s1 ⟨H1,I1,q1⟩=>?_);cases d with
 |true=>exact ha xz s1 σ H1 D I1 q1
 |false=>exact hb xz s1 σ H1 D I1 q1
end
abbrev TG:=V->St->Hp->(St->Hp->Prop)->Prop
abbrev AK:=List V->St->Hp->(St->Hp->Prop)->Prop
def PG(X:Cx)(target:Expr)(t:TG):Prop:=
 ∀(xz:List (ww×Obj)) (s:kt) (σ:St) (H:Hp) (v:V) (u:jp) (Q:St->Hp->Prop),be X xz σ H s->bv v u->t v σ H Q->
  wpAny (model X.prog X.w) X.A (assign target X.env u) (λ _ s'=>∃σ' H',be X xz σ' H' s'/\Q σ' H') X.xe s
def Q_(X:Cx)(ts:List Expr)(t:AK):Prop:=
 ∀(xz:List (ww×Obj)) (s:kt) (σ:St) (H:Hp) (vs:List V) (us:List jp) (Q:St->Hp->Prop),be X xz σ H s->cr vs us->t vs σ H Q->
  wpAny (model X.prog X.w) X.A (assignInOrder ((assignEach ts X.env).map (·.2)) us) (λ _ s'=>∃σ' H',be X xz σ' H' s'/\Q σ' H') X.xe s
abbrev wW:=V->V->V->Hp->(Hp->Prop)->Prop
def qD(X:Cx)(t:wW):Prop:=
 ∀(xz:List (ww×Obj)) (s:kt) (σ:St) (H:Hp) (o i v:V) (ov iv u:jp) (Q:Hp->Prop),be X xz σ H s->bv o ov->bv i iv->bv v u->t o i v H Q->
  wpAny (model X.prog X.w) X.A (setItem ov iv u) (λ _ s'=>∃H',be X xz σ H' s'/\Q H') X.xe s
abbrev Wg:=V->V->Hp->VK->Prop
def Z4(X:Cx)(op:Operator)(t:Wg):Prop:=
 ∀(xz:List (ww×Obj)) (s:kt) (σ:St) (H:Hp) (x y:V) (v u:jp) (Q:VK),be X xz σ H s->bv x v->bv y u->t x y H Q->
  wpAny (model X.prog X.w) X.A (inplaceOp op v u) (EP X xz σ Q) X.xe s
section
variable {X:Cx}
def fu(i:Nat):TG:=λ v σ H Q=>Q (σ.set i (some v)) H
theorem aY(hN:X.N.Nodup)(hi:X.N[i]?=some x)(hx:Loc X.env.scope x)(hf:X.fn x=true\/X.env.scope.names.lookup x=some .local:=by first|exact .inl rfl|exact .inr rfl|assumption):PG X (.Name x pos) (fu i):=by intro xz s σ H v u Q I r h;exact wpAny_assign_Name (jL I hN hi hx r (λ s' I'=>⟨_,H,I',h⟩) hf)
def Ci:AK:=λ vs σ H Q=>vs=[]/\Q σ H
def kb(t:TG)(u:AK):AK:=λ vs σ H Q=>∃v r,vs=v::r/\t v σ H λ σ' H'=>u r σ' H' Q
theorem gQ:Q_ X [] Ci:=by intro xz s σ H vs us Q I r h;obtain⟨e,h⟩:=h;subst e;cases r;exact assignInOrder_nil ⟨σ,H,I,h⟩
theorem cg{t:TG}{u:AK}(h1:PG X e t)(h2:Q_ X es u) (hs:(assignEach (e::es) X.env).map (·.2)=assign e X.env::(assignEach es X.env).map (·.2):=by rfl):Q_ X (e::es) (kb t u):=by
 intro xz s σ H vs us Q I r h;obtain⟨v,vr,e1,h⟩:=h;subst e1;cases r with
 |cons r rr=>rw[hs];refine assignInOrder_cons (cm (h1 xz s σ H _ _ _ I r h) λ _ s1 ⟨σ1,H1,I1,q1⟩=>?_);exact h2 xz s1 σ1 H1 _ _ Q I1 rr q1
def GH(K:N5)(n:Nat)(t:AK):TG:=λ v σ H Q=>∃a xs,v=.ref a/\gh K H a xs/\xs.length=n/\t xs σ H Q
theorem jr{t:AK}(hc:X.calm=true)(h:Q_ X es t) (hn:(assignEach es X.env).length=n:=by rfl) (hst:(assignEach es X.env).findIdx? (·.1)=none:=by rfl):PG X (.Tuple es k pos) (GH X.K n t):=by intro xz s σ H v u Q I r hw;obtain⟨a,xs,e1,hq,hl,hw⟩:=hw;subst e1;cases r;obtain⟨ay,rv,ht,hz⟩:=I.tuple hq;refine assign_Tuple_tuple (I.ok.hd hc) ht (by simp[hn,<- hl,rv.length]) hst λ h' hx=>?_;have I1:be X xz σ H {s with heap:=h'}:=I.kept (t':=s.toks) λ b o e=>hx b o (G6 (G7 e)) e;exact h xz _ σ H xs _ Q I1 (by simpa using rv) hw
def Yx(to ti:TE)(t:wW):TG:=λ v σ H Q=>to σ H λ o H1=>ti σ H1 λ i H2=>t o i v H2 λ H3=>Q σ H3
theorem O3{o i:Expr}{to ti:TE}{t:wW}(ho:PE X o to)(hi:PE X i ti)(hs:qD X t) (ha:∀v,assign (.Subscript o i pos) X.env v=(do
   let ov <- holding [v] (eval o X.env)
   let iv <- holding [v,ov] (eval i X.env)
   standAt pos
   holding [v,ov,iv] (setItem ov iv v)
   release [v,ov,iv] []):=by intro _;rfl):PG X (.Subscript o i pos) (Yx to ti t):=by
 intro xz s σ H v u Q I r h;rw[ha];refine K5 (D6 (cm (ho xz s σ H _ I h) λ ov s1 ⟨x,H1,I1,r1,q1⟩=>?_));refine K5 (D6 (cm (hi xz s1 σ H1 _ I1 q1) λ iv s2 ⟨y,H2,I2,r2,q2⟩=>?_));refine K5 (G4 (K5 (D6 (cm (hs xz s2 σ H2 x y v ov iv u _ I2 r1 r2 r q2) λ _ s3 ⟨H3,I3,q3⟩=>?_))));exact wpAny_release ⟨σ,H3,I3,q3⟩
def IC(te:TE)(g:TG):TS:=λ D σ H=>te σ H λ x H1=>g x σ H1 D.nx
theorem OZ{te:TE}{g:TG}(he:PE X e te)(hg:PG X tg g)(hs:swapsWithSole [tg] e pos.line X.env=pure false:=by rfl)(hw:swappedStores [tg] e X.env=pure none:=by rfl) (h1:(assignEach [tg] X.env).map (·.2)=[assign tg X.env]:=by rfl):PS X (.Assign [tg] e pos) (IC te g):=by intro xz s σ H D I h;refine wpAny_Assign_stores (cm (he xz s σ H _ I h) λ v s1 ⟨x,H1,I1,r1,q1⟩=>?_) hs hw;rw[h1];exact cm (hg xz s1 σ H1 x v _ I1 r1 q1) λ _ s2 q=>q
theorem jq{te:TE}(hN:X.N.Nodup)(hi:X.N[i]?=some x)(hx:Loc X.env.scope x)(he:PE X e te)(hs:swapsWith e (some (.Name x pos')) pos.line X.env=pure false:=by rfl)(hf:X.fn x=true\/X.env.scope.names.lookup x=some .local:=by first|exact .inl rfl|exact .inr rfl|assumption):PS X (.Assign [.Name x pos'] e pos) (IC te (fu i)):=by intro xz s σ H D I h;refine wpAny_Assign_Name (cm (he xz s σ H _ I h) λ v s1 ⟨y,H1,I1,r1,q1⟩=>?_) hs;exact jL I1 hN hi hx r1 (λ s2 I2=>⟨_,H1,I2,q1⟩) hf
def RY(to ti te:TE)(Iu:V->V->Hp->VK->Prop)(Vm:Wg)(Io:wW):TS:=λ D σ H=>to σ H λ o H1=>ti σ H1 λ i H2=>Iu o i H2 λ x H3=>te σ H3 λ y H4=>Vm x y H4 λ z H5=>Io o i z H5 λ H6=>D.nx σ H6
def U'(X:Cx)(t:V->V->Hp->VK->Prop):Prop:=
 ∀(xz:List (ww×Obj)) (s:kt) (σ:St) (H:Hp) (o i:V) (ov iv:jp) (Q:VK),be X xz σ H s->bv o ov->bv i iv->t o i H Q->
  wpAny (model X.prog X.w) X.A (getItem ov iv) (EP X xz σ Q) X.xe s
theorem JT{o i:Expr}{to ti te:TE}{Iu:V->V->Hp->VK->Prop}{Vm:Wg}{Io:wW}{op:Operator}(ho:PE X o to)(hi:PE X i ti)(hg:U' X Iu)(he:PE X e te)(hp:Z4 X op Vm)(hs:qD X Io) (ha:∀ov iv new,augStore i ov iv new=(do holding [new,ov,iv] (setItem ov iv new);release [new,ov,iv] [];pure .next):=by intros;rfl):PS X (.AugAssign (.Subscript o i e_) op e pos) (RY to ti te Iu Vm Io):=by intro xz s σ H D I h;refine wpAny_AugAssign_SubscriptAny (cm (ho xz s σ H _ I h) λ ov s1 ⟨x1,H1,I1,r1,q1⟩=>?_) ha;refine cm (hi xz s1 σ H1 _ I1 q1) λ iv s2 ⟨x2,H2,I2,r2,q2⟩=>?_;refine cm (hg xz s2 σ H2 x1 x2 ov iv _ I2 r1 r2 q2) λ old s3 ⟨x3,H3,I3,r3,q3⟩=>?_;refine cm (he xz s3 σ H3 _ I3 q3) λ v s4 ⟨x4,H4,I4,r4,q4⟩=>?_;refine cm (hp xz s4 σ H4 x3 x4 old v _ I4 r3 r4 q4) λ new s5 ⟨x5,H5,I5,r5,q5⟩=>?_;exact cm (hs xz s5 σ H5 x1 x2 x5 ov iv new _ I5 r1 r2 r5 q5) λ _ s6 ⟨H6,I6,q6⟩=>⟨σ,H6,I6,q6⟩
def ipI(f:Int->Int->Int):Wg:=λ x y H Q=>∃i j,x=.int i/\y=.int j/\Q (.int (f i j)) H
theorem Qb:Z4 X .Add (ipI λ i j=>i+j):=by intro xz s σ H x y v u Q I r1 r2 h;obtain⟨i,j,e1,e2,q⟩:=h;subst e1;subst e2;obtain⟨t,rfl⟩:=r1;obtain⟨t',rfl⟩:=r2;exact iadd_int ⟨.int _,H,I.tok _,⟨_,rfl⟩,q⟩
end
section
variable {X:Cx}
def Ny(c:TT)(tb:TS):TS:=λ D σ H=>∃W:Nat->St->Hp->Prop,(∃m,W m σ H)/\∀m σ H,W m σ H->
 c σ H λ b H1=>if b=true then ∃N:St->Hp->Prop,(∀σ' H',N σ' H'->∃m',m' < m/\W m' σ' H')/\tb {D with nx:=N,ct:=N,bk:=D.nx} σ H1 else D.nx σ H1
theorem ED{c:Expr}{tc:TT}{tb:TS}(hp:PassesOwn (model X.prog X.w) X.A X.env X.xe)(hc:PT X c tc)(hb:rZ X body tb):PS X (.While c body [] pos) (Ny tc tb):=by
 intro xz s σ H D I h;obtain⟨W,⟨m0,w0⟩,turn⟩:=h;refine wpAny_While (codeAny_whileLoop (λ n s'=>∃σ' H',be X xz σ' H' s'/\W n σ' H') ?_ m0 ⟨σ,H,I,w0⟩);rintro n s1 ⟨σ1,H1,I1,w1⟩;refine B9 hp (cm (hc xz s1 σ1 H1 _ I1 (turn n σ1 H1 w1)) λ b s2 ⟨H2,I2,q2⟩=>?_);cases b with
 |true=>
  obtain⟨N,hN,q2⟩:=q2;rw[N3 rfl];refine B9 hp (cm (hb xz s2 σ1 H2 _ I2 q2) λ f s3 q3=>?_);cases f with
  |next=>obtain⟨σ3,H3,I3,n3⟩:=q3;obtain⟨m',hm,w3⟩:=hN σ3 H3 n3;exact⟨m',hm,σ3,H3,I3,w3⟩
  |cont=>obtain⟨σ3,H3,I3,n3⟩:=q3;obtain⟨m',hm,w3⟩:=hN σ3 H3 n3;exact⟨m',hm,σ3,H3,I3,w3⟩
  |brk=>exact q3
  |ret v=>exact q3
 |false=>rw[N4 p9];exact C9 ⟨σ1,H2,I2,q2⟩
end
structure It where
 go:Nat->Hp->Prop
 Ic:Nat->Hp->V->Hp->Prop
 stop:Nat->Hp->Prop
def ic(X:Cx)(xz:List (ww×Obj))(H:Hp)(b:ww):Prop:=
 H b=none/\b≠X.env.locals/\b∉X.fs/\(b∈X.ex\/X.s₀.heap.objs.size<=b)/\(∀x c,X.env.cells.lookup x=some c->c≠b)/\∀p∈X.pn++xz,p.1≠b
theorem be.lB{X:Cx}{σ:St}{H H':Hp}{b:ww}(I:be X xz σ H s)(hb:s.heap.objs.size<=b)(hn:H' b=none):ic X xz H' b:=by
 refine⟨hn,J9 (u3 I.lt hb),I.Xr hb,.inr (H9 I.sz hb),λ x c e z=>?_,λ p hp z=>?_⟩
 ·obtain⟨v,q⟩:=I.cell x c e;exact absurd (u3 q.lt (by rw[z];exact hb)) (D9 _)
 ·exact absurd (u3 (G7 (I.pin p hp).1) (by rw[z];exact hb)) (D9 _)
structure Turn(P:Program)(w:World)(K:N5)(tg:Expr)(J:It)(fp:List ww)(it:ww)(tn:Nat->Heap->Prop):Prop where
 mem:it∈fp
 obj:∀i h,tn i h->∀b∈fp,∃o,h.get? b=some o/\∀v,o.data≠.cell v
 keep:∀i h h',tn i h->(∀b∈fp,∀o,h.get? b=some o->h'.get? b=some o)->tn i h'
 item:∀(X:Cx),X.prog=P->X.w=w->X.K=K->X.calm=true->∀(i:Nat) (xz:List (ww×Obj)) (s:kt) (σ:St) (H:Hp) (E:jp->kt->Prop),be X xz σ H s->(∀b∈fp,ic X xz H b)->tn i s.heap->J.go i H->
  wpAny (model P w) X.A (pyNext (.ref it)) (λ r s1=>∃u,r=some u/\
   wpAny (model P w) X.A (letOwnedTupleGo tg (.ref it) u) (λ _ s2=>∃x H',be X xz σ H' s2/\bv x u/\J.Ic i H x H'/\tn (i+1) s2.heap/\∀b∈fp,H' b=none) E s1) E s
 done:∀(X:Cx),X.prog=P->X.w=w->X.K=K->X.calm=true->∀(i:Nat) (xz:List (ww×Obj)) (s:kt) (σ:St) (H:Hp) (E:jp->kt->Prop),be X xz σ H s->(∀b∈fp,ic X xz H b)->tn i s.heap->J.stop i H->
  wpAny (model P w) X.A (pyNext (.ref it)) (λ r s1=>r=none/\be X xz σ H s1) E s
 self:∀(A:Around) (i:Nat) (s:kt) (Q:jp->kt->Prop) (E:jp->kt->Prop),tn i s.heap->Q (.ref it) s->wpAny (model P w) A (pyIter (.ref it)) Q E s
abbrev TI:=St->Hp->(It->Hp->Prop)->Prop
def Z5(X:Cx)(xz:List (ww×Obj))(σ:St)(tg:Expr)(R:It->Hp->Prop)(V0:jp)(s2:kt):Prop:=
 ∃(it:ww) (fp:List ww) (tn:Nat->Heap->Prop) (J:It) (H':Hp),V0=.ref it/\be X xz σ H' s2/\Turn X.prog X.w X.K tg J fp it tn/\tn 0 s2.heap/\(∀b∈fp,ic X xz H' b)/\R J H'
def PI(X:Cx)(tg iter:Expr)(wi:TI):Prop:=
 ∀(xz:List (ww×Obj)) (s:kt) (σ:St) (H:Hp) (R:It->Hp->Prop),be X xz σ H s->wi σ H R->
  wpAny (model X.prog X.w) X.A (eval iter X.env) (λ v s1=>wpAny (model X.prog X.w) X.A (pyIter v) (Z5 X xz σ tg R) X.xe s1) X.xe s
theorem Aj{M:Model}{it:ww}{o:Obj}{n:String}{Q:Unit->kt->Prop}(ho:s.heap.get? it=some o)(hc:o.cls=.type n)(hd:o.data=.fields vs) (hn:["enumerate","zip","dict_itemiterator","dict_reverseitemiterator","odict_iterator","itertools.zip_longest","itertools.pairwise"].contains n=false) (hQ:Q () s):wpAny M A (letOwnedTupleGo tg (.ref it) u) Q E s:=by
 unfold letOwnedTupleGo;cases tg <;> first
  |exact K6 hQ
  |(cases u <;> first
    |exact K6 hQ
    |(refine K5 (wpAny_load ho ?_)
      rw[hc,hd];show wpAny M A (if(["enumerate","zip","dict_itemiterator","dict_reverseitemiterator","odict_iterator","itertools.zip_longest","itertools.pairwise"].contains n&&vs[0]?==some (rawInt _))=true then _ else _) Q E s;rw[N4 (by intro h;rw[hn,Bool.false_and]at h;cases h)];exact K6 hQ))
def Wk(K:N5)(a:ww):It:=
 ⟨λ i H=>∃xs x,dr K H a xs/\xs[i]?=some x,λ i H x H'=>H'=H/\∀xs,dr K H a xs->xs[i]?=some x,λ i H=>∃xs,dr K H a xs/\xs.length<=i⟩
def Y4(K:N5)(a:ww):It:=
 ⟨λ i H=>∃xs x,gh K H a xs/\xs[i]?=some x,λ i H x H'=>H'=H/\∀xs,gh K H a xs->xs[i]?=some x,λ i H=>∃xs,gh K H a xs/\xs.length<=i⟩
def Wj(lo:Int)(n:Nat):It:=⟨λ i _=>i < n,λ i H x H'=>H'=H/\x=.int (lo+i),λ i _=>n<=i⟩
theorem A_(a it:ww):Turn P w K tg (Wk K a) [it] it (λ i h=>h.IsListIter it a i) where
 mem:=by simp
 obj:=λ i h st b hb=>by
  have e:b=it:=by simpa using hb
  subst e;obtain⟨o,e,c,d⟩:=st;exact⟨o,e,λ v z=>by rw[d]at z;cases z⟩
 keep:=λ i h h' st k=>st.at λ o e=>k it (by simp) o e
 item:=by intro X hP hw hK hc i xz s σ H E I hf st hg;subst hP hw hK;obtain⟨xs,x,hq,hx⟩:=hg;obtain⟨ay,rv,p,hz⟩:=I.list hq;obtain⟨u,hu,ru⟩:=rv.get hx;obtain⟨f0,f1,f2,f3,f4,f5⟩:=hf it (by simp);refine wpAny_pyNext_list_item st p.isList (x:=u) (by simpa using hu) λ h' xa sb=>?_;have I1:be X xz σ H {s with heap:=h'}:=I.turned (t':=s.toks) (λ b o hb e=>(sb.2 b hb).trans e) f0 f1 f3 f4 f5;obtain⟨o,e,c,d⟩:=id xa;exact⟨u,rfl,Aj (s:={s with heap:=h'}) e c d (by decide) ⟨x,H,I1,ru,⟨rfl,λ ys hy=>by rw[I.vF hy hq];exact hx⟩,xa,λ b hb=>(hf b hb).1⟩⟩
 done:=by intro X hP hw hK hc i xz s σ H E I hf st hg;subst hP hw hK;obtain⟨xs,hq,hx⟩:=hg;obtain⟨ay,rv,p,hz⟩:=I.list hq;obtain⟨f0,f1,f2,f3,f4,f5⟩:=hf it (by simp);have hl:=rv.length;exact wpAny_pyNext_list_end (I.ok.hd hc) st p.isList (by simp;omega) λ h' eb=>⟨rfl,I.turned (t':=s.toks) (λ b o hb e=>eb b o hb e) f0 f1 f3 f4 f5⟩
 self:=λ _ _ _ _ _ st h=>wpAny_pyIter_listiter st h
theorem xx(a it:ww):Turn P w K tg (Y4 K a) [it] it (λ i h=>h.IsTupleIter it a i) where
 mem:=by simp
 obj:=λ i h st b hb=>by
  have e:b=it:=by simpa using hb
  subst e;obtain⟨o,e,c,d⟩:=st;exact⟨o,e,λ v z=>by rw[d]at z;cases z⟩
 keep:=λ i h h' st k=>st.at λ o e=>k it (by simp) o e
 item:=by intro X hP hw hK hc i xz s σ H E I hf st hg;subst hP hw hK;obtain⟨xs,x,hq,hx⟩:=hg;obtain⟨ay,rv,p,hz⟩:=I.tuple hq;obtain⟨u,hu,ru⟩:=rv.get hx;obtain⟨f0,f1,f2,f3,f4,f5⟩:=hf it (by simp);refine wpAny_pyNext_tuple_item st (show s.heap.IsTuple a ay.toArray from p) (x:=u) (by simpa using hu) λ h' xa sb=>?_;have I1:be X xz σ H {s with heap:=h'}:=I.turned (t':=s.toks) (λ b o hb e=>(sb.2 b hb).trans e) f0 f1 f3 f4 f5;obtain⟨o,e,c,d⟩:=id xa;exact⟨u,rfl,Aj (s:={s with heap:=h'}) e c d (by decide) ⟨x,H,I1,ru,⟨rfl,λ ys hy=>by rw[I.qQ hy hq];exact hx⟩,xa,λ b hb=>(hf b hb).1⟩⟩
 done:=by intro X hP hw hK hc i xz s σ H E I hf st hg;subst hP hw hK;obtain⟨xs,hq,hx⟩:=hg;obtain⟨ay,rv,p,hz⟩:=I.tuple hq;obtain⟨f0,f1,f2,f3,f4,f5⟩:=hf it (by simp);have hl:=rv.length;exact wpAny_pyNext_tuple_end (I.ok.hd hc) st (show s.heap.IsTuple a ay.toArray from p) (by simp;omega) λ h' eb=>⟨rfl,I.turned (t':=s.toks) (λ b o hb e=>eb b o hb e) f0 f1 f3 f4 f5⟩
 self:=λ _ _ _ _ _ st h=>wpAny_pyIter_tupleiter st h
theorem xy(it:ww)(lo:Int)(n:Nat):Turn P w K tg (Wj lo n) [it] it (λ i h=>IsRangeIter h it (lo+(i:Nat)*1) ((n:Int) - (i:Nat)) 1) where
 mem:=by simp
 obj:=λ i h st b hb=>by
  have e:b=it:=by simpa using hb
  subst e;exact⟨_,st,λ v z=>by
   have z':Data.fields _=Data.cell v:=z;cases z'⟩
 keep:=λ i h h' st k=>k it (by simp) _ st
 item:=by intro X hP hw hK hc i xz s σ H E I hf st hg;subst hP hw hK;obtain⟨f0,f1,f2,f3,f4,f5⟩:=hf it (by simp);have W:=Walks.range (prog:=X.prog) (w:=X.w) (I.ok.hd hc) it lo 1 n;refine W.item i s _ _ hg st λ v h' tk hv xa kk=>?_;obtain⟨t,rfl⟩:=hv;have I1:be X xz σ H {s with heap:=h',toks:=tk}:=I.turned (λ b o hb e=>kk b o (by simpa using hb) e) f0 f1 f3 f4 f5;refine⟨_,rfl,Aj (s:={s with heap:=h',toks:=tk}) (n:="range_iterator") xa rfl rfl (by decide) ⟨.int (lo+i),H,I1,⟨t,?_⟩,⟨rfl,rfl⟩,xa,λ b hb=>(hf b hb).1⟩⟩;rw[Int.mul_one]
 done:=by intro X hP hw hK hc i xz s σ H E I hf st hg;subst hP hw hK;obtain⟨f0,f1,f2,f3,f4,f5⟩:=hf it (by simp);exact wpAny_pyNext_range_end (I.ok.hd hc) st (by have:n<=i:=hg;omega) λ h' eb=>⟨rfl,I.turned (t':=s.toks) (λ b o hb e=>eb b o hb e) f0 f1 f3 f4 f5⟩
 self:=λ _ _ _ _ _ st h=>wpAny_pyIter_rangeiter st h
section
variable {X:Cx}
theorem Em{σ:St}{H:Hp}{R:It->Hp->Prop}{lo hi:Int}{t u v:Tok}{tk:Nat}(I:be X xz σ H s)(h1: -(2^62)<=lo)(h2:lo < 2^62)(h3: -(2^62)<=hi)(h4:hi < 2^62) (q:R (Wj lo (hi - lo).toNat) H):wpAny (model X.prog X.w) X.A (pyIter (.ref s.heap.objs.size)) (Z5 X xz σ tg R) E {s with heap:=s.heap.push {cls:=.type "range",data:=.fields #[.int lo t,.int hi u,.int 1 v]},toks:=tk}:=by
 refine wpAny_pyIter_range (IsRange.new ..) (small_one h1 h2 h3 h4) ?_;have I1:be X xz σ H {s with heap:=s.heap.push {cls:=.type "range",data:=.fields #[.int lo t,.int hi u,.int 1 v]},toks:=tk}:=I.kept λ b o e=>j7 _ e;refine⟨(s.heap.push {cls:=.type "range",data:=.fields #[.int lo t,.int hi u,.int 1 v]}).objs.size,[(s.heap.push {cls:=.type "range",data:=.fields #[.int lo t,.int hi u,.int 1 v]}).objs.size],_,_,H,rfl,
  I1.kept (t':=tk) λ b o e=>j7 _ e,xy _ lo (hi - lo).toNat,?_,λ b hb=>?_,q⟩
 ·have e1:lo+((0:Nat):Int)*1=lo:=by simp
  have e2:(((hi - lo).toNat:Nat):Int) - ((0:Nat):Int)=Builtin.Range.rangeSize lo hi 1:=by rw[rangeSize_one];split <;> omega
  show IsRangeIter _ _ (lo+((0:Nat):Int)*1) ((((hi - lo).toNat:Nat):Int) - ((0:Nat):Int)) 1;rw[e1,e2];exact n9 _ rfl
 ·have e:b=(s.heap.push {cls:=.type "range",data:=.fields #[.int lo t,.int hi u,.int 1 v]}).objs.size:=by simpa using hb
  subst e;exact I1.lB (K1 _) (I1.bj.fresh (K1 _))
def Ts(ta:TA):TI:=λ σ H R=>ta σ H λ vs H1=>∃j:Int,vs=[.int j]/\-(2^62)<=j/\j < 2^62/\R (Wj 0 j.toNat) H1
theorem Bw{a:Expr}{ta:TA}{p:Pos}(hg:Gl X "range")(hm:X.mg "range"=none)(ha:PA X [a] ta)(hs:starEach [a] X.env=[(false,eval a X.env)]:=by rfl):PI X tg (.Call (.Name "range" p) [a] [] pos) (Ts ta):=by
 intro xz s σ H R I h;refine Call_ (iD I hg hm boot_range (c5 (cm (ha pos xz s σ H _ I h) λ us s1 ⟨vs,H1,I1,r1,q1⟩=>?_) hs rfl));obtain⟨j,e,q1,q2,q⟩:=q1;subst e;cases r1 with
 |cons r rr=>cases rr;obtain⟨t,rfl⟩:=r;exact call_range_1 (Em I1 (by omega) (by omega) q1 q2 (by simpa using q))
def WQ(wi:TI)(g:TG)(tb:TS):TS:=λ D σ H=>wi σ H λ J H1=>∃W:Nat->Nat->St->Hp->Prop,(∃m,W 0 m σ H1)/\∀i m σ H,W i m σ H->
 (J.stop i H/\D.nx σ H)\/(J.go i H/\∃N:St->Hp->Prop,(∀σ' H',N σ' H'->∃m',m' < m/\W (i+1) m' σ' H')/\∀x H',J.Ic i H x H'->g x σ H' λ σ2 H2=>tb {D with nx:=N,ct:=N,bk:=D.nx} σ2 H2)
def td(fp:List ww)(h:Heap):List (ww×Obj):=fp.filterMap λ b=>(h.get? b).map λ o=>(b,o)
theorem dS{h:Heap}{b:ww}{o:Obj}(hb:b∈fp)(e:h.get? b=some o):(b,o)∈td fp h:=mem_filterMap.mpr ⟨b,hb,by rw[e];rfl⟩
theorem BH{h:Heap}{p:ww×Obj}(hp:p∈td fp h):p.1∈fp/\h.get? p.1=some p.2:=by
 obtain⟨b,hb,e⟩:=mem_filterMap.mp hp;cases q:h.get? b with
 |none=>rw[q]at e;cases e
 |some o=>rw[q]at e;have e':(b,o)=p:=B7 e;subst e';exact⟨hb,q⟩
theorem be.pinned{σ:St}{H:Hp}(I:be X xz σ H s)(hf:∀b∈fp,ic X xz H b)(ho:∀b∈fp,∃o,s.heap.get? b=some o/\∀v,o.data≠.cell v):be X (xz++td fp s.heap) σ H s:=
 I.eS λ p hp=>(C3.mp hp).elim (λ z=>I.pin p (k7 _ z)) λ z=>by obtain⟨hb,e⟩:=BH z;obtain⟨f0,f1,f2,_⟩:=hf p.1 hb;obtain⟨o,e',d⟩:=ho p.1 hb;rw[e]at e';cases e';exact⟨e,f0,f1,f2,d⟩
theorem be.nU{pl:List (ww×Obj)}{σ:St}{H:Hp}(I:be X (xz++pl) σ H s):be X xz σ H s:=I.eS λ p hp=>I.pin p (k7 _ (mem_append_left _ hp))
theorem OY{wi:TI}{g:TG}{tb:TS}(hp:PassesOwn (model X.prog X.w) X.A X.env X.xe)(hc:X.calm=true)(hi:PI X tg iter wi)(hg:PG X tg g)(hb:rZ X body tb) (hs:∀x,foldedSetIterable iter X.env x=pure x:=by intro _;rfl):PS X (.For tg iter body [] pos) (WQ wi g tb):=by
 intro xz s σ H D I h;refine wpAny_For (cm (hi xz s σ H _ I h) λ v s1 h1=>cm h1 λ V0 s2 h2=>?_) hs;obtain⟨it,fp,tn,J,H2,e,I2,T,R5,f2,W,⟨m0,w0⟩,turn⟩:=h2;subst e;have NC:∀{H':Hp},(∀b∈fp,H' b=none)->∀b∈fp,ic X xz H' b:=λ hn b hb=>⟨hn b hb,(f2 b hb).2⟩;refine codeAny_forLoop_any (λ n s'=>∃i σ' H',be X xz σ' H' s'/\tn i s'.heap/\(∀b∈fp,H' b=none)/\W i n σ' H') ?_ m0 ⟨0,σ,H2,I2,R5,λ b hb=>(f2 b hb).1,w0⟩;rintro n s3 ⟨i,σ3,H3,I3,R4,Ux,w3⟩;rcases turn i n σ3 H3 w3 with⟨stop,qn⟩|⟨go,N,hN,step⟩
 ·refine B9 hp (cm (T.done X rfl rfl rfl hc i xz s3 σ3 H3 X.xe I3 (NC Ux) R4 stop) λ r s4 ⟨hr,I4⟩=>?_);subst hr;exact C9 ⟨σ3,H3,I4,qn⟩
 ·refine B9 hp (cm (T.item X rfl rfl rfl hc i xz s3 σ3 H3 X.xe I3 (NC Ux) R4 go) λ r s4 ⟨u,hr,h4⟩=>?_);subst hr;refine B9 hp (cm h4 λ _ s5 ⟨x,H5,I5,r5,y5,IE,YA⟩=>?_);have Y7:=I5.pinned (NC YA) (T.obj _ _ IE);refine B9 hp (cm (hg _ s5 σ3 H5 x u _ Y7 r5 (step x H5 y5)) λ _ s6 ⟨σ6,H6,I6,q6⟩=>?_);refine B9 hp (cm (hb _ s6 σ6 H6 _ I6 q6) λ f s7 q7=>?_);have again:∀{σ7:St} {H7:Hp},be X (xz++td fp s5.heap) σ7 H7 s7->N σ7 H7->∃m,m < n/\∃i σ' H',be X xz σ' H' s7/\tn i s7.heap/\(∀b∈fp,H' b=none)/\W i m σ' H':=λ{σ7 H7} I7 n7=>by obtain⟨m',hm,w7⟩:=hN σ7 H7 n7;refine⟨m',hm,i+1,σ7,H7,I7.nU,T.keep _ _ _ IE λ b hb o e=>(I7.pin (b,o) (k7 _ (k7 _ (dS hb e)))).1,λ b hb=>?_,w7⟩;obtain⟨o,e,d⟩:=T.obj _ _ IE b hb;exact(I7.pin (b,o) (k7 _ (k7 _ (dS hb e)))).2.1
  cases f with
  |next=>obtain⟨σ7,H7,I7,n7⟩:=q7;exact again I7 n7
  |cont=>obtain⟨σ7,H7,I7,n7⟩:=q7;exact again I7 n7
  |brk=>obtain⟨σ7,H7,I7,q7⟩:=q7;exact⟨σ7,H7,I7.nU,q7⟩
  |ret v=>obtain⟨x7,σ7,H7,I7,r7,q7⟩:=q7;exact⟨x7,σ7,H7,I7.nU,r7,q7⟩
end
abbrev R2:=V->V->Hp->VK->Prop
def fG(X:Cx)(f:jp->jp->Sem jp)(r:R2):Prop:=
 ∀(xz:List (ww×Obj)) (s:kt) (σ:St) (H:Hp) (x y:V) (v u:jp) (Q:VK),be X xz σ H s->bv x v->bv y u->r x y H Q->
  wpAny (model X.prog X.w) X.A (f v u) (EP X xz σ Q) X.xe s
def We(X:Cx)(f:jp->Sem jp)(r:V->Hp->VK->Prop):Prop:=
 ∀(xz:List (ww×Obj)) (s:kt) (σ:St) (H:Hp) (x:V) (v:jp) (Q:VK),be X xz σ H s->bv x v->r x H Q->
  wpAny (model X.prog X.w) X.A (f v) (EP X xz σ Q) X.xe s
def cL(X:Cx)(f:jp)(r:List V->Hp->VK->Prop):Prop:=
 ∀(xz:List (ww×Obj)) (s:kt) (σ:St) (H:Hp) (xs:List V) (us:List jp) (Q:VK),be X xz σ H s->cr xs us->r xs H Q->
  wpAny (model X.prog X.w) X.A (call f us) (EP X xz σ Q) X.xe s
def RT(r:R2)(ta tb:TE):TE:=λ σ H Q=>ta σ H λ x H1=>tb σ H1 λ y H2=>r x y H2 Q
def tUn(r:V->Hp->VK->Prop)(ta:TE):TE:=λ σ H Q=>ta σ H λ x H1=>r x H1 Q
def rI(C:Int->Int->Prop)(g:Int->Int->V):R2:=λ x y H Q=>∃i j,x=.int i/\y=.int j/\C i j/\Q (g i j) H
def HL(g:Int->Int->V):R2:=λ x y H Q=>∃i j,x=.int i/\y=.int j/\Q (g i j) H
def rU(g:Int->V):V->Hp->VK->Prop:=λ x H Q=>∃i,x=.int i/\Q (g i) H
section
variable {X:Cx}{a b c:Expr}{ta tb tc:TE}
theorem Q5(ha:PE X a ta)(hb:PE X b tb){σ:St}{H:Hp}{R:V->V->Hp->Prop}(I:be X xz σ H s) (h:ta σ H λ x H1=>tb σ H1 λ y H2=>R x y H2)  {f:jp->jp->Sem jp} (hf:∀v u s2 x y H2,be X xz σ H2 s2->bv x v->bv y u->R x y H2->wpAny (model X.prog X.w) X.A (f v u) Q X.xe s2):wpAny (model X.prog X.w) X.A (eval a X.env) (λ v s₁=>wpAny (model X.prog X.w) X.A (eval b X.env) (λ u s₂=>wpAny (model X.prog X.w) X.A (f v u) Q X.xe s₂) X.xe s₁) X.xe s:=by refine cm (ha xz s σ H _ I h) λ v s1 ⟨x,H1,I1,r1,q1⟩=>?_;refine cm (hb xz s1 σ H1 _ I1 q1) λ u s2 ⟨y,H2,I2,r2,q2⟩=>?_;exact hf v u s2 x y H2 I2 r1 r2 q2
theorem S3{op:Operator}{r:R2}(ho:fG X (binaryOp op) r)(ha:PE X a ta)(hb:PE X b tb):PE X (.BinOp a op b pos) (RT r ta tb):=by intro xz s σ H Q I h;exact wpAny_BinOp (Q5 ha hb I h λ v u s2 x y H2 I2 rx ry q=>ho xz s2 σ H2 x y v u Q I2 rx ry q)
theorem SY{op:UnaryOp}{r:V->Hp->VK->Prop}(ho:We X (unaryOp op) r)(ha:PE X a ta):PE X (.UnaryOp op a pos) (tUn r ta):=by intro xz s σ H Q I h;exact UnaryOp_ (cm (ha xz s σ H _ I h) λ v s1 ⟨x,H1,I1,r1,q1⟩=>ho xz s1 σ H1 x v Q I1 r1 q1)
theorem VS{f:jp->jp->Sem jp}{C:Int->Int->Prop}{g:Int->Int->Int} (rule:∀(i j:Int) (t u:Tok) (s:kt) (Q:jp->kt->Prop) (E:jp->kt->Prop),C i j->Q (.int (g i j) s.toks) {s with toks:=s.toks+1}->wpAny (model X.prog X.w) X.A (f (.int i t) (.int j u)) Q E s):fG X f (rI C λ i j=>.int (g i j)):=by intro xz s σ H x y v u Q I rx ry h;obtain⟨i,j,rfl,rfl,hc,q⟩:=h;obtain⟨t,rfl⟩:=rx;obtain⟨t',rfl⟩:=ry;exact rule i j t t' s _ _ hc ⟨.int (g i j),H,I.tok _,⟨_,rfl⟩,q⟩
theorem S_{f:jp->jp->Sem jp}{g:Int->Int->Int} (rule:∀(i j:Int) (t u:Tok) (s:kt) (Q:jp->kt->Prop) (E:jp->kt->Prop),Q (.int (g i j) s.toks) {s with toks:=s.toks+1}->wpAny (model X.prog X.w) X.A (f (.int i t) (.int j u)) Q E s):fG X f (HL λ i j=>.int (g i j)):=by intro xz s σ H x y v u Q I rx ry h;obtain⟨i,j,rfl,rfl,q⟩:=h;obtain⟨t,rfl⟩:=rx;obtain⟨t',rfl⟩:=ry;exact rule i j t t' s _ _ ⟨.int (g i j),H,I.tok _,⟨_,rfl⟩,q⟩
theorem Kh{f:jp->jp->Sem jp}{g:Int->Int->Bool} (rule:∀(i j:Int) (t u:Tok) (s:kt) (Q:jp->kt->Prop) (E:jp->kt->Prop),Q (.bool (g i j)) s->wpAny (model X.prog X.w) X.A (f (.int i t) (.int j u)) Q E s):fG X f (HL λ i j=>.bl (g i j)):=by intro xz s σ H x y v u Q I rx ry h;obtain⟨i,j,rfl,rfl,q⟩:=h;obtain⟨t,rfl⟩:=rx;obtain⟨t',rfl⟩:=ry;exact rule i j t t' s _ _ ⟨.bl (g i j),H,I,rfl,q⟩
def Rc(i j:Int):Prop:=0 < j/\j < 1073741824
def Vg(i j:Int):Prop:=0<=j/\j<=1000000/\i.natAbs < 2^64
def uF(i j:Int):Prop:=(-(2^64) < i/\i < 2^64)\/(-(2^64) < j/\j < 2^64)
theorem uF.ok{i j:Int}(h:uF i j):IntMulOk i j:=by
 rcases h with⟨h1,h2⟩|⟨h1,h2⟩
 ·exact .of_left (intBits_le_64 h1 h2)
 ·exact .of_right (intBits_le_64 h1 h2)
theorem Pg:fG X (binaryOp .Add) (HL λ i j=>.int (i+j)):=S_ λ _ _ _ _ _ _ _ q=>add_int q
theorem O8:fG X (binaryOp .Sub) (HL λ i j=>.int (i - j)):=S_ λ _ _ _ _ _ _ _ q=>sub_int q
theorem Pa:fG X (binaryOp .Mult) (rI uF λ i j=>.int (i*j)):=VS λ _ _ _ _ _ _ _ hc q=>mul_int q hc.ok
theorem Ke:fG X (binaryOp .FloorDiv) (rI Rc λ i j=>.int (i / j)):=VS λ i j _ _ _ _ _ hc q=>by have h1:(0:Int) < j:=hc.1;have h2:j < 1073741824:=hc.2;exact floordiv_int (by omega) (by rw[Int.fdiv_eq_ediv_of_nonneg i (by omega)];exact q) (.inl (PyProof.noPylong_small (by omega)))
theorem Pb:fG X (binaryOp .Mod) (rI (λ _ j=>0 < j) λ i j=>.int (i % j)):=VS λ i j _ _ _ _ _ hc q=>by have h1:(0:Int) < j:=hc;exact mod_int' (by omega) (by rw[Int.fmod_eq_emod_of_nonneg i (by omega)];exact q)
theorem O_:fG X (binaryOp .Pow) (rI Vg λ i j=>.int (i^j.toNat)):=VS λ _ _ _ _ _ _ _ hc q=>pow_int_small hc.1 hc.2.1 hc.2.2 q
theorem unI{f:jp->Sem jp}{g:Int->Int} (rule:∀(i:Int) (t:Tok) (s:kt) (Q:jp->kt->Prop) (E:jp->kt->Prop),Q (.int (g i) s.toks) {s with toks:=s.toks+1}->wpAny (model X.prog X.w) X.A (f (.int i t)) Q E s):We X f (rU λ i=>.int (g i)):=by intro xz s σ H x v Q I rx h;obtain⟨i,rfl,q⟩:=h;obtain⟨t,rfl⟩:=rx;exact rule i t s _ _ ⟨.int (g i),H,I.tok _,⟨_,rfl⟩,q⟩
theorem Nq:We X (unaryOp .USub) (rU λ i=>.int (-i)):=unI λ _ _ _ _ _ q=>neg_int q
end
def R':V->V->Bool
 | .bu,.bu=>true| .bu,.int _=>true| .int _,.bu=>true| .bu,.bl _=>true| .bl _,.bu=>true| .bu,.str _=>true| .str _,.bu=>true
 | .int _,.int _=>true| .bl _,.bl _=>true| .str _,.str _=>true| .CU _,.CU _=>true
 | .int _,.str _=>true| .str _,.int _=>true| .bl _,.str _=>true| .str _,.bl _=>true
 |_,_=>false
def rEq:R2:=λ x y H Q=>R' x y=true/\Q (.bl (decide (x=y))) H
def rNe:R2:=λ x y H Q=>R' x y=true/\Q (.bl (!decide (x=y))) H
theorem Av{i j:Int}:decide (V.int i=V.int j)=(i==j):=by rw[B1];simp
theorem GZ{i j:Bool}:decide (V.bl i=V.bl j)=(i==j):=by rw[B1];simp
theorem Au{i j:Str}:decide (V.str i=V.str j)=(i==j):=by rw[B1];simp
theorem Aw{i j:Array UInt8}:decide (V.CU i=V.CU j)=(i.toList==j.toList):=by rw[B1];cases i;cases j;simp
section
variable {X:Cx}{a b c:Expr}{ta tb tc:TE}
theorem bp{σ:St}{H:Hp}{Q:VK}{k k':Bool}(I:be X xz σ H s)(q:Q (.bl k) H)(e:k=k'):EP X xz σ Q (.bool k') s:=by subst e;exact⟨.bl k,H,I,rfl,q⟩
theorem MA:fG X (compareOp .Eq) rEq:=by
 intro xz s σ H x y v u Q I rx ry h;obtain⟨hs,q⟩:=h;cases x with
 |bu=>
  cases rx;cases y with
  |bu=>cases ry;exact PySem.EqNone.eq_none_none (bp I q (by simp))
  |bl j=>cases ry;exact PySem.EqNone.eq_none_bool (bp I q (by simp))
  |int j=>obtain⟨t',rfl⟩:=ry;exact PySem.EqNone.eq_none_int (bp I q (by simp))
  |str j=>obtain⟨t',rfl⟩:=ry;exact PySem.EqNone.eq_none_str (bp I q (by simp))
  |_=>exact absurd (show false=true from hs) p9
 |bl i=>
  cases rx;cases y with
  |bu=>cases ry;exact PySem.EqNone.eq_bool_none (bp I q (by simp))
  |bl j=>cases ry;exact eq_bool (bp I q GZ)
  |str j=>obtain⟨t',rfl⟩:=ry;exact PySem.EqMixed.eq_bool_str (bp I q (by simp))
  |_=>exact absurd (show false=true from hs) p9
 |int i=>
  obtain⟨t,rfl⟩:=rx;cases y with
  |bu=>cases ry;exact PySem.EqNone.eq_int_none (bp I q (by simp))
  |int j=>obtain⟨t',rfl⟩:=ry;exact eq_int (bp I q Av)
  |str j=>obtain⟨t',rfl⟩:=ry;exact PySem.EqMixed.eq_int_str (bp I q (by simp))
  |_=>exact absurd (show false=true from hs) p9
 |str i=>
  obtain⟨t,rfl⟩:=rx;cases y with
  |bu=>cases ry;exact PySem.EqNone.eq_str_none (bp I q (by simp))
  |bl j=>cases ry;exact PySem.EqMixed.eq_str_bool (bp I q (by simp))
  |int j=>obtain⟨t',rfl⟩:=ry;exact PySem.EqMixed.eq_str_int (bp I q (by simp))
  |str j=>obtain⟨t',rfl⟩:=ry;exact eq_str (bp I q Au)
  |_=>exact absurd (show false=true from hs) p9
 |CU i=>
  obtain⟨t,rfl⟩:=rx;cases y with
  |CU j=>obtain⟨t',rfl⟩:=ry;exact PySem.W.eq_bytes (bp I q Aw)
  |_=>exact absurd (show false=true from hs) p9
 |_=>cases y <;> exact absurd (show false=true from hs) p9
theorem S5:fG X (compareOp .NotEq) rNe:=by
 intro xz s σ H x y v u Q I rx ry h;obtain⟨hs,q⟩:=h;cases x with
 |bu=>
  cases rx;cases y with
  |bu=>cases ry;exact PySem.EqNone.ne_none_none (bp I q (by simp))
  |bl j=>cases ry;exact PySem.EqNone.ne_none_bool (bp I q (by simp))
  |int j=>obtain⟨t',rfl⟩:=ry;exact PySem.EqNone.ne_none_int (bp I q (by simp))
  |str j=>obtain⟨t',rfl⟩:=ry;exact PySem.EqNone.ne_none_str (bp I q (by simp))
  |_=>exact absurd (show false=true from hs) p9
 |bl i=>
  cases rx;cases y with
  |bu=>cases ry;exact PySem.EqNone.ne_bool_none (bp I q (by simp))
  |bl j=>cases ry;exact ne_bool (bp I q (L8 not GZ))
  |str j=>obtain⟨t',rfl⟩:=ry;exact PySem.EqMixed.ne_bool_str (bp I q (by simp))
  |_=>exact absurd (show false=true from hs) p9
 |int i=>
  obtain⟨t,rfl⟩:=rx;cases y with
  |bu=>cases ry;exact PySem.EqNone.ne_int_none (bp I q (by simp))
  |int j=>obtain⟨t',rfl⟩:=ry;exact ne_int (bp I q (L8 not Av))
  |str j=>obtain⟨t',rfl⟩:=ry;exact PySem.EqMixed.ne_int_str (bp I q (by simp))
  |_=>exact absurd (show false=true from hs) p9
 |str i=>
  obtain⟨t,rfl⟩:=rx;cases y with
  |bu=>cases ry;exact PySem.EqNone.ne_str_none (bp I q (by simp))
  |bl j=>cases ry;exact PySem.EqMixed.ne_str_bool (bp I q (by simp))
  |int j=>obtain⟨t',rfl⟩:=ry;exact PySem.EqMixed.ne_str_int (bp I q (by simp))
  |str j=>obtain⟨t',rfl⟩:=ry;exact ne_str (bp I q (L8 not Au))
  |_=>exact absurd (show false=true from hs) p9
 |CU i=>
  obtain⟨t,rfl⟩:=rx;cases y with
  |CU j=>obtain⟨t',rfl⟩:=ry;exact PySem.W.ne_bytes (bp I q (L8 not Aw))
  |_=>exact absurd (show false=true from hs) p9
 |_=>cases y <;> exact absurd (show false=true from hs) p9
theorem S6:fG X (compareOp .Lt) (HL λ i j=>.bl (decide (i < j))):=Kh λ _ _ _ _ _ _ _ q=>lt_int q
theorem S7:fG X (compareOp .LtE) (HL λ i j=>.bl (decide (i<=j))):=Kh λ _ _ _ _ _ _ _ q=>le_int q
theorem S8:fG X (compareOp .Gt) (HL λ i j=>.bl (decide (j < i))):=Kh λ _ _ _ _ _ _ _ q=>gt_int q
theorem S9:fG X (compareOp .GtE) (HL λ i j=>.bl (decide (j<=i))):=Kh λ _ _ _ _ _ _ _ q=>ge_int q
theorem BB:fG X (compareOp .In) (λ x y H Q=>∃i j,x=.str i/\y=.str j/\Q (.bl (!(Builtin.Str.occurrences j i 0 j.length 1).isEmpty)) H):=by intro xz s σ H x y v u Q I rx ry h;obtain⟨i,j,rfl,rfl,q⟩:=h;obtain⟨t,rfl⟩:=rx;obtain⟨t',rfl⟩:=ry;exact in_str (bp I q rfl)
theorem Pc:fG X (compareOp .Is) (λ x y H Q=>y=.bu/\Q (.bl (decide (x=.bu))) H):=by
 intro xz s σ H x y v u Q I rx ry h;obtain⟨rfl,q⟩:=h;cases ry;refine is_none_gen (bp I q ?_);cases x <;> first
  |(cases rx;rfl)
  |(obtain⟨t,rfl⟩:=rx;rfl)
theorem fG.or{f:jp->jp->Sem jp}{r r':R2}(h:fG X f r)(h':fG X f r'):fG X f (λ x y H Q=>r x y H Q\/r' x y H Q):=by
 intro xz s σ H x y v u Q I rx ry q;rcases q with q|q
 ·exact h xz s σ H x y v u Q I rx ry q
 ·exact h' xz s σ H x y v u Q I rx ry q
theorem aQ(b:Expr){op:CmpOp}(h:op≠.In:=by decide)(h2:op≠.NotIn:=by decide):behindInMarks op b=false:=by
 have e1:(op==CmpOp.In)=false:=by cases op <;> first|rfl|exact absurd rfl h
 have e2:(op==CmpOp.NotIn)=false:=by cases op <;> first|rfl|exact absurd rfl h2
 cases b <;> simp[behindInMarks,e1,e2]
theorem J'{op:CmpOp}{r:R2}(ho:fG X (compareOp op) r)(ha:PE X a ta)(hb:PE X b tb)(hm:behindInMarks op b=false):PE X (.Compare a [op] [b] pos) (RT r ta tb):=by intro xz s σ H Q I h;exact wpAny_Compare1 (Q5 ha hb I h λ v u s2 x y H2 I2 rx ry q=>ho xz s2 σ H2 x y v u Q I2 rx ry q) hm
def Mh(t:TE):TT:=λ σ H Q=>t σ H λ x H'=>∃k,x=.bl k/\Q k H'
theorem zF{op:CmpOp}{r:R2}(ho:fG X (compareOp op) r)(ha:PE X a ta)(hb:PE X b tb)(hm:behindInMarks op b=false):PT X (.Compare a [op] [b] pos) (Mh (RT r ta tb)):=by
 intro xz s σ H Q I h;refine wpAny_isTrue_Compare1 (cm (ha xz s σ H _ I h) λ v s1 ⟨x,H1,I1,r1,q1⟩=>cm (hb xz s1 σ H1 _ I1 q1) λ u s2 ⟨y,H2,I2,r2,q2⟩=>
  cm (ho xz s2 σ H2 x y v u _ I2 r1 r2 q2) λ c s3 ⟨z,H3,I3,r3,k,e,q3⟩=>?_) hm
 subst e;cases r3;exact y4 ⟨H3,I3,q3⟩
def xC(r r':R2)(ta tb tc:TE):TE:=λ σ H Q=>ta σ H λ x H1=>tb σ H1 λ y H2=>r x y H2 λ z H3=>∃k,z=.bl k/\
 (if k=true then tc σ H3 λ w' H4=>r' y w' H4 Q else Q (.bl false) H3)
theorem EX{op oK:CmpOp}{r r':R2}(ho:fG X (compareOp op) r)(ly:fG X (compareOp oK) r')(ha:PE X a ta)(hb:PE X b tb)(hc:PE X c tc) (hm:lastMarks [op,oK] [b,c]=false:=by with_unfolding_all rfl):PE X (.Compare a [op,oK] [b,c] pos) (xC r r' ta tb tc):=by
 intro xz s σ H Q I h;refine Compare_chain (cm (ha xz s σ H _ I h) λ v s1 ⟨x,H1,I1,r1,q1⟩=>chain_link (cm (hb xz s1 σ H1 _ I1 q1) λ u s2 ⟨y,H2,I2,r2,q2⟩=>
  cm (ho xz s2 σ H2 x y v u _ I2 r1 r2 q2) λ d s3 ⟨z,H3,I3,r3,k,e,q3⟩=>?_)) hm
 subst e;cases r3;refine y4 ?_;cases k with
 |false=>exact ite_ff ⟨.bl false,H3,I3,rfl,q3⟩
 |true=>exact ite_tt (chain_last (cm (hc xz s3 σ H3 _ I3 q3) λ w' s4 ⟨z',H4,I4,r4,q4⟩=>ly xz s4 σ H4 y z' u w' Q I4 r2 r4 q4))
theorem EA{op oK:CmpOp}{r r':R2}(ho:fG X (compareOp op) r)(ly:fG X (compareOp oK) r')(ha:PE X a ta)(hb:PE X b tb)(hc:PE X c tc) (hm:lastMarks [op,oK] [b,c]=false:=by with_unfolding_all rfl):PT X (.Compare a [op,oK] [b,c] pos) (Mh (xC r r' ta tb tc)):=by
 intro xz s σ H Q I h;refine isTrue_chain (cm (ha xz s σ H _ I h) λ v s1 ⟨x,H1,I1,r1,q1⟩=>test_link (cm (hb xz s1 σ H1 _ I1 q1) λ u s2 ⟨y,H2,I2,r2,q2⟩=>
  cm (ho xz s2 σ H2 x y v u _ I2 r1 r2 q2) λ d s3 ⟨z,H3,I3,r3,k,e,q3⟩=>?_)) hm
 subst e;cases r3;refine y4 ?_;cases k with
 |false=>obtain⟨k',e',q'⟩:=q3;cases e';exact ite_ff ⟨H3,I3,q'⟩
 |true=>refine ite_tt (test_last (cm (hc xz s3 σ H3 _ I3 q3) λ w' s4 ⟨z',H4,I4,r4,q4⟩=>cm (ly xz s4 σ H4 y z' u w' _ I4 r2 r4 q4) λ d' s5 ⟨z2,H5,I5,r5,k2,e2,q5⟩=>?_));subst e2;cases r5;exact y4 ⟨H5,I5,q5⟩
theorem js:(sizeLine:Nat) < 2^63:=by rw[K2];decide
theorem x_:fG X (binaryOp .Add) (λ x y H Q=>∃i j,x=.str i/\y=.str j/\i.length+j.length<=sizeLine/\Q (.str (i++j)) H):=by intro xz s σ H x y v u Q I rx ry h;obtain⟨i,j,rfl,rfl,hz,q⟩:=h;obtain⟨t,rfl⟩:=rx;obtain⟨t',rfl⟩:=ry;exact add_str (λ t' tk=>⟨.str (i++j),H,I.tok _,⟨_,rfl⟩,q⟩) hz
theorem vals1{x:V}(r:cr [x] us):∃u,us=[u]/\bv x u:=by
 cases r with
 |cons r1 r2=>cases r2;exact⟨_,rfl,r1⟩
theorem vals2{x y:V}(r:cr [x,y] us):∃u w',us=[u,w']/\bv x u/\bv y w':=by
 cases r with
 |cons r1 r2=>
  cases r2 with
  |cons r3 r4=>cases r4;exact⟨_,_,rfl,r1,r3⟩
theorem CD(hc:X.calm=true):cL X (.builtin "max") (λ xs H Q=>∃i j,xs=[.int i,.int j]/\Q (.int (if j > i then j else i)) H):=by
 intro xz s σ H xs us Q I r h;obtain⟨i,j,rfl,q⟩:=h;obtain⟨u,w',rfl,⟨t,rfl⟩,⟨t',rfl⟩⟩:=vals2 r;refine max_two_ints (I.ok.hd hc) λ h' tk k=>⟨_,H,I.kept k,?_,q⟩;by_cases hj:j > i
 ·rw[N3 hj,N3 hj];exact⟨_,rfl⟩
 ·rw[N4 hj,N4 hj];exact⟨_,rfl⟩
theorem CC(hc:X.calm=true):cL X (.builtin "min") (λ xs H Q=>∃i j,xs=[.int i,.int j]/\Q (.int (if j < i then j else i)) H):=by
 intro xz s σ H xs us Q I r h;obtain⟨i,j,rfl,q⟩:=h;obtain⟨u,w',rfl,⟨t,rfl⟩,⟨t',rfl⟩⟩:=vals2 r;refine min_two_ints (I.ok.hd hc) λ h' tk k=>⟨_,H,I.kept k,?_,q⟩;by_cases hj:j < i
 ·rw[N3 hj,N3 hj];exact⟨_,rfl⟩
 ·rw[N4 hj,N4 hj];exact⟨_,rfl⟩
theorem CG:cL X (.type "int") (λ xs H Q=>(∃i,xs=[.int i]/\Q (.int i) H)\/∃k,xs=[.bl k]/\Q (.int (if k then 1 else 0)) H):=by
 intro xz s σ H xs us Q I r h;rcases h with⟨i,rfl,q⟩|⟨k,rfl,q⟩
 ·obtain⟨u,rfl,t,rfl⟩:=vals1 r;exact call_int_int ⟨.int i,H,I,⟨_,rfl⟩,q⟩
 ·obtain⟨u,rfl,r1⟩:=vals1 r;cases r1;exact call_int_bool ⟨.int (if k then 1 else 0),H,I.tok _,⟨_,rfl⟩,q⟩
end
structure Ra(h:Heap)(x dx C:ww)(mA:Str->Option jp):Prop where
 obj:h.get? x=some (PySem.W.instObj C dx)
 ns:h.Ns1 dx mA
 ne:dx≠x
set_option tactic.hygienic true in
theorem lr{h:Heap}(n:h.Ns1 dx mA):∃od,h.get? dx=some od/\∀name,PySem.W.lookIn name od=some (mA name):=by
 obtain⟨o,es,ep,ho,hd,hk,_,hm⟩:=n;refine⟨o,ho,λ name=>?_⟩;have e:=hm name;unfold nsFind findBy at e;rw[<- Array.find?_toList]at e;unfold PySem.W.lookIn;rw[hd];dsimp only;split
 ·rename_i y q;rw[q]at e;exact L8 some e
 ·rename_i q;rw[q]at e;have a:es.toList.any (·.refKey)=false:=by rw[List.any_eq_false];intro y hy;obtain⟨z,t,Gw⟩:=hk y (Array.mem_toList_iff.mp hy);simp[DictEntry.refKey,Gw]
  have a':¬es.toList.any (·.refKey)=true:=by rw[a];exact p9
  rw[N4 a'];exact L8 some e
theorem Ra.look{h:Heap}{x:ww}(I:Ra h x dx C mA):∃od,PySem.W.InstAt h x (PySem.W.instObj C dx) C (some od)/\∀name,PySem.W.lookIn name od=some (mA name):=
 let⟨od,ho,hl⟩:=lr I.ns
 ⟨od,⟨I.obj,rfl,rfl,ho⟩,hl⟩
theorem ib.some_of{v:V}{o:Option jp}(r:ib (some v) o):∃u,o=some u/\bv v u:=by
 cases o with
 |none=>exact(show False from r).elim
 |some u=>exact⟨u,rfl,r⟩
theorem Cc{v:V}(r:bv v u):PySem.W.handedIn u=true:=by
 cases v with
 |bu=>cases(show u=Value.none from r);rfl
 |bl b=>cases(show u=Value.bool b from r);rfl
 |int i=>obtain⟨t,e⟩:=(show ∃t,u=Value.int i t from r);cases e;rfl
 |str x=>obtain⟨t,e⟩:=(show ∃t,u=Value.str x t from r);cases e;rfl
 |CU b=>obtain⟨t,e⟩:=(show ∃t,u=Value.bytes b t from r);cases e;rfl
 |Qx b=>obtain⟨t,e⟩:=(show ∃t,u=Value.float b t from r);cases e;rfl
 |ref a=>cases(show u=Value.ref a from r);rfl
 |ty n=>cases(show u=Value.type n from r);rfl
section
variable {H H':Hp}{h:Heap}{fs fs':List (Str×V)}
theorem Lc(bj:gE P w H h)(e:H a=some (.ins C dx fs)):∃mA,Ra h a dx C mA/\(∀f,ib (fs.lookup f) (mA f))/\PySem.Within mA (fs.map (·.1))/\fs.length<=1000/\H dx=some (.own a):=by obtain⟨d,z,ne,ob,mA,n,r,q⟩:=(show bD P w H h a (.ins C dx fs)from bj a _ e);exact⟨mA,⟨ob,n,ne⟩,r,q,z,d⟩
end
structure Y9(K:N5)(C:ww):Prop where
 pg:PySem.W.plainGet K C Str.empty=true
 hd:PySem.W.hasDictIn K C=true
 po:PySem.W.plainOver K C=true
 sa:PySem.W.findIn K (.ref C) "__setattr__"=some (some (.builtin "object.__setattr__"))
theorem Y9.get(c:Y9 K C)(f:Str):PySem.W.plainGet K C f=true:=c.pg
section
variable {X:Cx}{σ:St}{H:Hp}{fs:List (Str×V)}{f:Str}{v:V}
theorem LX{f:Str}(hb:attributeBase e f env (eval e env)=eval e env) (h:wpAny (model prog w) A (eval e env) (λ o s₁=>wpAny (model prog w) A (getAttr o f true) Q E s₁) E s):wpAny (model prog w) A (eval (.Attribute e f pos) env) Q E s:=
 Attribute_any_ h (by rw[arm_eval_Attribute,hb])
end
section
variable {X:Cx}{σ:St}{H:Hp}{c:jp}
inductive mO(K:N5)(H:Hp):V->jp->Prop where
 |bu:mO K H .bu (.type "NoneType")
 |bl (x:Bool):mO K H (.bl x) (.type "bool")
 |int (i:Int):mO K H (.int i) (.type "int")
 |str (x:Str):mO K H (.str x) (.type "str")
 |Qx (x:UInt64):mO K H (.Qx x) (.type "float")
 |lst {a:ww} {xs:List V} (e:H a=some (.lst xs)):mO K H (.ref a) (.type "list")
 |ia {a:ww} {o:Obj} {xs:List V} (e:H a=some (.ia o (.lst xs))):mO K H (.ref a) (.type "list")
 |tup {a:ww} {xs:List V} (e:H a=some (.tup xs)):mO K H (.ref a) (.type "tuple")
 |dK {a:ww} {aA:List (Key×V)} (e:H a=some (.dK aA)):mO K H (.ref a) (.type "dict")
 |dT {a:ww} {aA:List (List Key×V)} (e:H a=some (.dT aA)):mO K H (.ref a) (.type "dict")
 |ins {a C dx:ww} {fs:List (Str×V)} (e:H a=some (.ins C dx fs)) (cl:Y9 K C) (ha:PySem.W.findIn K (.ref C) "__class__"=some (some (.builtin "object.__class__")))
   (hn:PySem.W.specialIn K (.builtin "object.__class__") "__get__"=some (some (.builtin "getset_descriptor.__get__"))) (Zx:PySem.W.takesIn K (.builtin "object.__class__")=some true)
   (hm:PySem.W.mroIn K C (.type "object")=some true):mO K H (.ref a) (.ref C)
theorem iU{x:V}{t:jp}(I:be X xz σ H s)(rx:bv x u)(ty:mO X.K H x t)(e:PySem.W.kitOne X.K t c=some b)(h:∀tk,Q (.bool b) {s with toks:=tk}):wpAny (model X.prog X.w) A (call (.builtin "isinstance") [u,c]) Q E s:=by
 cases ty with
 |bu=>cases(show u=Value.none from rx);exact C1 PySem.W.kitx_none I.hV True.intro e (λ z=>nomatch z) h
 |bl y=>cases(show u=Value.bool y from rx);exact C1 PySem.W.kitx_bool I.hV True.intro e (λ z=>nomatch z) h
 |int i=>obtain⟨t,q⟩:=(show ∃t,u=Value.int i t from rx);cases q;exact C1 PySem.W.kitx_int I.hV True.intro e (λ z=>nomatch z) h
 |str y=>obtain⟨t,q⟩:=(show ∃t,u=Value.str y t from rx);cases q;exact C1 PySem.W.kitx_str I.hV True.intro e (λ z=>nomatch z) h
 |Qx y=>obtain⟨t,q⟩:=(show ∃t,u=Value.float y t from rx);cases q;exact C1 PySem.W.kitx_float I.hV True.intro e (λ z=>nomatch z) h
 |@lst a xs ea=>cases(show u=Value.ref a from rx);obtain⟨_,_,n,_,h1⟩:=(show bD X.prog X.w H s.heap a (.lst xs)from I.bj a _ ea);exact C1 PySem.W.kitx_list I.hV ⟨_,h1,rfl⟩ e (λ z=>nomatch z) h
 |@ia a ob xs ea=>cases(show u=Value.ref a from rx);obtain⟨_,_,_,n,_,h1⟩:=(show bD X.prog X.w H s.heap a (.ia ob (.lst xs))from I.bj a _ ea);exact C1 PySem.W.kitx_list I.hV ⟨_,h1,rfl⟩ e (λ z=>nomatch z) h
 |@tup a xs ea=>cases(show u=Value.ref a from rx);obtain⟨_,_,_,p⟩:=(show bD X.prog X.w H s.heap a (.tup xs)from I.bj a _ ea);obtain⟨o,h1,h2,_⟩:=p;exact C1 PySem.W.kitx_tuple I.hV ⟨o,h1,h2⟩ e (λ z=>nomatch z) h
 |@dK a aA ea=>cases(show u=Value.ref a from rx);obtain⟨_,_,vs,_,p⟩:=(show bD X.prog X.w H s.heap a (.dK aA)from I.bj a _ ea);obtain⟨o,es,ep,h1,h2,_⟩:=p;exact C1 PySem.W.kitx_dict I.hV ⟨o,h1,h2.1⟩ e (λ z=>nomatch z) h
 |@dT a aA ea=>cases(show u=Value.ref a from rx);obtain⟨_,_,xs,_,o,es,ep,h1,h2,_⟩:=(show bD X.prog X.w H s.heap a (.dT aA)from I.bj a _ ea);exact C1 PySem.W.kitx_dict I.hV ⟨o,h1,h2.1⟩ e (λ z=>nomatch z) h
 |@ins a C dx fs ea cl ha hn Zx hm=>cases(show u=Value.ref a from rx);obtain⟨mA,O,_⟩:=Lc I.bj ea;obtain⟨od,J,_⟩:=O.look;exact C1 (PySem.W.kitx_own (cl.get _) cl.hd ha hn Zx hm) I.hV J e (λ z=>nomatch z) h
end
structure bJ(k:Nat)(A:Around):Prop where
 hd:A.handled=none
 dp:A.depth+2*k+5 < recursionLimit
 un:A.units+16*k+200 < cLine
theorem bJ.mono(r:bJ k A)(h:j<=k):bJ j A:=⟨r.hd,by have:=r.dp;omega,by have:=r.un;omega⟩
theorem bJ.deeper(r:bJ (k+1) A)(env:Env):bJ k (A.deeper env):=
 ⟨r.hd,by have:=r.dp;show A.depth+1+2*k+5 < _;omega,by have:=r.un;show A.units+3+16*k+200 < _;omega⟩
theorem bJ.in1(r:bJ (k+1) A):bJ k A.in1:=
 ⟨r.hd,by have:=r.dp;show A.depth+2*k+5 < _;omega,by have:=r.un;show A.units+1+16*k+200 < _;omega⟩
theorem yo{kw:List (Str×jp)}:(A.under (.builtin "type.__call__" ⟨.ref C::us,kw⟩)).depth=A.depth+1:=by
 first|rfl|simp[Around.under,Code.weight,Code.isCreation,Code.isGuard,Code.isCaller,Code.frames,Code.isFrame,guardIds]
theorem yl{kw:List (Str×jp)}:(A.under (.builtin "type.__call__" ⟨.ref C::us,kw⟩)).units=A.units+1:=by
 first|rfl|simp[Around.under,Code.cUnits,Code.frames,Code.isFrame]
theorem bJ.make(r:bJ (k+1) A)(C:ww)(us:List jp)(kw:List (Str×jp)):bJ k (A.under (.builtin "type.__call__" ⟨.ref C::us,kw⟩)):=
 ⟨r.hd,by have:=r.dp;rw[yo];omega,by have:=r.un;rw[yl];omega⟩
theorem bJ.depth(r:bJ k A):A.depth < recursionLimit:=by have:=r.dp;omega
theorem bJ.units(r:bJ k A):A.units+64 < cLine:=by have:=r.un;omega
def RU:TA:=λ _ H Q=>Q [] H
def Mi(ta:TE)(tr:TA):TA:=λ σ H Q=>ta σ H λ x H1=>tr σ H1 λ xs H2=>Q (x::xs) H2
section
variable {X:Cx}{te:TE}{t:TA}
theorem cj:PA X [] RU:=λ _ _ _ _ H Q I h=>Calls.spliced_nil ⟨[],H,I,.nil,h⟩
theorem aO(ha:PE X e te)(hr:PA X es t)(hs:starEach (e::es) X.env=(false,eval e X.env)::starEach es X.env:=by rfl):PA X (e::es) (Mi te t):=by intro pos xz s σ H Q I h;rw[hs];show wpAny _ _ (spliced ((false,eval e X.env)::backTo pos (starEach es X.env))) _ _ s;refine Calls.spliced_cons (cm (ha xz s σ H _ I h) λ u s1 ⟨x,H1,I1,r1,q1⟩=>?_);exact cm (hr pos xz s1 σ H1 _ I1 q1) λ us s2 ⟨xs,H2,I2,r2,q2⟩=>⟨x::xs,H2,I2,.cons r1 r2,q2⟩
def WC(t:TA):TE:=λ σ H Q=>t σ H λ xs H1=>xs.length<=sizeLine/\∀p,H1 p=none->Q (.ref p) (dl H1 p (.tup xs))
def WM(t:TA):TE:=λ σ H Q=>t σ H λ xs H1=>xs.length<=sizeLine/\∀p,H1 p=none->Q (.ref p) (dl H1 p (.lst xs))
theorem lh{x1:_}(h:PA X es t):PE X (.Tuple es x1 pos) (WC t):=by intro xz s σ H Q I hq;refine wpAny_Tuple_spliced (cm (h pos xz s σ H _ I hq) λ us s1 ⟨xs,H1,I1,r,z,q⟩=>⟨by rw[<- r.length];exact z,?_⟩);have hf:H1 s1.heap.objs.size=none:=I1.bj.fresh (K1 _);refine⟨.ref s1.heap.objs.size,dl H1 s1.heap.objs.size (.tup xs),I1.laid (t':=s1.toks) (λ b u e=>j7 _ e) (K1 _) ?_,rfl,q _ hf⟩;exact⟨z,us,r,⟨_,n9 _ rfl,rfl,_,rfl⟩⟩
theorem ET(h:PA X es t):PE X (.List es pos) (WM t):=by intro xz s σ H Q I hq;refine wpAny_List_spliced (cm (h pos xz s σ H _ I hq) λ us s1 ⟨xs,H1,I1,r,z,q⟩=>⟨by rw[<- r.length];exact z,?_⟩);have hf:H1 s1.heap.objs.size=none:=I1.bj.fresh (K1 _);refine⟨.ref s1.heap.objs.size,dl H1 s1.heap.objs.size (.lst xs),I1.laid (t':=s1.toks) (λ b u e=>j7 _ e) (K1 _) ?_,rfl,q _ hf⟩;exact⟨z,us,0,r,n9 _ rfl⟩
end
abbrev Sp:=List V->Hp->VK->XK->Prop
abbrev HI:=List Env->Hp->kt->XK->jp->kt->Prop
structure qh(P:Program)(w:World)(K:N5)(mg:Str->Option jp)(base:Heap)(A:Around)(outer:List Env)(s:kt)(H:Hp):Prop where
 frames:A.frames=some outer
 mod:Mod K mg base
 bs:∀b o,base.get? b=some o->s.heap.get? b=some o/\H b=none
 CV:base.objs.size<=s.heap.objs.size
 ke:s.heap.FunFrames base outer
 Ls:∀b∈je outer,H b=none
 bj:gE P w H s.heap
 bare:AllBare s.gens
def CE(outer:List Env)(P:Program)(w:World)(H:Hp)(s:kt)(Q:VK)(u:jp)(s':kt):Prop:=
 ∃v H',s'.os=s.os/\AllBare s'.gens/\Un (je outer) [] H H' s.heap s'.heap/\gE P w H' s'.heap/\bv v u/\Q v H'
def CR(CX:HI)(outer:List Env)(P:Program)(w:World)(H:Hp)(s:kt)(Q:VK)(E:XK)(r:Result)(s':kt):Prop:=
 match r with
 | .ok (.ret u)=>CE outer P w H s Q u s'
 | .ok _=>False
 | .error e=>CX outer H s E e s'
structure bo(P:Program)(w:World)(K:N5)(mg:Str->Option jp)(base:Heap)(CX:HI)(k:Nat)(f:ww)(fd:FuncData)(ps:List Str)(sp:Sp):Prop where
 len:∀vs H Q E,sp vs H Q E->vs.length=ps.length
 run:∀(A:Around) (outer:List Env) (s:kt) (H:Hp) (args:Args) (us:List jp) (vs:List V) (Q:VK) (E:XK),bJ k A->qh P w K mg base A outer s H->BindsTo s fd args (ps.zip us)->cr vs us->sp vs H Q E->
  codeAny (model P w) A (.call (.ref f) args) (CR CX outer P w H s Q E) s
theorem qh.make{H:Hp}(e:qh P w K mg base A outer s H)(C:ww)(us:List jp)(kw:List (Str×jp)):qh P w K mg base (A.under (.builtin "type.__call__" ⟨.ref C::us,kw⟩)) outer s H:=⟨by first|exact e.frames|(simpa[Around.under,Code.envs,Code.isFrame,pushEnvs]using e.frames),e.mod,e.bs,e.CV,e.ke,e.Ls,e.bj,e.bare⟩
theorem qh.in1{H:Hp}(e:qh P w K mg base A outer s H):qh P w K mg base A.in1 outer s H:=⟨e.frames,e.mod,e.bs,e.CV,e.ke,e.Ls,e.bj,e.bare⟩
section
variable {X:Cx}{σ:St}{H:Hp}
theorem be.LB(I:be X xz σ H s):qh X.prog X.w X.K X.mg X.base X.A X.stack s H:=
 ⟨I.ok.frames,I.ok.mod,I.bs,H9 I.ok.CV I.sz,I.stack,I.jM,I.bj,I.bare⟩
theorem be.after{Q:VK}(I:be X xz σ H s)(h:CE X.stack X.prog X.w H s Q u s'):EP X xz σ Q u s':=by obtain⟨v,H',os,bare,un,bj,r,q⟩:=h;obtain⟨hh,g,d,t,VR⟩:=s';obtain rfl:VR=s.os:=os;exact⟨v,H',I.call (h':=hh) (g':=g) (d':=d) (t':=t) (ch:=[]) un bj bare (λ b z=>absurd z (by simp)),r,q⟩
end
def Mj(sp:Sp)(dvs:List V)(E:XK)(t:TA):TE:=λ σ H Q=>t σ H λ vs H1=>sp (vs++dvs) H1 Q E
def Binds(K:N5)(fd:FuncData)(ps:List Str)(ds:List jp):Prop:=
 ∀(s:kt) (us:List jp),K.In s.heap->(us++ds).length=ps.length->BindsTo s fd ⟨us,[]⟩ (ps.zip (us++ds))
theorem Binds.all(h:∀us:List jp,us.length=ps.length->bindArgs fd ⟨us,[]⟩=pure (ps.zip us)):Binds K fd ps []:=λ s us _ hl=>by rw[B2]at hl ⊢;exact .of_eq (h us hl)
def Passes(CX:HI)(X:Cx)(E:XK):Prop:=∀(xz:List (ww×Obj)) (σ:St) (H:Hp) (s:kt) (e:jp) (s':kt),be X xz σ H s->CX X.stack H s E e s'->X.xe e s'
section
variable {X:Cx}{CX:HI}{sp:Sp}{dvs:List V}{ds:List jp}{E:XK}{m:Str}{p:Pos}{o:Expr}{ta:TE}{t:TA}
theorem NR{σ:St}{H:Hp}{Q:VK}{vs:List V}(F:bo X.prog X.w X.K X.mg X.base CX k f fd ps sp)(hr:bJ k X.A)(hb:Binds X.K fd ps ds)(hd:cr dvs ds)(hx:Passes CX X E) (I:be X xz σ H s) (r:cr vs us) (h:sp (vs++dvs) H Q E):wpAny (model X.prog X.w) X.A (call (.ref f) us) (EP X xz σ Q) X.xe s:=by
 have r2:cr (vs++dvs) (us++ds):=r.append hd;have hl:(us++ds).length=ps.length:=by rw[<- r2.length];exact F.len _ _ _ _ h
 refine L6 (J8 (F.run X.A X.stack s H ⟨us,[]⟩ (us++ds) (vs++dvs) Q E hr I.LB (hb s us I.hV hl) r2 h) λ r s' hq=>?_);cases r with
 |error e=>exact hx xz σ H s e s' I hq
 |ok fl=>
  cases fl with
  |ret u=>exact I.after hq
  |next=>exact False.elim hq
  |brk=>exact False.elim hq
  |cont=>exact False.elim hq
theorem zJ(F:bo X.prog X.w X.K X.mg X.base CX k f fd ps sp)(hr:bJ k X.A)(hg:Gl X x)(hm:X.mg x=some (.ref f))(hk:PySem.W.keepIn X.K (.ref f)=true)(hb:Binds X.K fd ps ds)(hd:cr dvs ds)(hx:Passes CX X E) (ha:PA X (e::es) t) (hdb:(x==("__debug__":Str))=false:=by decide) (he:starEach (e::es) X.env=(false,eval e X.env)::starEach es X.env:=by rfl) (hpl:(backTo pos (starEach es X.env)).any (·.1)=false:=by rfl):PE X (.Call (.Name x p) (e::es) [] pos) (Mj sp dvs E t):=by intro xz s σ H Q I h;refine u5 (fQ I hg hm ?_ hdb);refine PySem.W.callWith_K (h₀:=X.base) I.ok.mod.Rm hk (cm (ha pos xz s σ H _ I h) λ us s1 ⟨vs,H1,I1,r,q⟩=>⟨I1.hV,?_⟩) he hpl;exact NR F hr hb hd hx I1 r q
end
structure aH(N P:List Str)(sc:Scope):Prop where
 kind:sc.kind=.function
 co:sc.isCoroutine=false
 gen:sc.isGenerator=false
 nd:N.Nodup
 pre:N.take P.length=P
 par:∀x∈P,sc.names.lookup x=some .local\/sc.names.lookup x=some .cell
 Px:∀y∈sc.names,y.2≠.free
theorem rV:∀{binds:List (Str×jp)} {m:Str->Option jp},(∀v,(x,v)∉binds)->bindL kindOf binds m x=m x
 |[],_,_=>rfl
 |(n,v)::r,m,h=>by
  unfold bindL;rw[rV λ w hw=>h w (l7 _ hw)];split
  ·have:x≠n:=by rintro rfl;exact h v p0
   simp[this]
  ·rfl
theorem rX:∀{binds:List (Str×jp)} {m:Str->Option jp},(∀v,(x,v)∉binds)->bindC kindOf binds m x=m x
 |[],_,_=>rfl
 |(n,v)::r,m,h=>by
  unfold bindC;rw[rX λ w hw=>h w (l7 _ hw)];split
  ·rfl
  ·have:x≠n:=by rintro rfl;exact h v p0
   simp[this]
theorem rW{v:jp}:∀{P:List Str} {vs:List jp} {i:Nat} {m:Str->Option jp},P.Nodup->P[i]?=some x->vs[i]?=some v->kindOf x=some .local->
  bindL kindOf (P.zip vs) m x=some v
 |[],_,_,_,_,h,_,_=>by simp at h
 |_::_,[],_,_,_,_,h,_=>by simp at h
 |p::P,w::vs,0,m,nd,h1,h2,hk=>by simp at h1 h2;subst h1;subst h2;show bindL kindOf ((p,w)::P.zip vs) m p=_;unfold bindL;rw[rV λ v hv=>(nodup_cons.mp nd).1 (C8 hv).1,N3 hk];simp
 |p::P,w::vs,i+1,m,nd,h1,h2,hk=>by show bindL kindOf ((p,w)::P.zip vs) m x=_;unfold bindL;exact rW (i:=i) (nodup_cons.mp nd).2 (by simpa using h1) (by simpa using h2) hk
theorem rY{v:jp}:∀{P:List Str} {vs:List jp} {i:Nat} {m:Str->Option jp},P.Nodup->P[i]?=some x->vs[i]?=some v->kindOf x≠some .local->
  bindC kindOf (P.zip vs) m x=some v
 |[],_,_,_,_,h,_,_=>by simp at h
 |_::_,[],_,_,_,_,h,_=>by simp at h
 |p::P,w::vs,0,m,nd,h1,h2,hk=>by simp at h1 h2;subst h1;subst h2;show bindC kindOf ((p,w)::P.zip vs) m p=_;unfold bindC;rw[rX λ v hv=>(nodup_cons.mp nd).1 (C8 hv).1,N4 hk];simp
 |p::P,w::vs,i+1,m,nd,h1,h2,hk=>by show bindC kindOf ((p,w)::P.zip vs) m x=_;unfold bindC;exact rY (i:=i) (nodup_cons.mp nd).2 (by simpa using h1) (by simpa using h2) hk
def start(N:List Str)(vs:List V):St:=vs.map some++List.replicate (N.length - vs.length) none
def qx(CX:HI)(P:Program)(w:World)(K:N5)(mg:Str->Option jp)(base:Heap)(N:List Str)(qual:Str)(scope:Scope)(f:ww)(cd:jp)(A:Around)(outer:List Env)(s:kt)(H:Hp)(E:XK):Cx where
 prog:=P
 w:=w
 K:=K
 mg:=mg
 base:=base
 A:=A.deeper (envOfC qual scope s.heap.objs.size f cd)
 N:=N
 s₀:=s
 H₀:=H
 env:=envOfC qual scope s.heap.objs.size f cd
 outer:=outer
 stack:=envOfC qual scope s.heap.objs.size f cd::outer
 ex:=[]
 calm:=true
 fn:=λ _=>true
 pn:=[]
 xe:=λ e s'=>wpAny (model P w) (A.deeper (envOfC qual scope s.heap.objs.size f cd)) (leaving (envOfC qual scope s.heap.objs.size f cd) e) (λ _ Sb=>CX outer H s E e Sb) (λ e' Sb=>CX outer H s E e' Sb) s'
theorem wH{sc:Scope}(h:sc.names.lookup x=some .cell):∃c,(cellsFrom n sc.names []).lookup x=some c:=by have q:=PySem.W.cellsFrom_some sc.names n [] (.inl h);exact Option.isSome_iff_exists.mp q
theorem BV{CX:HI}{s1:kt}{H:Hp}{E:XK}{vs:List V} (S:aH N ps scope) (hd:A.handled=none) (e0:qh P w K mg base A outer s H) (hl:vs.length=ps.length) (r:cr vs us) (x:InCallC s s.heap.objs.size (bindL (envOfC qual scope s.heap.objs.size f cd).kindOf (ps.zip us) λ _=>none) (cellsFrom (s.heap.objs.size+1) scope.names []) (bindC (envOfC qual scope s.heap.objs.size f cd).kindOf (ps.zip us) λ _=>none) s1):be (qx CX P w K mg base N qual scope f cd A outer s H E) [] (start N vs) H s1:=by
 have hpl:ps.length<=N.length:=by have:=L8 List.length S.pre;rw[A8]at this;omega
 obtain⟨h1,tk,rfl,hk⟩:=x.done;have Th:∀b:ww,b∉(qx CX P w K mg base N qual scope f cd A outer s H E).ex:=λ b z=>absurd (show b∈([]:List ww)from z) (by simp);refine⟨⟨e0.mod,S.kind,rfl,rfl,K1 _,λ y z c h1 h2=>?_,λ y hy=>?_,λ y c _ h=>?_,λ _=>hd,Around.frames_deeper e0.frames,.inr ⟨rfl,rfl⟩,λ b z=>absurd z (Th b),e0.bs,e0.CV,λ b _ _=>Th b,λ b z=>absurd z (Th b),e0.ke,e0.Ls⟩,
  rfl,e0.bare,Un.kept hk,⟨_,x.toInCall.ns,λ i y v h1 h2 h3=>?_⟩,λ y c h=>⟨_,x.cell y c h⟩,e0.bj.fresh (K1 _),λ y c h=>?_,λ p hp=>absurd (show p∈([]:List (ww×Obj))from hp) (by simp),e0.bj.kept hk,?_⟩
 ·exact name_of_addr x.apart (n0 h1) (n0 h2)
 ·have hy:scope.names.lookup y=some .cell\/scope.names.lookup y=some .free:=hy;rcases hy with hy|hy
  ·exact wH hy
  ·exact absurd rfl (S.Px _ (n0 hy))
 ·exact K0 (x.above y c (n0 h))
 ·have hi:i < vs.length:=by
   unfold start at h2;by_cases hi:i < vs.length
   ·exact hi
   ·rw[c7 (by simpa using hi)]at h2;rw[j1]at h2;split at h2 <;> cases h2
  have ha:vs[i]?=some v:=by
   unfold start at h2;rw[g9 (by simpa using hi),x6]at h2;cases e:vs[i]? with
   |none=>rw[e]at h2;cases h2
   |some a=>rw[e]at h2;cases h2;rfl
  obtain⟨u,hu,rv⟩:=r.get ha;have hp:ps[i]?=some y:=by rw[<- S.pre,getElem?_take_of_lt (by omega)];exact h1
  have Zn:ps.Nodup:=by rw[<- S.pre];exact S.nd.sublist (take_sublist _ _)
  refine⟨u,rv,?_⟩;rcases S.par y (l8 hp)with k|k
  ·exact .inl ⟨k,rW Zn hp hu k⟩
  ·obtain⟨c,e⟩:=wH (n:=s.heap.objs.size+1) k;refine .inr ⟨.inl k,c,e,?_⟩;have q:=x.cell y c e;rw[rY Zn hp hu (by show scope.names.lookup y≠_;rw[k];decide)]at q;exact q
 ·exact e0.bj.fresh (K0 (x.above y c (n0 h)))
 ·unfold start;show _=N.length;rw[q8,C2,l0];omega
theorem MQ{CX:HI}{P:Program}{w:World}{K:N5}{mg:Str->Option jp}{base:Heap}{k:Nat}{f:ww}{name qual:Str}{params:Arguments}{body:List Stmt}{scope:Scope}{dV kV doc pm bR ct oc:jp}{an od:Option ww} {Bz:Array (Option jp)} {N ps:List Str} {sp:Sp} (lk:K.lookup f=some ⟨oc,od,.func (PySem.W.fnOf name qual params body scope dV kV doc pm an bR ct),Bz⟩) (hcd:PySem.W.codeIn K bR qual=true) (S:aH N ps scope) (len:∀vs H Q E,sp vs H Q E->vs.length=ps.length) (gy:∀(A:Around) (outer:List Env) (s:kt) (H:Hp) (vs:List V) (Q:VK) (E:XK),bJ k (A.deeper (envOfC qual scope s.heap.objs.size f bR))->sp vs H Q E->
   ∃t,rZ (qx CX P w K mg base N qual scope f bR A outer s H E) body t/\t {nx:=λ _ H'=>Q .bu H',rt:=Q} (start N vs) H):
  bo P w K mg base CX (k+1) f (PySem.W.fnOf name qual params body scope dV kV doc pm an bR ct) ps sp:=by
 refine⟨len,λ A outer s H args us vs Q E hr e0 hb r Gk=>?_⟩;have hl:=len _ _ _ _ Gk;have KX:K.In s.heap:=e0.mod.Rm.keeps λ b o e=>(e0.bs b o e).1;have lim:s.heap.NoLimit:=e0.mod.nolimit.keeps λ b o e=>(e0.bs b o e).1;have Gv:∀y∈ps.zip us,scope.names.lookup y.1=some .local\/(scope.names.lookup y.1=some .cell/\((cellsFrom (s.heap.objs.size+1) scope.names []).lookup y.1).isSome=true):=λ⟨n,v⟩ hy=>by
  rcases S.par n (C8 hy).1 with q|q
  ·exact .inl q
  ·exact .inr ⟨q,PySem.W.cellsFrom_some _ _ _ (.inl q)⟩
 refine codeAny_call_function hr.depth (KX _ _ lk) rfl S.co S.gen rfl (PySem.W.codeRec_of KX hcd) (hb _ _ _ _ ?_);refine wpAny_newFunctionEnv_cells S.kind Gv λ env he s1 x=>?_;subst he;refine⟨lim.keeps x.toInCall.keep,codeAny_func ?_⟩;obtain⟨t,ht,hq⟩:=gy A outer s H vs Q E (hr.deeper _) Gk;have I:be (qx CX P w K mg base N qual scope f bR A outer s H E) [] (start N vs) H s1:=BV S hr.hd e0 hl r x;refine K9 (ht [] s1 (start N vs) H _ I hq) (λ fl s' hs=>?_) λ e s' hs=>hs;have fin:∀{σ':St} {H':Hp} {v:V} {u:jp},be (qx CX P w K mg base N qual scope f bR A outer s H E) [] σ' H' s'->bv v u->Q v H'->CE outer P w H s Q u s':=
  λ{σ' H' v u} J rv q=>⟨v,H',J.os,J.bare,J.base,J.bj,rv,q⟩
 cases fl with
 |ret u=>obtain⟨v,σ',H',J,rv,q⟩:=hs;exact fin J rv q
 |next=>obtain⟨σ',H',J,q⟩:=hs;exact fin (v:=V.bu) (u:=Value.none) J rfl q
 |brk=>obtain⟨_,_,_,q⟩:=hs;exact False.elim q
 |cont=>obtain⟨_,_,_,q⟩:=hs;exact False.elim q
section
variable {X:Cx}{p:Pos}{t:TA}{id:String}{r:List V->Hp->VK->Prop}
def Vn(r:List V->Hp->VK->Prop)(t:TA):TE:=λ σ H Q=>t σ H λ vs H1=>r vs H1 Q
theorem fq(hc:cL X (.builtin id) r)(hg:Gl X x)(hm:X.mg x=none)(hv:bootBuiltins x=some (.builtin id))(ha:PA X (e::es) t)(hn:x≠"__name__":=by decide)(hdb:(x==("__debug__":Str))=false:=by decide) (he:starEach (e::es) X.env=(false,eval e X.env)::starEach es X.env:=by rfl) (hpl:(backTo pos (starEach es X.env)).any (·.1)=false:=by rfl):PE X (.Call (.Name x p) (e::es) [] pos) (Vn r t):=by intro xz s σ H Q I h;refine u5 (iD I hg hm hv ?_ hn hdb);exact PyProof.Rows.callWith_builtin1 (cm (ha pos xz s σ H _ I h) λ us s1 ⟨vs,H1,I1,r1,q1⟩=>hc xz s1 σ H1 vs us Q I1 r1 q1) he hpl
theorem qW(hc:cL X (.type T) r)(hg:Gl X x)(hm:X.mg x=none)(hv:bootBuiltins x=some (.type T))(ha:PA X (e::es) t)(hn:x≠"__name__":=by decide)(hdb:(x==("__debug__":Str))=false:=by decide) (he:starEach (e::es) X.env=(false,eval e X.env)::starEach es X.env:=by rfl) (hpl:(backTo pos (starEach es X.env)).any (·.1)=false:=by rfl):PE X (.Call (.Name x p) (e::es) [] pos) (Vn r t):=by intro xz s σ H Q I h;refine u5 (iD I hg hm hv ?_ hn hdb);exact c5 (cm (ha pos xz s σ H _ I h) λ us s1 ⟨vs,H1,I1,r1,q1⟩=>hc xz s1 σ H1 vs us Q I1 r1 q1) he hpl
end
end L2
variable {X:L2.Cx}{H H' H1:L2.Hp}{xs:List L2.V}{σ:L2.St}{aA:List (List L2.Key×L2.V)}{v y:L2.V}{sp:L2.Sp}{o:Option L2.V}{r:List L2.V->L2.Hp->L2.VK->Prop}
namespace HT
open PyProof.Rows
def lexLt:List Int->List Int->Bool
 |[],[]=>false
 |[],_::_=>true
 |_::_,[]=>false
 |x::xs,y::ys=>if x=y then lexLt xs ys else decide (x < y)
theorem cK(x y:Int)(xs ys:List Int):lexLt (x::xs) (y::ys)=if x=y then lexLt xs ys else decide (x < y):=rfl
theorem d_:lexLt [] []=false:=rfl
theorem dB(y:Int)(ys:List Int):lexLt [] (y::ys)=true:=rfl
theorem dC(x:Int)(xs:List Int):lexLt (x::xs) []=false:=rfl
theorem GS(A:Around)(s:kt)(a:Int)(t:Tok)(c:Int)(u:Tok):∃e,SeqAt.EqAt A s (.int a t) (.int c u) e/\(e=true↔a=c):=
 ⟨(a==c),SeqAt.EqAt.int_int a t c u,by simp⟩
theorem oC(A:Around)(s:kt)(a:Int)(t:Tok)(c:Int)(u:Tok)(prog:Program)(w:World)(E:jp->kt->Prop)(Q:jp->kt->Prop)(h:Q (.bool (decide (a < c))) s):wpAny (model prog w) A (richCompare .Lt (.int a t) (.int c u)) Q E s:=
 (PyProof.Rows.lt_int h:wpAny (model prog w) A (compareOp .Lt (.int a t) (.int c u)) Q E s)
section
open PySem.SeqAt
open PySem.AutoSeq1 (wpAny_loadPart')
open PySem.MeetsSeq PySem.MeetsSeq2 PySem.MeetsSeq3
theorem qk(l b:ww)(al gb:Array jp)(n n2:Nat)(dd Rw:Option ww)(sl Ri:Array (Option jp))(ns ms:List Int)(hi:IntsAre al.toList ns)(hj:IntsAre gb.toList ms):Meets (Builtin.«tuple.__lt__» ⟨[.ref l,.ref b],[]⟩)
   (λ _ R s=>s.heap.get? l=some {cls:=.type "tuple",dict:=dd,data:=.seq al n,slots:=sl}/\s.heap.get? b=some {cls:=.type "tuple",dict:=Rw,data:=.seq gb n2,slots:=Ri}/\
    R (.ok (.ret (.bool (lexLt ns ms)))) s):=
 .of_wp λ prog w A R s h=>by
  obtain⟨hp,g,d,tk,os⟩:=s;obtain⟨hl,hb,h⟩:=h;have f2:=AutoSeq1.sub_tuple_tuple;have z1:al.size=ns.length:=by rw[<- hi.length];simp
  have z2:gb.size=ms.length:=by rw[<- hj.length];simp
  wp_walk using B5 hl,B5 hb,wpAny_forIn_list _ (λ rest b s'=>b.1=none/\s'=⟨hp,g,d,tk,os⟩/\∃(vs ws:List jp) (Kt Rk:List Int),rest=vs.zip ws/\
   IntsAre vs Kt/\IntsAre ws Rk/\Kt.length+gb.size=Rk.length+al.size/\R (.ok (.ret (.bool (lexLt Kt Rk)))) ⟨hp,g,d,tk,os⟩) _
  case turn=>
   rintro⟨y,x⟩ rest b s' ⟨HS,rfl,vs,ws,Kt,Rk,hz,X5,V2,hlen,hR⟩;cases X5 with
   |nil=>rw[zip_nil_left]at hz;cases hz
   |cons a t X4=>
    cases V2 with
    |nil=>rw[zip_nil_right]at hz;cases hz
    |cons c u X3=>
     rw[zip_cons_cons]at hz;injection hz with hyx TL
     injection hyx with hy hx
     subst hy hx;rw[cK]at hR;simp only[A3]at hlen;obtain⟨e,he,Ug⟩:=GS A.in1 ⟨hp,g,d,tk,os⟩ a t c u;refine K5 (he prog w _ _ ?_);cases e with
     |true=>
      rw[N3 (Ug.mp rfl)]at hR
      wp_walk
      exact⟨rfl,rfl,_,_,_,_,TL,X4,X3,by omega,hR⟩
     |false=>
      rw[N4 (λ q=>absurd (Ug.mpr q) p9)]at hR;have hri:=oC A.in1 ⟨hp,g,d,tk,os⟩ a t c u prog w
      wp_walk using hri
      exact⟨_,rfl,by simpa using hR⟩
  case fin=>
   rintro⟨b1,b2⟩ s' ⟨HS,rfl,vs,ws,Kt,Rk,hz,X5,V2,hlen,hR⟩;simp only at HS;subst HS;have hv:lexLt Kt Rk=decide (al.size < gb.size):=by
    cases X5 with
    |nil=>
     cases V2 with
     |nil=>simp only[length_nil]at hlen;rw[d_];exact(B4 (by omega)).symm
     |cons c u hw=>simp only[length_nil,A3]at hlen;rw[dB];exact(D1 (by omega)).symm
    |cons a t hv=>
     cases V2 with
     |nil=>simp only[length_nil,A3]at hlen;rw[dC];exact(B4 (by omega)).symm
     |cons c u hw=>rw[zip_cons_cons]at hz;cases hz
   rw[hv]at hR
   wp_walk
   exact⟨_,rfl,by simpa[Builtin.Tuple.tupleCompareSizes]using hR⟩
  case h=>
   exact⟨rfl,rfl,al.toList,gb.toList,ns,ms,rfl,hi,hj,by omega,h⟩
end
theorem yp{l b:ww}{al gb:Array jp}{ms:List Int}(hl:IsTup s.heap l al)(hb:IsTup s.heap b gb)(hi:IntsAre al.toList ns)(hj:IntsAre gb.toList ms) (hu:A.units < cLine) (h:Q (.bool (lexLt ns ms)) s):wpAny (model prog w) A (compareOp .Lt (.ref l) (.ref b)) Q E s:=by
 obtain⟨⟨cls,dd,data,sl⟩,ho,hc,n,hd⟩:=id hl;obtain⟨⟨YN,Rw,data2,Ri⟩,Qh,Uq,n2,hd2⟩:=id hb;simp only at hc hd Uq hd2;subst hc hd Uq hd2;exact richCompare_meets_room (op:=.Lt) ⟨_,ho,rfl⟩ ⟨_,Qh,rfl⟩ PySem.F.slot_tuple_lt PySem.F.entry_tuple_lt (PySem.F.args_tuple_lt_2 _ _) (qk l b al gb n n2 dd Rw sl Ri ns ms hi hj)
  ⟨ho,Qh,show Value.bool (lexLt ns ms)≠Value.notImplemented/\Q (.bool (lexLt ns ms)) s from⟨(λ x=>nomatch x),h⟩⟩ hu
theorem LP{t b:ww}{vs ws:List jp}(ht:IsTup s.heap t vs.toArray)(hb:IsTup s.heap b ws.toArray)(hv:vs≠[]) (h1:ws=[]->Q (.ref t) s) (h2:ws≠[]->Q (.ref s.heap.objs.size) {s with heap:=s.heap.push {cls:=.type "tuple",data:=.seq (vs++ws).toArray}}) (hsz:vs.length+ws.length<=sizeLine):wpAny (model prog w) A (binaryOp .Add (.ref t) (.ref b)) Q E s:=by
 obtain⟨⟨cls,dd,data,sl⟩,ho,hc,n,hd⟩:=id ht;obtain⟨⟨YN,Rw,data2,Ri⟩,Qh,Uq,n2,hd2⟩:=id hb;simp only at hc hd Uq hd2;subst hc hd Uq hd2;have e:vs.toArray++ws.toArray=(vs++ws).toArray:=by simp
 by_cases hw:ws=[]
 ·exact concat_meets ⟨_,ho,rfl⟩ ⟨_,Qh,rfl⟩ noFill_tuple_add seq_tuple_add PySem.F.slot_tuple_add PySem.F.entry_tuple_add (PySem.F.args_tuple_add_2 _ _)
   (tuple_addW1 t b vs.toArray ws.toArray n n2 dd Rw sl Ri (by simpa using hv) (by simp[hw])) ⟨ho,Qh,h1 hw⟩
 ·refine concat_meets ⟨_,ho,rfl⟩ ⟨_,Qh,rfl⟩ noFill_tuple_add seq_tuple_add PySem.F.slot_tuple_add PySem.F.entry_tuple_add (PySem.F.args_tuple_add_2 _ _)
   (tuple_addW2 t b vs.toArray ws.toArray n n2 dd Rw sl Ri (by simpa using hv) (by simpa using hw) (by rw[y9,y9];exact hsz)) ⟨ho,Qh,?_⟩
  rw[e];exact h2 hw
def bS(n d:Nat):Option Int->Nat
 |none=>d
 |some v=>if v < 0 then(v+(n:Int)).toNat else min v.toNat n
theorem mT(n d k:Nat):bS n d (some (k:Int))=min k n:=by show(if(k:Int) < 0 then((k:Int)+(n:Int)).toNat else min (k:Int).toNat n)=min k n;rw[N4 (by omega),x9]
theorem xO(n d:Nat)(hd:d<=n)(o:Option Int):bS n d o<=n:=by
 cases o with
 |none=>exact hd
 |some v=>
  show(if v < 0 then(v+(n:Int)).toNat else min v.toNat n)<=n;by_cases hv:v < 0
  ·rw[N3 hv];omega
  ·rw[N4 hv];exact Nat.min_le_right _ _
theorem AB(v:Int)(n d:Nat):(if v < 0 then max (v+(n:Int)) 0 else min v (n:Int))=((bS n d (some v):Nat):Int):=by
 show(if v < 0 then max (v+(n:Int)) 0 else min v (n:Int))=(((if v < 0 then(v+(n:Int)).toNat else min v.toNat n):Nat):Int);by_cases hv:v < 0
 ·simp only[N3 hv];omega
 ·simp only[N4 hv];omega
theorem yS(lo hi:Option Int)(n:Nat):Builtin.Slice.sliceAdjust lo hi 1 (n:Int)=(((bS n 0 lo:Nat):Int),((bS n n hi:Nat):Int)):=by
 have h1:¬((1:Int) < 0):=by omega
 unfold Builtin.Slice.sliceAdjust;simp only[h1,L7];refine Prod.ext ?_ ?_
 ·cases lo with
  |none=>rfl
  |some v=>exact AB v n 0
 ·cases hi with
  |none=>rfl
  |some v=>exact AB v n n
theorem xX(i j:Nat):Builtin.Slice.slicePlaces (i:Int) (j:Int) 1=j - i:=by
 unfold Builtin.Slice.slicePlaces;have h1:(1:Int) > 0:=by omega
 simp only[h1,N0,Int.ediv_one];split <;> omega
theorem om{v:jp}{o:Option Int}{Q:Option Int->kt->Prop}(p:IsPart v o)(h:Q o s):wpAny (model prog w) A (Builtin.Slice.slicePartIndex v) Q E s:=by
 cases p with
 |none=>exact slicePart_none h
 |int i t=>exact slicePart_int h
theorem gu{sl:ww}{vl vu:jp}{lo hi:Option Int}{Q:Int×Int×Nat->kt->Prop}(hs:s.heap.IsSliceOf sl vl vu .none)(pl:IsPart vl lo)(pu:IsPart vu hi) (h:Q (((bS n 0 lo:Nat):Int),1,bS n n hi - bS n 0 lo) s):wpAny (model prog w) A (Builtin.Slice.sliceApplied (.ref sl) (pure (n:Int))) Q E s:=by obtain⟨os,iY,V9,Ln⟩:=id hs;unfold Builtin.Slice.sliceApplied Builtin.Slice.sliceFields;refine K5 (K5 (K4 iY Ln (x:=vl) rfl (K5 (K4 iY Ln (x:=vu) rfl (K5 (K4 iY Ln (x:=.none) rfl (K6 ?_)))))));refine K5 (slicePart_none ?_);show wpAny _ _ (if((1:Int)==0)=true then _ else _) _ _ s;rw[N4 (by decide)];refine K5 (om pl (K5 (om pu (K5 (K6 ?_)))));show wpAny _ _ (match Builtin.Slice.sliceAdjust lo hi 1 (n:Int)with|(lo,hi)=>pure (lo,(1:Int),Builtin.Slice.slicePlaces lo hi 1)) _ _ s;rw[yS lo hi n];show wpAny _ _ (pure (((bS n 0 lo:Nat):Int),(1:Int),Builtin.Slice.slicePlaces ((bS n 0 lo:Nat):Int) ((bS n n hi:Nat):Int) 1)) _ _ s;rw[xX];exact K6 h
theorem EK(xs:Array jp)(i k:Nat):((List.range k).filterMap λ(m:Nat)=>xs[((i:Int)+(m:Int)*1).toNat]?).toArray=((xs.toList.drop i).take k).toArray:=by
 have e:(λ(m:Nat)=>xs[((i:Int)+(m:Int)*1).toNat]?)=λ m=>xs[i+m]?:=by
  funext m;have:((i:Int)+(m:Int)*1).toNat=i+m:=by omega
  rw[this]
 rw[e];have:=pick_run xs i k;rw[filterMap_map]at this;have e2:((λ x=>xs[x]?)∘λ x=>i+x)=λ m=>xs[i+m]?:=rfl;rw[e2]at this;rw[this]
theorem j'{t sl:ww}{al:Array jp}{vl vu:jp}{lo hi:Option Int}(ht:IsTup s.heap t al)(hs:s.heap.IsSliceOf sl vl vu .none)(pl:IsPart vl lo)(pu:IsPart vu hi) (hw:¬(bS al.size 0 lo=0/\bS al.size al.size hi=al.size)) (h:Q (.ref s.heap.objs.size) {s with heap:=s.heap.push {cls:=.type "tuple",data:=.seq ((al.toList.drop (bS al.size 0 lo)).take (bS al.size al.size hi - bS al.size 0 lo)).toArray}}) (hsz:al.size<=sizeLine):wpAny (model prog w) A (getItem (.ref t) (.ref sl)) Q E s:=by
 have Ah:sizeOk (.seq ((al.toList.drop (bS al.size 0 lo)).take (bS al.size al.size hi - bS al.size 0 lo)).toArray):=by show((al.toList.drop (bS al.size 0 lo)).take (bS al.size al.size hi - bS al.size 0 lo)).toArray.size<=sizeLine;rw[y9,A8,A4,n6];omega
 have hj:bS al.size al.size hi<=al.size:=xO _ _ (K1 _) hi;obtain⟨os,iY,V9,Ln⟩:=id hs;have Yq:s.TypeIs (.ref sl) "slice":=⟨os,iY,V9⟩;unfold getItem
 try with_reducible refine D6 ?_
 first|refine K5 (K6 ?_)|skip
 refine K5 (wpAny_sequenceKey ht.typeIs (by decide) ?_);refine K5 (j2 (name:=Str.ofString "__getitem__") ht.typeIs a8
  (A6 a8 ht.typeIs entry_tuple_getitem ?_ (args_tuple_getitem _ _)))
 show wpAny _ _ (Builtin.Tuple.tupleItemsOf (.ref t) >>= _) _ _ s;refine K5 (tupleItemsOf_ ht ?_);refine K5 (J7 Yq ?_);rw[N3 (by decide)];refine K5 (gu hs pl pu ?_);have hno:¬((((bS al.size 0 lo:Nat):Int)==0&&(1:Int)==1&&(bS al.size al.size hi - bS al.size 0 lo)==al.size)=true):=by intro q;rw[A7,A7]at q;have q1:((bS al.size 0 lo:Nat):Int)=0:=eq_of_beq q.1.1;have q2:bS al.size al.size hi - bS al.size 0 lo=al.size:=eq_of_beq q.2;exact hw ⟨by omega,by omega⟩
 show wpAny _ _ (if(((bS al.size 0 lo:Nat):Int)==0&&(1:Int)==1&&(bS al.size al.size hi - bS al.size 0 lo)==al.size)=true then _ else _) _ _ s;rw[N4 hno,EK]
 first
  |exact K5 (m:=Builtin.Tuple.tupleExact _) (y0 (K6 ⟨_,rfl,K6 h⟩) Ah)
  |exact K5 (m:=Builtin.Tuple.tupleExact _) (y0 (K5 (K6 (K6 ⟨_,rfl,K6 h⟩))) Ah)
  |exact K5 (K5 (m:=Builtin.Tuple.tupleExact _) (y0 (K6 (K6 ⟨_,rfl,K6 h⟩)) Ah))
  |exact K5 (K5 (m:=Builtin.Tuple.tupleExact _) (y0 (K6 ⟨_,rfl,K6 h⟩) Ah))
end HT
namespace L2
open PySem.Spec PyProof.Rows
abbrev TO:=St->Hp->(Option Int->Hp->Prop)->Prop
def PO(X:Cx)(e:Option Expr)(t:TO):Prop:=
 ∀(xz:List (ww×Obj)) (s:kt) (σ:St) (H:Hp) (Q:Option Int->Hp->Prop),be X xz σ H s->t σ H Q->
  wpAny (model X.prog X.w) X.A (evalPart e X.env) (λ u s'=>∃o H',be X xz σ H' s'/\IsPart u o/\Q o H') X.xe s
def IB:TO:=λ _ H Q=>Q none H
def RS(t:TE):TO:=λ σ H Q=>t σ H λ x H1=>∃i,x=.int i/\Q (some i) H1
theorem intsAre_of:∀{us:List jp},cr (ns.map V.int) us->IntsAre us ns:=by
 induction ns with
 |nil=>intro us r;rw[map_nil]at r;cases r;exact .nil
 |cons n ns ih=>
  intro us r;rw[F9]at r;cases r with
  |cons r1 r2=>obtain⟨t,e⟩:=r1;subst e;exact .cons n t (ih r2)
section
variable {te:TE}{lo hi:Option Expr}{tl th:TO}
theorem JV:PO X none IB:=by intro xz s σ H Q I h;rw[evalPart_none];exact K6 ⟨none,H,I,.none,h⟩
theorem JU(h:PE X e te):PO X (some e) (RS te):=by intro xz s σ H Q I hw;rw[evalPart_some];refine cm (h xz s σ H _ I hw) λ u s1 ⟨x,H1,I1,r1,q1⟩=>?_;obtain⟨i,rfl,q⟩:=q1;obtain⟨t,rfl⟩:=r1;exact⟨some i,H1,I1,.int i t,q⟩
def AM(X:Cx)(r:V->Option Int->Option Int->Hp->VK->Prop):Prop:=
 ∀(xz:List (ww×Obj)) (s:kt) (σ:St) (H:Hp) (x:V) (v vl vu:jp) (lo hi:Option Int) (sl:ww) (Q:VK),be X xz σ H s->bv x v->s.heap.IsSliceOf sl vl vu .none->IsPart vl lo->IsPart vu hi->r x lo hi H Q->
  ∃T id,typeLookup (.type T) "__getitem__"=pure (some (.builtin id))/\s.TypeIs v T/\wpAny (model X.prog X.w) X.A (getItem v (.ref sl)) (EP X xz σ Q) X.xe s
theorem AM.or{r r':V->Option Int->Option Int->Hp->VK->Prop}(h:AM X r)(h':AM X r'):AM X (λ x lo hi H Q=>r x lo hi H Q\/r' x lo hi H Q):=by
 intro xz s σ H x v vl vu lo hi sl Q I rx hs pl pu q;rcases q with q|q
 ·exact h xz s σ H x v vl vu lo hi sl Q I rx hs pl pu q
 ·exact h' xz s σ H x v vl vu lo hi sl Q I rx hs pl pu q
def tSl(r:V->Option Int->Option Int->Hp->VK->Prop)(te:TE)(tl th:TO):TE:=λ σ H Q=>te σ H λ x H1=>tl σ H1 λ l H2=>th σ H2 λ u H3=>r x l u H3 Q
theorem ES{r:V->Option Int->Option Int->Hp->VK->Prop}(hr:AM X r)(he:PE X e te)(hl:PO X lo tl)(hu:PO X hi th):PE X (.Subscript e (.Slice lo hi none p2) pos) (tSl r te tl th):=by intro xz s σ H Q I h;refine Subscript_ (cm (he xz s σ H _ I h) λ v s1 ⟨x,H1,I1,r1,q1⟩=>?_);refine wpAny_Slice (cm (hl xz s1 σ H1 _ I1 q1) λ vl s2 ⟨l,H2,I2,pl,q2⟩=>cm (hu xz s2 σ H2 _ I2 q2) λ vu s3 ⟨u,H3,I3,pu,q3⟩=>?_);rw[evalPart_none];refine K6 ?_;have I4:be X xz σ H3 {s3 with heap:=s3.heap.push {cls:=.type "slice",data:=.fields #[vl,vu,.none]}}:=I3.kept (t':=s3.toks) λ b ob q=>j7 _ q;obtain⟨T,id,hT,ht,hg⟩:=hr xz {s3 with heap:=s3.heap.push {cls:=.type "slice",data:=.fields #[vl,vu,.none]}} σ H3 x v vl vu l u s3.heap.objs.size Q I4 r1 (Heap.IsSliceOf.new ..) pl pu q3;show wpAny (model X.prog X.w) X.A (subscriptTail e (.Slice lo hi none p2) v (.ref s3.heap.objs.size)) (EP X xz σ Q) X.xe {s3 with heap:=s3.heap.push {cls:=.type "slice",data:=.fields #[vl,vu,.none]}};exact tail_any (ops:=[.ref s3.heap.objs.size,v]) ht hT hg (by with_unfolding_all rfl)
def wB(xs:List V)(lo hi:Option Int):List V:=(xs.drop (HT.bS xs.length 0 lo)).take (HT.bS xs.length xs.length hi - HT.bS xs.length 0 lo)
theorem mj(xs:List V)(lo hi:Option Int):(wB xs lo hi).length<=xs.length:=by unfold wB;rw[A8,A4];omega
def So(K:N5):V->Option Int->Option Int->Hp->VK->Prop:=λ x lo hi H Q=>∃a xs,x=.ref a/\gh K H a xs/\
 ¬(HT.bS xs.length 0 lo=0/\HT.bS xs.length xs.length hi=xs.length)/\∀p,H p=none->Q (.ref p) (dl H p (.tup (wB xs lo hi)))
theorem NF:AM X (So X.K):=by
 intro xz s σ H x v vl vu lo hi sl Q I rx hs pl pu h;obtain⟨a,xs,rfl,hx,hw,q⟩:=h;cases rx;obtain⟨ay,r,ht,hz⟩:=I.tuple hx;have hlen:ay.toArray.size=xs.length:=by rw[y9];exact r.length.symm
 refine⟨"tuple",_,a8.lookup,ht.typeIs,?_⟩;refine HT.j' ht hs pl pu (by rw[hlen];exact hw) ?_ (by rw[hlen];exact hz);rw[hlen];refine⟨.ref s.heap.objs.size,_,I.laid (t':=s.toks) (o:=.tup (wB xs lo hi)) (λ b ob q=>j7 _ q) (K1 _) ?_,rfl,q _ (I.bj.fresh (K1 _))⟩;exact⟨H9 (mj xs lo hi) hz,_,(r.drop (HT.bS xs.length 0 lo)).take (HT.bS xs.length xs.length hi - HT.bS xs.length 0 lo),IsTup.new _ _⟩
def SG(K:N5):R2:=λ x y H Q=>∃a b xs ys,x=.ref a/\y=.ref b/\gh K H a xs/\gh K H b ys/\xs≠[]/\xs.length+ys.length<=sizeLine/\
 (ys=[]->Q (.ref a) H)/\(ys≠[]->∀p,H p=none->Q (.ref p) (dl H p (.tup (xs++ys))))
theorem cr.tI(r:cr xs us):us=[]↔xs=[]:=by
 cases r with
 |nil=>simp
 |cons _ _=>simp
theorem Kf:fG X (binaryOp .Add) (SG X.K):=by intro xz s σ H x y v u Q I rx ry h;obtain⟨a,b,xs,ys,rfl,rfl,ha,hb,hx,hz,q1,q2⟩:=h;cases rx;cases ry;obtain⟨ay,r1,p1,_⟩:=I.tuple ha;obtain⟨P_,r2,p2,_⟩:=I.tuple hb;refine HT.LP p1 p2 (λ z=>hx (r1.tI.mp z)) (λ z=>⟨.ref a,H,I,rfl,q1 (r2.tI.mp z)⟩) (λ z=>?_) (by rw[<- r1.length,<- r2.length];exact hz);refine⟨.ref s.heap.objs.size,_,I.laid (t':=s.toks) (o:=.tup (xs++ys)) (λ b ob q=>j7 _ q) (K1 _) ?_,rfl,q2 (λ w=>z (r2.tI.mpr w)) _ (I.bj.fresh (K1 _))⟩;exact⟨by rw[q8];exact hz,_,r1.append r2,IsTup.new _ _⟩
end
def tO(n:Nat)(i:Int):Option Nat:=if 0<=i then(if i < n then some i.toNat else none)else if -(n:Int)<=i then some (i+n).toNat else none
def fE{α:Type}(xs:List α)(i:Int):Option α:=(tO xs.length i).bind λ j=>xs[j]?
theorem Aa{i:Int}(h:tO n i=some j):seqIndex? i n=some j/\j < n/\-(n:Int)<=i/\i < n:=by
 unfold tO at h;by_cases h0:0<=i
 ·rw[N3 h0]at h;by_cases h1:i < n
  ·rw[N3 h1]at h;have e:i.toNat=j:=B7 h;exact⟨by rw[seqIndex_of h0 h1,e],by omega,by omega,h1⟩
  ·rw[N4 h1]at h;cases h
 ·rw[N4 h0]at h;by_cases h1: -(n:Int)<=i
  ·rw[N3 h1]at h;have e:(i+n).toNat=j:=B7 h;exact⟨by rw[seqIndex_neg (by omega) h1,e],by omega,h1,by omega⟩
  ·rw[N4 h1]at h;cases h
theorem ux{xs:List α}{i:Int}{v:α}(h:fE xs i=some v):∃j,seqIndex? i xs.length=some j/\xs[j]?=some v/\j < xs.length/\-(xs.length:Int)<=i/\i < xs.length:=by
 unfold fE at h;cases e:tO xs.length i with
 |none=>rw[e]at h;cases h
 |some j=>rw[e]at h;obtain⟨h1,h2,h3,h4⟩:=Aa e;exact⟨j,h1,h,h2,h3,h4⟩
theorem cH{xs:List α}{v:α}(h:xs[j]?=some v):fE xs (j:Int)=some v:=by
 have hj:j < xs.length:=(i5.mp h).1;have e:tO xs.length (j:Int)=some j:=by unfold tO;rw[N3 (by omega),N3 (by omega)];simp
 unfold fE;rw[e];exact h
theorem wQ(xs:List α)(v:α):fE (xs++[v]) (-1)=some v:=by
 have hl:(xs++[v]).length=xs.length+1:=by simp
 have e:tO (xs++[v]).length (-1)=some xs.length:=by unfold tO;rw[hl,N4 (by decide),N3 (by omega)];congr 1;omega
 unfold fE;rw[e];show(xs++[v])[xs.length]?=some v;simp
def uC(b:Expr):Prop:=∀o i,subscripted b false o i=operate [o,i] (getItem o i)
def yW(X:Cx)(r:R2):Prop:=
 ∀(value slice:Expr) (xz:List (ww×Obj)) (s:kt) (σ:St) (H:Hp) (x y:V) (v u:jp) (Q:VK),be X xz σ H s->bv x v->bv y u->r x y H Q->
  subscripted slice false v u=operate [v,u] (getItem v u)->wpAny (model X.prog X.w) X.A (subscriptTail value slice v u) (EP X xz σ Q) X.xe s
def RB(X:Cx)(id:String)(r:V->List V->Hp->VK->Prop):Prop:=
 ∀(xz:List (ww×Obj)) (s:kt) (σ:St) (H:Hp) (x:V) (xs:List V) (v:jp) (us:List jp) (Q:VK),be X xz σ H s->bv x v->cr xs us->r x xs H Q->
  wpAny (model X.prog X.w) X.A (call (.builtin id) (v::us)) (EP X xz σ Q) X.xe s
section
variable {a b:Expr}{ta tb:TE}
theorem yW.or{r r':R2}(h:yW X r)(h':yW X r'):yW X (λ x y H Q=>r x y H Q\/r' x y H Q):=by
 intro value slice xz s σ H x y v u Q I rx ry q hs;rcases q with q|q
 ·exact h value slice xz s σ H x y v u Q I rx ry q hs
 ·exact h' value slice xz s σ H x y v u Q I rx ry q hs
theorem zI{r:R2}(hr:yW X r)(ha:PE X a ta)(hb:PE X b tb)(hs:uC b):PE X (.Subscript a b pos) (RT r ta tb):=by intro xz s σ H Q I h;exact Subscript_ (Q5 ha hb I h λ v u s2 x y H2 I2 rx ry q=>hr a b xz s2 σ H2 x y v u Q I2 rx ry q (hs _ _))
def Sx(K:N5):R2:=λ x y H Q=>∃p xs i v,x=.ref p/\y=.int i/\dr K H p xs/\fE xs i=some v/\Q v H
def Sv(K:N5):R2:=λ x y H Q=>∃p xs i v,x=.ref p/\y=.int i/\gh K H p xs/\fE xs i=some v/\Q v H
def Sw:R2:=λ x y H Q=>∃z i c,x=.str z/\y=.int i/\z.length<=sizeLine/\fE z.cps.toList i=some c/\Q (.str ⟨#[c]⟩) H
theorem KY:yW X (Sx X.K):=by
 intro value slice xz s σ H x y v u Q I rx ry h hs;obtain⟨p,xs,i,z,rfl,rfl,hq,he,q⟩:=h;cases rx;obtain⟨t,rfl⟩:=ry;obtain⟨ay,r,pl,hz⟩:=I.list hq;obtain⟨j,h1,h2,h3,h4,h5⟩:=ux he;obtain⟨w,ew,sS⟩:=r.get h2;have hl:=r.length;have hn:=js;have fin:EP X xz σ Q w s:=⟨z,H,I,sS,q⟩;by_cases h0:0<=i
 ·have hj:i.toNat=j:=by rw[seqIndex_of h0 h5]at h1;exact B7 h1
  exact item_listR pl.isList h0 (by omega) (by rw[hj];simpa using ew) fin hs
 ·have hj:(i+(ay.toArray.size:Int)).toNat=j:=by rw[seqIndex_neg (by omega) h4]at h1;rw[y9,<- hl];exact B7 h1
  exact subscriptTail_builtinR (x:=w) pl.isList.typeIs slot_list_getitem.lookup
   (wpAny_getItem_list_neg (Q:=λ r s'=>r=w/\EP X xz σ Q r s') pl.isList (by omega) (by rw[y9] <;> omega) (by omega) (by rw[hj];simpa using ew) ⟨rfl,fin⟩) hs
theorem PX:yW X (Sv X.K):=by
 intro value slice xz s σ H x y v u Q I rx ry h hs;obtain⟨p,xs,i,z,rfl,rfl,hq,he,q⟩:=h;cases rx;obtain⟨t,rfl⟩:=ry;obtain⟨ay,r,pl,hz⟩:=I.tuple hq;obtain⟨j,h1,h2,h3,h4,h5⟩:=ux he;obtain⟨w,ew,sS⟩:=r.get h2;have hl:=r.length;have hn:=js;have fin:EP X xz σ Q w s:=⟨z,H,I,sS,q⟩;exact subscriptTail_builtinR (x:=w) pl.typeIs slot_tuple_getitem.lookup
  (getItem_tuple (j:=j) (Q:=λ r s'=>r=w/\EP X xz σ Q r s') pl (by omega) (by omega) (by rw[y9,<- hl];exact h1) (by simpa using ew) ⟨rfl,fin⟩) hs
theorem PY:yW X Sw:=by
 intro value slice xz s σ H x y v u Q I rx ry h hs;obtain⟨z,i,c,rfl,rfl,hz,he,q⟩:=h;obtain⟨t,rfl⟩:=rx;obtain⟨t',rfl⟩:=ry;obtain⟨j,h1,h2,h3,h4,h5⟩:=ux he;have hl:z.cps.toList.length=z.length:=by simp[Str.length]
 rw[hl]at h1 h4 h5;have hn:=js;exact tail_any (typeIs_str s z t) slot_str_getitem.lookup (getItem_str (c:=c) (by
  have e1:decide (i < -(2^63:Int))=false:=B4 (by omega);have e2:decide (i ≥ 2^63)=false:=B4 (by omega);rw[e1,e2,Bool.or_false]) (by rw[h1];simpa using h2) ⟨.str ⟨#[c]⟩,H,I.tok _,⟨_,rfl⟩,q⟩) hs
def rIx(K:N5):R2:=λ x y H Q=>Sx K x y H Q\/Sv K x y H Q\/Sw x y H Q
theorem PZ:yW X (rIx X.K):=KY.or (PX.or PY)
theorem yk(ay:List jp)(n j:Nat)(u:jp):Obj.mapSeq (·.setIfInBounds j u) {cls:=.type "list",data:=.seq ay.toArray n}={cls:=.type "list",data:=.seq (ay.set j u).toArray n}:=by simp[Obj.mapSeq]
theorem be.lst {xz:List (ww×Obj)}{σ:St}{H:Hp}{s:kt}{p:ww}{xs:List V}(I:be X xz σ H s)(h:H p=some (.lst xs)):∃(ay:List jp) (n:Nat),cr xs ay/\s.heap.get? p=some {cls:=.type "list",data:=.seq ay.toArray n}/\xs.length<=sizeLine:=by obtain⟨z,ay,n,r,e⟩:=I.bj p _ h;exact⟨ay,n,r,e,z⟩
theorem be.PC{ys:List V}{its':List jp}{n':Nat}{f:Obj->Obj}(I:be X xz σ H s)(h:H p=some (.lst xs)) (ho:s.heap.get? p=some {cls:=.type "list",data:=.seq ay.toArray n}) (hf:f {cls:=.type "list",data:=.seq ay.toArray n}={cls:=.type "list",data:=.seq its'.toArray n'}) (r:cr ys its') (hz:ys.length<=sizeLine) (t:Nat):be X xz σ (dl H p (.lst ys)) {s with heap:=s.heap.update p f,toks:=t}:=by
 have e:(s.heap.update p f).get? p=some {cls:=.type "list",data:=.seq its'.toArray n'}:=by rw[k4 f ho (by rw[hf] <;> rfl),hf]
 refine I.write (x:=p) (e:=p) (by rw[h];trivial) (.inl rfl) (λ b u hb q=>(j8 _ _ (L9 hb)).trans q) ⟨_,e⟩ ?_;exact⟨hz,its',n',r,e⟩
def Ss:V->V->V->Hp->(Hp->Prop)->Prop:=λ o i v H Q=>∃p xs k j,o=.ref p/\i=.int k/\H p=some (.lst xs)/\tO xs.length k=some j/\Q (dl H p (.lst (xs.set j v)))
theorem set_list:qD X Ss:=by
 intro xz s σ H o i v ov iv u Q I ro ri rv h;obtain⟨p,xs,k,j,rfl,rfl,hp,hj,q⟩:=h;cases ro;obtain⟨t,rfl⟩:=ri;obtain⟨ay,n,r,ho,hz⟩:=I.lst hp;obtain⟨h1,h2,h3,h4⟩:=Aa hj;have hl:=r.length;have hn:=js;have I':be X xz σ (dl H p (.lst (xs.set j v))) {s with heap:=s.heap.update p (Obj.mapSeq (·.setIfInBounds j u))}:=
  I.PC hp ho (yk ay n j u) (r.set rv j) (by rw[C7];exact hz) s.toks
 by_cases h0:0<=k
 ·have hk:k.toNat=j:=by rw[seqIndex_of h0 h4]at h1;exact B7 h1
  exact PySem.W.ki_setAt ho h0 (by omega) (by rw[y9,<- hl];exact h4) (by rw[hk];exact⟨_,I',q⟩)
 ·have hk:(k+(ay.toArray.size:Int)).toNat=j:=by rw[seqIndex_neg (by omega) h3]at h1;rw[y9,<- hl];exact B7 h1
  exact PySem.W.ki_setBack ho (by omega) (by rw[y9,<- hl];exact h3) (by omega) (by rw[hk];exact⟨_,I',q⟩)
theorem jO(lo hi:Option Int)(n:Nat):(sliceBounds lo hi none n).1=((HT.bS n 0 lo:Nat):Int)/\(sliceBounds lo hi none n).2.1=((HT.bS n n hi:Nat):Int)/\(sliceBounds lo hi none n).2.2=1:=by
 refine⟨?_,?_,rfl⟩
 ·cases lo with
  |none=>simp[sliceBounds,HT.bS]
  |some i=>
   simp only[sliceBounds,HT.bS,Option.getD_none,show(1:Int) > 0 by decide,N0];by_cases h:i < 0
   ·simp only[h,N0] <;> omega
   ·simp only[h,L7] <;> omega
 ·cases hi with
  |none=>simp[sliceBounds,HT.bS]
  |some i=>
   simp only[sliceBounds,HT.bS,Option.getD_none,show(1:Int) > 0 by decide,N0];by_cases h:i < 0
   ·simp only[h,N0] <;> omega
   ·simp only[h,L7] <;> omega
theorem ql(ay:List jp)(lo hi:Option Int):slicePick ay.toArray lo hi none=((ay.drop (HT.bS ay.length 0 lo)).take (HT.bS ay.length ay.length hi - HT.bS ay.length 0 lo)).toArray:=by obtain⟨h1,h2,h3⟩:=jO lo hi ay.toArray.size;unfold slicePick;rw[h1,h2,h3];simp only[sliceRange_one,pick_run,y9] <;> rfl
def Sr(K:N5):V->Option Int->Option Int->Hp->VK->Prop:=λ x lo hi H Q=>∃a xs,x=.ref a/\dr K H a xs/\∀p,H p=none->Q (.ref p) (dl H p (.lst (wB xs lo hi)))
theorem IL:AM X (Sr X.K):=by intro xz s σ H x v vl vu lo hi sl Q I rx hs pl pu h;obtain⟨a,xs,rfl,hx,q⟩:=h;cases rx;obtain⟨ay,r,ht,hz⟩:=I.list hx;have hlen:=r.length;refine⟨"list",_,slot_list_getitem.lookup,ht.isList.typeIs,?_⟩;refine wpAny_getItem_list_slice ht.isList hs pl pu .none (by simp) ?_ (by rw[y9] <;> omega);rw[ql,<- hlen];refine⟨.ref s.heap.objs.size,_,I.laid (t':=s.toks) (o:=.lst (wB xs lo hi)) (λ b ob q=>j7 _ q) (K1 _) ?_,rfl,q _ (I.bj.fresh (K1 _))⟩;exact⟨H9 (mj xs lo hi) hz,_,0,(r.drop (HT.bS xs.length 0 lo)).take (HT.bS xs.length xs.length hi - HT.bS xs.length 0 lo),n9 _ rfl⟩
def hW:V->Bool
 | .bu=>true
 | .bl _=>true
 | .int _=>true
 | .str _=>true
 |_=>false
def MT:V->V->Bool
 | .bu,.bu=>true
 | .bl a,.bl b=>a==b
 | .bl a,.int b=>(if a then 1 else 0)==b
 | .int a,.bl b=>a==(if b then 1 else 0)
 | .int a,.int b=>a==b
 | .str a,.str b=>a==b
 |_,_=>false
theorem QC{x:V}{v:jp}(ry:bv y u)(rx:bv x v)(fy:hW y=true)(fx:hW x=true):SeqAt.EqAt A s u v (MT y x):=by
 cases y with
 |bu=>
  cases ry;cases x with
  |bu=>cases rx;exact SeqAt.EqAt.same _
  |bl b=>cases rx;exact SeqAt.EqAt.none_bool b
  |int b=>obtain⟨t,rfl⟩:=rx;exact SeqAt.EqAt.none_int b t
  |str b=>obtain⟨t,rfl⟩:=rx;exact SeqAt.EqAt.none_str b t
  |_=>exact absurd (show false=true from fx) p9
 |bl a=>
  cases ry;cases x with
  |bu=>cases rx;exact SeqAt.EqAt.bool_none a
  |bl b=>cases rx;exact SeqAt.EqAt.bool_bool a b
  |int b=>obtain⟨t,rfl⟩:=rx;exact SeqAt.EqAt.bool_int a b t
  |str b=>obtain⟨t,rfl⟩:=rx;exact SeqAt.EqAt.bool_str a b t
  |_=>exact absurd (show false=true from fx) p9
 |int a=>
  obtain⟨t',rfl⟩:=ry;cases x with
  |bu=>cases rx;exact SeqAt.EqAt.int_none a t'
  |bl b=>cases rx;exact SeqAt.EqAt.int_bool a t' b
  |int b=>obtain⟨t,rfl⟩:=rx;exact SeqAt.EqAt.int_int a t' b t
  |str b=>obtain⟨t,rfl⟩:=rx;exact SeqAt.EqAt.int_str a t' b t
  |_=>exact absurd (show false=true from fx) p9
 |str a=>
  obtain⟨t',rfl⟩:=ry;cases x with
  |bu=>cases rx;exact SeqAt.EqAt.str_none a t'
  |bl b=>cases rx;exact SeqAt.EqAt.str_bool a t' b
  |int b=>obtain⟨t,rfl⟩:=rx;exact SeqAt.EqAt.str_int a t' b t
  |str b=>obtain⟨t,rfl⟩:=rx;exact SeqAt.EqAt.str_str a t' b t
  |_=>exact absurd (show false=true from fx) p9
 |_=>exact absurd (show false=true from fy) p9
def LA(x:V)(u:jp):Bool:=match u with
 | .none=>MT .bu x
 | .bool b=>MT (.bl b) x
 | .int i _=>MT (.int i) x
 | .str z _=>MT (.str z) x
 |_=>false
theorem GR{x:V}(r:bv y u)(f:hW y=true):LA x u=MT y x:=by
 cases y with
 |bu=>cases r;rfl
 |bl b=>cases r;rfl
 |int i=>obtain⟨t,rfl⟩:=r;rfl
 |str z=>obtain⟨t,rfl⟩:=r;rfl
 |_=>exact absurd (show false=true from f) p9
theorem uA{x:V}:∀{xs:List V} {us:List jp},cr xs us->xs.all hW=true->us.any (LA x)=xs.any λ y=>MT y x
 |_,_,.nil,_=>rfl
 |y::xs,u::us,.cons r t,f=>by rw[all_cons,A7]at f;rw[any_cons,any_cons,GR r f.1,uA t f.2]
theorem oU{x:V}{v:jp}(rx:bv x v)(fx:hW x=true):∀{xs:List V} {us:List jp},cr xs us->xs.all hW=true->∀u∈us,SeqAt.EqAt A s u v (LA x u)
 |_,_,.nil,_=>λ u hu=>by cases hu
 |y::xs,u::us,.cons r t,f=>λ u' hu=>by
  rw[all_cons,A7]at f;rcases G0.mp hu with rfl|hu
  ·rw[GR r f.1];exact QC r rx f.1 fx
  ·exact oU rx fx t f.2 u' hu
def MG(x:V)(xs:List V):Bool:=xs.any λ y=>MT y x
def rIn(K:N5)(neg:Bool):R2:=λ x y H Q=>∃p xs,y=.ref p/\(dr K H p xs\/gh K H p xs)/\hW x=true/\xs.all hW=true/\Q (.bl (if neg then !MG x xs else MG x xs)) H
theorem BC:fG X (compareOp .In) (rIn X.K false):=by
 intro xz s σ H x y v u Q I rx ry h;obtain⟨p,xs,rfl,hq,fx,fs,q⟩:=h;cases ry;rcases hq with hq|hq
 ·obtain⟨ay,r,pl,hz⟩:=I.list hq;refine SeqAt.in_listAt (LA x) pl.isList (λ w hw=>oU rx fx r fs w (by simpa using hw)) ⟨.bl _,H,I,rfl,?_⟩;rw[show ay.toArray.any (LA x)=ay.any (LA x) by simp,uA r fs];exact q
 ·obtain⟨ay,r,pl,hz⟩:=I.tuple hq;refine SeqAt.in_tupleAt (LA x) pl (λ w hw=>oU rx fx r fs w (by simpa using hw)) ⟨.bl _,H,I,rfl,?_⟩;rw[show ay.toArray.any (LA x)=ay.any (LA x) by simp,uA r fs];exact q
theorem tf:fG X (compareOp .NotIn) (λ x y H Q=>∃i j,x=.str i/\y=.str j/\Q (.bl (!(!(Builtin.Str.occurrences j i 0 j.length 1).isEmpty))) H):=by intro xz s σ H x y v u Q I rx ry h;obtain⟨i,j,rfl,rfl,q⟩:=h;obtain⟨t,rfl⟩:=rx;obtain⟨t',rfl⟩:=ry;exact notIn_str ⟨.bl _,H,I,rfl,q⟩
theorem ur:cL X (.builtin "len") (λ xs H Q=>∃p ys,xs=[.ref p]/\(dr X.K H p ys\/gh X.K H p ys)/\Q (.int ys.length) H):=by
 intro xz s σ H xs us Q I r h;obtain⟨p,ys,rfl,hq,q⟩:=h;obtain⟨u,rfl,rx⟩:=vals1 r;cases rx;have hn:=js;rcases hq with hq|hq
 ·obtain⟨ay,r',pl,hz⟩:=I.list hq;have hlen:=r'.length;exact Calls.call_len_list pl.isList (by simp only[y9] <;> omega) ⟨.int ys.length,H,I.tok _,⟨s.toks+1,by rw[y9,hlen]⟩,q⟩
 ·obtain⟨ay,r',pl,hz⟩:=I.tuple hq;have hlen:=r'.length;exact len_tuple pl (by simp only[y9] <;> omega) ⟨.int ys.length,H,I.tok _,⟨s.toks+1,by rw[y9,hlen]⟩,q⟩
theorem uq:cL X (.builtin "len") (λ xs H Q=>∃z,xs=[.str z]/\z.length<=sizeLine/\Q (.int z.length) H):=by intro xz s σ H xs us Q I r h;obtain⟨z,rfl,hz,q⟩:=h;obtain⟨u,rfl,t,rfl⟩:=vals1 r;have hn:=js;exact len_str (by omega) ⟨.int z.length,H,I.tok _,⟨_,rfl⟩,q⟩
theorem cL.or{f:jp}{r':List V->Hp->VK->Prop}(h:cL X f r)(h':cL X f r'):cL X f (λ xs H Q=>r xs H Q\/r' xs H Q):=by
 intro xz s σ H xs us Q I rs q;rcases q with q|q
 ·exact h xz s σ H xs us Q I rs q
 ·exact h' xz s σ H xs us Q I rs q
theorem uo:cL X (.type "list") (λ xs H Q=>∃p ys,xs=[.ref p]/\(dr X.K H p ys\/gh X.K H p ys)/\∀l,H l=none->Q (.ref l) (dl H l (.lst ys))):=by
 intro xz s σ H xs us Q I r h;obtain⟨p,ys,rfl,hq,q⟩:=h;obtain⟨u,rfl,rx⟩:=vals1 r;cases rx;have fin:∀(ay:List jp),cr ys ay->ys.length<=sizeLine->∀(h':Heap) (c':Nat),(∀b o',s.heap.get? b=some o'->h'.get? b=some o')->
   h'.get? s.heap.objs.size=some {cls:=.type "list",dict:=none,data:=.seq ay.toArray c',slots:=#[]}->EP X xz σ Q (.ref s.heap.objs.size) {s with heap:=h'}:=λ ay r' hz h' c' kp e=>
  ⟨.ref s.heap.objs.size,_,I.laid (t':=s.toks) kp (K1 _) (show bD X.prog X.w _ h' _ (.lst ys)from⟨hz,ay,c',r',e⟩),rfl,q _ (I.bj.fresh (K1 _))⟩
 rcases hq with hq|hq
 ·obtain⟨ay,r',pl,hz⟩:=I.list hq;have hlen:=r'.length;obtain⟨o,ho,hc,n,hd⟩:=pl.isList;exact call_list_seq p (.inl rfl) ho hc hd (λ h' c' kp e=>fin ay r' hz h' c' kp e) (by simp only[y9] <;> omega)
 ·obtain⟨ay,r',pl,hz⟩:=I.tuple hq;have hlen:=r'.length;obtain⟨o,ho,hc,n,hd⟩:=pl;exact call_list_seq p (.inr rfl) ho hc hd (λ h' c' kp e=>fin ay r' hz h' c' kp e) (by simp only[y9] <;> omega)
theorem qA:cL X (.type "tuple") (λ xs H Q=>∃p ys,xs=[.ref p]/\((dr X.K H p ys/\∀l,H l=none->Q (.ref l) (dl H l (.tup ys)))\/(gh X.K H p ys/\Q (.ref p) H))):=by
 intro xz s σ H xs us Q I r h;obtain⟨p,ys,rfl,h⟩:=h;obtain⟨u,rfl,rx⟩:=vals1 r;cases rx;rcases h with⟨hq,q⟩|⟨hq,q⟩
 ·obtain⟨ay,r',pl,hz⟩:=I.list hq;have hlen:=r'.length;refine call_tuple_list pl.isList (λ h' kp=>?_) (by simp only[y9] <;> omega);have I1:be X xz σ H {s with heap:=h'}:=I.kept (t':=s.toks) kp;have I2:be X xz σ (dl H h'.objs.size (.tup ys)) {s with heap:=h'.push {cls:=.type "tuple",data:=.seq ay.toArray}}:=
   I1.laid (t':=s.toks) (λ b o e=>j7 _ e) (K1 _) (show bD X.prog X.w _ _ _ (.tup ys)from⟨hz,ay,r',IsTup.new _ _⟩)
  exact⟨.ref h'.objs.size,_,I2,rfl,q _ (I1.bj.fresh (K1 _))⟩
 ·obtain⟨ay,r',pl,hz⟩:=I.tuple hq;exact call_tuple_same pl ⟨.ref p,H,I,rfl,q⟩
def Wv(K:N5)(T:String)(x:V)(H:Hp):Prop:=match x with
 | .str _=>T="str"
 | .int _=>T="int"
 | .ref p=>(T="list"/\∃xs,dr K H p xs)\/(T="tuple"/\∃o,K.lookup p=some o/\o.cls=.type "tuple"/\o.dict=none)\/
   (T="dict"/\((∃aA,H p=some (.dK aA))\/∃aA,H p=some (.dT aA)))\/(T="set"/\∃S n,H p=some (.set S n))
 |_=>False
theorem Nr{x:V}{v:jp}(I:be X xz σ H s)(r:bv x v)(ty:Wv X.K T x H):s.TypeIs v T/\∀a,v=.ref a->∃ob,s.heap.get? a=some ob/\ob.dict=none:=by
 cases x with
 |str z=>obtain⟨t,rfl⟩:=r;cases(show T="str" from ty);exact⟨typeIs_str s z t,λ _ e=>nomatch e⟩
 |int i=>obtain⟨t,rfl⟩:=r;cases(show T="int" from ty);exact⟨typeIs_int s i t,λ _ e=>nomatch e⟩
 |ref p=>
  cases r;rcases ty with⟨rfl,xs,hq⟩|⟨rfl,o,hk,hc,hd⟩|⟨rfl,hk⟩|⟨rfl,S,n,hk⟩
  ·obtain⟨ay,_,pl,_⟩:=I.list hq;refine⟨pl.isList.typeIs,λ a e=>?_⟩;cases e;obtain⟨o,n,e,c,hd,_⟩:=pl;exact⟨o,e,hd⟩
  ·refine⟨⟨o,I.hV p o hk,hc⟩,λ a e=>?_⟩;cases e;exact⟨o,I.hV _ o hk,hd⟩
  ·have z:∃o,s.heap.get? p=some o/\o.ExactDict:=by
    rcases hk with⟨aA,hk⟩|⟨aA,hk⟩
    ·obtain⟨_,_,_,_,o,_,_,e,ex,_⟩:=I.bj p _ hk;exact⟨o,e,ex⟩
    ·obtain⟨_,_,_,_,o,_,_,e,ex,_⟩:=I.bj p _ hk;exact⟨o,e,ex⟩
   obtain⟨o,e,ex⟩:=z;refine⟨⟨o,e,ex.1⟩,λ a e2=>?_⟩;cases e2;exact⟨o,e,ex.2.1⟩
  ·obtain⟨o,_,_,_,e,ex,_⟩:=I.bj p _ hk;refine⟨⟨o,e,ex.1⟩,λ a e2=>?_⟩;cases e2;exact⟨o,e,ex.2.1⟩
 |_=>exact False.elim ty
def tBM(K:N5)(T:String)(r:V->List V->Hp->VK->Prop)(to:TE)(t:TA):TE:=λ σ H Q=>to σ H λ x H1=>Wv K T x H1/\t σ H1 λ xs H2=>r x xs H2 Q
variable {o:Expr}{to:TE}{t:TA}{id:String}{r:V->List V->Hp->VK->Prop}
theorem EY(pa:PlainAttrs T)(slot:Slot T name id)(hty:typeOf (.builtin id)=pure (.type "method_descriptor"))(hm:RB X id r)(ho:PE X o to)(ha:PA X (e::es) t) (hbase:attributeBase o name X.env (eval o X.env)=eval o X.env:=by rfl) (hfew:((backTo ck (starEach (e::es) X.env)).all (λ x=>!x.1)&&(backToKw ck (keywordEach [] X.env)).all (λ x=>x.1.isSome)
   &&decide ((e::es).length+([]:List Keyword).length+(if([]:List Keyword).isEmpty then 0 else 1) < 30))=true:=by rfl)
  (hline:(apos.endLine==ck.line)=true:=by rfl) (hs:starEach (e::es) X.env=(false,eval e X.env)::starEach es X.env:=by rfl) (hplain:(backTo ck (starEach es X.env)).any (·.1)=false:=by rfl):
  PE X (.Call (.Attribute o name apos) (e::es) [] ck) (tBM X.K T r to t):=by
 intro xz s σ H Q I h;refine wpAny_Call_method_late hbase hfew hline rfl (cm (ho xz s σ H _ I h) λ v s1 ⟨x,H1,I1,r1,ty,q1⟩=>?_);obtain⟨h1,h2⟩:=Nr I1 r1 ty;refine⟨T,id,pa,slot,hty,h1,h2,?_⟩;have hA:=ha ck xz s1 σ H1 _ I1 q1;rw[hs]at hA ⊢;refine Calls.callWith_builtin (by show(false||(backTo ck (starEach es X.env)).any (·.1))=false;rw[hplain] <;> rfl) (Calls.evalArgs_plain ?_);exact cm hA λ us s2 ⟨vs,H2,I2,r2,q2⟩=>hm xz s2 σ H2 x vs v us Q I2 r1 r2 q2
end
def Nd(X:Cx)(id:String)(r:V->List V->Hp->VK->Prop):Prop:=
 ∀(xz:List (ww×Obj)) (s:kt) (σ:St) (H:Hp) (x:V) (xs:List V) (v:jp) (us:List jp) (Q:VK),be X xz σ H s->bv x v->cr xs us->r x xs H Q->
  wpAny (model X.prog X.w) X.A (call (.builtin id) (v::us)) (EP X xz σ Q) X.xe s
theorem cr.one:∀{x:V} {us:List jp},cr [x] us->∃u,us=[u]/\bv x u
 |_,_,.cons r .nil=>⟨_,rfl,r⟩
theorem cr.zero:∀{us:List jp},cr [] us->us=[]
 |_,.nil=>rfl
theorem cr.dropLast(h:cr xs us):cr xs.dropLast us.dropLast:=by
 induction h with
 |nil=>exact .nil
 |cons r t ih=>
  cases t with
  |nil=>exact .nil
  |cons q t'=>exact .cons r ih
theorem cr.eraseIdx:∀{xs:List V} {us:List jp} (i:Nat),cr xs us->cr (xs.eraseIdx i) (us.eraseIdx i)
 |_,_,_,.nil=>.nil
 |_,_,0,.cons _ t=>t
 |_,_,i+1,.cons r t=>.cons r (cr.eraseIdx i t)
theorem cr.rep(h:cr xs us):∀k:Nat,cr (List.replicate k xs).flatten (List.replicate k us).flatten
 |0=>.nil
 |k+1=>by rw[n5,n5,y3,y3];exact cr.append h (cr.rep h k)
theorem yB(l:List α):l.eraseIdx (l.length - 1)=l.dropLast:=by
 induction l with
 |nil=>rfl
 |cons a r ih=>
  cases r with
  |nil=>rfl
  |cons b r=>
   have e:(a::b::r).length - 1=((b::r).length - 1)+1:=by have h1:(a::b::r).length=r.length+2:=rfl;have h2:(b::r).length=r.length+1:=rfl;omega
   rw[e,eraseIdx_cons_succ,ih]
   all_goals rfl
theorem rj:∀(l:List α) (i:Nat),(l.eraseIdx i).length<=l.length
 |[],_=>K1 _
 |_::_,0=>Nat.le_succ _
 |_::r,i+1=>Nat.succ_le_succ (rj r i)
theorem foldl_rep(ay:List jp):∀(k:Nat) (zn:List jp),
  List.foldl (λ x1 x2=>x1++x2) zn.toArray (List.replicate k ay.toArray)=(zn++(List.replicate k ay).flatten).toArray
 |0,zn=>by simp
 |k+1,zn=>by
  have e:zn.toArray++ay.toArray=(zn++ay).toArray:=by simp
  have e2:(zn++ay)++(List.replicate k ay).flatten=zn++(List.replicate (k+1) ay).flatten:=by rw[n5,y3,append_assoc]
  rw[<- e2,<- foldl_rep ay k (zn++ay),<- e,n5,foldl_cons]
section
variable {l b:ww}{ys zs:List V}
theorem be.PD{its':List jp}{f:Array jp->Array jp}(I:be X xz σ H s)(hH:H l=some (.lst xs)) (e:s.heap.get? l=some {cls:=.type "list",data:=.seq ay.toArray n}) (hf:f ay.toArray=its'.toArray) (hv:cr ys its') (hz:ys.length<=sizeLine):be X xz σ (dl H l (.lst ys)) {s with heap:=s.heap.update l (Obj.mapSeq f),toks:=t'}:=by have q:=PySem.IsL.update e f;rw[hf]at q;refine I.write (x:=l) (e:=l) (by rw[hH];exact trivial) (.inl rfl) (λ b' u hb hu=>(j8 s.heap (Obj.mapSeq f) (L9 hb)).trans hu) ⟨_,q⟩ ?_;exact⟨hz,its',_,hv,q⟩
theorem be.Tp(I:be X xz σ H s)(hv:cr ys ay)(hz:ys.length<=sizeLine):be X xz σ (dl H s.heap.objs.size (.lst ys)) {s with heap:=s.heap.push {cls:=.type "list",data:=.seq ay.toArray},toks:=t'}:=
 I.laid (λ _ _ q=>j7 _ q) (K1 _) ⟨hz,ay,0,hv,n9 _ rfl⟩
theorem be.fresh(I:be X xz σ H s):H s.heap.objs.size=none:=I.bj.fresh (K1 _)
theorem be.BN(I:be X xz σ H s)(hH:H l=some (.lst xs)):xs.length<=sizeLine/\∃(ay:List jp) (n:Nat),cr xs ay/\xs.length=ay.length/\s.heap.get? l=some {cls:=.type "list",data:=.seq ay.toArray n}:=by obtain⟨z,ay,n,r,e⟩:=I.bj l _ hH;exact⟨z,ay,n,r,r.length,e⟩
theorem Fw(h:n<=sizeLine):Builtin.List.listTooLong n=false:=by unfold Builtin.List.listTooLong;exact B4 (by omega)
end
def zB:V->List V->Hp->VK->Prop:=λ x vs H Q=>∃l xs y,x=.ref l/\vs=[y]/\H l=some (.lst xs)/\xs.length < sizeLine/\Q .bu (dl H l (.lst (xs++[y])))
theorem BK:Nd X "list.append" zB:=by intro xz s σ H x vs v us Q I rx rv h;obtain⟨l,xs,y,rfl,rfl,hH,hz,q⟩:=h;cases rx;obtain⟨u,rfl,ru⟩:=rv.one;obtain⟨z,ay,n,r,hl,e⟩:=I.BN hH;refine K8 F.slot_list_append ⟨_,e,rfl⟩ F.entry_list_append (F.args_list_append_2 _ _) (PySem.list_append l ay.toArray n u (by rw[y9];omega)) ⟨e,?_⟩;refine⟨.bu,_,I.PD (its':=ay++[u]) hH e (by simp) (r.append (.cons ru .nil)) ?_,rfl,q⟩;rw[q8,k8];omega
def W9:V->List V->Hp->VK->Prop:=λ x vs H Q=>∃l xs y,x=.ref l/\vs=[]/\H l=some (.lst xs)/\xs[xs.length - 1]?=some y/\Q y (dl H l (.lst xs.dropLast))
theorem Py:Nd X "list.pop" W9:=by
 intro xz s σ H x vs v us Q I rx rv h;obtain⟨l,xs,y,rfl,rfl,hH,hy,q⟩:=h;cases rx;have Tx:=rv.zero;subst Tx;obtain⟨z,ay,n,r,hl,e⟩:=I.BN hH;obtain⟨u,hu,ru⟩:=r.get hy;have XX:ay.toArray[ay.toArray.size - 1]?=some u:=by show ay.toArray[ay.length - 1]?=some u;rw[<- k9,<- hl];exact hu
 refine K8 F.slot_list_pop ⟨_,e,rfl⟩ F.entry_list_pop (F.args_list_pop_1 _) (MeetsSeq.list_pop_last l ay.toArray n u XX (by rw[y9];omega)) ⟨e,?_⟩;refine⟨y,_,I.PD (its':=ay.dropLast) hH e ?_ r.dropLast ?_,ru,q⟩
 ·show ay.toArray.eraseIdxIfInBounds (ay.toArray.size - 1)=ay.dropLast.toArray;rw[y9,eraseIdxIfInBounds_toArray,yB]
 ·rw[length_dropLast];omega
def OB:V->List V->Hp->VK->Prop:=λ x vs H Q=>∃l xs i k y,x=.ref l/\vs=[.int i]/\H l=some (.lst xs)/\-(2^63)<=i/\i < 2^63/\seqIndex? i xs.length=some k/\xs[k]?=some y/\Q y (dl H l (.lst (xs.eraseIdx k)))
theorem FD:Nd X "list.pop" OB:=by
 intro xz s σ H x vs v us Q I rx rv h;obtain⟨l,xs,i,k,y,rfl,rfl,hH,h1,h2,hk,hy,q⟩:=h;cases rx;obtain⟨u,rfl,ru⟩:=rv.one;obtain⟨t,rfl⟩:=ru;obtain⟨z,ay,n,r,hl,e⟩:=I.BN hH;obtain⟨w,hw,sS⟩:=r.get hy;refine K8 F.slot_list_pop ⟨_,e,rfl⟩ F.entry_list_pop (F.args_list_pop_2 _ _)
  (MeetsSeq.list_pop_at l ay.toArray n i t k w (fitsIndex_both h1 h2) (by rw[y9,<- hl];exact hk) (by rw[<- k9];exact hw) (by rw[y9];omega)) ⟨e,?_⟩
 refine⟨y,_,I.PD (its':=ay.eraseIdx k) hH e ?_ (r.eraseIdx k) ?_,sS,q⟩
 ·show ay.toArray.eraseIdxIfInBounds k=(ay.eraseIdx k).toArray;rw[eraseIdxIfInBounds_toArray]
 ·have:=rj xs k;omega
def W':R2:=λ x y H Q=>∃l b xs zs,x=.ref l/\y=.ref b/\H l=some (.lst xs)/\H b=some (.lst zs)/\xs.length+zs.length<=sizeLine/\∀p,H p=none->Q (.ref p) (dl H p (.lst (xs++zs)))
theorem Pf:fG X (binaryOp .Add) W':=by
 intro xz s σ H x y v u Q I rx ry h;obtain⟨l,b,xs,zs,rfl,rfl,hH,hB,hz,q⟩:=h;cases rx;cases ry;obtain⟨z,ay,n,r,hl,e⟩:=I.BN hH;obtain⟨z2,P_,n2,r2,HP,e2⟩:=I.BN hB;refine PySem.P.add_list e e2 ?_ (by rw[y9,y9];omega);have ea:ay.toArray++P_.toArray=(ay++P_).toArray:=by simp
 rw[ea];exact⟨.ref _,_,I.Tp (t':=s.toks) (r.append r2) (by rw[q8];omega),rfl,q _ I.fresh⟩
def W8:R2:=λ x y H Q=>∃l k xs,x=.ref l/\y=.int k/\H l=some (.lst xs)/\-(2^63)<=k/\k < 2^63/\xs.length*k.toNat<=sizeLine/\
 ∀p,H p=none->Q (.ref p) (dl H p (.lst (List.replicate k.toNat xs).flatten))
theorem len_rep(xs:List α)(k:Nat):(List.replicate k xs).flatten.length=k*xs.length:=by
 induction k with
 |zero=>simp
 |succ k ih=>rw[n5,y3,q8,ih,Nat.succ_mul,Nat.add_comm]
theorem O9:fG X (binaryOp .Mult) W8:=by
 intro xz s σ H x y v u Q I rx ry h;obtain⟨l,k,xs,rfl,rfl,hH,h1,h2,hz,q⟩:=h;cases rx;obtain⟨t,rfl⟩:=ry;obtain⟨z,ay,n,r,hl,e⟩:=I.BN hH;have hlen:ay.toArray.size*k.toNat<=sizeLine:=by rw[y9,<- hl];exact hz
 have Yo:¬ay.toArray.size*k.toNat > (2^63 - 1) / 8:=by
  have:(sizeLine:Nat)<=(2^63 - 1) / 8:=by decide
  omega
 have Ul:¬(!Builtin.List.listFitsIndex k)=true:=by rw[fitsIndex_both h1 h2];exact p9
 have Uc:¬Builtin.List.listTooLong (ay.toArray.size*k.toNat)=true:=by rw[Fw hlen];exact p9
 have Qk:List.foldl (λ x1 x2=>x1++x2) #[] (List.replicate (if ay.toArray.isEmpty=true then 0 else k.toNat) ay.toArray)=(List.replicate k.toNat ay).flatten.toArray:=by
  have f0:∀m:Nat,List.foldl (λ x1 x2=>x1++x2) #[] (List.replicate m ay.toArray)=(List.replicate m ay).flatten.toArray:=λ m=>by have:=foldl_rep ay m [];rw[nil_append]at this;exact this
  rw[f0];cases ay with
  |nil=>simp
  |cons a r'=>rw[N4 (by simp)]
 refine wpAny_binaryOp_repeat_ref (T:="list") (U:="int") (by decide) ⟨_,e,rfl⟩ (λ s'=>typeIs_int s' k t) noFill_list_mul F.fills_int_mul F.slot_int_rmul repeat_list F.slot_int_index.lookup
  (K8 F.slot_int_rmul (typeIs_int s k t) F.entry_int_rmul (F.args_int_rmul_2 _ _) (int___rmul___int_list k t l ay.toArray n)
   ⟨e,rfl,⟨_,e,rfl⟩,K8 F.slot_list_mul ⟨_,e,rfl⟩ F.entry_list_mul (F.args_list_mul_2 _ _) (AutoListH.list___mul___list_int_3 l ay.toArray n k t Ul Yo Uc) ⟨e,?_⟩⟩)
 rw[Qk];exact⟨.ref _,_,I.Tp (t':=s.toks) (r.rep k.toNat) (by rw[len_rep,Nat.mul_comm];exact hz),rfl,q _ I.fresh⟩
end L2
namespace Att
open PySem.W PySem.Calls PyProof.Rows
theorem mG{P:Params}{h:Heap}:∀(ns:List Int) (vs:List jp),WellAll P h vs (ns.map WData.int)->IntsAre vs ns:=by
 intro ns
 induction ns with
 |nil=>intro vs w;rw[map_nil]at w;cases w;exact .nil
 |cons n ns ih=>
  intro vs w;rw[F9]at w;cases w with
  |cons a b=>cases a;exact .cons _ _ (ih _ b)
theorem Bi{l:OpenLaw}(hn:l.most=some n){P:Params}{h:Heap}{args:List WData}{vals:List jp} (Lh:l.row.toRowW.claim.pre args=true) (X2:WellAll P h vals args):∃a vs ns,vals=[Value.ref a]/\args=[WData.list (ns.map WData.int)]/\h.get? a=some {cls:=.type "list",data:=.seq vs.toArray}/\IntsAre vs ns/\ns.length<=n:=by
 have hsh:WShape.hasAll [] args [.list .int]=true:=(pre_splitW Lh).1;have hc:l.pre.holds [] {args:=args}=true:=(pre_splitW Lh).2;obtain⟨d,r,rfl,h1,h2⟩:=hasAllW_cons hsh;obtain rfl:=hasAllW_nil h2;obtain⟨xs,rfl,h3⟩:=hasW_list h1;obtain⟨ns,rfl⟩:=items_int h3;have hlen:ns.length<=n:=by
  unfold OpenLaw.pre at hc;have h4:(WTm.not (.lt (.lit (.int (n:Int))) (.len (.arg 0)))).holds [] {args:=[.list (ns.map .int)]}=true:=by have h4:=(holds_andW hc).1;rw[hn]at h4;exact h4
  have h5:=condW_of h4 (w_not (w_lt w_lit (w_len_list (w_arg rfl))));rw[C2]at h5;refine A2 λ q=>?_;have q':(n:Int) < ((ns.length:Nat):Int):=by omega
  first
   |(rw[D1 q']at h5;exact absurd h5 (by decide))
   |(simp at h5;omega)
 cases X2 with
 |cons w1 w2=>
  cases w2;cases w1 with
  |list ho GB=>exact⟨_,_,ns,rfl,rfl,ho,mG ns _ GB,hlen⟩
theorem Bv(l:OpenLaw)(args:List WData):l.row.toRowW.claim.post args (.bool true) args=true:=
 postW_of (r:=l.row.toRowW) (X:=(true==true))
  (show WShape.has [] (.bool true) .bool=true by first|rfl|decide|simp[WShape.has,WShape.arms,WShape.armsAll])
  (show(WTm.eq .res (.lit (.bool true))).value [] {args:=args,res:=some (.bool true),after:=args}=some (.bool (true==true))from w_eq_bool (w_res rfl) w_lit) rfl
theorem wM{l:OpenLaw}{n:Nat}{q:Program}{loose:List Str}{XP:(Str->Option jp)->Heap->Prop}{YP:World->Heap->Prop}{d:DefRec} (hn:l.most=some n) (Gy:d.params.defaults=[]) (call:∀(w:World) (s₀ s₁:kt) (mg mb:Str->Option jp) (fa:ww) (o:Obj) (pm cd doc:jp) (a:ww) (vs:List jp) (ns:List Int),
   Ground q loose [] XP w s₀ mg mb s₁.heap->YP w s₁.heap->
   s₁.heap.get? fa=some o->o.data=.func (docDef d.name d.params d.body d.scope pm cd doc)->s₁.heap.CodeRec cd d.name->mg d.name=some (.ref fa)->
   s₁.heap.get? a=some {cls:=.type "list",data:=.seq vs.toArray}->IntsAre vs ns->ns.length<=n->s₁.gens=#[]->
   codeAny (model l.prog w) callerA (.call (.ref fa) ⟨[.ref a],[]⟩) (λ r s'=>r=.ok (.ret (.bool true))/\OldK s₁.heap s'.heap/\s'.os=s₁.os/\AllBare s'.gens) s₁):
  WalkO q loose XP YP l.row.toRowW d [] (λ f vs=>PySem.call f vs):=by
 intro w s₀ s₁ mg mb G Y fa o pm cd doc dV kV ho hd hcd hD T9 hg args vals as Lh abz V5 X2 hlo;obtain rfl:dV=.none:=Dflts.none hD Gy;obtain rfl:kV=.none:=Dflts.noKw hD;obtain⟨a,vs,ns,rfl,rfl,Gq,hints,hlen⟩:=Bi hn Lh X2;refine enter_call (J8 (call w s₀ s₁ mg mb fa o pm cd doc a vs ns G Y ho (fd_plain hd) hcd T9 Gq hints hlen hg) λ r s' hq=>?_);obtain⟨rfl,h2,h3,h4⟩:=hq;exact⟨.inl ⟨.bool true,.bool true,[],rfl,λ _=>rfl,.bool true,Bv l _,λ _=>⟨List.Pairwise.nil,λ _ hm=>(nomatch hm)⟩⟩,h2,h3,h4⟩
end Att
namespace L2
open PySem.Spec PyProof.Rows
theorem qN:∀{vs:List jp} {ns:List Int},IntsAre vs ns->cr (ns.map V.int) vs
 |_,_,.nil=>.nil
 |_,_,.cons n t h=>.cons ⟨t,rfl⟩ (qN h)
def Mb(H:Hp):Prop:=∀b,H b=none\/∃o xs,H b=some (.ia o (.lst xs))
theorem FK{mb:Str->Option jp}{CX:HI}{fa:ww}{s₁:kt}{vs:List jp} (KX:K.In s₁.heap) (Qi:s₁.heap.Ns mainGlobals mg) (hb:s₁.heap.Ns builtinsNs mb) (hbb:∀x:Str,x≠"__name__"->mb x=bootBuiltins x) (Yi:s₁.heap.NoLimit) (hg:s₁.gens=#[]) (ha:s₁.heap.get? a=some {cls:=.type "list",data:=.seq vs.toArray}) (hi:IntsAre vs ns) (hl:ns.length<=sizeLine) (hr:bJ k callerA) (F:∀base:Heap,K.In base->base.Ns mainGlobals mg->bo P w K mg base CX k fa fd [x] sp) (Ur:∀(s:kt) (u:jp),BindsTo s fd ⟨[u],[]⟩ [(x,u)]) (Gk:∀H:Hp,Mb H->dr K H a (ns.map V.int)->sp [.ref a] H (λ v _=>v=.bl true) λ _ _ _=>False) (Yu:∀H e s',CX [] H s₁ (λ _ _ _=>False) e s'->False):codeAny (model P w) callerA (.call (.ref fa) ⟨[.ref a],[]⟩) (λ r s'=>r=.ok (.ret (.bool true))/\OldK s₁.heap s'.heap/\s'.os=s₁.os/\AllBare s'.gens) s₁:=by
 have rv:=qN hi;have XB:=hi.length;have core:∀H:Hp,Mb H->dr K H a (ns.map V.int)->gE P w H s₁.heap->(∀b,H b≠none->b=a)->(H a≠none->K.lookup a=none)->
   codeAny (model P w) callerA (.call (.ref fa) ⟨[.ref a],[]⟩) (λ r s'=>r=.ok (.ret (.bool true))/\OldK s₁.heap s'.heap/\s'.os=s₁.os/\AllBare s'.gens) s₁:=by
  intro H hO hS bj hA hK;have AH:∀{b:ww} {o:Obj},s₁.heap.get? b=some o->H b=none->(tW s₁.heap H).get? b=some o:=λ e n=>Gx e n;have Th:∀{b:ww} {o:Obj} {es:Array DictEntry} {ep:Nat},s₁.heap.get? b=some o->o.data=.dict es ep->H b=none:=λ{b o es ep} e d=>by
   cases q:H b with
   |none=>rfl
   |some u=>have e':b=a:=hA b (by rw[q];simp);subst e';rw[ha]at e;cases e;have d':Data.seq vs.toArray _=Data.dict es ep:=d;cases d'
  have VU:∀{b:ww} {m:Str->Option jp},s₁.heap.Ns b m->(tW s₁.heap H).Ns b m:=λ{b m} ⟨o,es,ep,e,d,r⟩=>⟨o,es,ep,AH e (Th e d),d,r⟩;have ZO:K.In (tW s₁.heap H):=λ b o e=>AH (KX b o e) (by
   cases q:H b with
   |none=>rfl
   |some u=>
    have e':b=a:=hA b (by rw[q];simp);subst e';rw[hK (by rw[q];simp)]at e;cases e)
  have hM:Mod K mg (tW s₁.heap H):=⟨ZO,VU Qi,⟨mb,VU hb,hbb⟩,let⟨mc,h1,h2⟩:=Yi;⟨mc,VU h1,h2⟩⟩;have e0:qh P w K mg (tW s₁.heap H) callerA [] s₁ H:=⟨rfl,hM,λ b o e=>Kr e,J0 (Ca _ _),trivial,λ b hb=>absurd (show b∈([]:List ww)from hb) (by simp),bj,.of_eq hg⟩;refine J8 ((F _ ZO (VU Qi)).run callerA [] s₁ H ⟨[.ref a],[]⟩ [.ref a] [.ref a] _ _ hr e0 (Ur s₁ (.ref a)) (.cons rfl .nil) (Gk H hO hS)) λ r s' h=>?_;cases r with
  |error e=>exact(Yu H e s' h).elim
  |ok fl=>
   cases fl with
   |next=>exact False.elim h
   |brk=>exact False.elim h
   |cont=>exact False.elim h
   |ret u=>
    obtain⟨v,H',os,bare,un,Yc,r',q⟩:=h;have q':v=.bl true:=q;subst q';obtain rfl:u=Value.bool true:=r';refine⟨rfl,OldK.of_keep λ b o e=>?_,os,bare⟩;cases q:H b with
    |none=>exact un.keep b o e q (by intro z;exact absurd (show b∈([]:List ww)from z) (by simp)) (by simp)
    |some u=>
     rcases hO b with z|⟨ob,xs,z⟩
     ·rw[q]at z;cases z
     ·have z2:=un.gc b ob _ z;obtain⟨e1,_⟩:=bj b _ z;obtain⟨e2,_⟩:=Yc b _ z2;rw[e]at e1;cases e1;exact e2
 cases hk:K.lookup a with
 |some o=>have e:=KX a o hk;rw[ha]at e;cases e;refine core (λ _=>none) (λ _=>.inl rfl) (.inr ⟨_,vs.toArray,_,hk,rfl,rfl,rfl,by rw[y9,XB];exact hl,by simpa using rv⟩) (λ b u z=>by have z':(none:Option HO)=some u:=z;cases z') (λ b z=>absurd rfl z) λ z=>absurd rfl z
 |none=>
  refine core (λ b=>if b=a then some (.ia {cls:=.type "list",data:=.seq vs.toArray} (.lst (ns.map V.int)))else none) (λ b=>?_) (.inl (.inr ⟨{cls:=.type "list",data:=.seq vs.toArray},N3 rfl⟩)) (λ b u z=>?_) (λ b z=>?_) λ _=>hk
  ·by_cases hb:b=a
   ·exact .inr ⟨_,_,N3 hb⟩
   ·exact .inl (N4 hb)
  ·by_cases hb:b=a
   ·have z':=(N3 hb).symm.trans z;cases z';subst hb;exact⟨ha,by rw[C2];exact hl,vs,_,rv,ha⟩
   ·have z':=(N4 hb).symm.trans z;cases z'
  ·by_cases hb:b=a
   ·exact hb
   ·exact absurd (N4 hb) z
theorem Im{l:PySem.W.OpenLaw}{n k:Nat}{q:Program}{loose:List Str}{XP:(Str->Option jp)->Heap->Prop}{YP:World->Heap->Prop}{d:DefRec}{K:Params->N5}{CX:World->HI}{sp:World->Sp}{x:Str}
  (hn:l.most=some n) (ZD:n<=sizeLine) (Gy:d.params.defaults=[]) (hr:bJ k callerA)
  (hY:∀(w:World) (h:Heap),YP w h->(K w.params).In h)
  (F:∀(w:World) (mg:Str->Option jp) (fa:ww) (h:Heap),(K w.params).In h->h.Ns mainGlobals mg->mg d.name=some (.ref fa)->
   ∃fd:FuncData,(∀(s:kt) (u:jp),BindsTo s fd ⟨[u],[]⟩ [(x,u)])/\
    ∀base:Heap,(K w.params).In base->base.Ns mainGlobals mg->bo l.prog w (K w.params) mg base (CX w) k fa fd [x] (sp w))
  (Gk:∀(w:World) (H:Hp) (a:ww) (ns:List Int),ns.length<=n->Mb H->dr (K w.params) H a (ns.map V.int)->sp w [.ref a] H (λ v _=>v=.bl true) λ _ _ _=>False)
  (Yu:∀(w:World) (H:Hp) (s:kt) (e:jp) (s':kt),CX w [] H s (λ _ _ _=>False) e s'->False):
  PySem.W.WalkO q loose XP YP l.row.toRowW d [] (λ f vs=>PySem.call f vs):=by
 refine Att.wM hn Gy λ w s₀ s₁ mg mb fa o pm cd doc a vs ns G Y ho hd hcd T9 Gq hints hlen hg=>?_;have KX:=hY w _ Y;obtain⟨fd,hb,hF⟩:=F w mg fa _ KX G.T.g T9;exact FK KX G.T.g G.T.b G.T.builtins G.T.nolimit hg Gq hints (H9 hlen ZD) hr hF hb (λ H hO hS=>Gk w H a ns hlen hO hS) λ H e s'=>Yu w H s₁ e s'
def eT(s:Stmt):Arguments:=match s with
 | .FunctionDef _ a _ _ _ _ _ _ _ _=>a
 |_=>{posonlyargs:=[],args:=[],vararg:=none,kwonlyargs:=[],kw_defaults:=[],kwarg:=none,defaults:=[]}
def cA(s:Stmt):List Stmt:=match s with
 | .FunctionDef _ _ b _ _ _ _ _ _ _=>b
 |_=>[]
def ao(s:Stmt):Scope:=match s with
 | .FunctionDef _ _ _ _ _ _ sc _ _ _=>sc
 |_=>{kind:=.function,names:=[],isGenerator:=false,isCoroutine:=false}
abbrev dJ:HI:=λ _ _ _ _ _ _=>False
abbrev E0:XK:=λ _ _ _=>False
theorem S4:Passes dJ X E0:=λ _ _ _ _ _ _ _ h=>h.elim
structure dH(K:N5)(x qual:Str)(st:Stmt)(f:ww)(fd:FuncData):Prop where
 ex:∃(oc:jp) (od:Option ww) (kV doc pm:jp) (an:Option ww) (bR ct:jp) (Bz:Array (Option jp)),
  fd=PySem.W.fnOf x qual (eT st) (cA st) (ao st) .none kV doc pm an bR ct/\K.lookup f=some ⟨oc,od,.func fd,Bz⟩/\PySem.W.codeIn K bR qual=true
 kp:PySem.W.keepIn K (.ref f)=true
theorem dH.ok {x qual:Str}{st:Stmt}{f:ww}{fd:FuncData}{N ps:List Str}{k:Nat}{sp:Sp}(F:dH K x qual st f fd)(S:aH N ps (ao st))(len:∀vs H Q E,sp vs H Q E->vs.length=ps.length) (gy:∀(bR:jp) (A:Around) (outer:List Env) (s:kt) (H:Hp) (vs:List V) (Q:VK) (E:XK),bJ k (A.deeper (envOfC qual (ao st) s.heap.objs.size f bR))->sp vs H Q E->
   ∃t,rZ (qx dJ P w K mg base N qual (ao st) f bR A outer s H E).zP (cA st) t/\t {nx:=λ _ H'=>Q .bu H',rt:=Q} (start N vs) H):bo P w K mg base dJ (k+1) f fd ps sp:=by
 obtain⟨oc,od,kV,doc,pm,an,bR,ct,Bz,rfl,lk,hcd⟩:=F.ex;refine MQ lk hcd S len λ A outer s H vs Q E hr Gk=>?_;obtain⟨t,h,q⟩:=gy bR A outer s H vs Q E hr Gk;exact⟨t,h.zP,q⟩
theorem dH.binds(F:dH K x qual st f fd) (h:∀(kV doc pm:jp) (an:Option ww) (bR ct:jp) (us:List jp),us.length=ps.length->bindArgs (PySem.W.fnOf x qual (eT st) (cA st) (ao st) .none kV doc pm an bR ct) ⟨us,[]⟩=pure (ps.zip us)):Binds K fd ps []:=by obtain⟨oc,od,kV,doc,pm,an,bR,ct,Bz,rfl,lk,hcd⟩:=F.ex;exact .all (h kV doc pm an bR ct)
theorem GI{oc:jp}{od an:Option ww}{Bz:Array (Option jp)}{kV doc pm bR ct:jp}(l:K.lookup f=some ⟨oc,od,.func (PySem.W.fnOf x qual (eT st) (cA st) (ao st) .none kV doc pm an bR ct),Bz⟩) (c:PySem.W.codeIn K bR qual=true) (k:PySem.W.keepIn K (.ref f)=true):dH K x qual st f (PySem.W.fnOf x qual (eT st) (cA st) (ao st) .none kV doc pm an bR ct):=⟨⟨oc,od,kV,doc,pm,an,bR,ct,Bz,rfl,l,c⟩,k⟩
theorem pv(i:Nat)(hN:X.N[i]?=some x:=by rfl)(hv:U5 X.env.scope x:=by first|exact Or.inl rfl|exact Or.inr (Or.inl rfl)|exact Or.inr (Or.inr rfl))(hd:(x==("__debug__":Str))=false:=by decide) (hcd:(x==("__classdict__":Str))=false:=by decide):PE X (.Name x pos) (RQ i):=ER hN hv hd hcd
open PySem.Spec PyProof.Rows
theorem be.uP{D:ww}{o:HO}(I:be X xz σ H s)(hn:H D=none)(new:bD X.prog X.w (dl H D o) s.heap D o) (hL:D≠X.env.locals) (hs:X.s₀.heap.objs.size<=D) (hc:∀x c,X.env.cells.lookup x=some c->c≠D) (hp:∀p∈X.pn++xz,p.1≠D):be X xz σ (dl H D o) s:=by
 have ne:∀{b:ww} {u:HO},H b=some u->b≠D:=λ e=>aZ e hn;have nb:∀(b:ww) (ob:Obj),X.s₀.heap.get? b=some ob->b≠D:=λ b ob e=>G6 (u3 (G7 e) hs);refine⟨I.ok,I.os,I.bare,⟨I.base.keep,I.base.slot,λ b ob e n hx=>?_,I.base.there,λ b xs e=>?_,λ b ob u e=>?_,λ b ps e=>?_⟩,I.loc,I.cell,?_,λ x c e=>?_,λ p TY=>?_,λ b u e=>?_,I.len⟩
 ·rw[aB (nb b ob e)];exact I.base.free b ob e n hx
 ·have q:=I.base.gr b xs e;rw[aB (ne q)];exact q
 ·have q:=I.base.gc b ob u e;rw[aB (ne q)];exact q
 ·obtain⟨m,q⟩:=I.base.gH b ps e;exact⟨m,by rw[aB (ne q)];exact q⟩
 ·rw[aB (L9 hL)];exact I.free
 ·rw[aB (hc x c e)];exact I.fv x c e
 ·obtain⟨e,n,r⟩:=I.pin p TY;exact⟨e,by rw[aB (hp p TY)];exact n,r⟩
 ·by_cases hb:b=D
  ·subst hb;rw[aV]at e;cases e;exact new
  ·rw[aB hb]at e;exact(I.bj b u e).fb (λ c v _ q=>q) (λ c q=>by rw[aB (ne q)];exact q) λ c xs q=>by rw[aB (ne q)];exact q
def eO(cells:List (Str×ww)):List (Str×NameKind)->List (Str×ww)->List (Str×ww)
 |[],zn=>zn
 |(n,k)::r,zn=>if(k==.free)=true then eO cells r ((n,(cells.lookup n).getD 0)::zn)else eO cells r zn
theorem jy:∀(names:List (Str×NameKind)) (zn:List (Str×ww)),(∀n,(n,NameKind.free)∈names->∃c,cells.lookup n=some c)-> (∀x c,zn.lookup x=some c->cells.lookup x=some c)->∀x c,(eO cells names zn).lookup x=some c->cells.lookup x=some c
 |[],zn,_,h,x,c,e=>h x c e
 |(n,k)::r,zn,hc,h,x,c,e=>by
  unfold eO at e;by_cases hk:(k==NameKind.free)=true
  ·rw[N3 hk]at e;refine jy r _ (λ m hm=>hc m (l7 _ hm)) (λ y d q=>?_) x c e;have Lk:k=NameKind.free:=by simpa using hk
   obtain⟨c0,e0⟩:=hc n (by rw[Lk];exact p0);rw[A1]at q;cases hy:(y==n)with
   |true=>
    rw[hy]at q;have yn:y=n:=by simpa using hy
    subst yn;rw[e0]at q;rw[e0];exact q
   |false=>rw[hy]at q;exact h y d q
  ·rw[N4 hk]at e;exact jy r _ (λ m hm=>hc m (l7 _ hm)) h x c e
theorem iJ:∀(names:List (Str×NameKind)) (zn:List (Str×ww)),((zn.lookup x).isSome=true)->((eO cells names zn).lookup x).isSome=true
 |[],zn,h=>h
 |(n,k)::r,zn,h=>by
  unfold eO;split
  ·refine iJ r _ ?_;rw[A1];cases hy:(x==n)with
   |true=>rfl
   |false=>exact h
  ·exact iJ r _ h
theorem lJ:∀(names:List (Str×NameKind)) (zn:List (Str×ww)),(x,NameKind.free)∈names->((eO cells names zn).lookup x).isSome=true
 |[],zn,h=>absurd h (by simp)
 |(n,k)::r,zn,h=>by
  unfold eO;rcases G0.mp h with e|h
  ·cases e;rw[N3 (by decide)];refine iJ r _ ?_;rw[A1];simp
  ·split
   ·exact lJ r _ h
   ·exact lJ r _ h
theorem gB(hc:∀n,(n,NameKind.free)∈scope.names->∃c,env.cells.lookup n=some c):closureFor scope env=pure (eO env.cells scope.names []):=by
 unfold closureFor;have all:∀(names:List (Str×NameKind)) (zn:List (Str×ww)),(∀n,(n,NameKind.free)∈names->∃c,env.cells.lookup n=some c)->
   (forIn names zn (λ(x:Str×NameKind) (cs:List (Str×ww))=>(match x with|(name,kind)=>if(kind==.free)=true then(do let c <- cellOf env name;pure (ForInStep.yield ((name,c)::cs)))else pure (ForInStep.yield cs):Sem (ForInStep (List (Str×ww))))))=(pure (eO env.cells names zn):Sem (List (Str×ww))):=by
  intro names
  induction names with
  |nil=>intro zn _;rfl
  |cons y r ih=>
   intro zn hc;obtain⟨n,k⟩:=y;rw[forIn_cons];unfold eO;dsimp only;by_cases hk:(k==NameKind.free)=true
   ·rw[N3 hk,N3 hk];have Lk:k=NameKind.free:=by simpa using hk
    obtain⟨c0,e0⟩:=hc n (by rw[Lk];exact p0);unfold cellOf;rw[e0];exact ih _ λ m hm=>hc m (l7 _ hm)
   ·rw[N4 hk,N4 hk];exact ih _ λ m hm=>hc m (l7 _ hm)
 have q:=all scope.names [] hc;refine Eq.trans ?_ (L8 (λ m=>m >>= pure) q);rfl
theorem oy{env:Env}:∀{names:List (Str×NameKind)} {x:Str},names.lookup x=some .free-> (names.map λ(n,k)=>if(k==NameKind.free&&env.scope.kind==.function&&env.kindOf n==some .cell)then(n,NameKind.cell)else(n,k)).lookup x=some .cell\/ (names.map λ(n,k)=>if(k==NameKind.free&&env.scope.kind==.function&&env.kindOf n==some .cell)then(n,NameKind.cell)else(n,k)).lookup x=some .free
 |[],_,h=>by simp at h
 |(n,k)::r,x,h=>by
  have ih:=@oy env r x;rw[F9];dsimp only;cases hx:x==n with
  |true=>
   rw[A1,hx]at h;have h':k=NameKind.free:=by simpa using h
   subst h';split
   ·left;rw[A1,hx]
   ·right;rw[A1,hx]
  |false=>
   rw[A1,hx]at h;have ih:=ih h;split
   ·rw[A1,hx];exact ih
   ·rw[A1,hx];exact ih
theorem ui{prog:Program}{w:World}{A:Around}{R:Result->kt->Prop}{s:kt}{elt target iter:Expr}{ifs:List Expr}{scope:Scope}{pos:Pos}{it zn:jp}{env:Env}(I:Nat->kt->Prop) (turn:∀n s,I n s->wpAny (model prog w) A (pyNext it) (λ r s1=>match r with
   |none=>R (.ok .next) s1
   |some v=>wpAny (model prog w) A (letOwnedTupleGo target it v) (λ _ s2=>wpAny (model prog w) A (assign target env v) (λ _ s3=>
     wpAny (model prog w) A (forIn ifs true λ c r=>if r=true then do let ok <- isTrue c env (eval c env);pure (ForInStep.yield ok)else pure (ForInStep.yield r)) (λ ok s4=>
      if ok=true then wpAny (model prog w) A (eval elt env) (λ x s5=>
       wpAny (model prog w) A (call (.builtin "list.append") [zn,x]) (λ _ s6=>∃m,m < n/\I m s6) (λ _ _=>False) s5) (λ _ _=>False) s4
      else ∃m,m < n/\I m s4) (λ _ _=>False) s3) (λ _ _=>False) s2) (λ _ _=>False) s1) (λ _ _=>False) s)
  (n:Nat) (h:I n s):
  codeAny (model prog w) A (.compLoop (.ListComp elt [⟨target,iter,ifs,0⟩] scope pos) 0 it zn env) R s:=by
 refine codeAny_loop rfl I (λ n s hI=>?_) n h;show wpAny _ A ((compTurn (.ListComp elt [⟨target,iter,ifs,0⟩] scope pos) 0 it zn env).onRaise (λ x=>do noteFrame x env;theTreesLotGoes x)) _ _ s;refine wpAny_noted ?_;rw[compTurn_list];refine wpAny_noRaise (K5 (G4 (K5 (K9 (turn n s hI) (λ r s1 h1=>?_) λ _ _ h'=>h'))));cases r with
 |none=>exact K6 h1
 |some v=>
  refine K5 (K9 h1 (λ _ s2 h2=>?_) λ _ _ h'=>h');refine K5 (K9 h2 (λ _ s3 h3=>K5 (K9 h3 (λ ok s4 h4=>?_) λ _ _ h'=>h')) λ _ _ h'=>h');cases ok with
  |false=>exact K6 ⟨rfl,h4⟩
  |true=>exact K5 (K5 (K9 h4 (λ x s5 h5=>K5 (K9 h5 (λ _ s6 h6=>K6 (K6 ⟨rfl,h6⟩)) λ _ _ h'=>h')) λ _ _ h'=>h'))
open PySem.Spec PyProof.Rows
def bI(X:Cx)(scope:Scope)(cl:List (Str×ww))(tgs:List Str)(fr:List Nat)(C:ww)(fp:List ww)(s:kt)(H:Hp):Cx:=
 {X with N:=tgs++fr.map (λ j=>X.N.getD j ""),s₀:=s,H₀:=H,env:=compEnvC scope cl C X.env,outer:=X.stack,ex:=fp,fn:=λ x=>scope.names.lookup x==some .cell,pn:=[]}
def fS(n:Nat)(fr:List Nat)(σ:St):St:=List.replicate n none++fr.map (λ j=>σ.getD j none)
structure HJ(X:Cx)(scope:Scope)(C:ww)(h1:Heap)(cl:List (Str×ww)):Prop where
 look:∀x c,cl.lookup x=some c->X.env.cells.lookup x=some c\/(C < c/\h1.IsCell c none)
 inj:∀x y c,cl.lookup x=some c->cl.lookup y=some c->x=y
 has:∀x,(x,NameKind.free)∈scope.names\/(x,NameKind.cell)∈scope.names->∃c,cl.lookup x=some c
 fre:∀x c,scope.names.lookup x=some .free->cl.lookup x=some c->X.env.cells.lookup x=some c
 own:∀x c,scope.names.lookup x=some .cell->cl.lookup x=some c->C < c
structure kz(X:Cx)(scope:Scope)(fr:List Nat):Prop where
 kind:scope.kind=.function
 cells:∀y∈scope.names,y.2=.cell->scope.names.lookup y.1=some .cell
 names:∀y∈scope.names,y.2=.local->scope.names.lookup y.1=some .local
 has:∀n,(n,NameKind.free)∈scope.names->X.env.kindOf n=some .cell\/X.env.kindOf n=some .free
 fr:∀j∈fr,j < X.N.length/\scope.names.lookup (X.N.getD j "")=some .free
def jC(n:Nat)(g:TG):Prop:=∀x σ H Q,g x σ H Q->g x σ H λ σ2 H2=>Q σ2 H2/\σ2.length=σ.length/\∀k,n<=k->σ2[k]?=σ[k]?
theorem tZ(h:i < n):jC n (fu i):=λ x σ H Q q=>⟨q,by simp,λ k hk=>by rw[m7 (by omega)]⟩
def nG(n:Nat)(g:AK):Prop:=∀xs σ H Q,g xs σ H Q->g xs σ H λ σ2 H2=>Q σ2 H2/\σ2.length=σ.length/\∀k,n<=k->σ2[k]?=σ[k]?
theorem Qw:nG n Ci:=λ xs σ H Q q=>⟨q.1,q.2,rfl,λ _ _=>rfl⟩
def RA(X:Cx)(ifs:List Expr)(t:TT):Prop:=
 ∀(xz:List (ww×Obj)) (s:kt) (σ:St) (H:Hp) (Q:Bool->Hp->Prop),be X xz σ H s->t σ H Q->
  wpAny (model X.prog X.w) X.A (forIn ifs true λ c r=>if r=true then do let ok <- isTrue c X.env (eval c X.env);pure (ForInStep.yield ok)else pure (ForInStep.yield r)) (TP X xz σ Q) X.xe s
def WB:TT:=λ _ H Q=>Q true H
theorem JX:RA X [] WB:=λ _ s σ H Q I h=>wpAny_tests_nil ⟨H,I,h⟩
theorem JW{c:Expr}{t:TT}(h:PT X c t):RA X [c] t:=λ xz s σ H Q I q=>wpAny_tests_one (h xz s σ H Q I q)
def qR(wi:TI)(g:TG)(tt:TT)(te:TE)(n:Nat)(fr:List Nat):TE:=λ σ H Q=>wi σ H λ J H1=>∃W:Nat->Nat->List V->Hp->Prop,(∃m,W 0 m [] H1)/\∀i m zn H,W i m zn H->
 zn.length<=sizeLine/\((J.stop i H/\∀p,H p=none->Q (.ref p) (dl H p (.lst zn)))\/
  (J.go i H/\∃N:List V->Hp->Prop,(∀Hu H',N Hu H'->∃m',m' < m/\W (i+1) m' Hu H')/\∀x H',J.Ic i H x H'->g x (fS n fr σ) H' λ σ2 H2=>tt σ2 H2 λ b H3=>if b=true then te σ2 H3 λ y H4=>N (zn++[y]) H4 else N zn H3))
theorem ir{env:Env}:∀{names:List (Str×NameKind)} {x:Str} {k0:NameKind}, (names.map λ(n,k)=>if(k==NameKind.free&&env.scope.kind==.function&&env.kindOf n==some .cell)then(n,NameKind.cell)else(n,k)).lookup x=some k0->(k0=.cell\/k0=.free)->(x,NameKind.free)∈names\/(x,NameKind.cell)∈names
 |[],_,_,h,_=>by simp at h
 |(n,k)::r,x,k0,h,hk=>by
  have ih:=@ir env r x k0;rw[F9]at h;dsimp only at h;cases hx:x==n with
  |true=>
   have xn:x=n:=by simpa using hx
   subst xn;by_cases Um:(k==NameKind.free&&env.scope.kind==.function&&env.kindOf x==some .cell)=true
   ·have:k=NameKind.free:=by have:=(A7 _ _).mp Um;have:=(A7 _ _).mp this.1;simpa using this.1
    subst this;exact .inl p0
   ·rw[N4 Um,A1,hx]at h;have h':k=k0:=by simpa using h
    subst h';rcases hk with e|e
    ·subst e;exact .inr p0
    ·subst e;exact .inl p0
  |false=>
   have z:(x,NameKind.free)∈r\/(x,NameKind.cell)∈r:=by
    refine ih ?_ hk;split at h
    ·rw[A1,hx]at h;exact h
    ·rw[A1,hx]at h;exact h
   exact z.imp (l7 _) (l7 _)
theorem iS{n:Str}{zn:List (Str×ww)}{c:ww}(h:((n,a)::zn).lookup x=some c):(x=n/\c=a)\/(x≠n/\zn.lookup x=some c):=by
 rw[A1]at h;cases e:x==n with
 |true=>rw[e]at h;exact .inl ⟨by simpa using e,(B7 h).symm⟩
 |false=>rw[e]at h;exact .inr ⟨by simpa using e,h⟩
set_option tactic.hygienic true in
theorem uk:∀(names:List (Str×NameKind)) (h:Heap) (zn:List (Str×ww)) (x:Str) (c:ww),(cellsFrom h.objs.size names zn).lookup x=some c->zn.lookup x=some c\/(h.objs.size<=c/\(pushCells h names).IsCell c none)
 |[],_,_,_,_,e=>.inl e
 |(n,k)::r,h,zn,x,c,e=>by
  unfold cellsFrom at e;unfold pushCells;split at e
  ·rename_i hk;rw[N3 hk];have sz:=D4 h {cls:=.type "cell",data:=.cell none};rw[<- sz]at e;rcases uk r _ _ x c e with z|z
   ·rcases iS z with⟨_,q⟩|⟨_,q⟩
    ·subst q;exact .inr ⟨K1 _,_,pushCells_keeps r _ _ _ (n9 _ rfl),rfl⟩
    ·exact .inl q
   ·exact .inr ⟨by have:=z.1;rw[sz]at this;omega,z.2⟩
  ·rename_i hk;rw[N4 hk];exact uk r h zn x c e
theorem yK:∀(names:List (Str×NameKind)) (n:Nat) (zn:List (Str×ww)),(∀x c,zn.lookup x=some c->c < n)->(∀x y c,zn.lookup x=some c->zn.lookup y=some c->x=y)->∀x y c,(cellsFrom n names zn).lookup x=some c->(cellsFrom n names zn).lookup y=some c->x=y
 |[],_,_,_,hi=>hi
 |(m,k)::r,n,zn,lt,hi=>by
  unfold cellsFrom;split
  ·refine yK r (n+1) _ (λ x c e=>?_) (λ x y c e1 e2=>?_)
   ·rcases iS e with⟨_,q⟩|⟨_,q⟩
    ·rw[q];exact Nat.lt_succ_self n
    ·exact Nat.lt_succ_of_lt (lt x c q)
   ·rcases iS e1 with⟨a1,q1⟩|⟨a1,q1⟩ <;> rcases iS e2 with⟨a2,q2⟩|⟨a2,q2⟩
    ·rw[a1,a2]
    ·exact absurd (q1▸lt y c q2) (D9 _)
    ·exact absurd (q2▸lt x c q1) (D9 _)
    ·exact hi x y c q1 q2
  ·exact yK r n zn lt hi
theorem nE:∀(names:List (Str×NameKind)) (n:Nat) (zn:List (Str×ww)),(∃c,zn.lookup x=some c)->∃c,(cellsFrom n names zn).lookup x=some c
 |[],_,_,h=>h
 |(m,k)::r,n,zn,⟨c,h⟩=>by
  unfold cellsFrom;split
  ·refine nE r _ _ ?_;rw[A1];cases x==m with
   |true=>exact⟨_,rfl⟩
   |false=>exact⟨c,h⟩
  ·exact nE r n zn ⟨c,h⟩
theorem yL:∀(names:List (Str×NameKind)) (n:Nat) (zn:List (Str×ww)),(x,NameKind.cell)∈names->∃c,(cellsFrom n names zn).lookup x=some c
 |[],_,_,h=>absurd h (by simp)
 |(m,k)::r,n,zn,h=>by
  unfold cellsFrom;rcases G0.mp h with e|h
  ·cases e;rw[N3 (by decide)];exact nE r _ _ ⟨n,by rw[A1];simp⟩
  ·split
   ·exact yL r _ _ h
   ·exact yL r _ _ h
set_option tactic.hygienic true in
theorem yM:∀(names:List (Str×NameKind)) (n:Nat) (zn:List (Str×ww)),(x,NameKind.cell)∉names->(cellsFrom n names zn).lookup x=zn.lookup x
 |[],_,_,_=>rfl
 |(m,k)::r,n,zn,h=>by
  unfold cellsFrom;split
  ·rename_i hk;rw[yM r _ _ λ z=>h (l7 _ z),A1];cases e:x==m with
   |false=>rfl
   |true=>
    have e1:x=m:=by simpa using e
    have e2:k=.cell:=by simpa using hk
    subst e1 e2;exact absurd p0 h
  ·exact yM r n zn λ z=>h (l7 _ z)
set_option tactic.hygienic true in
theorem yJ{lo:Nat}:∀(names:List (Str×NameKind)) (n:Nat) (zn:List (Str×ww)),lo<=n->((x,NameKind.cell)∈names\/∀c,zn.lookup x=some c->lo<=c)->∀c,(cellsFrom n names zn).lookup x=some c->lo<=c
 |[],_,_,_,h,c,e=>by
  rcases h with h|h
  ·cases h
  ·exact h c e
 |(m,k)::r,n,zn,hn,h,c,e=>by
  unfold cellsFrom at e;split at e
  ·refine yJ r (n+1) _ (by omega) ?_ c e;rcases h with h|h
   ·rcases G0.mp h with q|q
    ·cases q;exact .inr λ c e=>by
      rcases iS e with⟨_,z⟩|⟨z,_⟩
      ·rw[z];exact hn
      ·exact absurd rfl z
    ·exact .inl q
   ·exact .inr λ c e=>by
     rcases iS e with⟨_,z⟩|⟨_,z⟩
     ·rw[z];exact hn
     ·exact h c z
  ·rename_i hk;refine yJ r n zn hn ?_ c e;rcases h with h|h
   ·rcases G0.mp h with q|q
    ·cases q;exact absurd rfl hk
    ·exact .inl q
   ·exact .inr h
section
variable {M:Model}
theorem BJ{globals:ww}{closure:List (Str×ww)}{func:Option ww}{code:jp}{builtins:ww}{Q:Env->kt->Prop} (hQ:Q (newEnv scope s.heap.objs.size globals (cellsFrom (s.heap.objs.size+1) scope.names closure) qual func code (some env) builtins) {s with heap:=pushCells (s.heap.push {cls:=.type "dict",data:=.dict #[]}) scope.names}):wpAny M A (newFunctionEnv scope globals closure [] qual func code (some env) builtins) Q E s:=by simp only[newFunctionEnv,Option.isSome_some,N0];refine K5 (wpAny_alloc ?_);refine K5 (wpAny_layCells _ (λ name kind cells=>by cases hkc:kind==NameKind.cell <;> simp[hkc]) _ _ _ _ ?_);rw[show({s with heap:=s.heap.push {cls:=.type "dict",data:=.dict #[]}}:kt).heap.objs.size=s.heap.objs.size+1 from D4 ..];exact K5 (K6 (K6 hQ))
end
theorem Q3{h1:Heap}(B:kz X scope fr)(L:HJ X scope C h1 cl)(I:be X xz σ H s)(hC:s.heap.objs.size<=C)(f:∀b∈fp,ic X xz H b)(HQ:∀b∈fp,b < s.heap.objs.size): (bI X scope cl tgs fr C fp s H).Ok:=by
 refine⟨I.ok.mod,B.kind,I.ok.glob,I.ok.blt,hC,L.inj,λ x hx=>?_,λ x c h e=>?_,I.ok.hd,I.ok.frames,.inl rfl,λ b hb=>⟨G6 (u3 (HQ b hb) hC),λ x c e=>?_⟩,
  I.bs,H9 I.ok.CV I.sz,λ b o e hb=>?_,λ b hb hs=>?_,I.stack,I.jM⟩
 ·rcases hx with hx|hx
  ·exact L.has x (ir hx (.inl rfl))
  ·exact L.has x (ir hx (.inr rfl))
 ·exact H9 hC (K0 (L.own x c (by simpa[bI]using h) e))
 ·rcases L.look x c e with z|z
  ·exact(f b hb).2.2.2.2.1 x c z
  ·exact λ q=>absurd (s9 hC z.1) (Nat.not_lt.mpr (K0 (q▸HQ b hb)))
 ·rcases(f b hb).2.2.2.1 with z|z
  ·exact I.ok.yf b o e z
  ·exact absurd (u3 (G7 e) (H9 I.ok.CV z)) (D9 _)
 ·rcases G0.mp (I.sG b hs)with z|z
  ·exact(f b hb).2.1 z
  ·exact(f b hb).2.2.1 z
theorem LW{s1:kt}{m:Str->Option jp}(B:kz X scope fr)(L:HJ X scope C s1.heap cl)(I:be X xz σ H s)(hC:s.heap.objs.size<=C)(f:∀b∈fp,ic X xz H b)(HQ:∀b∈fp,b < s.heap.objs.size) (ho:s1.os=s.os) (hg:AllBare s1.gens) (hk:∀b o,s.heap.get? b=some o->s1.heap.get? b=some o) (hn:s1.heap.Ns C m):be (bI X scope cl tgs fr C fp s H) [] (fS tgs.length fr σ) H s1:=by
 refine⟨Q3 B L I hC f HQ,ho,hg,Un.kept hk,⟨m,hn,λ i x v e1 e2 e3=>?_⟩,λ x c e=>?_,I.bj.fresh hC,λ x c e=>?_,λ p hp=>absurd hp (by simp[bI]),I.bj.kept hk,by simp[fS,bI]⟩
 ·-- a free name:ay YO value
  have e1:(tgs++fr.map (λ j=>X.N.getD j ""))[i]?=some x:=e1;have hi:tgs.length<=i:=by refine A2 λ kH=>?_;unfold fS at e2;rw[g9 (by simpa using kH),j1,N3 kH]at e2;cases e2
  unfold fS at e2;rw[c7 (by simpa using hi),l0,x6]at e2;rw[c7 hi,x6]at e1;cases ej:fr[i - tgs.length]? with
  |none=>rw[ej]at e1;cases e1
  |some j=>
   rw[ej]at e1 e2;have Uz:X.N.getD j ""=x:=B7 e1;have ZV:σ.getD j none=some v:=B7 e2;obtain⟨hj,hl⟩:=B.fr j (l8 ej);have hN:X.N[j]?=some x:=by rw[c8,i8 hj]at Uz;rw[i8 hj];exact L8 some Uz
   have hs:σ[j]?=some (some v):=by
    have V7:j < σ.length:=by rw[I.len];exact hj
    rw[c8,i8 V7]at ZV;rw[i8 V7];exact L8 some ZV
   rw[Uz]at hl;obtain⟨m0,Gu,hl0⟩:=I.loc;have Lj:(x,NameKind.free)∈scope.names:=n0 hl;have kinds:=B.has x Lj;obtain⟨u,ru,lu⟩:=hl0 j x v hN hs (by rcases kinds with z|z;exact .inr (.inl z);exact .inr (.inr z));refine⟨u,ru,.inr ⟨oy hl,?_⟩⟩;obtain⟨c,hc⟩:=L.has x (.inl Lj);refine⟨c,hc,?_⟩;rcases lu with⟨kl,_⟩|⟨_,c',GA,z⟩
   ·rcases kinds with z|z <;> (rw[z]at kl;cases kl)
   ·have:c=c':=by have:=L.fre x c hl hc;rw[this]at GA;exact B7 GA
    subst this;obtain⟨o,ho,hd⟩:=z;exact⟨o,hk _ _ ho,hd⟩
 ·rcases L.look x c e with z|z
  ·obtain⟨v,o,ly,hd⟩:=I.cell x c z;exact⟨v,o,hk _ _ ly,hd⟩
  ·exact⟨none,z.2⟩
 ·rcases L.look x c e with z|z
  ·exact I.fv x c z
  ·exact I.bj.fresh (H9 hC (K0 z.1))
theorem Q4{h2:Heap}(B:kz X scope fr)(I:be X xz σ H s)(hs:s.heap.objs.size<=h2.objs.size):HJ X scope h2.objs.size (pushCells (h2.push {cls:=.type "dict",data:=.dict #[]}) scope.names) (cellsFrom (h2.objs.size+1) scope.names (eO X.env.cells scope.names [])):=by
 have look:∀x c,(eO X.env.cells scope.names []).lookup x=some c->X.env.cells.lookup x=some c:=
  jy scope.names [] (λ n hn=>I.ok.has n (B.has n hn)) λ x c e=>by simp at e
 have sz:=D4 h2 {cls:=.type "dict",data:=.dict #[]};refine⟨λ x c e=>?_,yK _ _ _ (λ x c e=>?_) (λ x y c e1 e2=>I.ok.inj x y c (look x c e1) (look y c e2)),λ x h=>?_,λ x c h e=>?_,λ x c h e=>?_⟩
 ·rw[<- sz]at e;rcases uk _ _ _ x c e with z|z
  ·exact .inl (look x c z)
  ·exact .inr ⟨u3 (by rw[sz];exact Nat.lt_succ_self _) z.1,z.2⟩
 ·obtain⟨v,hv⟩:=I.cell x c (look x c e);exact Nat.lt_succ_of_lt (u3 hv.lt hs)
 ·rcases h with h|h
  ·exact nE _ _ _ (Option.isSome_iff_exists.mp (lJ scope.names [] h))
  ·exact yL _ _ _ h
 ·rw[yM _ _ _ λ z=>by have:=B.cells _ z rfl;rw[h]at this;cases this]at e;exact look x c e
 ·exact yJ (lo:=h2.objs.size+1) _ _ _ (K1 _) (.inl (n0 h)) c e
open PySem.Spec PyProof.Rows
section
variable {elt:Expr}{wi:TI}{g:TG}{tt:TT}{te:TE}
theorem toF{M:Model}{t:Sem α}{Q Q':α->kt->Prop}(hE:∀e s,E e s->False)(h:wpAny M A t Q E s)(hQ:∀a s,Q a s->Q' a s):wpAny M A t Q' (λ _ _=>False) s:=
 K9 h hQ hE
theorem rS{xz:List (ww×Obj)}{σ:St}{H:Hp}{s:kt}{R:jp->ww->Result->kt->Prop}{E:jp->kt->Prop}{J:It}{fp:List ww}{it:ww}{tn:Nat->Heap->Prop}{Qe:List V->Hp->Prop} (B:kz X scope fr) (hc:X.calm=true) (hE:∀e s,X.xe e s->False) (hg:∀cl C fp s H,PG (bI X scope cl tgs fr C fp s H) tg g) (gk:jC tgs.length g) (ht:∀cl C fp s H,RA (bI X scope cl tgs fr C fp s H) ifs tt) (he:∀cl C fp s H,PE (bI X scope cl tgs fr C fp s H) elt te) (I:be X xz σ H s) (T:Turn X.prog X.w X.K tg J fp it tn) (st:tn 0 s.heap) (f:∀b∈fp,ic X xz H b) (W:Nat->Nat->List V->Hp->Prop) (m0:Nat) (w0:W 0 m0 [] H) (turn:∀i m zn H,W i m zn H->zn.length<=sizeLine/\((J.stop i H/\Qe zn H)\/(J.go i H/\∃N:List V->Hp->Prop,(∀Hu H',N Hu H'->∃m',m' < m/\W (i+1) m' Hu H')/\∀x H',J.Ic i H x H'->g x (fS tgs.length fr σ) H' λ σ2 H2=>tt σ2 H2 λ b H3=>
   if b=true then te σ2 H3 λ y H4=>N (zn++[y]) H4 else N zn H3)))
  (fin:∀(D C:ww) (s1:kt) (H1:Hp) (zn:List V) (ay:List jp),s.heap.objs.size<=D->s.heap.objs.size<=C->D≠C->be X xz σ H1 s1->H1 C=none->H1 D=none->(∃m,s1.heap.Ns C m)->
   s1.heap.PlainList D ay.toArray->cr zn ay->zn.length<=sizeLine->Qe zn H1->R (.ref D) C (.ok .next) s1):
  wpAny (model X.prog X.w) X.A (newList []) (λ zn s3=>wpAny (model X.prog X.w) X.A (newFunctionEnv scope X.env.globals (eO X.env.cells scope.names []) [] X.env.qual none .none (some X.env)) (λ U0 s4=>
   codeAny (model X.prog X.w) X.A (.compStart (.ListComp elt [⟨tg,iter,ifs,0⟩] scope pos) 0 (.ref it) zn {U0 with scope:=relabel scope X.env}) (R zn U0.locals) s4) E s3) E s:=by
 have HQ:∀b∈fp,b < s.heap.objs.size:=λ b hb=>by obtain⟨o,e,_⟩:=T.obj 0 _ st b hb;exact G7 e
 refine y0 (BJ ?_);dsimp only;generalize Ys:s.heap.push {cls:=.type "list",dict:=none,data:=.seq ([]:List jp).toArray}=H2;have hC:H2.objs.size=s.heap.objs.size+1:=by rw[<- Ys,D4]
 have L0:=Q4 (h2:=H2) B I (by omega);have T5:(pushCells (H2.push {cls:=.type "dict",data:=.dict #[]}) scope.names).Ns H2.objs.size (λ _=>none):=(Heap.Ns.new H2 (.type "dict")).keeps (pushCells_keeps _ _);have XH:∀b o,H2.get? b=some o->(pushCells (H2.push {cls:=.type "dict",data:=.dict #[]}) scope.names).get? b=some o:=λ b o e=>pushCells_keeps _ _ b o (j7 _ e);generalize pushCells (H2.push {cls:=.type "dict",data:=.dict #[]}) scope.names=h1 at L0 T5 XH ⊢;have Qu:s.heap.objs.size≠H2.objs.size:=by omega
 have Lo:s.heap.objs.size<=H2.objs.size:=by omega
 have below:∀b,b < s.heap.objs.size->b≠H2.objs.size/\b≠s.heap.objs.size:=λ b hb=>⟨by omega,by omega⟩;have old:∀b o,s.heap.get? b=some o->h1.get? b=some o:=λ b o e=>XH b o (Ys▸j7 _ e);have Yp:h1.PlainList s.heap.objs.size #[]:=⟨_,XH _ _ (Ys▸n9 _ rfl)⟩;have Zh:tn 0 h1:=T.keep _ _ _ st λ b _ o e=>old b o e;have XA:∀x c,(cellsFrom (H2.objs.size+1) scope.names (eO X.env.cells scope.names [])).lookup x=some c->X.env.cells.lookup x=some c\/H2.objs.size < c:=λ x c e=>(L0.look x c e).imp id λ z=>z.1;generalize cellsFrom (H2.objs.size+1) scope.names (eO X.env.cells scope.names [])=cl at L0 XA ⊢;generalize hCd:H2.objs.size=C at*;generalize Uu:s.heap.objs.size=D at*;have hDs:∀b,b < D->b < s.heap.objs.size:=λ b hb=>by rw[Uu];exact hb
 have fD:=I.lB (b:=D) (H':=H) (J0 Uu) (I.bj.fresh (J0 Uu));have Ml:∀b,b≠X.env.locals->b∉X.fs->b∉je X.stack:=λ b h1 h2 hb=>(G0.mp (I.sG b hb)).elim h1 h2;have Ll:∀b∈fp,b∉je X.stack:=λ b hb=>Ml b (f b hb).2.1 (f b hb).2.2.1;have clt:∀x c,cl.lookup x=some c->c≠D:=λ x c e=>(XA x c e).elim (fD.2.2.2.2.1 x c) λ z q=>absurd (s9 Lo (q▸z)) (D9 _);have loop:∀s3:kt,s3={s with heap:=h1}->
   codeAny (model X.prog X.w) X.A (.compLoop (.ListComp elt [⟨tg,iter,ifs,0⟩] scope pos) 0 (.ref it) (.ref D) (compEnvC scope cl C X.env)) (R (.ref D) C) s3:=by
  rintro s3 rfl;have IY0:be (bI X scope cl tgs fr C fp s H) [] (fS tgs.length fr σ) H {s with heap:=h1}:=
   LW B L0 I (by rw[Uu];exact Lo) f (λ b hb=>hDs b (HQ b hb)) rfl I.bare old T5
  refine ui (λ n s'=>∃(i:Nat) (zn:List V) (ay:List jp) (H':Hp),be (bI X scope cl tgs fr C fp s H) [] (fS tgs.length fr σ) H' s'/\tn i s'.heap/\(∀b∈fp,H' b=none)/\H' D=none/\
   s'.heap.PlainList D ay.toArray/\cr zn ay/\W i n zn H') ?_ m0 ⟨0,[],[],H,IY0,Zh,λ b hb=>(f b hb).1,fD.1,Yp,.nil,w0⟩
  rintro n s3 ⟨i,zn,ay,H3,I3,R4,Ux,hD3,⟨nl,Gq⟩,VQ,w3⟩;obtain⟨hz,h⟩:=turn i n zn H3 w3;have Z':be (bI X scope cl tgs fr C fp s H) [(D,{cls:=.type "list",data:=.seq ay.toArray nl})] (fS tgs.length fr σ) H3 s3:=I3.eS λ p hp=>by
   have e:p=(D,{cls:=.type "list",data:=.seq ay.toArray nl}):=by simpa using hp
   subst e;exact⟨Gq,hD3,Qu,Ml D fD.2.1 fD.2.2.1,λ v e=>by cases e⟩
  have fY:∀{H':Hp},(∀b∈fp,H' b=none)->∀b∈fp,ic (bI X scope cl tgs fr C fp s H) [(D,{cls:=.type "list",data:=.seq ay.toArray nl})] H' b:=λ hn b hb=>
   ⟨hn b hb,(below b (HQ b hb)).1,Ll b hb,.inl hb,λ x c e=>(XA x c e).elim ((f b hb).2.2.2.2.1 x c) λ z q=>absurd (u3 (HQ b hb) (H9 Lo (K0 (q▸z)))) (D9 _),λ p hp=>by
    have e:p=(D,{cls:=.type "list",data:=.seq ay.toArray nl}):=by simpa[bI]using hp
    subst e;exact L9 (below b (HQ b hb)).2⟩
  rcases h with⟨stop,q⟩|⟨go,N,hN,step⟩
  ·refine cm (T.done (bI X scope cl tgs fr C fp s H) rfl rfl rfl hc i _ s3 _ H3 _ Z' (fY Ux) R4 stop) λ r s4 ⟨hr,I4⟩=>?_;subst hr;have pD:=I4.pin (D,{cls:=.type "list",data:=.seq ay.toArray nl}) (by simp);have IX:be X xz σ H3 s4:=I.rT (ch:=fp) I4.os I4.base I4.bj I4.bare λ b hb=>⟨(f b hb).2.2.2.1,(f b hb).2.1,(f b hb).2.2.2.2.1,(f b hb).2.2.2.2.2⟩;obtain⟨m4,hn4,_⟩:=I4.loc;exact fin D C s4 H3 zn ay (K1 _) Lo Qu IX I4.free pD.2.1 ⟨m4,hn4⟩ ⟨nl,pD.1⟩ VQ hz q
  ·refine cm (T.item (bI X scope cl tgs fr C fp s H) rfl rfl rfl hc i _ s3 _ H3 _ Z' (fY Ux) R4 go) λ r s4 ⟨u,hr,h4⟩=>?_;subst hr;refine cm h4 λ _ s5 ⟨x,H5,I5,r5,y5,IE,YA⟩=>?_;have Y7:=I5.pinned (fY YA) (T.obj _ _ IE);refine toF hE (hg _ _ _ _ _ _ s5 _ H5 x u _ Y7 r5 (gk x _ H5 _ (step x H5 y5))) λ _ s6 ⟨σ6,H6,I6,q6,XC,k6⟩=>?_;refine toF hE (ht _ _ _ _ _ _ s6 σ6 H6 _ I6 q6) λ ok s7 ⟨H7,I7,q7⟩=>?_;have wk:∀{H':Hp} {s':kt} {pl:List (ww×Obj)},be (bI X scope cl tgs fr C fp s H) pl σ6 H' s'->be (bI X scope cl tgs fr C fp s H) pl (fS tgs.length fr σ) H' s':=λ J=>
    J.weak XC.symm λ k v e=>by
     by_cases hk:tgs.length<=k
     ·rw[k6 k hk];exact e
     ·unfold fS at e;rw[g9 (by simpa using hk),j1,N3 (by omega)]at e;cases e
   cases ok with
   |false=>simp only[q9,L7]at q7 ⊢;obtain⟨m',hm,w7⟩:=hN _ _ q7;have pD:=I7.pin (D,{cls:=.type "list",data:=.seq ay.toArray nl}) (by simp);refine⟨m',hm,i+1,zn,ay,H7,wk (I7.eS (pins':=[]) λ p hp=>absurd hp (by simp)),T.keep _ _ _ IE λ b hb o e=>(I7.pin (b,o) (k7 _ (k7 _ (dS hb e)))).1,λ b hb=>?_,pD.2.1,⟨nl,pD.1⟩,VQ,w7⟩;obtain⟨o,e,d⟩:=T.obj _ _ IE b hb;exact(I7.pin (b,o) (k7 _ (k7 _ (dS hb e)))).2.1
   |true=>
    simp only[N0]at q7 ⊢;refine toF hE (he _ _ _ _ _ _ s7 σ6 H7 _ I7 q7) λ uy s8 ⟨y,H8,I8,r8,n8⟩=>?_;obtain⟨m',hm,w8⟩:=hN _ _ n8;have pD:=I8.pin (D,{cls:=.type "list",data:=.seq ay.toArray nl}) (by simp);have hits:ay.toArray.size<=sizeLine:=by have:=VQ.length;simp only[y9];omega
    refine wpAny_list_append_plain (hsz:=hits) (show s8.heap.PlainList D ay.toArray from⟨nl,pD.1⟩) λ h9 hl9 Zy=>?_;have I9:be (bI X scope cl tgs fr C fp s H) [] σ6 H8 {s8 with heap:=h9,toks:=s8.toks}:=
     (I8.eS (pins':=[]) λ p hp=>absurd hp (by simp)).turned (it:=D) (λ b o hb e=>Zy.extBut b o hb e) pD.2.1 Qu (.inr (J0 Uu)) clt λ p hp=>absurd hp (by simp[bI])
    refine⟨m',hm,i+1,zn++[y],ay++[uy],H8,wk I9,T.keep _ _ _ IE λ b hb o e=>Zy.extBut b o (below b (HQ b hb)).2 (I8.pin (b,o) (k7 _ (k7 _ (dS hb e)))).1,λ b hb=>?_,pD.2.1,?_,VQ.append (.cons r8 .nil),w8⟩
    ·obtain⟨o,e,d⟩:=T.obj _ _ IE b hb;exact(I8.pin (b,o) (k7 _ (k7 _ (dS hb e)))).2.1
    ·have e:(ay++[uy]).toArray=ay.toArray.push uy:=by simp
     rw[e];exact hl9
 exact codeAny_compStart_list (loop _ rfl) (T.self _ 0 _ _ _ Zh (loop _ rfl))
theorem mY(B:kz X scope fr)(hc:X.calm=true)(hE:∀e s,X.xe e s->False)(hi:PI X tg iter wi) (hg:∀cl C fp s H,PG (bI X scope cl tgs fr C fp s H) tg g) (gk:jC tgs.length g) (ht:∀cl C fp s H,RA (bI X scope cl tgs fr C fp s H) ifs tt) (he:∀cl C fp s H,PE (bI X scope cl tgs fr C fp s H) elt te) (hs:∀x,foldedSetIterable iter X.env x=pure x:=by intro _;rfl):PE X (.ListComp elt [⟨tg,iter,ifs,0⟩] scope pos) (qR wi g tt te tgs.length fr):=by intro xz s σ H Q I h;rw[eval_ListComp];have Cb:=gB (scope:=scope) (env:=X.env) λ n hn=>I.ok.has n (B.has n hn);refine wpAny_comprehension_free (use:=none) rfl hs Cb B.kind B.names (K9 (hi xz s σ H _ I h) (λ xv s1 h1=>K9 h1 (λ V0 s2 h2=>?_) λ _ _ e=>e) λ _ _ e=>e);obtain⟨it,fp,tn,J,H2,rfl,I2,T,R5,f2,W,⟨m0,w0⟩,turn⟩:=h2;refine rS (R:=λ zn C=>compPost (model X.prog X.w) X.A X.xe none (EP X xz σ Q) zn C) (Qe:=λ zn H=>∀p,H p=none->Q (.ref p) (dl H p (.lst zn))) B hc hE hg gk ht he I2 T R5 f2 W m0 w0 turn ?_;intro D C s1 H1 zn ay hD hC Qu I1 nC nD ⟨m,hn⟩ hl rv hz q;refine⟨m,hn,λ h' pq=>?_⟩;have fC:=I2.lB (b:=C) (H':=H1) hC nC;have fD:=I2.lB (b:=D) (H':=H1) hD nD;have I3:be X xz σ H1 {s1 with heap:=h',toks:=s1.toks}:=I1.turned (it:=C) (λ b o hb e=>pq.extBut b o hb e) nC fC.2.1 fC.2.2.2.1 fC.2.2.2.2.1 fC.2.2.2.2.2;obtain⟨k,e⟩:=hl.extBut pq.extBut Qu;exact⟨.ref D,dl H1 D (.lst zn),I3.uP nD ⟨hz,ay,k,rv,e⟩ fD.2.1 (H9 I2.sz hD) fD.2.2.2.2.1 fD.2.2.2.2.2,rfl,q D nD⟩
theorem xW{y:Str}{py ik:Pos}(hN:X.N.Nodup)(hiy:X.N[i]?=some y)(hy:Loc X.env.scope y)(B:kz X scope fr)(hc:X.calm=true)(hE:∀e s,X.xe e s->False)(hi:PI X tg iter wi) (hg:∀cl C fp s H,PG (bI X scope cl tgs fr C fp s H) tg g) (gk:jC tgs.length g) (ht:∀cl C fp s H,RA (bI X scope cl tgs fr C fp s H) ifs tt) (he:∀cl C fp s H,PE (bI X scope cl tgs fr C fp s H) elt te) (hsw:swapsWith (.ListComp elt [⟨tg,iter,ifs,0⟩] scope pos) (some (.Name y py)) ik.line X.env=pure true:=by rfl) (hf:X.fn y=true\/X.env.scope.names.lookup y=some .local:=by first|exact .inl rfl|exact .inr rfl|assumption) (hs:∀x,foldedSetIterable iter X.env x=pure x:=by intro _;rfl):PS X (.Assign [.Name y py] (.ListComp elt [⟨tg,iter,ifs,0⟩] scope pos) ik) (IC (qR wi g tt te tgs.length fr) (fu i)):=by
 intro xz s σ H D0 I h;rw[exec_Assign_Name_used _ _ _ _ hsw];have Cb:=gB (scope:=scope) (env:=X.env) λ n hn=>I.ok.has n (B.has n hn);refine K5 (G4 (K5 ?_));show wpAny _ X.A (do let _ <- comprehension (.ListComp elt [⟨tg,iter,ifs,0⟩] scope pos) scope X.env _ (newList []) false (eval iter X.env) (some (assign (.Name y py) X.env))) _ _ s;refine K5 (K9 (wpAny_comprehension_free (use:=some (assign (.Name y py) X.env)) (Q:=λ _ s'=>SP X xz D0 .next s') rfl hs Cb B.kind B.names
  (K9 (hi xz s σ H _ I h) (λ xv s1 h1=>K9 h1 (λ V0 s2 h2=>?_) λ _ _ e=>e) λ _ _ e=>e)) (λ _ s' hq=>K6 (K6 hq)) λ _ _ e=>e)
 obtain⟨it,fp,tn,J,H2,rfl,I2,T,R5,f2,W,⟨m0,w0⟩,turn⟩:=h2;refine rS (R:=λ zn C=>compPost (model X.prog X.w) X.A X.xe (some (assign (.Name y py) X.env)) (λ _ s'=>SP X xz D0 .next s') zn C) (Qe:=λ zn H=>∀p,H p=none->fu i (.ref p) σ (dl H p (.lst zn)) D0.nx) B hc hE hg gk ht he I2 T R5 f2 W m0 w0 turn ?_;intro D C s1 H1 zn ay hD hC Qu I1 nC nD ⟨m,hn⟩ hl rv hz q;have fC:=I2.lB (b:=C) (H':=H1) hC nC;have fD:=I2.lB (b:=D) (H':=H1) hD nD;obtain⟨k,e⟩:=hl;have I3:be X xz σ (dl H1 D (.lst zn)) s1:=I1.uP nD ⟨hz,ay,k,rv,e⟩ fD.2.1 (H9 I2.sz hD) fD.2.2.2.2.1 fD.2.2.2.2.2;show wpAny _ X.A (assign (.Name y py) X.env (.ref D)) _ _ s1;refine wpAny_assign_Name (qS I3 hN hiy hy (show bv (.ref D) (.ref D)from rfl) (λ s2 J2 ⟨a,hsb,ha⟩=>?_) hf);have aC:C≠a:=by
  rcases ha with z|z
  ·rw[z];exact fC.2.1
  ·exact L9 (fC.2.2.2.2.1 _ _ z)
 refine⟨m,hn.sameBut hsb aC,λ h' pq=>?_⟩;have nC':(dl H1 D (.lst zn)) C=none:=by rw[aB (L9 Qu)];exact nC
 have I4:be X xz (σ.set i (some (.ref D))) (dl H1 D (.lst zn)) {s2 with heap:=h',toks:=s2.toks}:=J2.turned (it:=C) (λ b o hb e=>pq.extBut b o hb e) nC' fC.2.1 fC.2.2.2.1 fC.2.2.2.2.1 fC.2.2.2.2.2;exact⟨_,_,I4,q D nD⟩
end
open PySem.Spec PyProof.Rows
def cS(x:Str)(lo hi:Option Int):Str:=⟨((x.cps.toList.drop (HT.bS x.length 0 lo)).take (HT.bS x.length x.length hi - HT.bS x.length 0 lo)).toArray⟩
theorem nA(x:Str)(lo hi:Option Int):(cS x lo hi).length<=x.length:=by show((x.cps.toList.drop (HT.bS x.length 0 lo)).take (HT.bS x.length x.length hi - HT.bS x.length 0 lo)).toArray.size<=x.cps.size;rw[y9,A8,A4,n6];omega
theorem Dz(lo hi:Option Int)(n:Nat):Builtin.Str.strSliceIndices lo hi 1 n=sliceRange ((HT.bS n 0 lo:Nat):Int) ((HT.bS n n hi:Nat):Int) 1:=by obtain⟨h1,h2,h3⟩:=jO lo hi n;rw[<- h1,<- h2];rfl
set_option tactic.hygienic true in
theorem Bh(x:Str)(lo hi:Option Int):Txt.slice x lo hi=cS x lo hi:=by
 have e:((Builtin.Str.strSliceIndices lo hi 1 x.length).filterMap (x.cps[·]?)).toArray=(cS x lo hi).cps:=by rw[Dz,sliceRange_one,pick_run];rfl
 unfold Txt.slice;split
 ·rename_i h;have hl:(Builtin.Str.strSliceIndices lo hi 1 x.length).length=x.length:=by simpa using h
  rw[Dz,sliceRange_one,C2,y7]at hl;have b1:=HT.xO x.length 0 (K3 _) lo;have b2:=HT.xO x.length x.length (K1 _) hi;have hlen:x.cps.toList.length=x.length:=by simp[Str.length]
  unfold cS;by_cases h0:x.length=0
  ·have:x.cps.toList=[]:=j3.mp (by omega);rw[this];cases x with
   |mk c=>simp at this;subst this;simp
  ·have ea:HT.bS x.length 0 lo=0:=by omega
   have eb:HT.bS x.length x.length hi=x.length:=by omega
   rw[ea,eb,drop_zero,Nat.sub_zero,j4 (by omega)]
 ·exact L8 Str.mk e
def W7:V->Option Int->Option Int->Hp->VK->Prop:=λ x lo hi H Q=>∃z,x=.str z/\z.length<=sizeLine/\Q (.str (cS z lo hi)) H
theorem yu{h:Heap}{sl:ww}{vl vu:jp}{lo hi:Option Int}(hs:h.IsSliceOf sl vl vu .none)(pl:IsPart vl lo)(pu:IsPart vu hi):∃l u:Option (Int×Tok),h.IsSlice sl l u none/\l.map (·.1)=lo/\u.map (·.1)=hi:=by
 cases pl with
 |none=>
  cases pu with
  |none=>exact⟨none,none,hs,rfl,rfl⟩
  |int i t=>exact⟨none,some (i,t),hs,rfl,rfl⟩
 |int i t=>
  cases pu with
  |none=>exact⟨some (i,t),none,hs,rfl,rfl⟩
  |int j u=>exact⟨some (i,t),some (j,u),hs,rfl,rfl⟩
theorem NG:AM X W7:=by intro xz s σ H x v vl vu lo hi sl Q I rx hs pl pu h;obtain⟨z,rfl,hz,q⟩:=h;obtain⟨t,rfl⟩:=rx;obtain⟨l,u,Rq,rfl,rfl⟩:=yu hs pl pu;refine⟨"str",_,PySem.F.slot_str_getitem.lookup,typeIs_str _ _ _,wpAny_getItem_str_slice (l:=l) (u:=u) (st:=none) Rq rfl ?_⟩;rw[<- Bh]at q;exact post_val_or_str ⟨H9 (Txt.slice_le z _ _) hz,λ t' k=>⟨.str (Txt.slice z (l.map (·.1)) (u.map (·.1))),H,I.tok k,⟨_,rfl⟩,q⟩⟩
theorem BA:fG X (compareOp .LtE) (λ x y H Q=>∃i j,x=.str i/\y=.str j/\Q (.bl (!decide (j.cps.toList < i.cps.toList))) H):=by intro xz s σ H x y v u Q I rx ry h;obtain⟨i,j,rfl,rfl,q⟩:=h;obtain⟨t,rfl⟩:=rx;obtain⟨t',rfl⟩:=ry;exact PySem.P.le_str ⟨.bl (!decide (j.cps.toList < i.cps.toList)),H,I,rfl,q⟩
theorem xE:∀{us:List jp},cr (ys.map V.str) us->StrsAre us ys:=by
 induction ys with
 |nil=>intro us r;rw[map_nil]at r;cases r;exact .nil
 |cons n ns ih=>
  intro us r;rw[F9]at r;cases r with
  |cons r1 r2=>obtain⟨t,e⟩:=r1;subst e;exact .cons n t (ih r2)
def rJoin(K:N5):V->List V->Hp->VK->Prop:=λ x vs H Q=>∃(z:Str) (p:ww) (ys:List Str),x=.str z/\vs=[.ref p]/\dr K H p (ys.map V.str)/\(ys.map (·.length)).sum+ys.length*z.length<=16777216/\Q (.str (Txt.join z ys)) H
theorem Kz:RB X "str.join" (rJoin X.K):=by intro xz s σ H x xs v us Q I rx r h;obtain⟨z,p,ys,rfl,rfl,hq,hz,q⟩:=h;obtain⟨t,rfl⟩:=rx;obtain⟨u,rfl,r1⟩:=cr.one r;cases r1;obtain⟨ay,rv,pl,_⟩:=I.list hq;exact join_list pl.isList (by simpa using xE rv) hz λ t' k=>⟨.str (Txt.join z ys),H,I.tok k,⟨_,rfl⟩,q⟩
def Su:R2:=λ x y H Q=>∃z n,x=.str z/\y=.int n/\MulOk z n/\Q (.str (Txt.mul z n)) H
theorem xZ:fG X (binaryOp .Mult) Su:=by intro xz s σ H x y v u Q I rx ry h;obtain⟨z,n,rfl,rfl,bj,q⟩:=h;obtain⟨t,rfl⟩:=rx;obtain⟨t',rfl⟩:=ry;exact SB.mul bj λ t' k=>⟨.str (Txt.mul z n),H,I.tok k,⟨_,rfl⟩,q⟩
theorem wJ(hc:X.calm=true):cL X (.builtin "all") (λ xs H Q=>∃(p:ww) (bs:List Bool),xs=[.ref p]/\dr X.K H p (bs.map V.bl)/\Q (.bl (bs.all id)) H):=by
 intro xz s σ H xs us Q I r h;obtain⟨p,bs,rfl,hq,q⟩:=h;obtain⟨u,rfl,r1⟩:=vals1 r;cases r1;obtain⟨ay,rv,pl,hz⟩:=I.list hq;refine call_all_walk (y6 pl.isList ?_);have eh:p≠s.heap.objs.size:=by obtain⟨o,n,e,_⟩:=pl;exact G6 (G7 e)
 have hlen:ay.length=bs.length:=by rw[<- rv.length,C2]
 refine⟨s.heap.objs.size,_,_,_,_,_,λ i=>(bs[i]?).getD false,rfl,Walks.list (A:=X.A.in1) (show X.A.in1.handled=none from I.ok.hd hc) s.heap.objs.size p eh ay.toArray,⟨⟨_,n9 _ rfl,rfl,rfl⟩,pl.isList.at λ o e=>j7 _ e⟩,?_,λ h' tk hk=>?_⟩
 ·intro i v s' Q' E' hP hQ;have ZN:ay[i]?=some v:=by simpa using hP
  have hi:i < bs.length:=by rw[<- hlen];exact(i5.mp ZN).1
  have hb:(bs.map V.bl)[i]?=some (V.bl bs[i]):=by simp[hi]
  obtain⟨u,hu,ru⟩:=rv.get hb;rw[ZN]at hu;cases hu;have e:v=Value.bool bs[i]:=ru;subst e;have:(bs[i]?).getD false=bs[i]:=by simp[hi]
  dsimp only at hQ;rw[this]at hQ;exact y4 hQ
 ·refine⟨.bl (bs.all id),H,I.kept (t':=tk) λ b o e=>hk b o (by simpa using G6 (G7 e)) (j7 _ e),?_,q⟩;show Value.bool _=Value.bool _;congr 1;rw[y9,hlen];rw[B1];simp only[B0,mem_range,id];constructor
  ·intro h b hb;obtain⟨i,hi,rfl⟩:=mem_iff_getElem.mp hb;have:=h i hi;simpa[hi]using this
  ·intro h i hi;simpa[hi]using h bs[i] (A9 hi)
def RC(x:Str):It:=⟨λ i _=>i < x.cps.size,λ i H v H'=>H'=H/\∃c,x.cps[i]?=some c/\v=.str ⟨#[c]⟩,λ i _=>i=x.cps.size⟩
theorem uO(it:ww)(x:Str)(t:Tok)(ty:String)(hty:["enumerate","zip","dict_itemiterator","dict_reverseitemiterator","odict_iterator","itertools.zip_longest","itertools.pairwise"].contains ty=false) (W:∀A':Around,A'.handled=none->Walks P w A' it [it] [it] x.cps.size (SignAt x) (λ i h=>h.IsStrIter it ty x t i)) (self:∀(A:Around) (i:Nat) (s:kt) (Q:jp->kt->Prop) (E:jp->kt->Prop),s.heap.IsStrIter it ty x t i->Q (.ref it) s->wpAny (model P w) A (pyIter (.ref it)) Q E s):Turn P w K tg (RC x) [it] it (λ i h=>h.IsStrIter it ty x t i) where
 mem:=by simp
 obj:=λ i h st b hb=>by
  have e:b=it:=by simpa using hb
  subst e;obtain⟨o,e,c,d⟩:=st;exact⟨o,e,λ v z=>by rw[d]at z;cases z⟩
 keep:=λ i h h' st k=>by obtain⟨o,e,c,d⟩:=st;exact⟨o,k it (by simp) o e,c,d⟩
 item:=by intro X hP hw hK hc i xz s σ H E I hf st hg;subst hP hw hK;obtain⟨f0,f1,f2,f3,f4,f5⟩:=hf it (by simp);refine(W X.A (I.ok.hd hc)).item i s _ _ hg st λ v h' tk hv xa kk=>?_;obtain⟨c,u,hx,rfl⟩:=hv;have I1:be X xz σ H {s with heap:=h',toks:=tk}:=I.turned (λ b o hb e=>kk b o (by simpa using hb) e) f0 f1 f3 f4 f5;obtain⟨o,e,cc,d⟩:=id xa;exact⟨_,rfl,Aj (s:={s with heap:=h',toks:=tk}) e cc d hty ⟨.str ⟨#[c]⟩,H,I1,⟨u,rfl⟩,⟨rfl,c,hx,rfl⟩,xa,λ b hb=>(hf b hb).1⟩⟩
 done:=by intro X hP hw hK hc i xz s σ H E I hf st hg;subst hP hw hK;obtain⟨f0,f1,f2,f3,f4,f5⟩:=hf it (by simp);have hg:i=x.cps.size:=hg;subst hg;exact(W X.A (I.ok.hd hc)).done s _ _ st λ h' tk kk=>⟨rfl,I.turned (λ b o hb e=>kk b o (by simpa using hb) e) f0 f1 f3 f4 f5⟩
 self:=self
open PySem.Spec PyProof.Rows
theorem yW.imp{r r':R2}(h:yW X r)(k:∀x y H Q,r' x y H Q->r x y H Q):yW X r':=λ value slice xz s σ H x y v u Q I rx ry q=>h value slice xz s σ H x y v u Q I rx ry (k x y H Q q)
theorem AM.imp{r r':V->Option Int->Option Int->Hp->VK->Prop}(h:AM X r)(k:∀x lo hi H Q,r' x lo hi H Q->r x lo hi H Q):AM X r':=
 λ xz s σ H x v vl vu lo hi sl Q I rx hs pl pu q=>h xz s σ H x v vl vu lo hi sl Q I rx hs pl pu (k x lo hi H Q q)
def aIx(K:N5):R2:=λ x y H Q=>match x,y with
 | .ref p,.int i=>∃xs v,(dr K H p xs\/gh K H p xs)/\fE xs i=some v/\Q v H
 | .str z,.int i=>z.length<=sizeLine/\∃c,fE z.cps.toList i=some c/\Q (.str ⟨#[c]⟩) H
 |_,_=>False
theorem bw:yW X (aIx X.K):=PZ.imp λ x y H Q q=>by
 cases x <;> cases y <;> first
  |exact False.elim q
  |(obtain⟨xs,v,h|h,e,q⟩:=q
    ·exact .inl ⟨_,xs,_,v,rfl,rfl,h,e,q⟩
    ·exact .inr (.inl ⟨_,xs,_,v,rfl,rfl,h,e,q⟩))
  |(obtain⟨hz,c,e,q⟩:=q
    exact .inr (.inr ⟨_,_,c,rfl,rfl,hz,e,q⟩))
def aSl(K:N5):V->Option Int->Option Int->Hp->VK->Prop:=λ x lo hi H Q=>match x with
 | .str z=>z.length<=sizeLine/\Q (.str (cS z lo hi)) H
 | .ref a=>Sr K (.ref a) lo hi H Q\/So K (.ref a) lo hi H Q
 |_=>False
theorem qo:AM X (aSl X.K):=(NG.or (IL.or NF)).imp λ x lo hi H Q q=>by cases x <;> first|exact False.elim q|exact .inl ⟨_,rfl,q⟩|exact .inr q
open PySem.Spec PyProof.Rows
structure br(P:Program)(w:World)(K:N5)(mg:Str->Option jp)(base:Heap)(k:Nat)(x:Str)(ps:List Str)(sp:Sp):Prop where
 ex:∃(f:ww) (fd:FuncData),bo P w K mg base dJ k f fd ps sp/\mg x=some (.ref f)/\PySem.W.keepIn K (.ref f)=true/\Binds K fd ps []
theorem br.of(F:dH K x qual st f fd)(G:bo P w K mg base dJ k f fd ps sp)(hm:mg x=some (.ref f))(b:Binds K fd ps []):br P w K mg base k x ps sp:=⟨f,fd,G,hm,F.kp,b⟩
def tD(sp:Sp)(t:TA):TE:=λ σ H Q=>t σ H λ vs H1=>sp vs H1 Q E0
section
variable {p:Pos}{t:TA}
theorem O6(d:br X.prog X.w X.K X.mg X.base k x ps sp)(hr:bJ k X.A)(hg:Gl X x)(ha:PA X (e::es) t)(hdb:(x==("__debug__":Str))=false:=by decide)(he:starEach (e::es) X.env=(false,eval e X.env)::starEach es X.env:=by rfl) (hpl:(backTo pos (starEach es X.env)).any (·.1)=false:=by rfl):PE X (.Call (.Name x p) (e::es) [] pos) (tD sp t):=by
 obtain⟨f,fd,G,hm,kp,b⟩:=d.ex;intro xz s σ H Q I h;have h':Mj sp [] E0 t σ H Q:=by
  show t σ H λ vs H1=>sp (vs++[]) H1 Q E0;have e:(λ(vs:List V) (H1:Hp)=>sp (vs++[]) H1 Q E0)=λ vs H1=>sp vs H1 Q E0:=by funext vs H1;rw[B2]
  rw[e];exact h
 exact zJ (E:=E0) G hr hg hm kp b .nil S4 ha hdb he hpl xz s σ H Q I h'
end
def wK(X:Cx)(scope:Scope)(fr:List Nat):Bool:=
 (scope.kind==.function)&&(scope.names.all λ y=>(y.2 != .cell||scope.names.lookup y.1==some .cell)&&(y.2 != .local||scope.names.lookup y.1==some .local)&&(y.2 != .free||X.env.kindOf y.1==some .cell||X.env.kindOf y.1==some .free))&&
 (fr.all λ j=>decide (j < X.N.length)&&scope.names.lookup (X.N.getD j "")==some .free)
theorem bM(h:wK X scope fr=true):kz X scope fr:=by
 unfold wK at h;rw[A7,A7]at h;obtain⟨⟨h1,h2⟩,h3⟩:=h;rw[B0]at h2 h3;refine⟨by simpa using h1,λ y hy hl=>?_,λ y hy hl=>?_,λ n hn=>?_,λ j hj=>?_⟩
 ·have:=h2 y hy;simp only[A7]at this;have:=this.1.1;rw[hl]at this;simpa using this
 ·have:=h2 y hy;simp only[A7]at this;have:=this.1.2;rw[hl]at this;simpa using this
 ·have:=h2 _ hn;simp only[A7]at this;have:=this.2;simpa using this
 ·have:=h3 j hj;rw[A7]at this;exact⟨by simpa using this.1,by simpa using this.2⟩
def XQ(K:N5)(tl:TE):TI:=λ σ H R=>tl σ H λ x H1=>match x with
 | .str z=>R (RC z) H1
 | .ref a=>(∃xs,dr K H1 a xs/\R (Wk K a) H1)\/(∃xs,gh K H1 a xs/\R (Y4 K a) H1)
 |_=>False
theorem O2{l:Expr}{tl:TE}(hl:PE X l tl):PI X tg l (XQ X.K tl):=by
 intro xz s σ H R I h;have B':PE X l (λ σ' H' Q=>Q=Q/\tl σ' H' Q):=λ xz s σ H Q I q=>hl xz s σ H Q I q.2;refine cm (hl xz s σ H _ I h) λ v s1 ⟨x,H1,I1,r1,q1⟩=>?_;have fp:∀b∈[s1.heap.objs.size],ic X xz H1 b:=λ b hb=>by
  have e:b=s1.heap.objs.size:=by simpa using hb
  subst e;exact I1.lB (K1 _) (I1.bj.fresh (K1 _))
 cases x with
 |str z=>
  have q:R (RC z) H1:=q1;obtain⟨t,rfl⟩:=r1;cases ha:z.cps.all (· < 128)
  ·exact wpAny_pyIter_wide ha ⟨s1.heap.objs.size,[s1.heap.objs.size],_,RC z,H1,rfl,I1.kept (t':=s1.toks) λ b o e=>j7 _ e,uO _ z t "str_iterator" (by decide) (λ A' hA=>Walks.strWide hA _ z t) (λ _ _ _ _ _ st h=>wpAny_pyIter_striter_wide st h),⟨_,n9 _ rfl,rfl,rfl⟩,fp,q⟩
  ·exact wpAny_pyIter_ascii ha ⟨s1.heap.objs.size,[s1.heap.objs.size],_,RC z,H1,rfl,I1.kept (t':=s1.toks) λ b o e=>j7 _ e,uO _ z t "str_ascii_iterator" (by decide) (λ A' hA=>Walks.strAscii hA _ z t) (λ _ _ _ _ _ st h=>wpAny_pyIter_striter_ascii st h),⟨_,n9 _ rfl,rfl,rfl⟩,fp,q⟩
 |ref a=>
  cases(show v=Value.ref a from r1);rcases q1 with⟨xs,hq,q⟩|⟨xs,hq,q⟩
  ·obtain⟨ay,rv,p,hz⟩:=I1.list hq;exact y6 p.isList ⟨s1.heap.objs.size,[s1.heap.objs.size],_,_,H1,rfl,I1.kept (t':=s1.toks) λ b o e=>j7 _ e,A_ a _,⟨_,n9 _ rfl,rfl,rfl⟩,fp,q⟩
  ·obtain⟨ay,rv,p,hz⟩:=I1.tuple hq;exact wpAny_pyIter_tuple (show s1.heap.IsTuple a ay.toArray from p) ⟨s1.heap.objs.size,[s1.heap.objs.size],_,_,H1,rfl,I1.kept (t':=s1.toks) λ b o e=>j7 _ e,xx a _,⟨_,n9 _ rfl,rfl,rfl⟩,fp,q⟩
 |_=>exact False.elim q1
open PySem.Spec PyProof.Rows
inductive IK where
 |i (n:Int)
 |t (ks:List IK)
noncomputable instance:DecidableEq IK:=λ a b=>Classical.propDecidable (a=b)
mutual
def IK.dep:IK->Nat
 | .i _=>0
 | .t ks=>IK.pJ ks+1
def IK.pJ:List IK->Nat
 |[]=>0
 |k::ks=>max k.dep (IK.pJ ks)
end
mutual
def Gi:IK->Int
 | .i n=>hashInt n
 | .t ks=>reduceHash (Builtin.Tuple.tupleHashOf (tT ks))
def tT:List IK->List Int
 |[]=>[]
 |k::ks=>Gi k::tT ks
end
mutual
def CS:IK->Nat
 | .i _=>1
 | .t ks=>iH ks+1
def iH:List IK->Nat
 |[]=>0
 |k::ks=>CS k+iH ks
end
def b2i(b:Bool):Int:=if b then 1 else 0
mutual
def dE(h:Heap):IK->jp->Prop
 | .i n,v=>(∃t,v=.int n t)\/∃b:Bool,v=.bool b/\n=b2i b
 | .t ks,v=>∃(a:ww) (o:Obj) (ay:List jp) (n:Nat),v=.ref a/\h.get? a=some o/\o.cls=.type "tuple"/\o.data=.seq ay.toArray n/\cD h ks ay
def cD(h:Heap):List IK->List jp->Prop
 |[],vs=>vs=[]
 |k::ks,vs=>∃v r,vs=v::r/\dE h k v/\cD h ks r
end
mutual
def xf:IK->PyData->Prop
 | .i n,d=>d=.int n\/∃b:Bool,d=.bool b/\n=b2i b
 | .t ks,d=>∃ds,d=.tuple ds/\iF ks ds
def iF:List IK->List PyData->Prop
 |[],ds=>ds=[]
 |k::ks,ds=>∃d r,ds=d::r/\xf k d/\iF ks r
end
theorem vR:∀ks:List IK,tT ks=ks.map Gi
 |[]=>by unfold tT;rfl
 |k::ks=>by unfold tT;rw[vR ks];rfl
theorem vQ:∀(ks ls:List IK),iH (ks++ls)=iH ks+iH ls
 |[],ls=>by rw[nil_append];unfold iH;split <;> omega
 |k::ks,ls=>by rw[cons_append];have:=vQ ks ls;show CS k+iH (ks++ls)=CS k+iH ks+iH ls;omega
theorem Gg(k:IK):iH [k]=CS k:=by show CS k+iH []=CS k;unfold iH;omega
theorem Gh:iH []=0:=by unfold iH;rfl
theorem kj:∀{ks:List IK} {k:IK},k∈ks->k.dep<=IK.pJ ks
 |k0::ks,k,h=>by
  show k.dep<=max k0.dep (IK.pJ ks);rcases G0.mp h with rfl|h
  ·exact Nat.le_max_left _ _
  ·exact H9 (kj h) (Nat.le_max_right _ _)
theorem rF{Q:Int->kt->Prop}(h:Q (hashInt (b2i b)) {s with toks:=s.toks+1}):wpAny (model prog w) A (pyHash (.bool b)) Q E s:=by have hT:s.TypeIs (.bool b) "bool":=rfl;have hr:=rawHash_range (b2i b);unfold pyHash;have hv:[Value.bool b].any Value.onHeap=false:=rfl;refine K5 ?_;rw[cRoomFor,N4 (by rw[hv];exact p9)];refine K6 ?_;refine K5 (C6 hT F.slot_bool_hash.lookup ?_);show wpAny _ _ (if(some (Value.builtin "int.__hash__")==some Value.none)=true then _ else _) Q E s;rw[N4 (by rw[beq_builtin_none];exact p9)];refine K5 (C6 hT F.slot_bool_hash.lookup ?_);show wpAny _ _ (callSpecialIfBoundUnlessNone? (.bool b) "__hash__" _ >>= _) Q E s;refine K5 (wpAny_callSpecialIfBoundUnlessNone?_slot hT F.slot_bool_hash (A6 F.slot_bool_hash hT entry_int_hash (show wpAny _ _ (do ret (<- mkInt (rawHash (b2i b)))) _ _ s from wpAny_ret_mkInt ?_) (args_int_hash _)));show wpAny _ _ (if(decide (-(2:Int)^63<=rawHash (b2i b))&&decide (rawHash (b2i b) < 2^63))=true then _ else _) Q E _;rw[N3 (by rw[D1 hr.1,D1 hr.2];rfl)];exact K6 h
theorem Lf:∀(n:Nat) (k:IK),k.dep<=n->∀{A:Around} {E:jp->kt->Prop} {s:kt} {v:jp} {Q:Int->kt->Prop},A.units+k.dep < cLine->dE s.heap k v->Q (Gi k) {s with toks:=s.toks+CS k}->wpAny (model prog w) A (pyHash v) Q E s:=by
 intro n
 induction n with
 |zero=>
  intro k hk A E s v Q hu hi h;cases k with
  |i m=>
   unfold dE at hi;unfold Gi CS at h;rcases hi with⟨t,rfl⟩|⟨b,rfl,rfl⟩
   ·exact wpAny_pyHash_int h
   ·exact rF h
  |t ks=>unfold IK.dep at hk;omega
 |succ n ih=>
  intro k hk A E s v Q hu hi h;cases k with
  |i m=>
   unfold dE at hi;unfold Gi CS at h;rcases hi with⟨t,rfl⟩|⟨b,rfl,rfl⟩
   ·exact wpAny_pyHash_int h
   ·exact rF h
  |t ks=>
   unfold dE at hi;obtain⟨a,o,ay,m,rfl,ho,hc,hd,hits⟩:=hi;have pz:IK.pJ ks<=n:=by unfold IK.dep at hk;omega
   have Zw:A.units+(IK.pJ ks+1) < cLine:=by unfold IK.dep at hu;exact hu
   have hT:s.TypeIs (.ref a) "tuple":=⟨o,ho,hc⟩;unfold pyHash;(first|unfold pyHashByItsType|skip);(first|refine K5 (wpAny_cRoomFor_or (.inr (show A.units < cLine by omega)) ?_)|skip);refine K5 (C6 hT F.slot_tuple_hash.lookup ?_);show wpAny _ _ (if(some (Value.builtin "tuple.__hash__")==some Value.none)=true then _ else _) Q E s;rw[N4 (by rw[beq_builtin_none];exact p9)];refine K5 (C6 hT F.slot_tuple_hash.lookup ?_);show wpAny _ _ (callSpecialIfBoundUnlessNone? (.ref a) "__hash__" _ >>= _) Q E s;refine K5 (wpAny_callSpecialIfBoundUnlessNone?_slot hT F.slot_tuple_hash (A6 F.slot_tuple_hash hT F.entry_tuple_hash ?_ (F.args_tuple_hash_1 _)));show wpAny _ _ (Builtin.Tuple.tupleItemsOf (.ref a) >>= _) _ _ s;refine K5 (wpAny_tupleItemsOf ho hd (K5 ?_));rw[<- w6];refine wpAny_forIn_list _ (λ rest (b:Array Int) s'=>∃done left,ks=done++left/\cD s.heap left rest/\b.toList=done.map Gi/\s'={s with toks:=s.toks+iH done}) _ ?_ ?_ _ _ ⟨[],ks,rfl,hits,rfl,by rw[Gh];rfl⟩
   ·rintro x rest b s' ⟨done,left,rfl,hl,hb,rfl⟩;cases left with
    |nil=>unfold cD at hl;cases hl
    |cons k1 left=>
     unfold cD at hl;obtain⟨v,r,e,h1,h2⟩:=hl;cases e;have hm:=kj (ks:=done++k1::left) (k:=k1) (by simp);refine K5 (ih k1 (by omega) (A:=A.in1) (show A.units+1+_ < cLine by omega) h1 ?_);have fin:∃d2 l2,done++k1::left=d2++l2/\cD s.heap l2 rest/\(b.push (Gi k1)).toList=d2.map Gi/\({s with toks:=s.toks+iH done+CS k1}:kt)={s with toks:=s.toks+iH d2}:=
      ⟨done++[k1],left,by simp,h2,by simp[hb],by rw[vQ,Gg,Nat.add_assoc]⟩
     first|exact K6 fin|exact K5 (K6 (K6 fin))
   ·rintro b s' ⟨done,left,rfl,hl,hb,rfl⟩;cases left with
    |cons k1 left=>unfold cD at hl;obtain⟨v,r,e,_⟩:=hl;cases e
    |nil=>
     rw[B2]at h;show wpAny _ _ (retInt (Builtin.Tuple.tupleHashOf b.toList)) _ _ _;rw[hb,<- vR];refine wpAny_ret_mkInt ?_;show wpAny _ _ (if(decide (-(2:Int)^63<=Builtin.Tuple.tupleHashOf (tT done))&&decide (Builtin.Tuple.tupleHashOf (tT done) < 2^63))=true then _ else _) Q E _;unfold Gi CS reduceHash at h;by_cases hr:(decide (-(2:Int)^63<=Builtin.Tuple.tupleHashOf (tT done))&&decide (Builtin.Tuple.tupleHashOf (tT done) < 2^63))=true
     ·rw[N3 hr]at h ⊢;exact K6 (by simpa[Nat.add_assoc]using h)
     ·rw[N4 hr]at h ⊢;exact K5 (K7 (K6 (by simpa[Nat.add_assoc]using h)))
open PySem.Spec PyProof.Rows
mutual
theorem pj{h:Heap}:∀(k:IK) {v:jp},dE h k v->∃d as,xf k d/\Reads h v d as
 | .i n,v,x=>by
  unfold dE at x;unfold xf;rcases x with⟨t,rfl⟩|⟨b,rfl,rfl⟩
  ·exact⟨_,_,.inl rfl,Reads.int n t⟩
  ·exact⟨_,_,.inr ⟨b,rfl,rfl⟩,Reads.bool b⟩
 | .t ks,v,x=>by unfold dE at x;obtain⟨a,o,ay,n,rfl,ho,hc,hd,q⟩:=x;obtain⟨ds,as,p,r⟩:=rC ks q;unfold xf;exact⟨_,_,⟨ds,rfl,p⟩,reads_tuple_at ho hc hd (by simpa using r)⟩
theorem rC{h:Heap}:∀(ks:List IK) {vs:List jp},cD h ks vs->∃ds as,iF ks ds/\ReadsAll h vs ds as
 |[],vs,x=>by unfold cD at x;subst x;unfold iF;exact⟨_,_,rfl,ReadsAll.nil⟩
 |k::ks,vs,x=>by unfold cD at x;obtain⟨v,r,rfl,h1,h2⟩:=x;obtain⟨d,as,p,a⟩:=pj k h1;obtain⟨ds,bs,q,b⟩:=rC ks h2;unfold iF;exact⟨_,_,⟨d,ds,rfl,p,q⟩,ReadsAll.cons a b⟩
end
mutual
theorem yw:∀(k:IK) {d:PyData},xf k d->d.canLay0=true
 | .i n,d,x=>by unfold xf at x;rcases x with rfl|⟨b,rfl,_⟩ <;> simp[PyData.canLay0]
 | .t ks,d,x=>by unfold xf at x;obtain⟨ds,rfl,q⟩:=x;simp only[PyData.canLay0];exact Ad ks q
theorem Ad:∀(ks:List IK) {ds:List PyData},iF ks ds->PyData.canLayAll0 ds=true
 |[],ds,x=>by unfold iF at x;subst x;simp[PyData.canLayAll0]
 |k::ks,ds,x=>by unfold iF at x;obtain⟨d,r,rfl,p,q⟩:=x;simp only[PyData.canLayAll0];rw[yw k p,Ad ks q];rfl
end
mutual
theorem yx:∀(k:IK) {d:PyData},xf k d->d.depth=k.dep
 | .i n,d,x=>by unfold xf at x;unfold IK.dep;rcases x with rfl|⟨b,rfl,_⟩ <;> simp[PyData.depth]
 | .t ks,d,x=>by unfold xf at x;obtain⟨ds,rfl,q⟩:=x;unfold IK.dep;simp only[PyData.depth];rw[Ae ks q]
theorem Ae:∀(ks:List IK) {ds:List PyData},iF ks ds->PyData.depthAll ds=IK.pJ ks
 |[],ds,x=>by unfold iF at x;subst x;unfold IK.pJ;simp[PyData.depthAll]
 |k::ks,ds,x=>by unfold iF at x;obtain⟨d,r,rfl,p,q⟩:=x;unfold IK.pJ;simp only[PyData.depthAll];rw[yx k p,Ae ks q]
end
theorem KO{n m:Int}{d e:PyData}(x:d=.int n\/∃b:Bool,d=.bool b/\n=b2i b)(y:e=.int m\/∃b:Bool,e=.bool b/\m=b2i b):PyData.eqv d e=true↔n=m:=by
 rcases x with rfl|⟨b,rfl,rfl⟩ <;> rcases y with rfl|⟨c,rfl,rfl⟩
 ·simp[PyData.eqv]
 ·simp[PyData.eqv,b2i]
 ·simp[PyData.eqv,b2i]
 ·cases b <;> cases c <;> simp[PyData.eqv,b2i]
mutual
theorem MF:∀(a b:IK) {d e:PyData},xf a d->xf b e->(PyData.eqv d e=true↔a=b)
 | .i n,.i m,d,e,x,y=>by unfold xf at x y;rw[KO x y];simp
 | .i n,.t ks,d,e,x,y=>by unfold xf at x y;obtain⟨ds,rfl,_⟩:=y;rcases x with rfl|⟨b,rfl,_⟩ <;> simp[PyData.eqv]
 | .t ks,.i n,d,e,x,y=>by unfold xf at x y;obtain⟨ds,rfl,_⟩:=x;rcases y with rfl|⟨b,rfl,_⟩ <;> simp[PyData.eqv]
 | .t ks,.t ls,d,e,x,y=>by unfold xf at x y;obtain⟨ds,rfl,p⟩:=x;obtain⟨es,rfl,q⟩:=y;simp only[PyData.eqv,IK.t.injEq];exact Gb ks ls p q
theorem Gb:∀(as bs:List IK) {ds es:List PyData},iF as ds->iF bs es->(PyData.eqvAll ds es=true↔as=bs)
 |[],[],ds,es,x,y=>by unfold iF at x y;subst x;subst y;simp[PyData.eqvAll]
 |[],b::bs,ds,es,x,y=>by unfold iF at x y;obtain⟨d,r,rfl,_⟩:=y;subst x;simp[PyData.eqvAll]
 |a::as,[],ds,es,x,y=>by unfold iF at x y;obtain⟨d,r,rfl,_⟩:=x;subst y;simp[PyData.eqvAll]
 |a::as,b::bs,ds,es,x,y=>by unfold iF at x y;obtain⟨d,r,rfl,p1,p2⟩:=x;obtain⟨e,r2,rfl,q1,q2⟩:=y;simp only[PyData.eqvAll,A7,List.cons.injEq];rw[MF a b p1 q1,Gb as bs p2 q2]
end
mutual
theorem Gf{h:Heap}:∀(x y:IK) {v:jp},dE h x v->dE h y v->x=y
 | .i n,.i m,v,a,b=>by
  unfold dE at a b;rcases a with⟨t,rfl⟩|⟨c,rfl,rfl⟩ <;> rcases b with⟨u,e⟩|⟨d,e,f⟩ <;> cases e
  ·rfl
  ·rw[f]
 | .i n,.t ks,v,a,b=>by unfold dE at a b;obtain⟨_,_,_,_,e,_⟩:=b;rcases a with⟨t,rfl⟩|⟨c,rfl,rfl⟩ <;> cases e
 | .t ks,.i n,v,a,b=>by unfold dE at a b;obtain⟨_,_,_,_,e,_⟩:=a;rcases b with⟨t,rfl⟩|⟨c,rfl,rfl⟩ <;> cases e
 | .t ks,.t ls,v,a,b=>by unfold dE at a b;obtain⟨a1,o1,i1,n1,rfl,g1,_,d1,q1⟩:=a;obtain⟨a2,o2,i2,n2,e,g2,_,d2,q2⟩:=b;cases e;rw[g1]at g2;cases g2;rw[d1]at d2;cases d2;rw[Af ks ls q1 q2]
theorem Af{h:Heap}:∀(xs ys:List IK) {vs:List jp},cD h xs vs->cD h ys vs->xs=ys
 |[],[],vs,_,_=>rfl
 |[],y::ys,vs,a,b=>by unfold cD at a b;subst a;obtain⟨_,_,e,_⟩:=b;cases e
 |x::xs,[],vs,a,b=>by unfold cD at a b;subst b;obtain⟨_,_,e,_⟩:=a;cases e
 |x::xs,y::ys,vs,a,b=>by unfold cD at a b;obtain⟨v,r,rfl,a1,a2⟩:=a;obtain⟨v2,r2,e,b1,b2⟩:=b;cases e;rw[Gf x y a1 b1,Af xs ys a2 b2]
end
theorem Qc{h:Heap}{k:IK}{v:jp}(x:dE h k v){d:ww}{o:Obj}{es:Array DictEntry}(ho:h.get? d=some o)(hd:o.data=.dict es ep)(hs:Heap.SameBut d h h'):dE h' k v:=by
 have gen:∀(n:Nat) (k:IK),k.dep<=n->∀v,dE h k v->dE h' k v:=by
  intro n
  induction n with
  |zero=>
   intro k hk v x;cases k with
   |i m=>unfold dE at x ⊢;exact x
   |t ks=>unfold IK.dep at hk;omega
  |succ n ih=>
   intro k hk v x;cases k with
   |i m=>unfold dE at x ⊢;exact x
   |t ks=>
    unfold dE at x ⊢;obtain⟨a,o',ay,m,e,ly,hc,jc,r⟩:=x;have eh:a≠d:=λ z=>by subst z;rw[ho]at ly;cases ly;rw[hd]at jc;cases jc
    refine⟨a,o',ay,m,e,(hs.2 a eh).trans ly,hc,jc,?_⟩;have pz:IK.pJ ks<=n:=by unfold IK.dep at hk;omega
    have all:∀(ls:List IK) (vs:List jp),(∀l∈ls,l.dep<=n)->cD h ls vs->cD h' ls vs:=by
     intro ls
     induction ls with
     |nil=>intro vs _ y;unfold cD at y ⊢;exact y
     |cons l ls ihl=>intro vs hl y;unfold cD at y ⊢;obtain⟨v,r,e,h1,h2⟩:=y;exact⟨v,r,e,ih l (hl l (p0 ..)) v h1,ihl r (λ z hz=>hl z (l7 _ hz)) h2⟩
    exact all ks ay (λ l hl=>H9 (kj hl) pz) r
 exact gen k.dep k (K1 _) v x
theorem Ge:∀(n:Nat) (k:IK),k.dep<=n->∀{A:Around} {E:jp->kt->Prop} {s:kt} {v:jp} {Q:Bool->kt->Prop},dE s.heap k v->Q true s->wpAny (model prog w) A (eqIsQuiet n v) Q E s:=by
 intro n
 induction n with
 |zero=>
  intro k hk A E s v Q hi h;cases k with
  |i m=>unfold dE at hi;rcases hi with⟨t,rfl⟩|⟨b,rfl,_⟩ <;> rw[eqIsQuiet_byValue _ rfl] <;> exact K6 h
  |t ks=>unfold IK.dep at hk;omega
 |succ n ih=>
  intro k hk A E s v Q hi h;cases k with
  |i m=>unfold dE at hi;rcases hi with⟨t,rfl⟩|⟨b,rfl,_⟩ <;> rw[eqIsQuiet_byValue _ rfl] <;> exact K6 h
  |t ks=>
   unfold dE at hi;obtain⟨a,o,ay,m,rfl,ho,hc,hd,hits⟩:=hi;have pz:IK.pJ ks<=n:=by unfold IK.dep at hk;omega
   have hT:s.TypeIs (.ref a) "tuple":=⟨o,ho,hc⟩;unfold eqIsQuiet;refine K5 (C6 hT F.slot_tuple_eq.lookup ?_);show wpAny _ _ (isInstance (.ref a) (.type "tuple") >>= _) _ _ s;refine K5 (wpAny_isInstance hT isSubtype_tuple_tuple ?_);simp only[Bool.not_true,q9,L7];refine K5 (D3 ho hd (K5 ?_));show wpAny _ _ (forIn ay.toArray _ _) _ _ s;rw[<- w6];refine wpAny_forIn_list _ (λ rest r s'=>r.1=none/\s'=s/\∃left,(∀l∈left,l∈ks)/\cD s.heap left rest) _ ?_ ?_ _ _ ⟨rfl,rfl,ks,λ l hl=>hl,hits⟩
   ·rintro x rest r s' ⟨hr,rfl,left,TC,hl⟩;cases left with
    |nil=>unfold cD at hl;cases hl
    |cons k1 left=>unfold cD at hl;obtain⟨v,r',e,h1,h2⟩:=hl;cases e;refine K5 (ih k1 (H9 (kj (TC k1 (p0 ..))) pz) h1 ?_);simp only[Bool.not_true,q9,L7];exact K6 ⟨rfl,rfl,left,λ l hl=>TC l (l7 _ hl),h2⟩
   ·rintro⟨r1,r2⟩ s' ⟨hr,rfl,_⟩;simp only at hr;subst hr;exact K6 h
def nV(prog:Program)(w:World):HeapKind prog w IK where
 is:=λ h k a=>k.dep<=5/\dE h k (.ref a)
 hash:=Gi
 draws:=CS
 room:=λ A=>A.units+8 < cLine
 inj:=λ hx hy=>Gf _ _ hx.2 hy.2
 keeps:=λ x ho hd hs=>⟨x.1,Qc x.2 ho hd hs⟩
 pyHash:=λ hu hk h=>Lf 5 _ hk.1 (by have:=hk.1;omega) hk.2 h
 eqBool:=λ{A E s x y a b Q} hu hx hy h=>by
  obtain⟨dx,as,px,ra⟩:=pj x hx.2;obtain⟨dy,bs,py,rb⟩:=pj y hy.2;refine A0 dx dy A s _ _ _ _ ra rb (yw x px) (yw y py) ?_ prog w E Q ?_
  ·rw[yx x px,yx y py];have:=hx.1;have:=Nat.min_le_left x.dep y.dep;omega
  ·have e:PyData.eqv dx dy=decide (x=y):=by rw[B1,x8];exact MF x y px py
   rw[e];exact h
 quiet:=λ hk h=>Ge 8 _ (H9 hk.1 (by decide)) hk.2 h
open PySem.Spec PyProof.Rows
section
variable {κ:Type}[DecidableEq κ]
def jk(aA:List (κ×V))(k:κ):Option V:=(aA.find? λ kv=>decide (kv.1=k)).map (·.2)
def putK(aA:List (κ×V))(k:κ)(v:V):List (κ×V):=
 if(aA.any λ kv=>decide (kv.1=k))=true then aA.map (λ kv=>if kv.1=k then(kv.1,v)else kv)else aA++[(k,v)]
theorem nQ{p:κ×V}{r:List (κ×V)}{k:κ}(e:p.1=k):jk (p::r) k=some p.2:=by simp[jk,B3,e]
theorem nR{p:κ×V}{r:List (κ×V)}{k:κ}(e:¬p.1=k):jk (p::r) k=jk r k:=by simp[jk,B3,e]
theorem nS(k:κ):∀aA:List (κ×V),(aA.any λ kv=>decide (kv.1=k))=(jk aA k).isSome
 |[]=>rfl
 |p::r=>by
  rw[any_cons];by_cases e:p.1=k
  ·simp only[nQ e,D1 e,Bool.true_or,Option.isSome_some]
  ·rw[nR e,B4 e,Bool.false_or];exact nS k r
theorem l_(aA:List (κ×V))(k:κ)(v:V):(putK aA k v).length<=aA.length+1:=by
 unfold putK;split
 ·rw[C2];omega
 ·rw[q8,A3,length_nil];omega
theorem ib.eU{u:Option jp}(r:ib o u):o.isSome=u.isSome:=by
 cases o with
 |none=>cases u with
  |none=>rfl
  |some _=>exact(show False from r).elim
 |some _=>cases u with
  |none=>exact(show False from r).elim
  |some _=>rfl
theorem KV.val{aA:List (κ×V)}{vs:List (κ×jp)}(r:KV aA vs)(k:κ):ib (jk aA k) (valueAt vs k):=by
 unfold KV at r
 induction r with
 |nil=>exact True.intro
 |@cons p q ps qs h t ih=>
  obtain⟨h1,h2⟩:=h;by_cases e:p.1=k
  ·have e':q.1=k:=h1.symm.trans e;have b:valueAt (q::qs) k=some q.2:=by simp[valueAt,B3,e']
   rw[nQ e,b];exact h2
  ·have e':¬q.1=k:=λ z=>e (h1.trans z);have b:valueAt (q::qs) k=valueAt qs k:=by simp[valueAt,B3,e']
   rw[nR e,b];exact ih
theorem KV.any{aA:List (κ×V)}{vs:List (κ×jp)}(r:KV aA vs)(k:κ):(aA.any λ kv=>decide (kv.1=k))=vs.any λ kv=>decide (kv.1=k):=by
 unfold KV at r
 induction r with
 |nil=>rfl
 |cons h t ih=>rw[any_cons,any_cons,ih,h.1]
theorem KV.DU{aA:List (κ×V)}{vs:List (κ×jp)}(r:KV aA vs)(k:κ)(ry:bv y u):KV (aA.map λ kv=>if kv.1=k then(kv.1,y)else kv) (vs.map λ kv=>if kv.1=k then(kv.1,u)else kv):=by
 unfold KV at r ⊢
 induction r with
 |nil=>exact .nil
 |@cons p q ps qs h t ih=>
  rw[F9,F9];refine .cons ?_ ih;obtain⟨h1,h2⟩:=h;by_cases e:p.1=k
  ·rw[N3 e,N3 (h1.symm.trans e)];exact⟨h1,ry⟩
  ·rw[N4 e,N4 (λ z=>e (h1.trans z))];exact⟨h1,h2⟩
theorem KV.put{aA:List (κ×V)}{vs:List (κ×jp)}(r:KV aA vs)(k:κ)(ry:bv y u):KV (putK aA k y) (stored vs k u):=by
 unfold putK stored;rw[r.any k];by_cases e:(vs.any λ kv=>decide (kv.1=k))=true
 ·rw[N3 e,N3 e];exact r.DU k ry
 ·rw[N4 e,N4 e];exact Paired.snoc r ⟨rfl,ry⟩
theorem KV.length{aA:List (κ×V)}{vs:List (κ×jp)}(r:KV aA vs):aA.length=vs.length:=D8 r
end
theorem vO{k:Key}(r:bv (kV k) u):(cz P w).is k u=true:=by
 cases k with
 |inl i=>obtain⟨t,e⟩:=(show ∃t,u=Value.int i t from r);subst e;exact lY P w i t
 |inr x=>obtain⟨t,e⟩:=(show ∃t,u=Value.str x t from r);subst e;exact vA P w x t
theorem rq:∀{ks:List Key} {us:List jp},cr (ks.map kV) us->ItemsAre (cz P w) ks us
 |[],_,r=>by rw[map_nil]at r;cases r;exact .nil
 |k::ks,_,r=>by
  rw[F9]at r;cases r with
  |cons h t=>exact .cons (vO h) (rq t)
abbrev KT(H:Hp):List (List Key×V)->List (List Key×ww×jp)->Prop:=Paired λ p q=>p.1=q.1/\H q.2.1=some (.tup (p.1.map kV))/\bv p.2 q.2.2
theorem KT.val{xs:List (List Key×ww×jp)}(r:KT H aA xs)(k:List Key):ib (jk aA k) ((atKey xs k).map (·.2)):=by
 induction r with
 |nil=>exact True.intro
 |@cons p q ps qs h t ih=>
  obtain⟨h1,_,h2⟩:=h;by_cases e:p.1=k
  ·have e':q.1=k:=h1.symm.trans e;have b:atKey (q::qs) k=some q.2:=by simp[atKey,B3,e']
   rw[nQ e,b];exact h2
  ·have e':¬q.1=k:=λ z=>e (h1.trans z);have b:atKey (q::qs) k=atKey qs k:=by simp[atKey,B3,e']
   rw[nR e,b];exact ih
theorem KT.DU{xs:List (List Key×ww×jp)}(r:KT H aA xs)(k:List Key)(ry:bv y u):KT H (aA.map λ kv=>if kv.1=k then(kv.1,y)else kv) (xs.map (putAt k u)):=by
 induction r with
 |nil=>exact .nil
 |@cons p q ps qs h t ih=>
  rw[F9,F9];refine .cons ?_ ih;obtain⟨h1,h2,h3⟩:=h;unfold putAt;by_cases e:p.1=k
  ·rw[N3 e,N3 (h1.symm.trans e)];exact⟨h1,h2,ry⟩
  ·rw[N4 e,N4 (λ z=>e (h1.trans z))];exact⟨h1,h2,h3⟩
theorem KT.put{xs:List (List Key×ww×jp)}(r:KT H aA xs)(k:List Key){b:ww}(hb:H b=some (.tup (k.map kV)))(ry:bv y u):KT H (putK aA k y) (storedH xs k b u):=by
 have e:(aA.any λ kv=>decide (kv.1=k))=(atKey xs k).isSome:=by rw[nS,(r.val k).eU,y8]
 unfold putK storedH;rw[e];by_cases q:(atKey xs k).isSome=true
 ·rw[N3 q,N3 q];exact r.DU k ry
 ·rw[N4 q,N4 q];exact Paired.snoc r ⟨rfl,hb,ry⟩
theorem KT.keeps{xs:List (List Key×ww×jp)}(r:KT H aA xs)(ht:∀b ys,H b=some (.tup ys)->H' b=some (.tup ys)):KT H' aA xs:=
 Paired.BM r λ _ _ z=>⟨z.1,ht _ _ z.2.1,z.2.2⟩
section
variable {h:Heap}
theorem Mu{u:HO}(ok:gE P w H h)(e:Rd H a u):bD P w H h a u:=e.ok ok
theorem rK{aA:List (Key×V)}(ok:gE P w H h)(e:Rd H a (.dK aA)):aA.length<=sizeLine/\(a==sysModules)=false/\∃vs,KV aA vs/\h.DictOf (cz P w) a vs:=
 show bD P w H h a (.dK aA)from Mu ok e
theorem UB{aA:List (Key×V)}(ok:gE P w H h)(e:H a=some (.dK aA)):aA.length<=sizeLine/\(a==sysModules)=false/\∃vs,KV aA vs/\h.DictOf (cz P w) a vs:=rK ok (.inl e)
theorem oX{ks:List Key}(ok:gE P w H h)(e:H a=some (.tup (ks.map kV))):(tupleKind (cz P w)).is h ks a:=by obtain⟨_,ay,r,o,h1,h2,n,h3⟩:=(show bD P w H h a (.tup (ks.map kV))from ok a _ e);exact⟨o,ay.toArray,n,h1,h2,h3,by simpa using rq r⟩
theorem wa(ok:gE P w H h)(e:Rd H a (.dT aA)):aA.length<=sizeLine/\(a==sysModules)=false/\
  ∃xs,KT H aA xs/\h.DictOfH (tupleKind (cz P w)) a xs:=by
 obtain⟨z,y,xs,r,o,es,ep,h1,h2,h3,h4,h5⟩:=(show bD P w H h a (.dT aA)from Mu ok e);refine⟨z,y,xs,r,o,es,ep,h1,h2,h3,h4,λ x hx=>?_,h5⟩;have all:∀{l:List (List Key×V)} {m:List (List Key×ww×jp)},KT H l m->∀x∈m,(tupleKind (cz P w)).is h x.1 x.2.1:=by
  intro l m q
  induction q with
  |nil=>intro x hx;exact nomatch hx
  |@cons p q ps qs hq t ih=>
   intro x hx;rcases G0.mp hx with e|hx
   ·subst e;exact oX ok (by rw[<- hq.1];exact hq.2.1)
   ·exact ih x hx
 exact all r x hx
theorem UA(ok:gE P w H h)(e:H a=some (.dT aA)):aA.length<=sizeLine/\(a==sysModules)=false/\
  ∃xs,KT H aA xs/\h.DictOfH (tupleKind (cz P w)) a xs:=wa ok (.inl e)
end
def qH(H:Hp)(a:ww)(y:V)(r:Option V):Prop:=
 (∃aA k,Rd H a (.dK aA)/\y=kV k/\r=jk aA k)\/∃aA k b,Rd H a (.dT aA)/\y=.ref b/\H b=some (.tup (k.map kV))/\r=jk aA k
def HH(H:Hp)(a:ww)(y v:V)(H':Hp):Prop:=
 (∃aA k,H a=some (.dK aA)/\y=kV k/\aA.length < sizeLine/\H'=dl H a (.dK (putK aA k v)))\/
 ∃aA k b,H a=some (.dT aA)/\y=.ref b/\H b=some (.tup (k.map kV))/\aA.length < sizeLine/\H'=dl H a (.dT (putK aA k v))
theorem qH.k9{aA:List (Key×V)}{k:Key}(e:H a=some (.dK aA)):qH H a (kV k) (jk aA k):=.inl ⟨aA,k,.inl e,rfl,rfl⟩
theorem HH.k9{aA:List (Key×V)}{k:Key}(e:H a=some (.dK aA))(hl:aA.length < sizeLine):HH H a (kV k) v (dl H a (.dK (putK aA k v))):=.inl ⟨aA,k,e,rfl,hl,rfl⟩
section
variable {r:jp}
theorem be.big(I:be X xz σ H s):sysModules < s.heap.objs.size:=by have h:mainGlobals < s.heap.objs.size:=(I.mod.glob.keeps I.bk).lt;exact Nat.lt_trans (by decide) h
theorem Cv(hu:A.units+1 < cLine)(I:be X xz σ H s)(g:qH H a y (some v))(ry:bv y u)(h:∀w' s',be X xz σ H s'->bv v w'->Q w' s'):wpAny (model X.prog X.w) A (getItem (.ref a) u) Q E s:=by
 rcases g with⟨aA,k,e,ey,l⟩|⟨aA,k,b,e,ey,eb,l⟩
 ·subst ey;obtain⟨z,hd,vs,rel,dd⟩:=rK I.bj e;obtain⟨w',hw,sS⟩:=ib.some_of (v:=v) (o:=valueAt vs k) (by rw[l];exact rel.val k);exact wpAny_getItem_of (vO ry) dd.mapOf hw (h w' _ (I.tok _) sS)
 ·subst ey;cases(show u=Value.ref b from ry);obtain⟨z,hd,xs,rel,dd⟩:=wa I.bj e;obtain⟨w',hw,sS⟩:=ib.some_of (v:=v) (o:=(atKey xs k).map (·.2)) (by rw[l];exact rel.val k);obtain⟨p,hp,fB⟩:=Option.map_eq_some_iff.mp hw;refine wpAny_getItem_heap (w5 hu) (oX I.bj eb) dd hp ?_;rw[fB];exact h w' _ (I.tok _) sS
theorem YJ(hu:A.units+1 < cLine)(I:be X xz σ H s)(g:qH H a y o)(ry:bv y u)(h:∀s',be X xz σ H s'->Q (.bool o.isSome) s'):wpAny (model X.prog X.w) A (compareOp .In u (.ref a)) Q E s:=by
 rcases g with⟨aA,k,e,ey,l⟩|⟨aA,k,b,e,ey,eb,l⟩
 ·subst ey;obtain⟨z,hd,vs,rel,dd⟩:=rK I.bj e;refine wpAny_in_of (vO ry) hd dd.mapOf ?_;rw[<- (rel.val k).eU,<- l];exact h _ (I.tok _)
 ·subst ey;cases(show u=Value.ref b from ry);obtain⟨z,hd,xs,rel,dd⟩:=wa I.bj e;refine wpAny_in_heap (w5 hu) (oX I.bj eb) hd dd ?_;have q:=(rel.val k).eU;rw[y8]at q;rw[<- q,<- l];exact h _ (I.tok _)
theorem LH(hu:A.units+1 < cLine)(I:be X xz σ H s)(g:qH H a y o)(ry:bv y u)(h:∀s',be X xz σ H s'->Q (.bool (!o.isSome)) s'):wpAny (model X.prog X.w) A (compareOp .NotIn u (.ref a)) Q E s:=by
 rcases g with⟨aA,k,e,ey,l⟩|⟨aA,k,b,e,ey,eb,l⟩
 ·subst ey;obtain⟨z,hd,vs,rel,dd⟩:=rK I.bj e;refine wpAny_notIn_of (vO ry) hd dd.mapOf ?_;rw[<- (rel.val k).eU,<- l];exact h _ (I.tok _)
 ·subst ey;cases(show u=Value.ref b from ry);obtain⟨z,hd,xs,rel,dd⟩:=wa I.bj e;refine wpAny_notIn_heap (w5 hu) (oX I.bj eb) hd dd ?_;have q:=(rel.val k).eU;rw[y8]at q;rw[<- q,<- l];exact h _ (I.tok _)
theorem ue{ob:HO}(I:be X xz σ H s)(mu:Va (H a))(hs:Heap.SameBut a s.heap h')(he:∃q,h'.get? a=some q)(new:bD X.prog X.w (dl H a ob) h' a ob):be X xz σ (dl H a ob) {s with heap:=h',toks:=t'}:=
 I.write (x:=a) (e:=a) mu (.inl rfl) (λ b q hb z=>(hs.2 b hb).trans z) he new
theorem QD{aA:List (Key×V)}{vs:List (Key×jp)}(z:aA.length<=sizeLine)(hd:(a==sysModules)=false)(rel:KV aA vs)(dd:h'.DictOf (cz P w) a vs):bD P w H' h' a (.dK aA):=⟨z,hd,vs,rel,dd⟩
theorem Cr{Q:Unit->kt->Prop}(hu:A.units+1 < cLine)(I:be X xz σ H s)(g:HH H a y v H')(ry:bv y u)(rv:bv v r)(h:∀s',be X xz σ H' s'->Q () s'):wpAny (model X.prog X.w) A (setItem (.ref a) u r) Q E s:=by
 rcases g with⟨aA,k,e,ey,l,eH⟩|⟨aA,k,b,e,ey,eb,l,eH⟩
 ·subst ey eH;obtain⟨z,hd,vs,rel,dd⟩:=UB I.bj e;have hz:vs.length<=sizeLine:=by rw[<- rel.length];exact z
  have hl:(putK aA k v).length<=sizeLine:=by have:=l_ aA k v;omega
  refine wpAny_setItem_pairs (hsz:=hz) (vO ry) dd λ h' QH hs=>h _ ?_;have he:∃q,h'.get? a=some q:=let⟨q,_,_,hq,_⟩:=QH;⟨q,hq⟩
  exact ue I (by rw[e];exact True.intro) hs he (QD hl hd (rel.put k rv) QH)
 ·subst ey eH;cases(show u=Value.ref b from ry);obtain⟨z,hd,xs,rel,dd⟩:=UA I.bj e;have hz:xs.length<=sizeLine:=by rw[<- D8 rel];exact z
  have hl:(putK aA k v).length<=sizeLine:=by have:=l_ aA k v;omega
  refine wpAny_setItem_heap (hsz:=hz) (w5 hu) (oX I.bj eb) dd λ h' QH hs=>h _ ?_;obtain⟨q,es,ep,hq,h2,h3,h4,_,h5⟩:=QH;refine ue I (by rw[e];exact True.intro) hs ⟨q,hq⟩ ⟨hl,hd,_,(rel.put k eb rv).keeps λ c ys ec=>?_,q,es,ep,hq,h2,h3,h4,h5⟩;rw[aB (bq ec e (λ z=>nomatch z))];exact ec
end
section
variable {aA:List (Key×V)}{k:Key}
theorem UH(I:be X xz σ H s)(e:Rd H a (.dK aA))(h:∀t s',be X xz σ H s'->Q (.int aA.length t) s'):wpAny (model X.prog X.w) A (call (.builtin "len") [.ref a]) Q E s:=by obtain⟨z,hd,vs,rel,dd⟩:=rK I.bj e;refine call_len_dict hd dd (by rw[<- rel.length];rw[K2]at z;omega) ?_;rw[<- rel.length];exact h _ _ (I.tok _)
end
theorem wb(I:be X xz σ H s)(g:qH H a y o):s.TypeIs (.ref a) "dict":=by
 rcases g with⟨aA,k,e,_,_⟩|⟨aA,k,b,e,_,_,_⟩
 ·obtain⟨_,_,vs,_,dd⟩:=rK I.bj e;exact dd.typeIs
 ·obtain⟨_,_,xs,_,dd⟩:=wa I.bj e;exact dd.typeIs
theorem GY(h:Heap)(hb:sysModules < h.objs.size):bD P w H (h.push {cls:=.type "dict",data:=.dict #[]}) h.objs.size (.dK []):=
 ⟨K3 _,beq_eq_false_iff_ne.mpr (L9 (G6 hb)),[],.nil,Heap.DictOf.new h⟩
def NA:TE:=λ _ H Q=>∀p,H p=none->Q (.ref p) (dl H p (.dK []))
theorem EV:PE X (.Dict [] [] pos) NA:=λ xz s σ H Q I h=>
 wpAny_Dict_empty ⟨.ref s.heap.objs.size,_,I.laid (a:=s.heap.objs.size) (o:=.dK []) (t':=s.toks) (λ _ _ q=>j7 _ q) (K1 _) (GY s.heap I.big),rfl,h _ (I.bj.fresh (K1 _))⟩
open PySem.Spec PyProof.Rows
mutual
def iW(K:N5)(H:Hp):IK->V->Prop
 | .i n,v=>v=.int n\/∃b:Bool,v=.bl b/\n=b2i b
 | .t ks,v=>∃p xs,v=.ref p/\gh K H p xs/\md K H ks xs
def md(K:N5)(H:Hp):List IK->List V->Prop
 |[],xs=>xs=[]
 |k::ks,xs=>∃x r,xs=x::r/\iW K H k x/\md K H ks r
end
mutual
theorem rn(I:be X xz σ H s):∀(k:IK) {v:V} {u:jp},iW X.K H k v->bv v u->dE s.heap k u
 | .i n,v,u,h,r=>by
  unfold iW at h;unfold dE;rcases h with rfl|⟨b,rfl,rfl⟩
  ·exact .inl r
  ·exact .inr ⟨b,r,rfl⟩
 | .t ks,v,u,h,r=>by unfold iW at h;obtain⟨p,xs,rfl,hq,hk⟩:=h;cases(show u=Value.ref p from r);obtain⟨ay,rv,⟨o,ho,hc,n,hd⟩,_⟩:=I.tuple hq;unfold dE;exact⟨p,o,ay,n,rfl,ho,hc,hd,zX I ks hk rv⟩
theorem zX(I:be X xz σ H s):∀(ks:List IK) {xs:List V} {us:List jp},md X.K H ks xs->cr xs us->cD s.heap ks us
 |[],xs,us,h,r=>by unfold md at h;subst h;cases r;unfold cD;rfl
 |k::ks,xs,us,h,r=>by
  unfold md at h;obtain⟨x,y_,rfl,h1,h2⟩:=h;cases r with
  |cons r1 r2=>unfold cD;exact⟨_,_,rfl,rn I k h1 r1,zX I ks h2 r2⟩
end
abbrev fK:=IK×ww×V
def YE(x:IK×ww×jp):DictEntry:=⟨Gi x.1,.ref x.2.1,x.2.2⟩
abbrev HD:List fK->List (IK×ww×jp)->Prop:=Paired λ p q=>p.1=q.1/\p.2.1=q.2.1/\bv p.2.2 q.2.2
def YG(a:ww)(aA:List fK)(h:Heap):Prop:=aA.length<=sizeLine/\(a==sysModules)=false/\∃xs,HD aA xs/\∃o es ep,h.get? a=some o/\o.ExactDict/\o.data=.dict es ep/\es.toList=xs.map YE/\(xs.map (·.1)).Nodup
def Aq(a:ww)(aA:List fK):HO:=.ext (YG a aA)
theorem GX{h:Heap}{aA:List fK}(x:YG a aA h):bD P w H h a (Aq a aA):=by obtain⟨z,y,xs,r,o,es,ep,e,c⟩:=id x;exact⟨x,⟨o,e⟩,λ h1 h2 ⟨z,y,xs,r,o,es,ep,e,c⟩ q=>⟨z,y,xs,r,o,es,ep,q o e,c⟩⟩
noncomputable def jJ (aA:List fK)(k:IK):Option V:=(aA.find? λ p=>decide (p.1=k)).map (·.2.2)
noncomputable def qp (aA:List fK)(k:IK)(p:ww)(v:V):List fK:=if(jJ aA k).isSome=true then aA.map (λ x=>if x.1=k then(x.1,x.2.1,v)else x)else aA++[(k,p,v)]
theorem Ew(aA:List fK)(k:IK)(p:ww)(v:V):(qp aA k p v).length<=aA.length+1:=by
 unfold qp;split
 ·simp
 ·simp
theorem HD.val{aA:List fK}{xs:List (IK×ww×jp)}(r:HD aA xs)(k:IK):ib (jJ aA k) ((atKey xs k).map (·.2)):=by
 induction r with
 |nil=>exact True.intro
 |@cons p q ps qs h t ih=>
  obtain⟨h1,_,h2⟩:=h;unfold jJ atKey at ih ⊢;by_cases e:p.1=k
  ·have e':q.1=k:=h1.symm.trans e;simp only[B3,D1 e,D1 e',Option.map_some];exact h2
  ·have e':¬q.1=k:=λ z=>e (h1.trans z);simp only[B3,B4 e,B4 e'];exact ih
theorem HD.DU{aA:List fK}{xs:List (IK×ww×jp)}(r:HD aA xs)(k:IK)(ry:bv y u):HD (aA.map λ x=>if x.1=k then(x.1,x.2.1,y)else x) (xs.map (putAt k u)):=by
 induction r with
 |nil=>exact .nil
 |@cons p q ps qs h t ih=>
  rw[F9,F9];refine .cons ?_ ih;obtain⟨h1,h2,h3⟩:=h;unfold putAt;by_cases e:p.1=k
  ·rw[N3 e,N3 (h1.symm.trans e)];exact⟨h1,h2,ry⟩
  ·rw[N4 e,N4 (λ z=>e (h1.trans z))];exact⟨h1,h2,h3⟩
theorem tQ{u:Option jp}(r:ib o u):o.isSome=u.isSome:=r.eU
theorem HD.put{aA:List fK}{xs:List (IK×ww×jp)}(r:HD aA xs)(k:IK){b:ww}(ry:bv y u):HD (qp aA k b y) (storedH xs k b u):=by
 have e:(jJ aA k).isSome=(atKey xs k).isSome:=by rw[tQ (r.val k),y8]
 unfold qp storedH;rw[e];by_cases q:(atKey xs k).isSome=true
 ·rw[N3 q,N3 q];exact r.DU k ry
 ·rw[N4 q,N4 q];exact Paired.snoc r ⟨rfl,rfl,ry⟩
structure qG(K:N5)(H:Hp)(a:ww)(aA:List fK):Prop where
 at_:H a=some (Aq a aA)
 key:∀p∈aA,p.1.dep<=5/\iW K H p.1 (.ref p.2.1)
section
variable {b:ww}{aA:List fK}{k:IK}{r:jp}
theorem qG.of(I:be X xz σ H s)(d:qG X.K H a aA):aA.length<=sizeLine/\(a==sysModules)=false/\∃xs,HD aA xs/\s.heap.DictOfH (nV X.prog X.w) a xs:=by
 obtain⟨⟨z,y,xs,rel,o,es,ep,h1,h2,h3,h4,h5⟩,_,_⟩:=(show bD X.prog X.w H s.heap a (Aq a aA)from I.bj a _ d.at_);refine⟨z,y,xs,rel,o,es,ep,h1,h2,h3,h4,?_,h5⟩;have all:∀{l:List fK} {m:List (IK×ww×jp)},HD l m->(∀p∈l,p.1.dep<=5/\iW X.K H p.1 (.ref p.2.1))->∀x∈m,(nV X.prog X.w).is s.heap x.1 x.2.1:=by
  intro l m q
  induction q with
  |nil=>intro _ x hx;cases hx
  |@cons p q ps qs hq t ih=>
   intro hl x hx;rcases G0.mp hx with rfl|hx
   ·obtain⟨c1,c2⟩:=hl p (p0 ..);rw[hq.1,hq.2.1]at c2;rw[hq.1]at c1;exact⟨c1,rn I _ c2 rfl⟩
   ·exact ih (λ p hp=>hl p (l7 _ hp)) x hx
 exact all rel d.key
theorem jR(hu:A.units+64 < cLine):(nV X.prog X.w).room A.in1:=(show A.units+1+8 < cLine by omega)
theorem Bd(hu:A.units+64 < cLine)(I:be X xz σ H s)(d:qG X.K H a aA)(hk:k.dep<=5)(Ai:iW X.K H k (.ref b))(g:jJ aA k=some v)(h:∀w' s',be X xz σ H s'->bv v w'->Q w' s'):wpAny (model X.prog X.w) A (getItem (.ref a) (.ref b)) Q E s:=by obtain⟨z,hd,xs,rel,dd⟩:=d.of I;obtain⟨w',hw,sS⟩:=ib.some_of (v:=v) (o:=(atKey xs k).map (·.2)) (by rw[<- g];exact rel.val k);obtain⟨p,hp,fB⟩:=Option.map_eq_some_iff.mp hw;refine wpAny_getItem_heap (jR hu) ⟨hk,rn I k Ai rfl⟩ dd hp ?_;rw[fB];exact h w' _ (I.tok _) sS
theorem Wz(hu:A.units+64 < cLine)(I:be X xz σ H s)(d:qG X.K H a aA)(hk:k.dep<=5)(Ai:iW X.K H k (.ref b))(h:∀s',be X xz σ H s'->Q (.bool (jJ aA k).isSome) s'):wpAny (model X.prog X.w) A (compareOp .In (.ref b) (.ref a)) Q E s:=by obtain⟨z,hd,xs,rel,dd⟩:=d.of I;refine wpAny_in_heap (jR hu) ⟨hk,rn I k Ai rfl⟩ hd dd ?_;have q:=tQ (rel.val k);rw[y8]at q;rw[<- q];exact h _ (I.tok _)
theorem Iz(hu:A.units+64 < cLine)(I:be X xz σ H s)(d:qG X.K H a aA)(hk:k.dep<=5)(Ai:iW X.K H k (.ref b))(h:∀s',be X xz σ H s'->Q (.bool (!(jJ aA k).isSome)) s'):wpAny (model X.prog X.w) A (compareOp .NotIn (.ref b) (.ref a)) Q E s:=by obtain⟨z,hd,xs,rel,dd⟩:=d.of I;refine wpAny_notIn_heap (jR hu) ⟨hk,rn I k Ai rfl⟩ hd dd ?_;have q:=tQ (rel.val k);rw[y8]at q;rw[<- q];exact h _ (I.tok _)
theorem Bc{Q:Unit->kt->Prop}(hu:A.units+64 < cLine)(I:be X xz σ H s)(d:qG X.K H a aA)(hk:k.dep<=5)(Ai:iW X.K H k (.ref b))(hl:aA.length < sizeLine)(rv:bv v r)(h:∀s',be X xz σ (dl H a (Aq a (qp aA k b v))) s'->Q () s'):wpAny (model X.prog X.w) A (setItem (.ref a) (.ref b) r) Q E s:=by
 obtain⟨z,hd,xs,rel,dd⟩:=d.of I;have hz:xs.length<=sizeLine:=by rw[<- D8 rel];exact z
 have B':(qp aA k b v).length<=sizeLine:=by have:=Ew aA k b v;omega
 refine wpAny_setItem_heap (hsz:=hz) (jR hu) ⟨hk,rn I k Ai rfl⟩ dd λ h' QH hs=>h _ ?_;obtain⟨q,es,ep,hq,h2,h3,h4,_,h5⟩:=QH;exact ue I (by rw[d.at_];exact True.intro) hs ⟨q,hq⟩ (GX ⟨B',hd,_,rel.put k rv,q,es,ep,hq,h2,h3,h4,h5⟩)
end
theorem LD(h:Heap)(hb:sysModules < h.objs.size):YG h.objs.size [] (h.push {cls:=.type "dict",data:=.dict #[]}):=
 ⟨K3 _,beq_eq_false_iff_ne.mpr (L9 (G6 hb)),[],.nil,_,#[],0,n9 _ rfl,⟨rfl,rfl,rfl⟩,rfl,rfl,nodup_nil⟩
def NB:TE:=λ _ H Q=>∀p,H p=none->Q (.ref p) (dl H p (Aq p []))
theorem EW:PE X (.Dict [] [] pos) NB:=λ xz s σ H Q I h=>
 wpAny_Dict_empty ⟨.ref s.heap.objs.size,_,I.laid (a:=s.heap.objs.size) (o:=Aq s.heap.objs.size []) (t':=s.toks) (λ _ _ q=>j7 _ q) (K1 _) (GX (LD s.heap I.big)),rfl,h _ (I.bj.fresh (K1 _))⟩
theorem Oz{d:ww}(hd:(d==sysModules)=false):MeetsIn prog w (Builtin.«dict.__len__» ⟨[.ref d],[]⟩) (λ _ R s=>∃o es ep,s.heap.get? d=some o/\o.data=.dict es ep/\R (.ok (.ret (.int es.size s.toks))) {s with toks:=s.toks+1}):=
 .of_wp λ A R s ⟨o,es,ep,ho,Qp,h⟩=>by show wpAny _ _ (dictSize d >>= _) _ _ s;unfold dictSize;refine K5 (K5 (wpAny_dictEntries ho Qp (K6 ?_)));show wpAny _ _ (Builtin.Dict.pendingCount d >>= _) _ _ s;refine K5 (wpAny_pendingCount_other hd (wpAny_ret_mkInt ?_));rw[Nat.add_zero];exact h
theorem wI{d:ww}{o:Obj}{es:Array DictEntry}(hd:(d==sysModules)=false)(ho:s.heap.get? d=some o)(hc:o.cls=.type "dict")(Qp:o.data=.dict es ep)(hz:es.size<=sizeLine) (h:∀t n,Q (.int es.size t) {s with toks:=n}):wpAny (model prog w) A (call (.builtin "len") [.ref d]) Q E s:=by
 have hT:s.TypeIs (.ref d) "dict":=⟨o,ho,hc⟩;have Rq:sizeLine=16777216:=by decide
 have Ul:((es.size:Nat):Int) < 2^63:=by omega
 refine Calls.call_function_entry kind_len plain_len entry_len (args_len1 _) ?_;unfold Builtin.«len»;refine K5 (m:=oneArg "len" _) (K6 ?_);refine K5 (m:=callSpecial? (.ref d) (Str.ofString "__len__")) (j2 (name:=Str.ofString "__len__") hT F.slot_dict_len (call_meetsIn F.slot_dict_len hT F.entry_dict_len (F.args_dict_len_1 _) (Oz hd) ⟨o,es,ep,ho,Qp,?_⟩));show wpAny _ _ _ _ _ {s with toks:=s.toks+1};refine K5 (D6 (K6 (K5 (wpAny_letGo ?_))));show wpAny _ _ (if((es.size:Nat):Int) < 0 then _ else _) _ _ _;rw[N4 (by omega)];show wpAny _ _ (if((es.size:Nat):Int) ≥ 2^63 then _ else _) _ _ _;rw[N4 (by omega)];exact K5 (wpAny_mkInt (K6 ⟨_,rfl,h _ _⟩))
section
variable {aA:List fK}
theorem RP(I:be X xz σ H s)(e:H a=some (Aq a aA))(h:∀t s',be X xz σ H s'->Q (.int aA.length t) s'):wpAny (model X.prog X.w) A (call (.builtin "len") [.ref a]) Q E s:=by
 obtain⟨⟨z,y,xs,rel,o,es,ep,h1,h2,h3,h4,h5⟩,_,_⟩:=(show bD X.prog X.w H s.heap a (Aq a aA)from I.bj a _ e);have e1:es.size=aA.length:=by rw[<- n6,h4,C2];exact(D8 rel).symm
 refine wI y h1 h2.1 h3 (by rw[e1];exact z) λ t n=>?_;rw[e1];exact h t _ (I.tok _)
end
open PySem.Spec PyProof.Rows
structure Z9 where
 qual:Str
 params:Arguments
 body:Expr
 scope:Scope
 pm:jp
abbrev XG(f:ww)(L:Z9)(c:ww)(cl:List (Str×ww)):Heap->Prop:=λ h=>∃ctv,h.get? f=some (PySem.W.kla_obj "<lambda>" L.qual L.params L.body L.scope cl L.pm c ctv)
abbrev UY(c:ww)(q:Str):Heap->Prop:=λ h=>h.CodeRec (.ref c) q
abbrev YQ(c:ww)(v:V):Heap->Prop:=λ h=>∃u,bv v u/\h.IsCell c (some u)
abbrev YR(o:Obj)(c:ww)(v:V):HO:=.ia o (.ia o (.ext (YQ c v)))
def Wy(cs:List (Pos×ww)):List jp:=cs.flatMap λ p=>[rawInt p.1.line,rawInt p.1.col,.ref p.2]
def U7(H:Hp)(P:ww)(q:Str):Prop:=∃cs:List (Pos×ww),H P=some (.CP (Wy cs).toArray)/\∀p∈cs,∃o,H p.2=some (.ia o (.ext (UY p.2 q)))
theorem U7.grow{P:ww}{q:Str}(t:U7 H P q)(k:∀b o u,H b=some (.ia o u)->H' b=some (.ia o u))(e:H' P=H P):U7 H' P q:=by obtain⟨cs,h1,h2⟩:=t;exact⟨cs,e.trans h1,λ p hp=>let⟨o,z⟩:=h2 p hp;⟨o,k _ _ _ z⟩⟩
end L2
namespace L3
open PySem.Spec L2
inductive D where
 |bu|bl (b:Bool)|int (i:Int)|str (x:Str)|ty (n:String)|ref (a:ww)
 |tup (xs:List D)
 |fl (xs:List D)
def H_(K:N5)(H:Hp)(p:ww)(xs:List V):Prop:=
 (∃o,H p=some (.ia o (.lst xs)))\/∃(o:Obj) (ay:Array jp) (n:Nat),K.lookup p=some o/\o.cls=.type "list"/\o.dict=none/\o.data=.seq ay n/\ay.size<=sizeLine/\cr xs ay.toList
theorem H_.sq(h:H_ K H p xs):dr K H p xs:=by
 rcases h with h|h
 ·exact .inl (.inr h)
 ·exact .inr h
mutual
def bn(K:N5)(H:Hp):D->V->Prop
 | .bu,v=>v=.bu
 | .bl b,v=>v=.bl b
 | .int i,v=>v=.int i
 | .str x,v=>v=.str x
 | .ty n,v=>v=.ty n
 | .ref a,v=>v=.ref a
 | .tup ds,v=>∃p xs,v=.ref p/\gh K H p xs/\aG K H ds xs
 | .fl ds,v=>∃p xs,v=.ref p/\H_ K H p xs/\aG K H ds xs
def aG(K:N5)(H:Hp):List D->List V->Prop
 |[],xs=>xs=[]
 |d::ds,xs=>∃x r,xs=x::r/\bn K H d x/\aG K H ds r
end
structure ax(H H':Hp):Prop where
 tup:∀b xs,H b=some (.tup xs)->H' b=some (.tup xs)
 ia:∀b o u,H b=some (.ia o u)->H' b=some (.ia o u)
theorem ax.refl(H:Hp):ax H H:=⟨λ _ _ h=>h,λ _ _ _ h=>h⟩
theorem ax.trans{H2:Hp}(a:ax H H1)(b:ax H1 H2):ax H H2:=⟨λ c xs h=>b.tup c xs (a.tup c xs h),λ c o u h=>b.ia c o u (a.ia c o u h)⟩
theorem ax.laid{o:HO}(h:H p=none):ax H (dl H p o):=
 ⟨λ b xs e=>by rw[aB (aZ e h)];exact e,λ b ob u e=>by rw[aB (aZ e h)];exact e⟩
theorem ax.lst {H:Hp}{p:ww}{xs:List V}{o:HO}(h:H p=some (.lst xs)):ax H (dl H p o):=
 ⟨λ b ys e=>by rw[aB (bq e h (by intro z;cases z))];exact e,λ b ob u e=>by rw[aB (bq e h (by intro z;cases z))];exact e⟩
theorem ax.mut{u o:HO}(h:H p=some u)(n1:∀xs,u≠.tup xs)(n2:∀ob w,u≠.ia ob w):ax H (dl H p o):=
 ⟨λ b ys e=>by rw[aB (λ z=>by subst z;rw[h]at e;exact n1 ys (B7 e))];exact e,λ b ob w e=>by rw[aB (λ z=>by subst z;rw[h]at e;exact n2 ob w (B7 e))];exact e⟩
structure Hw(H H':Hp):Prop where
 tup:∀b xs,H b=some (.tup xs)->H' b=some (.tup xs)
 ft:∀b o xs,H b=some (.ia o (.tup xs))->H' b=some (.ia o (.tup xs))
 fl:∀b o xs,H b=some (.ia o (.lst xs))->H' b=some (.ia o (.lst xs))
theorem ax.sub(t:ax H H'):Hw H H':=⟨t.tup,λ b o _=>t.ia b o _,λ b o _=>t.ia b o _⟩
theorem zi(t:Hw H H')(h:gh K H p xs):gh K H' p xs:=by
 rcases h with(h|⟨o,h⟩)|h
 ·exact .inl (.inl (t.tup _ _ h))
 ·exact .inl (.inr ⟨o,t.ft _ _ _ h⟩)
 ·exact .inr h
theorem Am(t:Hw H H')(h:H_ K H p xs):H_ K H' p xs:=by
 rcases h with⟨o,h⟩|h
 ·exact .inl ⟨o,t.fl _ _ _ h⟩
 ·exact .inr h
theorem DB(t:ax H H')(h:gh K H p xs):gh K H' p xs:=zi t.sub h
theorem GJ(t:ax H H')(h:H_ K H p xs):H_ K H' p xs:=Am t.sub h
mutual
theorem bn.mon {K:N5}{H H':Hp}(t:Hw H H'):∀(d:D) {v:V},bn K H d v->bn K H' d v
 | .bu,v,h=>by unfold bn at h ⊢;exact h
 | .bl b,v,h=>by unfold bn at h ⊢;exact h
 | .int i,v,h=>by unfold bn at h ⊢;exact h
 | .str x,v,h=>by unfold bn at h ⊢;exact h
 | .ty n,v,h=>by unfold bn at h ⊢;exact h
 | .ref a,v,h=>by unfold bn at h ⊢;exact h
 | .tup ds,v,h=>by unfold bn at h ⊢;obtain⟨p,xs,e,q,r⟩:=h;exact⟨p,xs,e,zi t q,aG.mon t ds r⟩
 | .fl ds,v,h=>by unfold bn at h ⊢;obtain⟨p,xs,e,q,r⟩:=h;exact⟨p,xs,e,Am t q,aG.mon t ds r⟩
theorem aG.mon {K:N5}{H H':Hp}(t:Hw H H'):∀(ds:List D) {xs:List V},aG K H ds xs->aG K H' ds xs
 |[],xs,h=>by unfold aG at h ⊢;exact h
 |d::ds,xs,h=>by unfold aG at h ⊢;obtain⟨x,r,e,a,b⟩:=h;exact⟨x,r,e,bn.mon t d a,aG.mon t ds b⟩
end
theorem bn.mono(t:ax H H')(d:D)(h:bn K H d v):bn K H' d v:=bn.mon t.sub d h
theorem aG.mono(t:ax H H')(ds:List D)(h:aG K H ds xs):aG K H' ds xs:=aG.mon t.sub ds h
theorem eo:bn K H .bu v↔v=.bu:=by unfold bn;exact Iff.rfl
theorem aR:bn K H (.bl b) v↔v=.bl b:=by unfold bn;exact Iff.rfl
theorem aw{i:Int}:bn K H (.int i) v↔v=.int i:=by unfold bn;exact Iff.rfl
theorem aI:bn K H (.str x) v↔v=.str x:=by unfold bn;exact Iff.rfl
theorem yE{n:String}:bn K H (.ty n) v↔v=.ty n:=by unfold bn;exact Iff.rfl
theorem aP:bn K H (.ref a) v↔v=.ref a:=by unfold bn;exact Iff.rfl
theorem aW{ds:List D}:bn K H (.tup ds) v↔∃p xs,v=.ref p/\gh K H p xs/\aG K H ds xs:=by rw[bn]
theorem ju{ds:List D}:bn K H (.fl ds) v↔∃p xs,v=.ref p/\H_ K H p xs/\aG K H ds xs:=by rw[bn]
theorem av:aG K H [] xs↔xs=[]:=by unfold aG;exact Iff.rfl
theorem ah{d:D}{ds:List D}:aG K H (d::ds) xs↔∃x r,xs=x::r/\bn K H d x/\aG K H ds r:=by rw[aG]
theorem aG.length:∀{ds:List D} {xs:List V},aG K H ds xs->xs.length=ds.length
 |[],xs,h=>by rw[av]at h;subst h;rfl
 |d::ds,xs,h=>by rw[ah]at h;obtain⟨x,r,rfl,_,q⟩:=h;rw[A3,A3,q.length]
theorem aG.get:∀{ds:List D} {xs:List V} {i:Nat} {d:D},aG K H ds xs->ds[i]?=some d->∃x,xs[i]?=some x/\bn K H d x
 |[],xs,i,d,h,e=>by simp at e
 |d0::ds,xs,i,d,h,e=>by
  rw[ah]at h;obtain⟨x,r,rfl,a,q⟩:=h;cases i with
  |zero=>simp at e;subst e;exact⟨x,rfl,a⟩
  |succ i=>obtain⟨y,h1,h2⟩:=aG.get q (by simpa using e);exact⟨y,by simpa using h1,h2⟩
theorem aG.t_:∀{ds:List D} {xs:List V} {i:Nat} {x:V},aG K H ds xs->xs[i]?=some x->∃d,ds[i]?=some d/\bn K H d x
 |[],xs,i,x,h,e=>by rw[av]at h;subst h;simp at e
 |d0::ds,xs,i,x,h,e=>by
  rw[ah]at h;obtain⟨y,r,rfl,a,q⟩:=h;cases i with
  |zero=>simp at e;subst e;exact⟨d0,rfl,a⟩
  |succ i=>obtain⟨d,h1,h2⟩:=aG.t_ q (by simpa using e);exact⟨d,by simpa using h1,h2⟩
theorem aG.append:∀{ds es:List D} {xs ys:List V},aG K H ds xs->aG K H es ys->aG K H (ds++es) (xs++ys)
 |[],es,xs,ys,h,q=>by rw[av]at h;subst h;exact q
 |d::ds,es,xs,ys,h,q=>by rw[ah]at h;obtain⟨x,r,rfl,a,b⟩:=h;rw[cons_append,cons_append,ah];exact⟨x,_,rfl,a,b.append q⟩
theorem aG.one{d:D}(h:bn K H d v):aG K H [d] [v]:=by rw[ah];exact⟨v,[],rfl,h,by rw[av]⟩
theorem aG.take:∀{ds:List D} {xs:List V} (n:Nat),aG K H ds xs->aG K H (ds.take n) (xs.take n)
 |ds,xs,0,h=>by simp[av]
 |[],xs,n+1,h=>by rw[av]at h;subst h;simp[av]
 |d::ds,xs,n+1,h=>by rw[ah]at h;obtain⟨x,r,rfl,a,b⟩:=h;rw[take_succ_cons,take_succ_cons,ah];exact⟨x,_,rfl,a,b.take n⟩
theorem aG.drop:∀{ds:List D} {xs:List V} (n:Nat),aG K H ds xs->aG K H (ds.drop n) (xs.drop n)
 |ds,xs,0,h=>h
 |[],xs,n+1,h=>by rw[av]at h;subst h;simp[av]
 |d::ds,xs,n+1,h=>by rw[ah]at h;obtain⟨x,r,rfl,a,b⟩:=h;exact b.drop n
theorem aG.set{d:D}{x:V}(hd:bn K H d x):∀{ds:List D} {xs:List V} (n:Nat),aG K H ds xs->aG K H (ds.set n d) (xs.set n x)
 |[],xs,n,h=>by rw[av]at h;subst h;simp[av]
 |d0::ds,xs,0,h=>by rw[ah]at h;obtain⟨y,r,rfl,a,b⟩:=h;rw[set_cons_zero,set_cons_zero,ah];exact⟨x,_,rfl,hd,b⟩
 |d0::ds,xs,n+1,h=>by rw[ah]at h;obtain⟨y,r,rfl,a,b⟩:=h;rw[set_cons_succ,set_cons_succ,ah];exact⟨y,_,rfl,a,b.set hd n⟩
theorem lE:∀(ns:List Int),aG K H (ns.map D.int) (ns.map V.int)
 |[]=>by simp[av]
 |n::ns=>by rw[F9,F9,ah];exact⟨_,_,rfl,aw.mpr rfl,lE ns⟩
theorem we:∀{bs:List Bool} {xs:List V},aG K H (bs.map D.bl) xs->xs=bs.map V.bl
 |[],xs,h=>by rw[map_nil,av]at h;exact h
 |b::bs,xs,h=>by rw[F9,ah]at h;obtain⟨x,r,rfl,a,q⟩:=h;rw[aR]at a;rw[a,we q];rfl
theorem rL:∀{ys:List Str} {xs:List V},aG K H (ys.map D.str) xs->xs=ys.map V.str
 |[],xs,h=>by rw[map_nil,av]at h;exact h
 |b::bs,xs,h=>by rw[F9,ah]at h;obtain⟨x,r,rfl,a,q⟩:=h;rw[aI]at a;rw[a,rL q];rfl
def qr:Key->D
 | .inl i=>.int i
 | .inr x=>.str x
mutual
def rD:IK->D
 | .i n=>.int n
 | .t ks=>.tup (qt ks)
def qt:List IK->List D
 |[]=>[]
 |k::ks=>rD k::qt ks
end
mutual
theorem pM{K:N5}{H:Hp}:∀(k:IK) {v:V},bn K H (rD k) v->iW K H k v
 | .i n,v,h=>by unfold rD at h;unfold iW;exact .inl (aw.mp h)
 | .t ks,v,h=>by unfold rD at h;obtain⟨p,xs,rfl,hq,hx⟩:=aW.mp h;unfold iW;exact⟨p,xs,rfl,hq,wc ks hx⟩
theorem wc{K:N5}{H:Hp}:∀(ks:List IK) {xs:List V},aG K H (qt ks) xs->md K H ks xs
 |[],xs,h=>by unfold qt at h;unfold md;exact av.mp h
 |k::ks,xs,h=>by unfold qt at h;obtain⟨x,r,rfl,h1,h2⟩:=ah.mp h;unfold md;exact⟨x,r,rfl,pM k h1,wc ks h2⟩
end
mutual
theorem tU:∀{a b:IK},rD a=rD b->a=b
 | .i n,.i m,h=>by unfold rD at h;cases h;rfl
 | .i n,.t ks,h=>by unfold rD at h;cases h
 | .t ks,.i n,h=>by unfold rD at h;cases h
 | .t ks,.t ls,h=>by unfold rD at h;rw[vS (D.tup.inj h)]
theorem vS:∀{as bs:List IK},qt as=qt bs->as=bs
 |[],[],_=>rfl
 |[],b::bs,h=>by unfold qt at h;cases h
 |a::as,[],h=>by unfold qt at h;cases h
 |a::as,b::bs,h=>by
  unfold qt at h;injection h with h1 h2
  rw[tU h1,vS h2]
end
theorem vN{a b:Key}(h:qr a=qr b):a=b:=by
 cases a with
 |inl i=>cases b with
  |inl j=>have e:D.int i=D.int j:=h;cases e;rfl
  |inr y=>have e:D.int i=D.str y:=h;cases e
 |inr x=>cases b with
  |inl j=>have e:D.str x=D.int j:=h;cases e
  |inr y=>have e:D.str x=D.str y:=h;cases e;rfl
theorem ud{k:Key}(h:bn K H (qr k) v):v=kV k:=by
 cases k with
 |inl i=>exact aw.mp h
 |inr x=>exact aI.mp h
inductive XM where
 |lam (L:Z9) (cl:List (Str×ww))|YS (d:D)|CP (q:Str)
  |YU (aA:List (List Bool×D))
inductive MO where
 |lst (ds:List D)
 |By (x:XM)
  |fH (t:Bool) (aA:List (D×D))
abbrev Md(K:N5)(H:Hp):List (D×D)->List (Key×V)->Prop:=Paired λ p q=>p.1=qr q.1/\bn K H p.2 q.2
abbrev HG(K:N5)(H:Hp):List (D×D)->List fK->Prop:=Paired λ p q=>p.1=rD q.1/\q.1.dep<=5/\bn K H p.1 (.ref q.2.1)/\bn K H p.2 q.2.2
def bIK(bs:List Bool):IK:=.t (bs.map λ b=>.i (b2i b))
def blT(bs:List Bool):D:=.tup (bs.map D.bl)
abbrev Wm(K:N5)(H:Hp):List (List Bool×D)->List fK->Prop:=Paired λ p q=>q.1=bIK p.1/\bn K H (blT p.1) (.ref q.2.1)/\bn K H p.2 q.2.2
theorem Wm.mono(t:ax H H'){aA:List (List Bool×D)}{xs:List fK}(h:Wm K H aA xs):Wm K H' aA xs:=Paired.BM h λ p q z=>⟨z.1,bn.mono t _ z.2.1,bn.mono t _ z.2.2⟩
theorem Md.mono(t:ax H H'){aA:List (D×D)}{xs:List (Key×V)}(h:Md K H aA xs):Md K H' aA xs:=Paired.BM h λ p q z=>⟨z.1,bn.mono t _ z.2⟩
theorem HG.mono(t:ax H H'){aA:List (D×D)}{xs:List fK}(h:HG K H aA xs):HG K H' aA xs:=Paired.BM h λ p q z=>⟨z.1,z.2.1,bn.mono t _ z.2.2.1,bn.mono t _ z.2.2.2⟩
abbrev Mem:=ww->Option MO
def ai(M:Mem)(a:ww)(o:MO):Mem:=λ b=>if b=a then some o else M b
theorem af{M:Mem}{o:MO}:ai M a o a=some o:=by unfold ai;rw[N3 rfl]
theorem aq{M:Mem}{b:ww}{o:MO}(h:b≠a):ai M a o b=M b:=by unfold ai;rw[N4 h]
theorem gq{M:Mem}{o u:MO}:ai (ai M a o) a u=ai M a u:=by funext b;unfold ai;split <;> rfl
def yV(K:N5)(H:Hp)(a:ww):MO->Prop
 | .lst ds=>∃xs,H a=some (.lst xs)/\aG K H ds xs
 | .fH false aA=>∃xs,H a=some (.dK xs)/\Md K H aA xs
 | .fH true aA=>∃xs,H a=some (Aq a xs)/\HG K H aA xs
 | .By (.lam L cl)=>∃c,(∃o,H a=some (.ia o (.ext (XG a L c cl))))/\∃o,H c=some (.ia o (.ext (UY c L.qual)))
 | .By (.YS d)=>∃o v,H a=some (YR o a v)/\bn K H d v
 | .By (.CP q)=>U7 H a q
 | .By (.YU aA)=>∃xs,H a=some (Aq a xs)/\Wm K H aA xs
def ce(K:N5)(H:Hp)(M:Mem):Prop:=∀a o,M a=some o->yV K H a o
theorem yV.there{o:MO}(h:yV K H a o):∃u,H a=some u:=by
 cases o with
 |By x=>
  cases x with
  |lam L cl=>obtain⟨_,⟨o,h⟩,_⟩:=h;exact⟨_,h⟩
  |YS d=>obtain⟨o,v,h,_⟩:=h;exact⟨_,h⟩
  |CP q=>obtain⟨cs,h,_⟩:=h;exact⟨_,h⟩
  |YU aA=>obtain⟨xs,h,_⟩:=h;exact⟨_,h⟩
 |lst ds=>obtain⟨xs,h,_⟩:=h;exact⟨_,h⟩
 |fH t aA=>
  cases t with
  |false=>obtain⟨xs,h,_⟩:=h;exact⟨_,h⟩
  |true=>obtain⟨xs,h,_⟩:=h;exact⟨_,h⟩
theorem yV.mono{o:MO}(h:yV K H a o)(t:ax H H')(e:H' a=H a):yV K H' a o:=by
 cases o with
 |By x=>
  cases x with
  |lam L cl=>obtain⟨c,⟨o,h⟩,o',h'⟩:=h;exact⟨c,⟨o,e.trans h⟩,o',t.ia _ _ _ h'⟩
  |YS d=>obtain⟨o,v,h,q⟩:=h;exact⟨o,v,e.trans h,bn.mono t d q⟩
  |CP q=>exact U7.grow h t.ia e
  |YU aA=>obtain⟨xs,h,q⟩:=h;exact⟨xs,e.trans h,q.mono t⟩
 |lst ds=>obtain⟨xs,h,q⟩:=h;exact⟨xs,e.trans h,aG.mono t ds q⟩
 |fH b aA=>
  cases b with
  |false=>obtain⟨xs,h,q⟩:=h;exact⟨xs,e.trans h,q.mono t⟩
  |true=>obtain⟨xs,h,q⟩:=h;exact⟨xs,e.trans h,q.mono t⟩
theorem ce.free{M:Mem}(h:ce K H M)(n:H p=none):M p=none:=by
 cases e:M p with
 |none=>rfl
 |some o=>obtain⟨u,q⟩:=(h p o e).there;rw[n]at q;cases q
theorem ce.laid{M:Mem}(h:ce K H M){o:HO}(n:H p=none):ce K (dl H p o) M:=λ a u e=>by obtain⟨w,q⟩:=(h a u e).there;exact(h a u e).mono (ax.laid n) (aB (aZ q n))
theorem ce.put{M:Mem}(h:ce K H M){o:HO}{u:MO}(t:ax H (dl H p o))(new:yV K (dl H p o) p u):ce K (dl H p o) (ai M p u):=λ a w e=>by
 by_cases ha:a=p
 ·subst ha;rw[af]at e;cases e;exact new
 ·rw[aq ha]at e;exact(h a w e).mono t (aB ha)
def bA(M M':Mem):Prop:=∀a o,M a=some o->M' a=some o
theorem bA.refl(M:Mem):bA M M:=λ _ _ h=>h
theorem bA.trans{M M1 M2:Mem}(a:bA M M1)(b:bA M1 M2):bA M M2:=λ c o h=>b c o (a c o h)
theorem bA.put{M M':Mem}{o:MO}(h:bA M M')(n:M p=none):bA M (ai M' p o):=λ a u e=>by rw[aq (λ z=>by subst z;rw[n]at e;cases e)];exact h a u e
theorem ce.sub{M M':Mem}(h:ce K H M')(s:bA M M'):ce K H M:=λ a o e=>h a o (s a o e)
abbrev dm:=List (Option D)
structure bX(K:N5)(H:Hp)(δ:dm)(σ:St):Prop where
 len:δ.length=σ.length
 get:∀(i:Nat) (d:D),δ[i]?=some (some d)->∃v,σ[i]?=some (some v)/\bn K H d v
theorem bX.mono{δ:dm}(h:bX K H δ σ)(t:ax H H'):bX K H' δ σ:=
 ⟨h.len,λ i d e=>let⟨v,q,r⟩:=h.get i d e;⟨v,q,bn.mono t d r⟩⟩
theorem bX.set{δ:dm}(h:bX K H δ σ){d:D}(r:bn K H d v):bX K H (δ.set i (some d)) (σ.set i (some v)):=by
 refine⟨by rw[C7,C7];exact h.len,λ j e hj=>?_⟩;by_cases rE:i=j
 ·subst rE;have hi:i < δ.length:=by have:=(i5.mp hj).1;simpa using this
  rw[j9 hi]at hj;cases hj;exact⟨v,by rw[j9 (by rw[<- h.len];exact hi)],r⟩
 ·rw[m7 rE]at hj;obtain⟨u,q,w⟩:=h.get j e hj;exact⟨u,by rw[m7 rE];exact q,w⟩
abbrev bH:=D->Mem->Prop
abbrev cb:=dm->Mem->bH->Prop
abbrev fJ:=dm->Mem->(Bool->Mem->Prop)->Prop
abbrev gg:=dm->Mem->(List D->Mem->Prop)->Prop
structure eE where
 nx:dm->Mem->Prop
 rt:bH
 bk:dm->Mem->Prop:=λ _ _=>False
 ct:dm->Mem->Prop:=λ _ _=>False
abbrev iK:=eE->dm->Mem->Prop
def i_(K:N5)(H:Hp)(Q2:bH)(Q:VK):Prop:=∀v H' d M',bn K H' d v->ce K H' M'->ax H H'->Q2 d M'->Q v H'
def wX(K:N5)(H:Hp)(Q2:Bool->Mem->Prop)(Q:Bool->Hp->Prop):Prop:=∀b H' M',ce K H' M'->ax H H'->Q2 b M'->Q b H'
def Vf(K:N5)(H:Hp)(Q2:List D->Mem->Prop)(Q:List V->Hp->Prop):Prop:=∀vs H' ds M',aG K H' ds vs->ce K H' M'->ax H H'->Q2 ds M'->Q vs H'
def mn(K:N5)(H:Hp)(N2:dm->Mem->Prop)(N:St->Hp->Prop):Prop:=∀σ' H' δ' M',bX K H' δ' σ'->ce K H' M'->ax H H'->N2 δ' M'->N σ' H'
structure wY(K:N5)(H:Hp)(D2:eE)(E:Ends):Prop where
 nx:mn K H D2.nx E.nx
 rt:i_ K H D2.rt E.rt
 bk:mn K H D2.bk E.bk
 ct:mn K H D2.ct E.ct
theorem i_.mono{Q2:bH}{Q:VK}(c:i_ K H Q2 Q)(t:ax H H1):i_ K H1 Q2 Q:=λ v H' d M' a b e q=>c v H' d M' a b (t.trans e) q
theorem wX.mono{Q2:Bool->Mem->Prop}{Q:Bool->Hp->Prop}(c:wX K H Q2 Q)(t:ax H H1):wX K H1 Q2 Q:=λ v H' M' b e q=>c v H' M' b (t.trans e) q
theorem mn.mono{N2:dm->Mem->Prop}{N:St->Hp->Prop}(c:mn K H N2 N)(t:ax H H1):mn K H1 N2 N:=λ v H' d M' a b e q=>c v H' d M' a b (t.trans e) q
theorem wY.mono{D2:eE}{E:Ends}(c:wY K H D2 E)(t:ax H H1):wY K H1 D2 E:=⟨c.nx.mono t,c.rt.mono t,c.bk.mono t,c.ct.mono t⟩
def up(K:N5)(t:cb):TE:=λ σ H Q=>∃δ M Q2,bX K H δ σ/\ce K H M/\t δ M Q2/\i_ K H Q2 Q
def CO(K:N5)(t:fJ):TT:=λ σ H Q=>∃δ M Q2,bX K H δ σ/\ce K H M/\t δ M Q2/\wX K H Q2 Q
def Y'(K:N5)(t:gg):TA:=λ σ H Q=>∃δ M Q2,bX K H δ σ/\ce K H M/\t δ M Q2/\Vf K H Q2 Q
def Wt(K:N5)(t:iK):TS:=λ E σ H=>∃δ M D2,bX K H δ σ/\ce K H M/\t D2 δ M/\wY K H D2 E
abbrev QE(X:Cx)(e:Expr)(t:cb):Prop:=PE X e (up X.K t)
abbrev QT(X:Cx)(e:Expr)(t:fJ):Prop:=PT X e (CO X.K t)
abbrev QW(X:Cx)(e:Expr)(t:fJ):Prop:=PW X e (CO X.K t)
abbrev QA(X:Cx)(es:List Expr)(t:gg):Prop:=PA X es (Y' X.K t)
abbrev QS(X:Cx)(st:Stmt)(t:iK):Prop:=PS X st (Wt X.K t)
abbrev Hz(X:Cx)(Rh:List Stmt)(t:iK):Prop:=rZ X Rh (Wt X.K t)
theorem bQ{t t':TE}(h:PE X e t)(k:∀σ H Q,t' σ H Q->t σ H Q):PE X e t':=λ xz s σ H Q I q=>h xz s σ H Q I (k σ H Q q)
theorem zG{t t':TT}(h:PT X e t)(k:∀σ H Q,t' σ H Q->t σ H Q):PT X e t':=λ xz s σ H Q I q=>h xz s σ H Q I (k σ H Q q)
theorem Mw{t t':TT}(h:PW X e t)(k:∀σ H Q,t' σ H Q->t σ H Q):PW X e t':=λ wh xz s σ H Q I q=>h wh xz s σ H Q I (k σ H Q q)
theorem Fb{t t':TA}(h:PA X es t)(k:∀σ H Q,t' σ H Q->t σ H Q):PA X es t':=λ pos xz s σ H Q I q=>h pos xz s σ H Q I (k σ H Q q)
theorem ix{t t':TS}(h:PS X st t)(k:∀E σ H,t' E σ H->t E σ H):PS X st t':=λ xz s σ H E I q=>h xz s σ H E I (k E σ H q)
theorem EB{Rh:List Stmt}{t t':TS}(h:rZ X Rh t)(k:∀E σ H,t' E σ H->t E σ H):rZ X Rh t':=λ xz s σ H E I q=>h xz s σ H E I (k E σ H q)
end L3
variable {ds:List L3.D}{M M1 M':L3.Mem}{d:L3.D}{r2:List L3.D->L3.Mem->L3.bH->Prop}{te tc:L3.cb}{Qe:List L3.D->L3.Mem->Prop}{δ:L3.dm}{t ta:L3.gg}{tt:L3.fJ}{h2:ww->List (Str×L3.D)->L3.iK}{tb:L3.iK}{QB:Bool->L3.Mem->Prop}
namespace L3
open PySem.Spec L2
abbrev fF:=D->D->Mem->bH->Prop
def Hx(K:N5)(r:R2)(r2:fF):Prop:=∀x y d e H M Q2 Q,bn K H d x->bn K H e y->ce K H M->r2 d e M Q2->i_ K H Q2 Q->r x y H Q
def YZ(K:N5)(r:V->Hp->VK->Prop)(r2:D->Mem->bH->Prop):Prop:=∀x d H M Q2 Q,bn K H d x->ce K H M->r2 d M Q2->i_ K H Q2 Q->r x H Q
def Q9(K:N5)(r:List V->Hp->VK->Prop)(r2:List D->Mem->bH->Prop):Prop:=∀xs ds H M Q2 Q,aG K H ds xs->ce K H M->r2 ds M Q2->i_ K H Q2 Q->r xs H Q
def Y0(K:N5)(r:V->List V->Hp->VK->Prop)(r2:D->List D->Mem->bH->Prop):Prop:=∀x xs d ds H M Q2 Q,bn K H d x->aG K H ds xs->ce K H M->r2 d ds M Q2->i_ K H Q2 Q->r x xs H Q
def U8(K:N5)(r:V->Option Int->Option Int->Hp->VK->Prop)(r2:D->Option Int->Option Int->Mem->bH->Prop):Prop:=∀x d lo hi H M Q2 Q,bn K H d x->ce K H M->r2 d lo hi M Q2->i_ K H Q2 Q->r x lo hi H Q
def eX(X:Cx)(f:jp->jp->Sem jp)(r2:fF):Prop:=∃r,fG X f r/\Hx X.K r r2
def YX(X:Cx)(f:jp->Sem jp)(r2:D->Mem->bH->Prop):Prop:=∃r,We X f r/\YZ X.K r r2
def Vb(X:Cx)(r2:fF):Prop:=∃r,yW X r/\Hx X.K r r2
def U9(X:Cx)(r2:D->Option Int->Option Int->Mem->bH->Prop):Prop:=∃r,AM X r/\U8 X.K r r2
def cZ(X:Cx)(f:jp)(r2:List D->Mem->bH->Prop):Prop:=∃r,cL X f r/\Q9 X.K r r2
def HZ(X:Cx)(id:String)(r2:D->List D->Mem->bH->Prop):Prop:=∃r,RB X id r/\Y0 X.K r r2
section
variable {a b c:Expr}{ta tb:cb}
def DL(i:Nat):cb:=λ δ M Q=>match δ[i]? with
 |some (some d)=>Q d M
 |_=>False
def sC(d:D):cb:=λ _ M Q=>Q d M
theorem q_v(i:Nat)(hN:X.N[i]?=some x:=by rfl)(hv:U5 X.env.scope x:=by first|exact Or.inl rfl|exact Or.inr (Or.inl rfl)|exact Or.inr (Or.inr rfl))(hd:(x==("__debug__":Str))=false:=by decide) (hcd:(x==("__classdict__":Str))=false:=by decide):QE X (.Name x pos) (DL i):=bQ (ER hN hv hd hcd) λ σ H Q ⟨δ,M,Q2,hs,hm,q,k⟩=>by
 unfold DL at q;cases e:δ[i]? with
 |none=>rw[e]at q;exact q.elim
 |some o=>
  cases o with
  |none=>rw[e]at q;exact q.elim
  |some d=>rw[e]at q;obtain⟨v,h1,h2⟩:=hs.get i d e;exact⟨v,h1,k v H d M h2 hm (ax.refl H) q⟩
theorem SO{i j:_}:QE X (.Constant (.int i) j pos) (sC (.int i)):=bQ ll λ σ H Q ⟨δ,M,Q2,hs,hm,q,k⟩=>k _ H (.int i) M (aw.mpr rfl) hm (ax.refl H) q
theorem Xh{i j:_}:QE X (.Constant (.bool i) j pos) (sC (.bl i)):=bQ My λ σ H Q ⟨δ,M,Q2,hs,hm,q,k⟩=>k _ H (.bl i) M (aR.mpr rfl) hm (ax.refl H) q
theorem Mv{i j:_}:QE X (.Constant (.str i) j pos) (sC (.str i)):=bQ oG λ σ H Q ⟨δ,M,Q2,hs,hm,q,k⟩=>k _ H (.str i) M (aI.mpr rfl) hm (ax.refl H) q
theorem SM{j:_}:QE X (.Constant .none j pos) (sC .bu):=bQ O5 λ σ H Q ⟨δ,M,Q2,hs,hm,q,k⟩=>k _ H .bu M (eo.mpr rfl) hm (ax.refl H) q
structure jg(K:N5)(mg:Str->Option jp)(x:Str)(d:D):Prop where
 ex:∃u v,mg x=some u/\bv v u/\∀H,bn K H d v
theorem OR(G:jg X.K X.mg x d)(hg:Gl X x)(hd:(x==("__debug__":Str))=false:=by decide):QE X (.Name x pos) (sC d):=by obtain⟨u,v,hm,r,hD⟩:=G.ex;exact bQ (JZ hg hm r hd) λ σ H Q ⟨δ,M,Q2,hs,hm,q,k⟩=>k _ H d M (hD H) hm (ax.refl H) q
theorem Xb{n:String}(hg:Gl X x)(hm:X.mg x=none)(hv:bootBuiltins x=some (.type n))(hn:x≠"__name__":=by decide)(hd:(x==("__debug__":Str))=false:=by decide):QE X (.Name x pos) (sC (.ty n)):=
 bQ (zK (v:=.ty n) hg hm hv rfl hn hd) λ σ H Q ⟨δ,M,Q2,hs,hm,q,k⟩=>k _ H (.ty n) M (yE.mpr rfl) hm (ax.refl H) q
def HK(r2:fF)(ta tb:cb):cb:=λ δ M Q=>ta δ M λ d M1=>tb δ M1 λ e M2=>r2 d e M2 Q
theorem mZ{r:R2}{r2:fF}(hr:Hx K r r2):∀σ H Q,up K (HK r2 ta tb) σ H Q->RT r (up K ta) (up K tb) σ H Q:=by rintro σ H Q ⟨δ,M,Q2,hs,hm,q,k⟩;refine⟨δ,M,_,hs,hm,q,λ x H1 d M1 hd bU t1 q1=>?_⟩;refine⟨δ,M1,_,hs.mono t1,bU,q1,λ y H2 e M2 he lA t2 q2=>?_⟩;exact hr x y d e H2 M2 Q2 Q (bn.mono t2 d hd) he lA q2 (k.mono (t1.trans t2))
theorem Xd{op:Operator}{r2:fF}(o:eX X (binaryOp op) r2)(ha:QE X a ta)(hb:QE X b tb):QE X (.BinOp a op b pos) (HK r2 ta tb):=by obtain⟨r,ho,hr⟩:=o;exact bQ (S3 ho ha hb) (mZ hr)
def WY(r2:D->Mem->bH->Prop)(ta:cb):cb:=λ δ M Q=>ta δ M λ d M1=>r2 d M1 Q
theorem Xa{op:UnaryOp}{r2:D->Mem->bH->Prop}(o:YX X (unaryOp op) r2)(ha:QE X a ta):QE X (.UnaryOp op a pos) (WY r2 ta):=by obtain⟨r,ho,hr⟩:=o;refine bQ (SY ho ha) ?_;rintro σ H Q ⟨δ,M,Q2,hs,hm,q,k⟩;exact⟨δ,M,_,hs,hm,q,λ x H1 d M1 hd bU t1 q1=>hr x d H1 M1 Q2 Q hd bU q1 (k.mono t1)⟩
theorem SR{op:CmpOp}{r2:fF}(o:eX X (compareOp op) r2)(ha:QE X a ta)(hb:QE X b tb)(hm:behindInMarks op b=false):QE X (.Compare a [op] [b] pos) (HK r2 ta tb):=by obtain⟨r,ho,hr⟩:=o;exact bQ (J' ho ha hb hm) (mZ hr)
def ow(t:cb):fJ:=λ δ M Q=>t δ M λ d M1=>match d with
 | .bl k=>Q k M1
 |_=>False
theorem kR{Q2:Bool->Mem->Prop}{Q:Bool->Hp->Prop}(k:wX K H Q2 Q):i_ K H (λ d M1=>match d with| .bl k=>Q2 k M1|_=>False) (λ x H'=>∃k,x=.bl k/\Q k H'):=λ v H' d M' hd hm t q=>by
 cases d with
 |bl b=>exact⟨b,aR.mp hd,k b H' M' hm t q⟩
 |_=>exact q.elim
theorem OG{op:CmpOp}{r2:fF}(o:eX X (compareOp op) r2)(ha:QE X a ta)(hb:QE X b tb)(hm:behindInMarks op b=false):QT X (.Compare a [op] [b] pos) (ow (HK r2 ta tb)):=by obtain⟨r,ho,hr⟩:=o;refine zG (zF ho ha hb hm) ?_;rintro σ H Q ⟨δ,M,Q2,hs,hm,q,k⟩;exact mZ hr σ H _ ⟨δ,M,_,hs,hm,q,kR k⟩
def kX(r r':fF)(ta tb tc:cb):cb:=λ δ M Q=>ta δ M λ d M1=>tb δ M1 λ e M2=>r d e M2 λ z M3=>match z with
 | .bl k=>if k=true then tc δ M3 λ w M4=>r' e w M4 Q else Q (.bl false) M3
 |_=>False
theorem pX{r r':R2}{r2 xR:fF}(hr:Hx K r r2)(TN:Hx K r' xR):∀σ H Q,up K (kX r2 xR ta tb tc) σ H Q->xC r r' (up K ta) (up K tb) (up K tc) σ H Q:=by
 rintro σ H Q ⟨δ,M,Q2,hs,hm,q,k⟩;refine⟨δ,M,_,hs,hm,q,λ x H1 d M1 hd bU t1 q1=>?_⟩;refine⟨δ,M1,_,hs.mono t1,bU,q1,λ y H2 e M2 he lA t2 q2=>?_⟩;refine hr x y d e H2 M2 _ _ (bn.mono t2 d hd) he lA q2 λ v H3 z M3 hz vV t3 q3=>?_;cases z with
 |bl b=>
  refine⟨b,aR.mp hz,?_⟩;have q3:if b=true then tc δ M3 λ w M4=>xR e w M4 Q2 else Q2 (.bl false) M3:=q3
  cases b with
  |true=>rw[N3 rfl]at q3 ⊢;exact⟨δ,M3,_,hs.mono (t1.trans (t2.trans t3)),vV,q3,λ w' H4 w M4 hw V6 t4 q4=>TN y w' e w H4 M4 Q2 Q (bn.mono (t3.trans t4) e he) hw V6 q4 (k.mono (t1.trans (t2.trans (t3.trans t4))))⟩
  |false=>rw[N4 p9]at q3 ⊢;exact k _ H3 (.bl false) M3 (aR.mpr rfl) vV (t1.trans (t2.trans t3)) q3
 |_=>exact q3.elim
theorem JP{op oK:CmpOp}{r2 xR:fF}(o:eX X (compareOp op) r2)(o':eX X (compareOp oK) xR)(ha:QE X a ta)(hb:QE X b tb)(hc:QE X c tc)(hm:lastMarks [op,oK] [b,c]=false:=by with_unfolding_all rfl):QE X (.Compare a [op,oK] [b,c] pos) (kX r2 xR ta tb tc):=by obtain⟨r,ho,hr⟩:=o;obtain⟨r',ly,TN⟩:=o';exact bQ (EX ho ly ha hb hc hm) (pX hr TN)
theorem Eo{op oK:CmpOp}{r2 xR:fF}(o:eX X (compareOp op) r2)(o':eX X (compareOp oK) xR)(ha:QE X a ta)(hb:QE X b tb)(hc:QE X c tc)(hm:lastMarks [op,oK] [b,c]=false:=by with_unfolding_all rfl):QT X (.Compare a [op,oK] [b,c] pos) (ow (kX r2 xR ta tb tc)):=by obtain⟨r,ho,hr⟩:=o;obtain⟨r',ly,TN⟩:=o';refine zG (EA ho ly ha hb hc hm) ?_;rintro σ H Q ⟨δ,M,Q2,hs,hm,q,k⟩;exact pX hr TN σ H _ ⟨δ,M,_,hs,hm,q,kR k⟩
theorem OE(h:QE X e ta)(he:∀whole,isTrue e X.env whole=(do let v <- whole;standAt e.pos;holding [v] (truthy v)):=by intro _;rfl):QT X e (ow ta):=by refine zG (lg h he) ?_;rintro σ H Q ⟨δ,M,Q2,hs,hm,q,k⟩;exact⟨δ,M,_,hs,hm,q,kR k⟩
variable {tA tB:fJ}
def NQ(t u:fJ):fJ:=λ δ M Q=>t δ M λ c M1=>if c=true then u δ M1 Q else Q false M1
def W0(t u:fJ):fJ:=λ δ M Q=>t δ M λ c M1=>if c=true then Q true M1 else u δ M1 Q
def NL(t:fJ):fJ:=λ δ M Q=>t δ M λ c M1=>Q (!c) M1
theorem JA(ha:QT X a tA):QW X (.BoolOp .And [a] pos) tA:=zE ha
theorem OC(ha:QT X a tA):QW X (.BoolOp .Or [a] pos) tA:=OW ha
theorem OD(ha:QT X a tA)(hb:QW X (.BoolOp .And (b::rest) pos) tB):QW X (.BoolOp .And (a::b::rest) pos) (NQ tA tB):=Mw (xV ha hb) λ σ H Q ⟨δ,M,Q2,hs,hm,q,k⟩=>by
 refine⟨δ,M,_,hs,hm,q,λ c H1 M1 bU t1 q1=>?_⟩;cases c with
 |true=>rw[N3 rfl]at q1 ⊢;exact⟨δ,M1,Q2,hs.mono t1,bU,q1,k.mono t1⟩
 |false=>rw[N4 p9]at q1 ⊢;exact k _ _ _ bU t1 q1
theorem SH(ha:QT X a tA)(hb:QW X (.BoolOp .Or (b::rest) pos) tB):QW X (.BoolOp .Or (a::b::rest) pos) (W0 tA tB):=Mw (SU ha hb) λ σ H Q ⟨δ,M,Q2,hs,hm,q,k⟩=>by
 refine⟨δ,M,_,hs,hm,q,λ c H1 M1 bU t1 q1=>?_⟩;cases c with
 |true=>rw[N3 rfl]at q1 ⊢;exact k _ _ _ bU t1 q1
 |false=>rw[N4 p9]at q1 ⊢;exact⟨δ,M1,Q2,hs.mono t1,bU,q1,k.mono t1⟩
theorem OF(ha:QT X a tA):QT X (.UnaryOp .Not a pos) (NL tA):=zG (Ez ha) λ σ H Q ⟨δ,M,Q2,hs,hm,q,k⟩=>⟨δ,M,_,hs,hm,q,λ c H1 M1 bU t1 q1=>k _ _ _ bU t1 q1⟩
def DT(ta tb:cb):cb:=λ δ M Q=>ta δ M λ d M1=>match d with
 | .bl c=>if c=true then tb δ M1 Q else Q (.bl false) M1
 |_=>False
def NJ(ta tb:cb):cb:=λ δ M Q=>ta δ M λ d M1=>match d with
 | .bl c=>if c=true then Q (.bl true) M1 else tb δ M1 Q
 |_=>False
theorem SK{op:_}(h:QE X a ta):QE X (.BoolOp op [a] pos) ta:=O4 h
theorem SS(ha:QE X a ta)(hb:QE X (.BoolOp .And (b::rest) pos) tb):QE X (.BoolOp .And (a::b::rest) pos) (DT ta tb):=bQ (O7 ha hb) λ σ H Q ⟨δ,M,Q2,hs,hm,q,k⟩=>by
 refine⟨δ,M,_,hs,hm,q,λ x H1 d M1 hd bU t1 q1=>?_⟩;cases d with
 |bl c=>
  refine⟨c,aR.mp hd,?_⟩;have q1:if c=true then tb δ M1 Q2 else Q2 (.bl false) M1:=q1
  cases c with
  |true=>rw[N3 rfl]at q1 ⊢;exact⟨δ,M1,Q2,hs.mono t1,bU,q1,k.mono t1⟩
  |false=>rw[N4 p9]at q1 ⊢;exact k _ _ _ _ (aR.mpr rfl) bU t1 q1
 |_=>exact q1.elim
theorem Xc(ha:QE X a ta)(hb:QE X (.BoolOp .Or (b::rest) pos) tb):QE X (.BoolOp .Or (a::b::rest) pos) (NJ ta tb):=bQ (S0 ha hb) λ σ H Q ⟨δ,M,Q2,hs,hm,q,k⟩=>by
 refine⟨δ,M,_,hs,hm,q,λ x H1 d M1 hd bU t1 q1=>?_⟩;cases d with
 |bl c=>
  refine⟨c,aR.mp hd,?_⟩;have q1:if c=true then Q2 (.bl true) M1 else tb δ M1 Q2:=q1
  cases c with
  |true=>rw[N3 rfl]at q1 ⊢;exact k _ _ _ _ (aR.mpr rfl) bU t1 q1
  |false=>rw[N4 p9]at q1 ⊢;exact⟨δ,M1,Q2,hs.mono t1,bU,q1,k.mono t1⟩
 |_=>exact q1.elim
def W2(t:fJ)(ta tb:cb):cb:=λ δ M Q=>t δ M λ c M1=>if c=true then ta δ M1 Q else tb δ M1 Q
theorem Xf(hc:QT X c tA)(ha:QE X a ta)(hb:QE X b tb):QE X (.IfExp c a b pos) (W2 tA ta tb):=bQ (EU hc ha hb) λ σ H Q ⟨δ,M,Q2,hs,hm,q,k⟩=>by
 refine⟨δ,M,_,hs,hm,q,λ c H1 M1 bU t1 q1=>?_⟩;cases c with
 |true=>rw[N3 rfl]at q1 ⊢;exact⟨δ,M1,Q2,hs.mono t1,bU,q1,k.mono t1⟩
 |false=>rw[N4 p9]at q1 ⊢;exact⟨δ,M1,Q2,hs.mono t1,bU,q1,k.mono t1⟩
def NM:gg:=λ _ M Q=>Q [] M
def DR(ta:cb)(tr:gg):gg:=λ δ M Q=>ta δ M λ d M1=>tr δ M1 λ ds M2=>Q (d::ds) M2
theorem Eu:QA X [] NM:=Fb cj λ σ H Q ⟨δ,M,Q2,hs,hm,q,k⟩=>k [] H [] M (by rw[av]) hm (ax.refl H) q
theorem zD(ha:QE X e ta)(hr:QA X es t)(hs:starEach (e::es) X.env=(false,eval e X.env)::starEach es X.env:=by rfl):QA X (e::es) (DR ta t):=Fb (aO ha hr hs) λ σ H Q ⟨δ,M,Q2,hs,hm,q,k⟩=>by refine⟨δ,M,_,hs,hm,q,λ x H1 d M1 hd bU t1 q1=>?_⟩;refine⟨δ,M1,_,hs.mono t1,bU,q1,λ xs H2 ds M2 Ln lA t2 q2=>?_⟩;exact k (x::xs) H2 (d::ds) M2 (ah.mpr ⟨x,xs,rfl,bn.mono t2 d hd,Ln⟩) lA (t1.trans t2) q2
def NH(t:gg):cb:=λ δ M Q=>t δ M λ ds M1=>ds.length<=sizeLine/\Q (.tup ds) M1
theorem gG(hp:H p=none)(h:aG K H ds xs):bn K (dl H p (.tup xs)) (.tup ds) (.ref p):=aW.mpr ⟨p,xs,rfl,gh.of aV,aG.mono (ax.laid hp) ds h⟩
theorem SJ{x1:_}(h:QA X es t):QE X (.Tuple es x1 pos) (NH t):=bQ (lh h) λ σ H Q ⟨δ,M,Q2,hs,hm,q,k⟩=>by refine⟨δ,M,_,hs,hm,q,λ xs H1 ds M1 hd bU t1 q1=>?_⟩;refine⟨by rw[hd.length];exact q1.1,λ p hp=>?_⟩;exact k _ _ (.tup ds) M1 (gG hp hd) (bU.laid hp) (t1.trans (ax.laid hp)) q1.2
def NN(t:gg):cb:=λ δ M Q=>t δ M λ ds M1=>ds.length<=sizeLine/\∀p,M1 p=none->Q (.ref p) (ai M1 p (.lst ds))
theorem de(hp:H p=none)(h:aG K H ds xs)(hm:ce K H M):ce K (dl H p (.lst xs)) (ai M p (.lst ds)):=
 hm.put (ax.laid hp) ⟨xs,aV,aG.mono (ax.laid hp) ds h⟩
theorem SN(h:QA X es t):QE X (.List es pos) (NN t):=bQ (ET h) λ σ H Q ⟨δ,M,Q2,hs,hm,q,k⟩=>by refine⟨δ,M,_,hs,hm,q,λ xs H1 ds M1 hd bU t1 q1=>?_⟩;refine⟨by rw[hd.length];exact q1.1,λ p hp=>?_⟩;exact k _ _ (.ref p) _ (aP.mpr rfl) (de hp hd bU) (t1.trans (ax.laid hp)) (q1.2 p (bU.free hp))
theorem Xe{r2:fF}(o:Vb X r2)(ha:QE X a ta)(hb:QE X b tb)(hs:uC b):QE X (.Subscript a b pos) (HK r2 ta tb):=by obtain⟨r,ho,hr⟩:=o;exact bQ (zI ho ha hb hs) (mZ hr)
abbrev Ma:=dm->Mem->(Option Int->Mem->Prop)->Prop
def Vd(K:N5)(H:Hp)(Q2:Option Int->Mem->Prop)(Q:Option Int->Hp->Prop):Prop:=∀o H' M',ce K H' M'->ax H H'->Q2 o M'->Q o H'
def upO(K:N5)(t:Ma):TO:=λ σ H Q=>∃δ M Q2,bX K H δ σ/\ce K H M/\t δ M Q2/\Vd K H Q2 Q
abbrev QO(X:Cx)(e:Option Expr)(t:Ma):Prop:=PO X e (upO X.K t)
theorem Mx{e:Option Expr}{t t':TO}(h:PO X e t)(k:∀σ H Q,t' σ H Q->t σ H Q):PO X e t':=λ xz s σ H Q I q=>h xz s σ H Q I (k σ H Q q)
def sR:Ma:=λ _ M Q=>Q none M
def DN(t:cb):Ma:=λ δ M Q=>t δ M λ d M1=>match d with
 | .int i=>Q (some i) M1
 |_=>False
theorem JH:QO X none sR:=Mx JV λ σ H Q ⟨δ,M,Q2,hs,hm,q,k⟩=>k _ _ _ hm (ax.refl H) q
theorem JG(h:QE X e ta):QO X (some e) (DN ta):=Mx (JU h) λ σ H Q ⟨δ,M,Q2,hs,hm,q,k⟩=>by
 refine⟨δ,M,_,hs,hm,q,λ x H1 d M1 hd bU t1 q1=>?_⟩;cases d with
 |int i=>exact⟨i,aw.mp hd,k _ _ _ bU t1 q1⟩
 |_=>exact q1.elim
variable {lo hi:Option Expr}{tl th:Ma}
def WZ(r2:D->Option Int->Option Int->Mem->bH->Prop)(te:cb)(tl th:Ma):cb:=λ δ M Q=>te δ M λ d M1=>tl δ M1 λ l M2=>th δ M2 λ u M3=>r2 d l u M3 Q
theorem JO{r2:D->Option Int->Option Int->Mem->bH->Prop}(o:U9 X r2)(he:QE X e ta)(hl:QO X lo tl)(hu:QO X hi th):QE X (.Subscript e (.Slice lo hi none p2) pos) (WZ r2 ta tl th):=by obtain⟨r,ho,hr⟩:=o;refine bQ (ES ho he hl hu) ?_;rintro σ H Q ⟨δ,M,Q2,hs,hm,q,k⟩;refine⟨δ,M,_,hs,hm,q,λ x H1 d M1 hd bU t1 q1=>?_⟩;refine⟨δ,M1,_,hs.mono t1,bU,q1,λ l H2 M2 lA t2 q2=>?_⟩;refine⟨δ,M2,_,hs.mono (t1.trans t2),lA,q2,λ u H3 M3 vV t3 q3=>?_⟩;exact hr x d l u H3 M3 Q2 Q (bn.mono (t2.trans t3) d hd) vV q3 (k.mono (t1.trans (t2.trans t3)))
def Rj(r2:List D->Mem->bH->Prop)(t:gg):cb:=λ δ M Q=>t δ M λ ds M1=>r2 ds M1 Q
variable {p:Pos}{id:String}
theorem AD(hr:Q9 K r r2):∀σ H Q,up K (Rj r2 t) σ H Q->Vn r (Y' K t) σ H Q:=by rintro σ H Q ⟨δ,M,Q2,hs,hm,q,k⟩;exact⟨δ,M,_,hs,hm,q,λ xs H1 ds M1 hd bU t1 q1=>hr xs ds H1 M1 Q2 Q hd bU q1 (k.mono t1)⟩
theorem JR(o:cZ X (.builtin id) r2)(hg:Gl X x)(hm:X.mg x=none)(hv:bootBuiltins x=some (.builtin id))(ha:QA X (e::es) t)(hn:x≠"__name__":=by decide)(hdb:(x==("__debug__":Str))=false:=by decide) (he:starEach (e::es) X.env=(false,eval e X.env)::starEach es X.env:=by rfl) (hpl:(backTo pos (starEach es X.env)).any (·.1)=false:=by rfl):QE X (.Call (.Name x p) (e::es) [] pos) (Rj r2 t):=by obtain⟨r,ho,hr⟩:=o;exact bQ (fq ho hg hm hv ha hn hdb he hpl) (AD hr)
theorem JQ(o:cZ X (.type T) r2)(hg:Gl X x)(hm:X.mg x=none)(hv:bootBuiltins x=some (.type T))(ha:QA X (e::es) t)(hn:x≠"__name__":=by decide)(hdb:(x==("__debug__":Str))=false:=by decide) (he:starEach (e::es) X.env=(false,eval e X.env)::starEach es X.env:=by rfl) (hpl:(backTo pos (starEach es X.env)).any (·.1)=false:=by rfl):QE X (.Call (.Name x p) (e::es) [] pos) (Rj r2 t):=by obtain⟨r,ho,hr⟩:=o;exact bQ (qW ho hg hm hv ha hn hdb he hpl) (AD hr)
end
open PySem.Spec L2
def Rg(T:String)(d:D)(M:Mem):Prop:=match d with
 | .str _=>T="str"
 | .ref a=>T="list"/\∃ds,M a=some (.lst ds)
 |_=>False
theorem Rg.v9{x:V}(h:Rg T d M)(r:bn K H d x)(hm:ce K H M):Wv K T x H:=by
 cases d with
 |str z=>cases(aI.mp r);exact h
 |ref a=>cases(aP.mp r);obtain⟨e,ds,q⟩:=h;obtain⟨xs,hx,_⟩:=hm a _ q;exact .inl ⟨e,xs,dr.of hx⟩
 |_=>exact h.elim
section
variable {o:Expr}{to:cb}{id:String}
def W3(T:String)(r2:D->List D->Mem->bH->Prop)(to:cb)(t:gg):cb:=λ δ M Q=>to δ M λ d M1=>Rg T d M1/\t δ M1 λ ds M2=>r2 d ds M2 Q
theorem Xg{r2:D->List D->Mem->bH->Prop}(pa:PlainAttrs T)(slot:Slot T name id)(hty:typeOf (.builtin id)=pure (.type "method_descriptor"))(hm:HZ X id r2)(ho:QE X o to)(ha:QA X (e::es) t) (hbase:attributeBase o name X.env (eval o X.env)=eval o X.env:=by rfl) (hfew:((backTo ck (starEach (e::es) X.env)).all (λ x=>!x.1)&&(backToKw ck (keywordEach [] X.env)).all (λ x=>x.1.isSome)
   &&decide ((e::es).length+([]:List Keyword).length+(if([]:List Keyword).isEmpty then 0 else 1) < 30))=true:=by rfl)
  (hline:(apos.endLine==ck.line)=true:=by rfl) (hs:starEach (e::es) X.env=(false,eval e X.env)::starEach es X.env:=by rfl) (hplain:(backTo ck (starEach es X.env)).any (·.1)=false:=by rfl):
  QE X (.Call (.Attribute o name apos) (e::es) [] ck) (W3 T r2 to t):=by
 obtain⟨r,h1,hr⟩:=hm;refine bQ (EY pa slot hty h1 ho ha hbase hfew hline hs hplain) ?_;rintro σ H Q ⟨δ,M,Q2,hs,hm,q,k⟩;refine⟨δ,M,_,hs,hm,q,λ x H1 d M1 hd bU t1 q1=>⟨q1.1.v9 hd bU,δ,M1,_,hs.mono t1,bU,q1.2,λ xs H2 ds M2 Ln lA t2 q2=>?_⟩⟩;exact hr x xs d ds H2 M2 Q2 Q (bn.mono t2 d hd) Ln lA q2 (k.mono (t1.trans t2))
end
abbrev gC:=List D->Mem->bH->Prop
def bZ(K:N5)(sp:gC):Sp:=λ vs H Q _=>∃ds M Q2,aG K H ds vs/\ce K H M/\sp ds M Q2/\i_ K H Q2 Q
def sD(sp:gC)(t:gg):cb:=λ δ M Q=>t δ M λ ds M1=>sp ds M1 Q
abbrev bK(P:Program)(w:World)(K:N5)(mg:Str->Option jp)(base:Heap)(k:Nat)(x:Str)(ps:List Str)(sp:gC):Prop:=br P w K mg base k x ps (bZ K sp)
section
variable {p:Pos}{sp:gC}
theorem SQ(d:bK X.prog X.w X.K X.mg X.base k x ps sp)(hr:bJ k X.A)(hg:Gl X x)(ha:QA X (e::es) t)(hdb:(x==("__debug__":Str))=false:=by decide)(he:starEach (e::es) X.env=(false,eval e X.env)::starEach es X.env:=by rfl) (hpl:(backTo pos (starEach es X.env)).any (·.1)=false:=by rfl):QE X (.Call (.Name x p) (e::es) [] pos) (sD sp t):=by refine bQ (O6 d hr hg ha hdb he hpl) ?_;rintro σ H Q ⟨δ,M,Q2,hs,hm,q,k⟩;exact⟨δ,M,_,hs,hm,q,λ xs H1 ds M1 hd bU t1 q1=>⟨ds,M1,Q2,hd,bU,q1,k.mono t1⟩⟩
end
def gJ(N:List Str)(ds:List D):dm:=ds.map some++List.replicate (N.length - ds.length) none
theorem qT{vs:List V}(h:aG K H ds vs):bX K H (gJ N ds) (L2.start N vs):=by
 have hl:=h.length;refine⟨by unfold gJ L2.start;simp[hl],λ i d e=>?_⟩;unfold gJ at e;by_cases hi:i < ds.length
 ·rw[g9 (by simpa using hi),x6]at e;cases q:ds[i]? with
  |none=>rw[q]at e;cases e
  |some d'=>
   rw[q]at e;have e:d'=d:=by simpa using e
   subst e;obtain⟨v,hv,r⟩:=h.get q;refine⟨v,?_,r⟩;unfold L2.start;rw[g9 (by simp;omega),x6,hv];rfl
 ·rw[c7 (by simpa using hi),j1]at e;split at e <;> cases e
def fin2(Q:bH):bH:=λ d M'=>∃CW,bA CW M'/\Q d CW
theorem au{Q:bH}(q:Q d M):fin2 Q d M:=⟨M,bA.refl M,q⟩
theorem ok2{x qual:Str}{st:Stmt}{f:ww}{fd:FuncData}{N ps:List Str}{k:Nat}{sp:gC}(F:dH K x qual st f fd)(S:aH N ps (ao st))(len:∀ds M Q,sp ds M Q->ds.length=ps.length) (gy:∀(bR:jp) (A:Around) (outer:List Env) (s:kt) (H:Hp) (E:XK) (ds:List D) (M:Mem) (Q:bH),bJ k (A.deeper (PyProof.Rows.envOfC qual (ao st) s.heap.objs.size f bR))->sp ds M Q->
   ∃t,Hz (qx dJ P w K mg base N qual (ao st) f bR A outer s H E).zP (cA st) t/\t {nx:=λ _ M'=>fin2 Q .bu M',rt:=fin2 Q} (gJ N ds) M):bo P w K mg base dJ (k+1) f fd ps (bZ K sp):=by
 refine F.ok S (λ vs H Q E h=>?_) (λ bR A outer s H vs Q E hr h=>?_)
 ·obtain⟨ds,M,Q2,hd,_,hs,_⟩:=h;rw[hd.length];exact len ds M Q2 hs
 ·obtain⟨ds,M,Q2,hd,hm,hs,kk⟩:=h;obtain⟨t,ht,q⟩:=gy bR A outer s H E ds M Q2 hr hs;refine⟨_,ht,gJ N ds,M,_,qT hd,hm,q,⟨?_,?_,?_,?_⟩⟩
  ·exact λ σ' H' δ' M' _ eV t' ⟨CW,s,q⟩=>kk _ H' .bu CW (eo.mpr rfl) (eV.sub s) t' q
  ·exact λ v H' d M' jc eV t' ⟨CW,s,q⟩=>kk v H' d CW jc (eV.sub s) t' q
  ·exact λ σ' H' δ' M' _ eV t' q=>q
  ·exact λ σ' H' δ' M' _ eV t' q=>q
section
variable {rest:List Stmt}{t u:iK}
def DO:iK:=λ E δ M=>E.nx δ M
def IP(t u:iK):iK:=λ E δ M=>t {E with nx:=u E} δ M
theorem JC:Hz X [] DO:=EB jW λ E σ H ⟨δ,M,D2,hs,hm,q,k⟩=>k.nx σ H δ M hs hm (ax.refl H) q
theorem JB(h:QS X st t):Hz X [st] t:=eR h
theorem Ep(h1:QS X st t)(h2:Hz X rest u):Hz X (st::rest) (IP t u):=EB (dz h1 h2) λ E σ H ⟨δ,M,D2,hs,hm,q,k⟩=>by refine⟨δ,M,_,hs,hm,q,⟨λ σ' H' δ' M' pq eV t' q'=>?_,k.rt,k.bk,k.ct⟩⟩;exact⟨δ',M',D2,pq,eV,q',k.mono t'⟩
def DQ(te:cb):iK:=λ E δ M=>te δ M λ _ M1=>E.nx δ M1
theorem JE(he:QE X e te)(hs:swapsWith e none pos.line X.env=pure false:=by rfl):QS X (.Expr e pos) (DQ te):=ix (mW he hs) λ E σ H ⟨δ,M,D2,hs,hm,q,k⟩=>
 ⟨δ,M,_,hs,hm,q,λ x H1 d M1 hd bU t1 q1=>k.nx σ H1 δ M1 (hs.mono t1) bU t1 q1⟩
def NI(te:cb):iK:=λ E δ M=>te δ M E.rt
theorem OI(he:QE X e te):QS X (.Return (some e) pos) (NI te):=ix (OX he) λ E σ H ⟨δ,M,D2,hs,hm,q,k⟩=>⟨δ,M,_,hs,hm,q,k.rt⟩
def NO(c:fJ)(t u:iK):iK:=λ E δ M=>c δ M λ b M1=>if b=true then t E δ M1 else u E δ M1
theorem SI{c:Expr}{a b:List Stmt}{tc:fJ}(hc:QT X c tc)(ha:Hz X a t)(hb:Hz X b u):QS X (.If c a b pos) (NO tc t u):=ix (vh hc ha hb) λ E σ H ⟨δ,M,D2,hs,hm,q,k⟩=>by
 refine⟨δ,M,_,hs,hm,q,λ b H1 M1 bU t1 q1=>?_⟩;cases b with
 |true=>rw[N3 rfl]at q1 ⊢;exact⟨δ,M1,D2,hs.mono t1,bU,q1,k.mono t1⟩
 |false=>rw[N4 p9]at q1 ⊢;exact⟨δ,M1,D2,hs.mono t1,bU,q1,k.mono t1⟩
abbrev iL:=D->dm->Mem->(dm->Mem->Prop)->Prop
abbrev p_:=List D->dm->Mem->(dm->Mem->Prop)->Prop
def Np(K:N5)(t:iL):TG:=λ v σ H Q=>∃d δ M Q2,bn K H d v/\bX K H δ σ/\ce K H M/\t d δ M Q2/\mn K H Q2 Q
def Wu(K:N5)(t:p_):AK:=λ vs σ H Q=>∃ds δ M Q2,aG K H ds vs/\bX K H δ σ/\ce K H M/\t ds δ M Q2/\mn K H Q2 Q
abbrev QG(X:Cx)(tg:Expr)(t:iL):Prop:=PG X tg (Np X.K t)
abbrev U_(X:Cx)(tg:List Expr)(t:p_):Prop:=Q_ X tg (Wu X.K t)
theorem EN{g g':TG}(h:PG X tg g)(k:∀v σ H Q,g' v σ H Q->g v σ H Q):PG X tg g':=λ xz s σ H v u Q I r q=>h xz s σ H v u Q I r (k v σ H Q q)
theorem EL{tg:List Expr}{g g':AK}(h:Q_ X tg g)(k:∀v σ H Q,g' v σ H Q->g v σ H Q):Q_ X tg g':=λ xz s σ H v u Q I r q=>h xz s σ H v u Q I r (k v σ H Q q)
def ap(i:Nat):iL:=λ d δ M Q=>Q (δ.set i (some d)) M
theorem lp:∀v σ H Q,Np K (ap i) v σ H Q->fu i v σ H Q:=λ v σ H Q ⟨d,δ,M,Q2,hd,hs,hm,q,k⟩=>k _ H _ M (hs.set hd) hm (ax.refl H) q
theorem JN(hN:X.N.Nodup)(hi:X.N[i]?=some x)(hx:Loc X.env.scope x)(hf:X.fn x=true\/X.env.scope.names.lookup x=some .local:=by first|exact .inl rfl|exact .inr rfl|assumption):QG X (.Name x pos) (ap i):=
 EN (aY hN hi hx hf) lp
def Ce:p_:=λ ds δ M Q=>match ds with
 |[]=>Q δ M
 |_=>False
def jd(t:iL)(u:p_):p_:=λ ds δ M Q=>match ds with
 |d::r=>t d δ M λ δ' M'=>u r δ' M' Q
 |_=>False
theorem JM:U_ X [] Ce:=EL gQ λ v σ H Q ⟨ds,δ,M,Q2,hd,hs,hm,q,k⟩=>by
 cases ds with
 |nil=>exact⟨av.mp hd,k _ H _ M hs hm (ax.refl H) q⟩
 |cons d r=>exact q.elim
theorem Et{t:iL}{u:p_}(h1:QG X e t)(h2:U_ X es u) (hs:(assignEach (e::es) X.env).map (·.2)=assign e X.env::(assignEach es X.env).map (·.2):=by rfl):U_ X (e::es) (jd t u):=EL (cg h1 h2 hs) λ v σ H Q ⟨ds,δ,M,Q2,hd,hs,hm,q,k⟩=>by
 cases ds with
 |nil=>exact q.elim
 |cons d r=>obtain⟨x,xs,rfl,hx,Tw⟩:=ah.mp hd;refine⟨x,xs,rfl,d,δ,M,_,hx,hs,hm,q,λ σ' H' δ' M' pq eV t' q'=>?_⟩;exact⟨r,δ',M',Q2,aG.mono t' r Tw,pq,eV,q',k.mono t'⟩
def Cd(n:Nat)(t:p_):iL:=λ d δ M Q=>match d with
 | .tup ds=>ds.length=n/\t ds δ M Q
 |_=>False
theorem OM{t:p_}(hc:X.calm=true)(h:U_ X es t) (hn:(assignEach es X.env).length=n:=by rfl) (hst:(assignEach es X.env).findIdx? (·.1)=none:=by rfl):QG X (.Tuple es k pos) (Cd n t):=EN (jr hc h hn hst) λ v σ H Q ⟨d,δ,M,Q2,hd,hs,hm,q,k⟩=>by
 cases d with
 |tup ds=>obtain⟨p,xs,rfl,hq,hx⟩:=aW.mp hd;exact⟨p,xs,rfl,hq,by rw[hx.length];exact q.1,ds,δ,M,Q2,hx,hs,hm,q.2,k⟩
 |_=>exact q.elim
abbrev ky:=D->D->D->Mem->(Mem->Prop)->Prop
def Ve(K:N5)(H:Hp)(N2:Mem->Prop)(N:Hp->Prop):Prop:=∀H' M',ce K H' M'->ax H H'->N2 M'->N H'
def Q8(K:N5)(r:wW)(r2:ky):Prop:=∀o i v d j e H M Q2 Q,bn K H d o->bn K H j i->bn K H e v->ce K H M->r2 d j e M Q2->Ve K H Q2 Q->r o i v H Q
def Hy(X:Cx)(r2:ky):Prop:=∃r,qD X r/\Q8 X.K r r2
def hSub(to ti:cb)(t:ky):iL:=λ e δ M Q=>to δ M λ d M1=>ti δ M1 λ j M2=>t d j e M2 λ M3=>Q δ M3
theorem ON{o i:Expr}{to ti:cb}{t:ky}(ho:QE X o to)(hi:QE X i ti)(hs:Hy X t) (ha:∀v,assign (.Subscript o i pos) X.env v=(do
   let ov <- holding [v] (eval o X.env)
   let iv <- holding [v,ov] (eval i X.env)
   standAt pos
   holding [v,ov,iv] (setItem ov iv v)
   release [v,ov,iv] []):=by intro _;rfl):QG X (.Subscript o i pos) (hSub to ti t):=by
 obtain⟨r,h1,hr⟩:=hs;refine EN (O3 ho hi h1 ha) ?_;rintro v σ H Q ⟨e,δ,M,Q2,hd,hs,hm,q,k⟩;refine⟨δ,M,_,hs,hm,q,λ x H1 d M1 hx bU t1 q1=>?_⟩;refine⟨δ,M1,_,hs.mono t1,bU,q1,λ y H2 j M2 hy lA t2 q2=>?_⟩;exact hr x y v d j e H2 M2 _ _ (bn.mono t2 d hx) hy (bn.mono (t1.trans t2) e hd) lA q2 λ H3 M3 vV t3 q3=>k σ H3 δ M3 (hs.mono (t1.trans (t2.trans t3))) vV (t1.trans (t2.trans t3)) q3
def uX(te:cb)(g:iL):iK:=λ E δ M=>te δ M λ d M1=>g d δ M1 E.nx
theorem wU{g:TG}{g2:iL}(hg:∀v σ H Q,Np K g2 v σ H Q->g v σ H Q):∀E σ H,Wt K (uX te g2) E σ H->IC (up K te) g E σ H:=by rintro E σ H ⟨δ,M,D2,hs,hm,q,k⟩;exact⟨δ,M,_,hs,hm,q,λ x H1 d M1 hd bU t1 q1=>hg x σ H1 _ ⟨d,δ,M1,_,hd,hs.mono t1,bU,q1,k.nx.mono t1⟩⟩
theorem OK{g:iL}(he:QE X e te)(hg:QG X tg g)(hs:swapsWithSole [tg] e pos.line X.env=pure false:=by rfl)(hw:swappedStores [tg] e X.env=pure none:=by rfl) (h1:(assignEach [tg] X.env).map (·.2)=[assign tg X.env]:=by rfl):QS X (.Assign [tg] e pos) (uX te g):=ix (OZ he hg hs hw h1) (wU λ _ _ _ _ h=>h)
theorem OH(hN:X.N.Nodup)(hi:X.N[i]?=some x)(hx:Loc X.env.scope x)(he:QE X e te)(hs:swapsWith e (some (.Name x pos')) pos.line X.env=pure false:=by rfl) (hf:X.fn x=true\/X.env.scope.names.lookup x=some .local:=by first|exact .inl rfl|exact .inr rfl|assumption):QS X (.Assign [.Name x pos'] e pos) (uX te (ap i)):=ix (jq hN hi hx he hs hf) (wU lp)
end
end L3
variable {g:L3.iL}
namespace L3
open PySem.Spec L2
inductive Src where
 |fix (ds:List D)
 |at(a:ww)
 |fn (f:Mem->Option (List D))
def al(s:Src)(M:Mem):Option (List D):=match s with
 | .fix ds=>some ds
 | .at a=>match M a with
  |some (.lst ds)=>some ds
  |_=>none
 | .fn f=>f M
def qE(K:N5)(H1:Hp)(J:It)(src:Src):Prop:=∀H M ds,ax H1 H->ce K H M->al src M=some ds->
 (∀i,i < ds.length->J.go i H)/\(∀i,i=ds.length->J.stop i H)/\(∀i x H',i < ds.length->J.Ic i H x H'->ax H H'/\ce K H' M/\∃d,ds[i]?=some d/\bn K H' d x)
abbrev qC:=dm->Mem->(Src->Mem->Prop)->Prop
def RM(K:N5)(t:qC):TI:=λ σ H R=>∃δ M R2,bX K H δ σ/\ce K H M/\t δ M R2/\∀J H' src M',qE K H' J src->ce K H' M'->ax H H'->R2 src M'->R J H'
abbrev QI(X:Cx)(tg iter:Expr)(t:qC):Prop:=PI X tg iter (RM X.K t)
theorem zH{t t':TI}(h:PI X tg iter t)(k:∀σ H R,t' σ H R->t σ H R):PI X tg iter t':=λ xz s σ H R I q=>h xz s σ H R I (k σ H R q)
def dw(z:Str):List D:=z.cps.toList.map λ c=>D.str ⟨#[c]⟩
def iw(lo:Int)(n:Nat):List D:=(List.range n).map λ i=>D.int (lo+(i:Nat))
theorem bP(lo:Int)(n:Nat):(iw lo n).length=n:=by simp[iw]
theorem oE{lo:Int}(h:i < n):(iw lo n)[i]?=some (.int (lo+(i:Nat))):=by simp[iw,h]
theorem FY:qE K H1 (RC z) (.fix (dw z)):=λ H M ds t hm e=>by
 cases e;have hl:(dw z).length=z.cps.size:=by simp[dw]
 refine⟨λ i hi=>by rw[hl]at hi;exact hi,λ i hi=>by rw[hl]at hi;exact hi,λ i x H' hi y=>?_⟩;obtain⟨e,c,hc,rfl⟩:=y;subst e;refine⟨ax.refl _,hm,.str ⟨#[c]⟩,?_,aI.mpr rfl⟩;simp[dw,hc]
theorem FX(h:gh K H1 a xs)(hd:aG K H1 ds xs):qE K H1 (Y4 K a) (.fix ds):=λ H M es t hm e=>by cases e;have hq:=DB t h;have hx:=aG.mono t ds hd;have hl:=hx.length;refine⟨λ i hi=>⟨xs,xs[i]'(by omega),hq,by simp[hl,hi]⟩,λ i hi=>⟨xs,hq,by omega⟩,λ i x H' hi y=>?_⟩;obtain⟨e,y⟩:=y;obtain⟨d,h1,h2⟩:=hx.t_ (y xs hq);subst e;exact⟨ax.refl _,hm,d,h1,h2⟩
theorem FZ:qE K H1 (Wk K a) (.at a):=λ H M ds t hm e=>by
 have e:(match M a with|some (.lst ds)=>some ds|_=>none)=some ds:=e;cases q:M a with
 |none=>rw[q]at e;cases e
 |some o=>
  cases o with
  |fH b aA=>rw[q]at e;cases e
  |By x=>rw[q]at e;cases e
  |lst es=>rw[q]at e;have e:es=ds:=B7 e;subst e;obtain⟨xs,hx,hd⟩:=hm a _ q;have hq:dr K H a xs:=dr.of hx;have hl:=hd.length;refine⟨λ i hi=>⟨xs,xs[i]'(by omega),hq,by simp[hl,hi]⟩,λ i hi=>⟨xs,hq,by omega⟩,λ i x H' hi y=>?_⟩;obtain⟨e,y⟩:=y;obtain⟨d,h1,h2⟩:=hd.t_ (y xs hq);subst e;exact⟨ax.refl _,hm,d,h1,h2⟩
theorem KZ(h:H_ K H1 a xs)(hd:aG K H1 ds xs):qE K H1 (Wk K a) (.fix ds):=λ H M es t hm e=>by cases e;have hq:=(GJ t h).sq;have hx:=aG.mono t ds hd;have hl:=hx.length;refine⟨λ i hi=>⟨xs,xs[i]'(by omega),hq,by simp[hl,hi]⟩,λ i hi=>⟨xs,hq,by omega⟩,λ i x H' hi y=>?_⟩;obtain⟨e,y⟩:=y;obtain⟨d,h1,h2⟩:=hx.t_ (y xs hq);subst e;exact⟨ax.refl _,hm,d,h1,h2⟩
theorem yt{lo:Int}:qE K H1 (Wj lo n) (.fix (iw lo n)):=λ H M ds t hm e=>by cases e;rw[bP];refine⟨λ i hi=>hi,λ i hi=>J0 hi.symm,λ i x H' hi y=>?_⟩;obtain⟨e,rfl⟩:=y;subst e;exact⟨ax.refl _,hm,_,oE hi,aw.mpr rfl⟩
section
variable {l:Expr}{tl:cb}{a b:Expr}{p:Pos}
def PV(tl:cb):qC:=λ δ M R=>tl δ M λ d M1=>match d with
 | .str z=>R (.fix (dw z)) M1
 | .tup ds=>R (.fix ds) M1
 | .fl ds=>R (.fix ds) M1
 | .ref a=>match M1 a with
  |some (.lst _)=>R (.at a) M1
  |_=>False
 |_=>False
theorem OL(hl:QE X l tl):QI X tg l (PV tl):=zH (O2 hl) λ σ H R ⟨δ,M,R2,hs,hm,q,k⟩=>by
 refine⟨δ,M,_,hs,hm,q,λ x H1 d M1 hd bU t1 q1=>?_⟩;cases d with
 |str z=>cases(aI.mp hd);exact k _ H1 _ M1 FY bU t1 q1
 |tup ds=>obtain⟨p,xs,rfl,hq,hx⟩:=aW.mp hd;exact .inr ⟨xs,hq,k _ H1 _ M1 (FX hq hx) bU t1 q1⟩
 |fl ds=>obtain⟨p,xs,rfl,hq,hx⟩:=ju.mp hd;exact .inl ⟨xs,hq.sq,k _ H1 _ M1 (KZ hq hx) bU t1 q1⟩
 |ref a=>
  cases(aP.mp hd);have q1:(match M1 a with|some (.lst _)=>R2 (.at a) M1|_=>False):=q1;cases e:M1 a with
  |none=>rw[e]at q1;exact q1.elim
  |some o=>
   cases o with
   |fH b aA=>rw[e]at q1;exact q1.elim
   |By x=>rw[e]at q1;exact q1.elim
   |lst es=>rw[e]at q1;obtain⟨xs,hx,_⟩:=bU a _ e;exact .inl ⟨xs,dr.of hx,k _ H1 _ M1 FZ bU t1 q1⟩
 |_=>exact q1.elim
def Y5(j:Int):Prop:= -(2^62)<=j/\j < 2^62
theorem dX{j:Int}(h0: -1000000000<=j)(h1:j<=1000000000):Y5 j:=by
 constructor
 ·exact Int.le_trans (by decide) h0
 ·exact v9 h1 (by decide)
def FV(ta:gg):qC:=λ δ M R=>ta δ M λ ds M1=>match ds with
 |[.int j]=>Y5 j/\R (.fix (iw 0 j.toNat)) M1
 |_=>False
theorem Bu(hg:Gl X "range")(hm:X.mg "range"=none)(ha:QA X [a] ta)(hs:starEach [a] X.env=[(false,eval a X.env)]:=by rfl):QI X tg (.Call (.Name "range" p) [a] [] pos) (FV ta):=zH (Bw hg hm ha hs) λ σ H R ⟨δ,M,R2,hs,hm,q,k⟩=>by
 refine⟨δ,M,_,hs,hm,q,λ xs H1 ds M1 hd bU t1 q1=>?_⟩;cases ds with
 |nil=>exact q1.elim
 |cons d r=>
  cases r with
  |cons d2 r2=>cases d <;> exact q1.elim
  |nil=>
   cases d with
   |int j=>obtain⟨x,r,rfl,hx,hr⟩:=ah.mp hd;cases(av.mp hr);cases(aw.mp hx);obtain⟨⟨b1,b2⟩,q1⟩:=q1;exact⟨j,rfl,b1,b2,k _ H1 _ M1 yt bU t1 q1⟩
   |_=>exact q1.elim
end
end L3
variable {R:L3.Src->L3.Mem->Prop}{wi:L3.qC}
namespace L3
open PySem.Spec L2
def NP(wi:qC)(g:iL)(tb:iK):iK:=λ E δ M=>wi δ M λ src M1=>∃(B:Nat) (W:Nat->dm->Mem->Prop),W 0 δ M1/\∀i δ M,W i δ M->i<=B/\match al src M with
 |none=>False
 |some ds=>match ds[i]? with
  |none=>i=ds.length/\E.nx δ M
  |some d=>g d δ M λ δ2 M2=>tb {E with nx:=W (i+1),ct:=W (i+1),bk:=E.nx} δ2 M2
theorem OJ(hp:PassesOwn (model X.prog X.w) X.A X.env X.xe)(hc:X.calm=true)(hi:QI X tg iter wi)(hg:QG X tg g)(hb:Hz X body tb)(hs:∀x,foldedSetIterable iter X.env x=pure x:=by intro _;rfl):QS X (.For tg iter body [] pos) (NP wi g tb):=ix (OY hp hc hi hg hb hs) λ E σ H ⟨δ,M,D2,hs,hm,q,k⟩=>by
 refine⟨δ,M,_,hs,hm,q,λ J H1 src M1 ok bU t1 q1=>?_⟩;obtain⟨B,W,w0,turn⟩:=q1;refine⟨λ i m σ' H'=>m=B+1 - i/\∃δ' M',bX X.K H' δ' σ'/\ce X.K H' M'/\ax H1 H'/\W i δ' M',⟨B+1,rfl,δ,M1,hs.mono t1,bU,ax.refl _,w0⟩,?_⟩;rintro i m σ' H' ⟨rfl,δ',M',pq,eV,t',w'⟩;obtain⟨hB,h⟩:=turn i δ' M' w';cases ei:al src M' with
 |none=>rw[ei]at h;exact h.elim
 |some ds=>
  rw[ei]at h;obtain⟨go,stop,Ic⟩:=ok H' M' ds t' eV ei;cases ed:ds[i]? with
  |none=>simp only[ed]at h;exact .inl ⟨stop i h.1,k.nx σ' H' δ' M' pq eV (t1.trans t') h.2⟩
  |some d=>
   simp only[ed]at h;have Ue:i < ds.length:=(i5.mp ed).1;refine .inr ⟨go i Ue,λ σ2 H2=>∃δ2 M2,bX X.K H2 δ2 σ2/\ce X.K H2 M2/\ax H1 H2/\W (i+1) δ2 M2,λ σ2 H2 ⟨δ2,M2,a,b,c,w2⟩=>⟨B+1 - (i+1),by omega,rfl,δ2,M2,a,b,c,w2⟩,λ x H2 y=>?_⟩;obtain⟨t2,lA,d',e',jc⟩:=Ic i x H2 Ue y;rw[ed]at e';cases e';refine⟨d,δ',M',_,jc,pq.mono t2,lA,h,λ σ3 H3 δ3 M3 V4 vV t3 q3=>?_⟩;refine⟨δ3,M3,_,V4,vV,q3,⟨?_,?_,?_,?_⟩⟩
   ·exact λ σ4 H4 δ4 M4 a b c w4=>⟨δ4,M4,a,b,t'.trans (t2.trans (t3.trans c)),w4⟩
   ·exact k.rt.mono (t1.trans (t'.trans (t2.trans t3)))
   ·exact k.nx.mono (t1.trans (t'.trans (t2.trans t3)))
   ·exact λ σ4 H4 δ4 M4 a b c w4=>⟨δ4,M4,a,b,t'.trans (t2.trans (t3.trans c)),w4⟩
open PySem.Spec L2
def xM(c:fJ)(tb:iK):iK:=λ E δ M=>∃W:Nat->dm->Mem->Prop,(∃m,W m δ M)/\∀m δ M,W m δ M->c δ M λ b M1=>
 if b=true then ∃N:dm->Mem->Prop,(∀δ' M',N δ' M'->∃m',m' < m/\W m' δ' M')/\tb {E with nx:=N,ct:=N,bk:=E.nx} δ M1 else E.nx δ M1
section
variable {c:Expr}{tc:fJ}
theorem Er(hp:PassesOwn (model X.prog X.w) X.A X.env X.xe)(hc:QT X c tc)(hb:Hz X body tb):QS X (.While c body [] pos) (xM tc tb):=ix (ED hp hc hb) λ E σ H ⟨δ,M,D2,hs,hm,q,k⟩=>by
 obtain⟨W,⟨m0,w0⟩,turn⟩:=q;refine⟨λ m σ' H'=>∃δ' M',bX X.K H' δ' σ'/\ce X.K H' M'/\ax H H'/\W m δ' M',⟨m0,δ,M,hs,hm,ax.refl _,w0⟩,?_⟩;rintro m σ' H' ⟨δ',M',pq,eV,t',w'⟩;refine⟨δ',M',_,pq,eV,turn m δ' M' w',λ b H1 M1 bU t1 q1=>?_⟩;cases b with
 |false=>simp only[q9,L7]at q1;exact k.nx σ' H1 δ' M1 (pq.mono t1) bU (t'.trans t1) q1
 |true=>
  simp only[N0]at q1;obtain⟨N,hN,q1⟩:=q1;refine⟨λ σ2 H2=>∃δ2 M2,bX X.K H2 δ2 σ2/\ce X.K H2 M2/\ax H H2/\N δ2 M2,λ σ2 H2 ⟨δ2,M2,a,b,c,n2⟩=>?_,?_⟩
  ·obtain⟨m',eV,w2⟩:=hN δ2 M2 n2;exact⟨m',eV,δ2,M2,a,b,c,w2⟩
  ·refine⟨δ',M1,_,pq.mono t1,bU,q1,⟨?_,?_,?_,?_⟩⟩
   ·exact λ σ4 H4 δ4 M4 a b c w4=>⟨δ4,M4,a,b,t'.trans (t1.trans c),w4⟩
   ·exact k.rt.mono (t'.trans t1)
   ·exact k.nx.mono (t'.trans t1)
   ·exact λ σ4 H4 δ4 M4 a b c w4=>⟨δ4,M4,a,b,t'.trans (t1.trans c),w4⟩
end
open PySem.Spec L2
def jz(n:Nat)(fr:List Nat)(δ:dm):dm:=List.replicate n none++fr.map (λ j=>δ.getD j none)
theorem LV{σ:L2.St}(h:bX K H δ σ)(n:Nat)(fr:List Nat):bX K H (jz n fr δ) (fS n fr σ):=by
 refine⟨by simp[jz,fS],λ i d e=>?_⟩;unfold jz at e;by_cases hi:i < n
 ·rw[g9 (by simpa using hi),j1,N3 hi]at e;cases e
 ·rw[c7 (by simpa using hi),l0,x6]at e;cases ej:fr[i - n]? with
  |none=>rw[ej]at e;cases e
  |some j=>
   rw[ej]at e;have e:δ.getD j none=some d:=B7 e;have hj:j < δ.length:=by refine Nat.lt_of_not_le λ z=>?_;rw[c8,l5 z]at e;cases e
   have e':δ[j]?=some (some d):=by rw[c8,i8 hj]at e;rw[i8 hj];exact L8 some e
   obtain⟨v,hv,r⟩:=h.get j d e';refine⟨v,?_,r⟩;unfold fS;rw[c7 (by simpa using hi),l0,x6,ej];simp[c8,hv]
def jo(wi:qC)(g:iL)(tt:fJ)(te:cb)(n:Nat)(fr:List Nat):dm->Mem->(List D->Mem->Prop)->Prop:=λ δ M Q=>wi δ M λ src M1=>∃(B:Nat) (W:Nat->List D->Mem->Prop),W 0 [] M1/\∀i zn M,W i zn M->i<=B/\zn.length<=sizeLine/\match al src M with
 |none=>False
 |some ds=>match ds[i]? with
  |none=>i=ds.length/\Q zn M
  |some d=>g d (jz n fr δ) M λ δ2 M2=>tt δ2 M2 λ b M3=>if b=true then te δ2 M3 λ y M4=>W (i+1) (zn++[y]) M4 else W (i+1) zn M3
theorem iV{σ:L2.St}{Q:V->Hp->Prop}{gv:TG}(hgl:∀v σ H Q,Np K g v σ H Q->gv v σ H Q)(hs:bX K H δ σ)(hm:ce K H M)(q:jo wi g tt te n fr δ M Qe) (k:∀zn xs H' M' p,aG K H' zn xs->ce K H' M'->ax H H'->zn.length<=sizeLine->H' p=none->Qe zn M'->Q (.ref p) (dl H' p (.lst xs))):qR (RM K wi) gv (CO K tt) (up K te) n fr σ H Q:=by
 refine⟨δ,M,_,hs,hm,q,λ J H1 src M1 ok bU t1 q1=>?_⟩;obtain⟨B,W,w0,turn⟩:=q1;refine⟨λ i m xs H'=>m=B+1 - i/\∃zn M',aG K H' zn xs/\ce K H' M'/\ax H1 H'/\W i zn M',⟨B+1,rfl,[],M1,by rw[av],bU,ax.refl _,w0⟩,?_⟩;rintro i m xs H' ⟨rfl,zn,M',jc,eV,t',w'⟩;obtain⟨hB,hz,h⟩:=turn i zn M' w';refine⟨by rw[jc.length];exact hz,?_⟩;cases ei:al src M' with
 |none=>rw[ei]at h;exact h.elim
 |some ds=>
  rw[ei]at h;obtain⟨go,stop,Ic⟩:=ok H' M' ds t' eV ei;cases ed:ds[i]? with
  |none=>simp only[ed]at h;exact .inl ⟨stop i h.1,λ p hp=>k zn xs H' M' p jc eV (t1.trans t') hz hp h.2⟩
  |some d=>
   simp only[ed]at h;have Ue:i < ds.length:=(i5.mp ed).1;refine .inr ⟨go i Ue,λ ys H2=>∃L' M2,aG K H2 L' ys/\ce K H2 M2/\ax H1 H2/\W (i+1) L' M2,λ ys H2 ⟨L',M2,a,b,c,w2⟩=>⟨B+1 - (i+1),by omega,rfl,L',M2,a,b,c,w2⟩,λ x H2 y=>?_⟩;obtain⟨t2,lA,d',e',Lg⟩:=Ic i x H2 Ue y;rw[ed]at e';cases e';refine hgl _ _ _ _ ⟨d,jz n fr δ,M',_,Lg,LV (hs.mono (t1.trans (t'.trans t2))) n fr,lA,h,λ σ3 H3 δ3 M3 V4 vV t3 q3=>?_⟩;refine⟨δ3,M3,_,V4,vV,q3,λ b H4 M4 V6 t4 q4=>?_⟩;cases b with
   |false=>rw[N4 p9]at q4 ⊢;exact⟨zn,M4,aG.mono (t2.trans (t3.trans t4)) zn jc,V6,t'.trans (t2.trans (t3.trans t4)),q4⟩
   |true=>rw[N3 rfl]at q4 ⊢;exact⟨δ3,M4,_,V4.mono t4,V6,q4,λ yv H5 y5 M5 hy5 hm5 t5 q5=>⟨zn++[y5],M5,(aG.mono (t2.trans (t3.trans (t4.trans t5))) zn jc).append (aG.one hy5),hm5,t'.trans (t2.trans (t3.trans (t4.trans t5))),q5⟩⟩
section
variable {elt:Expr}
abbrev Wh(X:Cx)(ifs:List Expr)(t:fJ):Prop:=RA X ifs (CO X.K t)
def sP:fJ:=λ _ M Q=>Q true M
theorem JJ:Wh X [] sP:=λ xz s σ H Q I h=>JX xz s σ H Q I (by
 obtain⟨δ,M,Q2,hs,hm,q,k⟩:=h;exact k _ _ _ hm (ax.refl H) q)
theorem JI{c:Expr}{t:fJ}(h:QT X c t):Wh X [c] t:=JW h
def Wf(X:Cx)(scope:Scope)(tgs:List Str)(fr:List Nat)(tg:Expr)(g2:iL):Prop:=
 ∃g:TG,(∀cl C fp s H,PG (bI X scope cl tgs fr C fp s H) tg g)/\jC tgs.length g/\∀v σ H Q,Np X.K g2 v σ H Q->g v σ H Q
theorem Iw{ps:Pos}(h:∀cl C fp s H,PG (bI X scope cl tgs fr C fp s H) (.Name x ps) (fu i))(hi:i < tgs.length):Wf X scope tgs fr (.Name x ps) (ap i):=⟨_,h,tZ hi,lp⟩
def HF(g:TG):Prop:=∀x σ H Q Q',(∀σ' H',Q σ' H'->Q' σ' H')->g x σ H Q->g x σ H Q'
def uD(g:AK):Prop:=∀xs σ H Q Q',(∀σ' H',Q σ' H'->Q' σ' H')->g xs σ H Q->g xs σ H Q'
theorem tY:HF (fu i):=λ x σ H Q Q' k q=>k _ _ q
theorem GC:uD Ci:=λ xs σ H Q Q' k q=>⟨q.1,k _ _ q.2⟩
theorem Lp{t:TG}{u:AK}(ht:HF t)(hu:uD u):uD (kb t u):=λ xs σ H Q Q' k ⟨v,r,e,q⟩=>⟨v,r,e,ht v σ H _ _ (λ σ' H' q'=>hu r σ' H' _ _ k q') q⟩
theorem Ak{t:TG}{u:AK}(h:jC n t)(k:nG n u)(ht:HF t)(hu:uD u):nG n (kb t u):=λ xs σ H Q ⟨v,r,e,q⟩=>by refine⟨v,r,e,ht v σ H _ _ (λ σ' H' ⟨q',l',k'⟩=>?_) (h v σ H _ q)⟩;refine hu r σ' H' _ _ (λ σ2 H2 ⟨q2,l2,k2⟩=>⟨q2,l2.trans l',λ j hj=>(k2 j hj).trans (k' j hj)⟩) (k r σ' H' _ q')
theorem Qv{t:AK}(h:nG m t):jC m (GH K n t):=λ x σ H Q ⟨a,xs,e,hq,hl,q⟩=>⟨a,xs,e,hq,hl,h xs σ H _ q⟩
theorem Bb:∀v σ H Q,Np K (Cd 2 (jd (ap i) (jd (ap j) Ce))) v σ H Q->GH K 2 (kb (fu i) (kb (fu j) Ci)) v σ H Q:=λ v σ H Q ⟨d,δ,M,Q2,hd,hs,hm,q,k⟩=>by
 cases d with
 |tup ds=>
  obtain⟨p,xs,rfl,hq,hx⟩:=aW.mp hd;obtain⟨hl,q⟩:=q
  match ds,hl,hx,q with
  |[a,b],hl,hx,q=>obtain⟨x,r,rfl,ha,hx⟩:=ah.mp hx;obtain⟨y,r,rfl,hb,hx⟩:=ah.mp hx;cases(av.mp hx);exact⟨p,[x,y],rfl,hq,rfl,x,[y],rfl,y,[],rfl,rfl,k _ H _ M ((hs.set ha).set hb) hm (ax.refl H) q⟩
 |_=>exact q.elim
theorem Iv{y:Str}{px py pt:Pos}(h:∀cl C fp s H,PG (bI X scope cl tgs fr C fp s H) (.Tuple [.Name x px,.Name y py] k pt) (GH X.K 2 (kb (fu i) (kb (fu j) Ci))))(hi:i < tgs.length)(hj:j < tgs.length):Wf X scope tgs fr (.Tuple [.Name x px,.Name y py] k pt) (Cd 2 (jd (ap i) (jd (ap j) Ce))):=
 ⟨_,h,Qv (Ak (tZ hi) (Ak (tZ hj) Qw tY GC) tY (Lp tY GC)),Bb⟩
def lO(X:Cx)(scope:Scope)(tgs:List Str)(fr:List Nat)(tg iter:Expr)(ifs:List Expr)(elt:Expr)(wi:qC)(g:iL)(tt:fJ)(te:cb):Prop:=
 kz X scope fr/\X.calm=true/\(∀e s,X.xe e s->False)/\QI X tg iter wi/\Wf X scope tgs fr tg g/\(∀cl C fp s H,Wh (bI X scope cl tgs fr C fp s H) ifs tt)/\(∀cl C fp s H,QE (bI X scope cl tgs fr C fp s H) elt te)
def uW(wi:qC)(g:iL)(tt:fJ)(te:cb)(n:Nat)(fr:List Nat):cb:=λ δ M Q=>jo wi g tt te n fr δ M λ ds M'=>∀p,M' p=none->Q (.ref p) (ai M' p (.lst ds))
theorem OV(C:lO X scope tgs fr tg iter ifs elt wi g tt te)(hs:∀x,foldedSetIterable iter X.env x=pure x:=by intro _;rfl):QE X (.ListComp elt [⟨tg,iter,ifs,0⟩] scope pos) (uW wi g tt te tgs.length fr):=by obtain⟨B,hc,hE,hi,⟨gv,hg,gk,gl⟩,ht,he⟩:=C;refine bQ (mY (tt:=CO X.K tt) (te:=up X.K te) B hc hE hi hg gk ht he hs) ?_;rintro σ H Q ⟨δ,M,Q2,hs,hm,q,k⟩;exact iV gl hs hm q λ zn xs H' M' p hd eV t' hz hp q'=>k _ _ (.ref p) _ (aP.mpr rfl) (de hp hd eV) (t'.trans (ax.laid hp)) (q' p (eV.free hp))
theorem xS{y:Str}{py ik:Pos}(hN:X.N.Nodup)(hiy:X.N[i]?=some y)(hy:Loc X.env.scope y)(C:lO X scope tgs fr tg iter ifs elt wi g tt te) (hsw:swapsWith (.ListComp elt [⟨tg,iter,ifs,0⟩] scope pos) (some (.Name y py)) ik.line X.env=pure true:=by rfl) (hf:X.fn y=true\/X.env.scope.names.lookup y=some .local:=by first|exact .inl rfl|exact .inr rfl|assumption) (hs:∀x,foldedSetIterable iter X.env x=pure x:=by intro _;rfl):QS X (.Assign [.Name y py] (.ListComp elt [⟨tg,iter,ifs,0⟩] scope pos) ik) (uX (uW wi g tt te tgs.length fr) (ap i)):=by obtain⟨B,hc,hE,hi,⟨gv,hg,gk,gl⟩,ht,he⟩:=C;refine ix (xW (tt:=CO X.K tt) (te:=up X.K te) hN hiy hy B hc hE hi hg gk ht he hsw hf hs) ?_;rintro E σ H ⟨δ,M,D2,hs,hm,q,k⟩;exact iV gl hs hm q λ zn xs H' M' p hd eV t' hz hp q'=>k.nx _ _ _ _ (((hs.mono t').mono (ax.laid hp)).set (aP.mpr rfl)) (de hp hd eV) (t'.trans (ax.laid hp)) (q' p (eV.free hp))
def Bl(r3:List D->Mem->bH->Prop)(wi:qC)(g:iL)(tt:fJ)(te:cb)(n:Nat)(fr:List Nat):cb:=λ δ M Q=>jo wi g tt te n fr δ M λ ds M'=>r3 ds M' Q
def mm(r2:List D->Mem->bH->Prop)(r3:List D->Mem->bH->Prop):Prop:=∀ds M p Q,M p=none->ds.length<=sizeLine->r3 ds M Q->r2 [.ref p] (ai M p (.lst ds)) (fin2 Q)
theorem vX{Q2:bH}{Q:VK}(k:i_ K H Q2 Q):i_ K H (fin2 Q2) Q:=λ v H' d M' hd hm t ⟨CW,s,q⟩=>k v H' d CW hd (hm.sub s) t q
variable {p:Pos}{id:String}
theorem uQ{r3:List D->Mem->bH->Prop}{gv:TG}(gl:∀v σ H Q,Np X.K g v σ H Q->gv v σ H Q)(hr:Q9 X.K r r2)(h3:mm r2 r3):∀σ H Q,up X.K (Bl r3 wi g tt te tgs.length fr) σ H Q->Vn r (Mi (qR (RM X.K wi) gv (CO X.K tt) (up X.K te) tgs.length fr) RU) σ H Q:=by rintro σ H Q ⟨δ,M,Q2,hs,hm,q,k⟩;show qR (RM X.K wi) gv (CO X.K tt) (up X.K te) tgs.length fr σ H (λ x H1=>r [x] H1 Q);refine iV gl hs hm q λ zn xs H' M' p hd eV t' hz hp q'=>?_;exact hr [.ref p] [.ref p] _ _ (fin2 Q2) Q (aG.one (aP.mpr rfl)) (de hp hd eV) (h3 zn M' p Q2 (eV.free hp) hz q') (vX (k.mono (t'.trans (ax.laid hp))))
theorem OQ{r3:List D->Mem->bH->Prop}(o:cZ X (.builtin id) r2)(h3:mm r2 r3)(hg:Gl X x)(hm:X.mg x=none)(hv:bootBuiltins x=some (.builtin id))(C:lO X scope tgs fr tg iter ifs elt wi g tt te)(hn:x≠"__name__":=by decide)(hdb:(x==("__debug__":Str))=false:=by decide) (hs:∀x,foldedSetIterable iter X.env x=pure x:=by intro _;rfl):QE X (.Call (.Name x p) [.ListComp elt [⟨tg,iter,ifs,0⟩] scope ck] [] pos) (Bl r3 wi g tt te tgs.length fr):=by obtain⟨B,hc,hE,hi,⟨gv,Qm,gk,gl⟩,ht,he⟩:=C;obtain⟨r,ho,hr⟩:=o;exact bQ (fq ho hg hm hv (aO (mY (tt:=CO X.K tt) (te:=up X.K te) B hc hE hi Qm gk ht he hs) cj) hn hdb) (uQ gl hr h3)
theorem OO{r3:List D->Mem->bH->Prop}(o:cZ X (.type T) r2)(h3:mm r2 r3)(hg:Gl X x)(hm:X.mg x=none)(hv:bootBuiltins x=some (.type T))(C:lO X scope tgs fr tg iter ifs elt wi g tt te)(hn:x≠"__name__":=by decide)(hdb:(x==("__debug__":Str))=false:=by decide) (hs:∀x,foldedSetIterable iter X.env x=pure x:=by intro _;rfl):QE X (.Call (.Name x p) [.ListComp elt [⟨tg,iter,ifs,0⟩] scope ck] [] pos) (Bl r3 wi g tt te tgs.length fr):=by obtain⟨B,hc,hE,hi,⟨gv,Qm,gk,gl⟩,ht,he⟩:=C;obtain⟨r,ho,hr⟩:=o;exact bQ (qW ho hg hm hv (aO (mY (tt:=CO X.K tt) (te:=up X.K te) B hc hE hi Qm gk ht he hs) cj) hn hdb) (uQ gl hr h3)
variable {o:Expr}{to:cb}
def DM(T:String)(r3:D->List D->Mem->bH->Prop)(to:cb)(wi:qC)(g:iL)(tt:fJ)(te:cb)(n:Nat)(fr:List Nat):cb:=λ δ M Q=>to δ M λ d M1=>Rg T d M1/\jo wi g tt te n fr δ M1 λ ds M'=>r3 d ds M' Q
def yU(r2:D->List D->Mem->bH->Prop)(r3:D->List D->Mem->bH->Prop):Prop:=∀d ds M p Q,M p=none->ds.length<=sizeLine->r3 d ds M Q->r2 d [.ref p] (ai M p (.lst ds)) (fin2 Q)
theorem OP{r2 r3:D->List D->Mem->bH->Prop}(pa:PlainAttrs T)(slot:Slot T name id)(hty:typeOf (.builtin id)=pure (.type "method_descriptor"))(hm:HZ X id r2)(h3:yU r2 r3)(ho:QE X o to)(C:lO X scope tgs fr tg iter ifs elt wi g tt te) (hs:∀x,foldedSetIterable iter X.env x=pure x:=by intro _;rfl) (hbase:attributeBase o name X.env (eval o X.env)=eval o X.env:=by rfl) (hfew:((backTo pos (starEach [.ListComp elt [⟨tg,iter,ifs,0⟩] scope ck] X.env)).all (λ x=>!x.1)&&(backToKw pos (keywordEach [] X.env)).all (λ x=>x.1.isSome)
   &&decide (([.ListComp elt [⟨tg,iter,ifs,0⟩] scope ck]:List Expr).length+([]:List Keyword).length+(if([]:List Keyword).isEmpty then 0 else 1) < 30))=true:=by rfl)
  (hline:(apos.endLine==pos.line)=true:=by rfl):
  QE X (.Call (.Attribute o name apos) [.ListComp elt [⟨tg,iter,ifs,0⟩] scope ck] [] pos) (DM T r3 to wi g tt te tgs.length fr):=by
 obtain⟨B,hc,hE,hi,⟨gv,Qm,gk,gl⟩,ht,he⟩:=C;obtain⟨r,h1,hr⟩:=hm;refine bQ (EY pa slot hty h1 ho (aO (mY (tt:=CO X.K tt) (te:=up X.K te) B hc hE hi Qm gk ht he hs) cj) hbase hfew hline) ?_;rintro σ H Q ⟨δ,M,Q2,hs,hm,q,k⟩;refine⟨δ,M,_,hs,hm,q,λ x H1 d M1 hd bU t1 q1=>⟨q1.1.v9 hd bU,?_⟩⟩;show qR (RM X.K wi) gv (CO X.K tt) (up X.K te) tgs.length fr σ H1 (λ y H2=>r x [y] H2 Q);refine iV gl (hs.mono t1) bU q1.2 λ zn xs H' M' p tX eV t' hz hp q'=>?_;exact hr x [.ref p] d [.ref p] _ _ (fin2 Q2) Q (bn.mono (t'.trans (ax.laid hp)) d hd) (aG.one (aP.mpr rfl)) (de hp tX eV) (h3 d zn M' p Q2 (eV.free hp) hz q') (vX (k.mono (t1.trans (t'.trans (ax.laid hp)))))
end
open PySem.Spec L2
def dI(C:Int->Int->Prop)(g:Int->Int->D):fF:=λ x y M Q=>match x,y with
 | .int i,.int j=>C i j/\Q (g i j) M
 |_,_=>False
def QR(g:Int->Int->D):fF:=λ x y M Q=>match x,y with
 | .int i,.int j=>Q (g i j) M
 |_,_=>False
theorem si{f:jp->jp->Sem jp}{C:Int->Int->Prop}{g:Int->Int->Int}(h:fG X f (rI C λ i j=>.int (g i j))):eX X f (dI C λ i j=>.int (g i j)):=⟨_,h,λ x y d e H M Q2 Q hd he hm q k=>by
 cases d <;> cases e <;> first
  |exact q.elim
  |(cases(aw.mp hd);cases(aw.mp he);exact⟨_,_,rfl,rfl,q.1,k _ H _ M (aw.mpr rfl) hm (ax.refl H) q.2⟩)⟩
theorem si0{f:jp->jp->Sem jp}{g:Int->Int->Int}(h:fG X f (HL λ i j=>.int (g i j))):eX X f (QR λ i j=>.int (g i j)):=⟨_,h,λ x y d e H M Q2 Q hd he hm q k=>by
 cases d <;> cases e <;> first
  |exact q.elim
  |(cases(aw.mp hd);cases(aw.mp he);exact⟨_,_,rfl,rfl,k _ H _ M (aw.mpr rfl) hm (ax.refl H) q⟩)⟩
theorem Sa{f:jp->jp->Sem jp}{g:Int->Int->Bool}(h:fG X f (HL λ i j=>.bl (g i j))):eX X f (QR λ i j=>.bl (g i j)):=⟨_,h,λ x y d e H M Q2 Q hd he hm q k=>by
 cases d <;> cases e <;> first
  |exact q.elim
  |(cases(aw.mp hd);cases(aw.mp he);exact⟨_,_,rfl,rfl,k _ H _ M (aR.mpr rfl) hm (ax.refl H) q⟩)⟩
theorem MB:eX X (binaryOp .Sub) (QR λ i j=>.int (i - j)):=si0 O8
theorem lX:eX X (binaryOp .Mod) (dI (λ _ j=>0 < j) λ i j=>.int (i % j)):=si Pb
theorem tG:eX X (binaryOp .FloorDiv) (dI Rc λ i j=>.int (i / j)):=si Ke
theorem qX:eX X (binaryOp .Pow) (dI Vg λ i j=>.int (i^j.toNat)):=si O_
theorem Ks:eX X (compareOp .Lt) (QR λ i j=>.bl (decide (i < j))):=Sa S6
theorem vp:eX X (compareOp .Gt) (QR λ i j=>.bl (decide (j < i))):=Sa S8
theorem Xn:eX X (compareOp .GtE) (QR λ i j=>.bl (decide (j<=i))):=Sa S9
def LK:fF:=λ x y M Q=>match x,y with
 | .int i,.int j=>Q (.int (i+j)) M
 | .str i,.str j=>i.length+j.length<=sizeLine/\Q (.str (i++j)) M
 | .tup xs,.tup ys=>xs≠[]/\xs.length+ys.length<=sizeLine/\Q (.tup (xs++ys)) M
 | .ref a,.ref b=>match M a,M b with
  |some (.lst xs),some (.lst ys)=>xs.length+ys.length<=sizeLine/\∀p,M p=none->Q (.ref p) (ai M p (.lst (xs++ys)))
  |_,_=>False
 |_,_=>False
theorem Td:eX X (binaryOp .Add) LK:=⟨_,Pg.or (x_.or (Pf.or Kf)),λ x y d e H M Q2 Q hd he hm q k=>by
 cases d with
 |int i=>
  cases e with
  |int j=>cases(aw.mp hd);cases(aw.mp he);exact .inl ⟨_,_,rfl,rfl,k _ H _ M (aw.mpr rfl) hm (ax.refl H) q⟩
  |_=>exact q.elim
 |str i=>
  cases e with
  |str j=>cases(aI.mp hd);cases(aI.mp he);exact .inr (.inl ⟨_,_,rfl,rfl,q.1,k _ H _ M (aI.mpr rfl) hm (ax.refl H) q.2⟩)
  |_=>exact q.elim
 |tup xs=>
  cases e with
  |tup ys=>
   obtain⟨p,vs,rfl,hp,hx⟩:=aW.mp hd;obtain⟨p2,ws,rfl,fB,hy⟩:=aW.mp he;obtain⟨eh,hlen,q⟩:=q;refine .inr (.inr (.inr ⟨p,p2,vs,ws,rfl,rfl,hp,fB,?_,by rw[hx.length,hy.length];exact hlen,?_⟩))
   ·intro z;have:=hx.length;rw[z]at this;exact eh (j3.mp this.symm)
   ·refine⟨λ hz=>?_,λ hz p3 nk=>?_⟩
    ·have hy0:ys=[]:=by have:=hy.length;rw[hz]at this;exact j3.mp this.symm
     subst hy0;rw[B2]at q;exact k _ H _ M (aW.mpr ⟨p,vs,rfl,hp,hx⟩) hm (ax.refl H) q
    ·exact k _ _ _ M (gG nk (hx.append hy)) (hm.laid nk) (ax.laid nk) q
  |_=>exact q.elim
 |ref a=>
  cases e with
  |ref b=>
   cases(aP.mp hd);cases(aP.mp he);have q:(match M a,M b with|some (.lst xs),some (.lst ys)=>xs.length+ys.length<=sizeLine/\∀p,M p=none->Q2 (.ref p) (ai M p (.lst (xs++ys)))|_,_=>False):=q;cases ea:M a with
   |none=>rw[ea]at q;exact q.elim
   |some oa=>
    cases eb:M b with
    |none=>rw[ea,eb]at q;cases oa <;> exact q.elim
    |some ob=>
     cases oa with
     |fH b aA=>rw[ea,eb]at q;exact q.elim
     |By x=>rw[ea,eb]at q;exact q.elim
     |lst xs=>
      cases ob with
      |fH b aA=>rw[ea,eb]at q;exact q.elim
      |By x=>rw[ea,eb]at q;exact q.elim
      |lst ys=>rw[ea,eb]at q;obtain⟨vs,Zv,dvs⟩:=hm a _ ea;obtain⟨ws,hws,ZW⟩:=hm b _ eb;refine .inr (.inr (.inl ⟨a,b,vs,ws,rfl,rfl,Zv,hws,by rw[dvs.length,ZW.length];exact q.1,λ p hp=>?_⟩));exact k _ _ (.ref p) _ (aP.mpr rfl) (de hp (dvs.append ZW) hm) (ax.laid hp) (q.2 p (hm.free hp))
  |_=>exact q.elim
 |_=>exact q.elim⟩
def LJ:fF:=λ x y M Q=>match x,y with
 | .int i,.int j=>uF i j/\Q (.int (i*j)) M
 | .str z,.int n=>MulOk z n/\Q (.str (Txt.mul z n)) M
 |_,_=>False
theorem Tb:eX X (binaryOp .Mult) LJ:=⟨_,Pa.or xZ,λ x y d e H M Q2 Q hd he hm q k=>by
 cases d <;> cases e <;> first
  |exact q.elim
  |(cases(aw.mp hd);cases(aw.mp he);exact .inl ⟨_,_,rfl,rfl,q.1,k _ H _ M (aw.mpr rfl) hm (ax.refl H) q.2⟩)
  |(cases(aI.mp hd);cases(aw.mp he);exact .inr ⟨_,_,rfl,rfl,q.1,k _ H _ M (aI.mpr rfl) hm (ax.refl H) q.2⟩)⟩
def YK:fF:=λ x y M Q=>match x,y with
 | .int i,.int j=>Q (.bl (decide (i<=j))) M
 | .str i,.str j=>Q (.bl (!decide (j.cps.toList < i.cps.toList))) M
 |_,_=>False
theorem vo:eX X (compareOp .LtE) YK:=⟨_,S7.or BA,λ x y d e H M Q2 Q hd he hm q k=>by
 cases d <;> cases e <;> first
  |exact q.elim
  |(cases(aw.mp hd);cases(aw.mp he);exact .inl ⟨_,_,rfl,rfl,k _ H _ M (aR.mpr rfl) hm (ax.refl H) q⟩)
  |(cases(aI.mp hd);cases(aI.mp he);exact .inr ⟨_,_,rfl,rfl,k _ H _ M (aR.mpr rfl) hm (ax.refl H) q⟩)⟩
def pF:D->Option V
 | .bu=>some .bu
 | .bl b=>some (.bl b)
 | .int i=>some (.int i)
 | .str x=>some (.str x)
 |_=>none
theorem rH{x:V}(e:pF d=some v)(h:bn K H d x):x=v:=by
 cases d with
 |bu=>cases e;exact eo.mp h
 |bl b=>cases e;exact aR.mp h
 |int i=>cases e;exact aw.mp h
 |str z=>cases e;exact aI.mp h
 |ty n=>exact absurd e (by intro z;cases z)
 |ref a=>exact absurd e (by intro z;cases z)
 |tup xs=>exact absurd e (by intro z;cases z)
 |fl xs=>exact absurd e (by intro z;cases z)
theorem pE(e:pF d=some v):hW v=true:=by
 cases d with
 |bu=>cases e;rfl
 |bl b=>cases e;rfl
 |int i=>cases e;rfl
 |str z=>cases e;rfl
 |ty n=>exact absurd e (by intro z;cases z)
 |ref a=>exact absurd e (by intro z;cases z)
 |tup xs=>exact absurd e (by intro z;cases z)
 |fl xs=>exact absurd e (by intro z;cases z)
def QU(neg:Bool):fF:=λ x y M Q=>match x,y with
 | .int i,.int j=>Q (.bl (xor neg (decide (i=j)))) M
 | .bl i,.bl j=>Q (.bl (xor neg (decide (i=j)))) M
 | .str i,.str j=>Q (.bl (xor neg (decide (i=j)))) M
 |_,_=>False
theorem Xo:eX X (compareOp .Eq) (QU false):=⟨_,MA,λ x y d e H M Q2 Q hd he hm q k=>by
 cases d <;> cases e <;> first
  |exact q.elim
  |(cases(aw.mp hd);cases(aw.mp he);refine⟨rfl,k _ H _ M (aR.mpr rfl) hm (ax.refl H) ?_⟩;have q:Q2 (.bl (xor false (decide (_=_)))) M:=q;simpa using q)
  |(cases(aR.mp hd);cases(aR.mp he);refine⟨rfl,k _ H _ M (aR.mpr rfl) hm (ax.refl H) ?_⟩;have q:Q2 (.bl (xor false (decide (_=_)))) M:=q;simpa using q)
  |(cases(aI.mp hd);cases(aI.mp he);refine⟨rfl,k _ H _ M (aR.mpr rfl) hm (ax.refl H) ?_⟩;have q:Q2 (.bl (xor false (decide (_=_)))) M:=q;simpa using q)⟩
theorem Xl:eX X (compareOp .NotEq) (QU true):=⟨_,S5,λ x y d e H M Q2 Q hd he hm q k=>by
 cases d <;> cases e <;> first
  |exact q.elim
  |(cases(aw.mp hd);cases(aw.mp he);refine⟨rfl,k _ H _ M (aR.mpr rfl) hm (ax.refl H) ?_⟩;have q:Q2 (.bl (xor true (decide (_=_)))) M:=q;simpa using q)
  |(cases(aR.mp hd);cases(aR.mp he);refine⟨rfl,k _ H _ M (aR.mpr rfl) hm (ax.refl H) ?_⟩;have q:Q2 (.bl (xor true (decide (_=_)))) M:=q;simpa using q)
  |(cases(aI.mp hd);cases(aI.mp he);refine⟨rfl,k _ H _ M (aR.mpr rfl) hm (ax.refl H) ?_⟩;have q:Q2 (.bl (xor true (decide (_=_)))) M:=q;simpa using q)⟩
def QP(neg:Bool):fF:=λ x y M Q=>match y with
 | .bu=>match x with
  | .bu=>Q (.bl (!neg)) M
  |_=>Q (.bl neg) M
 |_=>False
theorem G_{x:V}(h:bn K H d x):decide (x=.bu)=match d with| .bu=>true|_=>false:=by
 cases d with
 |bu=>cases(eo.mp h);rfl
 |bl b=>cases(aR.mp h);rfl
 |int b=>cases(aw.mp h);rfl
 |str b=>cases(aI.mp h);rfl
 |ty b=>cases(yE.mp h);rfl
 |ref b=>cases(aP.mp h);rfl
 |tup b=>obtain⟨p,xs,rfl,_⟩:=aW.mp h;rfl
 |fl b=>obtain⟨p,xs,rfl,_⟩:=ju.mp h;rfl
theorem zN:eX X (compareOp .Is) (QP false):=⟨_,Pc,λ x y d e H M Q2 Q hd he hm q k=>by
 cases e with
 |bu=>refine⟨eo.mp he,?_⟩;rw[G_ hd];refine k _ H _ M (aR.mpr rfl) hm (ax.refl H) ?_;cases d <;> exact q
 |_=>exact q.elim⟩
def UL:D->Mem->bH->Prop:=λ x M Q=>match x with
 | .int i=>Q (.int (-i)) M
 |_=>False
theorem qP:YX X (unaryOp .USub) UL:=⟨_,Nq,λ x d H M Q2 Q hd hm q k=>by
 cases d with
 |int i=>exact⟨i,aw.mp hd,k _ H _ M (aw.mpr rfl) hm (ax.refl H) q⟩
 |_=>exact q.elim⟩
def me:List D->Option (List V)
 |[]=>some []
 |d::r=>match pF d,me r with
  |some v,some vs=>some (v::vs)
  |_,_=>none
theorem pC:∀{ds:List D} {xs vs:List V},me ds=some vs->aG K H ds xs->xs=vs/\vs.all hW=true
 |[],xs,vs,e,h=>by cases e;exact⟨av.mp h,rfl⟩
 |d::r,xs,vs,e,h=>by
  obtain⟨x,ys,rfl,hx,hy⟩:=ah.mp h;unfold me at e;cases e1:pF d with
  |none=>rw[e1]at e;cases e
  |some v=>
   cases e2:me r with
   |none=>rw[e1,e2]at e;cases e
   |some ws=>rw[e1,e2]at e;cases e;obtain⟨h1,h2⟩:=pC e2 hy;exact⟨by rw[rH e1 hx,h1],by rw[all_cons,pE e1,h2];rfl⟩
def inD(x:D)(ds:List D):Option Bool:=match pF x,me ds with
 |some v,some vs=>some (MG v vs)
 |_,_=>none
def UQ:fF:=λ x y M Q=>match y with
 | .str j=>match x with
  | .str i=>Q (.bl (!(Builtin.Str.occurrences j i 0 j.length 1).isEmpty)) M
  |_=>False
 | .tup ds=>match inD x ds with
  |some b=>Q (.bl b) M
  |none=>False
 | .ref a=>match M a with
  |some (.lst ds)=>match inD x ds with
   |some b=>Q (.bl b) M
   |none=>False
  |_=>False
 |_=>False
theorem Gd{x:V}(e:inD d ds=some b)(hd:bn K H d x)(hx:aG K H ds xs):hW x=true/\xs.all hW=true/\MG x xs=b:=by
 unfold inD at e;cases e1:pF d with
 |none=>rw[e1]at e;cases e
 |some v=>
  cases e2:me ds with
  |none=>rw[e1,e2]at e;cases e
  |some vs=>rw[e1,e2]at e;have e:MG v vs=b:=B7 e;obtain⟨rfl,h2⟩:=pC e2 hx;cases(rH e1 hd);exact⟨pE e1,h2,e⟩
theorem Xm:eX X (compareOp .In) UQ:=⟨_,BB.or BC,λ x y d e H M Q2 Q hd he hm q k=>by
 cases e with
 |str j=>
  cases(aI.mp he);cases d with
  |str i=>cases(aI.mp hd);exact .inl ⟨_,_,rfl,rfl,k _ H _ M (aR.mpr rfl) hm (ax.refl H) q⟩
  |_=>exact q.elim
 |tup ds=>
  obtain⟨p,xs,rfl,hp,hx⟩:=aW.mp he;have q:(match inD d ds with|some b=>Q2 (.bl b) M|none=>False):=q;cases ei:inD d ds with
  |none=>rw[ei]at q;exact q.elim
  |some b=>rw[ei]at q;obtain⟨h1,h2,h3⟩:=Gd ei hd hx;refine .inr ⟨p,xs,rfl,.inr hp,h1,h2,?_⟩;simp only[q9,L7];rw[h3];exact k _ H _ M (aR.mpr rfl) hm (ax.refl H) q
 |ref a=>
  cases(aP.mp he);have q:(match M a with|some (.lst ds)=>(match inD d ds with|some b=>Q2 (.bl b) M|none=>False)|_=>False):=q;cases ea:M a with
  |none=>rw[ea]at q;exact q.elim
  |some o=>
   cases o with
   |fH b aA=>rw[ea]at q;exact q.elim
   |By x=>rw[ea]at q;exact q.elim
   |lst ds=>
    rw[ea]at q;obtain⟨xs,hx,dx⟩:=hm a _ ea;cases ei:inD d ds with
    |none=>simp only[ei]at q
    |some b=>simp only[ei]at q;obtain⟨h1,h2,h3⟩:=Gd ei hd dx;refine .inr ⟨a,xs,rfl,.inl (dr.of hx),h1,h2,?_⟩;simp only[q9,L7];rw[h3];exact k _ H _ M (aR.mpr rfl) hm (ax.refl H) q
 |_=>exact q.elim⟩
open PySem.Spec L2
theorem LY(h:aG K H ds xs){i:Int}(e:fE ds i=some d):∃x,fE xs i=some x/\bn K H d x:=by
 unfold fE at e ⊢;rw[h.length];cases q:tO ds.length i with
 |none=>rw[q]at e;cases e
 |some j=>rw[q]at e;obtain⟨x,h1,h2⟩:=h.get (i:=j) e;exact⟨x,h1,h2⟩
def bb(M:Mem)(a:ww):Option (List D):=match M a with
 |some (.lst ds)=>some ds
 |_=>none
theorem dU(e:bb M a=some ds)(hm:ce K H M):∃xs,H a=some (.lst xs)/\aG K H ds xs:=by
 unfold bb at e;cases q:M a with
 |none=>rw[q]at e;cases e
 |some o=>
  cases o with
  |fH b aA=>rw[q]at e;cases e
  |By x=>rw[q]at e;cases e
  |lst es=>rw[q]at e;cases e;exact hm a _ q
def cE(M:Mem):D->Option (List D)
 | .tup ds=>some ds
 | .fl ds=>some ds
 | .ref a=>bb M a
 |_=>none
theorem il(e:cE M d=some ds)(hd:bn K H d v)(hm:ce K H M):∃p xs,v=.ref p/\(dr K H p xs\/gh K H p xs)/\aG K H ds xs:=by
 cases d with
 |tup es=>cases e;obtain⟨p,xs,rfl,h,q⟩:=aW.mp hd;exact⟨p,xs,rfl,.inr h,q⟩
 |fl es=>cases e;obtain⟨p,xs,rfl,h,q⟩:=ju.mp hd;exact⟨p,xs,rfl,.inl h.sq,q⟩
 |ref a=>cases(aP.mp hd);obtain⟨xs,h,q⟩:=dU e hm;exact⟨a,xs,rfl,.inl (dr.of h),q⟩
 |_=>cases e
def QN:fF:=λ x y M Q=>match y with
 | .int i=>match x with
  | .str z=>z.length<=sizeLine/\(match fE z.cps.toList i with
   |some c=>Q (.str ⟨#[c]⟩) M
   |none=>False)
  |x=>match cE M x with
   |some ds=>(match fE ds i with
    |some d=>Q d M
    |none=>False)
   |none=>False
 |_=>False
theorem tN{x:V}{i:Int}{Q2:bH}{Q:VK}(hd:bn K H d x)(hm:ce K H M)(k:i_ K H Q2 Q) (q:match cE M d with|some ds=>(match fE ds i with|some d=>Q2 d M|none=>False)|none=>False):∃p xs v,x=.ref p/\(dr K H p xs\/gh K H p xs)/\fE xs i=some v/\Q v H:=by
 cases e:cE M d with
 |none=>rw[e]at q;exact q.elim
 |some ds=>
  rw[e]at q;cases ei:fE ds i with
  |none=>simp only[ei]at q
  |some d'=>simp only[ei]at q;obtain⟨p,xs,rfl,h,hx⟩:=il e hd hm;obtain⟨v,h1,h2⟩:=LY hx ei;exact⟨p,xs,v,rfl,h,h1,k v H d' M h2 hm (ax.refl H) q⟩
theorem bw:Vb X QN:=⟨_,L2.bw,λ x y d e H M Q2 Q hd he hm q k=>by
 cases e with
 |int i=>
  cases(aw.mp he);cases d with
  |str z=>
   cases(aI.mp hd);obtain⟨hz,q⟩:=q;refine⟨hz,?_⟩;cases ei:fE z.cps.toList i with
   |none=>rw[ei]at q;exact q.elim
   |some c=>rw[ei]at q;exact⟨c,rfl,k _ H _ M (aI.mpr rfl) hm (ax.refl H) q⟩
  |tup ds=>obtain⟨p,xs,v,rfl,h⟩:=tN (d:=.tup ds) (i:=i) hd hm k q;exact⟨xs,v,h⟩
  |fl ds=>obtain⟨p,xs,v,rfl,h⟩:=tN (d:=.fl ds) (i:=i) hd hm k q;exact⟨xs,v,h⟩
  |ref a=>obtain⟨p,xs,v,rfl,h⟩:=tN (d:=.ref a) (i:=i) hd hm k q;exact⟨xs,v,h⟩
  |_=>exact q.elim
 |_=>exact q.elim⟩
def cutD(xs:List D)(lo hi:Option Int):List D:=(xs.drop (HT.bS xs.length 0 lo)).take (HT.bS xs.length xs.length hi - HT.bS xs.length 0 lo)
theorem wA(h:aG K H ds xs)(lo hi:Option Int):aG K H (cutD ds lo hi) (wB xs lo hi):=by unfold cutD wB;rw[h.length];exact(h.drop _).take _
def ZX:D->Option Int->Option Int->Mem->bH->Prop:=λ x lo hi M Q=>match x with
 | .str z=>z.length<=sizeLine/\Q (.str (cS z lo hi)) M
 | .tup ds=>¬(HT.bS ds.length 0 lo=0/\HT.bS ds.length ds.length hi=ds.length)/\Q (.tup (cutD ds lo hi)) M
 | .ref a=>match bb M a with
  |some ds=>∀p,M p=none->Q (.ref p) (ai M p (.lst (cutD ds lo hi)))
  |none=>False
 |_=>False
theorem qo:U9 X ZX:=⟨_,L2.qo,λ x d lo hi H M Q2 Q hd hm q k=>by
 cases d with
 |str z=>cases(aI.mp hd);exact⟨q.1,k _ H _ M (aI.mpr rfl) hm (ax.refl H) q.2⟩
 |tup ds=>obtain⟨p,xs,rfl,h,hx⟩:=aW.mp hd;refine .inr ⟨p,xs,rfl,h,by rw[hx.length];exact q.1,λ p2 fB=>?_⟩;exact k _ _ _ M (gG fB (wA hx lo hi)) (hm.laid fB) (ax.laid fB) q.2
 |ref a=>
  cases(aP.mp hd);have q:(match bb M a with|some ds=>∀p,M p=none->Q2 (.ref p) (ai M p (.lst (cutD ds lo hi)))|none=>False):=q;cases e:bb M a with
  |none=>rw[e]at q;exact q.elim
  |some ds=>rw[e]at q;obtain⟨xs,h,hx⟩:=dU e hm;exact .inl ⟨a,xs,rfl,dr.of h,λ p hp=>k _ _ (.ref p) _ (aP.mpr rfl) (de hp (wA hx lo hi) hm) (ax.laid hp) (q p (hm.free hp))⟩
 |_=>exact q.elim⟩
def Cw:List D->Mem->bH->Prop:=λ xs M Q=>match xs with
 |[.str z]=>z.length<=sizeLine/\Q (.int z.length) M
 |[x]=>match cE M x with
  |some ds=>Q (.int ds.length) M
  |none=>False
 |_=>False
theorem cT:cZ X (.builtin "len") Cw:=⟨_,uq.or ur,λ xs ds H M Q2 Q hd hm q k=>by
 cases ds with
 |nil=>exact q.elim
 |cons d r=>
  cases r with
  |cons d2 r2=>cases d <;> exact q.elim
  |nil=>
   obtain⟨x,r,rfl,hx,hr⟩:=ah.mp hd;cases(av.mp hr);have seq:(match cE M d with|some ds=>Q2 (.int ds.length) M|none=>False)->∃p ys,[x]=[V.ref p]/\(dr X.K H p ys\/gh X.K H p ys)/\Q (.int ys.length) H:=λ q=>by
    cases e:cE M d with
    |none=>rw[e]at q;exact q.elim
    |some es=>rw[e]at q;obtain⟨p,ys,rfl,h,hy⟩:=il e hx hm;refine⟨p,ys,rfl,h,?_⟩;rw[hy.length];exact k _ H _ M (aw.mpr rfl) hm (ax.refl H) q
   cases d with
   |str z=>cases(aI.mp hx);exact .inl ⟨z,rfl,q.1,k _ H _ M (aw.mpr rfl) hm (ax.refl H) q.2⟩
   |tup es=>exact .inr (seq q)
   |fl es=>exact .inr (seq q)
   |ref a=>exact .inr (seq q)
   |_=>exact q.elim⟩
def dList:List D->Mem->bH->Prop:=λ xs M Q=>match xs with
 |[x]=>match cE M x with
  |some ds=>∀p,M p=none->Q (.ref p) (ai M p (.lst ds))
  |none=>False
 |_=>False
theorem Hn:cZ X (.type "list") dList:=⟨_,uo,λ xs ds H M Q2 Q hd hm q k=>by
 cases ds with
 |nil=>exact q.elim
 |cons d r=>
  cases r with
  |cons d2 r2=>exact q.elim
  |nil=>
   obtain⟨x,r,rfl,hx,hr⟩:=ah.mp hd;cases(av.mp hr);have q:(match cE M d with|some ds=>∀p,M p=none->Q2 (.ref p) (ai M p (.lst ds))|none=>False):=q;cases e:cE M d with
   |none=>rw[e]at q;exact q.elim
   |some es=>
    rw[e]at q;obtain⟨p,ys,rfl,h,hy⟩:=il e hx hm;exact⟨p,ys,rfl,h,λ l hl=>k _ _ (.ref l) _ (aP.mpr rfl) (de hl hy hm) (ax.laid hl) (q l (hm.free hl))⟩⟩
def uf:List D->Mem->bH->Prop:=λ xs M Q=>match xs with
 |[x]=>match cE M x with
  |some ds=>Q (.tup ds) M
  |none=>False
 |_=>False
theorem fR:cZ X (.type "tuple") uf:=⟨_,qA,λ xs ds H M Q2 Q hd hm q k=>by
 cases ds with
 |nil=>exact q.elim
 |cons d r=>
  cases r with
  |cons d2 r2=>exact q.elim
  |nil=>
   obtain⟨x,r,rfl,hx,hr⟩:=ah.mp hd;cases(av.mp hr);have q:(match cE M d with|some ds=>Q2 (.tup ds) M|none=>False):=q;cases e:cE M d with
   |none=>rw[e]at q;exact q.elim
   |some es=>
    rw[e]at q;obtain⟨p,ys,rfl,h|h,hy⟩:=il e hx hm
    ·exact⟨p,ys,rfl,.inl ⟨h,λ l hl=>k _ _ (.tup es) M (gG hl hy) (hm.laid hl) (ax.laid hl) q⟩⟩
    ·exact⟨p,ys,rfl,.inr ⟨h,k _ H (.tup es) M (aW.mpr ⟨p,ys,rfl,h,hy⟩) hm (ax.refl H) q⟩⟩⟩
theorem gs:mm uf (λ ds M Q=>Q (.tup ds) M):=λ ds M p Q hp hz q=>by
 show(match cE (ai M p (.lst ds)) (.ref p)with|some es=>fin2 Q (.tup es) (ai M p (.lst ds))|none=>False);have e:cE (ai M p (.lst ds)) (.ref p)=some ds:=by show bb (ai M p (.lst ds)) p=some ds;unfold bb;rw[af]
 rw[e];exact⟨M,(bA.refl M).put hp,q⟩
def mM:List D->Option (List Bool)
 |[]=>some []
 | .bl b::r=>(mM r).map (b::·)
 |_::_=>none
theorem ku:∀(bs:List Bool),mM (bs.map D.bl)=some bs
 |[]=>rfl
 |b::bs=>by rw[F9];unfold mM;rw[ku bs];rfl
theorem AG:∀{ds:List D} {bs:List Bool},mM ds=some bs->ds=bs.map D.bl
 |[],bs,e=>by cases e;rfl
 |d::r,bs,e=>by
  cases d with
  |bl b=>
   unfold mM at e;cases q:mM r with
   |none=>rw[q]at e;cases e
   |some cs=>rw[q]at e;cases e;rw[AG q];rfl
  |_=>cases e
def UU:List D->Mem->bH->Prop:=λ xs M Q=>match xs with
 |[.ref a]=>match bb M a with
  |some ds=>match mM ds with
   |some bs=>Q (.bl (bs.all id)) M
   |none=>False
  |none=>False
 |_=>False
theorem AF(hc:X.calm=true):cZ X (.builtin "all") UU:=⟨_,wJ hc,λ xs ds H M Q2 Q hd hm q k=>by
 cases ds with
 |nil=>exact q.elim
 |cons d r=>
  cases r with
  |cons d2 r2=>cases d <;> exact q.elim
  |nil=>
   cases d with
   |ref a=>
    obtain⟨x,r,rfl,hx,hr⟩:=ah.mp hd;cases(av.mp hr);cases(aP.mp hx);have q:(match bb M a with|some ds=>(match mM ds with|some bs=>Q2 (.bl (bs.all id)) M|none=>False)|none=>False):=q;cases e:bb M a with
    |none=>rw[e]at q;exact q.elim
    |some es=>
     rw[e]at q;cases eb:mM es with
     |none=>simp only[eb]at q
     |some bs=>simp only[eb]at q;obtain⟨ys,h,hy⟩:=dU e hm;rw[AG eb]at hy;exact⟨a,bs,rfl,dr.of (by rw[h,we hy]),k _ H _ M (aR.mpr rfl) hm (ax.refl H) q⟩
   |_=>exact q.elim⟩
theorem lq:bb (ai M p (.lst ds)) p=some ds:=by unfold bb;rw[af]
def rQ:List D->Mem->bH->Prop:=λ ds M Q=>match mM ds with
 |some bs=>Q (.bl (bs.all id)) M
 |none=>False
theorem mQ:mm UU rQ:=λ ds M p Q hp hz q=>by
 show(match bb (ai M p (.lst ds)) p with|some ds'=>(match mM ds' with|some bs=>fin2 Q (.bl (bs.all id)) (ai M p (.lst ds))|none=>False)|none=>False);rw[lq];unfold rQ at q;cases eb:mM ds with
 |none=>rw[eb]at q;exact q.elim
 |some bs=>rw[eb]at q;simp only[eb];exact⟨M,(bA.refl M).put hp,q⟩
def my(M:Mem):D->Option String
 | .bu=>some "NoneType"
 | .bl _=>some "bool"
 | .int _=>some "int"
 | .str _=>some "str"
 | .tup _=>some "tuple"
 | .fl _=>some "list"
 | .ref a=>(bb M a).map λ _=>"list"
 |_=>none
def tP(n T:String):Bool:=n==T||(n=="bool"&&T=="int")
structure hZ(K:N5)(T:String):Prop where
 bu:PySem.W.kitOne K (.type "NoneType") (.type T)=some (tP "NoneType" T)
 bl:PySem.W.kitOne K (.type "bool") (.type T)=some (tP "bool" T)
 int:PySem.W.kitOne K (.type "int") (.type T)=some (tP "int" T)
 str:PySem.W.kitOne K (.type "str") (.type T)=some (tP "str" T)
 tup:PySem.W.kitOne K (.type "tuple") (.type T)=some (tP "tuple" T)
 lst:PySem.W.kitOne K (.type "list") (.type T)=some (tP "list" T)
open PySem.Spec L2
theorem Hm:cL X (.builtin "isinstance") (λ xs H Q=>∃(x:V) (T n:String),xs=[x,.ty T]/\hZ X.K T/\
  ((x=.bu/\n="NoneType")\/(∃b,x=.bl b/\n="bool")\/(∃i,x=.int i/\n="int")\/(∃z,x=.str z/\n="str")\/(∃p ys,x=.ref p/\gh X.K H p ys/\n="tuple")\/(∃p ys,x=.ref p/\dr X.K H p ys/\n="list"))/\Q (.bl (tP n T)) H):=by
 intro xz s σ H xs us Q I r h;obtain⟨x,T,n,rfl,ok,hx,q⟩:=h;obtain⟨u,w',rfl,rx,ry⟩:=vals2 r;have e:w'=Value.type T:=ry;subst e;rcases hx with⟨rfl,rfl⟩|⟨b,rfl,rfl⟩|⟨i,rfl,rfl⟩|⟨z,rfl,rfl⟩|⟨p,ys,rfl,hq,rfl⟩|⟨p,ys,rfl,hq,rfl⟩
 ·exact iU I rx .bu ok.bu λ tk=>⟨.bl _,H,I.tok tk,rfl,q⟩
 ·exact iU I rx (.bl b) ok.bl λ tk=>⟨.bl _,H,I.tok tk,rfl,q⟩
 ·exact iU I rx (.int i) ok.int λ tk=>⟨.bl _,H,I.tok tk,rfl,q⟩
 ·exact iU I rx (.str z) ok.str λ tk=>⟨.bl _,H,I.tok tk,rfl,q⟩
 ·cases(show u=Value.ref p from rx);obtain⟨ay,_,⟨o,h1,h2,_⟩,_⟩:=I.tuple hq;exact C1 PySem.W.kitx_tuple I.hV ⟨o,h1,h2⟩ ok.tup (λ z=>nomatch z) λ tk=>⟨.bl _,H,I.tok tk,rfl,q⟩
 ·cases(show u=Value.ref p from rx);obtain⟨ay,_,pl,_⟩:=I.list hq;obtain⟨o,h1,h2,_⟩:=pl.isList;exact C1 PySem.W.kitx_list I.hV ⟨o,h1,h2⟩ ok.lst (λ z=>nomatch z) λ tk=>⟨.bl _,H,I.tok tk,rfl,q⟩
def MZ(T:String):List D->Mem->bH->Prop:=λ xs M Q=>match xs with
 |[x,.ty U]=>U=T/\(match my M x with
  |some n=>Q (.bl (tP n T)) M
  |none=>False)
 |_=>False
theorem hX(ok:hZ X.K T):cZ X (.builtin "isinstance") (MZ T):=⟨_,Hm,λ xs ds H M Q2 Q hd hm q k=>by
 cases ds with
 |nil=>exact q.elim
 |cons d r0=>
 cases r0 with
 |nil=>exact q.elim
 |cons d2 r1=>
 cases r1 with
 |cons _ _=>cases d2 <;> exact q.elim
 |nil=>
 cases d2 with
 |ty U=>
  obtain⟨x,r,rfl,hx,hr⟩:=ah.mp hd;obtain⟨y,r2,rfl,hy,TM⟩:=ah.mp hr;cases(av.mp TM);cases(yE.mp hy);obtain⟨rfl,q⟩:=q;cases e:my M d with
  |none=>rw[e]at q;exact q.elim
  |some n=>
   rw[e]at q;refine⟨x,U,n,rfl,ok,?_,k _ H _ M (aR.mpr rfl) hm (ax.refl H) q⟩;cases d with
   |bu=>cases e;exact .inl ⟨eo.mp hx,rfl⟩
   |bl b=>cases e;exact .inr (.inl ⟨b,aR.mp hx,rfl⟩)
   |int i=>cases e;exact .inr (.inr (.inl ⟨i,aw.mp hx,rfl⟩))
   |str z=>cases e;exact .inr (.inr (.inr (.inl ⟨z,aI.mp hx,rfl⟩)))
   |tup es=>cases e;obtain⟨p,ys,rfl,h,_⟩:=aW.mp hx;exact .inr (.inr (.inr (.inr (.inl ⟨p,ys,rfl,h,rfl⟩))))
   |fl es=>cases e;obtain⟨p,ys,rfl,h,_⟩:=ju.mp hx;exact .inr (.inr (.inr (.inr (.inr ⟨p,ys,rfl,h.sq,rfl⟩))))
   |ref a=>
    cases el:bb M a with
    |none=>have e:(bb M a).map (λ _=>"list")=some n:=e;rw[el]at e;cases e
    |some es=>have e:(bb M a).map (λ _=>"list")=some n:=e;rw[el]at e;cases e;obtain⟨ys,h,_⟩:=dU el hm;exact .inr (.inr (.inr (.inr (.inr ⟨a,ys,aP.mp hx,dr.of h,rfl⟩))))
   |ty n=>cases e
 |_=>exact q.elim⟩
def fM:List D->Option (List Str)
 |[]=>some []
 | .str z::r=>(fM r).map (z::·)
 |_::_=>none
theorem uR:∀{ds:List D} {zs:List Str},fM ds=some zs->ds=zs.map D.str
 |[],zs,e=>by cases e;rfl
 |d::r,zs,e=>by
  cases d with
  |str z=>
   unfold fM at e;cases q:fM r with
   |none=>rw[q]at e;cases e
   |some ys=>rw[q]at e;cases e;rw[uR q];rfl
  |_=>cases e
theorem kU:∀(zs:List Str),fM (zs.map D.str)=some zs
 |[]=>rfl
 |b::bs=>by rw[F9];unfold fM;rw[kU bs];rfl
def lG:D->List D->Mem->bH->Prop:=λ x ds M Q=>match x with
 | .str z=>match fM ds with
  |some ys=>(ys.map (·.length)).sum+ys.length*z.length<=16777216/\Q (.str (Txt.join z ys)) M
  |none=>False
 |_=>False
def wt:D->List D->Mem->bH->Prop:=λ x vs M Q=>match vs with
 |[.ref a]=>match bb M a with
  |some ds=>lG x ds M Q
  |none=>False
 |_=>False
theorem oV:HZ X "str.join" wt:=⟨_,Kz,λ x xs d ds H M Q2 Q hx hd hm q k=>by
 cases ds with
 |nil=>exact q.elim
 |cons d1 r0=>
 cases r0 with
 |cons _ _=>cases d1 <;> exact q.elim
 |nil=>
 cases d1 with
 |ref a=>
  obtain⟨y,r,rfl,hy,hr⟩:=ah.mp hd;cases(av.mp hr);cases(aP.mp hy);have q:(match bb M a with|some ds=>lG d ds M Q2|none=>False):=q;cases e:bb M a with
  |none=>rw[e]at q;exact q.elim
  |some es=>
   rw[e]at q;cases d with
   |str z=>
    have q:(match fM es with|some ys=>(ys.map (·.length)).sum+ys.length*z.length<=16777216/\Q2 (.str (Txt.join z ys)) M|none=>False):=q;cases MS:fM es with
    |none=>rw[MS]at q;exact q.elim
    |some ys=>rw[MS]at q;obtain⟨vs,h,hv⟩:=dU e hm;rw[uR MS]at hv;exact⟨z,a,ys,aI.mp hx,rfl,dr.of (by rw[h,rL hv]),q.1,k _ H _ M (aI.mpr rfl) hm (ax.refl H) q.2⟩
   |_=>exact q.elim
 |_=>exact q.elim⟩
theorem Dv:yU wt lG:=λ d ds M p Q hp hz q=>by
 show(match bb (ai M p (.lst ds)) p with|some es=>lG d es (ai M p (.lst ds)) (fin2 Q)|none=>False);rw[lq];cases d with
 |str z=>
  have q:(match fM ds with|some ys=>(ys.map (·.length)).sum+ys.length*z.length<=16777216/\Q (.str (Txt.join z ys)) M|none=>False):=q;show(match fM ds with|some ys=>(ys.map (·.length)).sum+ys.length*z.length<=16777216/\fin2 Q (.str (Txt.join z ys)) (ai M p (.lst ds))|none=>False);cases e:fM ds with
  |none=>rw[e]at q;exact q.elim
  |some ys=>rw[e]at q;exact⟨q.1,M,(bA.refl M).put hp,q.2⟩
 |_=>exact q.elim
def LI:ky:=λ o i v M N=>match o,i with
 | .ref a,.int k=>match bb M a with
  |some ds=>(match tO ds.length k with
   |some j=>N (ai M a (.lst (ds.set j v)))
   |none=>False)
  |none=>False
 |_,_=>False
theorem jQ:Hy X LI:=⟨_,set_list,λ o i v d j e H M Q2 Q hd hj he hm q k=>by
 cases d with
 |ref a=>
  cases j with
  |int n=>
   cases(aP.mp hd);cases(aw.mp hj);have q:(match bb M a with|some ds=>(match tO ds.length n with|some j=>Q2 (ai M a (.lst (ds.set j e)))|none=>False)|none=>False):=q;cases el:bb M a with
   |none=>rw[el]at q;exact q.elim
   |some ds=>
    rw[el]at q;cases ei:tO ds.length n with
    |none=>simp only[ei]at q
    |some m=>simp only[ei]at q;obtain⟨xs,h,hx⟩:=dU el hm;refine⟨a,xs,n,m,rfl,rfl,h,by rw[hx.length];exact ei,?_⟩;exact k _ _ (hm.put (u:=.lst (ds.set m e)) (ax.lst h) ⟨_,aV,aG.mono (ax.lst h) _ (hx.set he m)⟩) (ax.lst h) q
  |_=>exact q.elim
 |_=>exact q.elim⟩
open L2
section
variable {Q:bH}{ta tb:cb}{r r':fF}{E:eE}{t u:iK}{c c':fJ}{tl:gg}{QL:List D->Mem->Prop}
theorem NZ(h:t {E with nx:=u E} δ M):IP t u E δ M:=h
theorem Om(h:c δ M λ b M1=>if b=true then t E δ M1 else u E δ M1):NO c t u E δ M:=h
theorem Jb(h:E.nx δ M):DO E δ M:=h
theorem N6(h:ta δ M E.rt):NI ta E δ M:=h
theorem Ox(h:ta δ M λ d M1=>g d δ M1 E.nx):uX ta g E δ M:=h
theorem Jq(h:ta δ M λ _ M1=>E.nx δ M1):DQ ta E δ M:=h
theorem zz{N:dm->Mem->Prop}(h:N (δ.set i (some d)) M):ap i d δ M N:=h
theorem NY{N:dm->Mem->Prop}{s:ky}(h:ta δ M λ o M1=>tb δ M1 λ j M2=>s o j d M2 λ M3=>N δ M3):hSub ta tb s d δ M N:=h
theorem sU{k:Int}{v:D}{N:Mem->Prop}(h:M a=some (.lst ds))(e:tO ds.length k=some j)(q:N (ai M a (.lst (ds.set j v)))):LI (.ref a) (.int k) v M N:=by
 show(match bb M a with|some ds=>(match tO ds.length k with|some j=>N (ai M a (.lst (ds.set j v)))|none=>False)|none=>False);have e1:bb M a=some ds:=by unfold bb;rw[h]
 rw[e1];simp only[e];exact q
theorem IV(h:ta δ M λ d M1=>match d with| .bl k=>QB k M1|_=>False):ow ta δ M QB:=h
theorem Si(h:ta δ M λ d M1=>tb δ M1 λ e M2=>r d e M2 Q):HK r ta tb δ M Q:=h
theorem Se{s:D->Mem->bH->Prop}(h:ta δ M λ d M1=>s d M1 Q):WY s ta δ M Q:=h
theorem NV(e:δ[i]?=some (some d))(h:Q d M):DL i δ M Q:=by unfold DL;rw[e];exact h
theorem W6(h:Q d M):sC d δ M Q:=h
theorem Oy(h:c δ M λ b M1=>if b=true then c' δ M1 QB else QB false M1):NQ c c' δ M QB:=h
theorem Sh(h:c δ M λ b M1=>if b=true then QB true M1 else c' δ M1 QB):W0 c c' δ M QB:=h
theorem N8(h:c δ M λ b M1=>QB (!b) M1):NL c δ M QB:=h
theorem Jx(h:ta δ M λ d M1=>match d with| .bl c=>(if c=true then tb δ M1 Q else Q (.bl false) M1)|_=>False):DT ta tb δ M Q:=h
theorem N7(h:ta δ M λ d M1=>match d with| .bl c=>(if c=true then Q (.bl true) M1 else tb δ M1 Q)|_=>False):NJ ta tb δ M Q:=h
theorem Oo(h:c δ M λ b M1=>if b=true then ta δ M1 Q else tb δ M1 Q):W2 c ta tb δ M Q:=h
theorem Ei(h:ta δ M λ d M1=>tb δ M1 λ e M2=>r d e M2 λ z M3=>match z with| .bl k=>(if k=true then tc δ M3 λ w M4=>r' e w M4 Q else Q (.bl false) M3)|_=>False):kX r r' ta tb tc δ M Q:=h
theorem N9(h:QL [] M):NM δ M QL:=h
theorem Jr(h:ta δ M λ d M1=>tl δ M1 λ ds M2=>QL (d::ds) M2):DR ta tl δ M QL:=h
theorem NW(h:tl δ M λ ds M1=>ds.length<=sizeLine/\Q (.tup ds) M1):NH tl δ M Q:=h
theorem Od(h:tl δ M λ ds M1=>ds.length<=sizeLine/\∀p,M1 p=none->Q (.ref p) (ai M1 p (.lst ds))):NN tl δ M Q:=h
theorem Sl{s:List D->Mem->bH->Prop}(h:tl δ M λ ds M1=>s ds M1 Q):Rj s tl δ M Q:=h
theorem W5{sp:gC}(h:tl δ M λ ds M1=>sp ds M1 Q):sD sp tl δ M Q:=h
theorem Sg{s:D->Option Int->Option Int->Mem->bH->Prop}{l h':Ma}(h:ta δ M λ d M1=>l δ M1 λ i M2=>h' δ M2 λ j M3=>s d i j M3 Q):WZ s ta l h' δ M Q:=h
theorem Bq{QO:Option Int->Mem->Prop}(h:QO none M):sR δ M QO:=h
theorem Ja{QO:Option Int->Mem->Prop}(h:ta δ M λ d M1=>match d with| .int i=>QO (some i) M1|_=>False):DN ta δ M QO:=h
theorem Sm{s:D->List D->Mem->bH->Prop}(h:ta δ M λ d M1=>Rg T d M1/\tl δ M1 λ ds M2=>s d ds M2 Q):W3 T s ta tl δ M Q:=h
theorem gP(W:dm->Mem->Prop)(h1:∀N:dm->Mem->Prop,(∀δ' M',W δ' M'->N δ' M')->t {E with nx:=N} δ M)(h2:∀δ' M',W δ' M'->u E δ' M'):IP t u E δ M:=h1 (u E) h2
set_option tactic.hygienic true in
theorem qO{o:MO}(h:M a=some o):ai M a o=M:=by
 funext b;unfold ai;split
 ·rename_i e;rw[e,h]
 ·rfl
theorem cJ{i:Int}(h:M a=some (.lst ds))(e:fE ds i=some d)(q:Q d M):QN (.ref a) (.int i) M Q:=by
 show(match bb M a with|some ds=>(match fE ds i with|some d=>Q d M|none=>False)|none=>False);have e1:bb M a=some ds:=by unfold bb;rw[h]
 rw[e1];simp only[e];exact q
theorem kZ{i:Int}(e:fE ds i=some d)(q:Q d M):QN (.tup ds) (.int i) M Q:=by show(match fE ds i with|some d=>Q d M|none=>False);rw[e];exact q
theorem k_{i:Int}{x:Nat}(hz:z.length<=sizeLine)(e:fE z.cps.toList i=some x)(q:Q (.str ⟨#[x]⟩) M):QN (.str z) (.int i) M Q:=by refine⟨hz,?_⟩;show(match fE z.cps.toList i with|some c=>Q (.str ⟨#[c]⟩) M|none=>False);rw[e];exact q
theorem Br{C:Int->Int->Prop}{g:Int->Int->D}{i j:Int}(h:C i j)(q:Q (g i j) M):dI C g (.int i) (.int j) M Q:=⟨h,q⟩
theorem Ob{g:Int->Int->D}{i j:Int}(h:0 < j)(q:Q (g i j) M):dI (λ _ j=>0 < j) g (.int i) (.int j) M Q:=⟨h,q⟩
theorem Ow{g:Int->Int->D}{i j:Int}(h:0 < j)(h2:j < 1073741824)(q:Q (g i j) M):dI Rc g (.int i) (.int j) M Q:=⟨⟨h,h2⟩,q⟩
theorem yI{i j:Int}(h0: -1000000000000<=i)(h1:i<=1000000000000):uF i j:=.inl ⟨Int.lt_of_lt_of_le (by decide) h0,v9 h1 (by decide)⟩
theorem QY{i j:Int}(h0: -1000000000000<=j)(h1:j<=1000000000000):uF i j:=.inr ⟨Int.lt_of_lt_of_le (by decide) h0,v9 h1 (by decide)⟩
theorem Sj{g:Int->Int->D}{i j:Int}(q:Q (g i j) M):QR g (.int i) (.int j) M Q:=q
theorem Jy{b:ww}{xs ys:List D}(ha:M a=some (.lst xs))(hb:M b=some (.lst ys))(h:xs.length+ys.length<=sizeLine)(q:∀p,M p=none->Q (.ref p) (ai M p (.lst (xs++ys)))):LK (.ref a) (.ref b) M Q:=by show(match M a,M b with|some (.lst xs),some (.lst ys)=>xs.length+ys.length<=sizeLine/\∀p,M p=none->Q (.ref p) (ai M p (.lst (xs++ys)))|_,_=>False);rw[ha,hb];exact⟨h,q⟩
theorem Je{i j:Int}(h:uF i j)(q:Q (.int (i*j)) M):LJ (.int i) (.int j) M Q:=⟨h,q⟩
theorem Jd{i:Str}{j:Int}(h:MulOk i j)(q:Q (.str (Txt.mul i j)) M):LJ (.str i) (.int j) M Q:=⟨h,q⟩
theorem Of{i j:Int}(q:Q (.bl (decide (i<=j))) M):YK (.int i) (.int j) M Q:=q
theorem Oe{i j:Str}(q:Q (.bl (!decide (j.cps.toList < i.cps.toList))) M):YK (.str i) (.str j) M Q:=q
theorem Ou{i j:Int}(q:Q (.bl (decide (i=j))) M):QU false (.int i) (.int j) M Q:=by show Q (.bl (xor false (decide (i=j)))) M;simpa using q
theorem Ov{i j:Bool}(q:Q (.bl (decide (i=j))) M):QU false (.bl i) (.bl j) M Q:=by show Q (.bl (xor false (decide (i=j)))) M;simpa using q
theorem Ot{i j:Str}(q:Q (.bl (decide (i=j))) M):QU false (.str i) (.str j) M Q:=by show Q (.bl (xor false (decide (i=j)))) M;simpa using q
theorem Oa{i j:Bool}(q:Q (.bl (!decide (i=j))) M):QU true (.bl i) (.bl j) M Q:=by show Q (.bl (xor true (decide (i=j)))) M;simpa using q
theorem Jh(h:M a=some (.lst ds))(q:Q (.int ds.length) M):Cw [.ref a] M Q:=by
 show(match bb M a with|some ds=>Q (.int ds.length) M|none=>False);have e1:bb M a=some ds:=by unfold bb;rw[h]
 rw[e1];exact q
theorem Jg(q:Q (.int ds.length) M):Cw [.tup ds] M Q:=q
theorem gO(h:z.length<=sizeLine)(q:Q (.int z.length) M):Cw [.str z] M Q:=⟨h,q⟩
theorem Oh{x:D}(e:inD x ds=some b)(q:Q (.bl b) M):UQ x (.tup ds) M Q:=by show(match inD x ds with|some b=>Q (.bl b) M|none=>False);rw[e];exact q
theorem Oj{x:D}(h:M a=some (.lst ds))(e:inD x ds=some b)(q:Q (.bl b) M):UQ x (.ref a) M Q:=by show(match M a with|some (.lst ds)=>(match inD x ds with|some b=>Q (.bl b) M|none=>False)|_=>False);rw[h];simp only[e];exact q
theorem Oi{i j:Str}(q:Q (.bl (!(Builtin.Str.occurrences j i 0 j.length 1).isEmpty)) M):UQ (.str i) (.str j) M Q:=q
theorem Eb(q:∀p,M p=none->Q (.ref p) (ai M p (.lst ds))):dList [.fl ds] M Q:=q
theorem N_{i:Int}(q:Q (.int (-i)) M):UL (.int i) M Q:=q
theorem aN{P:Prop}{inst:Decidable P}{A B:Prop}(h1:P->A)(h2:¬P->B):if @decide P inst=true then A else B:=by
 by_cases h:P
 ·rw[D1 h,N3 rfl];exact h1 h
 ·rw[B4 h,N4 p9];exact h2 h
theorem iP{P:Prop}{inst:Decidable P}{A B:Prop}(h1:¬P->A)(h2:P->B):if(!@decide P inst)=true then A else B:=by
 by_cases h:P
 ·rw[D1 h,Bool.not_true,N4 p9];exact h2 h
 ·rw[B4 h,Bool.not_false,N3 rfl];exact h1 h
theorem Jk{A B:Prop}(h:A):if true=true then A else B:=by rw[N3 rfl];exact h
theorem Jl{A B:Prop}(h:B):if false=true then A else B:=by rw[N4 p9];exact h
theorem bB{A B:Prop}(h1:b=true->A)(h2:b=false->B):if b=true then A else B:=by
 cases b with
 |true=>rw[N3 rfl];exact h1 rfl
 |false=>rw[N4 p9];exact h2 rfl
end
open L2
section
variable {δc:dm}{E:eE}
theorem gV(Pv:Nat->List D->Mem->Prop)(h0:Pv 0 [] M1)(hz:∀i zn M,i<=ds.length->Pv i zn M->zn.length<=sizeLine) (hs:∀i d zn M,ds[i]?=some d->Pv i zn M->g d δc M λ δ2 M2=>tt δ2 M2 λ b M3=>if b=true then te δ2 M3 λ y M4=>Pv (i+1) (zn++[y]) M4 else Pv (i+1) zn M3) (hd:∀zn M,Pv ds.length zn M->Qe zn M):∃(B:Nat) (W:Nat->List D->Mem->Prop),W 0 [] M1/\∀i zn M,W i zn M->i<=B/\zn.length<=sizeLine/\match al (.fix ds) M with
   |none=>False
   |some ds=>match ds[i]? with
    |none=>i=ds.length/\Qe zn M
    |some d=>g d δc M λ δ2 M2=>tt δ2 M2 λ b M3=>if b=true then te δ2 M3 λ y M4=>W (i+1) (zn++[y]) M4 else W (i+1) zn M3:=by
 refine⟨ds.length,λ i zn M=>if i<=ds.length then Pv i zn M else False,by dsimp only;rw[N3 (K3 _)];exact h0,?_⟩;intro i zn M w;by_cases hi:i<=ds.length
 ·rw[N3 hi]at w;refine⟨hi,hz i zn M hi w,?_⟩;show(match ds[i]? with
    |none=>i=ds.length/\Qe zn M
    |some d=>g d δc M λ δ2 M2=>tt δ2 M2 λ b M3=>if b=true then te δ2 M3 λ y M4=>(if i+1<=ds.length then Pv (i+1) (zn++[y]) M4 else False)else(if i+1<=ds.length then Pv (i+1) zn M3 else False))
  cases e:ds[i]? with
  |none=>have:i=ds.length:=C5 hi (i6.mp e);subst this;exact⟨rfl,hd zn M w⟩
  |some d=>have kH:i+1<=ds.length:=(i5.mp e).1;simp only[N3 kH];exact hs i d zn M e w
 ·rw[N4 hi]at w;exact w.elim
theorem lC(Pv:Nat->dm->Mem->Prop)(h0:Pv 0 δ M1) (hs:∀i d δ M,ds[i]?=some d->Pv i δ M->g d δ M λ δ2 M2=>tb {E with nx:=Pv (i+1),ct:=Pv (i+1),bk:=E.nx} δ2 M2) (hd:∀δ M,Pv ds.length δ M->E.nx δ M):∃(B:Nat) (W:Nat->dm->Mem->Prop),W 0 δ M1/\∀i δ M,W i δ M->i<=B/\match al (.fix ds) M with
   |none=>False
   |some ds=>match ds[i]? with
    |none=>i=ds.length/\E.nx δ M
    |some d=>g d δ M λ δ2 M2=>tb {E with nx:=W (i+1),ct:=W (i+1),bk:=E.nx} δ2 M2:=by
 refine⟨ds.length,λ i δ M=>if i<=ds.length then Pv i δ M else False,by dsimp only;rw[N3 (K3 _)];exact h0,?_⟩;intro i δ M w;by_cases hi:i<=ds.length
 ·rw[N3 hi]at w;refine⟨hi,?_⟩;show(match ds[i]? with
    |none=>i=ds.length/\E.nx δ M
    |some d=>g d δ M λ δ2 M2=>tb {E with nx:=(λ δ M=>if i+1<=ds.length then Pv (i+1) δ M else False),ct:=(λ δ M=>if i+1<=ds.length then Pv (i+1) δ M else False),bk:=E.nx} δ2 M2)
  cases e:ds[i]? with
  |none=>have:i=ds.length:=C5 hi (i6.mp e);subst this;exact⟨rfl,hd δ M w⟩
  |some d=>have kH:i+1<=ds.length:=(i5.mp e).1;simp only[N3 kH];exact hs i d δ M e w
 ·rw[N4 hi]at w;exact w.elim
theorem An(Pv:Nat->dm->Mem->Prop)(h0:Pv 0 δ M1)(hl:∀i δ M,i<=ds.length->Pv i δ M->M a=some (.lst ds)) (hs:∀i d δ M,ds[i]?=some d->Pv i δ M->g d δ M λ δ2 M2=>tb {E with nx:=Pv (i+1),ct:=Pv (i+1),bk:=E.nx} δ2 M2) (hd:∀δ M,Pv ds.length δ M->E.nx δ M):∃(B:Nat) (W:Nat->dm->Mem->Prop),W 0 δ M1/\∀i δ M,W i δ M->i<=B/\match al (.at a) M with
   |none=>False
   |some ds=>match ds[i]? with
    |none=>i=ds.length/\E.nx δ M
    |some d=>g d δ M λ δ2 M2=>tb {E with nx:=W (i+1),ct:=W (i+1),bk:=E.nx} δ2 M2:=by
 refine⟨ds.length,λ i δ M=>if i<=ds.length then Pv i δ M else False,by dsimp only;rw[N3 (K3 _)];exact h0,?_⟩;intro i δ M w;by_cases hi:i<=ds.length
 ·rw[N3 hi]at w;refine⟨hi,?_⟩;have e0:al (.at a) M=some ds:=by show(match M a with|some (.lst ds)=>some ds|_=>none)=some ds;rw[hl i δ M hi w]
  rw[e0];show(match ds[i]? with
    |none=>i=ds.length/\E.nx δ M
    |some d=>g d δ M λ δ2 M2=>tb {E with nx:=(λ δ M=>if i+1<=ds.length then Pv (i+1) δ M else False),ct:=(λ δ M=>if i+1<=ds.length then Pv (i+1) δ M else False),bk:=E.nx} δ2 M2)
  cases e:ds[i]? with
  |none=>have:i=ds.length:=C5 hi (i6.mp e);subst this;exact⟨rfl,hd δ M w⟩
  |some d=>have kH:i+1<=ds.length:=(i5.mp e).1;simp only[N3 kH];exact hs i d δ M e w
 ·rw[N4 hi]at w;exact w.elim
end
section
variable {Q:bH}{ta:cb}{E:eE}{tl:gg}
theorem NX{r3:List D->Mem->bH->Prop}(h:wi δ M λ src M1=>∃(B:Nat) (W:Nat->List D->Mem->Prop),W 0 [] M1/\∀i zn M,W i zn M->i<=B/\zn.length<=sizeLine/\match al src M with
   |none=>False
   |some ds=>match ds[i]? with
    |none=>i=ds.length/\r3 zn M Q
    |some d=>g d (jz n fr δ) M λ δ2 M2=>tt δ2 M2 λ b M3=>if b=true then te δ2 M3 λ y M4=>W (i+1) (zn++[y]) M4 else W (i+1) zn M3):Bl r3 wi g tt te n fr δ M Q:=h
theorem IU{r3:D->List D->Mem->bH->Prop}(h:ta δ M λ d M1=>Rg T d M1/\jo wi g tt te n fr δ M1 λ ds M'=>r3 d ds M' Q):DM T r3 ta wi g tt te n fr δ M Q:=h
theorem Eh{Qe:List D->Mem->Prop}(h:wi δ M λ src M1=>∃(B:Nat) (W:Nat->List D->Mem->Prop),W 0 [] M1/\∀i zn M,W i zn M->i<=B/\zn.length<=sizeLine/\match al src M with
   |none=>False
   |some ds=>match ds[i]? with
    |none=>i=ds.length/\Qe zn M
    |some d=>g d (jz n fr δ) M λ δ2 M2=>tt δ2 M2 λ b M3=>if b=true then te δ2 M3 λ y M4=>W (i+1) (zn++[y]) M4 else W (i+1) zn M3):jo wi g tt te n fr δ M Qe:=h
theorem Js(h:jo wi g tt te n fr δ M λ ds M'=>∀p,M' p=none->Q (.ref p) (ai M' p (.lst ds))):uW wi g tt te n fr δ M Q:=h
theorem Oq(h:wi δ M λ src M1=>∃(B:Nat) (W:Nat->dm->Mem->Prop),W 0 δ M1/\∀i δ M,W i δ M->i<=B/\match al src M with
   |none=>False
   |some ds=>match ds[i]? with
    |none=>i=ds.length/\E.nx δ M
    |some d=>g d δ M λ δ2 M2=>tb {E with nx:=W (i+1),ct:=W (i+1),bk:=E.nx} δ2 M2):NP wi g tb E δ M:=h
theorem I_(h:tl δ M λ ds M1=>match ds with|[.int j]=>Y5 j/\R (.fix (iw 0 j.toNat)) M1|_=>False):FV tl δ M R:=h
theorem NU(h:QB true M):sP δ M QB:=h
theorem wO{xs:List α}{d:Int}(h0:0<=d)(h1:d < xs.length):∃c,fE xs d=some c:=by
 have hl:d.toNat < xs.length:=by omega
 have e:((d.toNat:Nat):Int)=d:=by omega
 have q:fE xs ((d.toNat:Nat):Int)=some xs[d.toNat]:=cH (by simp[hl]);rw[e]at q;exact⟨_,q⟩
end
open L2
def strsOf:List Expr->Option (List Str)
 |[]=>some []
 | .Constant (.str x) _ _::r=>(strsOf r).map (x::·)
 |_::_=>none
def zw(zs:List Str):gg:=λ _ M Q=>Q (zs.map D.str) M
theorem IZ{Q:List D->Mem->Prop}(h:Q (zs.map D.str) M):zw zs δ M Q:=h
theorem zC:∀{es:List Expr} {zs:List Str},strsOf es=some zs->QA X es (zw zs)
 |[],zs,h=>by cases h;exact Eu
 |e::es,zs,h=>by
  cases e with
  |Constant c j pos=>
   cases c with
   |str x=>
    unfold strsOf at h;cases q:strsOf es with
    |none=>rw[q]at h;cases h
    |some ys=>rw[q]at h;cases h;exact Fb (zD (ta:=sC (.str x)) (t:=zw ys) Mv (zC q)) λ σ H Q h=>h
   |_=>exact absurd h (by unfold strsOf;intro z;cases z)
  |_=>exact absurd h (by unfold strsOf;intro z;cases z)
end L3
namespace L4
open PySem.Spec L2 L3
structure WE(X:Cx)(e:Expr)(t:cb):Prop where
 h:QE X e t
structure WT(X:Cx)(e:Expr)(t:fJ):Prop where
 h:QT X e t
structure WW(X:Cx)(e:Expr)(t:fJ):Prop where
 h:QW X e t
structure WA(X:Cx)(e:List Expr)(t:gg):Prop where
 h:QA X e t
structure WS(X:Cx)(e:Stmt)(t:iK):Prop where
 h:QS X e t
structure HX(X:Cx)(e:List Stmt)(t:iK):Prop where
 h:Hz X e t
structure WO(X:Cx)(e:Option Expr)(t:Ma):Prop where
 h:QO X e t
structure WG(X:Cx)(e:Expr)(t:iL):Prop where
 h:QG X e t
structure Wc(X:Cx)(e:List Expr)(t:p_):Prop where
 h:U_ X e t
structure YW(X:Cx)(e:List Expr)(t:fJ):Prop where
 h:Wh X e t
structure WI(X:Cx)(tg e:Expr)(t:qC):Prop where
 h:QI X tg e t
theorem WW.pt{t:fJ}(w:WW X e t):WT X e t:=⟨w.h.pt⟩
structure Q6(X:Cx)(scope:Scope)(tgs:List Str)(fr:List Nat)(tg:Expr)(g:iL):Prop where
 h:Wf X scope tgs fr tg g
structure gW(X:Cx)(scope:Scope)(tgs:List Str)(fr:List Nat)(tg iter:Expr)(ifs:List Expr)(elt:Expr)(wi:qC)(g:iL)(tt:fJ)(te:cb):Prop where
 b:kz X scope fr
 calm:X.calm=true
 xe:∀e s,X.xe e s->False
 it:WI X tg iter wi
 tgt:Q6 X scope tgs fr tg g
 ifs:∀cl C fp s H,YW (bI X scope cl tgs fr C fp s H) ifs tt
 elt:∀cl C fp s H,WE (bI X scope cl tgs fr C fp s H) elt te
theorem gW.h{elt:Expr}(C:gW X scope tgs fr tg iter ifs elt wi g tt te):lO X scope tgs fr tg iter ifs elt wi g tt te:=
 ⟨C.b,C.calm,C.xe,C.it.h,C.tgt.h,λ cl D fp s H=>(C.ifs cl D fp s H).h,λ cl D fp s H=>(C.elt cl D fp s H).h⟩
section
variable {a b c:Expr}{ta tb:cb}
theorem ar(i:Nat)(hN:X.N[i]?=some x:=by rfl)(hv:U5 X.env.scope x:=by first|exact Or.inl rfl|exact Or.inr (Or.inl rfl)|exact Or.inr (Or.inr rfl))(hd:(x==("__debug__":Str))=false:=by decide)(hcd:(x==("__classdict__":Str))=false:=by decide):WE X (.Name x pos) (DL i):=⟨q_v (i:=i) (hN:=hN) (hv:=hv) (hd:=hd) (hcd:=hcd)⟩
theorem ak{i j:_}:WE X (.Constant (.int i) j pos) (sC (.int i)):=⟨SO⟩
theorem mx{i j:_}:WE X (.Constant (.bool i) j pos) (sC (.bl i)):=⟨Xh⟩
theorem aX{i j:_}:WE X (.Constant (.str i) j pos) (sC (.str i)):=⟨Mv⟩
theorem gn{j:_}:WE X (.Constant .none j pos) (sC .bu):=⟨SM⟩
theorem kM(G:jg X.K X.mg x d)(hg:Gl X x)(hd:(x==("__debug__":Str))=false:=by decide):WE X (.Name x pos) (sC d):=⟨OR (G:=G) (hg:=hg) (hd:=hd)⟩
theorem mw{n:String}(hg:Gl X x)(hm:X.mg x=none)(hv:bootBuiltins x=some (.type n))(hn:x≠"__name__":=by decide)(hd:(x==("__debug__":Str))=false:=by decide):WE X (.Name x pos) (sC (.ty n)):=⟨Xb (hg:=hg) (hm:=hm) (hv:=hv) (hn:=hn) (hd:=hd)⟩
theorem bg{op:Operator}{r2:fF}(o:eX X (binaryOp op) r2)(ha:WE X a ta)(hb:WE X b tb):WE X (.BinOp a op b pos) (HK r2 ta tb):=⟨Xd (o:=o) (ha:=ha.h) (hb:=hb.h)⟩
theorem AZ{op:UnaryOp}{r2:D->Mem->bH->Prop}(o:YX X (unaryOp op) r2)(ha:WE X a ta):WE X (.UnaryOp op a pos) (WY r2 ta):=⟨Xa (o:=o) (ha:=ha.h)⟩
theorem ja{op:CmpOp}{r2:fF}(o:eX X (compareOp op) r2)(ha:WE X a ta)(hb:WE X b tb)(hm:behindInMarks op b=false):WE X (.Compare a [op] [b] pos) (HK r2 ta tb):=⟨SR (o:=o) (ha:=ha.h) (hb:=hb.h) (hm:=hm)⟩
theorem aL{op:CmpOp}{r2:fF}(o:eX X (compareOp op) r2)(ha:WE X a ta)(hb:WE X b tb)(hm:behindInMarks op b=false):WT X (.Compare a [op] [b] pos) (ow (HK r2 ta tb)):=⟨OG (o:=o) (ha:=ha.h) (hb:=hb.h) (hm:=hm)⟩
theorem zc{op oK:CmpOp}{r2 xR:fF}(o:eX X (compareOp op) r2)(o':eX X (compareOp oK) xR)(ha:WE X a ta)(hb:WE X b tb)(hc:WE X c tc)(hm:lastMarks [op,oK] [b,c]=false:=by with_unfolding_all rfl):WE X (.Compare a [op,oK] [b,c] pos) (kX r2 xR ta tb tc):=⟨JP (o:=o) (o':=o') (ha:=ha.h) (hb:=hb.h) (hc:=hc.h) (hm:=hm)⟩
theorem uM{op oK:CmpOp}{r2 xR:fF}(o:eX X (compareOp op) r2)(o':eX X (compareOp oK) xR)(ha:WE X a ta)(hb:WE X b tb)(hc:WE X c tc)(hm:lastMarks [op,oK] [b,c]=false:=by with_unfolding_all rfl):WT X (.Compare a [op,oK] [b,c] pos) (ow (kX r2 xR ta tb tc)):=⟨Eo (o:=o) (o':=o') (ha:=ha.h) (hb:=hb.h) (hc:=hc.h) (hm:=hm)⟩
theorem dM(h:WE X e ta)(he:∀whole,isTrue e X.env whole=(do let v <- whole;standAt e.pos;holding [v] (truthy v)):=by intro _;rfl):WT X e (ow ta):=⟨OE (h:=h.h) (he:=he)⟩
variable {tA tB:fJ}
theorem so(ha:WT X a tA):WW X (.BoolOp .And [a] pos) tA:=⟨JA (ha:=ha.h)⟩
theorem fU(ha:WT X a tA):WW X (.BoolOp .Or [a] pos) tA:=⟨OC (ha:=ha.h)⟩
theorem xp(ha:WT X a tA)(hb:WW X (.BoolOp .And (b::rest) pos) tB):WW X (.BoolOp .And (a::b::rest) pos) (NQ tA tB):=⟨OD (ha:=ha.h) (hb:=hb.h)⟩
theorem gj(ha:WT X a tA)(hb:WW X (.BoolOp .Or (b::rest) pos) tB):WW X (.BoolOp .Or (a::b::rest) pos) (W0 tA tB):=⟨SH (ha:=ha.h) (hb:=hb.h)⟩
theorem fV(ha:WT X a tA):WT X (.UnaryOp .Not a pos) (NL tA):=⟨OF (ha:=ha.h)⟩
theorem lQ{op:_}(h:WE X a ta):WE X (.BoolOp op [a] pos) ta:=⟨SK (h:=h.h)⟩
theorem w_and(ha:WE X a ta)(hb:WE X (.BoolOp .And (b::rest) pos) tb):WE X (.BoolOp .And (a::b::rest) pos) (DT ta tb):=⟨SS (ha:=ha.h) (hb:=hb.h)⟩
theorem w_or(ha:WE X a ta)(hb:WE X (.BoolOp .Or (b::rest) pos) tb):WE X (.BoolOp .Or (a::b::rest) pos) (NJ ta tb):=⟨Xc (ha:=ha.h) (hb:=hb.h)⟩
theorem RK(hc:WT X c tA)(ha:WE X a ta)(hb:WE X b tb):WE X (.IfExp c a b pos) (W2 tA ta tb):=⟨Xf (hc:=hc.h) (ha:=ha.h) (hb:=hb.h)⟩
theorem ae:WA X [] NM:=⟨Eu⟩
theorem aa(ha:WE X e ta)(hr:WA X es t)(hs:starEach (e::es) X.env=(false,eval e X.env)::starEach es X.env:=by rfl):WA X (e::es) (DR ta t):=⟨zD (ha:=ha.h) (hr:=hr.h) (hs:=hs)⟩
theorem eB{x1:_}(h:WA X es t):WE X (.Tuple es x1 pos) (NH t):=⟨SJ (h:=h.h)⟩
theorem b_(h:WA X es t):WE X (.List es pos) (NN t):=⟨SN (h:=h.h)⟩
theorem bO{r2:fF}(o:Vb X r2)(ha:WE X a ta)(hb:WE X b tb)(hs:uC b):WE X (.Subscript a b pos) (HK r2 ta tb):=⟨Xe (o:=o) (ha:=ha.h) (hb:=hb.h) (hs:=hs)⟩
theorem cG:WO X none sR:=⟨JH⟩
theorem cf(h:WE X e ta):WO X (some e) (DN ta):=⟨JG (h:=h.h)⟩
variable {lo hi:Option Expr}{tl th:Ma}
theorem cu{r2:D->Option Int->Option Int->Mem->bH->Prop}(o:U9 X r2)(he:WE X e ta)(hl:WO X lo tl)(hu:WO X hi th):WE X (.Subscript e (.Slice lo hi none p2) pos) (WZ r2 ta tl th):=⟨JO (o:=o) (he:=he.h) (hl:=hl.h) (hu:=hu.h)⟩
variable {p:Pos}{id:String}
theorem aS(o:cZ X (.builtin id) r2)(hg:Gl X x)(hm:X.mg x=none)(hv:bootBuiltins x=some (.builtin id))(ha:WA X (e::es) t)(hn:x≠"__name__":=by decide)(hdb:(x==("__debug__":Str))=false:=by decide)(he:starEach (e::es) X.env=(false,eval e X.env)::starEach es X.env:=by rfl)(hpl:(backTo pos (starEach es X.env)).any (·.1)=false:=by rfl):WE X (.Call (.Name x p) (e::es) [] pos) (Rj r2 t):=⟨JR (o:=o) (hg:=hg) (hm:=hm) (hv:=hv) (ha:=ha.h) (hn:=hn) (hdb:=hdb) (he:=he) (hpl:=hpl)⟩
theorem cO(o:cZ X (.type T) r2)(hg:Gl X x)(hm:X.mg x=none)(hv:bootBuiltins x=some (.type T))(ha:WA X (e::es) t)(hn:x≠"__name__":=by decide)(hdb:(x==("__debug__":Str))=false:=by decide)(he:starEach (e::es) X.env=(false,eval e X.env)::starEach es X.env:=by rfl)(hpl:(backTo pos (starEach es X.env)).any (·.1)=false:=by rfl):WE X (.Call (.Name x p) (e::es) [] pos) (Rj r2 t):=⟨JQ (o:=o) (hg:=hg) (hm:=hm) (hv:=hv) (ha:=ha.h) (hn:=hn) (hdb:=hdb) (he:=he) (hpl:=hpl)⟩
end
section
variable {o:Expr}{to:cb}{id:String}
theorem ig{r2:D->List D->Mem->bH->Prop}(pa:PlainAttrs T)(slot:Slot T name id)(hty:typeOf (.builtin id)=pure (.type "method_descriptor"))(hm:HZ X id r2)(ho:WE X o to)(ha:WA X (e::es) t)(hbase:attributeBase o name X.env (eval o X.env)=eval o X.env:=by rfl)(hfew:((backTo ck (starEach (e::es) X.env)).all (λ x=>!x.1)&&(backToKw ck (keywordEach [] X.env)).all (λ x=>x.1.isSome)
   &&decide ((e::es).length+([]:List Keyword).length+(if([]:List Keyword).isEmpty then 0 else 1) < 30))=true:=by rfl) (hline:(apos.endLine==ck.line)=true:=by rfl) (hs:starEach (e::es) X.env=(false,eval e X.env)::starEach es X.env:=by rfl) (hplain:(backTo ck (starEach es X.env)).any (·.1)=false:=by rfl):WE X (.Call (.Attribute o name apos) (e::es) [] ck) (W3 T r2 to t):=⟨Xg (pa:=pa) (slot:=slot) (hty:=hty) (hm:=hm) (ho:=ho.h) (ha:=ha.h) (hbase:=hbase) (hfew:=hfew) (hline:=hline) (hs:=hs) (hplain:=hplain)⟩
end
section
variable {p:Pos}{sp:gC}
theorem aK(d:bK X.prog X.w X.K X.mg X.base k x ps sp)(hr:bJ k X.A)(hg:Gl X x)(ha:WA X (e::es) t)(hdb:(x==("__debug__":Str))=false:=by decide)(he:starEach (e::es) X.env=(false,eval e X.env)::starEach es X.env:=by rfl)(hpl:(backTo pos (starEach es X.env)).any (·.1)=false:=by rfl):WE X (.Call (.Name x p) (e::es) [] pos) (sD sp t):=⟨SQ (d:=d) (hr:=hr) (hg:=hg) (ha:=ha.h) (hdb:=hdb) (he:=he) (hpl:=hpl)⟩
end
section
variable {rest:List Stmt}{t u:iK}
theorem aJ:HX X [] DO:=⟨JC⟩
theorem aj(h:WS X st t):HX X [st] t:=⟨JB (h:=h.h)⟩
theorem ag(h1:WS X st t)(h2:HX X rest u):HX X (st::rest) (IP t u):=⟨Ep (h1:=h1.h) (h2:=h2.h)⟩
theorem gF(he:WE X e te)(hs:swapsWith e none pos.line X.env=pure false:=by rfl):WS X (.Expr e pos) (DQ te):=⟨JE (he:=he.h) (hs:=hs)⟩
theorem aD(he:WE X e te):WS X (.Return (some e) pos) (NI te):=⟨OI (he:=he.h)⟩
theorem bh{c:Expr}{a b:List Stmt}{tc:fJ}(hc:WT X c tc)(ha:HX X a t)(hb:HX X b u):WS X (.If c a b pos) (NO tc t u):=⟨SI (hc:=hc.h) (ha:=ha.h) (hb:=hb.h)⟩
theorem cN(hN:X.N.Nodup)(hi:X.N[i]?=some x)(hx:Loc X.env.scope x)(hf:X.fn x=true\/X.env.scope.names.lookup x=some .local:=by first|exact .inl rfl|exact .inr rfl|assumption):WG X (.Name x pos) (ap i):=⟨JN (hN:=hN) (hi:=hi) (hx:=hx) (hf:=hf)⟩
theorem zb:Wc X [] Ce:=⟨JM⟩
theorem jI{t:iL}{u:p_}(h1:WG X e t)(h2:Wc X es u)(hs:(assignEach (e::es) X.env).map (·.2)=assign e X.env::(assignEach es X.env).map (·.2):=by rfl):Wc X (e::es) (jd t u):=⟨Et (h1:=h1.h) (h2:=h2.h) (hs:=hs)⟩
theorem Dl{t:p_}(hc:X.calm=true)(h:Wc X es t)(hn:(assignEach es X.env).length=n:=by rfl)(hst:(assignEach es X.env).findIdx? (·.1)=none:=by rfl):WG X (.Tuple es k pos) (Cd n t):=⟨OM (hc:=hc) (h:=h.h) (hn:=hn) (hst:=hst)⟩
theorem fX{o i:Expr}{to ti:cb}{t:ky}(ho:WE X o to)(hi:WE X i ti)(hs:Hy X t)(ha:∀v,assign (.Subscript o i pos) X.env v=(do
   let ov <- holding [v] (eval o X.env)
   let iv <- holding [v,ov] (eval i X.env)
   standAt pos
   holding [v,ov,iv] (setItem ov iv v)
   release [v,ov,iv] []):=by intro _;rfl):WG X (.Subscript o i pos) (hSub to ti t):=⟨ON (ho:=ho.h) (hi:=hi.h) (hs:=hs) (ha:=ha)⟩
theorem fW(he:WE X e te)(hg:WG X tg g)(hs:swapsWithSole [tg] e pos.line X.env=pure false:=by rfl)(hw:swappedStores [tg] e X.env=pure none:=by rfl)(h1:(assignEach [tg] X.env).map (·.2)=[assign tg X.env]:=by rfl):WS X (.Assign [tg] e pos) (uX te g):=⟨OK (he:=he.h) (hg:=hg.h) (hs:=hs) (hw:=hw) (h1:=h1)⟩
theorem aU(hN:X.N.Nodup)(hi:X.N[i]?=some x)(hx:Loc X.env.scope x)(he:WE X e te)(hs:swapsWith e (some (.Name x pos')) pos.line X.env=pure false:=by rfl)(hf:X.fn x=true\/X.env.scope.names.lookup x=some .local:=by first|exact .inl rfl|exact .inr rfl|assumption):WS X (.Assign [.Name x pos'] e pos) (uX te (ap i)):=⟨OH (hN:=hN) (hi:=hi) (hx:=hx) (he:=he.h) (hs:=hs) (hf:=hf)⟩
end
section
variable {l:Expr}{tl:cb}{a b:Expr}{p:Pos}
theorem bY(hl:WE X l tl):WI X tg l (PV tl):=⟨OL (hl:=hl.h)⟩
theorem bV(hg:Gl X "range")(hm:X.mg "range"=none)(ha:WA X [a] ta)(hs:starEach [a] X.env=[(false,eval a X.env)]:=by rfl):WI X tg (.Call (.Name "range" p) [a] [] pos) (FV ta):=⟨Bu (hg:=hg) (hm:=hm) (ha:=ha.h) (hs:=hs)⟩
end
theorem eY(hp:PassesOwn (model X.prog X.w) X.A X.env X.xe)(hc:X.calm=true)(hi:WI X tg iter wi)(hg:WG X tg g)(hb:HX X body tb)(hs:∀x,foldedSetIterable iter X.env x=pure x:=by intro _;rfl):WS X (.For tg iter body [] pos) (NP wi g tb):=⟨OJ (hp:=hp) (hc:=hc) (hi:=hi.h) (hg:=hg.h) (hb:=hb.h) (hs:=hs)⟩
section
variable {c:Expr}{tc:fJ}
theorem uN(hp:PassesOwn (model X.prog X.w) X.A X.env X.xe)(hc:WT X c tc)(hb:HX X body tb):WS X (.While c body [] pos) (xM tc tb):=⟨Er (hp:=hp) (hc:=hc.h) (hb:=hb.h)⟩
end
section
variable {elt:Expr}
theorem bE:YW X [] sP:=⟨JJ⟩
theorem sv{c:Expr}{t:fJ}(h:WT X c t):YW X [c] t:=⟨JI (h:=h.h)⟩
theorem bC{ps:Pos}(h:∀cl C fp s H,PG (bI X scope cl tgs fr C fp s H) (.Name x ps) (fu i))(hi:i < tgs.length):Q6 X scope tgs fr (.Name x ps) (ap i):=⟨Iw (h:=h) (hi:=hi)⟩
theorem gm{y:Str}{px py pt:Pos}(h:∀cl C fp s H,PG (bI X scope cl tgs fr C fp s H) (.Tuple [.Name x px,.Name y py] k pt) (GH X.K 2 (kb (fu i) (kb (fu j) Ci))))(hi:i < tgs.length)(hj:j < tgs.length):Q6 X scope tgs fr (.Tuple [.Name x px,.Name y py] k pt) (Cd 2 (jd (ap i) (jd (ap j) Ce))):=⟨Iv (h:=h) (hi:=hi) (hj:=hj)⟩
theorem nO(C:gW X scope tgs fr tg iter ifs elt wi g tt te)(hs:∀x,foldedSetIterable iter X.env x=pure x:=by intro _;rfl):WE X (.ListComp elt [⟨tg,iter,ifs,0⟩] scope pos) (uW wi g tt te tgs.length fr):=⟨OV (C:=C.h) (hs:=hs)⟩
theorem cI{y:Str}{py ik:Pos}(hN:X.N.Nodup)(hiy:X.N[i]?=some y)(hy:Loc X.env.scope y)(C:gW X scope tgs fr tg iter ifs elt wi g tt te)(hsw:swapsWith (.ListComp elt [⟨tg,iter,ifs,0⟩] scope pos) (some (.Name y py)) ik.line X.env=pure true:=by rfl)(hf:X.fn y=true\/X.env.scope.names.lookup y=some .local:=by first|exact .inl rfl|exact .inr rfl|assumption)(hs:∀x,foldedSetIterable iter X.env x=pure x:=by intro _;rfl):WS X (.Assign [.Name y py] (.ListComp elt [⟨tg,iter,ifs,0⟩] scope pos) ik) (uX (uW wi g tt te tgs.length fr) (ap i)):=⟨xS (hN:=hN) (hiy:=hiy) (hy:=hy) (C:=C.h) (hsw:=hsw) (hf:=hf) (hs:=hs)⟩
variable {p:Pos}{id:String}
theorem nN{r3:List D->Mem->bH->Prop}(o:cZ X (.builtin id) r2)(h3:mm r2 r3)(hg:Gl X x)(hm:X.mg x=none)(hv:bootBuiltins x=some (.builtin id))(C:gW X scope tgs fr tg iter ifs elt wi g tt te)(hn:x≠"__name__":=by decide)(hdb:(x==("__debug__":Str))=false:=by decide)(hs:∀x,foldedSetIterable iter X.env x=pure x:=by intro _;rfl):WE X (.Call (.Name x p) [.ListComp elt [⟨tg,iter,ifs,0⟩] scope ck] [] pos) (Bl r3 wi g tt te tgs.length fr):=⟨OQ (o:=o) (h3:=h3) (hg:=hg) (hm:=hm) (hv:=hv) (C:=C.h) (hn:=hn) (hdb:=hdb) (hs:=hs)⟩
theorem nM{r3:List D->Mem->bH->Prop}(o:cZ X (.type T) r2)(h3:mm r2 r3)(hg:Gl X x)(hm:X.mg x=none)(hv:bootBuiltins x=some (.type T))(C:gW X scope tgs fr tg iter ifs elt wi g tt te)(hn:x≠"__name__":=by decide)(hdb:(x==("__debug__":Str))=false:=by decide)(hs:∀x,foldedSetIterable iter X.env x=pure x:=by intro _;rfl):WE X (.Call (.Name x p) [.ListComp elt [⟨tg,iter,ifs,0⟩] scope ck] [] pos) (Bl r3 wi g tt te tgs.length fr):=⟨OO (o:=o) (h3:=h3) (hg:=hg) (hm:=hm) (hv:=hv) (C:=C.h) (hn:=hn) (hdb:=hdb) (hs:=hs)⟩
variable {o:Expr}{to:cb}
theorem Nl{r2 r3:D->List D->Mem->bH->Prop}(pa:PlainAttrs T)(slot:Slot T name id)(hty:typeOf (.builtin id)=pure (.type "method_descriptor"))(hm:HZ X id r2)(h3:yU r2 r3)(ho:WE X o to)(C:gW X scope tgs fr tg iter ifs elt wi g tt te)(hs:∀x,foldedSetIterable iter X.env x=pure x:=by intro _;rfl)(hbase:attributeBase o name X.env (eval o X.env)=eval o X.env:=by rfl)(hfew:((backTo pos (starEach [.ListComp elt [⟨tg,iter,ifs,0⟩] scope ck] X.env)).all (λ x=>!x.1)&&(backToKw pos (keywordEach [] X.env)).all (λ x=>x.1.isSome)
   &&decide (([.ListComp elt [⟨tg,iter,ifs,0⟩] scope ck]:List Expr).length+([]:List Keyword).length+(if([]:List Keyword).isEmpty then 0 else 1) < 30))=true:=by rfl) (hline:(apos.endLine==pos.line)=true:=by rfl):WE X (.Call (.Attribute o name apos) [.ListComp elt [⟨tg,iter,ifs,0⟩] scope ck] [] pos) (DM T r3 to wi g tt te tgs.length fr):=⟨OP (pa:=pa) (slot:=slot) (hty:=hty) (hm:=hm) (h3:=h3) (ho:=ho.h) (C:=C.h) (hs:=hs) (hbase:=hbase) (hfew:=hfew) (hline:=hline)⟩
end
theorem mP(h:strsOf es=some zs):WA X es (zw zs):=⟨zC h⟩
open PySem.Spec L2 L3
theorem iy{x qual:Str}{st:Stmt}{f:ww}{fd:FuncData}{N ps:List Str}{k:Nat}{sp:gC}(F:dH K x qual st f fd)(S:aH N ps (ao st))(len:∀ds M Q,sp ds M Q->ds.length=ps.length) (gy:∀(bR:jp) (A:Around) (outer:List Env) (s:kt) (H:Hp) (E:XK) (ds:List D) (M:Mem) (Q:bH),bJ k (A.deeper (PyProof.Rows.envOfC qual (ao st) s.heap.objs.size f bR))->sp ds M Q->
   ∃t,HX (qx dJ P w K mg base N qual (ao st) f bR A outer s H E).zP (cA st) t/\t {nx:=λ _ M'=>fin2 Q .bu M',rt:=fin2 Q} (gJ N ds) M):bo P w K mg base dJ (k+1) f fd ps (bZ K sp):=
 ok2 F S len λ bR A outer s H E ds M Q hr h=>let⟨t,a,b⟩:=gy bR A outer s H E ds M Q hr h;⟨t,a.h,b⟩
end L4
namespace L5
open PySem.W PyProof.Rows
section
variable (n:Nat)(lt:Nat->Nat->Bool)
def kw{α:Type}:KasT α->(α->Prop)->Prop
 | .ret a,Q=>Q a
 | .ask i j k,Q=>i < n/\j < n/\kw (k (lt i j)) Q
variable {n lt}
theorem iT{β:Type}{f:α->KasT β}{Q:β->Prop}:∀{t:KasT α},kw n lt t (λ a=>kw n lt (f a) Q)->kw n lt (t.bind f) Q
 | .ret a,h=>h
 | .ask i j k,h=>⟨h.1,h.2.1,iT (t:=k (lt i j)) h.2.2⟩
def pg(p:Array Nat)(i:Nat):Nat:=p.getD i 0
theorem jY(p:Array Nat)(i:Nat):pg p i=(p[i]?).getD 0:=by unfold pg;rw[Array.getD_eq_getD_getElem?]
def Pm(n:Nat)(p:Array Nat):Prop:=p.Perm (List.toArray (List.range n))
theorem Pm.size{p:Array Nat}(h:Pm n p):p.size=n:=by have:=Array.Perm.size_eq h;simpa using this
theorem Pm.below{p:Array Nat}(h:Pm n p)(i:Nat)(hn:0 < n):pg p i < n:=by
 rw[jY];cases e:p[i]? with
 |none=>exact hn
 |some x=>have hm:x∈p:=Array.mem_of_getElem? e;have:=(Array.Perm.mem_iff h (a:=x)).mp hm;simpa using this
theorem oF{p:Array Nat}(hj:j<=p.size)(k:Nat):pg (kas_rev p i j) k=if i<=k/\k < j then pg p (i+j - 1 - k)else pg p k:=by
 rw[jY];unfold kas_rev;rw[getElem?_mirror_all hj k];split
 ·rw[jY]
 ·rw[jY]
theorem Pm.rev{p:Array Nat}(h:Pm n p)(i j:Nat):Pm n (kas_rev p i j):=Array.Perm.trans (mirror_perm _ _ _ _) h
theorem EM{p:Array Nat}{l:Nat}(hk:k < p.size)(hl:l<=k)(j:Nat):pg (bubble p k (k - l)) j=if j=l then pg p k else if l < j/\j<=k then pg p (j - 1)else pg p j:=by
 have e0:k - (k - l)=l:=by omega
 rw[jY,getElem?_bubble hk (k - l) (by omega) j,e0];by_cases h1:j=l
 ·rw[N3 h1,N3 h1,jY]
 ·rw[N4 h1,N4 h1];by_cases h2:l < j/\j<=k
  ·rw[N3 h2,N3 h2,jY]
  ·rw[N4 h2,N4 h2,jY]
theorem Pm.bub{p:Array Nat}(h:Pm n p)(k d:Nat):Pm n (bubble p k d):=Array.Perm.trans (bubble_perm _ _ _) h
structure Ord(lt:Nat->Nat->Bool):Prop where
 CM:∀a b,lt a b=true->lt b a=false
 tr:∀a b c,lt a b=false->lt b c=false->lt a c=false
abbrev le(lt:Nat->Nat->Bool)(a b:Nat):Prop:=lt b a=false
theorem Ord.refl(O:Ord lt)(a:Nat):le lt a a:=by
 show lt a a=false;cases e:lt a a with
 |false=>rfl
 |true=>have:=O.CM a a e;rw[e]at this;cases this
theorem Ord.trans(O:Ord lt){a b:Nat}(h1:le lt a b)(h2:le lt b c):le lt a c:=O.tr c b a h2 h1
def Up(lt:Nat->Nat->Bool)(p:Array Nat)(m:Nat):Prop:=∀i j,i<=j->j < m->le lt (pg p i) (pg p j)
def Dn(lt:Nat->Nat->Bool)(p:Array Nat)(m:Nat):Prop:=∀i j,i<=j->j < m->le lt (pg p j) (pg p i)
def Ev(lt:Nat->Nat->Bool)(a b:Nat):Prop:=le lt a b/\le lt b a
theorem Ord.Uy(O:Ord lt){a b:Nat}(h:Ev lt a b)(q:Ev lt b c):Ev lt a c:=⟨O.trans h.1 q.1,O.trans q.2 h.2⟩
theorem Ev.sym{a b:Nat}(h:Ev lt a b):Ev lt b a:=⟨h.2,h.1⟩
theorem Up.one(O:Ord lt)(p:Array Nat):Up lt p 1:=λ i j h q=>by
 have:i=j:=by omega
 subst this;exact O.refl _
theorem Up.next(O:Ord lt){p:Array Nat}(h:Up lt p m)(hm:1<=m)(q:le lt (pg p (m - 1)) (pg p m)):Up lt p (m+1):=λ i j rE hj=>by
 by_cases e:j=m
 ·subst e;by_cases e2:i=j
  ·subst e2;exact O.refl _
  ·exact O.trans (h i (j - 1) (by omega) (by omega)) q
 ·exact h i j rE (by omega)
theorem Dn.next(O:Ord lt){p:Array Nat}(h:Dn lt p m)(hm:1<=m)(q:le lt (pg p m) (pg p (m - 1))):Dn lt p (m+1):=λ i j rE hj=>by
 by_cases e:j=m
 ·subst e;by_cases e2:i=j
  ·subst e2;exact O.refl _
  ·exact O.trans q (h i (j - 1) (by omega) (by omega))
 ·exact h i j rE (by omega)
theorem Dn.ev(O:Ord lt){p p':Array Nat}(h:Dn lt p m)(e:∀k,k < m->Ev lt (pg p' k) (pg p k)):Dn lt p' m:=λ i j rE hj=>
 O.trans (e j hj).1 (O.trans (h i j rE hj) (e i (by omega)).2)
theorem Up.Ta{p:Array Nat}(hm:m<=p.size)(h:Dn lt p m):Up lt (kas_rev p 0 m) m:=λ i j rE hj=>by rw[oF hm,oF hm,N3 ⟨K3 _,by omega⟩,N3 ⟨K3 _,hj⟩];exact h _ _ (by omega) (by omega)
theorem yA(O:Ord lt){p:Array Nat}(hj:j<=p.size)(he:∀k,i<=k->k < j->Ev lt (pg p k) (pg p (j - 1)))(k:Nat):Ev lt (pg (kas_rev p i j) k) (pg p k):=by
 rw[oF hj];split
 case isTrue h=>exact O.Uy (he _ (by omega) (by omega)) (he k h.1 h.2).sym
 case isFalse h=>exact⟨O.refl _,O.refl _⟩
theorem yq(O:Ord lt){p:Array Nat}(hp:Pm n p){Q:Nat->Prop}:∀(f a:Nat),1<=a->a+f<=n->Up lt p a->(∀m,a<=m->m<=a+f->Up lt p m->(m < a+f->lt (pg p m) (pg p (m - 1))=true)->Q m)->kw n lt (kas_asc p f a) Q
 |0,a,h1,hn,hu,hq=>hq a (K1 _) (K1 _) hu λ h=>absurd h (by omega)
 |f+1,a,h1,hn,hu,hq=>by
  refine⟨hp.below a (by omega),hp.below (a - 1) (by omega),?_⟩;show kw n lt (if lt (pg p a) (pg p (a - 1))=true then KasT.ret a else kas_asc p f (a+1)) Q;cases e:lt (pg p a) (pg p (a - 1))with
  |true=>rw[N3 rfl];exact hq a (K1 _) (by omega) hu λ _=>e
  |false=>rw[N4 (by simp)];exact yq O hp f (a+1) (by omega) (by omega) (hu.next O h1 e) λ m m1 m2 m3 m4=>hq m (by omega) (by omega) m3 λ q=>m4 (by omega)
theorem nh(O:Ord lt){Q:Array Nat×Nat×Nat->Prop}(Gu:0 < n):∀(f:Nat) (p:Array Nat) (m q:Nat),Pm n p->1<=m->m+f<=n->q+1<=m->Dn lt p m->(∀k,m - (q+1)<=k->k < m->Ev lt (pg p k) (pg p (m - 1)))-> (∀p' m' q',Pm n p'->m<=m'->m'<=m+f->q'+1<=m'->Dn lt p' m'->(∀k,m' - (q'+1)<=k->k < m'->Ev lt (pg p' k) (pg p' (m' - 1)))->Q (p',m',q'))->kw n lt (kas_desc f p m q) Q
 |0,p,m,q,hp,h1,hf,xg,hd,he,hQ=>hQ p m q hp (K1 _) (K1 _) xg hd he
 |f+1,p,m,q,hp,h1,hf,xg,hd,he,hQ=>by
  refine⟨hp.below m Gu,hp.below (m - 1) Gu,?_⟩;show kw n lt (if lt (pg p m) (pg p (m - 1))=true then(if q > 0 then kas_desc f (kas_rev p (m - (q+1)) m) (m+1) 0 else kas_desc f p (m+1) 0)else KasT.ask (pg p (m - 1)) (pg p m) λ d=>if d=true then KasT.ret (p,m,q)else kas_desc f p (m+1) (q+1)) Q;have hz:=hp.size;cases e:lt (pg p m) (pg p (m - 1))with
  |true=>
   rw[N3 rfl];by_cases hq:q > 0
   ·rw[N3 hq];have ev:=yA O (p:=p) (i:=m - (q+1)) (j:=m) (by omega) he;have em:pg (kas_rev p (m - (q+1)) m) m=pg p m:=by rw[oF (by omega),N4 (by omega)]
    refine nh O Gu f _ (m+1) 0 (hp.rev _ _) (by omega) (by omega) (by omega) ((hd.ev O λ k _=>ev k).next O h1 ?_) (λ k k1 k2=>?_) λ p' m' q' a b c d g i=>hQ p' m' q' a (by omega) (by omega) d g i
    ·rw[em];exact O.trans (O.CM _ _ e) (ev (m - 1)).2
    ·have:k=m:=by omega
     subst this;exact⟨O.refl _,O.refl _⟩
   ·rw[N4 hq];refine nh O Gu f _ (m+1) 0 hp (by omega) (by omega) (by omega) (hd.next O h1 (O.CM _ _ e)) (λ k k1 k2=>?_) λ p' m' q' a b c d g i=>hQ p' m' q' a (by omega) (by omega) d g i;have:k=m:=by omega
    subst this;exact⟨O.refl _,O.refl _⟩
  |false=>
   rw[N4 (by simp)];refine⟨hp.below (m - 1) Gu,hp.below m Gu,?_⟩;cases e2:lt (pg p (m - 1)) (pg p m)with
   |true=>exact hQ p m q hp (K1 _) (by omega) xg hd he
   |false=>
    refine nh O Gu f p (m+1) (q+1) hp (by omega) (by omega) (by omega) (hd.next O h1 e2) (λ k k1 k2=>?_) λ p' m' q' a b c d g i=>hQ p' m' q' a (by omega) (by omega) d g i;have hE:Ev lt (pg p (m - 1)) (pg p m):=⟨e,e2⟩;by_cases ek:k=m
    ·subst ek;exact⟨O.refl _,O.refl _⟩
    ·exact O.Uy (he k (by omega) (by omega)) hE
theorem zW(O:Ord lt){p:Array Nat}(hp:Pm n p)(h1:1<=m)(hm:m<=n)(hd:Dn lt p m){Q:Nat×Array Nat->Prop}(hQ:∀m' p',Pm n p'->1<=m'->m'<=n->Up lt p' m'->Q (m',p')):kw n lt (kas_tail3 m n p) Q:=by unfold kas_tail3;refine iT (yq O (hp.rev _ _) (n - m) m h1 (by omega) (Up.Ta (by rw[hp.size];exact hm) hd) λ m' a b c _=>?_);exact hQ m' _ (hp.rev _ _) (by omega) (by omega) c
theorem vJ(O:Ord lt){p:Array Nat}(hp:Pm n p)(h1:1<=m)(hm:m+1<=n)(hd:Dn lt p (m+1)){Q:Nat×Array Nat->Prop}(hQ:∀m' p',Pm n p'->1<=m'->m'<=n->Up lt p' m'->Q (m',p')):kw n lt (kas_descPart m n p) Q:=by
 unfold kas_descPart;refine iT (nh O (by omega) (n - (m+1)) p (m+1) 0 hp (by omega) (by omega) (by omega) hd (λ k k1 k2=>?_) λ p' m' q' a b c d g i=>?_)
 ·have:k=m:=by omega
  subst this;exact⟨O.refl _,O.refl _⟩
 ·show kw n lt (if q' > 0 then kas_tail3 m' n (kas_rev p' (m' - (q'+1)) m')else kas_tail3 m' n p') Q;by_cases hq:q' > 0
  ·rw[N3 hq];have hz:=a.size;exact zW O (a.rev _ _) (by omega) (by omega) (g.ev O λ k _=>yA O (by omega) i k) hQ
  ·rw[N4 hq];exact zW O a (by omega) (by omega) g hQ
theorem FN(O:Ord lt){p:Array Nat}(hp:Pm n p)(hn:2<=n){Q:Nat×Array Nat->Prop}(hQ:∀m' p',Pm n p'->1<=m'->m'<=n->Up lt p' m'->Q (m',p')):kw n lt (kas_count n p) Q:=by
 unfold kas_count;refine iT (yq O hp (n - 1) 1 (K1 _) (by omega) (Up.one O p) λ m a b c d=>?_);have hz:=hp.size;by_cases e1:(m==n)=true
 ·rw[N3 e1];exact hQ m p hp a (by omega) c
 ·rw[N4 e1];have eh:m≠n:=λ q=>e1 (by rw[q];exact beq_self_eq_true _);have hl:=d (by omega);by_cases e2:m > 1
  ·rw[N3 e2];refine⟨hp.below 0 (by omega),hp.below (m - 1) (by omega),?_⟩;show kw n lt (if lt (pg p 0) (pg p (m - 1))=true then KasT.ret (m,p)else kas_descPart m n (kas_rev p 0 m)) Q;cases e3:lt (pg p 0) (pg p (m - 1))with
   |true=>rw[N3 rfl];exact hQ m p hp a (by omega) c
   |false=>
    rw[N4 (by simp)];have GB:∀k,0<=k->k < m->Ev lt (pg p k) (pg p (m - 1)):=λ k _ hk=>⟨c k (m - 1) (by omega) (by omega),O.trans e3 (c 0 k (by omega) hk)⟩;have ev:=yA O (p:=p) (i:=0) (j:=m) (by omega) GB;have em:pg (kas_rev p 0 m) m=pg p m:=by rw[oF (by omega),N4 (by omega)]
    refine vJ O (hp.rev _ _) a (by omega) (Dn.next O (λ i j rE hj=>?_) a ?_) hQ
    ·exact O.trans (ev j).1 (O.trans (O.trans (GB j (K3 _) hj).1 (GB i (K3 _) (by omega)).2) (ev i).2)
    ·rw[em];exact O.trans (O.CM _ _ hl) (ev (m - 1)).2
  ·rw[N4 e2];have bU:m=1:=by omega
   subst bU;refine vJ O hp (K1 _) (by omega) (Dn.next O (λ i j rE hj=>?_) (K1 _) (O.CM _ _ hl)) hQ;have:i=j:=by omega
   subst this;exact O.refl _
theorem oW(O:Ord lt){p:Array Nat}(hp:Pm n p)(hk:k < n){Q:Nat->Prop}(hQ:∀l,l<=k->(∀i,i < l->le lt (pg p i) (pg p k))->(∀i,l<=i->i < k->lt (pg p k) (pg p i)=true)->Q l)(hu:Up lt p k):∀(f l r:Nat),l<=r->r<=k->r - l<=f->(∀i,i < l->le lt (pg p i) (pg p k))->(∀i,r<=i->i < k->lt (pg p k) (pg p i)=true)->kw n lt (kas_place p k f l r) Q
 |0,l,r,h1,h2,h3,h4,h5=>by
  have:r=l:=by omega
  subst this;exact hQ r h2 h4 h5
 |f+1,l,r,h1,h2,h3,h4,h5=>by
  unfold kas_place;by_cases e:l ≥ r
  ·rw[N3 e];have:r=l:=by omega
   subst this;exact hQ r h2 h4 h5
  ·rw[N4 e];refine⟨hp.below k (by omega),hp.below _ (by omega),?_⟩;show kw n lt (if lt (pg p k) (pg p ((l+r) / 2))=true then kas_place p k f l ((l+r) / 2)else kas_place p k f ((l+r) / 2+1) r) Q;cases e2:lt (pg p k) (pg p ((l+r) / 2))with
   |true=>
    rw[N3 rfl];refine oW O hp hk hQ hu f l _ (by omega) (by omega) (by omega) h4 λ i i1 i2=>?_;cases e3:lt (pg p k) (pg p i)with
    |true=>rfl
    |false=>have:=O.tr _ _ _ e3 (hu ((l+r) / 2) i i1 i2);rw[e2]at this;cases this
   |false=>rw[N4 (by simp)];exact oW O hp hk hQ hu f _ r (by omega) (by omega) (by omega) (λ i hi=>O.trans (hu i ((l+r) / 2) (by omega) (by omega)) e2) h5
theorem FO(O:Ord lt){Q:Array Nat->Prop}(hQ:∀p,Pm n p->Up lt p n->Q p):∀(f:Nat) (p:Array Nat) (k:Nat),Pm n p->k+f=n->Up lt p k->kw n lt (kas_bin f p k) Q
 |0,p,k,hp,hf,hu=>hQ p hp (by rw[<- hf];exact hu)
 |f+1,p,k,hp,hf,hu=>by
  unfold kas_bin;have hz:=hp.size;refine iT (oW O hp (by omega) (λ l hl h4 h5=>?_) hu k 0 k (K3 _) (K1 _) (by omega) (λ i hi=>absurd hi (by omega)) λ i a b=>absurd b (by omega));refine FO O hQ f _ (k+1) (hp.bub _ _) (by omega) λ i j rE hj=>?_;rw[EM (by omega) hl,EM (by omega) hl];by_cases e1:i=l
  ·rw[N3 e1];by_cases e2:j=l
   ·rw[N3 e2];exact O.refl _
   ·rw[N4 e2,N3 ⟨by omega,by omega⟩];exact O.CM _ _ (h5 (j - 1) (by omega) (by omega))
  ·rw[N4 e1];by_cases e2:j=l
   ·rw[N3 e2,N4 (by omega)];exact h4 i (by omega)
   ·rw[N4 e2];by_cases e3:l < i/\i<=k
    ·rw[N3 e3,N3 ⟨by omega,by omega⟩];exact hu _ _ (by omega) (by omega)
    ·rw[N4 e3];by_cases e4:l < j/\j<=k
     ·rw[N3 e4];exact hu _ _ (by omega) (by omega)
     ·rw[N4 e4];exact hu _ _ (by omega) (by omega)
theorem KQ(O:Ord lt)(hn:2<=n){Q:Array Nat->Prop}(hQ:∀p,Pm n p->Up lt p n->Q p):kw n lt (kas_sort n) Q:=by
 unfold kas_sort;refine iT (FN O (Array.Perm.refl _) hn λ m p hp h1 h2 hu=>?_);show kw n lt (if m < n then kas_bin (n - max m 1) p (max m 1)else KasT.ret p) Q;have hm:max m 1=m:=by omega
 rw[hm];by_cases e:m < n
 ·rw[N3 e];exact FO O hQ (n - m) p m hp (by omega) hu
 ·rw[N4 e];have:m=n:=by omega
  subst this;exact hQ p hp hu
end
open PySem
def dZ(T:String)(h:Heap)(j l:ww)(i:Nat):Prop:=∃o,h.get? j=some o/\o.cls=.type T/\o.data=.fields #[.ref l,.int i 0]
theorem dZ.keep{h:Heap}{j l:ww}(x:dZ T h j l i)(k:∀o,h.get? j=some o->h'.get? j=some o):dZ T h' j l i:=let⟨o,a,r⟩:=x;⟨o,k o a,r⟩
structure NK(T:String)(Sq:Heap->ww->Array jp->Prop):Prop where
 keep:∀{h h':Heap} {l:ww} {vs:Array jp},Sq h l vs->(∀o,h.get? l=some o->h'.get? l=some o)->Sq h' l vs
 start:∀{prog:Program} {w:World} {A:Around} {E:jp->kt->Prop} {s:kt} {l:ww} {vs:Array jp} {Q:jp->kt->Prop},Sq s.heap l vs->
  Q (.ref s.heap.objs.size) {s with heap:=s.heap.push {cls:=.type T,data:=.fields #[.ref l,.int 0 0]}}->wpAny (model prog w) A (pyIter (.ref l)) Q E s
 item:∀{prog:Program} {w:World} {A:Around} {E:jp->kt->Prop} {s:kt} {j l:ww} {i:Nat} {vs:Array jp} {x:jp} {Q:jp->kt->Prop},dZ T s.heap j l i->Sq s.heap l vs->vs[i]?=some x->
  (∀h',dZ T h' j l (i+1)->Heap.SameBut j s.heap h'->Q x {s with heap:=h'})->wpAny (model prog w) A (Builtin.SmallTypes.nextOf (.ref j)) Q E s
 stop:∀{prog:Program} {w:World} {A:Around} {E:jp->kt->Prop} {s:kt} {j l:ww} {i:Nat} {vs:Array jp} {Q:jp->kt->Prop},A.handled=none->dZ T s.heap j l i->Sq s.heap l vs->vs[i]?=none->
  (∀h' e,Heap.ExtBut j s.heap h'->(∃o,h'.get? e=some o/\o.cls=.type "StopIteration")->E (.ref e) {s with heap:=h'})->wpAny (model prog w) A (Builtin.SmallTypes.nextOf (.ref j)) Q E s
theorem Kw:NK "list_iterator" Heap.IsList where
 keep:=λ x k=>x.at k
 start:=λ x q=>y6 x q
 item:=λ a b c d=>wpAny_nextOf_list_item a b c d
 stop:=λ a b c d e=>wpAny_nextOf_list_end a b c d e
theorem Pw{j:ww}{x:jp}(ji:s.heap.IsTupleIter j q i)(jt:s.heap.IsTuple q vs)(jx:vs[i]?=some x) (k:∀h',h'.IsTupleIter j q (i+1)->Heap.SameBut j s.heap h'->Q x {s with heap:=h'}):wpAny (model prog w) A (Builtin.SmallTypes.nextOf (.ref j)) Q E s:=by obtain⟨ob,hb,kc,kd⟩:=id ji;obtain⟨ot,ht,_,nt,dt⟩:=jt;unfold Builtin.SmallTypes.nextOf;refine K5 (j2 (name:=Str.ofString "__next__") ji.typeIs c6 (A6 c6 ji.typeIs F.entry_tuple_iterator_next ?_ (F.args_tuple_iterator_next_1 _)));refine K5 (m:=field (.ref j) 0) (K4 hb kd (x:=.ref q) rfl ?_);show wpAny _ _ (if(Value.ref q==Value.none)=true then _ else _) _ _ s;rw[N4 (show(Value.ref q==Value.none)≠true from p9)];refine K5 (m:=field (.ref j) 1) (K4 hb kd (x:=.int i 0) rfl ?_);refine K5 (m:=seqItems? (.ref q)) (D3 ht dt ?_);simp only[x9,jx];refine K5 (D5 hb kd (by simp) (K6 ⟨x,rfl,K6 (k _ ?_ (m9 ..))⟩));refine⟨_,k4 _ hb (l6 (v8 kd _)),(Obj.cls_mapFields ..).trans kc,?_⟩;rw[v8 kd];simp[rawInt]
theorem ND{j:ww}(hA:A.handled=none)(ji:s.heap.IsTupleIter j q i)(jt:s.heap.IsTuple q vs)(jx:vs[i]?=none) (k:∀h' e,Heap.ExtBut j s.heap h'->(∃o,h'.get? e=some o/\o.cls=.type "StopIteration")->E (.ref e) {s with heap:=h'}):wpAny (model prog w) A (Builtin.SmallTypes.nextOf (.ref j)) Q E s:=by obtain⟨ob,hb,kc,kd⟩:=id ji;obtain⟨ot,ht,_,nt,dt⟩:=jt;unfold Builtin.SmallTypes.nextOf;refine K5 (j2 (name:=Str.ofString "__next__") ji.typeIs c6 (A6 c6 ji.typeIs F.entry_tuple_iterator_next ?_ (F.args_tuple_iterator_next_1 _)));refine K5 (m:=field (.ref j) 0) (K4 hb kd (x:=.ref q) rfl ?_);show wpAny _ _ (if(Value.ref q==Value.none)=true then _ else _) _ _ s;rw[N4 (show(Value.ref q==Value.none)≠true from p9)];refine K5 (m:=field (.ref j) 1) (K4 hb kd (x:=.int i 0) rfl ?_);refine K5 (m:=seqItems? (.ref q)) (D3 ht dt ?_);simp only[x9,jx];refine K5 (K7 (K5 (D5 hb kd (by simp) ?_)));refine K5 (m:=newExc (.type "StopIteration") []) ?_;simp only[newExc,newTuple];refine K5 (y0 (K5 (m:=firstArgMember _ _) (wpAny_of_eq (a:=Value.none) (by first|rfl|(simp only[firstArgMember];rfl)) (y0 ?_ (by size_fits)))) (by size_fits));simp only[raiseNew];refine K5 (wpAny_handled ?_);have hB:A.in1.handled=none:=hA;rw[hB];exact K5 (K6 (wpAny_throw (k _ _ (((m9 ..).extBut.push _).push _) ⟨_,n9 _ rfl,rfl⟩)))
theorem vv:NK "tuple_iterator" Heap.IsTuple where
 keep:=λ x k=>let⟨o,a,r⟩:=x;⟨o,k o a,r⟩
 start:=λ x q=>wpAny_pyIter_tuple x q
 item:=λ a b c d=>Pw a b c d
 stop:=λ a b c d e=>ND a b c d e
structure Za(z u v a b l m:ww):Prop where
 uz:u≠z
 vz:v≠z
 az:a≠z
 bz:b≠z
 uv:u≠v
 ua:u≠a
 ub:u≠b
 va:v≠a
 vb:v≠b
 ab:a≠b
 lz:l≠z
 lv:l≠v
 la:l≠a
 lb:l≠b
 mz:m≠z
 mv:m≠v
 ma:m≠a
 mb:m≠b
section
variable {T1 T2:String}{S1 S2:Heap->ww->Array jp->Prop}
theorem AQ{z u v a b l m:ww}{i:Nat}{xs ys:Array jp}{x y c d:jp}{Q:jp->kt->Prop}(k1:NK T1 S1)(k2:NK T2 S2)(D:Za z u v a b l m) (hz:IsZip s.heap z u v .none) (hu:IsPair s.heap u (.ref a) (.ref b)) (hv:IsPair s.heap v c d) (ha:dZ T1 s.heap a l i) (hb:dZ T2 s.heap b m i) (hl:S1 s.heap l xs) (hm:S2 s.heap m ys) (hx:xs[i]?=some x) (hy:ys[i]?=some y) (k:∀h',IsZip h' z u v (rawInt s.heap.objs.size)->IsPair h' v x y->dZ T1 h' a l (i+1)->dZ T2 h' b m (i+1)->IsPair h' s.heap.objs.size x y->h'.objs.size=s.heap.objs.size+1->
   (∀f o,f≠z->f≠v->f≠a->f≠b->s.heap.get? f=some o->h'.get? f=some o)->Q (.ref s.heap.objs.size) {s with heap:=h'}):
  wpAny (model prog w) A (Builtin.«zip.__next__» ⟨[.ref z],[]⟩) (λ fin s'=>∃v,fin=.done (.ret v)/\Q v s') E s:=by
 refine K5 (m:=field (.ref z) 2) (K4 hz rfl (x:=.bool false) rfl ?_);refine K5 (m:=field (.ref z) 3) (K4 hz rfl (x:=.ref u) rfl ?_);refine K5 (D3 hu rfl ?_);refine K5 (m:=Builtin.SmallTypes.ownedTupleIsFree (.ref z)) ?_;unfold Builtin.SmallTypes.ownedTupleIsFree;refine K5 (m:=field (.ref z) 0) (K4 hz rfl (x:=.none) rfl (K6 ?_));simp only[N0];refine K5 (K7 (K5 (K4 hz rfl (x:=.ref v) rfl (K5 (r9 hz (by simp) λ g1 z1 s1=>?_)))));have z1:IsZip g1 z u v .ellipsis:=z1;refine K5 ?_;simp only[zipIdx_cons,zipIdx_nil,forIn_cons,forIn_nil];refine K5 (K5 (wpAny_onRaise (K5 (m:=Builtin.SmallTypes.nextOf (.ref a)) (k1.item (ha.keep λ o e=>s1.extBut _ _ D.az e) (k1.keep hl λ o e=>s1.extBut _ _ D.lz e) hx λ g2 a2 s2=>K6 ?_))));have v2:IsPair g2 v c d:=s2.extBut _ _ D.va (s1.extBut _ _ D.vz hv);refine K5 (D3 v2 rfl (K5 (wpAny_updateSeq_pair v2 λ g3 v3 s3=>K5 (wpAny_letGo (K6 ?_)))));have v3:IsPair g3 v x d:=v3;have oY:∀f o,f≠z->f≠v->f≠a->s.heap.get? f=some o->g3.get? f=some o:=λ f o n1 n2 n3 e=>s3.extBut _ _ n2 (s2.extBut _ _ n3 (s1.extBut _ _ n1 e));refine K5 (K5 (wpAny_onRaise (K5 (m:=Builtin.SmallTypes.nextOf (.ref b)) (k2.item (hb.keep λ o e=>oY _ _ D.bz D.vb.symm D.ab.symm e) (k2.keep hm λ o e=>oY _ _ D.mz D.mv D.ma e) hy λ g4 b4 s4=>K6 ?_))));have v4:IsPair g4 v x d:=s4.extBut _ _ D.vb v3;refine K5 (D3 v4 rfl (K5 (wpAny_updateSeq_pair v4 λ g5 v5 s5=>K5 (wpAny_letGo (K6 (K6 ?_))))));have v5:IsPair g5 v x y:=v5;refine K5 (D3 v5 rfl (K5 (wpAny_newTuple ?_)));have ez:g5.objs.size=s.heap.objs.size:=by rw[s5.1,s4.1,s3.1,s2.1,s1.1]
 have Tq:∀f o,f≠z->f≠v->f≠a->f≠b->s.heap.get? f=some o->g5.get? f=some o:=λ f o n1 n2 n3 n4 e=>s5.extBut _ _ n2 (s4.extBut _ _ n4 (oY f o n1 n2 n3 e));have z5:IsZip g5 z u v .ellipsis:=s5.extBut _ _ D.vz.symm (s4.extBut _ _ D.bz.symm (s3.extBut _ _ D.vz.symm (s2.extBut _ _ D.az.symm z1)));have a5:dZ T1 g5 a l (i+1):=a2.keep λ o e=>s5.extBut _ _ D.va.symm (s4.extBut _ _ D.ab (s3.extBut _ _ D.va.symm e));have b5:dZ T2 g5 b m (i+1):=b4.keep λ o e=>s5.extBut _ _ D.vb.symm e;have VY:z < g5.objs.size:=G7 z5;refine K5 (m:=Builtin.SmallTypes.ownedTupleHandOut (.ref z) (.ref g5.objs.size)) ?_;unfold Builtin.SmallTypes.ownedTupleHandOut;have z6:IsZip (g5.push {cls:=.type "tuple",data:=.seq #[x,y]}) z u v .ellipsis:=j7 _ z5;refine K5 (r9 z6 (by simp) λ g7 z7 s7=>r9 (show IsZip g7 z u v (rawInt g5.objs.size)from z7) (by simp) λ g8 z8 s8=>?_);have z8:IsZip g8 z u v (rawInt g5.objs.size):=z8;have go:∀f o,f≠z->g5.get? f=some o->g8.get? f=some o:=λ f o n1 e=>s8.extBut _ _ n1 (s7.extBut _ _ n1 (j7 _ e));have t8:IsPair g8 g5.objs.size x y:=s8.extBut _ _ (J9 VY) (s7.extBut _ _ (J9 VY) (n9 _ rfl));have e8:g8.objs.size=g5.objs.size+1:=by rw[s8.1,s7.1,D4]
 rw[ez]at z8 t8 e8;refine K6 ⟨_,rfl,?_⟩;show Q (.ref g5.objs.size) _;rw[ez];exact k g8 z8 (go _ _ D.vz v5) (a5.keep λ o e=>go _ o D.az e) (b5.keep λ o e=>go _ o D.bz e) t8 e8 λ f o n1 n2 n3 n4 e=>go f o n1 (Tq f o n1 n2 n3 n4 e)
theorem CY{z u v b l m:ww}{xs ys:Array jp}{c d:jp}{Q:Fin->kt->Prop}(hA:A.handled=none)(k1:NK T1 S1)(k2:NK T2 S2)(D:Za z u v a b l m) (hz:IsZip s.heap z u v .none) (hu:IsPair s.heap u (.ref a) (.ref b)) (hv:IsPair s.heap v c d) (ha:dZ T1 s.heap a l i) (hb:dZ T2 s.heap b m i) (hl:S1 s.heap l xs) (hm:S2 s.heap m ys) (he:xs[i]?=none\/ys[i]?=none) (k:∀h' e,(∀f o,f≠z->f≠v->f≠a->f≠b->s.heap.get? f=some o->h'.get? f=some o)->(∃o,h'.get? e=some o/\o.cls=.type "StopIteration")->E (.ref e) {s with heap:=h'}):wpAny (model prog w) A (Builtin.«zip.__next__» ⟨[.ref z],[]⟩) Q E s:=by
 refine K5 (m:=field (.ref z) 2) (K4 hz rfl (x:=.bool false) rfl ?_);refine K5 (m:=field (.ref z) 3) (K4 hz rfl (x:=.ref u) rfl ?_);refine K5 (D3 hu rfl ?_);refine K5 (m:=Builtin.SmallTypes.ownedTupleIsFree (.ref z)) ?_;unfold Builtin.SmallTypes.ownedTupleIsFree;refine K5 (m:=field (.ref z) 0) (K4 hz rfl (x:=.none) rfl (K6 ?_));simp only[N0];refine K5 (K7 (K5 (K4 hz rfl (x:=.ref v) rfl (K5 (r9 hz (by simp) λ g1 z1 s1=>?_)))));have z1:IsZip g1 z u v .ellipsis:=z1;refine K5 ?_;simp only[zipIdx_cons,zipIdx_nil,forIn_cons,forIn_nil];have MN:=ha.keep (h':=g1) λ o e=>s1.extBut _ _ D.az e;have Rr:=k1.keep (h':=g1) hl λ o e=>s1.extBut _ _ D.lz e;refine K5 (K5 (wpAny_onRaise ?_));cases hx:xs[i]? with
 |none=>
  refine K5 (m:=Builtin.SmallTypes.nextOf (.ref a)) (k1.stop hA MN Rr hx λ g2 e s2 oe=>?_);obtain⟨ob,Lm,Qo⟩:=oe;have z2:IsZip g2 z u v .ellipsis:=s2 _ _ D.az.symm z1;have ne:e≠z:=λ q=>by subst q;rw[z2]at Lm;cases Lm;simp at Qo
  exact r9 z2 (by simp) λ g3 _ s3=>k g3 e (λ f o n1 _ n3 _ q=>s3.extBut _ _ n1 (s2 _ _ n3 (s1.extBut _ _ n1 q))) ⟨ob,s3.extBut _ _ ne Lm,Qo⟩
 |some x=>
  have hy:ys[i]?=none:=by rcases he with q|q;rw[hx]at q;cases q;exact q
  refine K5 (m:=Builtin.SmallTypes.nextOf (.ref a)) (k1.item MN Rr hx λ g2 a2 s2=>K6 ?_);have v2:IsPair g2 v c d:=s2.extBut _ _ D.va (s1.extBut _ _ D.vz hv);refine K5 (D3 v2 rfl (K5 (wpAny_updateSeq_pair v2 λ g3 v3 s3=>K5 (wpAny_letGo (K6 ?_)))));have oY:∀f o,f≠z->f≠v->f≠a->s.heap.get? f=some o->g3.get? f=some o:=λ f o n1 n2 n3 e=>s3.extBut _ _ n2 (s2.extBut _ _ n3 (s1.extBut _ _ n1 e));refine K5 (K5 (wpAny_onRaise (K5 (m:=Builtin.SmallTypes.nextOf (.ref b)) (k2.stop hA (hb.keep λ o e=>oY _ _ D.bz D.vb.symm D.ab.symm e) (k2.keep hm λ o e=>oY _ _ D.mz D.mv D.ma e) hy λ g4 e s4 oe=>?_))));obtain⟨ob,Lm,Qo⟩:=oe;have z4:IsZip g4 z u v .ellipsis:=s4 _ _ D.bz.symm (s3.extBut _ _ D.vz.symm (s2.extBut _ _ D.az.symm z1));have ne:e≠z:=λ q=>by subst q;rw[z4]at Lm;cases Lm;simp at Qo
  exact r9 z4 (by simp) λ g5 _ s5=>k g5 e (λ f o n1 n2 n3 n4 q=>s5.extBut _ _ n1 (s4 _ _ n4 (oY f o n1 n2 n3 q))) ⟨ob,s5.extBut _ _ ne Lm,Qo⟩
theorem FA{z u v a b l m:ww}{i:Nat}{xs ys:Array jp}{x y c d:jp}{Q:Option jp->kt->Prop}(k1:NK T1 S1)(k2:NK T2 S2)(D:Za z u v a b l m) (hz:IsZip s.heap z u v .none) (hu:IsPair s.heap u (.ref a) (.ref b)) (hv:IsPair s.heap v c d) (ha:dZ T1 s.heap a l i) (hb:dZ T2 s.heap b m i) (hl:S1 s.heap l xs) (hm:S2 s.heap m ys) (hx:xs[i]?=some x) (hy:ys[i]?=some y) (k:∀h',IsZip h' z u v (rawInt s.heap.objs.size)->IsPair h' v x y->dZ T1 h' a l (i+1)->dZ T2 h' b m (i+1)->IsPair h' s.heap.objs.size x y->h'.objs.size=s.heap.objs.size+1->
   (∀f o,f≠z->f≠v->f≠a->f≠b->s.heap.get? f=some o->h'.get? f=some o)->Q (some (.ref s.heap.objs.size)) {s with heap:=h'}):wpAny (model prog w) A (pyNext (.ref z)) Q E s:=by
 have ty:s.TypeIs (.ref z) "zip":=⟨_,hz,rfl⟩;unfold pyNext;refine K5 (D7 (j2 (name:=Str.ofString "__next__") ty F.slot_zip_next (A6 F.slot_zip_next ty F.entry_zip_next ?_ (F.args_zip_next_1 _))));exact AQ k1 k2 D hz hu hv ha hb hl hm hx hy λ h' a1 a2 a3 a4 a5 a6 a7=>K6 (k h' a1 a2 a3 a4 a5 a6 a7)
theorem FL{z u v b l m:ww}{xs ys:Array jp}{c d:jp}{Q:Option jp->kt->Prop}(hA:A.handled=none)(k1:NK T1 S1)(k2:NK T2 S2)(D:Za z u v a b l m) (hz:IsZip s.heap z u v .none) (hu:IsPair s.heap u (.ref a) (.ref b)) (hv:IsPair s.heap v c d) (ha:dZ T1 s.heap a l i) (hb:dZ T2 s.heap b m i) (hl:S1 s.heap l xs) (hm:S2 s.heap m ys) (he:xs[i]?=none\/ys[i]?=none) (k:∀h',(∀f o,f≠z->f≠v->f≠a->f≠b->s.heap.get? f=some o->h'.get? f=some o)->Q none {s with heap:=h'}):wpAny (model prog w) A (pyNext (.ref z)) Q E s:=by have ty:s.TypeIs (.ref z) "zip":=⟨_,hz,rfl⟩;unfold pyNext;refine K5 (D7 (j2 (name:=Str.ofString "__next__") ty F.slot_zip_next (A6 F.slot_zip_next ty F.entry_zip_next ?_ (F.args_zip_next_1 _))));refine CY hA k1 k2 D hz hu hv ha hb hl hm he λ h' e q oe=>?_;obtain⟨ob,Lm,Qo⟩:=oe;exact K5 (wpAny_isInstance (T:="StopIteration") (b:=true) ⟨ob,Lm,Qo⟩ isSubtype_stop (K6 (k _ q)))
end
abbrev yZ(T:String)(h:Heap)(l:ww):Heap:=h.push {cls:=.type T,data:=.fields #[.ref l,.int 0 0]}
abbrev RG(T1 T2:String)(h:Heap)(l m:ww):Heap:=(yZ T2 (yZ T1 h l) m).push {cls:=.type "tuple",data:=.seq #[.ref h.objs.size,.ref (yZ T1 h l).objs.size]}
abbrev RF(T1 T2:String)(h:Heap)(l m:ww):Heap:=(RG T1 T2 h l m).push {cls:=.type "tuple",data:=.seq #[.none,.none]}
abbrev Ni(T1 T2:String)(h:Heap)(l m:ww):Heap:=(RF T1 T2 h l m).push {cls:=.type "zip",data:=.fields #[.none,.bool false,.bool false,.ref (yZ T2 (yZ T1 h l) m).objs.size,.ref (RG T1 T2 h l m).objs.size]}
theorem AO{T1 T2:String}{S1 S2:Heap->ww->Array jp->Prop}(k1:NK T1 S1)(k2:NK T2 S2)(l m:ww)(xs ys:Array jp):Meets (Builtin.«zip.__new__» ⟨[.type "zip",.ref l,.ref m],[]⟩) (λ _ R s=>S1 s.heap l xs/\S2 s.heap m ys/\R (.ok (.ret (.ref (RF T1 T2 s.heap l m).objs.size))) {s with heap:=Ni T1 T2 s.heap l m}):=
 .of_wp λ prog w A R s h=>by
  obtain⟨hp,g,d,tk,os⟩:=s;obtain⟨a1,a2,h⟩:=h;have sz:=sub_zip;have b1:S1 (Shared.heap ⟨hp,g,d,tk,os⟩) l xs:=a1;have b2:S2 (Shared.heap ⟨hp.push {cls:=.type T1,data:=.fields #[.ref l,.int 0 0]},g,d,tk,os⟩) m ys:=k2.keep a2 λ o e=>j7 _ e
  wp_walk using k1.start b1,k2.start b2
  exact⟨_,rfl,h⟩
theorem Pz{prog:Program}{w:World}{A:Around}{E:jp->kt->Prop}{s:kt}{T1 T2:String}{S1 S2:Heap->ww->Array jp->Prop}(k1:NK T1 S1)(k2:NK T2 S2){l m:ww}{xs ys:Array jp}{Q:jp->kt->Prop}(a1:S1 s.heap l xs)(a2:S2 s.heap m ys) (k:∀h',IsZip h' (s.heap.objs.size+4) (s.heap.objs.size+2) (s.heap.objs.size+3) .none->IsPair h' (s.heap.objs.size+2) (.ref s.heap.objs.size) (.ref (s.heap.objs.size+1))->IsPair h' (s.heap.objs.size+3) .none .none->
   dZ T1 h' s.heap.objs.size l 0->dZ T2 h' (s.heap.objs.size+1) m 0->h'.objs.size=s.heap.objs.size+5->(∀f o,s.heap.get? f=some o->h'.get? f=some o)->Q (.ref (s.heap.objs.size+4)) {s with heap:=h'}):
  wpAny (model prog w) A (call (.type "zip") [.ref l,.ref m]) Q E s:=by
 refine callType_new F.called_zip (by decide) (F.typeCall_zip_2 _ _) (F.newCall_zip_2 _ _) (λ ob=>F.args_object_init_3 ob _ _) F.entry_zip_new (AO k1 k2 l m xs ys) ⟨a1,a2,?_⟩;have e1:(yZ T1 s.heap l).objs.size=s.heap.objs.size+1:=D4 ..;have e2:(yZ T2 (yZ T1 s.heap l) m).objs.size=s.heap.objs.size+2:=by rw[D4,e1]
 have e3:(RG T1 T2 s.heap l m).objs.size=s.heap.objs.size+3:=by rw[D4,e2]
 have e4:(RF T1 T2 s.heap l m).objs.size=s.heap.objs.size+4:=by rw[D4,e3]
 have e5:(Ni T1 T2 s.heap l m).objs.size=s.heap.objs.size+5:=by rw[D4,e4]
 have up1:∀f o,(RF T1 T2 s.heap l m).get? f=some o->(Ni T1 T2 s.heap l m).get? f=some o:=λ f o e=>j7 _ e;have Ze:∀f o,(RG T1 T2 s.heap l m).get? f=some o->(Ni T1 T2 s.heap l m).get? f=some o:=λ f o e=>up1 f o (j7 _ e);have Zd:∀f o,(yZ T2 (yZ T1 s.heap l) m).get? f=some o->(Ni T1 T2 s.heap l m).get? f=some o:=λ f o e=>Ze f o (j7 _ e);have Zc:∀f o,(yZ T1 s.heap l).get? f=some o->(Ni T1 T2 s.heap l m).get? f=some o:=λ f o e=>Zd f o (j7 _ e);have g5:(Ni T1 T2 s.heap l m).get? (RF T1 T2 s.heap l m).objs.size=some _:=n9 _ rfl;have g4:=up1 _ _ (n9 (RG T1 T2 s.heap l m) rfl);have g3:=Ze _ _ (n9 (yZ T2 (yZ T1 s.heap l) m) rfl);have g2:=Zd _ _ (n9 (yZ T1 s.heap l) rfl);have g1:=Zc _ _ (n9 (s.heap) rfl);show _/\_;rw[e2,e3,e4]at g5;rw[e1,e2]at g3;rw[e3]at g4;rw[e1]at g2;rw[e4];exact⟨⟨_,g5,rfl⟩,k _ g5 g3 g4 ⟨_,g1,rfl,rfl⟩ ⟨_,g2,rfl,rfl⟩ e5 λ f o x=>Zc f o (j7 _ x)⟩
end L5
namespace L2
open PySem.Spec PyProof.Rows
open HT (lexLt cK d_ dB dC oC)
open PySem.SeqAt PySem.MeetsSeq PySem.MeetsSeq2 PySem.MeetsSeq3 PySem.SeqRoads2
open PySem.AutoSeq1 (wpAny_loadPart')
theorem tR{vs:List jp}(h:IntsAre vs ns)(hi:i < ns.length):∃t,vs[i]?=some (.int ns[i] t):=by
 induction h generalizing i with
 |nil=>simp at hi
 |cons n t h ih=>
  cases i with
  |zero=>exact⟨t,rfl⟩
  |succ i=>obtain⟨t',e⟩:=ih (i:=i) (by simpa using hi);exact⟨t',by simpa using e⟩
theorem KI(l b:ww)(xs ys:Array jp)(n k:Nat)(dd ee:Option ww)(sl tl:Array (Option jp))(ns ms:List Int)(hi:IntsAre xs.toList ns)(hj:IntsAre ys.toList ms)(f:Nat):∀i:Nat,ns.length - i=f->Meets (Builtin.«list.__eq__.loop» ⟨[.ref l,.ref b,rawInt i,rawInt 0],[]⟩)
   (λ A R s=>s.heap.get? l=some {cls:=.type "list",dict:=dd,data:=.seq xs n,slots:=sl}/\s.heap.get? b=some {cls:=.type "list",dict:=ee,data:=.seq ys k,slots:=tl}/\i<=ns.length/\i<=ms.length/\
    R (.ok (.ret (.bool (lexLt (ns.drop i) (ms.drop i))))) s):=by
 have z1:xs.size=ns.length:=by rw[<- hi.length];simp
 have z2:ys.size=ms.length:=by rw[<- hj.length];simp
 induction f with
 |zero=>
  intro i hf prog w A R s h;obtain⟨hp,g,d,tk,os⟩:=s;obtain⟨hl,hb,i1,i2,h⟩:=h
  wp_walk using B5 hl,B5 hb
  have e1:xs[((i:Nat):Int).toNat]?=none:=by simp;omega
  have d1:ns.drop i=[]:=by simp;omega
  rw[d1]at h;rw[e1];have fin:R (.ok (.ret (.bool (decide (xs.size < ys.size))))) ⟨hp,g,d,tk,os⟩:=by
   have q:lexLt [] (ms.drop i)=decide (xs.size < ys.size):=by
    cases e:ms.drop i with
    |nil=>
     have:ms.length<=i:=by simpa using e
     rw[d_];exact(B4 (by omega)).symm
    |cons c r=>
     have:i < ms.length:=by refine Nat.lt_of_not_le λ z=>?_;rw[j5 z]at e;cases e
     rw[dB];exact(D1 (by omega)).symm
   rw[<- q];exact h
  wp_walk using B5 hl,B5 hb
  exact fin
 |succ f ih=>
  intro i hf prog w A R s h;obtain⟨hp,g,d,tk,os⟩:=s;obtain⟨hl,hb,i1,i2,h⟩:=h;have a1:i < ns.length:=by omega
  obtain⟨t,e1⟩:=tR hi a1;have e1:xs[((i:Nat):Int).toNat]?=some (.int ns[i] t):=by simpa using e1
  by_cases a2:i < ms.length
  ·obtain⟨u,e2⟩:=tR hj a2;have e2:ys[((i:Nat):Int).toNat]?=some (.int ms[i] u):=by simpa using e2
   rw[i4 a1,i4 a2,cK]at h
   wp_walk using B5 hl,B5 hb
   rw[e1,e2];refine K5 (EqAt.int_int ns[i] t ms[i] u prog w _ _ ?_);have cc:((i:Int)+1)=((i+1:Nat):Int):=by push_cast;rfl
   by_cases q:ns[i]=ms[i]
   ·rw[N3 q]at h;have qb:(ns[i]==ms[i])=true:=by simp[q]
    rw[qb]
    wp_walk
    rw[cc];exact⟨plainId_quiet plain_eq_loop _,codeAny_builtin entry_eq_loop (by rw[l9 plain_eq_loop _];exact ih (i+1) (by omega) prog w A R _ ⟨hl,hb,by omega,by omega,h⟩)⟩
   ·rw[N4 q]at h;have qb:(ns[i]==ms[i])=false:=by simp[q]
    rw[qb];have rl:=oC A.in1 ⟨hp,g,d,tk,os⟩ ns[i] t ms[i] u prog w
    wp_walk using B5 hl,B5 hb
    rw[e1,e2]
    wp_walk using rl
    exact h
  ·have e2:ys[((i:Nat):Int).toNat]?=none:=by simp;omega
   have d2:ms.drop i=[]:=by simp;omega
   rw[i4 a1,d2,dC]at h
   wp_walk using B5 hl,B5 hb
   rw[e1,e2]
   wp_walk using B5 hl,B5 hb
   have q:decide (xs.size < ys.size)=false:=B4 (by omega);show R (.ok (.ret (.bool (decide (xs.size < ys.size))))) _;rw[q];exact h
theorem vG(l b:ww)(xs ys:Array jp)(n k:Nat)(dd ee:Option ww)(sl tl:Array (Option jp))(ns ms:List Int)(hi:IntsAre xs.toList ns)(hj:IntsAre ys.toList ms):
  Meets (Builtin.«list.__lt__» ⟨[.ref l,.ref b],[]⟩) (λ A R s=>s.heap.get? l=some {cls:=.type "list",dict:=dd,data:=.seq xs n,slots:=sl}/\s.heap.get? b=some {cls:=.type "list",dict:=ee,data:=.seq ys k,slots:=tl}/\
    R (.ok (.ret (.bool (lexLt ns ms)))) s):=by
 intro prog w A R s h;obtain⟨hp,g,d,tk,os⟩:=s;obtain⟨hl,hb,h⟩:=h;have f3:=AutoSeq1.sub_list_list
 wp_walk using B5 hl,B5 hb
 exact⟨plainId_quiet plain_eq_loop _,codeAny_builtin entry_eq_loop (by rw[l9 plain_eq_loop _];exact KI l b xs ys n k dd ee sl tl ns ms hi hj _ 0 rfl prog w A R _ ⟨hl,hb,K3 _,K3 _,h⟩)⟩
theorem FG{l b:ww}{xs ys:Array jp}{ms:List Int}(hl:s.heap.IsList l xs)(hb:s.heap.IsList b ys)(hi:IntsAre xs.toList ns)(hj:IntsAre ys.toList ms) (hu:A.units < cLine) (h:Q (.bool (lexLt ns ms)) s):wpAny (model prog w) A (compareOp .Lt (.ref l) (.ref b)) Q E s:=by
 obtain⟨⟨c1,dd,da,sl⟩,o1,k1,n,d1⟩:=id hl;obtain⟨⟨c2,ee,db,tl⟩,o2,k2,m,d2⟩:=id hb;simp only at k1 d1 k2 d2;subst k1 d1 k2 d2;exact richCompare_meets_room (op:=.Lt) ⟨_,o1,rfl⟩ ⟨_,o2,rfl⟩ PySem.F.slot_list_lt PySem.F.entry_list_lt (PySem.F.args_list_lt_2 _ _) (vG l b xs ys n m dd ee sl tl ns ms hi hj)
  ⟨o1,o2,show Value.bool (lexLt ns ms)≠Value.notImplemented/\Q (.bool (lexLt ns ms)) s from⟨(λ x=>nomatch x),h⟩⟩ hu
open PySem.Spec PyProof.Rows L5
def Sq(b:Bool)(K:N5)(H:Hp)(a:ww)(xs:List V):Prop:=match b with
 |true=>gh K H a xs
 |false=>dr K H a xs
def Vj(b:Bool):String:=match b with
 |true=>"tuple_iterator"
 |false=>"list_iterator"
def yy(b:Bool):Heap->ww->Array jp->Prop:=match b with
 |true=>Heap.IsTuple
 |false=>Heap.IsList
theorem jZ:∀b,NK (Vj b) (yy b)
 |true=>vv
 |false=>Kw
section
variable {v:ww}{ys:List V}
theorem ff(I:be X xz σ H s):∀{b:Bool},Sq b X.K H a xs->∃ay:List jp,cr xs ay/\yy b s.heap a ay.toArray
 |true,h=>let⟨ay,r,p,_⟩:=I.tuple h;⟨ay,r,p⟩
 |false,h=>let⟨ay,r,p,_⟩:=I.list h;⟨ay,r,p.isList⟩
theorem xF(I:be X xz σ H s):∀{b:Bool},Sq b X.K H a xs->Sq b X.K H a ys->xs=ys
 |true,h,q=>I.qQ h q
 |false,h,q=>I.vF h q
theorem zx{u:HO}(h:Rd H a u):∃o,H a=some o:=by
 rcases h with h|⟨o,h⟩
 ·exact⟨_,h⟩
 ·exact⟨_,h⟩
theorem DA:∀{b:Bool} {K:N5},Sq b K H a xs->(∃o,H a=some o)\/∃o,K.lookup a=some o
 |true,K,h=>by
  rcases h with h|⟨o,ay,n,hk,_⟩
  ·exact .inl (zx h)
  ·exact .inr ⟨o,hk⟩
 |false,K,h=>by
  rcases h with h|⟨o,ay,n,hk,_⟩
  ·exact .inl (zx h)
  ·exact .inr ⟨o,hk⟩
theorem ij(I:be X xz σ H s)(f:ic X xz H v)(h:Sq b X.K H a xs):a≠v:=λ e=>by
 subst e;rcases DA h with⟨o,q⟩|⟨o,q⟩
 ·rw[f.1]at q;cases q
 ·have q:=I.ok.mod.Rm a o q;rcases f.2.2.2.1 with z|z
  ·exact I.ok.yf a o q z
  ·exact absurd (u3 (G7 q) (H9 I.ok.CV z)) (D9 _)
theorem lS(I:be X xz σ H s)(k:∀b o,b∉ch->s.heap.get? b=some o->h'.get? b=some o)(hf:∀b∈ch,ic X xz H b):be X xz σ H {s with heap:=h',toks:=t'}:=by
 have Ti:∀b u,H b=some u->b∉ch:=λ b u e z=>by rw[(hf b z).1]at e;cases e
 refine I.step (g':=s.gens) (d':=s.drawn) (ch:=ch) (λ b hb=>?_) (λ b o _ _ hc e _=>k b o hc e) (λ b o _ _ hc e _=>⟨o.slots,k b o hc e⟩) (λ _ _ _ _ n=>n)
  (λ b o hc e=>⟨o,k b o hc e⟩) (λ _ _ e=>e) (λ _ _ _ e=>e) (λ b ps e=>⟨#[],by rw[e];simp⟩) (λ m hm=>?_) (λ b u e=>?_) I.bare
 ·obtain⟨f0,f1,f2,f3,f4,f5⟩:=hf b hb;exact⟨f3,f1,f4,f5⟩
 ·obtain⟨o,es,ep,ho,r⟩:=hm;exact⟨o,es,ep,k _ o (λ z=>(hf _ z).2.1 rfl) ho,r⟩
 ·refine(I.bj b u e).fb (λ c v hc q=>k c v ?_ q) (λ _ q=>q) λ _ _ q=>q;rcases hc with z|z
  ·rw[z];exact Ti b u e
  ·exact Ti c _ z
end
def Wi(K:N5)(b1 b2:Bool)(l m:ww):It:=
 ⟨λ i H=>∃xs ys x y,Sq b1 K H l xs/\Sq b2 K H m ys/\xs[i]?=some x/\ys[i]?=some y,
  λ i H v H'=>∃(p:ww) (x y:V),H p=none/\v=.ref p/\H'=dl H p (.tup [x,y])/\(∀xs,Sq b1 K H l xs->xs[i]?=some x)/\∀ys,Sq b2 K H m ys->ys[i]?=some y,
  λ i H=>∃xs ys,Sq b1 K H l xs/\Sq b2 K H m ys/\(xs.length<=i\/ys.length<=i)⟩
structure Zb(z u v a b:ww):Prop where
 uz:u≠z
 vz:v≠z
 az:a≠z
 bz:b≠z
 uv:u≠v
 ua:u≠a
 ub:u≠b
 va:v≠a
 vb:v≠b
 ab:a≠b
def tnZ(b1 b2:Bool)(z u v a b l m:ww)(i:Nat)(h:Heap):Prop:=IsZip h z u v .none/\IsPair h u (.ref a) (.ref b)/\(∃c d,IsPair h v c d)/\dZ (Vj b1) h a l i/\dZ (Vj b2) h b m i
theorem Me{b1 b2:Bool}{z u v b l m:ww}{ys:List V}(I:be X xz σ H s)(B:Zb z u v a b)(hf:∀c∈[z,u,v,a,b],ic X xz H c)(hl:Sq b1 X.K H l xs)(hm:Sq b2 X.K H m ys):Za z u v a b l m:=
 ⟨B.uz,B.vz,B.az,B.bz,B.uv,B.ua,B.ub,B.va,B.vb,B.ab,ij I (hf z (by simp)) hl,ij I (hf v (by simp)) hl,ij I (hf a (by simp)) hl,ij I (hf b (by simp)) hl,
  ij I (hf z (by simp)) hm,ij I (hf v (by simp)) hm,ij I (hf a (by simp)) hm,ij I (hf b (by simp)) hm⟩
theorem Dt{k0}(b1 b2:Bool){z u v b:ww}(B:Zb z u v a b)(l m:ww):Turn P w K (.Tuple es k0 pos) (Wi K b1 b2 l m) [z,u,v,a,b] z (tnZ b1 b2 z u v a b l m) where
 mem:=by simp
 obj:=λ i h st c hc=>by
  obtain⟨hz,hu,⟨x,y,hv⟩,⟨oa,ha,_,da⟩,⟨ob,hb,_,db⟩⟩:=st;rcases G0.mp hc with rfl|hc
  ·exact⟨_,hz,λ v z=>by cases z⟩
  rcases G0.mp hc with rfl|hc
  ·exact⟨_,hu,λ v z=>by cases z⟩
  rcases G0.mp hc with rfl|hc
  ·exact⟨_,hv,λ v z=>by cases z⟩
  rcases G0.mp hc with rfl|hc
  ·exact⟨_,ha,λ v z=>by rw[da]at z;cases z⟩
  rcases G0.mp hc with rfl|hc
  ·exact⟨_,hb,λ v z=>by rw[db]at z;cases z⟩
  ·cases hc
 keep:=λ i h h' st q=>by obtain⟨hz,hu,⟨x,y,hv⟩,ha,hb⟩:=st;exact⟨q z (by simp) _ hz,q u (by simp) _ hu,⟨x,y,q v (by simp) _ hv⟩,ha.keep λ o e=>q a (by simp) o e,hb.keep λ o e=>q b (by simp) o e⟩
 item:=by
  intro X hP hw hK hc i xz s σ H E I hf st hg;subst hP hw hK;obtain⟨xs,ys,x,y,hl,hm,hx,hy⟩:=hg;obtain⟨hz,hu,⟨c,d,hv⟩,ha,hb⟩:=st;obtain⟨Qa,r1,p1⟩:=ff I hl;obtain⟨V1,r2,p2⟩:=ff I hm;obtain⟨u1,e1,q1⟩:=r1.get hx;obtain⟨u2,e2,q2⟩:=r2.get hy;have D:=Me I B hf hl hm;refine FA (jZ b1) (jZ b2) D hz hu hv ha hb p1 p2 (x:=u1) (y:=u2) (by simpa using e1) (by simpa using e2) λ g g1 g2 g3 g4 g5 g6 g7=>?_;have hn:H s.heap.objs.size=none:=I.bj.fresh (K1 _);have yz:∀c∈[z,v,a,b],ic X xz H c:=λ c hc=>hf c (by simp at hc ⊢;rcases hc with rfl|rfl|rfl|rfl <;> simp);have I1:be X xz σ H {s with heap:=g}:=lS (t':=s.toks) I (λ c o hc e=>g7 c o (λ z=>hc (by simp[z])) (λ z=>hc (by simp[z])) (λ z=>hc (by simp[z])) (λ z=>hc (by simp[z])) e) yz;refine⟨_,rfl,wpAny_letOwnedTupleGo_zip (s:={s with heap:=g}) g1 λ g' z' sb=>?_⟩;have I2:be X xz σ H {s with heap:=g'}:=lS (s:={s with heap:=g}) (t':=s.toks) (ch:=[z]) I1 (λ c o hc e=>sb.extBut _ _ (λ z=>hc (by simp[z])) e) (λ c hc=>yz c (by simp at hc ⊢;exact .inl hc));have fo:=I.lB (H':=H) (K1 s.heap.objs.size) hn;have VY:z < s.heap.objs.size:=G7 hz;have t5:IsPair g' s.heap.objs.size u1 u2:=sb.extBut _ _ (J9 VY) g5;have I3:be X xz σ (dl H s.heap.objs.size (.tup [x,y])) {s with heap:=g'}:=be.uP I2 hn ⟨show 2<=sizeLine by decide,[u1,u2],.cons q1 (.cons q2 .nil),⟨_,t5,rfl,_,rfl⟩⟩ fo.2.1 (H9 I.sz (K1 _)) fo.2.2.2.2.1 fo.2.2.2.2.2;refine⟨.ref s.heap.objs.size,_,I3,rfl,⟨s.heap.objs.size,x,y,hn,rfl,rfl,λ y_ h'=>by rw[xF I h' hl];exact hx,λ RH h'=>by rw[xF I h' hm];exact hy⟩,?_,λ c hc=>?_⟩
  ·exact⟨z',sb.extBut _ _ B.uz (g7 _ _ B.uz B.uv B.ua B.ub hu),⟨_,_,sb.extBut _ _ B.vz g2⟩,g3.keep λ o e=>sb.extBut _ _ B.az e,g4.keep λ o e=>sb.extBut _ _ B.bz e⟩
  ·have kH:∀c∈[z,u,v,a,b],c < s.heap.objs.size:=λ c hc=>by
    obtain⟨_,qa,_⟩:=ha;obtain⟨_,qb,_⟩:=hb;simp at hc;rcases hc with rfl|rfl|rfl|rfl|rfl
    ·exact G7 hz
    ·exact G7 hu
    ·exact G7 hv
    ·exact G7 qa
    ·exact G7 qb
   rw[aB (G6 (kH c hc))];exact(hf c hc).1
 done:=by
  intro X hP hw hK hc i xz s σ H E I hf st hg;subst hP hw hK;obtain⟨xs,ys,hl,hm,he⟩:=hg;obtain⟨hz,hu,⟨c,d,hv⟩,ha,hb⟩:=st;obtain⟨Qa,r1,p1⟩:=ff I hl;obtain⟨V1,r2,p2⟩:=ff I hm;have D:=Me I B hf hl hm;have l1:=r1.length;have l2:=r2.length;refine FL (I.ok.hd hc) (jZ b1) (jZ b2) D hz hu hv ha hb p1 p2 ?_ λ g g7=>⟨rfl,lS (t':=s.toks) (ch:=[z,v,a,b]) I (λ c o hc e=>g7 c o (λ z=>hc (by simp[z])) (λ z=>hc (by simp[z])) (λ z=>hc (by simp[z])) (λ z=>hc (by simp[z])) e) λ c hc=>hf c (by simp at hc ⊢;rcases hc with rfl|rfl|rfl|rfl <;> simp)⟩;rcases he with q|q
  ·exact .inl (by simp;omega)
  ·exact .inr (by simp;omega)
 self:=λ _ _ _ _ _ st h=>wpAny_pyIter_zip st.1 h
section
variable {k0:_}{a b:Expr}{ta:TA}{p:Pos}
def XN(K:N5)(ta:TA):TI:=λ σ H R=>ta σ H λ vs H1=>∃(b1 b2:Bool) (l m:ww),vs=[.ref l,.ref m]/\(∃xs,Sq b1 K H1 l xs)/\(∃ys,Sq b2 K H1 m ys)/\R (Wi K b1 b2 l m) H1
theorem O1(hg:Gl X "zip")(hm:X.mg "zip"=none)(ha:PA X [a,b] ta)(hs:starEach [a,b] X.env=[(false,eval a X.env),(false,eval b X.env)]:=by rfl)(mH:starEach [b] X.env=[(false,eval b X.env)]:=by rfl):PI X (.Tuple es k0 e_) (.Call (.Name "zip" p) [a,b] [] pos) (XN X.K ta):=by
 intro xz s σ H R I h;refine Call_ (iD I hg hm boot_zip (c5 (cm (ha pos xz s σ H _ I h) λ us s1 ⟨vs,H1,I1,r1,q1⟩=>?_) (by rw[hs,mH]) (by rw[mH];rfl)));obtain⟨b1,b2,l,m,e,⟨xs,hl⟩,⟨ys,hm⟩,q⟩:=q1;subst e;obtain⟨u1,u2,rfl,r,r'⟩:=vals2 r1;cases(show u1=Value.ref l from r);cases(show u2=Value.ref m from r');obtain⟨Qa,r1,p1⟩:=ff I1 hl;obtain⟨V1,r2,p2⟩:=ff I1 hm;refine Pz (jZ b1) (jZ b2) p1 p2 λ g g1 g2 g3 g4 g5 g6 g7=>wpAny_pyIter_zip (s:={s1 with heap:=g}) g1 ?_;have I2:be X xz σ H1 {s1 with heap:=g}:=I1.kept (t':=s1.toks) g7;have fr:∀c,s1.heap.objs.size<=c->ic X xz H1 c:=λ c hc=>I1.lB hc (I1.bj.fresh hc);refine⟨_,[s1.heap.objs.size+4,s1.heap.objs.size+2,s1.heap.objs.size+3,s1.heap.objs.size,s1.heap.objs.size+1],_,_,H1,rfl,I2,Dt b1 b2 ⟨?_,?_,?_,?_,?_,?_,?_,?_,?_,?_⟩ l m,⟨g1,g2,⟨_,_,g3⟩,g4,g5⟩,λ c hc=>fr c ?_,q⟩
 any_goals (show(_:Nat)≠_;omega)
 simp at hc;rcases hc with rfl|rfl|rfl|rfl|rfl <;> omega
end
end L2
namespace L3
open PySem.Spec L2 L5
def nH(ds es:List D):List D:=(ds.zip es).map λ p=>D.tup [p.1,p.2]
theorem CZ(ds es:List D):(nH ds es).length=min ds.length es.length:=by simp[nH]
end L3
namespace L5
open PySem.W PySem.Calls PyProof.Rows
theorem ME{lt:Nat->Nat->Bool}{κ:SortKind}{ks:List jp}{Q:α->kt->Prop}(hc:∀i j C,i < n->j < n->C (lt i j) s->wpAny (model prog w) A (keyLt' κ (ks.getD i Value.none) (ks.getD j Value.none)) C (λ _ _=>False) s):∀(t:KasT α),kw n lt t (λ a=>Q a s)->t.kasWp (kas_ask prog w A κ ks) Q s
 | .ret a,h=>h
 | .ask i j k,h=>hc i j _ h.1 h.2.1 (ME hc (k (lt i j)) h.2.2)
def Out{α:Type}(lt:Nat->Nat->Bool)(vs:List α)(d:α)(out:List α):Prop:=∃p:Array Nat,Pm vs.length p/\Up lt p vs.length/\out=p.toList.map λ i=>vs.getD i d
theorem Ka{lt:Nat->Nat->Bool}(O:Ord lt){vs:List α}(d:α)(h:vs.length < 2):Out lt vs d vs:=by
 refine⟨List.toArray (List.range vs.length),Array.Perm.refl _,λ i j rE hj=>?_,?_⟩
 ·have:i=j:=by omega
  subst this;exact O.refl _
 ·match vs,h with
  |[],_=>rfl
  |[v],_=>rfl
theorem zY{kS:ww}{e e1:Nat}{ks out:List jp}{st:SortSt}{P:PySem.Fin->kt->Prop}(hk:s.heap.get? kS=some (seqObj "list" (List.toArray ks) e))(ha:s.heap.get? a=some (seqObj "list" #[] e1))(eh:a≠kS)(hkz:ks.length < 64)(hoz:out.length < 64)
  (ho:(arrOf st).map (·.2)=List.toArray out) (hf:failedOf st=none)
  (h:∀h' c,h'.get? a=some (seqObj "list" (List.toArray out) c)->(∀b o,b≠a->b≠kS->s.heap.get? b=some o->h'.get? b=some o)->P (.done (.ret .none)) {s with heap:=h'}):wpAny (model prog w) A (ksk_tail a false e1 (.ref kS) st) P E s:=by
 unfold ksk_tail
 try dsimp only
 rw[ho];have s1:=m9 s.heap kS (Obj.mapSeq λ _=>(#[]:Array jp));have a1:(s.heap.update kS (Obj.mapSeq λ _=>(#[]:Array jp))).get? a=some (seqObj "list" #[] e1):=(s1.2 a eh).trans ha;have s2:=m9 (s.heap.update kS (Obj.mapSeq λ _=>(#[]:Array jp))) a (Obj.mapSeq λ _=>List.toArray out);refine K5 (listUpdate_at hk rfl (K5 (wpAny_letGo (K5 (seqEpoch_at a1 rfl (K5 (listUpdate_at a1 rfl ?_ (K3 _) ?_)))))) (by rw[y9,K2];omega) (K3 _))
 ·rw[hf];simp only[bne_self_eq_false,q9,L7];exact K6 (h _ _ (get?_update_seq a1 λ _=>List.toArray out) λ b o b1 b2 q=>(s2.2 b b1).trans ((s1.2 b b2).trans q))
 ·simp only[q9,L7];rw[y9,K2];omega
theorem PJ{kS:ww}{e e1:Nat}{ks vs:List jp}{κ:SortKind}{lt:Nat->Nat->Bool}{P:PySem.Fin->kt->Prop}(O:Ord lt)(hl:ks.length=vs.length)(HW:vs.length < 64)(hk:s.heap.get? kS=some (seqObj "list" (List.toArray ks) e))(ha:s.heap.get? a=some (seqObj "list" #[] e1))(eh:a≠kS)
  (Gv:2<=vs.length->∀C:SortKind->kt->Prop,C κ s->wpAny (model prog w) A (keyKind' (List.toArray ks)) C E s)
  (hc:2<=vs.length->∀i j C,i < vs.length->j < vs.length->C (lt i j) s->wpAny (model prog w) A (keyLt' κ (ks.getD i Value.none) (ks.getD j Value.none)) C (λ _ _=>False) s)
  (h:∀out h' c,Out lt vs Value.none out->h'.get? a=some (seqObj "list" (List.toArray out) c)->(∀b o,b≠a->b≠kS->s.heap.get? b=some o->h'.get? b=some o)->P (.done (.ret .none)) {s with heap:=h'}):
  wpAny (model prog w) A (ksk_end a false vs.toArray e1 (.ref kS) (List.toArray ks)) P E s:=by
 unfold ksk_end
 try dsimp only
 simp only[q9,L7];by_cases h2:vs.length < 2
 ·have z2:vs.toArray.size < 2:=by rw[y9];exact h2
  rw[N3 z2,N3 z2];refine K5 (K6 (K5 ?_));rw[StateT.run_pure];refine K6 ?_;refine zY hk ha eh (by omega) HW (st:=SortSt.mk' general' ((List.toArray ks).zip vs.toArray) #[] 7 none) ?_ rfl λ h' c a1 a2=>h vs h' c (Ka O _ h2) a1 a2;show((List.toArray ks).zip vs.toArray).map (·.2)=_;apply Array.toList_inj.mp;simp;exact map_snd_zip (by omega)
 ·have z2:¬vs.toArray.size < 2:=by rw[y9];exact h2
  rw[N4 z2,N4 z2];refine K5 (Gv (by omega) _ ?_);refine K5 (K9 (kat_run (Q:=λ xa s'=>s'=s/\∃p:Array Nat,p.size=vs.length/\arrOf xa=p.map (kas_item ((List.toArray ks).zip vs.toArray))/\failedOf xa=none/\Pm vs.length p/\Up lt p vs.length)
   (G:=λ p s'=>s'=s/\Pm vs.length p/\Up lt p vs.length) hl (by omega) HW (λ p xa s' a1 a2 a3 a4=>⟨a4.1,p,a1,a2,a3,a4.2⟩) (ME (hc (by omega)) _ (KQ O (by omega) λ p p1 p2=>⟨rfl,p1,p2⟩))) ?_ λ _ _ x=>x)
  rintro⟨⟨⟩,xa⟩ s' ⟨rfl,p,hp,har,hf,p1,p2⟩
  try dsimp only
  refine zY hk ha eh (by omega) ?_ (kat_snds hl har) hf λ h' c a1 a2=>h _ h' c ⟨p,p1,p2,rfl⟩ a1 a2;rw[C2,n6,hp];exact HW
theorem zZ{kS q:ww}{body:jp->PUnit->Sem (ForInStep PUnit)}{vs:List jp} (hb:∀x ks e (s:kt),J ks e s->vs[ks.length]?=some x->wpAny (model prog w) A (body x ⟨⟩) (λ r s'=>r=.yield ⟨⟩/\∃k c,J (ks++[k]) c s') E s):∀(r ks:List jp) (e:Nat) (s:kt),vs.drop ks.length=r->ks.length<=vs.length->J ks e s->
   wpAny (model prog w) A (forIn r PUnit.unit body) (λ _ s'=>∃ks e,ks.length=vs.length/\J ks e s') E s
 |[],ks,e,s,hr,hl,h=>by rw[forIn_nil];exact K6 ⟨ks,e,C5 hl (by simpa using hr),h⟩
 |x::r,ks,e,s,hr,hl,h=>by
  rw[forIn_cons];have kH:ks.length < vs.length:=by refine Nat.lt_of_not_le λ z=>?_;rw[j5 z]at hr;cases hr
  rw[i4 kH]at hr;injection hr with e1 e2
  refine K5 (K9 (hb x ks e s h (by rw[i8 kH,e1])) (λ y s' hy=>?_) λ _ _ z=>z);obtain⟨rfl,k,c,h2⟩:=hy;exact zZ (kS:=kS) (q:=q) hb r (ks++[k]) c s' (by rw[q8,k8];exact e2) (by rw[q8,k8];omega) h2
theorem KR{a kS q:ww}{e1:Nat}{vs:List jp}{P:PySem.Fin->kt->Prop}(HW:vs.length < 64)(hJ:∀ks e s,J ks e s->s.heap.get? kS=some (seqObj "list" (List.toArray ks) e)/\ks.length<=vs.length)
  (Uo:∀x ks e (s:kt),J ks e s->vs[ks.length]?=some x->wpAny (model prog w) A (call (.ref q) [x]) (λ k s'=>s'.heap.get? kS=some (seqObj "list" (List.toArray ks) e)/\∀h' c,h'.get? kS=some (seqObj "list" (List.toArray (ks++[k])) c)->Heap.SameBut kS s'.heap h'->J (ks++[k]) c {s' with heap:=h'}) (λ _ _=>False) s)
  (h0:J [] 0 s) (Ym:∀ks e s,J ks e s->ks.length=vs.length->wpAny (model prog w) A (ksk_end a false vs.toArray e1 (.ref kS) (List.toArray ks)) P E s):wpAny (model prog w) A (ksk_rest a (.ref q) false vs.toArray e1 (.ref kS)) P E s:=by
 unfold ksk_rest;refine K5 (K7 ?_)
 first
  |rw[List.forIn_toArray]
  |(rw[<- w6];simp only[List.toList_toArray])
  |rw[<- w6]
 refine K5 (K9 (zZ (kS:=kS) (q:=q) (J:=J) (vs:=vs) (λ x ks e s' hj hx=>?_) vs [] 0 s rfl (K3 _) h0) (λ _ s' hd=>?_) λ _ _ x=>x)
 ·refine K5 (D7 (K9 (Uo x ks e s' hj hx) (λ k Sb hk=>?_) λ _ _ hF=>hF.elim));obtain⟨k1,k2⟩:=hk;have hz:=(hJ ks e s' hj).2;have s1:=m9 Sb.heap kS (Obj.mapSeq (·.push k));have ea:(List.toArray ks).push k=List.toArray (ks++[k]):=by simp
  try dsimp only
  refine K5 (listUpdate_at k1 rfl (K6 ⟨rfl,k,_,k2 _ _ (by rw[<- ea];exact get?_update_seq k1 (·.push k)) s1⟩) (by rw[y9,K2];omega) (H9 (J0 (Array.size_push ..)) (by rw[y9,K2];omega)))
 ·obtain⟨ks,e,hl,hj⟩:=hd
  try dsimp only
  exact K5 (listItems_at (hJ ks e s' hj).1 rfl (Ym ks e s' hj hl))
end L5
namespace L2
open PySem.Spec PyProof.Rows L5 PySem.W
open HT (lexLt cK d_ dB dC)
theorem fj{h:Heap}:∀{vs:List jp} {ns:List Int},IntsAre vs ns->ReadsAll h vs (ns.map PyData.int) []
 |_,_,.nil=>ReadsAll.nil
 |_,_,.cons n t r=>ReadsAll.cons (Reads.int n t) (fj r)
abbrev Ky:=Int×List Int
def klt(a b:Ky):Bool:=if a.1=b.1 then lexLt a.2 b.2 else decide (a.1 < b.1)
theorem zU:∀a:List Int,lexLt a a=false
 |[]=>rfl
 |x::a=>by rw[cK,N3 rfl];exact zU a
theorem vH:∀a b:List Int,lexLt a b=true->lexLt b a=false
 |[],[],h=>by cases h
 |[],_::_,_=>rfl
 |_::_,[],h=>by cases h
 |x::a,y::b,h=>by
  rw[cK]at h ⊢;by_cases e:x=y
  ·rw[N3 e]at h;rw[N3 e.symm];exact vH a b h
  ·rw[N4 e]at h;rw[N4 (L9 e)];have:=of_decide_eq_true h;exact B4 (by omega)
set_option tactic.hygienic true in
theorem FH:∀a b c:List Int,lexLt a b=false->lexLt b c=false->lexLt a c=false
 |_,_::_,[],_,_=>by rename_i a _ _ _ _;cases a <;> rfl
 |[],[],c,_,h=>h
 |_::_,[],[],_,_=>rfl
 |_::_,[],_::_,_,h=>by cases h
 |[],_::_,_::_,h,_=>by cases h
 |x::a,y::b,z::c,h,g=>by
  rw[cK]at h g ⊢;by_cases e:x=y
  ·rw[N3 e]at h;subst e;by_cases e2:x=z
   ·rw[N3 e2]at g ⊢;exact FH a b c h g
   ·rw[N4 e2]at g ⊢;exact g
  ·rw[N4 e]at h;have h:=u9 h;by_cases e2:y=z
   ·subst e2;rw[N4 e];exact B4 h
   ·rw[N4 e2]at g;have g:=u9 g;have:x≠z:=by omega
    rw[N4 this];exact B4 (by omega)
theorem rg:∀a b:List Int,a.length=b.length->lexLt a b=false->lexLt b a=false->a=b
 |[],[],_,_,_=>rfl
 |x::a,y::b,l,h,g=>by
  rw[cK]at h g;by_cases e:x=y
  ·subst e;rw[N3 rfl]at h g;rw[rg a b (by simpa using l) h g]
  ·rw[N4 e]at h;rw[N4 (L9 e)]at g;have h:=u9 h;have g:=u9 g;omega
theorem FP(a b:Ky)(h:klt a b=true):klt b a=false:=by
 unfold klt at h ⊢;by_cases e:a.1=b.1
 ·rw[N3 e]at h;rw[N3 e.symm];exact vH _ _ h
 ·rw[N4 e]at h;rw[N4 (L9 e)];have:=of_decide_eq_true h;exact B4 (by omega)
theorem PK(a b c:Ky)(h:klt a b=false)(g:klt b c=false):klt a c=false:=by
 unfold klt at h g ⊢;by_cases e:a.1=b.1
 ·rw[N3 e]at h;by_cases e2:b.1=c.1
  ·rw[N3 e2]at g;rw[N3 (e.trans e2)];exact FH _ _ _ h g
  ·rw[N4 e2]at g;rw[N4 (by rw[e];exact e2),e];exact g
 ·rw[N4 e]at h;have h:=u9 h;by_cases e2:b.1=c.1
  ·rw[N4 (by rw[<- e2];exact e),<- e2];exact B4 h
  ·rw[N4 e2]at g;have g:=u9 g;have:a.1≠c.1:=by omega
   rw[N4 this];exact B4 (by omega)
theorem KU(key:Nat->Ky):Ord λ i j=>klt (key i) (key j):=⟨λ a b h=>FP _ _ h,λ a b c h g=>PK _ _ _ h g⟩
def qg(K:N5)(b:Bool)(H:Hp)(k:V)(c:Ky):Prop:=∃t m,k=.ref t/\gh K H t [.int c.1,.ref m]/\Sq b K H m (c.2.map V.int)
theorem tM(I:be X xz σ H s){k:V}{c:Ky}(h:qg X.K b H k c)(r:bv k u):∃(t m:ww) (o:Obj) (tk:Tok) (n:Nat) (ay:List jp),u=.ref t/\s.heap.get? t=some o/\o.cls=.type "tuple"/\o.data=.seq #[.int c.1 tk,.ref m] n/\yy b s.heap m ay.toArray/\IntsAre ay c.2:=by obtain⟨t,m,rfl,h1,h2⟩:=h;cases(show u=Value.ref t from r);obtain⟨ay,r1,⟨o,ho,hc,n,hd⟩,_⟩:=I.tuple h1;obtain⟨u1,u2,rfl,⟨tk,rfl⟩,q2⟩:=vals2 r1;cases(show u2=Value.ref m from q2);obtain⟨V1,r2,p2⟩:=ff I h2;exact⟨t,m,o,tk,n,V1,rfl,ho,hc,hd,p2,intsAre_of r2⟩
theorem Lz{m m':ww}{xs ys:List jp}{ms:List Int}(h1:yy b s.heap m xs.toArray)(h2:yy b s.heap m' ys.toArray)(i1:IntsAre xs ns)(i2:IntsAre ys ms)(hu:A.units+1 < cLine):SeqAt.EqAt A s (.ref m) (.ref m') (decide (ns=ms)):=by
 have dp:∀l:List Int,PyData.depthAll (l.map PyData.int)=0:=λ l=>ke_depthAll l;cases b with
 |true=>obtain⟨o,ho,hc,n,hd⟩:=h1;obtain⟨o',ly,GA,n',jc⟩:=h2;have q:=A0 (.tuple (ns.map .int)) (.tuple (ms.map .int)) A s (.ref m) (.ref m') _ _ (reads_tuple_at ho hc hd (fj i1)) (reads_tuple_at ly GA jc (fj i2)) (by simp[PyData.canLay0,ke_canLayAll0]) (by simp[PyData.canLay0,ke_canLayAll0]) (by simp[PyData.depth,dp];omega);rw[show PyData.eqv (.tuple (ns.map .int)) (.tuple (ms.map .int))=decide (ns=ms) by simp only[PyData.eqv];exact ked_eqvAll ns ms]at q;exact q
 |false=>obtain⟨o,ho,hc,n,hd⟩:=h1;obtain⟨o',ly,GA,n',jc⟩:=h2;have q:=A0 (.list (ns.map .int)) (.list (ms.map .int)) A s (.ref m) (.ref m') _ _ (reads_list_at ho hc hd (fj i1)) (reads_list_at ly GA jc (fj i2)) (by simp[PyData.canLay0,ke_canLayAll0]) (by simp[PyData.canLay0,ke_canLayAll0]) (by simp[PyData.depth,dp];omega);rw[show PyData.eqv (.list (ns.map .int)) (.list (ms.map .int))=decide (ns=ms) by simp only[PyData.eqv];exact ked_eqvAll ns ms]at q;exact q
theorem KJ{m m':ww}{xs ys:List jp}{ms:List Int}(h1:yy b s.heap m xs.toArray)(h2:yy b s.heap m' ys.toArray)(i1:IntsAre xs ns)(i2:IntsAre ys ms)(hu:A.units < cLine) (h:Q (.bool (lexLt ns ms)) s):wpAny (model prog w) A (compareOp .Lt (.ref m) (.ref m')) Q E s:=by
 cases b with
 |true=>exact HT.yp (show IsTup s.heap m xs.toArray from h1) (show IsTup s.heap m' ys.toArray from h2) i1 i2 hu h
 |false=>exact FG h1 h2 i1 i2 hu h
theorem PN(I:be X xz σ H s)(hu:A.units+1 < cLine){k k':V}{c c':Ky}{u':jp}(h:qg X.K b H k c)(h':qg X.K b H k' c')(r:bv k u)(r':bv k' u'){C:Bool->kt->Prop}(hC:C (klt c c') s):wpAny (model X.prog X.w) A (keyLt' (tuples' true) u u') C (λ _ _=>False) s:=by
 obtain⟨t,m,o,tk,n,ay,rfl,ho,_,hd,hm,hi⟩:=tM I h r;obtain⟨t',m',o',zg,n',its',rfl,ly,_,jc,eV,Uh⟩:=tM I h' r';refine kat_lt ho hd ly jc (kat_cons (SeqAt.EqAt.int_int c.1 tk c'.1 zg X.prog X.w _ _ ?_));unfold klt at hC;by_cases e:c.1=c'.1
 ·rw[N3 e]at hC;rw[show(c.1==c'.1)=true by simp[e]];refine kat_yes (kat_cons (Lz hm eV hi Uh hu X.prog X.w _ _ ?_));by_cases e2:c.2=c'.2
  ·rw[D1 e2];rw[e2,zU]at hC;exact kat_yes (kat_nil hC)
  ·rw[B4 e2];exact kat_no (kat_one _ _ (KJ hm eV hi Uh (by omega) hC))
 ·rw[N4 e]at hC;rw[show(c.1==c'.1)=false by simp[e]];exact kat_no (oneLt_int hC)
theorem vM(I:be X xz σ H s):∀{aA:List V} {ks:List jp} {key:Nat->Ky},cr aA ks->(∀i k,aA[i]?=some k->qg X.K b H k (key i))->∃fs,KatTups s.heap ks fs/\fs.length=ks.length/\∀v∈fs,∃i t,v=Value.int i t
 |_,_,_,.nil,_=>⟨[],KatTups.nil,rfl,λ v hv=>by cases hv⟩
 |_,_,key,.cons (a:=k) r rr,h=>by
  obtain⟨fs,h1,h2,h3⟩:=vM I rr (key:=λ i=>key (i+1)) λ i k hk=>h (i+1) k (by simpa using hk);obtain⟨t,m,o,tk,n,ay,rfl,ho,hc,hd,_,_⟩:=tM I (h 0 _ rfl) r;refine⟨.int (key 0).1 tk::fs,KatTups.cons ho hc hd rfl h1,by simp[h2],λ v hv=>?_⟩;rcases G0.mp hv with rfl|hv
  ·exact⟨_,_,rfl⟩
  ·exact h3 v hv
theorem Dq{ys:List V}(r:cr ys ay)(p:List Nat):cr (p.map λ i=>ys.getD i V.bu) (p.map λ i=>ay.getD i Value.none):=by
 induction p with
 |nil=>exact .nil
 |cons i p ih=>
  refine .cons ?_ ih;show bv (ys.getD i V.bu) (ay.getD i Value.none);cases e:ys[i]? with
  |none=>have e2:=r.none_of e;rw[c8,c8,e,e2];rfl
  |some y=>obtain⟨u,hu,ru⟩:=r.get e;rw[c8,c8,e,hu];exact ru
end L2
namespace L5
open PySem
theorem Ir:fillsNumberSlot (.type "tuple") "mul"=pure false:=fillsNumberSlot_seq (id:="tuple.__mul__") (r:=some (.builtin "tuple.__rmul__")) F.slot_tuple_mul.lookup (by decide+kernel) F.slot_tuple_rmul.lookup (by decide+kernel)
theorem Nu:seqRepeat? (.type "tuple")=pure (some (.builtin "tuple.__mul__")):=by unfold seqRepeat?;rw[seqSlot_of (T:="tuple") (name:="__mul__") (id:="tuple.__mul__") F.slot_tuple_mul.lookup (by decide+kernel),seqSlot_of (T:="tuple") (name:="__rmul__") (id:="tuple.__rmul__") F.slot_tuple_rmul.lookup (by decide+kernel)];rfl
theorem Nw(a:Int)(t:Tok)(l:ww)(ay:Array jp)(n:Nat)(dd:Option ww)(sl:Array (Option jp)):Meets (Builtin.«int.__rmul__» ⟨[.int a t,.ref l],[]⟩) (λ _ R s=>s.heap.get? l=some {cls:=.type "tuple",dict:=dd,data:=.seq ay n,slots:=sl}/\R (.ok (.ret Value.notImplemented)) s):=
 .of_wp λ prog w A R s h=>by
  obtain⟨hp,g,d,tk,os⟩:=s;obtain⟨hl,h⟩:=h
  wp_walk
  exact⟨_,rfl,h⟩
theorem Nv(l:ww)(ay:Array jp)(n:Nat)(dd:Option ww)(sl:Array (Option jp))(u:Tok):Meets (Builtin.«tuple.__mul__» ⟨[.ref l,.int 1 u],[]⟩) (λ _ R s=>s.heap.get? l=some {cls:=.type "tuple",dict:=dd,data:=.seq ay n,slots:=sl}/\R (.ok (.ret (.ref l))) s):=
 .of_wp λ prog w A R s h=>by
  obtain⟨hp,g,d,tk,os⟩:=s;obtain⟨hl,h⟩:=h
  wp_walk
  exact⟨_,rfl,h⟩
theorem Iq(l:ww)(ay:Array jp)(n:Nat)(dd:Option ww)(sl:Array (Option jp))(x:Int)(u:Tok)(hx:x≠1)(h1: -(2^63)<=x)(h2:x < 2^63)(hi:ay.isEmpty=false)(hz:ay.size*x.toNat<=sizeLine):
  Meets (Builtin.«tuple.__mul__» ⟨[.ref l,.int x u],[]⟩) (λ _ R s=>s.heap.get? l=some {cls:=.type "tuple",dict:=dd,data:=.seq ay n,slots:=sl}/\
   R (.ok (.ret (.ref s.heap.objs.size))) {s with heap:=s.heap.push {cls:=.type "tuple",data:=.seq ((List.replicate x.toNat ay).foldl (·++·) #[])}}):=
 .of_wp λ prog w A R s h=>by
  obtain⟨hp,g,d,tk,os⟩:=s;obtain⟨hl,h⟩:=h
  wp_walk
  rw[N4 (by simp;omega)]
  wp_walk
  by_cases X1:x<=0
  ·rw[N3 (by simp[X1])]
   wp_walk
   have e:x.toNat=0:=by omega
   rw[e]at h;exact⟨_,rfl,h⟩
  ·rw[N4 (by simp[hi];omega)];have ez:((ay.size:Int)*x)=((ay.size*x.toNat:Nat):Int):=by rw[Int.natCast_mul,Int.toNat_of_nonneg (by omega)]
   have XU:=hz;rw[K2]at XU;rw[N4 (by rw[ez];omega)]
   wp_walk
   rw[N4 (by unfold Builtin.Tuple.tupleTooMany;rw[ez,x8,K2];omega)];have hsz:(List.foldl (λ x1 x2=>x1++x2) #[] (List.replicate x.toNat ay)).size<=sizeLine:=by
    have f0:∀(m:Nat) (zn:Array jp),(List.foldl (λ x1 x2=>x1++x2) zn (List.replicate m ay)).size=zn.size+m*ay.size:=by
     intro m
     induction m with
     |zero=>intro zn;simp
     |succ m ih=>intro zn;rw[n5,foldl_cons,ih,Array.size_append,Nat.succ_mul];omega
    rw[f0,Nat.mul_comm];simpa using hz
   wp_walk
   exact⟨_,rfl,h⟩
end L5
namespace L2
open PySem.Spec PyProof.Rows L5
theorem zh(ns:List Int):∀n,n<=ns.length->preSum (λ i=>ns.getD i 0) n=(ns.take n).sum
 |0,_=>by simp[preSum]
 |n+1,h=>by
  have hn:n < ns.length:=by omega
  rw[preSum,zh ns n (by omega),take_succ_eq_append_getElem hn,sum_append];simp[c8,hn]
theorem qB(hc:X.calm=true):cL X (.builtin "sum") (λ xs H Q=>∃(b:Bool) (p:ww) (ns:List Int),xs=[.ref p]/\Sq b X.K H p (ns.map V.int)/\Q (.int ns.sum) H):=by
 intro xz s σ H xs us Q I r h;obtain⟨b,p,ns,rfl,hq,q⟩:=h;obtain⟨u,rfl,r1⟩:=vals1 r;cases r1;obtain⟨ay,rv,pl⟩:=ff I hq;have hi:IntsAre ay ns:=intsAre_of rv;have hlen:ay.length=ns.length:=by rw[<- rv.length,C2]
 have hA:X.A.in1.handled=none:=I.ok.hd hc;have hv:∀i v,ay.toArray[i]?=some v->∃t,v=Value.int (ns.getD i 0) t:=λ i v e=>by
  have e:ay[i]?=some v:=by simpa using e
  have h1:i < ns.length:=by rw[<- hlen];exact(i5.mp e).1
  obtain⟨t,e2⟩:=tR hi h1;rw[e]at e2;cases e2;exact⟨t,by simp[c8,h1]⟩
 have ht:preSum (λ i=>ns.getD i 0) ay.toArray.size=ns.sum:=by rw[y9,hlen,zh ns _ (K1 _),A5]
 cases b with
 |false=>
  have pl:s.heap.IsList p ay.toArray:=pl;have eh:p≠s.heap.objs.size:=by obtain⟨o,e,_⟩:=pl;exact G6 (G7 e)
  refine call_sum_walkG (y6 pl ⟨s.heap.objs.size,_,_,_,_,_,λ i=>ns.getD i 0,rfl,Walks.list hA s.heap.objs.size p eh ay.toArray,⟨⟨_,n9 _ rfl,rfl,rfl⟩,pl.at λ o e=>j7 _ e⟩,?_,hv,λ h' tk t' hk=>?_⟩)
  ·intro b hb;have:s.heap.objs.size < (s.heap.push {cls:=.type "list_iterator",data:=.fields #[.ref p,.int 0 0]}).objs.size:=by rw[D4];omega
   obtain⟨o,e,_⟩:=pl;have h2:=G7 e;simp at hb;rcases hb with rfl|rfl
   ·exact this
   ·exact Nat.lt_trans h2 this
  ·rw[ht];exact⟨.int ns.sum,H,I.kept (t':=tk) λ b o e=>hk b o (by simpa using G6 (G7 e)) (j7 _ e),⟨_,rfl⟩,q⟩
 |true=>
  have pl:s.heap.IsTuple p ay.toArray:=pl;have eh:p≠s.heap.objs.size:=by obtain⟨o,e,_⟩:=pl;exact G6 (G7 e)
  refine call_sum_walkG (wpAny_pyIter_tuple pl ⟨s.heap.objs.size,_,_,_,_,_,λ i=>ns.getD i 0,rfl,Walks.tuple hA s.heap.objs.size p eh ay.toArray,⟨⟨_,n9 _ rfl,rfl,rfl⟩,vv.keep pl λ o e=>j7 _ e⟩,?_,hv,λ h' tk t' hk=>?_⟩)
  ·intro b hb;have:s.heap.objs.size < (s.heap.push {cls:=.type "tuple_iterator",data:=.fields #[.ref p,.int 0 0]}).objs.size:=by rw[D4];omega
   obtain⟨o,e,_⟩:=pl;have h2:=G7 e;simp at hb;rcases hb with rfl|rfl
   ·exact this
   ·exact Nat.lt_trans h2 this
  ·rw[ht];exact⟨.int ns.sum,H,I.kept (t':=tk) λ b o e=>hk b o (by simpa using G6 (G7 e)) (j7 _ e),⟨_,rfl⟩,q⟩
theorem Kc:fG X (binaryOp .Mult) (λ x y H Q=>∃l k xs,x=.ref l/\y=.int k/\gh X.K H l xs/\xs≠[]/\-(2^63)<=k/\k < 2^63/\xs.length*k.toNat<=sizeLine/\(k=1->Q (.ref l) H)/\(k≠1->∀p,H p=none->Q (.ref p) (dl H p (.tup (List.replicate k.toNat xs).flatten)))):=by
 intro xz s σ H x y v u Q I rx ry h;obtain⟨l,k,xs,rfl,rfl,hH,eh,h1,h2,hz,q1,q2⟩:=h;cases rx;obtain⟨t,rfl⟩:=ry;obtain⟨ay,r,⟨⟨c,dd,da,sl⟩,e,hc,n,hd⟩,_⟩:=I.tuple hH;have hl:=r.length;cases(show c=.type "tuple" from hc);cases(show da=.seq ay.toArray n from hd);refine wpAny_binaryOp_repeat_ref (T:="tuple") (U:="int") (by decide) ⟨_,e,rfl⟩ (λ s'=>typeIs_int s' k t) Ir F.fills_int_mul F.slot_int_rmul Nu F.slot_int_index.lookup
  (K8 F.slot_int_rmul (typeIs_int s k t) F.entry_int_rmul (F.args_int_rmul_2 _ _) (Nw k t l ay.toArray n dd sl) ⟨e,rfl,⟨_,e,rfl⟩,?_⟩)
 by_cases hk:k=1
 ·subst hk;exact K8 F.slot_tuple_mul ⟨_,e,rfl⟩ F.entry_tuple_mul (F.args_tuple_mul_2 _ _) (Nv l ay.toArray n dd sl t) ⟨e,.ref l,H,I,rfl,q1 rfl⟩
 ·refine K8 F.slot_tuple_mul ⟨_,e,rfl⟩ F.entry_tuple_mul (F.args_tuple_mul_2 _ _) (Iq l ay.toArray n dd sl k t hk h1 h2 ?_ (by rw[y9,<- hl];exact hz)) ⟨e,?_⟩
  ·cases ay with
   |nil=>cases r;exact absurd rfl eh
   |cons a b=>rfl
  ·have Qk:List.foldl (λ x1 x2=>x1++x2) #[] (List.replicate k.toNat ay.toArray)=(List.replicate k.toNat ay).flatten.toArray:=by have:=foldl_rep ay k.toNat [];rw[nil_append]at this;exact this
   rw[Qk];have fr:=I.fresh;refine⟨.ref s.heap.objs.size,_,I.laid (t':=s.toks) (o:=.tup (List.replicate k.toNat xs).flatten) (λ b o e=>j7 _ e) (K1 _) ⟨?_,_,r.rep k.toNat,⟨_,n9 _ rfl,rfl,_,rfl⟩⟩,rfl,q2 hk _ fr⟩;rw[len_rep,Nat.mul_comm];exact hz
end L2
namespace L3
open PySem.Spec L2 L5 PyProof.Rows
mutual
def toP:D->PyData
 | .bu=>.none
 | .bl b=>.bool b
 | .int i=>.int i
 | .str x=>.str x
 | .ty _=>.none
 | .ref _=>.none
 | .tup ds=>.tuple (toPs ds)
 | .fl ds=>.list (toPs ds)
def toPs:List D->List PyData
 |[]=>[]
 |d::ds=>toP d::toPs ds
end
mutual
def nr:D->Bool
 | .bu=>true
 | .bl _=>true
 | .int _=>true
 | .str _=>true
 | .ty _=>false
 | .ref _=>false
 | .tup ds=>oP ds
 | .fl ds=>oP ds
def oP:List D->Bool
 |[]=>true
 |d::ds=>nr d&&oP ds
end
section
variable {σ:L2.St}
mutual
theorem Sn(I:be X xz σ H s):∀(d:D) {x:V} {u:jp},nr d=true->bn X.K H d x->bv x u->∃as,Reads s.heap u (toP d) as
 | .bu,x,u,_,h,r=>by cases(eo.mp h);cases r;unfold toP;exact⟨_,Reads.none⟩
 | .bl b,x,u,_,h,r=>by cases(aR.mp h);cases r;unfold toP;exact⟨_,Reads.bool b⟩
 | .int i,x,u,_,h,r=>by cases(aw.mp h);obtain⟨t,rfl⟩:=r;unfold toP;exact⟨_,Reads.int i t⟩
 | .str z,x,u,_,h,r=>by cases(aI.mp h);obtain⟨t,rfl⟩:=r;unfold toP;exact⟨_,Reads.str z t⟩
 | .ty _,x,u,n,h,r=>by unfold nr at n;cases n
 | .ref _,x,u,n,h,r=>by unfold nr at n;cases n
 | .tup ds,x,u,n,h,r=>by unfold nr at n;obtain⟨p,xs,rfl,hq,hd⟩:=aW.mp h;cases(show u=Value.ref p from r);obtain⟨ay,rv,⟨o,ho,hc,m,tX⟩,_⟩:=I.tuple hq;obtain⟨as,ra⟩:=vf I ds n hd rv;unfold toP;exact⟨_,reads_tuple_at ho hc tX ra⟩
 | .fl ds,x,u,n,h,r=>by unfold nr at n;obtain⟨p,xs,rfl,hq,hd⟩:=ju.mp h;cases(show u=Value.ref p from r);obtain⟨ay,rv,pl,_⟩:=I.list hq.sq;obtain⟨o,ho,hc,m,tX⟩:=pl.isList;obtain⟨as,ra⟩:=vf I ds n hd rv;unfold toP;exact⟨_,reads_list_at ho hc tX ra⟩
theorem vf(I:be X xz σ H s):∀(ds:List D) {xs:List V} {us:List jp},oP ds=true->aG X.K H ds xs->cr xs us->∃as,ReadsAll s.heap us (toPs ds) as
 |[],xs,us,_,h,r=>by cases(av.mp h);cases r;unfold toPs;exact⟨_,ReadsAll.nil⟩
 |d::ds,xs,us,n,h,r=>by
  unfold oP at n;rw[A7]at n;obtain⟨x,y_,rfl,h1,h2⟩:=ah.mp h;cases r with
  |cons r1 r2=>obtain⟨as,a⟩:=Sn I d n.1 h1 r1;obtain⟨bs,b⟩:=vf I ds n.2 h2 r2;unfold toPs;exact⟨_,ReadsAll.cons a b⟩
end
end
def Rz(K:N5)(H:Hp)(x:V)(a:PyData):Prop:=(∃d,nr d=true/\bn K H d x/\toP d=a)\/∃p ds xs,x=.ref p/\dr K H p xs/\aG K H ds xs/\oP ds=true/\a=.list (toPs ds)
def xU(M:Mem)(d:D):Option PyData:=match d with
 | .ref a=>match M a with
  |some (.lst ds)=>if oP ds=true then some (.list (toPs ds))else none
  |_=>none
 |d=>if nr d=true then some (toP d)else none
theorem mU{x:V}{a:PyData}(e:xU M d=some a)(h:bn K H d x)(hm:ce K H M):Rz K H x a:=by
 cases d with
 |ref p=>
  cases(aP.mp h);unfold xU at e;cases q:M p with
  |none=>simp[q]at e
  |some o=>
   cases o with
   |fH b aA=>simp[q]at e
   |By x=>simp[q]at e
   |lst ds=>
    simp only[q]at e;by_cases n:oP ds=true
    ·rw[N3 n]at e;cases e;obtain⟨xs,hx,hd⟩:=hm p _ q;exact .inr ⟨p,ds,xs,rfl,dr.of hx,hd,n,rfl⟩
    ·rw[N4 n]at e;cases e
 |bu=>exact .inl ⟨_,rfl,h,by simpa[xU,nr]using e⟩
 |bl _=>exact .inl ⟨_,rfl,h,by simpa[xU,nr]using e⟩
 |int _=>exact .inl ⟨_,rfl,h,by simpa[xU,nr]using e⟩
 |str _=>exact .inl ⟨_,rfl,h,by simpa[xU,nr]using e⟩
 |ty _=>simp[xU,nr]at e
 |tup ds=>
  by_cases n:oP ds=true
  ·exact .inl ⟨.tup ds,by unfold nr;exact n,h,by simpa[xU,nr,n]using e⟩
  ·simp[xU,nr,n]at e
 |fl ds=>
  by_cases n:oP ds=true
  ·exact .inl ⟨.fl ds,by unfold nr;exact n,h,by simpa[xU,nr,n]using e⟩
  ·simp[xU,nr,n]at e
theorem iQ{σ:L2.St}(I:be X xz σ H s){x:V}{a:PyData}(h:Rz X.K H x a)(r:bv x u):∃as,Reads s.heap u a as:=by
 rcases h with⟨d,n,hd,rfl⟩|⟨p,ds,xs,rfl,hq,hd,n,rfl⟩
 ·exact Sn I d n hd r
 ·cases(show u=Value.ref p from r);obtain⟨ay,rv,pl,_⟩:=I.list hq;obtain⟨o,ho,hc,m,tX⟩:=pl.isList;obtain⟨as,ra⟩:=vf I ds n hd rv;exact⟨_,reads_list_at ho hc tX ra⟩
def YL(neg:Bool):fF:=λ x y M Q=>∃a b,xU M x=some a/\xU M y=some b/\SeqAt.shaped a=true/\SeqAt.shaped b=true/\Q (.bl (if neg then !PyData.eqv a b else PyData.eqv a b)) M
theorem Pe(hu:X.A.units+64 < cLine):fG X (compareOp .Eq) (λ x y H Q=>∃a b,Rz X.K H x a/\Rz X.K H y b/\SeqAt.shaped a=true/\SeqAt.shaped b=true/\Q (.bl (PyData.eqv a b)) H):=by intro xz s σ H x y v u Q I rx ry h;obtain⟨a,b,ha,hb,sa,sb,q⟩:=h;obtain⟨as,ra⟩:=iQ I ha rx;obtain⟨bs,rb⟩:=iQ I hb ry;exact eq_dataH ra rb sa sb hu ⟨.bl (PyData.eqv a b),H,I,rfl,q⟩
theorem O'(hu:X.A.units+64 < cLine):fG X (compareOp .NotEq) (λ x y H Q=>∃a b,Rz X.K H x a/\Rz X.K H y b/\SeqAt.shaped a=true/\SeqAt.shaped b=true/\Q (.bl (!PyData.eqv a b)) H):=by intro xz s σ H x y v u Q I rx ry h;obtain⟨a,b,ha,hb,sa,sb,q⟩:=h;obtain⟨as,ra⟩:=iQ I ha rx;obtain⟨bs,rb⟩:=iQ I hb ry;exact ne_dataH ra rb sa sb hu ⟨.bl (!PyData.eqv a b),H,I,rfl,q⟩
theorem eX.or{f:jp->jp->Sem jp}{r r':fF}(h:eX X f r)(h':eX X f r'):eX X f (λ x y M Q=>r x y M Q\/r' x y M Q):=by
 obtain⟨a,h1,h2⟩:=h;obtain⟨b,g1,g2⟩:=h';refine⟨_,h1.or g1,λ x y d e H M Q2 Q hd he hm q k=>?_⟩;rcases q with q|q
 ·exact .inl (h2 x y d e H M Q2 Q hd he hm q k)
 ·exact .inr (g2 x y d e H M Q2 Q hd he hm q k)
def wu(neg:Bool):fF:=λ x y M Q=>QU neg x y M Q\/YL neg x y M Q
theorem cq(hu:X.A.units+64 < cLine):eX X (compareOp .Eq) (wu false):=Xo.or ⟨_,Pe hu,λ x y d e H M Q2 Q hd he hm q k=>by
 obtain⟨a,b,ha,hb,sa,sb,q⟩:=q;exact⟨a,b,mU ha hd hm,mU hb he hm,sa,sb,k _ H _ M (aR.mpr rfl) hm (ax.refl H) q⟩⟩
theorem vn(hu:X.A.units+64 < cLine):eX X (compareOp .NotEq) (wu true):=Xl.or ⟨_,O' hu,λ x y d e H M Q2 Q hd he hm q k=>by
 obtain⟨a,b,ha,hb,sa,sb,q⟩:=q;exact⟨a,b,mU ha hd hm,mU hb he hm,sa,sb,k _ H _ M (aR.mpr rfl) hm (ax.refl H) q⟩⟩
def Hb:D->List D->Mem->bH->Prop:=λ x vs M Q=>∃p ds y,x=.ref p/\vs=[y]/\M p=some (.lst ds)/\oP ds=true/\nr y=true/\PyData.canLayAll0 (toPs ds)=true/\(toP y).canLay0=true/\(toP y).depth < 60/\Q (.int (ds.countP λ d=>PyData.eqv (toP d) (toP y):Nat)) M
theorem ml{v:jp}{y:PyData}{bs:List ww}(ry:Reads s.heap v y bs)(cy:y.canLay0=true)(hu:A.units+y.depth < cLine):∀{ds:List D} {us:List jp} {as:List ww},ReadsAll s.heap us (toPs ds) as->PyData.canLayAll0 (toPs ds)=true->
  ∃e:jp->Bool,(∀u∈us,SeqAt.EqAt A s u v (e u))/\us.countP e=ds.countP λ d=>PyData.eqv (toP d) y:=by
 intro ds us as ra cl;refine⟨λ u=>PyData.eqv (SeqAt.readOf s.heap u) y,λ u Ro=>?_,?_⟩
 ·obtain⟨d,ZZ,rd,cd,_⟩:=SeqAt.readsAll_mem _ _ _ cl ra u Ro;have e:=SeqAt.readOf_eq cd rd;dsimp only;rw[e];exact A0 d y A s u v _ _ rd ry cd cy (by omega)
 ·have e:=SeqAt.readsAll_map _ _ _ cl ra;have f:∀(us:List jp) (ds:List D),us.map (SeqAt.readOf s.heap)=toPs ds->us.countP (λ u=>PyData.eqv (SeqAt.readOf s.heap u) y)=ds.countP λ d=>PyData.eqv (toP d) y:=by
   intro us
   induction us with
   |nil=>
    intro ds q;cases ds with
    |nil=>rfl
    |cons d r=>unfold toPs at q;cases q
   |cons u us ih=>
    intro ds q;cases ds with
    |nil=>unfold toPs at q;cases q
    |cons d r=>
     unfold toPs at q;rw[F9]at q;injection q with q1 q2
     rw[countP_cons,countP_cons,ih r q2,q1]
  exact f us ds e
theorem KH(hu:X.A.units+64 < cLine):HZ X "list.count" Hb:=⟨λ x vs H Q=>∃p ds xs d y,x=.ref p/\vs=[y]/\dr X.K H p xs/\aG X.K H ds xs/\bn X.K H d y/\oP ds=true/\nr d=true/\PyData.canLayAll0 (toPs ds)=true/\(toP d).canLay0=true/\(toP d).depth < 60/\Q (.int (ds.countP λ e=>PyData.eqv (toP e) (toP d):Nat)) H,by
  intro xz s σ H x xs v us Q I rx rv h;obtain⟨p,ds,zs,d,y,rfl,rfl,hq,hd,hy,n1,n2,c1,c2,dp,q⟩:=h;cases(show v=Value.ref p from rx);obtain⟨u,rfl,ru⟩:=rv.one;obtain⟨ay,rz,pl,_⟩:=I.list hq;obtain⟨as,ra⟩:=vf I ds n1 hd rz;obtain⟨bs,rb⟩:=Sn I d n2 hy ru;obtain⟨e,e1,e2⟩:=ml (A:=X.A.in1) rb c2 (by show X.A.units+1+_ < _;omega) ra c1;obtain⟨⟨c,dd,da,sl⟩,ho,hc,n,tX⟩:=pl.isList;cases(show c=.type "list" from hc);cases(show da=.seq ay.toArray n from tX);refine K8 PySem.F.slot_list_count ⟨_,ho,rfl⟩ PySem.F.entry_list_count (PySem.F.args_list_count_2 _ _) (SeqAt.list_countAt p ay.toArray n dd sl u e) ⟨ho,λ y hy=>e1 y (by simpa using hy),?_⟩;rw[show ay.toArray.toList=ay from rfl,e2];exact⟨.int _,H,I.tok _,⟨_,rfl⟩,q⟩,λ x xs d ds H M Q2 Q hx hd hm q k=>by
  obtain⟨p,es,y,rfl,rfl,hM,n1,n2,c1,c2,dp,q⟩:=q;cases(aP.mp hx);obtain⟨v,r,rfl,hv,hr⟩:=ah.mp hd;cases(av.mp hr);obtain⟨zs,hz,jc⟩:=hm p _ hM;exact⟨p,es,zs,y,v,rfl,rfl,dr.of hz,jc,hv,n1,n2,c1,c2,dp,k _ H _ M (aw.mpr rfl) hm (ax.refl H) q⟩⟩
def uh:D->List D->Mem->bH->Prop:=λ x vs M Q=>∃p ds y,x=.ref p/\vs=[y]/\M p=some (.lst ds)/\ds.length < sizeLine/\Q .bu (ai M p (.lst (ds++[y])))
theorem iA:HZ X "list.append" uh:=⟨zB,BK,λ x xs d ds H M Q2 Q hx hd hm q k=>by
 obtain⟨p,es,y,rfl,rfl,hM,hz,q⟩:=q;cases(aP.mp hx);obtain⟨v,r,rfl,hv,hr⟩:=ah.mp hd;cases(av.mp hr);obtain⟨zs,h1,h2⟩:=hm p _ hM;have t:=ax.lst (o:=.lst (zs++[v])) h1;refine⟨p,zs,v,rfl,rfl,h1,by rw[h2.length];exact hz,k _ _ .bu _ (eo.mpr rfl) (hm.put (u:=.lst (es++[y])) t ⟨_,aV,?_⟩) t q⟩;exact(aG.mono t es h2).append (aG.one (bn.mono t y hv))⟩
theorem fA:∀{ns:List Int} {xs:List V},aG K H (ns.map D.int) xs->xs=ns.map V.int
 |[],xs,h=>by rw[map_nil,av]at h;exact h
 |b::bs,xs,h=>by rw[F9,ah]at h;obtain⟨x,r,rfl,a,q⟩:=h;rw[aw]at a;rw[a,fA q];rfl
def QJ:List D->Mem->bH->Prop:=λ xs M Q=>∃(x:D) (ds:List D) (ns:List Int),xs=[x]/\cE M x=some ds/\ds=ns.map D.int/\Q (.int ns.sum) M
theorem Nb(hc:X.calm=true):cZ X (.builtin "sum") QJ:=⟨_,qB hc,λ xs ds H M Q2 Q hd hm q k=>by
 obtain⟨x,es,ns,rfl,e,rfl,q⟩:=q;obtain⟨v,r,rfl,hv,hr⟩:=ah.mp hd;cases(av.mp hr);obtain⟨p,ys,rfl,h,hy⟩:=il e hv hm;rw[fA hy]at h;rcases h with h|h
 ·exact⟨false,p,ns,rfl,h,k _ H _ M (aw.mpr rfl) hm (ax.refl H) q⟩
 ·exact⟨true,p,ns,rfl,h,k _ H _ M (aw.mpr rfl) hm (ax.refl H) q⟩⟩
def UN:List D->Mem->bH->Prop:=λ xs M Q=>∃i j,xs=[.int i,.int j]/\Q (.int (if j < i then j else i)) M
theorem Nc(hc:X.calm=true):cZ X (.builtin "min") UN:=⟨_,CC hc,λ xs ds H M Q2 Q hd hm q k=>by
 obtain⟨i,j,rfl,q⟩:=q;obtain⟨v,r,rfl,hv,hr⟩:=ah.mp hd;obtain⟨v2,r2,rfl,X7,TM⟩:=ah.mp hr;cases(av.mp TM);cases(aw.mp hv);cases(aw.mp X7);exact⟨i,j,rfl,k _ H _ M (aw.mpr rfl) hm (ax.refl H) q⟩⟩
def UM:fF:=λ x y M Q=>∃ds k,x=.tup ds/\y=.int k/\ds≠[]/\-(2^63)<=k/\k < 2^63/\ds.length*k.toNat<=sizeLine/\Q (.tup (List.replicate k.toNat ds).flatten) M
theorem pL(h:aG K H ds xs):∀k:Nat,aG K H (List.replicate k ds).flatten (List.replicate k xs).flatten
 |0=>by simp[av]
 |k+1=>by rw[n5,n5,y3,y3];exact h.append (pL h k)
def wq:fF:=λ x y M Q=>LJ x y M Q\/UM x y M Q
theorem Pu:eX X (binaryOp .Mult) wq:=Tb.or ⟨_,Kc,λ x y d e H M Q2 Q hd he hm q k=>by
 obtain⟨ds,n,rfl,rfl,eh,h1,h2,hz,q⟩:=q;obtain⟨p,xs,rfl,hq,hx⟩:=aW.mp hd;cases(aw.mp he);refine⟨p,n,xs,rfl,rfl,hq,λ z=>?_,h1,h2,by rw[hx.length];exact hz,λ e1=>?_,λ _ l hl=>?_⟩
 ·have:=hx.length;rw[z]at this;exact eh (j3.mp this.symm)
 ·subst e1;rw[show(1:Int).toNat=1 from rfl,show(List.replicate 1 ds).flatten=ds by simp]at q;exact k _ H _ M (aW.mpr ⟨p,xs,rfl,hq,hx⟩) hm (ax.refl H) q
 ·exact k _ _ (.tup _) M (gG hl (pL hx _)) (hm.laid hl) (ax.laid hl) q⟩
open PySem.Spec L2 L5
def Mc(b:Bool)(M:Mem)(k:D)(c:Ky):Prop:=match b with
 |true=>k=.tup [.int c.1,.tup (c.2.map D.int)]
 |false=>∃m,k=.tup [.int c.1,.ref m]/\M m=some (.lst (c.2.map D.int))
theorem Mc.v9{k:D}{c:Ky}(h:Mc b M k c)(r:bn K H k v)(hm:ce K H M):qg K b H v c:=by
 cases b with
 |true=>cases(show k=_ from h);obtain⟨p,xs,rfl,hq,hd⟩:=aW.mp r;obtain⟨x1,r1,rfl,h1,hd⟩:=ah.mp hd;obtain⟨x2,r2,rfl,h2,hd⟩:=ah.mp hd;cases(av.mp hd);cases(aw.mp h1);obtain⟨p2,ys,rfl,pw,hd2⟩:=aW.mp h2;rw[fA hd2]at pw;exact⟨p,p2,rfl,hq,pw⟩
 |false=>obtain⟨m,rfl,hM⟩:=h;obtain⟨p,xs,rfl,hq,hd⟩:=aW.mp r;obtain⟨x1,r1,rfl,h1,hd⟩:=ah.mp hd;obtain⟨x2,r2,rfl,h2,hd⟩:=ah.mp hd;cases(av.mp hd);cases(aw.mp h1);cases(aP.mp h2);obtain⟨ys,hy,hd2⟩:=hm m _ hM;rw[fA hd2]at hy;exact⟨p,m,rfl,hq,dr.of hy⟩
theorem rM(h:aG K H ds xs):∀p:List Nat,aG K H (p.map λ i=>ds.getD i D.bu) (p.map λ i=>xs.getD i V.bu)
 |[]=>by simp[av]
 |i::p=>by
  rw[F9,F9,ah];refine⟨_,_,rfl,?_,rM h p⟩;cases e:ds[i]? with
  |none=>
   have e2:xs[i]?=none:=by have:=h.length;have:=i6.mp e;exact l5 (by omega)
   rw[c8,c8,e,e2];exact eo.mpr rfl
  |some d=>obtain⟨x,e2,hx⟩:=h.get e;rw[c8,c8,e,e2];exact hx
open PySem.Spec L2 L5
section
variable {Q:bH}
theorem Jo{i j:Int}(q:Q (.bl (decide (i=j))) M):wu false (.int i) (.int j) M Q:=.inl (Ou q)
theorem Jp{i j:Bool}(q:Q (.bl (decide (i=j))) M):wu false (.bl i) (.bl j) M Q:=.inl (Ov q)
theorem Jn{i j:Str}(q:Q (.bl (decide (i=j))) M):wu false (.str i) (.str j) M Q:=.inl (Ot q)
theorem Jc{i j:Bool}(q:Q (.bl (!decide (i=j))) M):wu true (.bl i) (.bl j) M Q:=.inl (Oa q)
theorem D'{i j:Int}(h:uF i j)(q:Q (.int (i*j)) M):wq (.int i) (.int j) M Q:=.inl (Je h q)
theorem D_{i:Str}{j:Int}(h:MulOk i j)(q:Q (.str (Txt.mul i j)) M):wq (.str i) (.int j) M Q:=.inl (Jd h q)
theorem DZ{k:Int}(h0:0<=k)(h1:k<=10000)(q:Q (.tup (List.replicate k.toNat d)) M):wq (.tup [d]) (.int k) M Q:=.inr ⟨[d],k,rfl,rfl,by simp,Int.le_trans (by decide) h0,v9 h1 (by decide),H9 (show 1*k.toNat<=10000 by omega) (by decide),by
 rw[show(List.replicate k.toNat [d]).flatten=List.replicate k.toNat d by simp];exact q⟩
theorem Oc{i j:Int}(q:Q (.int (if j < i then j else i)) M):UN [.int i,.int j] M Q:=⟨i,j,rfl,q⟩
theorem IW(q:Q (.int ns.sum) M):QJ [.tup (ns.map D.int)] M Q:=⟨_,_,ns,rfl,rfl,rfl,q⟩
theorem oB{y:D}(h:M p=some (.lst ds))(hz:ds.length < sizeLine)(q:Q .bu (ai M p (.lst (ds++[y])))):uh (.ref p) [y] M Q:=⟨p,ds,y,rfl,rfl,h,hz,q⟩
abbrev row(ns:List Int):D:=.tup (ns.map D.int)
theorem toPs_ints:∀ns:List Int,toPs (ns.map D.int)=ns.map PyData.int
 |[]=>rfl
 |n::ns=>by rw[F9];unfold toPs;rw[toPs_ints ns];unfold toP;rfl
theorem vq:∀ns:List Int,oP (ns.map D.int)=true
 |[]=>rfl
 |n::ns=>by rw[F9];unfold oP;rw[vq ns];rfl
theorem IT{a b:D}{N:dm->Mem->Prop}(h:N ((δ.set i (some a)).set j (some b)) M):Cd 2 (jd (ap i) (jd (ap j) Ce)) (.tup [a,b]) δ M N:=⟨rfl,h⟩
theorem Ec{A B:Prop}(h:B):if(!true)=true then A else B:=by rw[Bool.not_true,N4 p9];exact h
theorem Ed{A B:Prop}(h:A):if(!false)=true then A else B:=by rw[Bool.not_false,N3 rfl];exact h
theorem u_{c:fJ}{tb:iK}{E:eE}{δ:dm}(h:∃W:Nat->dm->Mem->Prop,(∃m,W m δ M)/\∀m δ M,W m δ M->c δ M λ b M1=>
  if b=true then ∃N:dm->Mem->Prop,(∀δ' M',N δ' M'->∃m',m' < m/\W m' δ' M')/\tb {E with nx:=N,ct:=N,bk:=E.nx} δ M1 else E.nx δ M1):xM c tb E δ M:=h
theorem Hj{δc:dm}(Pv:Nat->List D->Mem->Prop)(h0:Pv 0 [] M1)(hl:∀i zn M,i<=ds.length->Pv i zn M->M a=some (.lst ds))(hz:∀i zn M,i<=ds.length->Pv i zn M->zn.length<=sizeLine) (hs:∀i d zn M,ds[i]?=some d->Pv i zn M->g d δc M λ δ2 M2=>tt δ2 M2 λ b M3=>if b=true then te δ2 M3 λ y M4=>Pv (i+1) (zn++[y]) M4 else Pv (i+1) zn M3) (hd:∀zn M,Pv ds.length zn M->Qe zn M):∃(B:Nat) (W:Nat->List D->Mem->Prop),W 0 [] M1/\∀i zn M,W i zn M->i<=B/\zn.length<=sizeLine/\match al (.at a) M with
   |none=>False
   |some ds=>match ds[i]? with
    |none=>i=ds.length/\Qe zn M
    |some d=>g d δc M λ δ2 M2=>tt δ2 M2 λ b M3=>if b=true then te δ2 M3 λ y M4=>W (i+1) (zn++[y]) M4 else W (i+1) zn M3:=by
 refine⟨ds.length,λ i zn M=>if i<=ds.length then Pv i zn M else False,by dsimp only;rw[N3 (K3 _)];exact h0,?_⟩;intro i zn M w;by_cases hi:i<=ds.length
 ·rw[N3 hi]at w;refine⟨hi,hz i zn M hi w,?_⟩;have e0:al (.at a) M=some ds:=by show(match M a with|some (.lst ds)=>some ds|_=>none)=some ds;rw[hl i zn M hi w]
  rw[e0];show(match ds[i]? with
    |none=>i=ds.length/\Qe zn M
    |some d=>g d δc M λ δ2 M2=>tt δ2 M2 λ b M3=>if b=true then te δ2 M3 λ y M4=>(if i+1<=ds.length then Pv (i+1) (zn++[y]) M4 else False)else(if i+1<=ds.length then Pv (i+1) zn M3 else False))
  cases e:ds[i]? with
  |none=>have:i=ds.length:=C5 hi (i6.mp e);subst this;exact⟨rfl,hd zn M w⟩
  |some d=>have kH:i+1<=ds.length:=(i5.mp e).1;simp only[N3 kH];exact hs i d zn M e w
 ·rw[N4 hi]at w;exact w.elim
theorem Bs{i:Int}(ha:M a=some (.lst (ns.map D.int)))(q:Q (.int (ns.count i:Nat)) M):Hb (.ref a) [.int i] M Q:=by
 refine⟨a,_,_,rfl,rfl,ha,vq ns,rfl,by rw[toPs_ints];exact PySem.W.ke_canLayAll0 ns,by simp[toP,PyData.canLay0],by simp[toP,PyData.depth],?_⟩;have e:(ns.map D.int).countP (λ d=>PyData.eqv (toP d) (toP (.int i)))=ns.count i:=by rw[countP_map,count_eq_countP];refine countP_congr λ x _=>?_;show PyData.eqv (toP (.int x)) (toP (.int i))=true↔_;simp[toP,PyData.eqv]
 rw[e];exact q
end
end L3
namespace L5
open PySem
theorem tL:typeLookup (.type "list") "keys"=pure none:=by rw[typeLookup_type,builtinLookup_eq_fast];kernel_rfl
theorem Ku{xs:Array jp}{Q:Option jp->kt->Prop}(hx:s.heap.get? a=some {cls:=.type "list",dict:=none,data:=.seq xs k,slots:=sl})(hA:A.handled=none) (h:∀h' tk,(∀b o,s.heap.get? b=some o->h'.get? b=some o)->Q none {s with heap:=h',toks:=tk}):wpAny (model prog w) A (getAttr? (.ref a) "keys") Q E s:=by
 obtain⟨hp,g,d,tk,os⟩:=s;have ty:∀zg,(⟨hp,g,d,zg,os⟩:kt).TypeIs (.ref a) "list":=λ _=>⟨_,hx,rfl⟩;have f1:=sub_AttributeError;have f3:=F.slot_list_getattribute.lookup;have f4:=F.slot_list_getattribute.bind (.ref a);have f5:=am_list_getattr_none;unfold getAttr? getAttrBy? getAttrBy
 repeat(any_goals (first|assumption|exact ty _|((with_reducible show wpAny _ _ (call (Value.builtin "list.__getattribute__") _ _) _ _ _);refine K8 F.slot_list_getattribute (ty _) am_entry_list_getattribute (F.args_list_getattribute_2 _ _) (meets_getattribute_miss_list a xs k sl _ _ tL (by decide+kernel) (by decide+kernel)) ⟨hx,hA,λ h' zg e Lg=>?_⟩)|wp_step))
 obtain⟨t',u',he⟩:=Lg.there;show wpAny _ _ (getattributeRaised _ _ _ _ _ _ _) _ _ _;unfold getattributeRaised
 repeat(any_goals (first|assumption|wp_step))
 exact h _ _ Lg.keeps
open PySem
theorem v_:entryFor table "dict.update.loop"=some Builtin.«dict.update.loop»:=entryFor_of_tree (by kernel_rfl)
theorem mX:plainId "dict.update.loop"=true:=by decide+kernel
section
variable {R:Result->kt->Prop}
abbrev TK(prog:Program)(w:World):HeapKind prog w (List L2.Key):=tupleKind (L2.cz prog w)
abbrev Ent:=List L2.Key×ww×jp
theorem xA{h:Heap}{k:List L2.Key}(x:(TK prog w).is h k a):∃o,h.get? a=some o/\o.cls=.type "tuple":=let⟨o,ay,n,h1,h2,h3,h4⟩:=x;⟨o,h1,h2⟩
theorem sF{h:Heap}{k:List L2.Key}(x:(TK prog w).is h k a)(q:∀o,h.get? a=some o->h'.get? a=some o):(TK prog w).is h' k a:=let⟨o,ay,n,h1,h2,h3,h4⟩:=x;⟨o,ay,n,q o h1,h2,h3,h4⟩
structure lN(prog:Program)(w:World)(h:Heap)(u:jp)(p:Ent):Prop where
 ex:∃t,u=.ref t/\h.IsTuple t #[.ref p.2.1,p.2.2]
 key:(TK prog w).is h p.1 p.2.1
def pZ(h h':Heap):Prop:=∀b o,o.cls=.type "tuple"->h.get? b=some o->h'.get? b=some o
theorem lN.fb{h:Heap}{p:Ent}(x:lN prog w h u p)(q:pZ h h'):lN prog w h' u p:=by obtain⟨⟨t,rfl,o,ho,hc,n,hd⟩,key⟩:=x;obtain⟨oa,h1,h2⟩:=xA key;exact⟨⟨t,rfl,o,q t o hc ho,hc,n,hd⟩,sF key λ o' e=>by rw[h1]at e;cases e;exact q _ _ h2 h1⟩
def putAll(xs:List Ent)(ps:List Ent):List Ent:=ps.foldl (λ xs p=>storedH xs p.1 p.2.1 p.2.2) xs
theorem lU(xs:List Ent)(p:Ent):(storedH xs p.1 p.2.1 p.2.2).length<=xs.length+1:=by
 unfold storedH;split
 ·simp
 ·simp
theorem xY(hu:A.in1.units < cLine)(hA:A.handled=none)(d it l:ww)(Yn:d≠it)(hli:l≠it)(hld:l≠d)(ay:List jp)(ps:List Ent)(hlen:ay.length=ps.length)(Ub:ps.length<=1000):∀(k i:Nat) (s:kt) (xs:List Ent),ps.length - i=k->i<=ps.length->xs.length<=i->s.heap.IsListIter it l i->s.heap.IsList l ay.toArray->s.heap.DictOfH (TK prog w) d xs->
   (∀(j:Nat) (u:jp) (p:Ent),ay[j]?=some u->ps[j]?=some p->lN prog w s.heap u p)->
   (∀h' tk,(∀b o,b≠d->b≠it->s.heap.get? b=some o->h'.get? b=some o)->h'.DictOfH (TK prog w) d (putAll xs (ps.drop i))->R (.ok (.ret .none)) {s with heap:=h',toks:=tk})->
   codeAny (model prog w) A (.builtin "dict.update.loop" ⟨[.ref d,.ref it,rawInt i,.none],[]⟩) R s:=by
 intro k
 induction k with
 |zero=>
  intro i s xs hk hi Tw hit hl hd hp hR;have e:i=ps.length:=by omega
  subst e;refine codeAny_builtin v_ ?_;rw[l9 mX _];refine K5 (m:=pyNext (.ref it)) (wpAny_pyNext_list_end (show A.in1.handled=none from hA) hit hl (by simp;omega) λ h' eb=>?_);refine K5 (m:=Builtin.Dict.addKeywords d []) (K6 (K6 ?_));refine hR h' s.toks (λ b o _ n2 q=>eb b o n2 q) ?_;rw[drop_length];obtain⟨o,es,ep,ho,r1,r2,r3,r4,r5⟩:=hd;refine⟨o,es,ep,eb d o Yn ho,r1,r2,r3,λ x hx=>?_,r5⟩;obtain⟨oa,h1,h2⟩:=xA (r4 x hx);refine sF (r4 x hx) λ o' e=>eb _ _ (λ z=>?_) e;rw[z]at h1;obtain⟨oi,g1,g2,_⟩:=hit;rw[g1]at h1;cases h1;rw[g2]at h2;exact absurd h2 (by decide)
 |succ k ih=>
  intro i s xs hk hi Tw hit hl hd hp hR;have kH:i < ps.length:=by omega
  have e1:ay[i]?=some ay[i]:=i8 (by omega);have e2:ps[i]?=some ps[i]:=i8 kH;refine codeAny_builtin v_ ?_;rw[l9 mX _];refine K5 (m:=pyNext (.ref it)) (wpAny_pyNext_list_item hit hl (x:=ay[i]) (by simpa using e1) λ g1 it1 s1=>?_);have Ww:pZ s.heap g1:=λ b o hc e=>s1.extBut _ _ (λ z=>by
   rw[z]at e;obtain⟨oi,q1,q2,_⟩:=hit;rw[q1]at e;cases e;rw[hc]at q2;exact absurd q2 (by decide)) e
  obtain⟨⟨t,et,⟨ct,dt,da,st⟩,ho,hc,n,tX⟩,key⟩:=(hp i _ _ e1 e2).fb Ww;cases(show ct=.type "tuple" from hc);cases(show da=_ from tX);have Rr:g1.IsList l ay.toArray:=hl.at λ o e=>s1.extBut _ _ hli e;have ZJ:g1.DictOfH (TK prog w) d xs:=by obtain⟨o,es,ep,ho,r1,r2,r3,r4,r5⟩:=hd;refine⟨o,es,ep,s1.extBut _ _ Yn ho,r1,r2,r3,λ x hx=>?_,r5⟩;obtain⟨oa,h1,h2⟩:=xA (r4 x hx);exact sF (r4 x hx) λ o' e=>by rw[h1]at e;cases e;exact Ww _ _ h2 h1
  rw[et];refine K5 (D6 (K5 (wpAny_tryCatch ?_)));unfold Builtin.Dict.pairItems;refine K5 (J7 (T:="tuple") ⟨_,ho,rfl⟩ ?_);rw[N3 (by decide)];refine K5 (D3 ho rfl (K6 ?_));show wpAny _ A.in1 (holding [Value.ref ps[i].2.1,ps[i].2.2] (dictSet d (.ref ps[i].2.1) ps[i].2.2)) _ _ _;refine D6 (wpAny_dictSet_heap (s:={s with heap:=g1}) (knd:=TK prog w) hu key ZJ (λ g2 d2 s2=>?_) (H9 (show xs.length<=1000 by omega) (by decide)));refine K6 ⟨plainId_quiet mX _,?_⟩;have od:∃o,g1.get? d=some o/\o.cls=.type "dict":=by obtain⟨o,es,ep,ho,r1,_⟩:=ZJ;exact⟨o,ho,r1.1⟩
  have ts2:pZ g1 g2:=λ b o hc e=>s2.extBut _ _ (λ z=>by
   rw[z]at e;obtain⟨oi,q1,q2⟩:=od;rw[q1]at e;cases e;rw[hc]at q2;exact absurd q2 (by decide)) e
  have hc1:((i:Int)+1)=((i+1:Nat):Int):=by push_cast;rfl
  show codeAny (model prog w) A (.builtin "dict.update.loop" ⟨[.ref d,.ref it,rawInt ((i:Int)+1),.none],[]⟩) R _;rw[hc1];refine ih (i+1) _ (storedH xs ps[i].1 ps[i].2.1 ps[i].2.2) (by omega) kH ?_ (it1.at λ o e=>s2.extBut _ _ (L9 Yn) e) (Rr.at λ o e=>s2.extBut _ _ hld e) d2 (λ j u p h1 h2=>((hp j u p h1 h2).fb Ww).fb ts2) λ h' tk Lk jc=>?_
  ·have:=lU xs ps[i];omega
  ·refine hR h' tk (λ b o n1 n2 e=>Lk b o n1 n2 (s2.extBut _ _ n1 (s1.extBut _ _ n2 e))) ?_;rw[i4 kH];exact jc
end
open PySem.W PySem.Calls PyProof.Rows
theorem KG{l:ww}{ps:List Ent}(hu:A.units+2 < cLine)(hA:A.handled=none)(hl:s.heap.IsList l ay.toArray)(hpl:∃o,s.heap.get? l=some o/\o.dict=none)(hlen:ay.length=ps.length)(Ub:ps.length<=1000) (hp:∀(j:Nat) (u:jp) (p:Ent),ay[j]?=some u->ps[j]?=some p->lN prog w s.heap u p) (h:∀h' tk,(∀b o,s.heap.get? b=some o->h'.get? b=some o)->h'.DictOfH (TK prog w) s.heap.objs.size (putAll [] ps)->s.heap.objs.size < h'.objs.size->Q (.ref s.heap.objs.size) {s with heap:=h',toks:=tk}):wpAny (model prog w) A (call (.type "dict") [.ref l]) Q E s:=by
 refine callType_codes (Q₁:=λ obj s₁=>obj=.ref s.heap.objs.size/\s₁={s with heap:=s.heap.push {cls:=.type "dict",data:=.dict #[]}}) F.kt_called_dict (F.kt_typeCall_dict_1 _) F.entry_dict_init (kt_code_dict_new _ ⟨rfl,rfl⟩) ?_;rintro obj s1 ⟨rfl,rfl⟩;have new:(s.heap.push {cls:=.type "dict",data:=.dict #[]}).DictOfH (TK prog w) s.heap.objs.size []:=Heap.DictOfH.new s.heap;refine⟨new.typeIs,F.args_dict_init_2 _ _,?_⟩;unfold Builtin.«dict.__init__»;refine K5 ?_;unfold Builtin.Dict.selfAndRest;refine K5 (wpAny_notOrdered_dict new.typeIs ?_);refine K6 (a:=(s.heap.objs.size,[Value.ref l])) ?_;obtain⟨ob,T4,hdn⟩:=hpl;obtain⟨⟨c,dd,da,sl⟩,ho,hc,n,tX⟩:=id hl;rw[ho]at T4;cases T4;cases(show c=.type "list" from hc);cases(show da=.seq ay.toArray n from tX);cases(show dd=none from hdn);have Gr:(s.heap.push {cls:=.type "dict",data:=.dict #[]}).get? l=some {cls:=.type "list",dict:=none,data:=.seq ay.toArray n,slots:=sl}:=j7 _ ho;show wpAny _ _ (Builtin.Dict.updateFrom "dict.__init__" s.heap.objs.size (.ref l) [] .none) _ _ _;unfold Builtin.Dict.updateFrom;refine K5 (J7 (T:="list") ⟨_,Gr,rfl⟩ ?_);rw[N3 (by decide)];refine K5 (Ku (s:={s with heap:=s.heap.push {cls:=.type "dict",data:=.dict #[]}}) Gr (show A.in1.handled=none from hA) λ g tk gk=>?_);rw[N3 (by rfl)];have k0:∀b o,s.heap.get? b=some o->g.get? b=some o:=λ b o e=>gk b o (j7 _ e);have ZF:g.IsList l ay.toArray:=hl.at λ o e=>k0 l o e;have dg:g.DictOfH (TK prog w) s.heap.objs.size []:=by obtain⟨o,es,ep,h1,r⟩:=new;exact⟨o,es,ep,gk _ _ h1,r.1,r.2.1,r.2.2.1,λ x hx=>absurd hx (by simp),r.2.2.2.2⟩
 have YH:s.heap.objs.size < g.objs.size:=by obtain⟨o,es,ep,h1,_⟩:=dg;exact G7 h1
 refine K5 (K7 (K5 (y6 (s:={s with heap:=g,toks:=tk}) ZF ?_)));refine K6 ⟨plainId_quiet mX _,?_⟩;have up:∀b o,g.get? b=some o->(g.push {cls:=.type "list_iterator",data:=.fields #[.ref l,.int 0 0]}).get? b=some o:=λ b o e=>j7 _ e;have eh:l≠s.heap.objs.size:=G6 (G7 ho);have kH:l < g.objs.size:=Nat.lt_trans (G7 ho) YH;refine xY (prog:=prog) (w:=w) (A:=A.in1) (by show A.units+1+1 < cLine;omega) (show A.in1.handled=none from hA) s.heap.objs.size g.objs.size l (G6 YH) (G6 kH) eh ay ps hlen Ub _ 0 {s with heap:=g.push {cls:=.type "list_iterator",data:=.fields #[.ref l,.int 0 0]},toks:=tk} [] rfl (K3 _) (K1 _) ⟨_,n9 _ rfl,rfl,rfl⟩ (ZF.at λ o e=>up l o e) ?_ ?_ ?_
 ·obtain⟨o,es,ep,h1,r⟩:=dg;exact⟨o,es,ep,up _ _ h1,r.1,r.2.1,r.2.2.1,λ x hx=>absurd hx (by simp),r.2.2.2.2⟩
 ·intro j u p e1 e2;exact(hp j u p e1 e2).fb λ b o _ e=>up b o (k0 b o e)
 ·intro h' zg Lk jc;have Yh:s.heap.objs.size < h'.objs.size:=by obtain⟨o,es,ep,h1,_⟩:=jc;exact G7 h1
  refine⟨rfl,h h' zg (λ b o e=>Lk b o (G6 (G7 e)) (G6 (Nat.lt_trans (G7 e) YH)) (up b o (k0 b o e))) jc Yh⟩
open PySem.W PySem.Calls PyProof.Rows
def Raw(g:Heap)(d:ww)(es:Array DictEntry)(ep:Nat):Prop:=∃b,g.get? d=some b/\b.ExactDict/\b.data=.dict es ep
theorem Raw.to{g g':Heap}{d:ww}{es:Array DictEntry}(x:Raw g d es ep)(q:∀b,g.get? d=some b->g'.get? d=some b):Raw g' d es ep:=let⟨b,h1,h2⟩:=x;⟨b,q b h1,h2⟩
theorem Raw.ty{d:ww}{es:Array DictEntry}(x:Raw s.heap d es ep):s.TypeIs (.ref d) "dict":=let⟨b,h1,h2,_⟩:=x;⟨b,h1,h2.1⟩
theorem Raw.lt{g:Heap}{d:ww}{es:Array DictEntry}(x:Raw g d es ep):d < g.objs.size:=let⟨b,h1,_⟩:=x;G7 h1
theorem El{d:ww}{es:Array DictEntry}(nd:(d==sysModules)=false)(x:Raw s.heap d es ep) (fin:Q (.ref s.heap.objs.size) {s with heap:=s.heap.push {cls:=.type "dict_keyiterator",data:=.fields #[.ref d,.int 0 0,.int es.size 0,.int ep 0]}}):wpAny (model prog w) A (pyIter (.ref d)) Q E s:=by obtain⟨b,hb,xb,db⟩:=id x;refine wpAny_pyIter_slot x.ty F.slot_dict_iter (A6 F.slot_dict_iter x.ty F.entry_dict_iter ?_ (F.args_dict_iter_1 _));unfold Builtin.«dict.__iter__»;refine K5 ?_;unfold Builtin.Dict.dictSlotNone;refine K5 (wpAny_notOrdered_dict x.ty ?_);refine K6 (a:=Value.ref d) ?_;show wpAny (model prog w) _ (Builtin.Dict.showsAll d >>= _) _ _ s;unfold Builtin.Dict.showsAll;rw[N4 (by simp[nd])];refine K5 (K6 (K5 (wpAny_dictEntries hb db (K5 (wpAny_dictEpoch hb db ?_)))));refine K5 (y0 (K6 ⟨_,rfl,"dict_keyiterator",_,⟨_,n9 _ rfl,rfl⟩,c4.lookup,?_⟩));simpa[rawInt]using fin
theorem vg{it d:ww}{es:Array DictEntry}{Q:Option jp->kt->Prop}(ki:s.heap.IsKeyIter it d i n ep)(x:Raw s.heap d es ep)(en:n=es.size) (hi:∀e:DictEntry,es[i]?=some e->∀g,g.IsKeyIter it d (i+1) n ep->Heap.SameBut it s.heap g->Q (some e.key) {s with heap:=g}) (hn:A.handled=none) (he:es[i]?=none->∀g,Heap.ExtBut it s.heap g->Q none {s with heap:=g}):wpAny (model prog w) A (pyNext (.ref it)) Q E s:=by
 subst en;obtain⟨oi,gi,ci,di⟩:=id ki;obtain⟨b,hb,xb,db⟩:=id x;unfold pyNext;refine K5 (D7 (j2 (name:=Str.ofString "__next__") ki.typeIs c4
  (A6 c4 ki.typeIs F.entry_dict_keyiterator_next ?_ (F.args_dict_keyiterator_next_1 _))))
 refine K5 (K6 (K5 (K5 ?_)))
 first|refine K5 (a9 ki.typeIs (K6 ?_))|refine K5 (wpAny_typeNameOf_keyiter ki.typeIs (K6 ?_))
 refine K5 (wpAny_fieldsOf gi di ?_);have own:Builtin.Dict_items.ownsTuple "dict_keyiterator"=false:=rfl;simp only[own,L7,q9];show wpAny (model prog w) _ (if(Value.ref d==Value.none)=true then _ else _) _ _ s;rw[N4 (by exact p9)];refine K5 (K6 (K5 (wpAny_dictEntries hb db ?_)));rw[N4 (by simp)];refine K5 (K6 (K5 (wpAny_dictEpoch hb db ?_)));rw[N4 (by simp)];refine K6 ?_;have nn:¬((i:Int) < 0):=by omega
 by_cases lt:i < es.size
 ·simp only[nn,L7,x9,i0 lt];refine K5 ?_
  first|refine K5 (a9 ki.typeIs (K6 ?_))|refine K5 (wpAny_typeNameOf_keyiter ki.typeIs (K6 ?_))
  refine K5 (wpAny_isOneOf_keyiter ki.typeIs ?_);show wpAny (model prog w) _ (setField (.ref it) 1 (rawInt ((i:Int)+1)) >>= _) _ _ s;refine K5 (D5 gi di (by simp) ?_);have k2:(s.heap.update it (Obj.mapFields (·.setIfInBounds 1 (rawInt ((i:Int)+1))))).IsKeyIter it d (i+1) es.size ep:=
   ⟨_,k4 _ gi (l6 (v8 di _)),(Obj.cls_mapFields ..).trans ci,by rw[v8 di];simp[rawInt]⟩
  refine K5 (D6 (K5 (wpAny_isOneOf_keyiter (s:={s with heap:=s.heap.update it (Obj.mapFields (·.setIfInBounds 1 (rawInt ((i:Int)+1))))}) k2.typeIs ?_)));show wpAny (model prog w) _ (pure es[i].key) _ _ _;exact K6 (K6 ⟨_,rfl,K6 (hi _ (i0 lt) _ k2 (m9 ..))⟩)
 ·have ge:es.size<=i:=A2 lt;simp only[nn,L7,x9,j6 ge];refine K5 ?_
  first|refine K5 (a9 ki.typeIs (K6 ?_))|refine K5 (wpAny_typeNameOf_keyiter ki.typeIs (K6 ?_))
  show wpAny (model prog w) _ (setField (.ref it) 0 .none >>= _) _ _ s;refine K5 (D5 gi di (by simp) ?_);show wpAny (model prog w) _ (newExc (.type "StopIteration") [] >>= _) _ _ _;refine K5 ?_;simp only[newTuple,newExc];refine K5 (y0 ?_ (by size_fits));refine K5 (m:=firstArgMember _ _) (wpAny_of_eq (a:=Value.none) (by first|rfl|(simp only[firstArgMember];rfl)) (y0 ?_ (by size_fits)));simp only[raiseNew];refine K5 (wpAny_handled ?_);rw[show A.in1.handled=none from hn];refine K5 (K6 (wpAny_throw ?_));refine K5 (wpAny_isInstance (b:=true) (T:="StopIteration") ⟨_,n9 _ rfl,rfl⟩ isSubtype_stop ?_);exact K6 (he (j6 ge) _ (((m9 ..).extBut.push _).push _))
theorem Ek(hn:A.handled=none)(I d:ww)(ne:d≠I)(es:Array DictEntry)(ep:Nat):Walks prog w A I [I,d] [I] es.size (λ i v=>∃e,es[i]?=some e/\v=e.key) (λ i g=>g.IsKeyIter I d i es.size ep/\Raw g d es ep) where
 sub:=λ b m=>by simp at m;simp[m]
 frame:=λ _ _ _ st k=>⟨st.1.at λ o e=>k I (by simp) o e,st.2.to λ o e=>k d (by simp) o e⟩
 item:=λ i s Q E lt st fin=>vg st.1 st.2 rfl (λ e ee g k2 sb=>fin e.key g s.toks ⟨e,ee,rfl⟩ ⟨k2,st.2.to λ o q=>sb.extBut d o ne q⟩ λ b o m q=>sb.extBut b o (λ z=>m (by simp[z])) q) hn λ e=>absurd e (by rw[i0 lt];exact λ z=>nomatch z)
 done:=λ s Q E st fin=>vg st.1 st.2 rfl (λ e ee=>absurd ee (by rw[j6 (K1 _)];exact λ z=>nomatch z)) hn λ _ g sb=>fin g s.toks λ b o m q=>sb b o (λ z=>m (by simp[z])) q
 self:=λ _ _ _ _ st fin=>wpAny_pyIter_keyiter st.1 fin
theorem Jz{d:ww}{es:Array DictEntry}(nd:(d==sysModules)=false):KdlSrc prog w "dict" d d es.size (λ i v=>∃e,es[i]?=some e/\v=e.key) (λ g=>Raw g d es ep) where
 type:=λ _ x=>x.ty
 there:=λ _ x=>⟨x.lt,x.lt⟩
 keep:=λ _ _ x k=>x.to λ o e=>k d (.inl rfl) o e
 notList:=by decide
 notTuple:=by decide
 hint:=λ _ _ _ _ x q=>kdl_hint_dict x.ty q
 iter:=λ _ _ hn x=>⟨_,_,(λ _ _ q=>El nd x q),Ek hn _ d (G6 x.lt) es ep,⟨⟨_,n9 _ rfl,rfl,rfl⟩,x.to λ o e=>j7 _ e⟩⟩
theorem Bt{es:Array DictEntry}{zn:Array jp}(it:ItemsOf (λ i v=>∃e,es[i]?=some e/\v=e.key) zn es.size):zn.toList=es.toList.map (·.key):=by
 apply ext_getElem?;intro i;by_cases lt:i < zn.size
 ·have le:i < es.size:=by rw[<- it.1];exact lt
  obtain⟨e,e1,e2⟩:=it.2 i zn[i] (i0 lt);rw[k9,i0 lt,x6,k9,e1,e2];rfl
 ·have le:¬i < es.size:=by rw[<- it.1];exact lt
  rw[k9,j6 (A2 lt),x6,k9,j6 (A2 le)];rfl
theorem wC{d:ww}{es:Array DictEntry}{R:List jp->kt->Prop}(nd:(d==sysModules)=false)(hn:A.handled=none)(x:Raw s.heap d es ep)(hz:es.size<=sizeLine) (h:∀g tk,(∀b o,s.heap.get? b=some o->g.get? b=some o)->R (es.toList.map (·.key)) {s with heap:=g,toks:=tk}):wpAny (model prog w) A (collect (.ref d)) R E s:=by refine kdu_collect (Jz nd) hn x hz λ g tk zn k it=>?_;have e:=Bt it;rw[e];exact h g tk k
open PySem.W PySem.Calls PyProof.Rows
theorem IH{d q:ww}{es:Array DictEntry}{ep:Nat}{Q:jp->kt->Prop}(nd:(d==sysModules)=false)(hn:A.handled=none)(x:Raw s.heap d es ep)(HW:es.size < 64) (h:∀(Dd kS:ww) (g0 g:Heap) (tk e1:Nat),(∀b o,s.heap.get? b=some o->g0.get? b=some o)->Dd≠kS->g0.objs.size<=Dd->g0.objs.size<=kS->g.get? Dd=some (seqObj "list" #[] e1)->g.get? kS=some (seqObj "list" #[] 0)->(∀b o,s.heap.get? b=some o->g.get? b=some o)->
   wpAny (model prog w) A.in1.in1 (ksk_rest Dd (.ref q) false (es.toList.map (·.key)).toArray e1 (.ref kS)) (λ f s'=>f=.done (.ret .none)/\Q (.ref Dd) s') E {s with heap:=g,toks:=tk}):
  wpAny (model prog w) A (call (.builtin "sorted") [.ref d] [(Str.ofString "key",.ref q)]) Q E s:=by
 refine call_function_entry_kw kind_sorted plain_sorted entry_sorted (ksk_s1 _ _) ?_;unfold Builtin.«sorted»;have hlen:(es.toList.map (·.key)).length=es.size:=by simp
 refine K5 (m:=checkCount "sorted" 1 1 _) (K6 (K5 (wC nd (show A.in1.handled=none from hn) x (by rw[K2];omega) λ g tk gk=>K5 (wpAny_newList ?_ (by rw[hlen,K2];omega)))));generalize Zv:es.toList.map (·.key)=vs at*;have Yf:g.objs.size≠g.objs.size+2:=by omega
 have g1:(g.push (seqObj "list" vs.toArray 0)).get? g.objs.size=some (seqObj "list" vs.toArray 0):=n9 _ rfl;refine K5 (D6 (wpAny_call_entry_kw slot_list_sort ⟨_,g1,rfl⟩ entry_list_sort ?body (ksk_l1 _ _)))
 case body=>
  show wpAny (model prog w) A.in1.in1 (Builtin.«list.sort» ⟨[.ref g.objs.size],[(Str.ofString "key",.ref q)]⟩) _ _ _;rw[ksk_t1];unfold ksk_tree;generalize hH:g.push (seqObj "list" vs.toArray 0)=H at*;have eH:H.objs.size=g.objs.size+1:=by rw[<- hH,size_push']
  obtain⟨c1,o1⟩:∃c1,(H.update g.objs.size (Obj.mapSeq λ _=>(#[]:Array jp))).get? g.objs.size=some (seqObj "list" #[] c1):=⟨_,get?_update_seq g1 λ _=>#[]⟩;refine K5 (listItems_at g1 rfl (K5 (listUpdate_at g1 rfl (K5 (seqEpoch_at o1 rfl (K5 (wpAny_newTuple (K5 (wpAny_newList (D6 ?_) (K3 _))) (by show vs.length<=_;rw[K2];omega))))) (by rw[y9,K2];omega) (K3 _))));have e2:(H.update g.objs.size (Obj.mapSeq λ _=>(#[]:Array jp))).objs.size=g.objs.size+1:=by rw[Heap.size_update,eH]
  have e3:((H.update g.objs.size (Obj.mapSeq λ _=>(#[]:Array jp))).push (seqObj "tuple" vs.toArray 0)).objs.size=g.objs.size+2:=by rw[size_push',e2]
  have g3:(((H.update g.objs.size (Obj.mapSeq λ _=>(#[]:Array jp))).push (seqObj "tuple" vs.toArray 0)).push (seqObj "list" #[] 0)).get? (g.objs.size+2)=some (seqObj "list" #[] 0):=by rw[<- e3];exact n9 _ rfl
  show wpAny (model prog w) A.in1.in1 (ksk_rest g.objs.size (.ref q) false vs.toArray c1 (.ref ((H.update g.objs.size (Obj.mapSeq λ _=>(#[]:Array jp))).push (seqObj "tuple" vs.toArray 0)).objs.size)) _ _ {s with heap:=((H.update g.objs.size (Obj.mapSeq λ _=>(#[]:Array jp))).push (seqObj "tuple" vs.toArray 0)).push (seqObj "list" #[] 0),toks:=tk};rw[e3];refine K9 (h g.objs.size (g.objs.size+2) g _ tk c1 gk Yf (K1 _) (Nat.le_add_right _ _) (j7 _ (j7 _ o1)) g3 λ b o y=>j7 _ (j7 _ (by
   have hb:b < g.objs.size:=G7 (gk b o y);rw[Heap.get?_update_ne _ _ _ _ (G6 hb),<- hH];exact j7 _ (gk b o y)))) (λ f s' hf=>?_) λ _ _ z=>z
  obtain⟨rfl,hq⟩:=hf;exact⟨_,rfl,K6 ⟨_,rfl,hq⟩⟩
end L5
namespace L2
open PySem.Spec PyProof.Rows L5 PySem.W
def Goes(X:Cx)(q l:ww)(ay:List jp)(s:kt):Prop:=∀(Q:jp->kt->Prop),
 (∀(Dd kS:ww) (g0 g:Heap) (tk e1:Nat),(∀b o,s.heap.get? b=some o->g0.get? b=some o)->Dd≠kS->g0.objs.size<=Dd->g0.objs.size<=kS->g.get? Dd=some (seqObj "list" #[] e1)->g.get? kS=some (seqObj "list" #[] 0)->(∀b o,s.heap.get? b=some o->g.get? b=some o)->
  wpAny (model X.prog X.w) X.A.in1.in1 (ksk_rest Dd (.ref q) false ay.toArray e1 (.ref kS)) (λ f s'=>f=.done (.ret .none)/\Q (.ref Dd) s') X.xe {s with heap:=g,toks:=tk})->
 wpAny (model X.prog X.w) X.A (call (.builtin "sorted") [.ref l] [(Str.ofString "key",.ref q)]) Q X.xe s
theorem yO(F:bo X.prog X.w X.K X.mg X.base dJ k q fd ps sp)(hb:Binds X.K fd ps [])(hr:bJ (k+2) X.A){l:ww}{ys:List V}{Q:VK}(I:be X xz σ H s)(rv:cr ys ay)(go:Goes X q l ay s)(HW:ys.length < 64)(R:List V->Hp->Prop)(key:Nat->Ky)(h0:R [] H) (hc:∀aA H v,R aA H->ys[aA.length]?=some v->sp [v] H (λ k H'=>R (aA++[k]) H') E0) (hk:∀aA H,R aA H->aA.length=ys.length->(∀i k,aA[i]?=some k->qg X.K b H k (key i))/\∀p out,H p=none->Out (λ i j=>klt (key i) (key j)) ys V.bu out->Q (.ref p) (dl H p (.lst out))):wpAny (model X.prog X.w) X.A (call (.builtin "sorted") [.ref l] [(Str.ofString "key",.ref q)]) (EP X xz σ Q) X.xe s:=by
 have hlen:=rv.length;have hu:=hr.units;have room:bJ k X.A.in1.in1:=(hr.in1 (k:=k+1)).in1;refine go _ λ Dd kS g0 g tk e1 gk0 eh lD lK gD gK gk=>?_;have I0:be X xz σ H {s with heap:=g0,toks:=tk}:=I.kept (t':=tk) gk0;have f1:=I0.lB (H':=λ _=>none) (b:=Dd) lD rfl;have f3:=I0.lB (H':=λ _=>none) (b:=kS) lK rfl;refine KR (J:=λ ks e s'=>∃aA H',be X ((kS,seqObj "list" (List.toArray ks) e)::(Dd,seqObj "list" #[] e1)::xz) σ H' s'/\cr aA ks/\R aA H'/\ks.length<=ay.length) (by omega) ?_ ?_ ?_ ?_
 ·rintro ks e s' ⟨aA,H',I',rk,hR,B'⟩;exact⟨(I'.pin _ (k7 _ (.head _))).1,B'⟩
 ·rintro x ks e s' ⟨aA,H',I',rk,hR,B'⟩ hx;have lk:=rk.length;obtain⟨y,hy,ry⟩:∃y,ys[aA.length]?=some y/\bv y x:=by
   have hi:aA.length < ys.length:=by have:=(i5.mp hx).1;omega
   obtain⟨u,Ro,ru⟩:=rv.get (i8 hi);rw[lk,hx]at Ro;cases Ro;exact⟨_,i8 hi,ru⟩
  have call:=hc aA H' y hR hy;have r1:cr [y] [x]:=.cons ry .nil;have hps:([x]++([]:List jp)).length=ps.length:=by have:=F.len _ _ _ _ call;simpa using this
  have en:qh X.prog X.w X.K X.mg X.base X.A.in1.in1 X.stack s' H':=I'.LB.in1.in1;have bt:=hb s' [x] I'.hV hps;rw[B2]at bt;refine L6 (J8 (F.run X.A.in1.in1 X.stack s' H' ⟨[x],[]⟩ [x] [y] _ E0 room en bt r1 call) λ r s2 hq=>?_);cases r with
  |error e=>exact hq
  |ok fl=>
   cases fl with
   |ret u=>
    obtain⟨kv,H2,I2,ru,hR2⟩:=I'.after hq;have pk:=I2.pin _ (k7 _ (p0 ..));refine⟨pk.1,λ h' c hh' sb=>⟨aA++[kv],H2,?_,rk.append (.cons ru .nil),hR2,?_⟩⟩
    ·have I3:be X ((Dd,seqObj "list" #[] e1)::xz) σ H2 s2:=I2.eS λ p hp=>I2.pin p (k7 _ (.tail _ hp));have pd:=I2.pin _ (k7 _ (List.Mem.tail _ (p0 ..)));have fk:ic X ((Dd,seqObj "list" #[] e1)::xz) H2 (kS):=⟨pk.2.1,f3.2.1,f3.2.2.1,f3.2.2.2.1,f3.2.2.2.2.1,λ p hp=>by
      rcases C3.mp hp with z|z
      ·exact f3.2.2.2.2.2 p (mem_append_left _ z)
      ·rcases G0.mp z with rfl|z
       ·exact eh
       ·exact f3.2.2.2.2.2 p (k7 _ z)⟩
     have I4:be X ((Dd,seqObj "list" #[] e1)::xz) σ H2 {s2 with heap:=h'}:=lS (t':=s2.toks) (ch:=[kS]) I3 (λ b o hb e=>(sb.2 b (λ z=>hb (by simp[z]))).trans e) λ b HS=>by
      have:b=kS:=by simpa using HS
      subst this;exact fk
     refine I4.eS λ p hp=>?_;rcases G0.mp hp with rfl|z
     ·exact⟨hh',pk.2.1,f3.2.1,f3.2.2.1,λ v z=>by cases z⟩
     ·exact I4.pin p (k7 _ z)
    ·have:=(i5.mp hx).1;rw[q8,k8];omega
   |next=>exact hq.elim
   |brk=>exact hq.elim
   |cont=>exact hq.elim
 ·have I5:be X xz σ H {s with heap:=g,toks:=tk}:=I.kept (t':=tk) gk;have hn:∀b,g0.objs.size<=b->H b=none:=λ b hb=>I0.bj.fresh hb;refine⟨[],H,I5.eS λ p hp=>?_,.nil,h0,K3 _⟩;rcases G0.mp hp with rfl|z
  ·exact⟨gK,hn _ lK,f3.2.1,f3.2.2.1,λ v z=>by cases z⟩
  ·rcases G0.mp z with rfl|z
   ·exact⟨gD,hn _ lD,f1.2.1,f1.2.2.1,λ v z=>by cases z⟩
   ·exact I5.pin p (k7 _ z)
 ·rintro ks e s' ⟨aA,H',I',rk,hR,_⟩ B';have lk:=rk.length;obtain⟨Gw,hQ⟩:=hk aA H' hR (by omega);have pk:=I'.pin _ (k7 _ (p0 ..));have pd:=I'.pin _ (k7 _ (List.Mem.tail _ (p0 ..)));have Zw:X.A.in1.in1.units+1 < cLine:=by have:=room.units;omega
  refine PJ (κ:=tuples' true) (KU key) B' (by omega) pk.1 pd.1 eh (λ h2 C hC=>?_) (λ h2 i j C hi hj hC=>?_) λ out h' c ho hD Ud=>⟨rfl,?_⟩
  ·obtain⟨fs,t1,t2,t3⟩:=vM I' rk Gw;refine kat_kind (T:=.type "int") t1 (by omega) (λ v hv=>?_) rfl hC;obtain⟨i,t,rfl⟩:=t3 v hv;exact(show Looks _ s'.heap (pure (Value.type "int")) _ from .now)
  ·have gi:∀i,i < ay.length->∃k u,aA[i]?=some k/\ks.getD i Value.none=u/\bv k u:=λ i hi=>by
    have Uh:i < aA.length:=by omega
    obtain⟨u,e,r⟩:=rk.get (i8 Uh);exact⟨_,u,i8 Uh,by rw[c8,e];rfl,r⟩
   obtain⟨k1,u1,a1,a2,a3⟩:=gi i hi;obtain⟨k2,u2,b1,b2,b3⟩:=gi j hj;rw[a2,b2];exact PN I' Zw (Gw i k1 a1) (Gw j k2 b1) a3 b3 hC
  ·obtain⟨p,p1,p2,p3⟩:=ho;subst p3;have I6:be X xz σ H' s':=I'.eS λ p hp=>I'.pin p (k7 _ (.tail _ (.tail _ hp)));have I7:be X xz σ H' {s' with heap:=h'}:=lS (t':=s'.toks) (ch:=[Dd,kS]) I6 (λ b o hb e=>Ud b o (λ z=>hb (by simp[z])) (λ z=>hb (by simp[z])) e) λ b HS=>by
    simp at HS;rcases HS with rfl|rfl
    ·exact⟨pd.2.1,f1.2⟩
    ·exact⟨pk.2.1,f3.2⟩
   have rv':cr (p.toList.map λ i=>ys.getD i V.bu) (p.toList.map λ i=>ay.getD i Value.none):=Dq rv _;have XU:(p.toList.map λ i=>ys.getD i V.bu).length<=sizeLine:=by rw[C2,n6,p1.size,K2];omega
   refine⟨.ref (Dd),_,be.uP (D:=Dd) (o:=.lst (p.toList.map λ i=>ys.getD i V.bu)) I7 pd.2.1 (show _/\∃(ay:List jp) (n:Nat),cr _ ay/\_ from⟨XU,_,c,rv',hD⟩) f1.2.1 (H9 I0.sz lD) f1.2.2.2.2.1 f1.2.2.2.2.2,rfl,hQ _ _ pd.2.1 ⟨p,by rw[hlen];exact p1,by rw[hlen];exact p2,rfl⟩⟩
end L2
namespace L5
open PySem
section
variable {β γ:Type}[DecidableEq α][DecidableEq γ]
def j_(zn:List (α×β))(p:α×β):List (α×β):=if p.1∈zn.map (·.1)then zn else zn++[p]
def fw(ps:List (α×β)):List (α×β):=ps.foldl j_ []
def iE(zn:List γ)(r:γ):List γ:=if r∈zn then zn else zn++[r]
def once(rs:List γ):List γ:=rs.foldl iE []
theorem BL{zn:List (α×β)}{p q:α×β}(h:q∈j_ zn p):q∈zn\/q=p:=by
 unfold j_ at h;split at h
 ·exact .inl h
 ·simpa using h
theorem vC:∀(ps zn:List (α×β)) (q:α×β),q∈ps.foldl j_ zn->q∈zn\/q∈ps
 |[],_,_,h=>.inl h
 |p::ps,zn,q,h=>by
  rcases vC ps _ q h with h|h
  ·rcases BL h with h|h
   ·exact .inl h
   ·exact .inr (by simp[h])
  ·exact .inr (by simp[h])
theorem yj{ps:List (α×β)}{q:α×β}(h:q∈fw ps):q∈ps:=by
 rcases vC ps [] q h with h|h
 ·cases h
 ·exact h
theorem rG(F:γ->α)(inj:∀a b,F a=F b->a=b):∀(ps zn:List (α×β)) (rs ac:List γ),zn.map (·.1)=ac.map F->ps.map (·.1)=rs.map F->(ps.foldl j_ zn).map (·.1)=(rs.foldl iE ac).map F
 |[],_,[],_,h,_=>h
 |[],_,_::_,_,_,e=>by simp at e
 |_::_,_,[],_,_,e=>by simp at e
 |p::ps,zn,r::rs,ac,h,e=>by
  simp only[F9,List.cons.injEq]at e;refine rG F inj ps _ rs _ ?_ e.2;have iff:p.1∈zn.map (·.1)↔r∈ac:=by
   rw[h,e.1,G8];constructor
   ·rintro⟨a,ha,hb⟩;rw[<- inj _ _ hb];exact ha
   ·exact λ ha=>⟨r,ha,rfl⟩
  unfold j_ iE;by_cases m:r∈ac
  ·rw[N3 m,N3 (iff.mpr m)];exact h
  ·rw[N4 m,N4 (λ z=>m (iff.mp z))];simp[h,e.1]
theorem vW(F:γ->α)(inj:∀a b,F a=F b->a=b){ps:List (α×β)}{rs:List γ}(e:ps.map (·.1)=rs.map F):(fw ps).map (·.1)=(once rs).map F:=rG F inj ps [] rs [] rfl e
theorem qZ:∀(rs zn:List γ) (q:γ),q∈rs.foldl iE zn->q∈zn\/q∈rs
 |[],_,_,h=>.inl h
 |p::ps,zn,q,h=>by
  rcases qZ ps _ q h with h|h
  ·unfold iE at h;split at h
   ·exact .inl h
   ·rcases C3.mp h with h|h
    ·exact .inl h
    ·exact .inr (by simp at h;simp[h])
  ·exact .inr (by simp[h])
theorem vB{rs:List γ}{q:γ}(h:q∈once rs):q∈rs:=by
 rcases qZ rs [] q h with h|h
 ·cases h
 ·exact h
theorem rh:∀(rs zn:List γ),(rs.foldl iE zn).length<=zn.length+rs.length
 |[],_=>by simp
 |p::ps,zn=>by
  have h:=rh ps (iE zn p);have h2:(iE zn p).length<=zn.length+1:=by unfold iE;split <;> simp
  simp only[foldl_cons,A3];omega
theorem FI(rs:List γ):(once rs).length<=rs.length:=by have:=rh rs [];simpa[once]using this
end
def ka(x:Ent):List L2.Key×ww:=(x.1,x.2.1)
theorem PU(k:List L2.Key)(v:jp)(x:Ent):ka (putAt k v x)=ka x:=by unfold putAt ka;split <;> rfl
theorem Hs(xs:List Ent)(k:List L2.Key):(atKey xs k).isSome=true↔k∈(xs.map ka).map (·.1):=by
 unfold atKey;rw[y8,find?_isSome];constructor
 ·rintro⟨x,hx,e⟩;refine G8.mpr ⟨ka x,G8.mpr ⟨x,hx,rfl⟩,of_decide_eq_true e⟩
 ·intro h;obtain⟨p,hp,e⟩:=G8.mp h;obtain⟨x,hx,rfl⟩:=G8.mp hp;exact⟨x,hx,D1 e⟩
theorem BQ(xs:List Ent)(p:Ent):(storedH xs p.1 p.2.1 p.2.2).map ka=j_ (xs.map ka) (ka p):=by
 unfold storedH j_;by_cases h:(atKey xs p.1).isSome=true
 ·rw[N3 h,N3 (show(ka p).1∈_ from(Hs xs p.1).mp h),G9];exact o8 λ x _=>PU _ _ x
 ·rw[N4 h,N4 (show ¬(ka p).1∈(xs.map ka).map (·.1)from λ z=>h ((Hs xs p.1).mpr z)),C4];rfl
theorem FQ:∀(ps xs:List Ent),(putAll xs ps).map ka=(ps.map ka).foldl j_ (xs.map ka)
 |[],_=>rfl
 |p::ps,xs=>by show(putAll (storedH xs p.1 p.2.1 p.2.2) ps).map ka=_;rw[FQ ps,BQ];rfl
theorem zV:∀(ps xs:List Ent),(putAll xs ps).length<=xs.length+ps.length
 |[],_=>by simp[putAll]
 |p::ps,xs=>by have h:=zV ps (storedH xs p.1 p.2.1 p.2.2);have h2:=lU xs p;have e:putAll xs (p::ps)=putAll (storedH xs p.1 p.2.1 p.2.2) ps:=rfl;rw[e,A3];omega
end L5
namespace L2
open PySem.Spec PyProof.Rows L5 PySem.W
def jB(K:N5)(H:Hp):List V->List (List Key×ww)->Prop
 |[],[]=>True
 |y::ys,p::ps=>(∃(t:ww) (v:V) (r:List Int),y=.ref t/\gh K H t [.ref p.2,v]/\p.1=r.map Sum.inl/\gh K H p.2 (r.map V.int))/\jB K H ys ps
 |_,_=>False
theorem jB.row:∀{ys:List V} {ps:List (List Key×ww)},jB K H ys ps->∀p∈ps,∃r:List Int,p.1=r.map Sum.inl/\gh K H p.2 (r.map V.int)
 |[],[],_,_,m=>by cases m
 |[],_::_,h,_,_=>h.elim
 |_::_,[],h,_,_=>h.elim
 |y::ys,q::ps,⟨⟨t,v,r,_,_,h1,h2⟩,h⟩,p,m=>by
  rcases G0.mp m with rfl|m
  ·exact⟨r,h1,h2⟩
  ·exact jB.row h p m
theorem pb:∀{ay:List jp} {r:List Int},cr (r.map V.int) ay->ItemsAre (cz prog w) (r.map Sum.inl) ay
 |ay,[],h=>by cases h;exact .nil
 |ay,i::r,h=>by
  cases h with
  |cons h1 h2=>obtain⟨t,rfl⟩:=h1;exact .cons (lY prog w i t) (pb h2)
theorem oJ(I:be X xz σ H s):∀{ys:List V} {kp:List (List Key×ww)} {ay:List jp},jB X.K H ys kp->cr ys ay->∃ps:List Ent,ps.map ka=kp/\ay.length=ps.length/\∀(j:Nat) (u:jp) (p:Ent),ay[j]?=some u->ps[j]?=some p->lN X.prog X.w s.heap u p
 |[],[],_,_,.nil=>⟨[],rfl,rfl,λ j u p h=>by simp at h⟩
 |[],_::_,_,h,_=>h.elim
 |_::_,[],_,h,_=>h.elim
 |y::ys,q::kp,_,h0,.cons (b:=u0) e0 er=>by
  obtain⟨⟨t,v,r,rfl,h1,h2,h3⟩,h⟩:=h0;obtain⟨ps,p1,p2,p3⟩:=oJ I h er;cases(show u0=Value.ref t from e0);obtain⟨i2,r2,⟨o,ho,hc,n,hd⟩,_⟩:=I.tuple h1;obtain⟨u1,u2,rfl,q1,q2⟩:=vals2 r2;cases(show u1=Value.ref q.2 from q1);obtain⟨i3,r3,⟨o3,ho3,hc3,n3,HR⟩,_⟩:=I.tuple h3;refine⟨(q.1,q.2,u2)::ps,by simp[ka,p1],by simp[p2],λ j u p e1 e2=>?_⟩;cases j with
  |zero=>simp at e1 e2;subst e1 e2;refine⟨⟨t,rfl,o,ho,hc,n,hd⟩,o3,i3.toArray,n3,ho3,hc3,HR,?_⟩;rw[h2];exact pb r3
  |succ j=>exact p3 j u p (by simpa using e1) (by simpa using e2)
section
variable {te:TE}{p eL fp kp:Pos}{f:Str}
def sY(K:N5)(sp:Sp)(x:V)(H:Hp)(Q:VK):Prop:=∃(l:ww) (ys zs:List V) (kp:List (List Key×ww)) (b:Bool) (R:List V->Hp->Prop) (key:Nat->Ky),x=.ref l/\dr K H l ys/\ys.length < 64/\jB K H ys kp/\zs=(fw kp).map (λ p=>V.ref p.2)/\R [] H/\
 (∀aA H v,R aA H->zs[aA.length]?=some v->sp [v] H (λ k H'=>R (aA++[k]) H') E0)/\
 ∀aA H,R aA H->aA.length=zs.length->(∀i k,aA[i]?=some k->qg K b H k (key i))/\∀p out,H p=none->Out (λ i j=>klt (key i) (key j)) zs V.bu out->Q (.ref p) (dl H p (.lst out))
theorem qM:∀as:List ww,cr (as.map V.ref) (as.map Value.ref)
 |[]=>.nil
 |a::as=>.cons rfl (qM as)
theorem vj(d:br X.prog X.w X.K X.mg X.base k f ps sp)(hr:bJ (k+2) X.A)(hg:Gl X "sorted")(hm:X.mg "sorted"=none)(Uj:Gl X "dict")(T_:X.mg "dict"=none)(Ui:Gl X f)(he:PE X e te)(Gy:(f==("__debug__":Str))=false:=by decide) (hs:starEach [.Call (.Name "dict" p2) [e] [] eL] X.env=[(false,eval (.Call (.Name "dict" p2) [e] [] eL) X.env)]:=by rfl) (Gm:backTo pos (starEach [.Call (.Name "dict" p2) [e] [] eL] X.env)=(false,eval (.Call (.Name "dict" p2) [e] [] eL) X.env)::backTo pos (starEach [] X.env):=by rfl) (mH:(backTo pos (starEach [.Call (.Name "dict" p2) [e] [] eL] X.env)).any (·.1)=false:=by rfl) (ht:starEach [e] X.env=[(false,eval e X.env)]:=by rfl) (TB:starEach [e] X.env=(false,eval e X.env)::starEach [] X.env:=by rfl) (Qd:(backTo eL (starEach [] X.env)).any (·.1)=false:=by rfl):PE X (.Call (.Name "sorted" p) [.Call (.Name "dict" p2) [e] [] eL] [⟨some "key",.Name f fp,kp⟩] pos) (λ σ H Q=>te σ H λ x H1=>sY X.K sp x H1 Q):=by
 intro xz s σ H Q I h;obtain⟨q,fd,G,hmf,kq,bd⟩:=d.ex;refine u5 (iD I hg hm PyProof.Rows.boot_sorted ?_ (by decide) (by decide));refine PyProof.Rows.callWith_kw ?_ Gm mH;rw[hs];show wpAny _ _ (spliced ((false,eval (.Call (.Name "dict" p2) [e] [] eL) X.env)::[])) _ _ s;refine Calls.spliced_cons (u5 (iD I Uj T_ PyProof.Rows.boot_dict ?_ (by decide) (by decide)));refine c5 (cm ((aO he cj (by rw[ht];rfl)) eL xz s σ H (λ vs H1=>match vs with|[x]=>sY X.K sp x H1 Q|_=>False) I h) λ us s1 ⟨vs,H1,I1,r1,q1⟩=>?_) TB Qd;cases vs with
 |nil=>exact q1.elim
 |cons x vs=>
  cases vs with
  |cons _ _=>exact q1.elim
  |nil=>
  have q1:sY X.K sp x H1 Q:=q1;obtain⟨u,rfl,ru⟩:=vals1 r1;obtain⟨l,ys,zs,HM,b,R,key,rfl,hl,HW,hp,rfl,h0,hc,hk⟩:=q1;cases(show u=Value.ref l from ru);obtain⟨ay,rv,pl,hz⟩:=I1.list hl;have hlen:=rv.length;obtain⟨es,e1,e2,e3⟩:=oJ I1 hp rv;have hu:=hr.un;have ol:∃o,s1.heap.get? l=some o/\o.dict=none:=by obtain⟨o,n,a1,a2,a3,a4⟩:=pl;exact⟨o,a1,a3⟩
  have two:(s1.heap.objs.size==sysModules)=false:=by
   obtain⟨o,n,a1,a2,a3,a4⟩:=pl;obtain⟨m,⟨o',b1,b2,b3,b4,_⟩,_⟩:=I1.loc;have ne:l≠X.env.locals:=λ z=>by rw[z,b3]at a1;cases a1;rw[a4]at b4;cases b4
   have l1:l < s1.heap.objs.size:=G7 a1;have l2:X.env.locals < s1.heap.objs.size:=G7 b3;refine beq_eq_false_iff_ne.mpr λ z=>?_;have z:s1.heap.objs.size=1:=z;have:∀a b:Nat,a≠b->a < 1->b < 1->False:=λ a b _ _ _=>by omega
   exact this l X.env.locals ne (z▸l1) (z▸l2)
  refine KG (by omega) hr.hd pl.isList ol e2 (by omega) e3 λ g tk gk gd gz=>?_;have I2:be X xz σ H1 {s1 with heap:=g,toks:=tk}:=I1.kept (t':=tk) gk;refine Calls.spliced_nil ?_;show wpAny _ _ (evalAll ((do let v <- eval (.Name f fp) X.env;standAt pos;pure v)::[])) _ _ _;refine wpAny_evalAll_cons (K5 (fQ I2 Ui hmf (K5 (G4 (K6 (wpAny_evalAll_nil ?_)))) Gy));obtain⟨o,UD,ep,o1,o2,o3,o4,o5,o6⟩:=gd;have ek:(putAll [] es).map ka=fw HM:=by rw[FQ,e1];rfl
  have ev:UD.toList.map (·.key)=((fw HM).map (·.2)).map Value.ref:=by rw[o4,<- ek,G9,G9,G9];rfl
  have hsz:UD.size < 64:=by
   have a:=zV es [];have b:UD.toList.length=(putAll [] es).length:=by rw[o4,C2]
   rw[n6]at b;simp at a;omega
  have ez:(fw HM).map (λ p=>V.ref p.2)=((fw HM).map (·.2)).map V.ref:=by rw[G9];rfl
  have lz:((fw HM).map (λ p=>V.ref p.2)).length < 64:=by
   have b:(fw HM).length=UD.size:=by have:=L8 List.length ev;simpa using this.symm
   rw[C2,b];exact hsz
  have go:Goes X q s1.heap.objs.size (((fw HM).map (·.2)).map Value.ref) {s1 with heap:=g,toks:=tk}:=by intro Q' hQ;refine IH (s:={s1 with heap:=g,toks:=tk}) two hr.hd (⟨o,o1,o2,o3⟩:Raw g _ UD ep) hsz λ Dd kS g0 g' zg Uz a1 a2 a3 a4 a5 a6 a7=>?_;rw[ev];exact hQ Dd kS g0 g' zg Uz a1 a2 a3 a4 a5 a6 a7
  exact yO G bd hr I2 (by rw[ez];exact qM _) go lz R key h0 hc hk
end
end L2
namespace L3
open PySem.Spec L2 L5
def Bm(r:List Int):D:=.tup (r.map D.int)
def pairD(r:List Int):D:=.tup [Bm r,.bl true]
theorem tS:∀a b:List Int,(a.map Sum.inl:List Key)=b.map Sum.inl->a=b
 |[],[],_=>rfl
 |[],_::_,h=>by cases h
 |_::_,[],h=>by cases h
 |x::a,y::b,h=>by simp only[F9,List.cons.injEq,Sum.inl.injEq]at h;rw[h.1,tS a b h.2]
theorem vk:∀{x0:List (List Int)} {ys:List V},aG K H (x0.map pairD) ys->∃kp,jB K H ys kp/\kp.map (·.1)=x0.map λ r=>(r.map Sum.inl:List Key)
 |[],ys,h=>by cases(av.mp h);exact⟨[],trivial,rfl⟩
 |r::x0,ys,h=>by obtain⟨y,ys,rfl,h1,h2⟩:=ah.mp h;obtain⟨kp,a1,a2⟩:=vk h2;obtain⟨t,xs,rfl,hq,hd⟩:=aW.mp h1;obtain⟨x1,r1,rfl,b1,hd⟩:=ah.mp hd;obtain⟨x2,r2,rfl,b2,hd⟩:=ah.mp hd;cases(av.mp hd);obtain⟨m,zs,rfl,pw,hd2⟩:=aW.mp b1;rw[fA hd2]at pw;exact⟨((r.map Sum.inl:List Key),m)::kp,⟨⟨t,x2,r,rfl,hq,rfl,pw⟩,a1⟩,by simp[a2]⟩
theorem mf:∀{fs:List (List Key×ww)} {rs:List (List Int)},(∀p∈fs,∃r:List Int,p.1=r.map Sum.inl/\gh K H p.2 (r.map V.int))->fs.map (·.1)=rs.map (λ r=>(r.map Sum.inl:List Key))->aG K H (rs.map Bm) (fs.map λ p=>V.ref p.2)
 |[],[],_,_=>by simp[av]
 |[],_::_,_,h=>by cases h
 |_::_,[],_,h=>by cases h
 |p::fs,r::rs,h,e=>by simp only[F9,List.cons.injEq]at e;obtain⟨r',e1,e2⟩:=h p (by simp);have er:r'=r:=tS _ _ (e1.symm.trans e.1);subst er;rw[F9,F9,ah];refine⟨_,_,rfl,aW.mpr ⟨p.2,_,rfl,e2,lE r'⟩,mf (λ q m=>h q (by simp[m])) e.2⟩
def ug(sp:gC)(d:D)(M:Mem)(Q:bH):Prop:=∃(l:ww) (x0:List (List Int)) (b:Bool) (R:List D->Mem->Prop) (key:Nat->Ky),d=.ref l/\M l=some (.lst (x0.map pairD))/\x0.length < 64/\R [] M/\
 (∀kG M e,R kG M->((once x0).map Bm)[kG.length]?=some e->sp [e] M (λ k M'=>R (kG++[k]) M'))/\
 ∀kG M,R kG M->kG.length=(once x0).length->(∀i k,kG[i]?=some k->Mc b M k (key i))/\∀p out,M p=none->Out (λ i j=>klt (key i) (key j)) ((once x0).map Bm) D.bu out->Q (.ref p) (ai M p (.lst out))
def sQ(sp:gC)(te:cb):cb:=λ δ M Q=>te δ M λ d M1=>ug sp d M1 Q
section
variable {p eL fp kp:Pos}{f:Str}{sp:gC}
theorem xT(d:bK X.prog X.w X.K X.mg X.base k f ps sp)(hr:bJ (k+2) X.A)(hg:Gl X "sorted")(hm:X.mg "sorted"=none)(Uj:Gl X "dict")(T_:X.mg "dict"=none)(Ui:Gl X f)(he:QE X e te)(Gy:(f==("__debug__":Str))=false:=by decide) (hs:starEach [.Call (.Name "dict" p2) [e] [] eL] X.env=[(false,eval (.Call (.Name "dict" p2) [e] [] eL) X.env)]:=by rfl) (Gm:backTo pos (starEach [.Call (.Name "dict" p2) [e] [] eL] X.env)=(false,eval (.Call (.Name "dict" p2) [e] [] eL) X.env)::backTo pos (starEach [] X.env):=by rfl) (mH:(backTo pos (starEach [.Call (.Name "dict" p2) [e] [] eL] X.env)).any (·.1)=false:=by rfl) (ht:starEach [e] X.env=[(false,eval e X.env)]:=by rfl) (TB:starEach [e] X.env=(false,eval e X.env)::starEach [] X.env:=by rfl) (Qd:(backTo eL (starEach [] X.env)).any (·.1)=false:=by rfl):QE X (.Call (.Name "sorted" p) [.Call (.Name "dict" p2) [e] [] eL] [⟨some "key",.Name f fp,kp⟩] pos) (sQ sp te):=by
 refine bQ (vj d hr hg hm Uj T_ Ui he Gy hs Gm mH ht TB Qd) ?_;rintro σ H Q ⟨δ,M,Q2,hs,hm,q,k⟩;refine⟨δ,M,_,hs,hm,q,λ x H1 d M1 hd bU t1 q1=>?_⟩;obtain⟨l,x0,b,R,key,rfl,hM,HW,h0,hc,hk⟩:=q1;cases(aP.mp hd);obtain⟨ys,hy,ZH⟩:=bU l _ hM;have hlen:=ZH.length;rw[C2]at hlen;obtain⟨HM,p1,p2⟩:=vk ZH;have hd2:aG X.K H1 ((once x0).map Bm) ((fw HM).map λ p=>V.ref p.2):=mf (λ p m=>p1.row p (yj m)) (vW _ tS p2);have ZE:=hd2.length;rw[C2 (f:=Bm)]at ZE;refine⟨l,ys,_,HM,b,λ aA H'=>∃kG M',aG X.K H' kG aA/\ce X.K H' M'/\ax H1 H'/\R kG M',key,rfl,dr.of hy,by omega,p1,rfl,⟨[],M1,by rw[av],bU,ax.refl _,h0⟩,?_,?_⟩
 ·rintro aA H2 v ⟨kG,M2,h1,h2,t2,hR⟩ hv;have HP:=h1.length;obtain⟨e,e1,e2⟩:=(aG.mono t2 _ hd2).t_ hv;refine⟨[e],M2,_,aG.one e2,h2,hc kG M2 e hR (by rw[<- HP];exact e1),λ w H3 d3 M3 HR vV t3 q3=>?_⟩;exact⟨kG++[d3],M3,(aG.mono t3 kG h1).append (aG.one HR),vV,t2.trans t3,q3⟩
 ·rintro aA H2 ⟨kG,M2,h1,h2,t2,hR⟩ hl;have HP:=h1.length;obtain⟨a1,a2⟩:=hk kG M2 hR (by omega);refine⟨λ i w hw=>?_,λ p out hp ho=>?_⟩
  ·obtain⟨d3,e3,HR⟩:=h1.t_ hw;exact(a1 i d3 e3).v9 HR h2
  ·obtain⟨π,p1,p2,rfl⟩:=ho;rw[ZE]at p1 p2;refine k _ _ (.ref p) _ (aP.mpr rfl) (de hp (rM (aG.mono t2 _ hd2) π.toList) h2) (t1.trans (t2.trans (ax.laid hp))) (a2 p _ (h2.free hp) ⟨π,by rw[C2];exact p1,by rw[C2];exact p2,rfl⟩)
end
theorem DX{sp:gC}{Q:bH}(h:te δ M λ d M1=>ug sp d M1 Q):sQ sp te δ M Q:=h
end L3
namespace L4
open PySem.Spec L2 L3 L5
section
variable {p eL fp kp:Pos}{f:Str}{sp:gC}
theorem xt(d:bK X.prog X.w X.K X.mg X.base k f ps sp)(hr:bJ (k+2) X.A)(hg:Gl X "sorted")(hm:X.mg "sorted"=none)(Uj:Gl X "dict")(T_:X.mg "dict"=none)(Ui:Gl X f)(he:WE X e te)(Gy:(f==("__debug__":Str))=false:=by decide) (hs:starEach [.Call (.Name "dict" p2) [e] [] eL] X.env=[(false,eval (.Call (.Name "dict" p2) [e] [] eL) X.env)]:=by rfl) (Gm:backTo pos (starEach [.Call (.Name "dict" p2) [e] [] eL] X.env)=(false,eval (.Call (.Name "dict" p2) [e] [] eL) X.env)::backTo pos (starEach [] X.env):=by rfl) (mH:(backTo pos (starEach [.Call (.Name "dict" p2) [e] [] eL] X.env)).any (·.1)=false:=by rfl) (ht:starEach [e] X.env=[(false,eval e X.env)]:=by rfl) (TB:starEach [e] X.env=(false,eval e X.env)::starEach [] X.env:=by rfl) (Qd:(backTo eL (starEach [] X.env)).any (·.1)=false:=by rfl):WE X (.Call (.Name "sorted" p) [.Call (.Name "dict" p2) [e] [] eL] [⟨some "key",.Name f fp,kp⟩] pos) (sQ sp te):=⟨xT d hr hg hm Uj T_ Ui he.h Gy hs Gm mH ht TB Qd⟩
end
end L4
namespace L5
open PySem
open PySem.AutoSeq1 (wpAny_loadPart')
abbrev Wb(T:String)(h:Heap)(l:ww):Heap:=h.push {cls:=.type T,data:=.fields #[.ref l,.int 0 0]}
abbrev YF(T:String)(h:Heap)(l:ww):Heap:=(Wb T h l).push {cls:=.type "enumerate",data:=.fields #[.none,.bool false,.ref h.objs.size,rawInt 0,.none,.none]}
set_option tactic.hygienic true in
theorem yC(k:NK T S)(l:ww)(vs:Array jp):Meets (Builtin.«enumerate.__new__» ⟨[.type "enumerate",.ref l],[]⟩) (λ _ R s=>S s.heap l vs/\R (.ok (.ret (.ref (Wb T s.heap l).objs.size))) {s with heap:=YF T s.heap l}):=
 .of_wp λ prog w A R s h=>by
  obtain⟨hp,g,d,tk,os⟩:=s;obtain⟨a1,h⟩:=h;have se:=sub_enumerate;have aT:S (Shared.heap ⟨hp,g,d,tk,os⟩) l vs:=a1
  wp_walk using k.start aT
  refine wpAny_stack_any λ st=>K6 ?_;split
  ·rename_i c _ _ _ _ _;cases(c==Value.type "enumerate")
   all_goals
    wp_walk using k.start aT
    exact⟨_,rfl,h⟩
  ·wp_walk using k.start aT
   exact⟨_,rfl,h⟩
theorem KD(kk:NK T S){l:ww}(a1:S s.heap l vs) (k:∀h',IsEnum h' (s.heap.objs.size+1) s.heap.objs.size 0 .none->dZ T h' s.heap.objs.size l 0->(∀f o,s.heap.get? f=some o->h'.get? f=some o)->Q (.ref (s.heap.objs.size+1)) {s with heap:=h'}):wpAny (model prog w) A (call (.type "enumerate") [.ref l]) Q E s:=by refine callType_new F.called_enumerate (by decide) (F.typeCall_enumerate_1 _) (F.newCall_enumerate_1 _) (λ ob=>F.args_object_init_2 ob _) F.entry_enumerate_new (yC kk l vs) ⟨a1,?_⟩;have e1:(Wb T s.heap l).objs.size=s.heap.objs.size+1:=D4 ..;have g2:(YF T s.heap l).get? (Wb T s.heap l).objs.size=some _:=n9 _ rfl;have g1:(YF T s.heap l).get? s.heap.objs.size=some _:=j7 _ (n9 s.heap rfl);rw[e1]at g2;show _/\_;rw[e1];exact⟨⟨_,g2,rfl⟩,k _ g2 ⟨_,g1,rfl,rfl⟩ λ f o x=>j7 _ (j7 _ x)⟩
theorem Fy(k:NK T S)(hA:A.handled=none)(j l:ww)(ne:l≠j)(vs:Array jp):Draws prog w A j [j,l] vs.size (λ i v=>vs[i]?=some v) (λ i h=>dZ T h j l i/\S h l vs) where
 live:=λ _ _ st=>let⟨⟨o,ho,_⟩,_⟩:=st;⟨o,ho⟩
 frame:=λ _ _ _ st q=>let⟨⟨o,ho,r⟩,su⟩:=st;⟨⟨o,q j (by simp) o ho,r⟩,k.keep su λ o e=>q l (by simp) o e⟩
 item:=λ i s Q E hi st kk=>k.item st.1 st.2 (i0 hi) λ h' a b=>kk _ h' s.toks (i0 hi) ⟨a,k.keep st.2 λ o e=>b.extBut _ _ ne e⟩ b
 done:=λ s Q E st kk=>k.stop hA st.1 st.2 (j6 (K1 _)) kk
end L5
namespace L2
open PySem.Spec PyProof.Rows L5
def Wl(K:N5)(b:Bool)(l:ww):It:=
 ⟨λ i H=>∃xs x,Sq b K H l xs/\xs[i]?=some x,
  λ i H v H'=>∃(p:ww) (x:V),H p=none/\v=.ref p/\H'=dl H p (.tup [.int i,x])/\∀xs,Sq b K H l xs->xs[i]?=some x,
  λ i H=>∃xs,Sq b K H l xs/\xs.length<=i⟩
def tnE(b:Bool)(e j l:ww)(i:Nat)(h:Heap):Prop:=(∃old,IsEnum h e j i old)/\dZ (Vj b) h j l i
theorem Ba{k0}{e j:ww}(b:Bool)(B:e≠j)(l:ww):Turn P w K (.Tuple es k0 pos) (Wl K b l) [e,j] e (tnE b e j l) where
 mem:=by simp
 obj:=λ i h st c hc=>by
  obtain⟨⟨old,he⟩,⟨oa,ha,_,da⟩⟩:=st;rcases G0.mp hc with rfl|hc
  ·exact⟨_,he,λ v z=>by cases z⟩
  rcases G0.mp hc with rfl|hc
  ·exact⟨_,ha,λ v z=>by rw[da]at z;cases z⟩
  ·cases hc
 keep:=λ i h h' st q=>by obtain⟨⟨old,he⟩,⟨oa,ha,r⟩⟩:=st;exact⟨⟨old,q e (by simp) _ he⟩,⟨oa,q j (by simp) _ ha,r⟩⟩
 item:=by
  intro X hP hw hK hc i xz s σ H E I hf st hg;subst hP hw hK;obtain⟨xs,x,hl,hx⟩:=hg;obtain⟨⟨old,he⟩,hj⟩:=st;obtain⟨Qa,r1,p1⟩:=ff I hl;obtain⟨u1,e1,q1⟩:=r1.get hx;have lj:l≠j:=ij I (hf j (by simp)) hl;have le:l≠e:=ij I (hf e (by simp)) hl;have hi:i < Qa.toArray.size:=by have:=(i5.mp e1).1;simpa using this
  refine wpAny_pyNext_enum_itemD (Fy (jZ b) (A:=X.A.in1) (I.ok.hd hc) j l lj Qa.toArray) he ⟨hj,p1⟩ hi B (by simp;exact⟨B,L9 le⟩) λ y g tk g1 g2 g3 g4 g5 g6=>?_;have ey:y=u1:=by rw[getElem?_toArray,e1]at g1;cases g1;rfl
  subst ey;have hn:H s.heap.objs.size=none:=I.bj.fresh (K1 _);have I1:be X xz σ H {s with heap:=g,toks:=tk+1}:=lS (t':=tk+1) I (ch:=[e,j]) (λ c o hc e=>g6 c o (λ z=>hc (by simp[z])) (λ z=>hc (by simp[z])) e) hf;refine⟨_,rfl,wpAny_letOwnedTupleGo_enum (s:={s with heap:=g,toks:=tk+1}) g2 λ g' e' sb=>?_⟩;have I2:be X xz σ H {s with heap:=g',toks:=tk+1}:=lS (s:={s with heap:=g,toks:=tk+1}) (t':=tk+1) (ch:=[e]) I1 (λ c o hc q=>sb.extBut _ _ (λ z=>hc (by simp[z])) q) (λ c hc=>hf c (by simp at hc ⊢;exact .inl hc));have fo:=I.lB (H':=H) (K1 s.heap.objs.size) hn;have Zo:e < s.heap.objs.size:=G7 he;have ltj:j < s.heap.objs.size:=let⟨_,q,_⟩:=hj;G7 q
  have t5:=sb.extBut _ _ (J9 Zo) g4;have I3:be X xz σ (dl H s.heap.objs.size (.tup [.int i,x])) {s with heap:=g',toks:=tk+1}:=be.uP I2 hn ⟨show 2<=sizeLine by decide,[.int i tk,y],.cons ⟨tk,rfl⟩ (.cons q1 .nil),⟨_,t5,rfl,_,rfl⟩⟩ fo.2.1 (H9 I.sz (K1 _)) fo.2.2.2.2.1 fo.2.2.2.2.2;refine⟨.ref s.heap.objs.size,_,I3,rfl,⟨s.heap.objs.size,x,hn,rfl,rfl,λ y_ h'=>by rw[xF I h' hl];exact hx⟩,⟨⟨_,by simpa using e'⟩,?_⟩,λ c hc=>?_⟩
  ·obtain⟨o,ho,r⟩:=g3.1;exact⟨o,sb.extBut _ _ (L9 B) ho,r⟩
  ·have kH:c < s.heap.objs.size:=by
    simp at hc;rcases hc with rfl|rfl
    ·exact Zo
    ·exact ltj
   rw[aB (G6 kH)];exact(hf c hc).1
 done:=by intro X hP hw hK hc i xz s σ H E I hf st hg;subst hP hw hK;obtain⟨xs,hl,hx⟩:=hg;obtain⟨⟨old,he⟩,hj⟩:=st;obtain⟨Qa,r1,p1⟩:=ff I hl;have l1:=r1.length;have lj:l≠j:=ij I (hf j (by simp)) hl;have hT:s.TypeIs (.ref e) "enumerate":=⟨_,he,rfl⟩;unfold pyNext;refine K5 (D7 (j2 (name:=Str.ofString "__next__") hT F.slot_enumerate_next (A6 F.slot_enumerate_next hT F.entry_enumerate_next ?_ (F.args_enumerate_next_1 _))));refine K5 (m:=field (.ref e) 2) (K4 he rfl (x:=.ref j) rfl ?_);refine K5 ((jZ b).stop (A:=X.A.in1) (I.ok.hd hc) hj p1 (j6 (by simp;omega)) λ g c g1 g2=>?_);obtain⟨o,ho,GA⟩:=g2;refine K5 (wpAny_isInstance (T:="StopIteration") (b:=true) ⟨o,ho,GA⟩ isSubtype_stop (K6 ⟨rfl,?_⟩));exact lS (t':=s.toks) (ch:=[j]) I (λ b o hb q=>g1 b o (λ z=>hb (by simp[z])) q) λ b hb=>hf b (by simp at hb ⊢;exact .inr hb)
 self:=λ _ _ _ _ _ st h=>wpAny_pyIter_enum st.1.choose_spec h
section
variable {k0:_}{a:Expr}{ta:TA}{p:Pos}
def Tt(K:N5)(ta:TA):TI:=λ σ H R=>ta σ H λ vs H1=>∃(b:Bool) (l:ww),vs=[.ref l]/\(∃xs,Sq b K H1 l xs)/\R (Wl K b l) H1
theorem JY(hg:Gl X "enumerate")(hm:X.mg "enumerate"=none)(ha:PA X [a] ta)(hs:starEach [a] X.env=[(false,eval a X.env)]:=by rfl)(mH:starEach [] X.env=[]:=by rfl):PI X (.Tuple es k0 e_) (.Call (.Name "enumerate" p) [a] [] pos) (Tt X.K ta):=by
 intro xz s σ H R I h;refine Call_ (iD I hg hm boot_enumerate (c5 (cm (ha pos xz s σ H _ I h) λ us s1 ⟨vs,H1,I1,r1,q1⟩=>?_) (by rw[hs,mH]) (by rw[mH];rfl)));obtain⟨b,l,e,⟨xs,hl⟩,q⟩:=q1;subst e;obtain⟨u1,rfl,r⟩:=vals1 r1;cases(show u1=Value.ref l from r);obtain⟨Qa,r1,p1⟩:=ff I1 hl;refine KD (jZ b) p1 λ g g1 g2 g7=>wpAny_pyIter_enum (s:={s1 with heap:=g}) g1 ?_;have I2:be X xz σ H1 {s1 with heap:=g}:=I1.kept (t':=s1.toks) g7;have fr:∀c,s1.heap.objs.size<=c->ic X xz H1 c:=λ c hc=>I1.lB hc (I1.bj.fresh hc);have ne:s1.heap.objs.size+1≠s1.heap.objs.size:=by omega
 refine⟨_,[s1.heap.objs.size+1,s1.heap.objs.size],_,_,H1,rfl,I2,Ba b ne l,⟨⟨_,g1⟩,g2⟩,λ c hc=>fr c ?_,q⟩;simp at hc;rcases hc with rfl|rfl <;> omega
end
end L2
namespace L3
open PySem.Spec L2 L5
def gA(ds:List D):List D:=(List.range ds.length).map λ(i:Nat)=>D.tup [.int (i:Int),ds.getD i D.bu]
theorem Co(ds:List D):(gA ds).length=ds.length:=by simp[gA]
def kindB:D->Bool
 | .tup _=>true
 |_=>false
theorem gM{x:V}(e:cE M d=some ds)(h:bn K H d x)(hm:ce K H M):∃p xs,x=.ref p/\Sq (kindB d) K H p xs/\aG K H ds xs:=by
 cases d with
 |tup es=>cases(show some es=some ds from e);obtain⟨p,xs,rfl,h1,h2⟩:=aW.mp h;exact⟨p,xs,rfl,h1,h2⟩
 |fl es=>cases(show some es=some ds from e);obtain⟨p,xs,rfl,h1,h2⟩:=ju.mp h;exact⟨p,xs,rfl,h1.sq,h2⟩
 |ref a=>cases(aP.mp h);obtain⟨xs,h1,h2⟩:=dU (show bb M a=some ds from e) hm;exact⟨a,xs,rfl,dr.of h1,h2⟩
 |_=>cases e
def pI(x:D)(M:Mem):Option (List D):=(cE M x).map gA
theorem BS{x:D}(hx:bn K H1 x (.ref a)):qE K H1 (Wl K (kindB x) a) (.fn (pI x)):=λ H M fs t hm e=>by
 have e:(cE M x).map gA=some fs:=e;cases e1:cE M x with
 |none=>rw[e1]at e;cases e
 |some ds=>rw[e1]at e;cases e;obtain⟨p,xs,e3,q1,x1⟩:=gM e1 (bn.mono t x hx) hm;cases e3;have l1:=x1.length;rw[Co];refine⟨λ i hi=>⟨xs,xs[i]'(by omega),q1,by simp⟩,λ i hi=>⟨xs,q1,by omega⟩,λ i v H' hi y=>?_⟩;obtain⟨p,v,hp,rfl,rfl,hx⟩:=y;obtain⟨d,d1,d2⟩:=x1.t_ (hx xs q1);refine⟨ax.laid hp,hm.laid hp,.tup [.int i,d],?_,gG hp (ah.mpr ⟨.int i,[v],rfl,aw.mpr rfl,aG.one d2⟩)⟩;obtain⟨z1,w1⟩:=i5.mp d1;simp[gA,z1,w1]
def FW(ta:gg):qC:=λ δ M R=>ta δ M λ ds M1=>match ds with
 |[.tup xs]=>R (.fix (gA xs)) M1
 |[x]=>(∃zs,cE M1 x=some zs)/\R (.fn (pI x)) M1
 |_=>False
section
variable {k0:_}{a:Expr}{p:Pos}
theorem JL(hg:Gl X "enumerate")(hm:X.mg "enumerate"=none)(ha:QA X [a] ta)(hs:starEach [a] X.env=[(false,eval a X.env)]:=by rfl)(mH:starEach [] X.env=[]:=by rfl):QI X (.Tuple es k0 e_) (.Call (.Name "enumerate" p) [a] [] pos) (FW ta):=zH (JY hg hm ha hs mH) λ σ H R ⟨δ,M,R2,hs,hm,q,k⟩=>by
 refine⟨δ,M,_,hs,hm,q,λ xs H1 ds M1 hd bU t1 q1=>?_⟩;have go:∀x,ds=[x]->(∃zs,cE M1 x=some zs)->(∀J,qE X.K H1 J (.fn (pI x))->R J H1)->∃(b:Bool) (l:ww),xs=[.ref l]/\(∃xs,Sq b X.K H1 l xs)/\R (Wl X.K b l) H1:=by rintro x rfl ⟨zs,hz⟩ hR;obtain⟨vx,r,rfl,hx,hr⟩:=ah.mp hd;cases(av.mp hr);obtain⟨p,vs,rfl,q1,_⟩:=gM hz hx bU;exact⟨_,p,rfl,⟨vs,q1⟩,hR _ (BS hx)⟩
 match ds,q1 with
 |[x],q1=>
  by_cases ht:∃xs,x=.tup xs
  ·obtain⟨xs,rfl⟩:=ht;exact go _ rfl ⟨_,rfl⟩ λ J hJ=>k J H1 (.fix (gA xs)) M1 (λ H M ds t hm e=>hJ H M ds t hm e) bU t1 q1
  ·have q2:(∃zs,cE M1 x=some zs)/\R2 (.fn (pI x)) M1:=by cases x <;> first|exact q1|exact absurd ⟨_,rfl⟩ ht
   exact go x rfl q2.1 λ J hJ=>k J H1 _ M1 hJ bU t1 q2.2
 |[],q1=>exact q1.elim
 |x::y::r,q1=>cases x <;> exact q1.elim
end
end L3
namespace L4
open PySem.Spec L2 L3 L5
section
variable {k0:_}{a:Expr}{p:Pos}
theorem Il(hg:Gl X "enumerate")(hm:X.mg "enumerate"=none)(ha:WA X [a] ta)(hs:starEach [a] X.env=[(false,eval a X.env)]:=by rfl)(mH:starEach [] X.env=[]:=by rfl):WI X (.Tuple es k0 e_) (.Call (.Name "enumerate" p) [a] [] pos) (FW ta):=⟨JL hg hm ha.h hs mH⟩
end
end L4
namespace L2
open PySem.Spec PyProof.Rows
theorem Kg:fG X (binaryOp .Add) (λ x y H Q=>∃a b ys,x=.ref a/\y=.ref b/\gh X.K H a []/\gh X.K H b ys/\Q (.ref b) H):=by intro xz s σ H x y v u Q I rx ry h;obtain⟨a,b,ys,rfl,rfl,ha,hb,q⟩:=h;cases rx;cases ry;obtain⟨i1,r1,p1,_⟩:=I.tuple ha;obtain⟨i2,r2,p2,_⟩:=I.tuple hb;cases r1;obtain⟨⟨c1,d1,a1,l1⟩,o1,k1,n1,e1⟩:=id p1;obtain⟨⟨c2,d2,a2,l2⟩,o2,k2,n2,e2⟩:=id p2;cases(show c1=.type "tuple" from k1);cases(show a1=_ from e1);cases(show c2=.type "tuple" from k2);cases(show a2=_ from e2);exact concat_meets ⟨_,o1,rfl⟩ ⟨_,o2,rfl⟩ noFill_tuple_add seq_tuple_add PySem.F.slot_tuple_add PySem.F.entry_tuple_add (PySem.F.args_tuple_add_2 _ _) (tuple_addW0 a b #[] i2.toArray n1 n2 d1 d2 l1 l2 rfl) ⟨o1,o2,⟨.ref b,H,I,rfl,q⟩⟩
end L2
namespace L3
open PySem.Spec L2
def rR:fF:=λ x y M Q=>LK x y M Q\/∃ys,x=.tup []/\y=.tup ys/\Q (.tup ys) M
theorem a_:eX X (binaryOp .Add) rR:=by
 obtain⟨r,h1,h2⟩:=(Td:eX X (binaryOp .Add) LK);refine⟨_,h1.or Kg,λ x y d e H M Q2 Q hd he hm q k=>?_⟩;rcases q with q|⟨ys,rfl,rfl,q⟩
 ·exact .inl (h2 x y d e H M Q2 Q hd he hm q k)
 ·obtain⟨p,vs,rfl,hp,hx⟩:=aW.mp hd;obtain⟨p2,ws,rfl,fB,hy⟩:=aW.mp he;cases(av.mp hx);exact .inr ⟨p,p2,ws,rfl,rfl,hp,fB,k _ H _ M (aW.mpr ⟨p2,ws,rfl,fB,hy⟩) hm (ax.refl H) q⟩
section
variable {Q:bH}
theorem Ej{i j:Int}(q:Q (.int (i+j)) M):rR (.int i) (.int j) M Q:=.inl q
theorem cU{i j:Str}(h:i.length+j.length<=sizeLine)(q:Q (.str (i++j)) M):rR (.str i) (.str j) M Q:=.inl ⟨h,q⟩
theorem cV{b:ww}{xs ys:List D}(ha:M a=some (.lst xs))(hb:M b=some (.lst ys))(h:xs.length+ys.length<=sizeLine)(q:∀p,M p=none->Q (.ref p) (ai M p (.lst (xs++ys)))):rR (.ref a) (.ref b) M Q:=.inl (Jy ha hb h q)
end
open L2
section
variable {δc:dm}
theorem R1(h:n<=10000):n<=sizeLine:=H9 h (by decide)
theorem uj{β:Type}{xs:List α}{enc:α->D}(yD:β->D)(I:List β->Mem->Prop)(hn:xs.length<=10000)(h0:I [] M1) (hs:∀(i:Nat) (x:α) (ys:List β) (M:Mem) (N:D->Mem->Prop),xs[i]?=some x->ys.length=i->I ys M->(∀b M',I (ys++[b]) M'->N (yD b) M')->g (enc x) δc M λ δ2 M2=>te δ2 M2 N) (hd:∀ys M,ys.length=xs.length->I ys M->Qe (ys.map yD) M):∃(B:Nat) (W:Nat->List D->Mem->Prop),W 0 [] M1/\∀i zn M,W i zn M->i<=B/\zn.length<=sizeLine/\match al (.fix (xs.map enc)) M with
   |none=>False
   |some ds=>match ds[i]? with
    |none=>i=ds.length/\Qe zn M
    |some d=>g d δc M λ δ2 M2=>sP δ2 M2 λ b M3=>if b=true then te δ2 M3 λ y M4=>W (i+1) (zn++[y]) M4 else W (i+1) zn M3:=by
 refine gV (λ i zn M=>∃ys:List β,zn=ys.map yD/\ys.length=i/\I ys M) ⟨[],rfl,rfl,h0⟩ (λ i zn M hi h=>?_) (λ i d zn M hd h=>?_) (λ zn M h=>?_)
 ·obtain⟨ys,rfl,h1,_⟩:=h;rw[C2]at hi ⊢;exact R1 (by omega)
 ·obtain⟨ys,rfl,h1,h2⟩:=h;rw[x6]at hd;cases e:xs[i]? with
  |none=>rw[e]at hd;cases hd
  |some x=>rw[e]at hd;cases hd;refine hs i x ys M _ e h1 h2 λ b M' hb=>⟨ys++[b],by rw[C4];rfl,by simp[h1],hb⟩
 ·obtain⟨ys,rfl,h1,h2⟩:=h;rw[C2]at h1;exact hd ys M h1 h2
theorem Hk{β:Type}{xs:List α}(enc:α->D)(yD:β->D)(I:List β->Mem->Prop)(hn:xs.length<=10000)(h0:I [] M1)(hl:∀ys M,I ys M->M a=some (.lst (xs.map enc))) (hs:∀(i:Nat) (x:α) (ys:List β) (M:Mem) (N:D->Mem->Prop),xs[i]?=some x->ys.length=i->I ys M->(∀b M',I (ys++[b]) M'->N (yD b) M')->g (enc x) δc M λ δ2 M2=>te δ2 M2 N) (hd:∀ys M,ys.length=xs.length->I ys M->Qe (ys.map yD) M):∃(B:Nat) (W:Nat->List D->Mem->Prop),W 0 [] M1/\∀i zn M,W i zn M->i<=B/\zn.length<=sizeLine/\match al (.at a) M with
   |none=>False
   |some ds=>match ds[i]? with
    |none=>i=ds.length/\Qe zn M
    |some d=>g d δc M λ δ2 M2=>sP δ2 M2 λ b M3=>if b=true then te δ2 M3 λ y M4=>W (i+1) (zn++[y]) M4 else W (i+1) zn M3:=by
 refine Hj (ds:=xs.map enc) (λ i zn M=>∃ys:List β,zn=ys.map yD/\ys.length=i/\I ys M) ⟨[],rfl,rfl,h0⟩ (λ i zn M hi h=>?_) (λ i zn M hi h=>?_) (λ i d zn M hd h=>?_) (λ zn M h=>?_)
 ·obtain⟨ys,rfl,h1,h2⟩:=h;exact hl ys M h2
 ·obtain⟨ys,rfl,h1,_⟩:=h;rw[C2]at hi ⊢;exact R1 (by omega)
 ·obtain⟨ys,rfl,h1,h2⟩:=h;rw[x6]at hd;cases e:xs[i]? with
  |none=>rw[e]at hd;cases hd
  |some x=>rw[e]at hd;cases hd;refine hs i x ys M _ e h1 h2 λ b M' hb=>⟨ys++[b],by rw[C4];rfl,by simp[h1],hb⟩
 ·obtain⟨ys,rfl,h1,h2⟩:=h;rw[C2]at h1;exact hd ys M h1 h2
theorem take_one{l:List α}{a:α}(h:l[i]?=some a):l.take (i+1)=l.take i++[a]:=by rw[take_add_one,h];rfl
theorem kr{xs:List α}{enc:α->D}(out:α->D)(hn:xs.length<=10000) (hs:∀(i:Nat) (x:α) (N:D->Mem->Prop),xs[i]?=some x->N (out x) M1->g (enc x) δc M1 λ δ2 M2=>te δ2 M2 N) (hd:Qe (xs.map out) M1):∃(B:Nat) (W:Nat->List D->Mem->Prop),W 0 [] M1/\∀i zn M,W i zn M->i<=B/\zn.length<=sizeLine/\match al (.fix (xs.map enc)) M with
   |none=>False
   |some ds=>match ds[i]? with
    |none=>i=ds.length/\Qe zn M
    |some d=>g d δc M λ δ2 M2=>sP δ2 M2 λ b M3=>if b=true then te δ2 M3 λ y M4=>W (i+1) (zn++[y]) M4 else W (i+1) zn M3:=by
 refine uj (β:=α) out (λ ys M=>M=M1/\ys=xs.take ys.length) hn ⟨rfl,rfl⟩ (λ i x ys M N hx hy h k=>?_) (λ ys M hy h=>?_)
 ·obtain⟨rfl,h⟩:=h;refine hs i x N hx (k x M ⟨rfl,?_⟩);rw[q8,k8,take_one (a:=x) (by rw[hy];exact hx),<- h]
 ·obtain⟨rfl,h⟩:=h;rw[hy,A5]at h;rw[h];exact hd
theorem eW{xs:List α}(enc out:α->D)(hn:xs.length<=10000)(hl:M1 a=some (.lst (xs.map enc))) (hs:∀(i:Nat) (x:α) (N:D->Mem->Prop),xs[i]?=some x->N (out x) M1->g (enc x) δc M1 λ δ2 M2=>te δ2 M2 N) (hd:Qe (xs.map out) M1):∃(B:Nat) (W:Nat->List D->Mem->Prop),W 0 [] M1/\∀i zn M,W i zn M->i<=B/\zn.length<=sizeLine/\match al (.at a) M with
   |none=>False
   |some ds=>match ds[i]? with
    |none=>i=ds.length/\Qe zn M
    |some d=>g d δc M λ δ2 M2=>sP δ2 M2 λ b M3=>if b=true then te δ2 M3 λ y M4=>W (i+1) (zn++[y]) M4 else W (i+1) zn M3:=by
 refine Hk (β:=α) enc out (λ ys M=>M=M1/\ys=xs.take ys.length) hn ⟨rfl,rfl⟩ (λ ys M h=>by rw[h.1];exact hl) (λ i x ys M N hx hy h k=>?_) (λ ys M hy h=>?_)
 ·obtain⟨rfl,h⟩:=h;refine hs i x N hx (k x M ⟨rfl,?_⟩);rw[q8,k8,take_one (a:=x) (by rw[hy];exact hx),<- h]
 ·obtain⟨rfl,h⟩:=h;rw[hy,A5]at h;rw[h];exact hd
theorem LO{xs:List α}{enc:α->D}(p:α->Bool)(out:α->D)(hn:xs.length<=10000) (hs:∀(i:Nat) (x:α) (N1:D->Mem->Prop) (N2:Mem->Prop),xs[i]?=some x->(p x=true->N1 (out x) M1)->(p x=false->N2 M1)->g (enc x) δc M1 λ δ2 M2=>tt δ2 M2 λ b M3=>if b=true then te δ2 M3 N1 else N2 M3) (hd:Qe ((xs.filter p).map out) M1):∃(B:Nat) (W:Nat->List D->Mem->Prop),W 0 [] M1/\∀i zn M,W i zn M->i<=B/\zn.length<=sizeLine/\match al (.fix (xs.map enc)) M with
   |none=>False
   |some ds=>match ds[i]? with
    |none=>i=ds.length/\Qe zn M
    |some d=>g d δc M λ δ2 M2=>tt δ2 M2 λ b M3=>if b=true then te δ2 M3 λ y M4=>W (i+1) (zn++[y]) M4 else W (i+1) zn M3:=by
 refine gV (λ i zn M=>M=M1/\zn=((xs.take i).filter p).map out) ⟨rfl,by simp⟩ (λ i zn M hi h=>?_) (λ i d zn M he h=>?_) (λ zn M h=>?_)
 ·obtain⟨_,rfl⟩:=h;rw[C2];refine H9 (length_filter_le _ _) ?_;rw[A8];exact R1 (by omega)
 ·obtain⟨rfl,rfl⟩:=h;rw[x6]at he;cases e:xs[i]? with
  |none=>rw[e]at he;cases he
  |some x=>
   rw[e]at he;cases he;refine hs i x _ _ e (λ hp=>⟨rfl,?_⟩) (λ hp=>⟨rfl,?_⟩)
   ·rw[take_one e,u7,C4];simp[hp]
   ·rw[take_one e,u7,C4];simp[hp]
 ·obtain⟨rfl,rfl⟩:=h;rw[C2,A5];exact hd
theorem CA{xs:List α}(enc:α->D)(p:α->Bool)(out:α->D)(hn:xs.length<=10000)(hl:M1 a=some (.lst (xs.map enc))) (hs:∀(i:Nat) (x:α) (N1:D->Mem->Prop) (N2:Mem->Prop),xs[i]?=some x->(p x=true->N1 (out x) M1)->(p x=false->N2 M1)->g (enc x) δc M1 λ δ2 M2=>tt δ2 M2 λ b M3=>if b=true then te δ2 M3 N1 else N2 M3) (hd:Qe ((xs.filter p).map out) M1):∃(B:Nat) (W:Nat->List D->Mem->Prop),W 0 [] M1/\∀i zn M,W i zn M->i<=B/\zn.length<=sizeLine/\match al (.at a) M with
   |none=>False
   |some ds=>match ds[i]? with
    |none=>i=ds.length/\Qe zn M
    |some d=>g d δc M λ δ2 M2=>tt δ2 M2 λ b M3=>if b=true then te δ2 M3 λ y M4=>W (i+1) (zn++[y]) M4 else W (i+1) zn M3:=by
 refine Hj (ds:=xs.map enc) (λ i zn M=>M=M1/\zn=((xs.take i).filter p).map out) ⟨rfl,by simp⟩ (λ i zn M hi h=>by rw[h.1];exact hl) (λ i zn M hi h=>?_) (λ i d zn M he h=>?_) (λ zn M h=>?_)
 ·obtain⟨_,rfl⟩:=h;rw[C2];refine H9 (length_filter_le _ _) ?_;rw[A8];exact R1 (by omega)
 ·obtain⟨rfl,rfl⟩:=h;rw[x6]at he;cases e:xs[i]? with
  |none=>rw[e]at he;cases he
  |some x=>
   rw[e]at he;cases he;refine hs i x _ _ e (λ hp=>⟨rfl,?_⟩) (λ hp=>⟨rfl,?_⟩)
   ·rw[take_one e,u7,C4];simp[hp]
   ·rw[take_one e,u7,C4];simp[hp]
 ·obtain⟨rfl,rfl⟩:=h;rw[C2,A5];exact hd
end
abbrev Sd(i:Nat):D:=.int ((0:Int)+(i:Nat))
theorem NT(i:Nat):Sd i=.int (i:Int):=by show D.int (0+(i:Int))=_;rw[G5]
theorem vZ(xs:List α)(enc:α->D):gA (xs.map enc)=xs.zipIdx.map λ p=>D.tup [.int (p.2:Int),enc p.1]:=by
 refine ext_getElem? λ i=>?_;unfold gA;rw[x6,x6,getElem?_zipIdx,C2];by_cases h:i < xs.length
 ·rw[getElem?_range h,i8 h];simp[h]
 ·rw[l5 (by simpa using h),l5 (by simpa using h)];rfl
def LZ(R:Src->Mem->Prop)(d:D)(M1:Mem):Prop:=match d with
 | .str z=>R (.fix (dw z)) M1
 | .tup ds=>R (.fix ds) M1
 | .fl ds=>R (.fix ds) M1
 | .ref a=>(match M1 a with
  |some (.lst _)=>R (.at a) M1
  |_=>False)
 |_=>False
theorem Jt{ta:cb}(h:ta δ M (LZ R)):PV ta δ M R:=h
theorem Ju(h:R (.fix ds) M):LZ R (.tup ds) M:=h
theorem Jv(h:R (.fix (dw z)) M):LZ R (.str z) M:=h
theorem Jw(hM:M a=some (.lst ds))(h:R (.at a) M):LZ R (.ref a) M:=by show(match M a with|some (.lst _)=>R (.at a) M|_=>False);rw[hM];exact h
end L3
namespace KK
open L3 L4 L5
open L2 hiding bw qo
def MR(c:ww)(p b sd ct:Int):List D:=[.ref c,.int p,.int b,.int sd,.int ct]
structure Flow(M:Mem)(f c:ww):Prop where
 ex:∃(ns:List Int) (p b sd ct:Int),M f=some (.lst (MR c p b sd ct))/\M c=some (.lst (ns.map D.int))/\c≠f/\0<=p/\0<=b/\0<=sd/\sd < 2147483647
def fZ:gC:=λ ds M Q=>∃(f c:ww) (n:Int),ds=[.ref f,.int n]/\Flow M f c/\0 < n/\n < 1073741824/\∀(d:Int) (o:MO),0<=d->d < n->Flow (ai M f o) f c->Q (.int d) (ai M f o)
structure Fl(f c:ww)(M M':Mem):Prop where
 bc:Flow M' f c
 mv:∀b o,b≠f->M b=some o->M' b=some o
theorem Fl.trans{c:ww}{M2:Mem}(a:Fl f c M M1)(b:Fl f c M1 M2):Fl f c M M2:=⟨b.bc,λ c o h e=>b.mv c o h (a.mv c o h e)⟩
theorem Fl.pick{c:ww}{o:MO}(h:Flow (ai M f o) f c):Fl f c M (ai M f o):=⟨h,λ b o' hb e=>by rw[aq hb];exact e⟩
theorem Flow.there{c:ww}(h:Flow M f c):∃o,M f=some o:=by obtain⟨ns,p,b,sd,ct,h,_⟩:=h;exact⟨_,h⟩
theorem Flow.Nx{c:ww}(h:Flow M f c):∃o,M c=some o:=by obtain⟨ns,p,b,sd,ct,_,h,_⟩:=h;exact⟨_,h⟩
theorem Flow.put{c:ww}{o:MO}(h:Flow M f c)(n:M q=none):Flow (ai M q o) f c:=by obtain⟨ns,p,b,sd,ct,h1,h2,h3⟩:=h;exact⟨ns,p,b,sd,ct,by rw[aq (λ z=>by rw[z,n]at h1;cases h1)];exact h1,by rw[aq (λ z=>by rw[z,n]at h2;cases h2)];exact h2,h3⟩
theorem Fl.put{c:ww}{o:MO}(h:Flow M f c)(n:M q=none):Fl f c M (ai M q o):=⟨h.put n,λ b o' hb e=>by rw[aq (λ z=>by rw[z,n]at e;cases e)];exact e⟩
theorem Flow.ne{c:ww}(h:Flow M f c)(n:M q=none):q≠f/\q≠c:=by
 constructor
 ·intro z;subst z;obtain⟨o,e⟩:=h.there;rw[n]at e;cases e
 ·intro z;subst z;obtain⟨o,e⟩:=h.Nx;rw[n]at e;cases e
theorem Fl.own{c:ww}{o:MO}(h:Fl f c M M')(h0:Flow M f c)(n:M q=none):Fl f c M (ai M' q o):=by obtain⟨n1,n2⟩:=h0.ne n;obtain⟨ns,p,b,sd,ct,h1,h2,h3⟩:=h.bc;refine⟨⟨ns,p,b,sd,ct,by rw[aq (L9 n1)];exact h1,by rw[aq (L9 n2)];exact h2,h3⟩,λ b o' hb e=>?_⟩;rw[aq (λ z=>by rw[z,n]at e;cases e)];exact h.mv b o' hb e
theorem small(h:n<=10000):n<=sizeLine:=H9 h (by decide)
theorem len_app(x y:Str):(x++y).length=x.length+y.length:=by show(x.cps++y.cps).size=x.cps.size+y.cps.size;simp
theorem wN{d:Int}(h0:0<=d)(h1:d < zs.length):∃z,z∈zs/\fE (zs.map D.str) d=some (.str z):=by
 have hl:d.toNat < zs.length:=by omega
 have e:((d.toNat:Nat):Int)=d:=by omega
 have q:fE (zs.map D.str) ((d.toNat:Nat):Int)=some (.str zs[d.toNat]):=cH (by simp[hl]);rw[e]at q;exact⟨_,A9 hl,q⟩
def DF:gC:=λ ds M Q=>∃ns:List Int,ds=[.fl (ns.map D.int)]/\∀f c M',Flow M' f c->Q (.ref f) M'
theorem dQ{lo:Int}(h:(iw lo n)[i]?=some d):i < n/\d=.int (lo+(i:Nat)):=by
 have hi:i < n:=by have:=(i5.mp h).1;rwa [bP]at this
 rw[oE hi]at h;exact⟨hi,(B7 h).symm⟩
theorem take_snoc{l:List α}{a:α}(h:l[i]?=some a):l.take (i+1)=l.take i++[a]:=by rw[take_add_one,h];rfl
def vK(as:List Int):L2.Ky:=(as.sum,as.map λ a=>0 - a)
def DE:gC:=λ ds M Q=>∃as:List Int,ds=[row as]/\as.length<=1000/\Q (.tup [.int as.sum,row (as.map λ a=>0 - a)]) M
theorem kY{Q:bH}(h:M p=some (.lst ds))(q:Q (.tup ds) M):uf [.ref p] M Q:=by show(match bb M p with|some ds=>Q (.tup ds) M|none=>False);unfold bb;rw[h];exact q
theorem back{v:D}{Q:bH}(h:∀b o,M b=some o->M1 b=some o)(q:Q v M):fin2 Q v M1:=⟨M,λ a o e=>h a o e,q⟩
theorem PB(h:∀b o,M b=some o->M' b=some o)(n:M' q=none)(x:MO):∀b o,M b=some o->ai M' q x b=some o:=λ b o e=>by rw[aq (λ z=>by rw[<- z,h b o e]at n;cases n)];exact h b o e
theorem wR{d:Int}(h0:0<=d)(h1:d < ns.length):∃x,x∈ns/\fE (ns.map D.int) d=some (.int x):=by
 have hl:d.toNat < ns.length:=by omega
 have e:((d.toNat:Nat):Int)=d:=by omega
 have q:fE (ns.map D.int) ((d.toNat:Nat):Int)=some (.int ns[d.toNat]):=cH (by simp[hl]);rw[e]at q;exact⟨_,A9 hl,q⟩
abbrev dG:=Str×List (List Int)
def X':dG:=(Str.ofString "",[])
def dF(h:dG):D:=.tup [.str h.1,.tup (h.2.map row)]
def dj(g:List dG):D:=.tup (g.map dF)
structure HA(n i:Nat)(r:List Int):Prop where
 len:r.length=n
 pos:∀x∈r,0<=x
 sum:r.sum<=4
 low:∀j,i<=j->r.getD j 0=0
structure Vc(n:Nat)(g:List dG):Prop where
 len:g.length=n
 mI:n<=12
 opts:∀i,i < n->(g.getD i X').2.length<=63/\∀r∈(g.getD i X').2,HA n i r
def lI(ns:List Int)(n:Nat):List Int:=(List.range n).map λ(h:Nat)=>((ns.count (h:Int):Nat):Int)
theorem wG(ns:List Int)(n:Nat):(lI ns n).length=n:=by simp[lI]
theorem wF:∀x∈lI ns n,0<=x:=λ x hx=>by obtain⟨h,_,rfl⟩:=G8.mp hx;omega
theorem wD(ns:List Int):∀n:Nat,(lI ns n).sum=(ns.countP λ x=>decide (0<=x/\x < (n:Int)):Nat)
 |0=>by
  have:ns.countP (λ x=>decide (0<=x/\x < ((0:Nat):Int)))=0:=countP_eq_zero.mpr λ x _=>by simp
  rw[this];rfl
 |n+1=>by
  have ih:=wD ns n;unfold lI at ih ⊢;rw[range_succ,C4,sum_append,ih];simp only[F9,map_nil,G3,sum_nil];have:ns.countP (λ x=>decide (0<=x/\x < ((n+1:Nat):Int)))=ns.countP (λ x=>decide (0<=x/\x < (n:Int)))+ns.count (n:Int):=by
   clear ih
   induction ns with
   |nil=>rfl
   |cons y ys ih=>
    rw[countP_cons,countP_cons,count_cons,ih];generalize List.countP _ ys=A;generalize List.count _ ys=B;by_cases h1:0<=y/\y < (n:Int)
    ·have h2:0<=y/\y < ((n+1:Nat):Int):=by omega
     have h3:¬(y=(n:Int)):=by omega
     rw[N3 (D1 h2),N3 (D1 h1),N4 (by simpa using h3)];omega
    ·by_cases h3:y=(n:Int)
     ·rw[N3 (D1 (by omega)),N4 (by simpa using h1),N3 (by simpa using h3)];omega
     ·rw[N4 (by simp only[x8];omega),N4 (by simpa using h1),N4 (by simpa using h3)];omega
  rw[this];omega
theorem Hd:(lI ns n).sum<=ns.length:=by rw[wD];have:=countP_le_length (p:=λ x=>decide (0<=x/\x < (n:Int))) (l:=ns);omega
theorem Hc(h:∀x∈ns,x < (i:Int))(j:Nat)(hj:i<=j):(lI ns n).getD j 0=0:=by
 unfold lI;rw[c8,x6];by_cases hn:j < n
 ·rw[getElem?_range hn];have:ns.count (j:Int)=0:=count_eq_zero.mpr λ z=>by have:=h _ z;omega
  simp[this]
 ·rw[l5 (by simpa using hn)];rfl
def oh:gC:=λ ds M Q=>∃(a:ww) (ns:List Int) (n:Nat),ds=[.ref a,.int n]/\M a=some (.lst (ns.map D.int))/\n<=1000/\Q (row (lI ns n)) M
def DD:gC:=λ ds M Q=>∃(f c:ww) (n:Nat) (m:Int),ds=[.ref f,.int n,.int m]/\Flow M f c/\n<=1000/\0<=m/\m<=1000/\∀(ns:List Int) (M':Mem),(ns.length:Int)<=m->(∀x∈ns,0<=x/\x < (n:Int))->Fl f c M M'->Q (row (lI ns n)) M'
def zq:gC:=λ ds M Q=>∃(f c:ww) (n:Nat),ds=[.ref f,.int n]/\Flow M f c/\n<=1000/\∀(ms:List Int) (M':Mem),ms.length=n->(∀x∈ms,0<=x/\x<=10^30)->Fl f c M M'->Q (row ms) M'
theorem pB:∀zs:List Str,me (zs.map D.str)=some (zs.map V.str)
 |[]=>rfl
 |z::zs=>by rw[F9];show(match pF (D.str z),me (zs.map D.str)with|some v,some vs=>some (v::vs)|_,_=>none)=_;rw[pB zs];rfl
theorem vP(z:Str):∀zs:List Str,MG (.str z) (zs.map V.str)=zs.contains z
 |[]=>rfl
 |y::ys=>by have ih:=vP z ys;unfold MG at ih ⊢;rw[F9,any_cons,ih,contains_cons];congr 1;show(y==z)=(z==y);rw[B1,beq_iff_eq,beq_iff_eq];exact eq_comm
theorem iG(z:Str)(zs:List Str):inD (.str z) (zs.map D.str)=some (zs.contains z):=by unfold inD;rw[pB];show some (MG (.str z) (zs.map V.str))=_;rw[vP]
theorem yh(c:Nat):MulOk ⟨#[c]⟩ 1:=⟨by decide,λ _ h=>(by have z:true=false:=h;cases z),λ _ h=>(by have z:true=false:=h;cases z)⟩
def wL:List Nat:=(Str.ofString "zyxwvutsrqponmlkjihgfedcba").cps.toList
def mL(j:Nat):Str:=Txt.mul ⟨#[wL.getD j 0]⟩ 1
theorem yN:((List.range 26).map mL).Nodup:=by decide+kernel
theorem vt:∀{l zs:List Str},l.Nodup->(∀x∈l,x∈zs)->l.length<=zs.length
 |[],zs,_,_=>K3 _
 |a::l,zs,hn,hs=>by rw[nodup_cons]at hn;have ha:a∈zs:=hs a (p0 ..);have h1:=vt (l:=l) (zs:=zs.erase a) hn.2 λ x hx=>(mem_erase_of_ne (λ z=>hn.1 (by rw[<- z];exact hx))).mpr (hs x (l7 _ hx));rw[length_erase_of_mem ha]at h1;have:=length_pos_of_mem ha;rw[A3];omega
theorem Hl{sp:Nat}(h26:sp<=26)(h:∀j,j < sp->mL j∈zs):sp<=zs.length:=by
 have e:((List.range sp).map mL).Nodup:=by
  refine List.Sublist.nodup (List.Sublist.map mL ?_) yN;have:List.range sp=(List.range 26).take sp:=by rw[take_range,Nat.min_eq_left h26]
  rw[this];exact take_sublist _ _
 have:=vt e (zs:=zs) λ x hx=>by obtain⟨j,hj,rfl⟩:=G8.mp hx;exact h j (by simpa using hj)
 simpa using this
theorem bx{Q:bH}{n:String}(e:my M d=some n)(hb:tP n T=b)(q:Q (.bl b) M):MZ T [d,.ty T] M Q:=⟨rfl,by rw[e];subst hb;exact q⟩
theorem gN{Q:bH}(h:my M d≠some "NoneType")(q:Q (.bl false) M):QP false d .bu M Q:=by
 cases d with
 |bu=>exact absurd rfl h
 |_=>exact q
theorem nF(h:i < ds.length):fE ds (0+(i:Int))=some ds[i]:=by rw[G5];refine cH ?_;simp[h]
theorem uB:∀n:Nat,((List.replicate n true).all id)=true
 |0=>rfl
 |n+1=>by rw[n5,all_cons,uB n];rfl
def bi(M M':Mem):Prop:=∀b o,M b=some o->M' b=some o
end KK
namespace HT
open PySem.Spec PyProof.Rows
theorem iZ{t sl:ww}{al:Array jp}{vl vu:jp}{lo hi:Option Int}(ht:IsTup s.heap t al)(hs:s.heap.IsSliceOf sl vl vu .none)(pl:IsPart vl lo)(pu:IsPart vu hi) (hw:bS al.size 0 lo=0/\bS al.size al.size hi=al.size) (h:Q (.ref t) s):wpAny (model prog w) A (getItem (.ref t) (.ref sl)) Q E s:=by
 obtain⟨os,iY,V9,Ln⟩:=id hs;have Yq:s.TypeIs (.ref sl) "slice":=⟨os,iY,V9⟩;unfold getItem
 try with_reducible refine D6 ?_
 first|refine K5 (K6 ?_)|skip
 refine K5 (wpAny_sequenceKey ht.typeIs (by decide) ?_);refine K5 (j2 (name:=Str.ofString "__getitem__") ht.typeIs a8
  (A6 a8 ht.typeIs entry_tuple_getitem ?_ (args_tuple_getitem _ _)))
 show wpAny _ _ (Builtin.Tuple.tupleItemsOf (.ref t) >>= _) _ _ s;refine K5 (tupleItemsOf_ ht ?_);refine K5 (J7 Yq ?_);rw[N3 (by decide)];refine K5 (gu hs pl pu ?_);have XW:(((bS al.size 0 lo:Nat):Int)==0&&(1:Int)==1&&(bS al.size al.size hi - bS al.size 0 lo)==al.size)=true:=by rw[hw.1,hw.2];simp
 show wpAny _ _ (if(((bS al.size 0 lo:Nat):Int)==0&&(1:Int)==1&&(bS al.size al.size hi - bS al.size 0 lo)==al.size)=true then _ else _) _ _ s;rw[N3 XW];unfold Builtin.Tuple.tupleIsExact;refine K5 (K5 (J7 ht.typeIs (K6 ?_)));rw[N3 (by decide)];exact K5 (K7 (K6 ⟨_,rfl,K6 h⟩))
end HT
namespace L2
open PySem.Spec PyProof.Rows
theorem IJ:AM X (λ x lo hi H Q=>∃a xs,x=.ref a/\gh X.K H a xs/\(HT.bS xs.length 0 lo=0/\HT.bS xs.length xs.length hi=xs.length)/\Q (.ref a) H):=by
 intro xz s σ H x v vl vu lo hi sl Q I rx hs pl pu h;obtain⟨a,xs,rfl,hx,hw,q⟩:=h;cases rx;obtain⟨ay,r,ht,hz⟩:=I.tuple hx;have hlen:ay.toArray.size=xs.length:=by rw[y9];exact r.length.symm
 exact⟨"tuple",_,a8.lookup,ht.typeIs,HT.iZ ht hs pl pu (by rw[hlen];exact hw) ⟨.ref a,H,I,rfl,q⟩⟩
end L2
namespace L3
open PySem.Spec L2
def Ha:D->Option Int->Option Int->Mem->bH->Prop:=λ x lo hi M Q=>match x with
 | .str z=>z.length<=sizeLine/\Q (.str (cS z lo hi)) M
 | .tup ds=>Q (.tup (cutD ds lo hi)) M
 | .ref a=>match bb M a with
  |some ds=>∀p,M p=none->Q (.ref p) (ai M p (.lst (cutD ds lo hi)))
  |none=>False
 |_=>False
theorem fh:U9 X Ha:=by
 obtain⟨r,h1,h2⟩:=(qo:U9 X ZX);refine⟨_,h1.or IJ,λ x d lo hi H M Q2 Q hd hm q k=>?_⟩;cases d with
 |tup ds=>
  by_cases hw:HT.bS ds.length 0 lo=0/\HT.bS ds.length ds.length hi=ds.length
  ·have q:Q2 (.tup (cutD ds lo hi)) M:=q;have e:cutD ds lo hi=ds:=by unfold cutD;rw[hw.1,hw.2];simp
   rw[e]at q;obtain⟨p,xs,rfl,h,hx⟩:=aW.mp hd;exact .inr ⟨p,xs,rfl,h,by rw[hx.length];exact hw,k _ H _ M (aW.mpr ⟨p,xs,rfl,h,hx⟩) hm (ax.refl H) q⟩
  ·exact .inl (h2 x (.tup ds) lo hi H M Q2 Q hd hm ⟨hw,q⟩ k)
 |str z=>exact .inl (h2 x (.str z) lo hi H M Q2 Q hd hm q k)
 |ref a=>exact .inl (h2 x (.ref a) lo hi H M Q2 Q hd hm q k)
 |_=>exact q.elim
section
variable {Q:bH}
theorem LM{i:Int}(h0:0<=i):cutD ds none (some i)=ds.take i.toNat:=by
 unfold cutD;have e:HT.bS ds.length ds.length (some i)=min i.toNat ds.length:=by show(if i < 0 then(i+(ds.length:Int)).toNat else min i.toNat ds.length)=_;rw[N4 (by omega)]
 rw[e];show(ds.drop 0).take (min i.toNat ds.length - 0)=_;rw[drop_zero,Nat.sub_zero,take_eq_take_iff];omega
theorem Cz{i:Int}(h0:0<=i):cutD ds (some i) none=ds.drop i.toNat:=by
 unfold cutD;have e:HT.bS ds.length 0 (some i)=min i.toNat ds.length:=by show(if i < 0 then(i+(ds.length:Int)).toNat else min i.toNat ds.length)=_;rw[N4 (by omega)]
 rw[e];show(ds.drop (min i.toNat ds.length)).take (ds.length - min i.toNat ds.length)=_;rw[j4 (by rw[A4];omega)];by_cases h:i.toNat<=ds.length
 ·rw[Nat.min_eq_left h]
 ·rw[Nat.min_eq_right (by omega),drop_length,drop_of_length_le (by omega)]
theorem eQ{lo hi:Option Int}(h:z.length<=sizeLine)(q:Q (.str (cS z lo hi)) M):Ha (.str z) lo hi M Q:=⟨h,q⟩
theorem sT{lo hi:Option Int}(h:M a=some (.lst ds))(q:∀p,M p=none->Q (.ref p) (ai M p (.lst (cutD ds lo hi)))):Ha (.ref a) lo hi M Q:=by show(match bb M a with|some ds=>∀p,M p=none->Q (.ref p) (ai M p (.lst (cutD ds lo hi)))|none=>False);unfold bb;rw[h];exact q
theorem iO{i:Int}(h:M a=some (.lst ds))(h0:0<=i)(q:∀p,M p=none->Q (.ref p) (ai M p (.lst (ds.take i.toNat)))):Ha (.ref a) none (some i) M Q:=by refine sT h ?_;rw[LM h0];exact q
theorem iu{i:Int}(h:M a=some (.lst ds))(h0:0<=i)(q:∀p,M p=none->Q (.ref p) (ai M p (.lst (ds.drop i.toNat)))):Ha (.ref a) (some i) none M Q:=by refine sT h ?_;rw[Cz h0];exact q
end
open PySem.Spec L2 L5
section
variable {δc:dm}{E:eE}
theorem Qy{src:Src}(Pv:Nat->dm->Mem->Prop)(h0:Pv 0 δ M1)(hl:∀i δ M,i<=ds.length->Pv i δ M->al src M=some ds) (hs:∀i d δ M,ds[i]?=some d->Pv i δ M->g d δ M λ δ2 M2=>tb {E with nx:=Pv (i+1),ct:=Pv (i+1),bk:=E.nx} δ2 M2) (hd:∀δ M,Pv ds.length δ M->E.nx δ M):∃(B:Nat) (W:Nat->dm->Mem->Prop),W 0 δ M1/\∀i δ M,W i δ M->i<=B/\match al src M with
   |none=>False
   |some ds=>match ds[i]? with
    |none=>i=ds.length/\E.nx δ M
    |some d=>g d δ M λ δ2 M2=>tb {E with nx:=W (i+1),ct:=W (i+1),bk:=E.nx} δ2 M2:=by
 refine⟨ds.length,λ i δ M=>if i<=ds.length then Pv i δ M else False,by dsimp only;rw[N3 (K3 _)];exact h0,?_⟩;intro i δ M w;by_cases hi:i<=ds.length
 ·rw[N3 hi]at w;refine⟨hi,?_⟩;rw[hl i δ M hi w];show(match ds[i]? with
    |none=>i=ds.length/\E.nx δ M
    |some d=>g d δ M λ δ2 M2=>tb {E with nx:=(λ δ M=>if i+1<=ds.length then Pv (i+1) δ M else False),ct:=(λ δ M=>if i+1<=ds.length then Pv (i+1) δ M else False),bk:=E.nx} δ2 M2)
  cases e:ds[i]? with
  |none=>have:i=ds.length:=C5 hi (i6.mp e);subst this;exact⟨rfl,hd δ M w⟩
  |some d=>have kH:i+1<=ds.length:=(i5.mp e).1;simp only[N3 kH];exact hs i d δ M e w
 ·rw[N4 hi]at w;exact w.elim
end
def mq(x y:D)(M:Mem):Option (List D):=match cE M x,cE M y with
 |some xs,some ys=>some (nH xs ys)
 |_,_=>none
def FU(ta:gg):qC:=λ δ M R=>ta δ M λ ds M1=>match ds with
 |[.tup xs,.tup ys]=>R (.fix (nH xs ys)) M1
 |[x,y]=>(∃zs,mq x y M1=some zs)/\R (.fn (mq x y)) M1
 |_=>False
theorem qJ{x y:D}{zs:List D}(h:mq x y M=some zs):∃xs ys,cE M x=some xs/\cE M y=some ys/\zs=nH xs ys:=by
 unfold mq at h;cases e1:cE M x with
 |none=>rw[e1]at h;cases h
 |some xs=>
  cases e2:cE M y with
  |none=>rw[e1,e2]at h;cases h
  |some ys=>rw[e1,e2]at h;cases h;exact⟨xs,ys,rfl,rfl,rfl⟩
theorem BR{b:ww}{x y:D}(hx:bn K H1 x (.ref a))(hy:bn K H1 y (.ref b)):qE K H1 (Wi K (kindB x) (kindB y) a b) (.fn (mq x y)):=λ H M zs t hm e=>by obtain⟨ds,es,e1,e2,rfl⟩:=qJ (show mq x y M=some zs from e);obtain⟨p,xs,e3,q1,x1⟩:=gM e1 (bn.mono t x hx) hm;cases e3;obtain⟨p,ys,e3,q2,x2⟩:=gM e2 (bn.mono t y hy) hm;cases e3;have l1:=x1.length;have l2:=x2.length;rw[CZ];refine⟨λ i hi=>⟨xs,ys,xs[i]'(by omega),ys[i]'(by omega),q1,q2,by simp,by simp⟩,λ i hi=>⟨xs,ys,q1,q2,by omega⟩,λ i v H' hi z=>?_⟩;obtain⟨p,vx,vy,hp,rfl,rfl,Lg,XX⟩:=z;obtain⟨d,d1,d2⟩:=x1.t_ (Lg xs q1);obtain⟨e,e1,e2⟩:=x2.t_ (XX ys q2);refine⟨ax.laid hp,hm.laid hp,.tup [d,e],?_,gG hp (ah.mpr ⟨vx,[vy],rfl,d2,aG.one e2⟩)⟩;obtain⟨z1,w1⟩:=i5.mp d1;obtain⟨z2,w2⟩:=i5.mp e1;simp[nH,hi,w1,w2,z1,z2]
section
variable {k0:_}{a b:Expr}{p:Pos}
theorem JK(hg:Gl X "zip")(hm:X.mg "zip"=none)(ha:QA X [a,b] ta)(hs:starEach [a,b] X.env=[(false,eval a X.env),(false,eval b X.env)]:=by rfl)(mH:starEach [b] X.env=[(false,eval b X.env)]:=by rfl):QI X (.Tuple es k0 e_) (.Call (.Name "zip" p) [a,b] [] pos) (FU ta):=zH (O1 hg hm ha hs mH) λ σ H R ⟨δ,M,R2,hs,hm,q,k⟩=>by
 refine⟨δ,M,_,hs,hm,q,λ xs H1 ds M1 hd bU t1 q1=>?_⟩;have go:∀x y,ds=[x,y]->(∃zs,mq x y M1=some zs)->(∀J,qE X.K H1 J (.fn (mq x y))->R J H1)->∃(b1 b2:Bool) (l m:ww),xs=[.ref l,.ref m]/\(∃xs,Sq b1 X.K H1 l xs)/\(∃ys,Sq b2 X.K H1 m ys)/\R (Wi X.K b1 b2 l m) H1:=by rintro x y rfl ⟨zs,hz⟩ hR;obtain⟨vx,r,rfl,hx,hr⟩:=ah.mp hd;obtain⟨vy,r,rfl,hy,hr⟩:=ah.mp hr;cases(av.mp hr);obtain⟨xs,ys,e1,e2,_⟩:=qJ hz;obtain⟨p,vs,rfl,q1,_⟩:=gM e1 hx bU;obtain⟨p2,ws,rfl,q2,_⟩:=gM e2 hy bU;exact⟨_,_,p,p2,rfl,⟨vs,q1⟩,⟨ws,q2⟩,hR _ (BR hx hy)⟩
 match ds,q1 with
 |[x,y],q1=>
  by_cases ht:∃xs ys,x=.tup xs/\y=.tup ys
  ·obtain⟨xs,ys,rfl,rfl⟩:=ht;refine go _ _ rfl ⟨_,rfl⟩ λ J hJ=>k J H1 (.fix (nH xs ys)) M1 (λ H M ds t hm e=>hJ H M ds t hm e) bU t1 q1
  ·have q2:(∃zs,mq x y M1=some zs)/\R2 (.fn (mq x y)) M1:=by cases x <;> first|exact q1|(cases y <;> first|exact q1|exact absurd ⟨_,_,rfl,rfl⟩ ht)
   exact go x y rfl q2.1 λ J hJ=>k J H1 _ M1 hJ bU t1 q2.2
 |[],q1=>exact q1.elim
 |[x],q1=>cases x <;> exact q1.elim
 |x::y::z::r,q1=>cases x <;> first|exact q1.elim|(cases y <;> exact q1.elim)
end
end L3
namespace L4
open PySem.Spec L2 L3 L5
section
variable {k0:_}{a b:Expr}{p:Pos}
theorem Ik(hg:Gl X "zip")(hm:X.mg "zip"=none)(ha:WA X [a,b] ta)(hs:starEach [a,b] X.env=[(false,eval a X.env),(false,eval b X.env)]:=by rfl)(mH:starEach [b] X.env=[(false,eval b X.env)]:=by rfl):WI X (.Tuple es k0 e_) (.Call (.Name "zip" p) [a,b] [] pos) (FU ta):=⟨JK hg hm ha.h hs mH⟩
end
end L4
namespace L3
open PySem.Spec L2 L5 PyProof.Rows
def Pl:Nat->D->Prop
 |0,d=>d=.bu\/(∃i,d=.int i)\/∃x,d=.str x/\PyData.strOk x=true
 |k+1,d=>d=.bu\/(∃i,d=.int i)\/(∃x,d=.str x/\PyData.strOk x=true)\/∃ds,d=.tup ds/\∀e∈ds,Pl k e
theorem EJ(k:Nat)(i:Int):Pl k (.int i):=by
 cases k with
 |zero=>exact .inr (.inl ⟨i,rfl⟩)
 |succ k=>exact .inr (.inl ⟨i,rfl⟩)
theorem sZ(k:Nat):Pl k .bu:=by
 cases k with
 |zero=>exact .inl rfl
 |succ k=>exact .inl rfl
theorem dA(k:Nat)(h:PyData.strOk x=true):Pl k (.str x):=by
 cases k with
 |zero=>exact .inr (.inr ⟨x,rfl,h⟩)
 |succ k=>exact .inr (.inr (.inl ⟨x,rfl,h⟩))
theorem EF(h:∀e∈ds,Pl k e):Pl (k+1) (.tup ds):=.inr (.inr (.inr ⟨ds,rfl,h⟩))
theorem f_{xs:List α}{enc:α->D}(h:∀x∈xs,Pl k (enc x)):∀e∈xs.map enc,Pl k e:=λ e he=>by obtain⟨x,hx,rfl⟩:=G8.mp he;exact h x hx
structure Z3(k:Nat)(d:D):Prop where
 nr:nr d=true
 lay:(toP d).canLay0=true
 dep:(toP d).depth<=k
structure Y1(k:Nat)(ds:List D):Prop where
 nr:oP ds=true
 lay:PyData.canLayAll0 (toPs ds)=true
 dep:PyData.depthAll (toPs ds)<=k
theorem jX:∀{ds:List D},(∀e∈ds,Z3 k e)->Y1 k ds
 |[],_=>⟨by unfold oP;rfl,by unfold toPs;simp[PyData.canLayAll0],by unfold toPs;simp[PyData.depthAll]⟩
 |d::ds,h=>by
  have h1:=h d (p0 ..);have h2:=jX (ds:=ds) λ e he=>h e (l7 _ he);refine⟨?_,?_,?_⟩
  ·unfold oP;rw[h1.nr,h2.nr];rfl
  ·unfold toPs;simp only[PyData.canLayAll0];rw[h1.lay,h2.lay];rfl
  ·unfold toPs;simp only[PyData.depthAll];exact Nat.max_le.mpr ⟨h1.dep,h2.dep⟩
theorem Pl.f9:∀{k:Nat} {d:D},Pl k d->Z3 k d
 |0,d,h=>by
  rcases h with rfl|⟨i,rfl⟩|⟨x,rfl,hx⟩
  ·exact⟨by unfold L3.nr;rfl,by unfold toP;simp[PyData.canLay0],by unfold toP;simp[PyData.depth]⟩
  ·exact⟨by unfold L3.nr;rfl,by unfold toP;simp[PyData.canLay0],by unfold toP;simp[PyData.depth]⟩
  ·exact⟨by unfold L3.nr;rfl,by unfold toP;simp[PyData.canLay0,hx],by unfold toP;simp[PyData.depth]⟩
 |k+1,d,h=>by
  rcases h with rfl|⟨i,rfl⟩|⟨x,rfl,hx⟩|⟨ds,rfl,h⟩
  ·exact⟨by unfold L3.nr;rfl,by unfold toP;simp[PyData.canLay0],by unfold toP;simp[PyData.depth]⟩
  ·exact⟨by unfold L3.nr;rfl,by unfold toP;simp[PyData.canLay0],by unfold toP;simp[PyData.depth]⟩
  ·exact⟨by unfold L3.nr;rfl,by unfold toP;simp[PyData.canLay0,hx],by unfold toP;simp[PyData.depth]⟩
  ·have q:=jX λ e he=>Pl.f9 (h e he);refine⟨?_,?_,?_⟩
   ·unfold L3.nr;exact q.nr
   ·unfold toP;simp only[PyData.canLay0];exact q.lay
   ·unfold toP;simp only[PyData.depth];have:=q.dep;omega
theorem pH(ih:∀x y:D,Pl k x->Pl k y->(PyData.eqv (toP x) (toP y)=true↔x=y)):∀{ds es:List D},(∀e∈ds,Pl k e)->(∀e∈es,Pl k e)->(PyData.eqvAll (toPs ds) (toPs es)=true↔ds=es)
 |[],[],_,_=>by unfold toPs;simp[PyData.eqvAll]
 |[],e::es,_,_=>by unfold toPs;simp[PyData.eqvAll]
 |d::ds,[],_,_=>by unfold toPs;simp[PyData.eqvAll]
 |d::ds,e::es,h1,h2=>by have a:=ih d e (h1 d (p0 ..)) (h2 e (p0 ..));have b:=pH ih (ds:=ds) (es:=es) (λ x hx=>h1 x (l7 _ hx)) (λ x hx=>h2 x (l7 _ hx));unfold toPs;simp only[PyData.eqvAll,A7,a,b,List.cons.injEq]
theorem ny:∀{k:Nat} (x y:D),Pl k x->Pl k y->(PyData.eqv (toP x) (toP y)=true↔x=y)
 |0,x,y,hx,hy=>by rcases hx with rfl|⟨i,rfl⟩|⟨z,rfl,_⟩ <;> rcases hy with rfl|⟨j,rfl⟩|⟨w,rfl,_⟩ <;> simp[toP,PyData.eqv]
 |k+1,x,y,hx,hy=>by
  rcases hx with rfl|⟨i,rfl⟩|⟨z,rfl,_⟩|⟨ds,rfl,hd⟩ <;> rcases hy with rfl|⟨j,rfl⟩|⟨w,rfl,_⟩|⟨es,rfl,he⟩ <;> first
   |(simp[toP,PyData.eqv];done)
   |(have:=pH (λ x y=>ny (k:=k) x y) hd he
     unfold toP;simp only[PyData.eqv,D.tup.injEq];exact this)
theorem gL(h:∀e∈ds,Pl k e)(hk:k<=60):SeqAt.shaped (.list (toPs ds))=true:=by
 have f:=jX λ e he=>(h e he).f9;have h1:(PyData.list (toPs ds)).canLay0=true:=by simp only[PyData.canLay0];exact f.lay
 have h2:(PyData.list (toPs ds)).depth<=64:=by simp only[PyData.depth];have:=f.dep;omega
 unfold SeqAt.shaped;rw[h1,D1 h2];rfl
section
variable {Q:bH}
theorem mV(hM:M p=some (.lst ds))(h:∀e∈ds,Pl k e):xU M (.ref p)=some (.list (toPs ds)):=by have f:=jX λ e he=>(h e he).f9;unfold xU;simp only[hM];rw[N3 f.nr]
theorem rJ{es:List D}(h1:∀e∈ds,Pl k e)(h2:∀e∈es,Pl k e)(hb:b=true↔ds=es):PyData.eqv (.list (toPs ds)) (.list (toPs es))=b:=by rw[B1];have:=pH (λ x y=>ny (k:=k) x y) h1 h2;simp only[PyData.eqv];exact this.trans hb.symm
theorem jV{p2:ww}{es:List D}(hM:M p=some (.lst ds))(Yr:M p2=some (.lst es))(h1:∀e∈ds,Pl k e)(h2:∀e∈es,Pl k e)(hk:k<=60)(hb:b=true↔ds=es)(q:Q (.bl b) M):wu false (.ref p) (.ref p2) M Q:=by refine .inr ⟨_,_,mV hM h1,mV Yr h2,gL h1 hk,gL h2 hk,?_⟩;rw[rJ h1 h2 hb];exact q
theorem sV{p2:ww}{es:List D}(hM:M p=some (.lst ds))(Yr:M p2=some (.lst es))(h1:∀e∈ds,Pl k e)(h2:∀e∈es,Pl k e)(hk:k<=60)(hb:b=true↔ds=es)(q:Q (.bl (!b)) M):wu true (.ref p) (.ref p2) M Q:=by refine .inr ⟨_,_,mV hM h1,mV Yr h2,gL h1 hk,gL h2 hk,?_⟩;rw[rJ h1 h2 hb];exact q
end
theorem qY{v:jp}{y:PyData}{bs:List ww}(ry:Reads s.heap v y bs)(cy:y.canLay0=true)(hu:A.units+y.depth < cLine):∀{ds:List D} {us:List jp} {as:List ww},ReadsAll s.heap us (toPs ds) as->PyData.canLayAll0 (toPs ds)=true->
  ∃e:jp->Bool,(∀u∈us,SeqAt.EqAt A s u v (e u))/\us.map e=ds.map λ d=>PyData.eqv (toP d) y:=by
 intro ds us as ra cl;refine⟨λ u=>PyData.eqv (SeqAt.readOf s.heap u) y,λ u Ro=>?_,?_⟩
 ·obtain⟨d,ZZ,rd,cd,_⟩:=SeqAt.readsAll_mem _ _ _ cl ra u Ro;have e:=SeqAt.readOf_eq cd rd;dsimp only;rw[e];exact A0 d y A s u v _ _ rd ry cd cy (by omega)
 ·have e:=SeqAt.readsAll_map _ _ _ cl ra;have f:∀(us:List jp) (ds:List D),us.map (SeqAt.readOf s.heap)=toPs ds->us.map (λ u=>PyData.eqv (SeqAt.readOf s.heap u) y)=ds.map λ d=>PyData.eqv (toP d) y:=by
   intro us
   induction us with
   |nil=>
    intro ds q;cases ds with
    |nil=>rfl
    |cons d r=>unfold toPs at q;cases q
   |cons u us ih=>
    intro ds q;cases ds with
    |nil=>unfold toPs at q;cases q
    |cons d r=>
     unfold toPs at q;rw[F9]at q;injection q with q1 q2
     rw[F9,F9,ih r q2,q1]
  exact f us ds e
structure Y6(K:N5)(H:Hp)(b:Bool)(p:ww)(xs:List V)(ds:List D)(x:V)(d:D):Prop where
 sq:Sq b K H p xs
 UE:aG K H ds xs
 dat:bn K H d x
 ns:oP ds=true
 n:nr d=true
 KP:PyData.canLayAll0 (toPs ds)=true
 lay:(toP d).canLay0=true
 dep:(toP d).depth < 62
theorem any_map(us:List α)(e:α->Bool)(bs:List Bool)(h:us.map e=bs):us.any e=bs.any id:=by rw[<- h,List.any_map];rfl
theorem Pd(neg:Bool)(hu:X.A.units+64 < cLine):fG X (compareOp (if neg then .NotIn else .In)) (λ x y H Q=>∃(b:Bool) (p:ww) (xs:List V) (ds:List D) (d:D),y=.ref p/\Y6 X.K H b p xs ds x d/\Q (.bl (if neg then !ds.any (λ e=>PyData.eqv (toP e) (toP d))else ds.any λ e=>PyData.eqv (toP e) (toP d))) H):=by
 intro xz s σ H x y v u Q I rx ry h;obtain⟨b,p,xs,ds,d,rfl,ok,q⟩:=h;cases ry;obtain⟨bs,rb⟩:=Sn I d ok.n ok.dat rx;have hd:=ok.dep;cases b with
 |false=>
  obtain⟨ay,r,pl,hz⟩:=I.list ok.sq;obtain⟨as,ra⟩:=vf I ds ok.ns ok.UE r;obtain⟨e,e1,e2⟩:=qY (A:=X.A.in1) rb ok.lay (by show X.A.units+1+_ < _;omega) ra ok.KP;have e3:ay.toArray.any e=ds.any λ e=>PyData.eqv (toP e) (toP d):=by rw[show ay.toArray.any e=ay.any e by simp,any_map _ _ _ e2,List.any_map];rfl
  cases neg with
  |false=>exact SeqAt.in_listAt e pl.isList (λ w hw=>e1 w (by simpa using hw)) ⟨.bl _,H,I,rfl,by rw[e3];exact q⟩
  |true=>exact SeqAt.notIn_listAt e pl.isList (λ w hw=>e1 w (by simpa using hw)) ⟨.bl _,H,I,rfl,by rw[e3];exact q⟩
 |true=>
  obtain⟨ay,r,pl,hz⟩:=I.tuple ok.sq;obtain⟨as,ra⟩:=vf I ds ok.ns ok.UE r;obtain⟨e,e1,e2⟩:=qY (A:=X.A.in1) rb ok.lay (by show X.A.units+1+_ < _;omega) ra ok.KP;have e3:ay.toArray.any e=ds.any λ e=>PyData.eqv (toP e) (toP d):=by rw[show ay.toArray.any e=ay.any e by simp,any_map _ _ _ e2,List.any_map];rfl
  cases neg with
  |false=>exact SeqAt.in_tupleAt e pl (λ w hw=>e1 w (by simpa using hw)) ⟨.bl _,H,I,rfl,by rw[e3];exact q⟩
  |true=>exact SeqAt.notIn_tupleAt e pl (λ w hw=>e1 w (by simpa using hw)) ⟨.bl _,H,I,rfl,by rw[e3];exact q⟩
open PySem.Spec L2 L5 PyProof.Rows
def MV:List D->Mem->bH->Prop:=λ ds M Q=>∃ns:List Int,ds=ns.map D.int/\Q (.int ns.sum) M
theorem Ip:mm QJ MV:=λ ds M p Q hp hz q=>by obtain⟨ns,rfl,q⟩:=q;exact⟨.ref p,_,ns,rfl,lq,rfl,M,(bA.refl M).put hp,q⟩
def MX:List D->Mem->bH->Prop:=λ xs M Q=>∃i j,xs=[.int i,.int j]/\Q (.int (max i j)) M
theorem U1(hc:X.calm=true):cZ X (.builtin "max") MX:=⟨_,CD hc,λ xs ds H M Q2 Q hd hm q k=>by
 obtain⟨i,j,rfl,q⟩:=q;obtain⟨v,r,rfl,hv,hr⟩:=ah.mp hd;obtain⟨v2,r2,rfl,X7,TM⟩:=ah.mp hr;cases(av.mp TM);cases(aw.mp hv);cases(aw.mp X7);refine⟨i,j,rfl,k _ H _ M (aw.mpr rfl) hm (ax.refl H) ?_⟩;have e:(if j > i then j else i)=max i j:=by split <;> omega
 rw[e];exact q⟩
def M_:List D->Mem->bH->Prop:=λ xs M Q=>(∃b,xs=[.bl b]/\Q (.int (if b then 1 else 0)) M)\/∃i,xs=[.int i]/\Q (.int i) M
theorem Ho:cZ X (.type "int") M_:=⟨_,CG,λ xs ds H M Q2 Q hd hm q k=>by
 rcases q with⟨b,rfl,q⟩|⟨b,rfl,q⟩
 ·obtain⟨v,r,rfl,hv,hr⟩:=ah.mp hd;cases(av.mp hr);cases(aR.mp hv);exact .inr ⟨b,rfl,k _ H _ M (aw.mpr rfl) hm (ax.refl H) q⟩
 ·obtain⟨v,r,rfl,hv,hr⟩:=ah.mp hd;cases(av.mp hr);cases(aw.mp hv);exact .inl ⟨b,rfl,k _ H _ M (aw.mpr rfl) hm (ax.refl H) q⟩⟩
def UJ:fF:=λ x y M Q=>∃l k ds,x=.ref l/\y=.int k/\M l=some (.lst ds)/\-(2^63)<=k/\k < 2^63/\ds.length*k.toNat<=sizeLine/\∀p,M p=none->Q (.ref p) (ai M p (.lst (List.replicate k.toNat ds).flatten))
def rP:fF:=λ x y M Q=>wq x y M Q\/UJ x y M Q
theorem dR:eX X (binaryOp .Mult) rP:=Pu.or ⟨_,O9,λ x y d e H M Q2 Q hd he hm q k=>by
 obtain⟨l,n,ds,rfl,rfl,hM,h1,h2,hz,q⟩:=q;cases(aP.mp hd);cases(aw.mp he);obtain⟨xs,hx,ZI⟩:=hm l _ hM;exact⟨l,n,xs,rfl,rfl,hx,h1,h2,by rw[ZI.length];exact hz,λ p hp=>k _ _ (.ref p) _ (aP.mpr rfl) (de hp (pL ZI n.toNat) hm) (ax.laid hp) (q p (hm.free hp))⟩⟩
structure Z_(M:Mem)(x y:D)(ds:List D):Prop where
 sq:cE M y=some ds
 ns:oP ds=true
 n:nr x=true
 KP:PyData.canLayAll0 (toPs ds)=true
 lay:(toP x).canLay0=true
 dep:(toP x).depth < 62
def QQ(neg:Bool):fF:=λ x y M Q=>∃ds,Z_ M x y ds/\Q (.bl (if neg then !ds.any (λ e=>PyData.eqv (toP e) (toP x))else ds.any λ e=>PyData.eqv (toP e) (toP x))) M
theorem MC(neg:Bool)(hu:X.A.units+64 < cLine):eX X (compareOp (if neg then .NotIn else .In)) (QQ neg):=⟨_,Pd neg hu,λ x y d e H M Q2 Q hd he hm q k=>by
 obtain⟨ds,ok,q⟩:=q;obtain⟨p,xs,rfl,q1,x1⟩:=gM ok.sq he hm;exact⟨_,p,xs,ds,d,rfl,⟨q1,x1,hd,ok.ns,ok.n,ok.KP,ok.lay,ok.dep⟩,k _ H _ M (aR.mpr rfl) hm (ax.refl H) q⟩⟩
def Cy:fF:=λ x y M Q=>UQ x y M Q\/QQ false x y M Q
theorem hU(hu:X.A.units+64 < cLine):eX X (compareOp .In) Cy:=Xm.or (MC false hu)
def Ax:fF:=λ x y M Q=>∃i j,x=.str i/\y=.str j/\Q (.bl (!(!(Builtin.Str.occurrences j i 0 j.length 1).isEmpty))) M
theorem Fp:eX X (compareOp .NotIn) Ax:=⟨_,tf,λ x y d e H M Q2 Q hd he hm q k=>by
 obtain⟨i,j,rfl,rfl,q⟩:=q;cases(aI.mp hd);cases(aI.mp he);exact⟨i,j,rfl,rfl,k _ H _ M (aR.mpr rfl) hm (ax.refl H) q⟩⟩
def nz:fF:=λ x y M Q=>Ax x y M Q\/QQ true x y M Q
theorem oO(hu:X.A.units+64 < cLine):eX X (compareOp .NotIn) nz:=Fp.or (MC true hu)
def UK:D->List D->Mem->bH->Prop:=λ x vs M Q=>(∃p ds y,x=.ref p/\vs=[]/\M p=some (.lst ds)/\ds[ds.length - 1]?=some y/\Q y (ai M p (.lst ds.dropLast)))\/
 ∃p ds i k y,x=.ref p/\vs=[.int i]/\M p=some (.lst ds)/\-(2^63)<=i/\i < 2^63/\seqIndex? i ds.length=some k/\ds[k]?=some y/\Q y (ai M p (.lst (ds.eraseIdx k)))
theorem aG.eraseIdx:∀{ds:List D} {xs:List V} (n:Nat),aG K H ds xs->aG K H (ds.eraseIdx n) (xs.eraseIdx n)
 |[],xs,n,h=>by rw[av]at h;subst h;simp[av]
 |d::ds,xs,0,h=>by obtain⟨x,r,rfl,a,b⟩:=ah.mp h;exact b
 |d::ds,xs,n+1,h=>by obtain⟨x,r,rfl,a,b⟩:=ah.mp h;rw[eraseIdx_cons_succ,eraseIdx_cons_succ,ah];exact⟨x,_,rfl,a,b.eraseIdx n⟩
theorem aG.dropLast(h:aG K H ds xs):aG K H ds.dropLast xs.dropLast:=by rw[dropLast_eq_take,dropLast_eq_take,h.length];exact h.take _
theorem Nd.or{id:String}{r r':V->List V->Hp->VK->Prop}(h:Nd X id r)(h':Nd X id r'):Nd X id (λ x vs H Q=>r x vs H Q\/r' x vs H Q):=by
 intro xz s σ H x xs v us Q I a b q;rcases q with q|q
 ·exact h xz s σ H x xs v us Q I a b q
 ·exact h' xz s σ H x xs v us Q I a b q
theorem Tn:HZ X "list.pop" UK:=⟨_,Nd.or Py FD,λ x xs d ds H M Q2 Q hx hd hm q k=>by
 rcases q with⟨p,es,y,rfl,rfl,hM,hy,q⟩|⟨p,es,i,j,y,rfl,rfl,hM,h1,h2,hs,hy,q⟩
 ·cases(aP.mp hx);cases(av.mp hd);obtain⟨zs,h1,h2⟩:=hm p _ hM;obtain⟨v,hv,X6⟩:=h2.get hy;have t:=ax.lst (o:=.lst zs.dropLast) h1;exact .inl ⟨p,zs,v,rfl,rfl,h1,by rw[h2.length];exact hv,k _ _ y _ (bn.mono t y X6) (hm.put (u:=.lst es.dropLast) t ⟨_,aV,aG.mono t _ h2.dropLast⟩) t q⟩
 ·cases(aP.mp hx);obtain⟨v0,r,rfl,hv0,hr⟩:=ah.mp hd;cases(av.mp hr);cases(aw.mp hv0);obtain⟨zs,g1,g2⟩:=hm p _ hM;obtain⟨v,hv,X6⟩:=g2.get hy;have t:=ax.lst (o:=.lst (zs.eraseIdx j)) g1;exact .inr ⟨p,zs,i,j,v,rfl,rfl,g1,h1,h2,by rw[g2.length];exact hs,hv,k _ _ y _ (bn.mono t y X6) (hm.put (u:=.lst (es.eraseIdx j)) t ⟨_,aV,aG.mono t _ (g2.eraseIdx j)⟩) t q⟩⟩
section
variable {Q:bH}
theorem IY(q:Q (.int ns.sum) M):MV (ns.map D.int) M Q:=⟨ns,rfl,q⟩
theorem Jf{i j:Int}(q:Q (.int (max i j)) M):MX [.int i,.int j] M Q:=⟨i,j,rfl,q⟩
theorem Ee(q:Q (.int (if b then 1 else 0)) M):M_ [.bl b] M Q:=.inl ⟨b,rfl,q⟩
theorem jT{i j:Int}(h:uF i j)(q:Q (.int (i*j)) M):rP (.int i) (.int j) M Q:=.inl (D' h q)
theorem jS{i:Str}{j:Int}(h:MulOk i j)(q:Q (.str (Txt.mul i j)) M):rP (.str i) (.int j) M Q:=.inl (D_ h q)
theorem vc{k:Int}(h0:0<=k)(h1:k<=10000)(q:Q (.tup (List.replicate k.toNat d)) M):rP (.tup [d]) (.int k) M Q:=.inl (DZ h0 h1 q)
theorem vd{k:Int}(hM:M p=some (.lst [d]))(h0:0<=k)(h1:k<=10000)(q:∀p,M p=none->Q (.ref p) (ai M p (.lst (List.replicate k.toNat d)))):rP (.ref p) (.int k) M Q:=by
 refine .inr ⟨p,k,[d],rfl,rfl,hM,Int.le_trans (by decide) h0,v9 h1 (by decide),?_,?_⟩
 ·have:[d].length*k.toNat<=10000:=by simp;omega
  exact R1 this
 ·have e:(List.replicate k.toNat [d]).flatten=List.replicate k.toNat d:=by
   generalize k.toNat=n
   induction n with
   |zero=>rfl
   |succ n ih=>rw[n5,y3,ih,n5];rfl
  rw[e];exact q
theorem Jm{i j:Str}(q:Q (.bl (!(Builtin.Str.occurrences j i 0 j.length 1).isEmpty)) M):Cy (.str i) (.str j) M Q:=.inl (Oi q)
theorem sW{x:D}(e:inD x ds=some b)(q:Q (.bl b) M):Cy x (.tup ds) M Q:=.inl (Oh e q)
theorem zA{x:D}(h:M a=some (.lst ds))(e:inD x ds=some b)(q:Q (.bl b) M):Cy x (.ref a) M Q:=.inl (Oj h e q)
theorem fg(h:M a=some (.lst ds)):cE M (.ref a)=some ds:=by show bb M a=some ds;unfold bb;rw[h]
theorem rB{x y:D}(hs:cE M y=some ds)(hx:Pl k x)(hd:∀e∈ds,Pl k e)(hk:k<=60):Z_ M x y ds:=by have f:=jX λ e he=>(hd e he).f9;exact⟨hs,f.nr,hx.f9.nr,f.lay,hx.f9.lay,by have:=hx.f9.dep;omega⟩
theorem Ht{x:D}(hx:Pl k x)(hd:∀e∈ds,Pl k e)(hb:b=true↔x∈ds):(ds.any λ e=>PyData.eqv (toP e) (toP x))=b:=by
 rw[B1,hb,List.any_eq_true];constructor
 ·rintro⟨e,he,h⟩;rw[<- (ny e x (hd e he) hx).mp h];exact he
 ·intro h;exact⟨x,h,(ny x x hx hx).mpr rfl⟩
theorem sX{x y:D}(hs:cE M y=some ds)(hx:Pl k x)(hd:∀e∈ds,Pl k e)(hk:k<=60)(hb:b=true↔x∈ds)(q:Q (.bl b) M):Cy x y M Q:=by refine .inr ⟨ds,rB hs hx hd hk,?_⟩;rw[Ht hx hd hb];exact q
theorem xP{x y:D}(hs:cE M y=some ds)(hx:Pl k x)(hd:∀e∈ds,Pl k e)(hk:k<=60)(hb:b=true↔x∈ds)(q:Q (.bl (!b)) M):nz x y M Q:=by refine .inr ⟨ds,rB hs hx hd hk,?_⟩;rw[Ht hx hd hb];exact q
theorem Bo{i j:Str}(q:Q (.bl (!(!(Builtin.Str.occurrences j i 0 j.length 1).isEmpty))) M):nz (.str i) (.str j) M Q:=.inl ⟨i,j,rfl,rfl,q⟩
theorem zR{xs:List α}{enc:α->D}(inj:∀a b,enc a=enc b->a=b)(a:α):enc a∈xs.map enc↔a∈xs:=by
 rw[G8];constructor
 ·rintro⟨b,hb,e⟩;rw[<- inj _ _ e];exact hb
 ·intro h;exact⟨a,h,rfl⟩
theorem DY{y:D}(hM:M p=some (.lst ds))(hj:ds[j]?=some y)(hz:ds.length<=10000)(q:Q y (ai M p (.lst (ds.eraseIdx j)))):UK (.ref p) [.int (j:Int)] M Q:=by have hl:j < ds.length:=(i5.mp hj).1;exact .inr ⟨p,ds,j,j,y,rfl,rfl,hM,Int.le_trans (by decide) (Int.natCast_nonneg j),v9 (show(j:Int)<=10000 by omega) (by decide),by rw[seqIndex_of (by omega) (by omega)];simp,hj,q⟩
end
open PySem.Spec L2 L5 PyProof.Rows
def MU(R:Src->Mem->Prop)(ds:List D)(M1:Mem):Prop:=match ds with
 |[.tup xs]=>R (.fix (gA xs)) M1
 |[x]=>(∃zs,cE M1 x=some zs)/\R (.fn (pI x)) M1
 |_=>False
theorem Ef(h:ta δ M (MU R)):FW ta δ M R:=h
theorem Eg{xs:List D}(hM:M a=some (.lst xs))(h:R (.fn (pI (.ref a))) M):MU R [.ref a] M:=⟨⟨xs,fg hM⟩,h⟩
theorem Cn{xs:List D}(hM:M a=some (.lst xs)):al (.fn (pI (.ref a))) M=some (gA xs):=by show(cE M (.ref a)).map gA=_;rw[fg hM];rfl
def RE(R:Src->Mem->Prop)(ds:List D)(M1:Mem):Prop:=match ds with
 |[.tup xs,.tup ys]=>R (.fix (nH xs ys)) M1
 |[x,y]=>(∃zs,mq x y M1=some zs)/\R (.fn (mq x y)) M1
 |_=>False
theorem IS(h:ta δ M (RE R)):FU ta δ M R:=h
theorem DW{xs ys:List D}(h:R (.fix (nH xs ys)) M):RE R [.tup xs,.tup ys] M:=h
end L3
namespace L2
open PySem.Spec PyProof.Rows
def W_(K:N5)(x y:V)(H:Hp)(Q:Bool->Prop):Prop:=(∃a o,y=.ref a/\qH H a x o/\Q o.isSome)\/∃a b aA k,y=.ref a/\x=.ref b/\qG K H a aA/\k.dep<=5/\iW K H k (.ref b)/\Q (jJ aA k).isSome
theorem Kd(neg:Bool)(hu:X.A.units+64 < cLine):fG X (compareOp (if neg then .NotIn else .In)) (λ x y H Q=>W_ X.K x y H λ b=>Q (.bl (if neg then !b else b)) H):=by
 intro xz s σ H x y v u Q I rx ry h;rcases h with⟨a,o,rfl,g,q⟩|⟨a,b,aA,k,rfl,rfl,d,hk,Ai,q⟩
 ·cases(show u=Value.ref a from ry);cases neg with
  |false=>exact YJ (by omega) I g rx λ s3 I3=>⟨.bl o.isSome,H,I3,rfl,q⟩
  |true=>exact LH (by omega) I g rx λ s3 I3=>⟨.bl (!o.isSome),H,I3,rfl,q⟩
 ·cases(show u=Value.ref a from ry);cases(show v=Value.ref b from rx);cases neg with
  |false=>exact Wz hu I d hk Ai λ s3 I3=>⟨.bl (jJ aA k).isSome,H,I3,rfl,q⟩
  |true=>exact Iz hu I d hk Ai λ s3 I3=>⟨.bl (!(jJ aA k).isSome),H,I3,rfl,q⟩
def SD(K:N5)(x y:V)(H:Hp)(Q:VK):Prop:=(∃a v,x=.ref a/\qH H a y (some v)/\Q v H)\/∃a b aA k v,x=.ref a/\y=.ref b/\qG K H a aA/\k.dep<=5/\iW K H k (.ref b)/\jJ aA k=some v/\Q v H
theorem P0(hu:X.A.units+64 < cLine):yW X (λ x y H Q=>SD X.K x y H Q):=by
 intro value slice xz s σ H x y v u Q I rx ry h hs;rcases h with⟨a,w,rfl,g,q⟩|⟨a,b,aA,k,w,rfl,rfl,d,hk,Ai,g,q⟩
 ·cases(show v=Value.ref a from rx);refine tail_any (ops:=[.ref a,u]) (wb I g) PySem.F.slot_dict_getitem.lookup ?_ hs;exact Cv (by omega) I g ry λ w' s3 I3 sS=>⟨w,H,I3,sS,q⟩
 ·cases(show v=Value.ref a from rx);cases(show u=Value.ref b from ry);obtain⟨_,_,xs,_,dd⟩:=d.of I;refine tail_any (ops:=[.ref a,.ref b]) dd.typeIs PySem.F.slot_dict_getitem.lookup ?_ hs;exact Bd hu I d hk Ai g λ w' s3 I3 sS=>⟨w,H,I3,sS,q⟩
def SA(K:N5):wW:=λ o i v H Q=>(∃a H',o=.ref a/\HH H a i v H'/\Q H')\/∃a b aA k,o=.ref a/\i=.ref b/\qG K H a aA/\k.dep<=5/\iW K H k (.ref b)/\aA.length < sizeLine/\Q (dl H a (Aq a (qp aA k b v)))
theorem IM(hu:X.A.units+64 < cLine):qD X (SA X.K):=by
 intro xz s σ H o i v ov iv u Q I ro ri rv h;rcases h with⟨a,H',rfl,g,q⟩|⟨a,b,aA,k,rfl,rfl,d,hk,Ai,hl,q⟩
 ·cases(show ov=Value.ref a from ro);exact Cr (by omega) I g ri rv λ s3 I3=>⟨H',I3,q⟩
 ·cases(show ov=Value.ref a from ro);cases(show iv=Value.ref b from ri);exact Bc hu I d hk Ai hl rv λ s3 I3=>⟨_,I3,q⟩
theorem yP:cL X (.builtin "len") (λ xs H Q=>∃a,xs=[.ref a]/\((∃aA,H a=some (.dK aA)/\Q (.int aA.length) H)\/∃aA,H a=some (Aq a aA)/\Q (.int aA.length) H)):=by
 intro xz s σ H xs us Q I r h;obtain⟨a,rfl,h⟩:=h;obtain⟨u,rfl,ru⟩:=vals1 r;cases(show u=Value.ref a from ru);rcases h with⟨aA,e,q⟩|⟨aA,e,q⟩
 ·exact UH I (.inl e) λ t s' I'=>⟨.int aA.length,H,I',⟨t,rfl⟩,q⟩
 ·exact RP I e λ t s' I'=>⟨.int aA.length,H,I',⟨t,rfl⟩,q⟩
end L2
namespace L3
open PySem.Spec L2 L5 PyProof.Rows
noncomputable instance acP:DecidableEq D:=λ a b=>Classical.propDecidable (a=b)
noncomputable def eN (aA:List (D×D))(k:D):Option D:=(aA.find? λ p=>decide (p.1=k)).map (·.2)
noncomputable def putD (aA:List (D×D))(k v:D):List (D×D):=if(eN aA k).isSome=true then aA.map (λ p=>if p.1=k then(p.1,v)else p)else aA++[(k,v)]
def qd(t:Bool)(x:D):Prop:=match t with
 |false=>∃k:Key,x=qr k
 |true=>∃ks:List IK,x=rD (.t ks)/\(IK.t ks).dep<=5
def CN(K:N5)(H:Hp):Option D->Option V->Prop
 |none,none=>True
 |some d,some v=>bn K H d v
 |_,_=>False
theorem Md.look{aA:List (D×D)}{xs:List (Key×V)}(h:Md K H aA xs)(k:Key):CN K H (eN aA (qr k)) (jk xs k):=by
 induction h with
 |nil=>exact True.intro
 |@cons p q ps qs BY t ih=>
  obtain⟨h1,h2⟩:=BY;unfold eN jk at ih ⊢;by_cases e:q.1=k
  ·have e':p.1=qr k:=by rw[h1,e]
   simp only[B3,D1 e,D1 e',Option.map_some];exact h2
  ·have e':¬p.1=qr k:=λ z=>e (vN (h1.symm.trans z));simp only[B3,B4 e,B4 e'];exact ih
theorem HG.look{aA:List (D×D)}{xs:List fK}(h:HG K H aA xs)(k:IK):CN K H (eN aA (rD k)) (jJ xs k):=by
 induction h with
 |nil=>exact True.intro
 |@cons p q ps qs BY t ih=>
  obtain⟨h1,_,_,h2⟩:=BY;unfold eN jJ at ih ⊢;by_cases e:q.1=k
  ·have e':p.1=rD k:=by rw[h1,e]
   simp only[B3,D1 e,D1 e',Option.map_some];exact h2
  ·have e':¬p.1=rD k:=λ z=>e (tU (h1.symm.trans z));simp only[B3,B4 e,B4 e'];exact ih
theorem CN.isSome{o:Option D}{u:Option V}(h:CN K H o u):o.isSome=u.isSome:=by
 cases o with
 |none=>cases u with
  |none=>rfl
  |some _=>exact(show False from h).elim
 |some _=>cases u with
  |none=>exact(show False from h).elim
  |some _=>rfl
theorem CN.some_of{u:Option V}(h:CN K H (some d) u):∃v,u=some v/\bn K H d v:=by
 cases u with
 |none=>exact(show False from h).elim
 |some v=>exact⟨v,rfl,h⟩
theorem HG.keys{aA:List (D×D)}{xs:List fK}(h:HG K H aA xs)(e:H a=some (Aq a xs)):qG K H a xs:=by
 refine⟨e,?_⟩;clear e
 induction h with
 |nil=>intro p hp;cases hp
 |@cons p q ps qs BY t ih=>
  intro x hx;rcases G0.mp hx with rfl|hx
  ·obtain⟨h1,h2,h3,_⟩:=BY;rw[h1]at h3;exact⟨h2,pM _ h3⟩
  ·exact ih x hx
theorem Ey(xs:List (Key×V))(k:Key)(v:V):putK xs k v=if(jk xs k).isSome=true then xs.map (λ kv=>if kv.1=k then(kv.1,v)else kv)else xs++[(k,v)]:=by unfold putK;rw[nS]
theorem Md.put{aA:List (D×D)}{xs:List (Key×V)}(h:Md K H aA xs)(k:Key)(hd:bn K H d v):Md K H (putD aA (qr k) d) (putK xs k v):=by
 rw[Ey];unfold putD;rw[(h.look k).isSome];by_cases e:(jk xs k).isSome=true
 ·rw[N3 e,N3 e];clear e
  induction h with
  |nil=>exact .nil
  |@cons p q ps qs BY t ih=>
   rw[F9,F9];refine .cons ?_ ih;obtain⟨h1,h2⟩:=BY;by_cases e:q.1=k
   ·rw[N3 e,N3 (by rw[h1,e])];exact⟨h1,hd⟩
   ·rw[N4 e,N4 (λ z=>e (vN (h1.symm.trans z)))];exact⟨h1,h2⟩
 ·rw[N4 e,N4 e];exact Paired.snoc h ⟨rfl,hd⟩
theorem HG.put{aA:List (D×D)}{xs:List fK}(h:HG K H aA xs)(k:IK){b:ww}(hk:k.dep<=5)(hb:bn K H (rD k) (.ref b))(hd:bn K H d v):HG K H (putD aA (rD k) d) (qp xs k b v):=by
 unfold putD qp;rw[(h.look k).isSome];by_cases e:(jJ xs k).isSome=true
 ·rw[N3 e,N3 e];clear e
  induction h with
  |nil=>exact .nil
  |@cons p q ps qs BY t ih=>
   rw[F9,F9];refine .cons ?_ ih;obtain⟨h1,h2,h3,h4⟩:=BY;by_cases e:q.1=k
   ·rw[N3 e,N3 (by rw[h1,e])];exact⟨h1,h2,h3,hd⟩
   ·rw[N4 e,N4 (λ z=>e (tU (h1.symm.trans z)))];exact⟨h1,h2,h3,h4⟩
 ·rw[N4 e,N4 e];exact Paired.snoc h ⟨rfl,hk,hb,hd⟩
def QV(neg:Bool):fF:=λ x y M Q=>∃a t aA,y=.ref a/\M a=some (.fH t aA)/\qd t x/\Q (.bl (if neg then !(eN aA x).isSome else(eN aA x).isSome)) M
theorem sA{ks:List IK}(h:bn K H (rD (.t ks)) v):∃b,v=.ref b:=by unfold rD at h;obtain⟨p,xs,rfl,_⟩:=aW.mp h;exact⟨p,rfl⟩
theorem Fs(neg:Bool)(hu:X.A.units+64 < cLine):eX X (compareOp (if neg then .NotIn else .In)) (QV neg):=⟨_,Kd neg hu,λ x y d e H M Q2 Q hd he hm q k=>by
 obtain⟨a,t,aA,rfl,hM,ok,q⟩:=q;cases(aP.mp he);have hr:=hm a _ hM;cases t with
 |false=>obtain⟨xs,hx,rel⟩:=hr;obtain⟨kk,rfl⟩:=ok;rw[ud hd];refine .inl ⟨a,_,rfl,qH.k9 hx,k _ H _ M (aR.mpr rfl) hm (ax.refl H) ?_⟩;rw[<- (rel.look kk).isSome];exact q
 |true=>
  obtain⟨xs,hx,rel⟩:=hr;obtain⟨ks,rfl,pz⟩:=ok;obtain⟨b,rfl⟩:=sA hd;refine .inr ⟨a,b,xs,_,rfl,rfl,rel.keys hx,pz,pM _ hd,k _ H _ M (aR.mpr rfl) hm (ax.refl H) ?_⟩;rw[<- (rel.look _).isSome];exact q⟩
def UP:fF:=λ x y M Q=>Cy x y M Q\/QV false x y M Q
theorem Tc(hu:X.A.units+64 < cLine):eX X (compareOp .In) UP:=(hU hu).or (Fs false hu)
def Ay:fF:=λ x y M Q=>nz x y M Q\/QV true x y M Q
theorem Fq(hu:X.A.units+64 < cLine):eX X (compareOp .NotIn) Ay:=(oO hu).or (Fs true hu)
def UT:fF:=λ x y M Q=>∃a t aA d,x=.ref a/\M a=some (.fH t aA)/\qd t y/\eN aA y=some d/\Q d M
def QM:fF:=λ x y M Q=>QN x y M Q\/UT x y M Q
theorem Mf(hu:X.A.units+64 < cLine):Vb X QM:=by
 obtain⟨r,h1,h2⟩:=(L3.bw:Vb X QN);refine⟨_,h1.or (P0 hu),λ x y d e H M Q2 Q hd he hm q k=>?_⟩;rcases q with q|⟨a,t,aA,w,rfl,hM,ok,hl,q⟩
 ·exact .inl (h2 x y d e H M Q2 Q hd he hm q k)
 ·cases(aP.mp hd);have hr:=hm a _ hM;cases t with
  |false=>obtain⟨xs,hx,rel⟩:=hr;obtain⟨kk,rfl⟩:=ok;have hv:=rel.look kk;rw[hl]at hv;obtain⟨v,e1,e2⟩:=hv.some_of;rw[ud he];exact .inr (.inl ⟨a,v,rfl,by rw[<- e1];exact qH.k9 hx,k _ H _ M e2 hm (ax.refl H) q⟩)
  |true=>obtain⟨xs,hx,rel⟩:=hr;obtain⟨ks,rfl,pz⟩:=ok;have hv:=rel.look (.t ks);rw[hl]at hv;obtain⟨v,e1,e2⟩:=hv.some_of;obtain⟨b,rfl⟩:=sA he;exact .inr (.inr ⟨a,b,xs,_,v,rfl,rfl,rel.keys hx,pz,pM _ he,e1,k _ H _ M e2 hm (ax.refl H) q⟩)
def US:ky:=λ o i v M N=>∃a t aA,o=.ref a/\M a=some (.fH t aA)/\qd t i/\aA.length < sizeLine/\N (ai M a (.fH t (putD aA i v)))
def MW:ky:=λ o i v M N=>LI o i v M N\/US o i v M N
theorem qD.or{t u:wW}(h:qD X t)(g:qD X u):qD X (λ o i v H Q=>t o i v H Q\/u o i v H Q):=by
 intro xz s σ H o i v ov iv uu Q I ro ri rv q;rcases q with q|q
 ·exact h xz s σ H o i v ov iv uu Q I ro ri rv q
 ·exact g xz s σ H o i v ov iv uu Q I ro ri rv q
theorem DK(hu:X.A.units+64 < cLine):Hy X MW:=by
 obtain⟨r,h1,h2⟩:=(jQ:Hy X LI);refine⟨_,qD.or h1 (IM hu),λ o i v d j e H M Q2 Q hd hj he hm q k=>?_⟩;rcases q with q|⟨a,t,aA,rfl,hM,ok,hl,q⟩
 ·exact .inl (h2 o i v d j e H M Q2 Q hd hj he hm q k)
 ·cases(aP.mp hd);have hr:=hm a _ hM;cases t with
  |false=>obtain⟨xs,hx,rel⟩:=hr;obtain⟨kk,rfl⟩:=ok;rw[ud hj];have t:=ax.mut (o:=.dK (putK xs kk v)) hx (λ _ z=>by cases z) (λ _ _ z=>by cases z);refine .inr (.inl ⟨a,_,rfl,HH.k9 hx (by rw[<- D8 rel];exact hl),k _ _ (hm.put (u:=.fH false (putD aA (qr kk) e)) t ⟨_,aV,(rel.put kk he).mono t⟩) t q⟩)
  |true=>obtain⟨xs,hx,rel⟩:=hr;obtain⟨ks,rfl,pz⟩:=ok;obtain⟨b,rfl⟩:=sA hj;have t:=ax.mut (o:=Aq a (qp xs (.t ks) b v)) hx (λ _ z=>by cases z) (λ _ _ z=>by cases z);refine .inr (.inr ⟨a,b,xs,_,rfl,rfl,rel.keys hx,pz,pM _ hj,by rw[<- D8 rel];exact hl,k _ _ (hm.put (u:=.fH true (putD aA (rD (.t ks)) e)) t ⟨_,aV,(rel.put (.t ks) pz hj he).mono t⟩) t q⟩)
def MY:List D->Mem->bH->Prop:=λ xs M Q=>Cw xs M Q\/∃a t aA,xs=[.ref a]/\M a=some (.fH t aA)/\Q (.int (aA.length:Nat)) M
theorem Q1:cZ X (.builtin "len") MY:=by
 obtain⟨r,h1,h2⟩:=(L3.cT:cZ X (.builtin "len") Cw);refine⟨_,h1.or yP,λ xs ds H M Q2 Q hd hm q k=>?_⟩;rcases q with q|⟨a,t,aA,rfl,hM,q⟩
 ·exact .inl (h2 xs ds H M Q2 Q hd hm q k)
 ·obtain⟨x,r,rfl,hx,hr⟩:=ah.mp hd;cases(av.mp hr);cases(aP.mp hx);have hr:=hm a _ hM;cases t with
  |false=>obtain⟨xs,hx,rel⟩:=hr;exact .inr ⟨a,rfl,.inl ⟨xs,hx,by rw[<- D8 rel];exact k _ H _ M (aw.mpr rfl) hm (ax.refl H) q⟩⟩
  |true=>obtain⟨xs,hx,rel⟩:=hr;exact .inr ⟨a,rfl,.inr ⟨xs,hx,by rw[<- D8 rel];exact k _ H _ M (aw.mpr rfl) hm (ax.refl H) q⟩⟩
def Ms(t:Bool):cb:=λ _ M Q=>∀p,M p=none->Q (.ref p) (ai M p (.fH t []))
theorem OT(t:Bool):QE X (.Dict [] [] pos) (Ms t):=by
 cases t with
 |false=>refine bQ EV λ σ H Q ⟨δ,M,Q2,hs,hm,q,k⟩ p hp=>?_;exact k _ _ (.ref p) _ (aP.mpr rfl) (hm.put (u:=.fH false []) (ax.laid hp) ⟨[],aV,.nil⟩) (ax.laid hp) (q p (hm.free hp))
 |true=>refine bQ EW λ σ H Q ⟨δ,M,Q2,hs,hm,q,k⟩ p hp=>?_;exact k _ _ (.ref p) _ (aP.mpr rfl) (hm.put (u:=.fH true []) (ax.laid hp) ⟨[],aV,.nil⟩) (ax.laid hp) (q p (hm.free hp))
end L3
namespace L4
open PySem.Spec L2 L3 L5
theorem Dp(t:Bool):WE X (.Dict [] [] pos) (Ms t):=⟨OT t⟩
end L4
namespace L3
open PySem.Spec L2 L5 PyProof.Rows
section
variable {Q:bH}{aA:List (D×D)}{x y v:D}{t:Bool}{N:Mem->Prop}{xs:List D}
theorem Ol(h:M a=some (.fH t aA))(hk:qd t x)(q:Q (.bl (eN aA x).isSome) M):UP x (.ref a) M Q:=.inr ⟨a,t,aA,rfl,h,hk,q⟩
theorem Bp(h:M a=some (.fH t aA))(hk:qd t x)(q:Q (.bl (!(eN aA x).isSome)) M):Ay x (.ref a) M Q:=.inr ⟨a,t,aA,rfl,h,hk,q⟩
theorem Jj(h:QN x y M Q):QM x y M Q:=.inl h
theorem Og(h:M a=some (.fH t aA))(hk:qd t x)(e:eN aA x=some d)(q:Q d M):QM (.ref a) x M Q:=.inr ⟨a,t,aA,d,rfl,h,hk,e,q⟩
theorem zy(h:M a=some (.fH t aA))(hk:qd t x)(hl:aA.length < sizeLine)(q:N (ai M a (.fH t (putD aA x v)))):MW (.ref a) x v M N:=.inr ⟨a,t,aA,rfl,h,hk,hl,q⟩
theorem Ji(h:M a=some (.fH t aA))(q:Q (.int (aA.length:Nat)) M):MY [.ref a] M Q:=.inr ⟨a,t,aA,rfl,h,q⟩
end
end L3
namespace KK
open L3 L4 L5
open L2 hiding bw qo
abbrev Row:=List Int
def Vh(a b:Row):Prop:=klt (vK b) (vK a)=false
theorem Fc{rs:List Row}{outD:List D}(h:Out (λ i j=>klt (vK (rs.getD i [])) (vK (rs.getD j []))) (rs.map row) D.bu outD):∃out:List Row,outD=out.map row/\out.Perm rs/\out.Pairwise Vh:=by
 obtain⟨p,p1,p2,rfl⟩:=h;rw[C2]at p1 p2;have Lj:∀i∈p.toList,i < rs.length:=λ i hi=>by have:=(Array.Perm.mem_iff p1 (a:=i)).mp (by simpa using hi);simpa using this
 refine⟨p.toList.map λ i=>rs.getD i [],?_,?_,?_⟩
 ·rw[G9];refine o8 λ i hi=>?_;have:=Lj i hi;simp[c8,this]
 ·have q:p.toList.Perm (List.range rs.length):=by have:=Array.perm_iff_toList_perm.mp p1;simpa using this
  have q2:=q.map λ i=>rs.getD i [];have e:(List.range rs.length).map (λ i=>rs.getD i [])=rs:=by
   apply ext_getElem?;intro i;by_cases hi:i < rs.length
   ·simp[hi,c8]
   ·simp[hi]
  rw[e]at q2;exact q2
 ·rw[pairwise_map,pairwise_iff_getElem];intro i j hi hj rE;have hz:=p1.size;have V7:j < rs.length:=by rw[<- hz];simpa using hj
  have:=p2 i j (K0 rE) V7;have g:∀k (hk:k < p.toList.length),pg p k=p.toList[k]:=λ k hk=>by
   rw[jY];have Lk:k < p.size:=by simpa using hk
   simp[Lk]
  rw[g i hi,g j hj]at this;exact this
end KK
variable {cs:KK.Row}
namespace KK
open L3 L4 L5
open L2 hiding bw qo
theorem bi.free(h:bi M M')(hp:M' p=none):M p=none:=by
 cases e:M p with
 |none=>rfl
 |some o=>rw[h p o e]at hp;cases hp
theorem bi.trans{M2:Mem}(h:bi M M1)(g:bi M1 M2):bi M M2:=λ b o e=>g b o (h b o e)
theorem bi.new(h:bi M M')(hp:M' p=none)(x:MO):bi M (ai M' p x):=PB h hp x
theorem bq{x:MO}(h:M p=some x)(g:M q=none):p≠q:=λ z=>by subst z;rw[h]at g;cases g
open L3 L4 L5
open L2 hiding bw qo
theorem Sf{ds:List α}{X:Prop}(h:ds.length<=16)(q:X):ds.length<=sizeLine/\X:=⟨H9 h (by decide),q⟩
theorem jU{Q:bH}(q:Q (.bl true) M):QP false .bu .bu M Q:=q
theorem Lu{sp:gC}(h:∀ds M Q,¬sp ds M Q):bo P w K mg base dJ k f fd ps (bZ K sp):=
 ⟨λ _ _ _ _ ⟨ds,M,Q,_,_,q,_⟩=>absurd q (h ds M Q),λ _ _ _ _ _ _ _ _ _ _ _ _ _ ⟨ds,M,Q,_,_,q,_⟩=>absurd q (h ds M Q)⟩
def Y3:D->Prop
 | .bu=>True| .bl _=>True| .int _=>True| .str _=>True|_=>False
def qc(M:Mem):Nat->D->D->Prop
 |0,_,_=>False
 |k+1,x,y=>(x=y/\Y3 x)\/(∃ds es,x=.tup ds/\y=.tup es/\ds.length=es.length/\ds.length<=10000/\∀(i:Nat) (d e:D),ds[i]?=some d->es[i]?=some e->qc M k d e)\/
  ∃p q ds es,x=.ref p/\y=.ref q/\M p=some (.lst ds)/\M q=some (.lst es)/\ds.length=es.length/\ds.length<=10000/\∀(i:Nat) (d e:D),ds[i]?=some d->es[i]?=some e->qc M k d e
theorem jP(M:Mem)(k:Nat){r:List Int}(h:r.length<=10000):qc M (k+2) (row r) (row r):=
 .inr (.inl ⟨_,_,rfl,rfl,rfl,by rw[C2];exact h,λ i d e hd he=>by
  rw[hd]at he;cases he;obtain⟨x,_,rfl⟩:=G8.mp (l8 hd);exact .inl ⟨rfl,True.intro⟩⟩)
theorem DI(hl:ds.length<=10000)(h:∀d∈ds,qc M k d d):qc M (k+1) (.tup ds) (.tup ds):=
 .inr (.inl ⟨ds,ds,rfl,rfl,rfl,hl,λ i d e hd he=>by
  rw[hd]at he;cases he;exact h d (l8 hd)⟩)
def zu(k:Nat):gC:=λ ds M Q=>∃x y,ds=[x,y]/\qc M k x y/\Q (.bl true) M
theorem IG:∀ds M Q,¬zu 0 ds M Q:=λ ds M Q ⟨_,_,_,h,_⟩=>h
end KK
namespace L2
open PySem.Spec PyProof.Rows
theorem q_(f:Array jp->Array jp)(o:Obj):(Obj.mapFields f o).dict=o.dict:=by unfold Obj.mapFields;split <;> rfl
def YY(h:Heap)(e:ww)(c:jp)(dx:Option ww)(T:ww):Prop:=
 ∃oe vs oT ts,h.get? e=some oe/\oe.cls=c/\oe.dict=dx/\oe.data=.fields vs/\vs[1]?=some (.ref T)/\T≠e/\h.get? T=some oT/\oT.data=.fields ts/\ts[3]?=some .none
structure Y2(B:Heap)(l:List Env)(e:ww)(c:jp)(dx:Option ww)(h h':Heap):Prop where
 fb:B.StaysIn h'
 fr:h'.FunFrames B l
 tr:YY h' e c dx h.objs.size
 sl:∀b o,h.get? b=some o->(∀vs,o.data≠.fields vs)->∃z,h'.get? b=some {o with slots:=z}
section
variable {M:Model}{B:Heap}{L e:ww}
theorem Fu{hd:jp}{hn:Bool}{Q:Unit->kt->Prop}(Ll:A.frames=some (env::outer))(hl:s.heap.FunFrames B (env::outer))(hf:env.frame=some L) (he:s.heap.get? e=some oe) (kB:B.StaysIn s.heap) (nB:B.get? e=none) (dv:oe.data=.fields vs) (sz:1 < vs.size) (q:∀h',Y2 B (env::outer) e oe.cls oe.dict s.heap h'->Q () {s with heap:=h'}):wpAny M A (do let a <- frameOf env;let p <- entryPlaceOf L hn;let b <- EntryCells.newEntry hd a .none (rawInt L) .none p;setField (.ref e) 1 b) (λ _ s'=>wpAny M A (setFlight (.ref e) none) Q E s') E s:=by
 have eF:e∉(env::outer).filterMap (·.frame):=λ z=>by obtain⟨_,o,ho,w⟩:=hl.mem z;rw[he]at ho;cases ho;exact w vs dv
 refine K5 (wpAny_frameOf_fun Ll hl hf λ g hg=>K5 (wpAny_entryPlaceOf λ pl hpl=>?_));unfold EntryCells.newEntry newFields;refine K5 (y0 ?_ (hpl.sizeOk5 _ _ _ _ _));have e1:g.get? e=some oe:=(hg.2.1 e eF).trans he;have k1:B.StaysIn g:=λ b o z=>(hg.2.1 b λ y=>by rw[(hl.mem y).1]at z;cases z).trans (kB b o z);generalize hT:({cls:=.type "traceback",dict:=none,data:=.fields ([hd,.ref L,.none,rawInt L,.none]++(if pl.isEmpty then List.replicate 6 Value.none else pl)).toArray}:Obj)=nt;have dT:nt.data=.fields ([hd,.ref L,.none,rawInt L,.none]++(if pl.isEmpty then List.replicate 6 Value.none else pl)).toArray:=by rw[<- hT]
 have e2:=j7 (h:=g) nt e1;refine D5 e2 dv sz ?_;have ne:g.objs.size≠e:=J9 (G7 e1);have d3:=v8 dv (·.setIfInBounds 1 (Value.ref g.objs.size));have e3:=k4 (Obj.mapFields (·.setIfInBounds 1 (Value.ref g.objs.size))) e2 (l6 d3);have fN:nt.isFreed=false:=l6 dT;have t3:=(j8 (g.push nt) (Obj.mapFields (·.setIfInBounds 1 (Value.ref g.objs.size))) ne.symm).trans (n9 g fN);unfold setFlight;refine K5 (K4 e3 d3 (x:=.ref g.objs.size) (by simp[sz]) ?_);rw[N3 (show(Value.ref g.objs.size != Value.none)=true from by simp)];refine D5 t3 dT (by simp only[y9,q8,A3,length_nil] <;> omega) (q _ ?_);have kp:∀b o,b≠e->g.get? b=some o->(((g.push nt).update e (Obj.mapFields (·.setIfInBounds 1 (Value.ref g.objs.size)))).update g.objs.size (Obj.mapFields (·.setIfInBounds 3 ((none:Option ww).elim Value.none λ f=>rawInt f)))).get? b=some o:=λ b o y z=>by rw[j8 _ _ (J9 (G7 z)),j8 _ _ y.symm];exact j7 _ z
 have nr:∀b o,s.heap.get? b=some o->(∀vs,o.data≠.fields vs)->b≠e:=λ b o z w y=>by rw[y,he]at z;cases z;exact w vs dv
 refine⟨λ b o z=>kp b o (λ y=>by rw[y,nB]at z;cases z) (k1 b o z),hl.of_keeps λ b o z w=>?_,?_,λ b o z w=>?_⟩
 ·obtain⟨sl,y⟩:=hg.2.2 b o z;exact⟨_,kp b _ (nr b o z w) y,rfl⟩
 ·rw[<- hg.1];refine⟨_,_,_,_,?_,Obj.cls_mapFields _ _,q_ _ _,d3,by simp[sz],ne,k4 _ t3 (l6 (v8 dT _)),v8 dT _,by first|(simp;done)|(rcases hpl with rfl|⟨_,_,_,_,_,_,_,rfl⟩ <;> simp)⟩;rw[j8 _ _ ne];exact e3
 ·obtain⟨sl,y⟩:=hg.2.2 b o z;exact⟨sl,kp b _ (nr b o z w) y⟩
end
def qI(P:Program)(w:World):HI:=λ outer H s E e s'=>∃(a:ww) (c:jp) (dx:Option ww) (T:ww) (H':Hp),e=.ref a/\s'.os=s.os/\AllBare s'.gens/\Un (je outer) [] H H' s.heap s'.heap/\gE P w H' s'.heap/\
 s.heap.objs.size<=a/\s.heap.objs.size<=T/\H' a=none/\H' T=none/\YY s'.heap a c dx T/\E c dx H'
open PySem.Spec PyProof.Rows
section
variable {h:Heap}{g:Array GenState}{d:Drawn}{t:Nat}
variable {nm q:Str}{N:ww}{bs bm LU:List jp}{sub:List jp}{ab:Bool}{k0 k1 k2 k3 k5:Option jp}{B Bn newId VW ph Zr:String}{Z0:List jp}
theorem xB(Fn:ExcBaseFacts Bn newId Zr Z0)(Wa:LU.contains (.type Bn)=true)(F:ExcBaseFacts B VW ph LU)(T:OwnTail h LU bm){rest:List jp}{fI:ww}{oI:Obj}{Q:Fin->kt->Prop} (cl:h.get? C=some (excClassObj nm q C N bs bm hdct sn sub ab col dd k0 k1 k2 k3 k5 newId)) (ns:h.Ns N mN) (XJ:mN "__init__"=some (.ref fI)) (fo:h.get? fI=some oI) (fc:oI.cls=.type "function") (k:∀h' e,h.objs.size<=e->Heap.MadeExcOf h h' e (.ref C) rest->wpAny (model prog w) A (call (.ref fI) (.ref e::rest)) (λ r s'=>r=.none/\Q (.done (.ret (.ref e))) s') E ⟨h',g,d,t,os⟩) (mI:rest.length<=sizeLine):wpAny (model prog w) A (Builtin.«type.__call__» ⟨.ref C::rest,[]⟩) Q E ⟨h,g,d,t,os⟩:=by
 repeat(first|with_reducible refine z9 cl ?_|with_reducible refine wpAny_madeBy_exc cl ?_|wp_step)
 refine codeAny_call_builtin_code (Code.quiet_builtin _ Fn.quiet) (wpAny_check_new_subU Fn Wa T cl (codeAny_exc_new_subU Fn Wa F T cl ?_ mI));show wpAny _ _ _ _ _ _;generalize Yv:(h.push {cls:=.type "tuple",data:=.seq rest.toArray}).push {cls:=.ref C,data:=.fields #[.ref h.objs.size,.none,.none,.none,.bool false,.none]}=h1;have kp:∀b o,h.get? b=some o->h1.get? b=some o:=λ b o z=>by rw[<- Yv];exact j7 _ (j7 _ z)
 have ge:h1.get? (h.objs.size+1)=some {cls:=.ref C,data:=.fields #[.ref h.objs.size,.none,.none,.none,.bool false,.none]}:=by rw[<- Yv];heap_get
 have gt:h1.get? h.objs.size=some {cls:=.type "tuple",data:=.seq rest.toArray}:=by rw[<- Yv];exact j7 _ (Heap.get?_push_at rfl rfl)
 have ZY:=kp _ _ cl;have ns1:h1.Ns N mN:=ns.keeps kp;have fo1:=kp _ _ fo;have T1:=T.keeps kp;have cc:(Value.ref C::bm).contains (.ref C)=true:=by simp
 unfold isInstance
 repeat(first|with_reducible refine z9 ge ?_|(with_reducible refine o7 ZY ?_;rw[cc])|wp_step)
 show wpAny _ _ (typeLookup (.ref C) _) _ _ _;refine wpAny_typeLookup_tail ZY ns1 T1 F.mroIs F.init.lookup ?_;rw[XJ];refine D6 (K5 ?_);unfold bindSpecial;refine K5 (J7 (T:="function") ⟨_,fo1,fc⟩ ?_);rw[N3 (by decide)];refine K6 (K5 (K9 (k h1 (h.objs.size+1) (Nat.le_succ _) ⟨kp,Heap.get?_none_of_le (Nat.le_succ _),h.objs.size,ge,Heap.get?_none_of_le (K1 _),gt⟩) (λ r s' hr=>?_) λ _ _ x=>x));obtain⟨rfl,z⟩:=hr
 wp_walk
 exact z
theorem CH(Fn:ExcBaseFacts Bn newId Zr Z0)(Wa:LU.contains (.type Bn)=true)(F:ExcBaseFacts B VW ph LU)(T:OwnTail h LU bm){rest:List jp}{fI:ww}{oI:Obj} (cl:h.get? C=some (excClassObj nm q C N bs bm hdct sn sub ab col dd k0 k1 k2 k3 k5 newId)) (ns:h.Ns N mN) (XJ:mN "__init__"=some (.ref fI)) (fo:h.get? fI=some oI) (fc:oI.cls=.type "function") (k:∀h' e,h.objs.size<=e->Heap.MadeExcOf h h' e (.ref C) rest->wpAny (model prog w) (A.under (.builtin "type.__call__" ⟨.ref C::rest,[]⟩)) (call (.ref fI) (.ref e::rest)) (λ r s'=>r=.none/\Q (.ref e) s') E ⟨h',g,d,t,os⟩) (mI:rest.length<=sizeLine):wpAny (model prog w) A (call (.ref C) rest) Q E ⟨h,g,d,t,os⟩:=by
 have f1:=tc_lookup;have f2:=tc_bind (.ref C);have ty:(⟨h,g,d,t,os⟩:kt).TypeIs (.ref C) "type":=⟨_,cl,rfl⟩;refine L6 (codeAny_of_tree ?_);show wpAny _ _ (callAny (.ref C) _) _ _ _
 repeat(any_goals (first|assumption|with_reducible refine z9 cl ?_|wp_step))
 refine⟨rfl,codeAny_call_builtin_at (Code.quiet_builtin _ (by decide+kernel)) entry_typeCall (wpAny_check_type_call_sub cl (xB Fn Wa F T cl ns XJ fo fc (λ h' e le m=>?_) mI))⟩;exact k h' e le m
end
section
variable {M:Model}{nm q:Str}{N:ww}{bs bm:List jp}{sub:List jp}{ab:Bool}{k0 k1 k2 k3 k5:Option jp}{newId:String}
theorem xQ{x:Sem jp}{Q:Flow->kt->Prop}(hb:bm.contains (.type "BaseException")=true)(hh:A.handled=none) (k:wpAny M A x (λ v s1=>∃e oe vs,v=.ref e/\s1.heap.get? C=some (excClassObj nm q C N bs bm hdct sn sub ab col dd k0 k1 k2 k3 k5 newId)/\s1.heap.get? e=some oe/\oe.cls=.ref C/\oe.data=.fields vs/\vs[1]?=some .none/\E (.ref e) s1) E s):wpAny M A (raiseStmt env (some x) none) Q E s:=by
 have hc:(Value.ref C::bm).contains (.type "BaseException")=true:=by rw[contains_cons,hb,Bool.or_true]
 unfold raiseStmt;refine K5 (K9 k (λ v s1 z=>?_) λ _ _ x=>x);obtain⟨e,⟨oc,od,da,sl⟩,vs,rfl,cl,he,rfl,rfl,h1,z⟩:=z;obtain⟨hp,g,d,tk,os⟩:=s1
 repeat(first|with_reducible refine z9 he ?_|with_reducible refine z9 cl ?_|(with_reducible refine o7 cl ?_;rw[hc])|wp_step)
 rw[h1];refine K6 ?_;rw[N4 (by decide)];exact K6 (wpAny_raiseNew_none hh z)
end
open PySem.Spec PyProof.Rows
section
variable {h:Heap}{g:Array GenState}{d:Drawn}{t:Nat}
variable {nm q:Str}{N:ww}{bs bm LU:List jp}{sub:List jp}{ab:Bool}{k0 k1 k2 k3 k5:Option jp}{B newId VW ph:String}
theorem U3(F:ExcBaseFacts B VW ph LU)(T:OwnTail h LU bm){e t0:ww} (cl:h.get? C=some (excClassObj nm q C N bs bm hdct sn sub ab col dd k0 k1 k2 k3 k5 newId)) (he:h.get? e=some {cls:=.ref C,data:=.fields #[.ref t0,.none,.none,.none,.bool false,.none]}) (mI:us.length<=sizeLine) (k:∀h',(∀b o,b≠e->h.get? b=some o->h'.get? b=some o)->h'.get? e=some {cls:=.ref C,data:=.fields #[.ref h.objs.size,.none,.none,.none,.bool false,.none]}->Q .none ⟨h',g,d,t,os⟩):wpAny (model prog w) A (call (.builtin ph) (.ref e::us)) Q E ⟨h,g,d,t,os⟩:=by
 refine L6 (m6 F.init.plain F.initEntry (wpAny_check_init_subU F T cl he rfl ?_))
 wp_walk
 refine k _ (λ b o ne z=>?_) ?_
 ·rw[j8 _ _ ne.symm];exact j7 _ z
 ·rw[k4 _ (j7 _ he) rfl];rfl
end
open PySem.Spec PyProof.Rows Builtin Builtin.ObjectAttr
section
variable {h:Heap}{g:Array GenState}{d:Drawn}{t:Nat}{x:ww}{cd:ClassData}{v:jp}
theorem C_{Q:Unit->kt->Prop}{ns:List Str}(X:K.In h)(hc:PySem.W.clsIn K C=some cd)(hp:∀self:jp,refuseLoop self "__setattr__" cd.mro=pure ())(ho:cd.mro.contains (.type "object")=true)(hdct:cd.hasDict=true) (hs:PySem.W.findIn K (.ref C) "__setattr__"=some (some (.builtin "object.__setattr__"))) (hn:PySem.W.findIn K (.ref C) name=some none) (I:h.Inst x C mA) (k:∀h' zg,h'.Inst x C (λ y=>if y=name then some v else mA y)->
   (∀b o,b≠x->(∀o0 dx,h.get? x=some o0->o0.dict=some dx->b≠dx)->h.get? b=some o->h'.get? b=some o)->
   (∀o0,h.get? x=some o0->∃o1,h'.get? x=some o1/\o1.cls=o0.cls/\o1.data=o0.data/\o1.slots=o0.slots/\(∀dx,o0.dict=some dx->o1.dict=some dx)/\(o0.dict=none->o1.dict=some h.objs.size))->Q () ⟨h',g,d,zg,os⟩) (hw:Within mA ns) (hz:ns.length<=1000):
  wpAny (model prog w) A (setAttr (.ref x) name v) Q E ⟨h,g,d,t,os⟩:=by
 have I0:=I;obtain⟨o,hx,Cb,nc,dd⟩:=I;have Tg:PySem.W.notCls o=true:=by obtain⟨oc,od,da,sl⟩:=o;cases da <;> first|rfl|exact absurd rfl (nc _)
 have IA:∃od,PySem.W.InstAt h x o C od:=by
  rcases dd with⟨dn,_⟩|⟨dx,e,_,od,es,ep,q,_⟩
  ·exact⟨none,hx,Cb,Tg,by rw[dn];trivial⟩
  ·exact⟨some od,hx,Cb,Tg,by rw[e];exact q⟩
 obtain⟨od,IA⟩:=IA;have ne:cd.mro.isEmpty=false:=by cases z:cd.mro with|nil=>rw[z]at ho;cases ho|cons _ _=>rfl
 have SF:=PySem.F.store_object;refine PySem.W.set_plain (s:=⟨h,g,d,t,os⟩) X IA hs ?_;have sub:PySem.W.Looks (model prog w) h (isInstance (.ref x) (.type "object")) true:=IA.type.andThen (PySem.W.looks_mroIn X (by unfold PySem.W.mroIn;rw[hc,Option.bind_some,N4 (by rw[ne];decide),ho]));refine m6 SF.slot.plain SF.entry (@PySem.W.check_slot (model prog w) _ _ ⟨h,g,d,t+1,os⟩ "object.__setattr__" "object" "__setattr__" (.ref x) [.str name t,v] [] _ SF.kind SF.split sub (SF.args (.ref x) (.str name t) v) ?_);have hm:PySem.W.Looks (model prog w) h (mroOf (.ref C)) cd.mro:=(PySem.W.looks_clsIn X hc).andThen .now;rw[PySem.W.osa_eq,refuse_eq];refine K5 (K5 (IA.type.here (K5 (hm.here ?_))));rw[hp];refine K6 (K5 (IA.type.here (K5 ((PySem.W.looks_findIn X hn).here (K5 (K6 ?_))))));obtain⟨oc,odi,VT,Bz⟩:=o;dsimp only at Cb nc dd;subst Cb;refine K5 (K6 (K5 (K5 (wpAny_loadPart hx (K5 ((PySem.W.looks_clsIn X hc).here ?_))))));rw[hdct];rcases dd with⟨rfl,hmA⟩|⟨dx,rfl,eh,Qi⟩
 ·rw[N4 (by decide)];dsimp only;rw[N4 (by simp[typeHasDict])];have nx:x≠h.objs.size:=G6 (G7 hx);have Zu:(h.push {cls:=.type "dict",data:=.dict #[]}).get? x=some {cls:=.ref C,data:=VT,slots:=Bz}:=j7 _ hx;generalize lA:((h.push {cls:=.type "dict",data:=.dict #[]}).update x λ o=>{cls:=o.cls,dict:=some h.objs.size,data:=o.data,slots:=o.slots})=h2;have gd:h2.get? h.objs.size=some {cls:=.type "dict",data:=.dict #[]}:=by rw[<- lA];exact(Heap.get?_update_ne _ _ _ _ nx.symm).trans (Heap.get?_push_at rfl rfl)
  have nd:h2.Ns h.objs.size (λ _=>none):=⟨_,#[],_,gd,rfl,λ e he=>absurd he (by simp),λ _=>rfl⟩;have gx:h2.get? x=some {cls:=.ref C,dict:=some h.objs.size,data:=VT,slots:=Bz}:=by rw[<- lA];refine k4 _ Zu ?_;have fr:=(Heap.get?_some_iff.mp hx).2;cases VT <;> first|rfl|exact fr
  have ot:∀b ob,b≠x->h.get? b=some ob->h2.get? b=some ob:=λ b ob nb z=>by rw[<- lA];exact(Heap.get?_update_ne _ _ _ _ nb).trans (j7 _ z)
  have fin:wpAny (model prog w) A.in1 (storeInDict h.objs.size (.str name t) name v) (λ fin s'=>match fin with| .done f=>(match(Except.ok f:Result)with| .ok (.ret _)=>Q () s'| .ok _=>False| .error e=>E e s')| .again c'=>c'.quiet=true/\codeAny (model prog w) A c' (λ r s'=>match r with| .ok (.ret _)=>Q () s'| .ok _=>False| .error e=>E e s') s') (λ e s'=>E e s') ⟨h2,g,d,t+1,os⟩:=by
   unfold storeInDict newKeyGuard;refine K5 (K6 (K5 (wpAny_nsSet1 (Heap.Ns1.of_empty nd) λ h' Li Rp=>?_)));obtain⟨oD,esD,epD,q1,q2,q3⟩:=Li.count (Within.cons name v Within.nil);refine K5 (wpAny_lookBehind q1 (by rw[q2];exact pastItsLine_dict (H9 q3 (by rw[A3,length_nil,K2];omega))) ?_)
   wp_walk
   have Lg:h'.get? x=some {cls:=.ref C,dict:=some h.objs.size,data:=VT,slots:=Bz}:=(Rp.2 x nx).trans gx;refine k h' _ ⟨_,Lg,rfl,nc,.inr ⟨h.objs.size,rfl,nx.symm,?_⟩⟩ (λ b ob nb _ z=>?_) (λ o0 z=>?_)
   ·obtain⟨o',es,ep,e1,e2,e3,eu,e4⟩:=Li;exact⟨o',es,ep,e1,e2,e3,eu,λ y=>by rw[e4 y];by_cases hy:y=name <;> simp[hy,hmA]⟩
   ·exact(Rp.2 b (G6 (G7 z))).trans (ot b ob nb z)
   ·cases(B7 (hx.symm.trans z));exact⟨_,Lg,rfl,rfl,rfl,(λ dx e=>by cases e),λ _=>rfl⟩
  split
  ·exact absurd rfl (nc _)
  ·refine K5 (wpAny_alloc' (K5 (wpAny_update' Zu ?_)));rw[lA];exact K6 (a:=some h.objs.size) fin
 ·refine K6 (a:=some dx) (K5 (K6 (K5 (wpAny_nsSet1 Qi λ h' Li Rp=>?_))));obtain⟨oD,esD,epD,q1,q2,q3⟩:=Li.count (Within.cons name v hw);refine K5 (wpAny_lookBehind q1 (by rw[q2];exact pastItsLine_dict (H9 q3 (by rw[A3,K2];omega))) ?_)
  wp_walk
  refine k h' _ ⟨_,(Rp.2 x eh.symm).trans hx,rfl,nc,.inr ⟨dx,rfl,eh,Li⟩⟩ (λ b ob _ nb z=>?_) (λ o0 z=>⟨o0,(Rp.2 x eh.symm).trans z,rfl,rfl,rfl,(λ _ e=>e),λ e=>by cases(B7 (hx.symm.trans z));cases e⟩);exact(Rp.2 b (nb _ dx hx rfl)).trans z
end
open PySem.Spec PyProof.Rows
abbrev YT:List jp:=[.type "ValueError",.type "Exception",.type "BaseException",.type "object"]
def XO(e C:ww)(od:Option ww)(t:ww):HO:=.ext λ h=>h.get? e=some {cls:=.ref C,dict:=od,data:=.fields #[.ref t,.none,.none,.none,.bool false,.none]}
structure yX(K:N5)(C fI:ww):Prop where
 ex:∃nm q N bs bm sn sub ab col dd k0 k1 k2 k3 k5,K.lookup C=some (excClassObj nm q C N bs bm true sn sub ab col dd k0 k1 k2 k3 k5 "ValueError.__new__")/\PySem.W.tailIn K YT bm=true/\PySem.W.nsOkIn K N=true/\PySem.W.nsIn K N "__init__"=some (some (.ref fI))
 fn:PySem.W.isFn K (.ref fI)=true
 kp:PySem.W.keepIn K (.ref C)=true
 sa:PySem.W.findIn K (.ref C) "__setattr__"=some (some (.builtin "object.__setattr__"))
structure Nf(K:N5)(C:ww):Prop where
 ga:PySem.W.specialIn K (.ref C) "__getattribute__"=some (some (.builtin "type.__getattribute__"))
 rd:PySem.W.readsIn K C (.type "type")=true
 fi:PySem.W.findCls K (.ref C) (.type "type") "__init__"=some (.val (.builtin "ValueError.__init__"))
set_option tactic.hygienic true in
theorem ye{h:Heap}{N:ww}{n:Str}{v:jp}(X:K.In h)(G:h.Ns N mg)(e:PySem.W.nsIn K N n=some (some v)):mg n=some v:=by
 obtain⟨o,es,ep,ho,hd,_,hf⟩:=G;unfold PySem.W.nsIn at e;split at e
 ·rename_i c d MS n' sl q;have z:=X _ _ q;rw[ho]at z;cases z;cases hd;split at e
  ·rename_i en he;rw[<- hf];unfold nsFind findBy;rw[<- Array.find?_toList,he];cases e;rfl
  ·split at e <;> cases e
 ·cases e
theorem uY{h:Heap}{bm:List jp}(T:OwnTail h YT bm)(self:jp):refuseLoop self "__setattr__" bm=pure ():=by
 induction T with
 |base=>exact PySem.F.store_ValueError.passes self
 |own _ _ _ _ ih=>rw[refuseLoop_ref];exact ih
theorem gp{x:V}(r:cr (x::xs) us):∃u ws,us=u::ws/\bv x u/\cr xs ws:=by
 cases r with
 |cons a b=>exact⟨_,_,rfl,a,b⟩
section
variable {m:Str}{p:Pos}{a:Expr}{t:TA}{HC:ww}
def tBi(K:N5)(t:TA):TE:=λ σ H Q=>t σ H λ vs H1=>∃e C fI t0 us,vs=.ref e::us/\H1 e=some (XO e C none t0)/\yX K C fI/\us.length<=1000/\∀t1,Q .bu (dl H1 e (XO e C none t1))
theorem oH{pl:Sem Bool}(hg:Gl X x)(hm:X.mg x=some (.ref HC))(hb:Nf X.K HC)(ha:PA X (a::as) t)(hdb:(x==("__debug__":Str))=false:=by decide) (hst:starEach (a::as) X.env=(false,eval a X.env)::starEach as X.env:=by rfl) (hpl:(backTo pos (starEach as X.env)).any (·.1)=false:=by rfl) (ht:eval (.Call (.Attribute (.Name x p) "__init__" apos) (a::as) [] pos) X.env=(do
   let ov <- eval (.Name x p) X.env
   standAt apos.atName
   let(f,Yz) <- holding [ov] (getMethod ov "__init__" pl)
   callWith pos f Yz (backTo pos (starEach (a::as) X.env)) (backToKw pos (keywordEach [] X.env))):=by rfl):
  PE X (.Call (.Attribute (.Name x p) "__init__" apos) (a::as) [] pos) (tBi X.K t):=by
 intro xz s σ H Q I h;refine PySem.W.methodCall_KW (pl:=pl) (fQ I hg hm ?_ hdb) ht;refine PySem.W.method_cls I.hV hb.ga (PySem.W.cls_value (expr:=false) I.hV hb.rd hb.fi rfl ?_);have hA:=ha pos xz _ σ H _ (I.tok (s.toks+1)) h;rw[hst]at hA ⊢;refine Calls.callWith_builtin (by show(false||(backTo pos (starEach as X.env)).any (·.1))=false;rw[hpl] <;> rfl) (Calls.evalArgs_plain (cm hA λ us s2 ⟨vs,H2,I2,r2,q2⟩=>?_));obtain⟨e,C,fI,t0,ws,rfl,he,ec,mI,q⟩:=q2;obtain⟨nm,q0,N,bs,bm,sn,sub,ab,col,dd,k0,k1,k2,k3,k5,cl,tl,no,ni⟩:=ec.ex;obtain⟨u,Vi,rfl,ru,rs⟩:=gp r2;obtain rfl:u=Value.ref e:=ru;obtain⟨ho,_,st⟩:=I2.bj e _ he;have hl:Vi.length=ws.length:=rs.length.symm;obtain⟨h2,g2,d2,Vl,Xi⟩:=s2;refine U3 c9 (u6 I2.hV tl) (I2.hV _ _ cl) ho (by rw[hl];exact H9 mI (by decide)) λ h' kp hn=>?_;refine⟨.bu,_,I2.write (h':=h') (t':=Vl) (x:=e) (e:=e) (o:=XO e C none h2.objs.size) (by rw[he];trivial) (.inl rfl) (λ b u nb z=>kp b u nb z) ⟨_,hn⟩ ⟨hn,⟨_,hn⟩,λ h1 h2 z w=>w _ z⟩,rfl,q _⟩
def XD(dx:ww)(fs:List (Str×V)):HO:=.ext λ h=>∃mA,h.Ns1 dx mA/\∀f,ib (fs.lookup f) (mA f)
theorem XD.ok{h:Heap}{fs:List (Str×V)}(n:h.Ns1 dx mA)(r:∀f,ib (fs.lookup f) (mA f)):bD P w H h dx (XD dx fs):=by
 refine⟨⟨mA,n,r⟩,?_,?_⟩
 ·obtain⟨o,es,ep,e,_⟩:=n;exact⟨o,e⟩
 ·rintro h1 h2 ⟨m1,⟨o,es,ep,e,z⟩,r1⟩ k;exact⟨m1,⟨o,es,ep,k _ e,z⟩,r1⟩
theorem Un.L_{fs ex:List ww}{h h1:Heap}{o:HO}(u:Un fs ex H H1 h h1)(hf:h.objs.size<=b0)(hn:H b0=none):Un fs ex H (dl H1 b0 o) h h1 where
 keep:=u.keep
 slot:=u.slot
 free:=λ b ob q n x=>by rw[aB (λ z=>absurd (G7 q) (by rw[z];exact Nat.not_lt.mpr hf))];exact u.free b ob q n x
 there:=u.there
 gr:=λ b xs q=>by rw[aB (λ z=>by rw[z,hn]at q;cases q)];exact u.gr b xs q
 gc:=λ b ob v q=>by rw[aB (λ z=>by rw[z,hn]at q;cases q)];exact u.gc b ob v q
 gH:=λ b ps q=>by rw[aB (λ z=>by rw[z,hn]at q;cases q)];exact u.gH b ps q
theorem gE.L_{h:Heap}{o:HO}(ok:gE P w H h)(hn:H b0=none)(new:bD P w (dl H b0 o) h b0 o):gE P w (dl H b0 o) h:=λ b u q=>by
 by_cases e:b=b0
 ·subst e;rw[aV]at q;cases q;exact new
 ·rw[aB e]at q;refine(ok b u q).fb (λ _ _ _ z=>z) (λ c z=>?_) λ c xs z=>?_
  ·rw[aB (λ y=>by rw[y,hn]at z;cases z)];exact z
  ·rw[aB (λ y=>by rw[y,hn]at z;cases z)];exact z
def sXs(K:N5)(ta tv:TE)(f:Str):TS:=λ D σ H=>tv σ H λ y H1=>ta σ H1 λ v H2=>∃e C fI t0,v=.ref e/\yX K C fI/\PySem.W.findIn K (.ref C) f=some none/\
 ((H2 e=some (XO e C none t0)/\∀dx,H2 dx=none->dx≠e->D.nx σ (dl (dl H2 e (XO e C (some dx) t0)) dx (XD dx [(f,y)])))\/
  ∃dx fs,H2 e=some (XO e C (some dx) t0)/\H2 dx=some (XD dx fs)/\dx≠e/\fs.length<=900/\D.nx σ (dl H2 dx (XD dx ((f,y)::fs))))
theorem qU{f:Str}{fs:List (Str×V)}(r:bv y u)(h:∀n,ib (fs.lookup n) (mA n))(n:Str):ib (((f,y)::fs).lookup n) (if n=f then some u else mA n):=by
 by_cases e:n=f
 ·subst e;rw[N3 rfl];simp only[List.lookup,beq_self_eq_true];exact r
 ·rw[N4 e];simp only[List.lookup,beq_eq_false_iff_ne.mpr e];exact h n
theorem EC{f:Str}{o value:Expr}{ta tv:TE}(ho:PE X o ta)(hv:PE X value tv)(hs:swapsWith value (some (.Attribute o f pos')) pos.line X.env=pure false:=by rfl):PS X (.Assign [.Attribute o f pos'] value pos) (sXs X.K ta tv f):=by
 intro xz s σ H D I h;refine plainObj_wpAny_Assign_Attribute (cm (hv xz s σ H _ I h) λ u s1 ⟨y,H1,I1,ry,q⟩=>cm (ho xz s1 σ H1 _ I1 q) λ ov s2 ⟨v,H2,I2,rx,e,C,fI,t0,ev,ec,hn,q2⟩=>?_) hs;subst ev;obtain rfl:ov=Value.ref e:=rx;obtain⟨nm,q0,N,bs,bm,sn,sub,ab,col,dd,k0,k1,k2,k3,k5,cl,tl,no,ni⟩:=ec.ex;obtain⟨hp,g2,d2,Vl,Xi⟩:=s2;have T:=u6 I2.hV tl;have hc:∃cd:ClassData,PySem.W.clsIn X.K C=some cd/\cd.mro=.ref C::bm/\cd.hasDict=true:=by refine⟨_,by unfold PySem.W.clsIn;rw[cl],rfl,rfl⟩
 obtain⟨cd,hc,T8,hdct⟩:=hc;have TY:∀self:jp,refuseLoop self "__setattr__" cd.mro=pure ():=λ self=>by rw[T8,refuseLoop_ref];exact uY T self
 have T4:cd.mro.contains (.type "object")=true:=by rw[T8,contains_cons,T.hasType (b:=true) (by decide),Bool.or_true]
 rcases q2 with⟨he,q⟩|⟨dx,fs,he,hd,ne,mI,q⟩
 ·obtain⟨hx,_,_⟩:=I2.bj e _ he;refine C_ (mA:=λ _=>none) (ns:=[]) I2.hV hc TY T4 hdct ec.sa hn ⟨_,hx,rfl,(λ c z=>by cases z),.inl ⟨rfl,λ _=>rfl⟩⟩ (λ h' zg hi kp sm=>?_) (λ n z=>absurd rfl z) (K3 _);obtain⟨⟨oc,od,da,sl⟩,Gr,c1,UG,R9,_,dn⟩:=sm _ hx;have e9:od=some hp.objs.size:=dn rfl;clear dn;have nx:hp.objs.size≠e:=J9 (G7 hx);have fr:H2 hp.objs.size=none:=I2.bj.fresh (K1 _);dsimp only at c1 UG R9;subst c1 UG R9 e9;have T6:h'.Ns1 hp.objs.size (λ y'=>if y'=f then some u else none):=by
   obtain⟨o2,z1,_,_,z2⟩:=hi;rw[Gr]at z1;cases z1;rcases z2 with⟨z,_⟩|⟨d',z,_,z3⟩
   ·cases z
   ·cases z;exact z3
  have VZ:∀b w,b≠e->hp.get? b=some w->h'.get? b=some w:=λ b w nb z=>kp b w nb (λ o0 dx z1 z2=>by rw[hx]at z1;cases z1;cases z2) z;have W:=I2.bj.write (h':=h') (x:=e) (e:=e) (o':=XO e C (some hp.objs.size) t0) (by rw[he];trivial) (.inl rfl) VZ ⟨_,Gr⟩ ⟨Gr,⟨_,Gr⟩,λ h1 h2 z w=>w _ z⟩;have U:Un X.fs [] H2 (dl H2 e (XO e C (some hp.objs.size) t0)) hp h':=Un.write (by rw[he];trivial) (.inl rfl) VZ ⟨_,Gr⟩;have n2:dl H2 e (XO e C (some hp.objs.size) t0) hp.objs.size=none:=by rw[aB nx];exact fr
  exact⟨σ,_,I2.un (s:=⟨hp,g2,d2,Vl,Xi⟩) (t':=zg) (U.L_ (K1 _) fr) (W.L_ n2 (XD.ok T6 (qU (fs:=[]) ry λ _=>trivial))),q _ fr nx⟩
 ·obtain⟨hx,_,_⟩:=I2.bj e _ he;obtain⟨⟨mA,Qi,hr⟩,_,_⟩:=I2.bj dx _ hd;have hw:Within mA (fs.map (·.1)):=λ n z=>by
   have y:=hr n;cases e1:fs.lookup n with
   |none=>rw[e1]at y;cases e2:mA n with
    |none=>exact absurd e2 z
    |some w=>rw[e2]at y;exact y.elim
   |some w=>exact G8.mpr ⟨_,n0 e1,rfl⟩
  refine C_ (mA:=mA) (ns:=fs.map (·.1)) I2.hV hc TY T4 hdct ec.sa hn ⟨_,hx,rfl,(λ c z=>by cases z),.inr ⟨dx,rfl,ne,Qi⟩⟩ (λ h' zg hi kp sm=>?_) hw (by rw[C2];omega);obtain⟨⟨oc,od,da,sl⟩,Gr,c1,UG,R9,dk,_⟩:=sm _ hx;have e9:od=some dx:=dk dx rfl;clear dk;dsimp only at c1 UG R9;subst c1 UG R9 e9;have T6:h'.Ns1 dx (λ y'=>if y'=f then some u else mA y'):=by
   obtain⟨o2,z1,_,_,z2⟩:=hi;rw[Gr]at z1;cases z1;rcases z2 with⟨z,_⟩|⟨d',z,_,z3⟩
   ·cases z
   ·cases z;exact z3
  have VZ:∀b w,b≠dx->hp.get? b=some w->h'.get? b=some w:=λ b w nb z=>by
   by_cases eb:b=e
   ·subst eb;rw[hx]at z;cases z;exact Gr
   ·exact kp b w eb (λ o0 d0 z1 z2=>by rw[hx]at z1;cases z1;cases z2;exact nb) z
  have ex1:∃w,h'.get? dx=some w:=by obtain⟨o',es,ep,z,_⟩:=T6;exact⟨o',z⟩
  exact⟨σ,_,I2.write (s:=⟨hp,g2,d2,Vl,Xi⟩) (t':=zg) (x:=dx) (e:=dx) (by rw[hd];trivial) (.inl rfl) VZ ex1 (XD.ok T6 (qU ry hr)),q⟩
end
open PySem.Spec PyProof.Rows
def Rv(H:Hp)(e:ww):Hp:=λ b=>if b=e then none else H b
theorem kh{e:ww}:Rv H e e=none:=N3 rfl
theorem fz{e b:ww}(h:b≠e):Rv H e b=H b:=N4 h
section
variable {fI:ww}
theorem IQ{vs:List V}{R:ww->Hp->Prop}(I:be X xz σ H s)(ec:yX X.K C fI)(F:bo X.prog X.w X.K X.mg X.base dJ k fI fd ps sp)(hr:bJ (k+1) X.A)(hb:Binds X.K fd ps [])(r:cr vs us)(mI:vs.length<=1000) (h:∀e t,H e=none->sp (.ref e::vs) (dl H e (XO e C none t)) (λ v H2=>v=.bu/\R e H2) E0):wpAny (model X.prog X.w) X.A (call (.ref C) us) (λ v s'=>∃e H2,v=.ref e/\X.s₀.heap.objs.size<=e/\be X xz σ H2 s'/\R e H2) X.xe s:=by
 obtain⟨nm,q0,N,bs,bm,sn,sub,ab,col,dd,k0,k1,k2,k3,k5,cl,tl,no,ni⟩:=ec.ex;obtain⟨hp,g,d,tk,os⟩:=s;have KX:=I.hV;have NS:hp.Ns N (hp.nsMap N):=.of_isNs (PySem.W.isNs_of_in KX no);have hf:∃oI,hp.get? fI=some oI/\oI.cls=.type "function":=by have z:PySem.W.typeIn X.K (.ref fI)=some (.type "function"):=beq_iff_eq.mp ec.fn;obtain⟨o,ho,e⟩:=Option.map_eq_some_iff.mp z;exact⟨o,KX _ _ ho,e⟩
 obtain⟨oI,fo,fc⟩:=hf;refine CH c9 (by decide) c9 (u6 KX tl) (KX _ _ cl) NS (ye KX NS ni) fo fc (λ h' e le m=>?_) (by rw[<- r.length];exact H9 mI (by decide));obtain⟨kp,_,t0,he,_,ht⟩:=m;have fr:H e=none:=I.bj.fresh le;have hq:=h e t0 fr;have I2:be X xz σ (dl H e (XO e C none t0)) ⟨h',g,d,tk,os⟩:=I.laid (s:=⟨hp,g,d,tk,os⟩) (t':=tk) kp le ⟨he,⟨_,he⟩,λ h1 h2 z w=>w _ z⟩;have r2:cr (V.ref e::vs) (Value.ref e::us):=.cons rfl r;have hl:(Value.ref e::us++[]).length=ps.length:=by rw[B2,<- r2.length];exact F.len _ _ _ _ hq
 have bd:=hb ⟨h',g,d,tk,os⟩ (Value.ref e::us) I2.hV hl;rw[B2]at bd;refine L6 (J8 (F.run _ X.stack _ _ ⟨Value.ref e::us,[]⟩ (Value.ref e::us) _ _ E0 (hr.make C us []) (I2.LB.make C us []) bd r2 hq) λ r s' TU=>?_);cases r with
 |error x=>exact TU.elim
 |ok fl=>
  cases fl with
  |ret u=>obtain⟨v,H',I3,rv,ev,q3⟩:=I2.after TU;subst ev;exact⟨rv,e,H',rfl,H9 I.sz le,I3,q3⟩
  |next=>exact False.elim TU
  |brk=>exact False.elim TU
  |cont=>exact False.elim TU
def jA(X:Cx)(E:XK):Prop:=∀(xz:List (ww×Obj)) (σ:St) (H:Hp) (s:kt) (e C t:ww) (od:Option ww),be X xz σ H s->X.s₀.heap.objs.size<=e->H e=some (XO e C od t)->E (.ref C) od (Rv H e)->X.xe (.ref e) s
def Nz(sp:Sp)(C:ww)(E:XK)(t:TA):TS:=λ _ σ H=>t σ H λ vs H1=>vs.length<=1000/\∀e t0,H1 e=none->sp (.ref e::vs) (dl H1 e (XO e C none t0)) (λ v H2=>v=.bu/\∃od t1,H2 e=some (XO e C od t1)/\E (.ref C) od (Rv H2 e)) E0
theorem EE{E:XK}{np:Pos}{a:Expr}{t:TA}(hs:jA X E)(hc:X.calm=true)(hg:Gl X x)(hm:X.mg x=some (.ref C))(ec:yX X.K C fI)(F:bo X.prog X.w X.K X.mg X.base dJ k fI fd ps sp)(hr:bJ (k+1) X.A)(hb:Binds X.K fd ps []) (ha:PA X (a::as) t) (hdb:(x==("__debug__":Str))=false:=by decide) (he:starEach (a::as) X.env=(false,eval a X.env)::starEach as X.env:=by rfl) (hpl:(backTo ck (starEach as X.env)).any (·.1)=false:=by rfl):PS X (.Raise (some (.Call (.Name x np) (a::as) [] ck)) none pos) (Nz sp C E t):=by intro xz s σ H D I h;obtain⟨nm,q0,N,bs,bm,sn,sub,ab,col,dd,k0,k1,k2,k3,k5,cl,tl,no,ni⟩:=ec.ex;have T:=u6 I.hV tl;rw[arm_exec_Raise];refine K5 (G4 (xQ (C:=C) (nm:=nm) (q:=q0) (N:=N) (bs:=bs) (bm:=bm) (hdct:=true) (sn:=sn) (sub:=sub) (ab:=ab) (col:=col) (dd:=dd) (k0:=k0) (k1:=k1) (k2:=k2) (k3:=k3) (k5:=k5) (newId:="ValueError.__new__") (T.hasType (b:=true) (by decide)) (I.ok.hd hc) ?_));refine K5 (K9 (u5 (fQ I hg hm (PySem.W.callWith_K (h₀:=X.base) I.ok.mod.Rm ec.kp (cm (ha ck xz s σ H _ I h) λ us s1 ⟨vs,H1,I1,r,mI,q⟩=>⟨I1.hV,IQ I1 ec F hr hb r mI q⟩) he hpl) hdb)) (λ v s3 z=>K5 (G4 (K6 ?_))) λ _ _ z=>z);obtain⟨e,H2,rfl,le,J,od,t1,hx,q⟩:=z;obtain⟨ho,_,_⟩:=J.bj e _ hx;exact⟨e,_,_,rfl,J.hV _ _ cl,ho,rfl,rfl,rfl,hs xz σ H2 s3 e C t1 od J le hx q⟩
end
open PySem.Spec PyProof.Rows
section
variable {M:Model}{B:Heap}{L e:ww}
theorem Tf{c:jp}{dx:Option ww}{T:ww}{Q:Unit->kt->Prop}(Ll:A.frames=some (env::outer))(hl:s.heap.FunFrames B (env::outer))(hf:env.frame=some L)(t:YY s.heap e c dx T)(nT:B.get? T=none) (kB:B.StaysIn s.heap) (nB:B.get? e=none) (q:∀h',Y2 B (env::outer) e c dx s.heap h'->Q () {s with heap:=h'}):wpAny M A (noteFrame (.ref e) env) (λ _ s2=>wpAny M A (setFlight (.ref e) none) Q E s2) E s:=by
 obtain⟨oe,vs,oT,ts,he,rfl,rfl,dv,h1,ne,hT,dT,h3⟩:=t;unfold noteFrame;simp only[hf];refine K5 (K4 he dv h1 ?_);rw[N3 (show(Value.ref T != Value.none)=true from by simp)];refine K5 (K4 hT dT h3 ?_);rw[N4 (show ¬((Value.none==rawInt L)=true)from by simp[rawInt])];refine K5 (D5 hT dT (Array.getElem?_eq_some_iff.mp h3).1 ?_);have ot:∀b,b≠T->(s.heap.update T (Obj.mapFields (·.setIfInBounds 3 Value.none))).get? b=s.heap.get? b:=λ b y=>j8 _ _ y.symm;have nr:∀b o,s.heap.get? b=some o->(∀vs,o.data≠.fields vs)->b≠T:=λ b o z w y=>by rw[y,hT]at z;cases z;exact w ts dT
 exact Fu Ll (hl.of_keeps λ b o z w=>⟨o,(ot b (nr b o z w)).trans z,rfl⟩) hf ((ot e ne.symm).trans he) (λ b o z=>(ot b λ y=>by rw[y,nT]at z;cases z).trans (kB b o z)) nB dv (Array.getElem?_eq_some_iff.mp h1).1
  λ h' x=>q h' ⟨x.fb,x.fr,by have z:=x.tr;rw[show(s.heap.update T (Obj.mapFields (·.setIfInBounds 3 Value.none))).objs.size=s.heap.objs.size from Heap.size_update _ _ _]at z;exact z,λ b o z w=>x.sl b o ((ot b (nr b o z w)).trans z) w⟩
end
theorem Un.U4{fs ex:List ww}{h h1:Heap}{o:HO}(u:Un fs ex H H1 h h1)(hf:h.objs.size<=b0)(hn:H1 b0=none):Un fs ex H (dl H1 b0 o) h h1 where
 keep:=u.keep
 slot:=u.slot
 free:=λ b ob q n x=>by rw[aB (λ z=>absurd (G7 q) (by rw[z];exact Nat.not_lt.mpr hf))];exact u.free b ob q n x
 there:=u.there
 gr:=λ b xs q=>by have y:=u.gr b xs q;rw[aB (λ z=>by rw[z,hn]at y;cases y)];exact y
 gc:=λ b ob v q=>by have y:=u.gc b ob v q;rw[aB (λ z=>by rw[z,hn]at y;cases y)];exact y
 gH:=λ b ps q=>by obtain⟨m,y⟩:=u.gH b ps q;exact⟨m,by rw[aB (λ z=>by rw[z,hn]at y;cases y)];exact y⟩
theorem Un.lT{fs ex:List ww}{h h1 h2:Heap}(u:Un fs ex H H1 h h1)(hf:h.objs.size<=b0)(k:∀b o,b≠b0->h1.get? b=some o->h2.get? b=some o):Un fs ex H H1 h h2 where
 keep:=λ b o q n m x=>k b o (λ z=>absurd (G7 q) (by rw[z];exact Nat.not_lt.mpr hf)) (u.keep b o q n m x)
 slot:=λ b o q n m x=>by obtain⟨z,y⟩:=u.slot b o q n m x;exact⟨z,k b _ (λ z=>absurd (G7 q) (by rw[z];exact Nat.not_lt.mpr hf)) y⟩
 free:=u.free
 there:=λ b o q x=>by obtain⟨o',y⟩:=u.there b o q x;exact⟨o',k b _ (λ z=>absurd (G7 q) (by rw[z];exact Nat.not_lt.mpr hf)) y⟩
 gr:=u.gr
 gc:=u.gc
 gH:=u.gH
theorem gE.lT{h h2:Heap}(ok:gE P w H h)(hn:H b0=none)(k:∀b o,b≠b0->h.get? b=some o->h2.get? b=some o):gE P w H h2:=λ b u q=>by
 refine(ok b u q).fb (λ d v y z=>k d v (λ e=>?_) z) (λ _ z=>z) λ _ _ z=>z;rcases y with rfl|y
 ·rw[e,hn]at q;cases q
 ·rw[e,hn]at y;cases y
section
variable {T:ww}{c:jp}{dx:Option ww}{as:List ww}
theorem KN(I:be X xz σ H s)(un:Un (je X.stack) [] H H' s.heap s'.heap)(bj:gE X.prog X.w H' s'.heap)(iY:s'.os=s.os)(bare:AllBare s'.gens)(ha:∀b∈as,s.heap.objs.size<=b/\H' b=none) (l:Y2 (PySem.W.hideAll s'.heap (je X.stack++as)) X.stack a c dx s'.heap h'):Un (je X.stack) [] H H' s.heap h'/\gE X.prog X.w H' h':=by
 have J:be X xz σ H' s':=I.rT iY un bj bare λ b z=>absurd z (by simp);have kp:∀b o,s'.heap.get? b=some o->b∉je X.stack->b∉as->h'.get? b=some o:=λ b o q n m=>l.fb b o (PySem.W.hideAll_get _ q λ z=>(C3.mp z).elim n m);have sl:∀b o,s'.heap.get? b=some o->b∈je X.stack->∃z,h'.get? b=some {o with slots:=z}:=λ b o q n=>by obtain⟨_,u,hu,w⟩:=J.stack.mem n;rw[q]at hu;cases hu;exact l.sl b o q w
 have old:∀b o,s.heap.get? b=some o->b∉as:=λ b o q z=>absurd (G7 q) (Nat.not_lt.mpr (ha b z).1);refine⟨⟨λ b o q n m x=>?_,λ b o q n m x=>?_,un.free,λ b o q x=>?_,un.gr,un.gc,un.gH⟩,λ b o q=>?_⟩
 ·exact kp b o (un.keep b o q n m x) m (old b o q)
 ·obtain⟨z,q'⟩:=un.slot b o q n m x;obtain⟨z2,q2⟩:=sl b _ q' m;exact⟨z2,q2⟩
 ·obtain⟨o',q'⟩:=un.there b o q x;by_cases m:b∈je X.stack
  ·obtain⟨z2,q2⟩:=sl b _ q' m;exact⟨_,q2⟩
  ·exact⟨_,kp b o' q' m (old b o q)⟩
 ·refine(bj b o q).fb (λ d u e z=>?_) (λ _ z=>z) λ _ _ z=>z;have hd:H' d≠none:=by
   rcases e with rfl|e
   ·rw[q];intro y;cases y
   ·rw[e];intro y;cases y
  exact kp d u z (λ m=>hd (J.jM d m)) λ m=>hd (ha d m).2
theorem nq{M:Model}{Q:Unit->kt->Prop}(I:be X xz σ H s)(hN:X.N.Nodup)(hi:X.N[i]?=some x)(hk:X.env.scope.names.lookup x=some .local) (h:∀s',be X xz (σ.set i none) H s'->Q () s'):wpAny M A (do bindName X.env x .none;unbindBehindTheSuite X.env x pos) Q E s:=by
 obtain⟨m,hn,hl⟩:=id I.loc;have Qq:(X.env.scope.kind==.class||(X.env.scope.kind==.module&&X.env.locals != X.env.globals))=false:=by rw[I.ok.kind];rfl
 refine wpAny_nameGoes_keeps hk hn Qq λ h' v Li hs=>?_;obtain⟨oL,_,_,ZC,_⟩:=id hn;have Hf:=I.Hf;refine h _ ⟨I.ok,I.os,I.bare,⟨λ b o e n hb hx=>?_,λ b o e n hb hx=>?_,I.base.free,λ b o e hx=>?_,I.base.gr,I.base.gc,I.base.gH⟩,⟨_,Li,λ j y v' e1 e2 e3=>?_⟩,λ y c e=>?_,I.free,I.fv,λ p hp=>?_,λ b ob e=>?_,by simpa using I.len⟩
 ·exact(hs.2 b (G6 (u3 (G7 e) I.ok.above))).trans (I.base.keep b o e n hb hx)
 ·obtain⟨sl,e1⟩:=I.base.slot b o e n hb hx;exact⟨sl,(hs.2 b (G6 (u3 (G7 e) I.ok.above))).trans e1⟩
 ·obtain⟨o',e1⟩:=I.base.there b o e hx;exact⟨o',(hs.2 b (G6 (u3 (G7 e) I.ok.above))).trans e1⟩
 ·by_cases hj:j=i
  ·subst hj;by_cases hz:j < σ.length
   ·rw[j9 hz]at e2;cases e2
   ·rw[l5 (by rw[C7];omega)]at e2;cases e2
  ·rw[m7 (L9 hj)]at e2;obtain⟨u',r',q⟩:=hl j y v' e1 e2 e3;refine⟨u',r',?_⟩;rcases q with⟨k,e⟩|⟨k,c,e,z⟩
   ·refine .inl ⟨k,?_⟩;have:y≠x:=λ e=>hj (oQ hN e1 (e▸hi));simp[this,e]
   ·exact .inr ⟨k,c,e,z.sameBut hs (Hf y c e)⟩
 ·obtain⟨w',z⟩:=I.cell y c e;exact⟨w',z.sameBut hs (Hf y c e)⟩
 ·obtain⟨e,n,ne,nf,d⟩:=I.pin p hp;exact⟨(hs.2 p.1 ne).trans e,n,ne,nf,d⟩
 ·refine(I.bj b ob e).fb (λ c w' hc q=>(hs.2 c ?_).trans q) (λ _ q=>q) λ _ _ q=>q;rintro rfl;rcases hc with rfl|hc
  ·rw[I.free]at e;cases e
  ·rw[I.free]at hc;cases hc
end
open PySem.Spec PyProof.Rows
def XT(a C:ww)(od:Option ww):HO:=.ext λ h=>∃oe vs,h.get? a=some oe/\oe.cls=.ref C/\oe.dict=od/\oe.data=.fields vs
theorem XT.ok{h:Heap}{od:Option ww}(h1:h.get? a=some oe)(h2:oe.cls=.ref C)(h3:oe.dict=od)(h4:oe.data=.fields vs):bD P w H h a (XT a C od):=
 ⟨⟨oe,vs,h1,h2,h3,h4⟩,⟨_,h1⟩,λ _ _ ⟨oe,vs,z,r⟩ k=>⟨oe,vs,k _ z,r⟩⟩
structure qi(K:N5)(C:ww):Prop where
 ex:∃nm q N bs bm hd sn sub ab col dd k0 k1 k2 k3 k5 newId,K.lookup C=some (excClassObj nm q C N bs bm hd sn sub ab col dd k0 k1 k2 k3 k5 newId)/\bm.contains (.type "BaseException")=true
def xD(K:N5)(C D:ww):Bool:=match K.lookup C with
 |some ⟨_,_,.cls cd,_⟩=>cd.mro.contains (.ref D)
 |_=>false
section
variable {M:Model}{D:ww}
theorem vD{Q:Bool->kt->Prop}(X:K.In s.heap)(h1:s.heap.get? a=some oe)(h2:oe.cls=.ref C)(hC:qi K C)(hD:qi K D)(hs:xD K C D=b)(k:Q b s):wpAny M A (excMatches (.ref a) (.ref D)) Q E s:=by
 obtain⟨nm,q0,N,bs,bm,hd,sn,sub,ab,col,dd,k0,k1,k2,k3,k5,nw,cl,hb⟩:=hC.ex;obtain⟨nm',q0',N',ZZ,bm',jc,sn',aau,ab',adi,QH,k0',k1',k2',k3',k5',nw',cl',HS⟩:=hD.ex;obtain⟨hp,g,d,tk,os⟩:=s;have c1:=X _ _ cl;have c2:=X _ _ cl';have hc:(Value.ref D::bm').contains (.type "BaseException")=true:=by rw[contains_cons,HS,Bool.or_true]
 have hm:(Value.ref C::bm).contains (.ref D)=b:=by unfold xD at hs;rw[cl]at hs;exact hs
 obtain⟨oc,od,da,sl⟩:=oe;dsimp only at h2;subst h2;have c3:=c2;unfold excClassObj at c3;have f1:isSubtype (.type "type") (.type "tuple")=pure false:=by rw[isSubtype_type];kernel_rfl
 unfold excMatches
 repeat(first|with_reducible refine z9 h1 ?_|with_reducible refine z9 c3 ?_|(with_reducible refine o7 c2 ?_;rw[hc])|(with_reducible refine o7 c1 ?_;rw[hm])|wp_step)
 cases b <;> (wp_walk;exact k)
end
def Cx.Le (X:Cx)(a:ww):Cx:={X with A:=X.A.mark (some (.ref a)),calm:=false,xe:=λ _ _=>False}
theorem be.Le(I:be X xz σ H s)(a:ww):be (X.Le a) xz σ H s:=
 let ok:=I.ok
 ⟨⟨ok.mod,ok.kind,ok.glob,ok.blt,ok.above,ok.inj,ok.has,ok.Rx,(λ z=>by cases z),ok.frames,ok.R3,ok.YB,ok.bs,ok.CV,ok.yf,ok.GP,ok.ke,ok.Ls⟩,I.os,I.bare,I.base,I.loc,I.cell,I.free,I.fv,I.pin,I.bj,I.len⟩
theorem be.Kb(J:be (X.Le a) xz σ' H' s')(ok:X.Ok):be X xz σ' H' s':=
 ⟨ok,J.os,J.bare,J.base,J.loc,J.cell,J.free,J.fv,J.pin,J.bj,J.len⟩
def Ends.but (D:Ends)(i:Nat):Ends:={nx:=λ σ H=>D.nx (σ.set i none) H,rt:=D.rt,bk:=λ σ H=>D.bk (σ.set i none) H,ct:=λ σ H=>D.ct (σ.set i none) H}
def EH(K:N5)(CE:ww)(i:Nat)(th:ww->TS)(D:Ends)(σ:St):XK:=λ c od H'=>∃C,c=.ref C/\qi K C/\xD K C CE=true/\∀a,H' a=none->th a (D.but i) (σ.set i (some (.ref a))) (dl H' a (XT a C od))
theorem QZ{n:Str}{np vT:Pos}{b0:Stmt}{th:ww->TS}{D:Ends}{CE:ww}{e:jp}(I:be X xz σ H s)(hst:X.stack=X.env::X.outer/\X.env.frame=some X.env.locals)(hN:X.N.Nodup)(hi:X.N[i]?=some n)(hk:X.env.scope.names.lookup n=some .local) (hg:Gl X x) (hm:X.mg x=some (.ref CE)) (hC:qi X.K CE) (hs:∀a,rZ (X.Le a) (b0::suite) (th a)) (cx:qI X.prog X.w X.stack H s (EH X.K CE i th D σ) e s') (hdb:(x==("__debug__":Str))=false:=by decide):wpAny (model X.prog X.w) X.A (noteFrame e X.env) (λ _ s2=>wpAny (model X.prog X.w) X.A (setFlight e none) (λ _ s3=>wpAny (model X.prog X.w) X.A (handleBy e X.env [.ExceptHandler (some (.Name x np)) (some n) (b0::suite) vT]) (SP X xz D) E s3) E s2) E s':=by
 obtain⟨a,c,dx,T,H',rfl,iY,bare,un,bj,h1,h2,n1,n2,t,C,rfl,eC,sC,q⟩:=cx;have J:=I.rT iY un bj bare λ b z=>absurd z (by simp);have hT:∀b∈[a,T],s.heap.objs.size<=b/\H' b=none:=λ b hb=>by
  rcases G0.mp hb with rfl|hb
  ·exact⟨h1,n1⟩
  ·cases u4.mp hb;exact⟨h2,n2⟩
 have fr:=J.ok.frames;have fn:=J.stack;rw[hst.1]at fr fn;have pq:s.heap.objs.size<=s'.heap.objs.size:=by obtain⟨oe,vs,oT,ts,he,_⟩:=t;exact H9 h1 (K0 (G7 he))
 refine Tf (B:=PySem.W.hideAll s'.heap (je (X.env::X.outer)++[a,T])) (env:=X.env) (outer:=X.outer) (L:=X.env.locals) fr (PySem.W.funFrames_hide fn λ e he b hb=>C3.mpr (.inl (mem_filterMap.mpr ⟨e,he,hb⟩))) hst.2 t
  (m8 _ (by simp)) (λ b o z=>w9 _ z) (m8 _ (by simp)) λ h' l=>?_
 rw[<- hst.1]at l;obtain⟨Zf,T3⟩:=KN I un bj iY bare hT l;obtain⟨oe,vs,oT,ts,he,c1,d1,dv,v1,ne,gT,dT,v3⟩:=l.tr;have fT:H' s'.heap.objs.size=none:=bj.fresh (K1 _);refine wpAny_handleBy_cons (codeAny_handlers_test ?_) (by intro z;cases z);have J1:be X xz σ H' {s' with heap:=h'}:=I.rT iY Zf T3 bare λ b z=>absurd z (by simp);refine fQ (X:=X.Le a) (J1.Le a) hg hm ?_ hdb;refine vD J1.hV he c1 eC hC sC ?_;refine codeAny_handlers_suite_as ?_;unfold setFlight;refine K5 (K4 he dv v1 ?_);rw[N3 (show(Value.ref s'.heap.objs.size != Value.none)=true from by simp)];refine D5 gT dT (Array.getElem?_eq_some_iff.mp v3).1 ?_;generalize hh2:h'.update s'.heap.objs.size (Obj.mapFields (·.setIfInBounds 3 ((none:Option ww).elim Value.none λ f=>rawInt f)))=g2;have kp:∀b o,b≠s'.heap.objs.size->h'.get? b=some o->g2.get? b=some o:=λ b o nb z=>by rw[<- hh2,j8 _ _ nb.symm];exact z
 have un2:=Zf.lT (H9 (K1 _) pq) kp;have Qg:=T3.lT fT kp;have un3:=un2.U4 (o:=XT a C dx) h1 n1;have Yb:=Qg.L_ (o:=XT a C dx) n1 (XT.ok (kp a oe ne.symm he) c1 d1 dv);have J3:be X xz σ (dl H' a (XT a C dx)) {s' with heap:=g2}:=I.rT (s':={s' with heap:=g2}) iY un3 Yb bare λ b z=>absurd z (by simp);refine jL (v:=.ref a) J3 hN hi (.inl hk) rfl (λ s4 J4=>?_) (.inr hk);refine K9 (hs a xz s4 _ _ (D.but i) (J4.Le a) (q a n1)) (λ f s5 z=>?_) λ _ _ z=>z.elim;cases f with
 |next=>obtain⟨σ5,H5,J5,q5⟩:=z;exact nq (J5.Kb J.ok) hN hi hk λ s6 J6=>⟨_,_,J6,q5⟩
 |brk=>obtain⟨σ5,H5,J5,q5⟩:=z;exact nq (J5.Kb J.ok) hN hi hk λ s6 J6=>⟨_,_,J6,q5⟩
 |cont=>obtain⟨σ5,H5,J5,q5⟩:=z;exact nq (J5.Kb J.ok) hN hi hk λ s6 J6=>⟨_,_,J6,q5⟩
 |ret u=>obtain⟨v,σ5,H5,J5,r5,q5⟩:=z;exact nq (J5.Kb J.ok) hN hi hk λ s6 J6=>⟨_,_,_,J6,r5,q5⟩
open PySem.Spec PyProof.Rows
section
variable {fa:ww}{p:Pos}{t:TA}{E:XK}
theorem YC{Q:VK}(hE:∀v s,X.xe v s->False)(F:bo X.prog X.w X.K X.mg X.base (qI X.prog X.w) k fa fd ps sp)(hr:bJ k X.A)(hg:Gl X x)(hm:X.mg x=some (.ref fa))(hk:PySem.W.keepIn X.K (.ref fa)=true)(hb:Binds X.K fd ps []) (ha:PA X (e::es) t) (I:be X xz σ H s) (h:t σ H λ vs H1=>sp vs H1 Q E) (hx:∀H1 s1 v s',be X xz σ H1 s1->qI X.prog X.w X.stack H1 s1 E v s'->Ex v s') (hdb:(x==("__debug__":Str))=false:=by decide) (he:starEach (e::es) X.env=(false,eval e X.env)::starEach es X.env:=by rfl) (hpl:(backTo pos (starEach es X.env)).any (·.1)=false:=by rfl):wpAny (model X.prog X.w) X.A (eval (.Call (.Name x p) (e::es) [] pos) X.env) (EP X xz σ Q) Ex s:=by
 refine u5 (fQ I hg hm ?_ hdb);refine PySem.W.callWith_K (h₀:=X.base) I.ok.mod.Rm hk (K9 (ha pos xz s σ H _ I h) (λ us s1 ⟨vs,H1,I1,r,q⟩=>⟨I1.hV,?_⟩) λ v s z=>(hE v s z).elim) he hpl;have hl:(us++[]).length=ps.length:=by rw[B2,<- r.length];exact F.len _ _ _ _ q
 have bd:=hb s1 us I1.hV hl;rw[B2]at bd;refine L6 (J8 (F.run X.A X.stack s1 H1 ⟨us,[]⟩ us vs Q E hr I1.LB bd r q) λ r s' hq=>?_);cases r with
 |error v=>exact hx H1 s1 v s' I1 hq
 |ok fl=>
  cases fl with
  |ret u=>exact I1.after hq
  |next=>exact False.elim hq
  |brk=>exact False.elim hq
  |cont=>exact False.elim hq
end
open PySem.Spec PyProof.Rows Builtin Builtin.ObjectAttr
theorem Al(x:jp):bindSpecial (.builtin "BaseException.__getattribute__") x=pure (.builtin "BaseException.__getattribute__",[x]):=PySem.F.excAttr_ValueError.ga.bind x
section
variable {h:Heap}{g:Array GenState}{d:Drawn}{t:Nat}{od:Option Obj}{v:jp}
theorem Wq{expr:Bool}(X:K.In h)(I:PySem.W.InstAt h a oe C od)(hga:PySem.W.findIn K (.ref C) "__getattribute__"=some (some (.builtin "BaseException.__getattribute__")))(Qm:PySem.W.findIn K (.ref C) "__getattr__"=some none) (hf:PySem.W.findObj K C od name=some (.value v)) (hb:PySem.W.mroIn K C (.type "BaseException")=some true) (hh:handedOut v=pure v) (q:Q v ⟨h,g,d,t+1,os⟩):wpAny (model prog w) A (getAttr (.ref a) name expr) Q E ⟨h,g,d,t,os⟩:=by
 have L0:=I.type (M:=model prog w);have L1:=PySem.W.looks_findIn (M:=model prog w) X hga;have L2:=PySem.W.looks_hook (M:=model prog w) (mc:=.ref C) X (r:=none) (by rw[N3 (show onTheHeap (Value.ref C)=true from rfl)];exact Qm);have L3:=PySem.W.looks_find (M:=model prog w) X I hf;have sub:PySem.W.Looks (model prog w) h (isInstance (.ref a) (.type "BaseException")) true:=L0.andThen (PySem.W.looks_mroIn X hb);unfold getAttr getAttrBy;refine K5 (wpAny_mkText (D6 (K5 (L0.at (K5 (L1.at ?_))))));have XZ:(Value.builtin "BaseException.__getattribute__"==Value.builtin "object.__getattribute__")=false:=by decide+kernel
 have X1:(expr&&onTheHeap (Value.builtin "BaseException.__getattribute__"))=false:=by cases expr <;> rfl
 dsimp only;rw[N4 (by rw[XZ,Bool.and_false];decide)];unfold getAttrByItsOwn;refine K5 (L2.at ?_);unfold callGetattribute;rw[N4 (by rw[X1];decide)];unfold boundAndCalled;refine K5 (D7 (D6 (K5 ?_)));rw[Al];refine K6 (L6 ?_);refine m6 PySem.F.excAttr_ValueError.ga.plain PySem.F.entry_bexc_ga (@PySem.W.check_slot (model prog w) _ _ ⟨h,g,d,t+1,os⟩ "BaseException.__getattribute__" "BaseException" "__getattribute__" (.ref a) [.str name t] [] _ (by decide+kernel) (by decide+kernel) sub (PySem.F.args_bexc_ga (.ref a) (.str name t)) ?_);refine K5 (K6 (K5 (K6 (K5 (L0.at (K5 (L3.at ?_)))))));refine K6 ?_;show wpAny _ _ (handedOut v) _ _ _;rw[hh];exact K6 q
end
section
variable {ta:TE}{f:Str}
structure Rb(K:N5)(C:ww)(f:Str):Prop where
 ga:PySem.W.findIn K (.ref C) "__getattribute__"=some (some (.builtin "BaseException.__getattribute__"))
 gt:PySem.W.findIn K (.ref C) "__getattr__"=some none
 no:PySem.W.findIn K (.ref C) f=some none
 ba:PySem.W.mroIn K C (.type "BaseException")=some true
 hd:(PySem.W.clsIn K C).any (·.hasDict)=true
def tXf(K:N5)(ta:TE)(f:Str):TE:=λ σ H Q=>ta σ H λ v H1=>∃a C dx fs y,v=.ref a/\H1 a=some (XT a C (some dx))/\H1 dx=some (XD dx fs)/\Rb K C f/\fs.lookup f=some y/\Q y H1
theorem EO(he:PE X e ta)(hb:attributeBase e f X.env (eval e X.env)=eval e X.env:=by rfl):PE X (.Attribute e f pos) (tXf X.K ta f):=by
 intro xz s σ H Q I h;refine LX hb (cm (he xz s σ H _ I h) λ u s1 ⟨v,H1,I1,rx,a,C,dx,fs,y,ev,h1,h2,eg,hl,q⟩=>?_);subst ev;obtain rfl:u=Value.ref a:=rx;obtain⟨⟨oe,vs,he,hc,hd,tX⟩,_,_⟩:=I1.bj a _ h1;obtain⟨⟨mA,hn,hr⟩,_,_⟩:=I1.bj dx _ h2;obtain⟨od,ho,hlk⟩:=lr hn;obtain⟨hp,g,d,tk,os⟩:=s1;have ry:=hr f;rw[hl]at ry;cases em:mA f with
 |none=>rw[em]at ry;exact ry.elim
 |some u=>
  rw[em]at ry;have IA:PySem.W.InstAt hp a oe C (some od):=⟨he,hc,by unfold PySem.W.notCls;rw[tX],by rw[hd];exact ho⟩;obtain⟨cd,hcd,hdc⟩:=PySem.W.any_some eg.hd;refine Wq I1.hV IA eg.ga eg.gt (v:=u) ?_ eg.ba ?_ ⟨y,H1,I1.tok _,ry,q⟩
  ·unfold PySem.W.findObj;rw[hcd,Option.bind_some,eg.no];show((PySem.W.ownOf cd (some od) f).bind _)=_;unfold PySem.W.ownOf;rw[N3 hdc];dsimp only;rw[hlk,em];rfl
  ·exact PySem.W.handedOut_of (Cc ry)
end
open PySem.Spec PyProof.Rows Builtin Builtin.ObjectAttr
structure uE(K:N5)(C:ww):Prop where
 ga:PySem.W.findIn K (.ref C) "__getattribute__"=some (some (.builtin "BaseException.__getattribute__"))
 gt:PySem.W.findIn K (.ref C) "__getattr__"=some none
 ba:PySem.W.mroIn K C (.type "BaseException")=some true
 ob:PySem.W.mroIn K C (.type "object")=some true
 hd:(PySem.W.clsIn K C).any (·.hasDict)=true
 cl:PySem.W.findIn K (.ref C) "__class__"=some (some (.builtin "object.__class__"))
 ge:PySem.W.specialIn K (.builtin "object.__class__") "__get__"=some (some (.builtin "getset_descriptor.__get__"))
 tk:PySem.W.takesIn K (.builtin "object.__class__")=some true
section
variable {od:Obj}
theorem Nk{Q:Option jp->kt->Prop}(X:K.In s.heap)(I:PySem.W.InstAt s.heap a oe C (some od))(e:uE K C)(q:Q (some (.ref C)) {s with toks:=s.toks+1}):wpAny (model prog w) A (getAttr? (.ref a) "__class__") Q E s:=by
 obtain⟨h,g,d,t,os⟩:=s;obtain⟨cd,hcd,_⟩:=PySem.W.any_some e.hd;have hf:PySem.W.findObj K C (some od) "__class__"=some (.bind (.builtin "getset_descriptor.__get__") (.builtin "object.__class__")):=PySem.W.findObj_data (by rw[hcd];rfl) e.cl e.ge e.tk;have L0:=I.type (M:=model prog w);have L1:=PySem.W.looks_findIn (M:=model prog w) X e.ga;have L2:=PySem.W.looks_hook (M:=model prog w) (mc:=.ref C) X (r:=none) (by rw[N3 (show onTheHeap (Value.ref C)=true from rfl)];exact e.gt);have L3:=PySem.W.looks_find (M:=model prog w) X I hf;have sub:PySem.W.Looks (model prog w) h (isInstance (.ref a) (.type "BaseException")) true:=L0.andThen (PySem.W.looks_mroIn X e.ba);unfold getAttr? getAttrBy? getAttrBy;refine K5 (wpAny_mkText (K5 (D7 (D6 (K5 (L0.at (K5 (L1.at ?_))))))));have XZ:(Value.builtin "BaseException.__getattribute__"==Value.builtin "object.__getattribute__")=false:=by decide+kernel
 dsimp only;rw[N4 (by rw[XZ,Bool.and_false];decide)];unfold getAttrByItsOwn;refine K5 (L2.at ?_);unfold callGetattribute;rw[N4 (by decide)];unfold boundAndCalled;refine K5 (D7 (D6 (K5 ?_)));rw[Al];refine K6 (L6 ?_);refine m6 PySem.F.excAttr_ValueError.ga.plain PySem.F.entry_bexc_ga (@PySem.W.check_slot (model prog w) _ _ ⟨h,g,d,t+1,os⟩ "BaseException.__getattribute__" "BaseException" "__getattribute__" (.ref a) [.str "__class__" t] [] _ (by decide+kernel) (by decide+kernel) sub (PySem.F.args_bexc_ga (.ref a) (.str "__class__" t)) ?_);refine K5 (K6 (K5 (K6 (K5 (L0.at (K5 (L3.at ?_)))))));show wpAny _ _ (holding [.builtin "object.__class__"] (call (.builtin "getset_descriptor.__get__") [.builtin "object.__class__",.ref a,.ref C]) >>= ret) _ _ _;refine K5 (D6 (L6 (PySem.W.class_get (s:=⟨h,g,d,t+1,os⟩) (ox:=oe) (od:=some od) X I e.ob ?_)));refine K6 ?_;show wpAny _ _ (handedOut (Value.ref C)) _ _ _;rw[PySem.W.handedOut_of rfl];exact K6 (K6 q)
set_option tactic.hygienic true in
theorem vL(e:uE K C):PySem.W.KitX K (.ref a) (.ref C) (λ h=>∃oe od,PySem.W.InstAt h a oe C (some od)) where
 ty:=λ _ _ _ ⟨_,_,I⟩=>I.type
 it:=λ _ _ X _=>by
  obtain⟨cd,hc,_⟩:=PySem.W.any_some e.hd;unfold PySem.W.clsIn at hc;split at hc
  ·rename_i c' d' cd' WX ho;intro A' Q' E' s' k q;unfold isType loadHead;exact K5 (wpAny_loadPart (k _ _ (X _ _ ho)) (K6 q))
  ·cases hc
 ne:=λ h tp dd ay n sl X z=>by
  obtain⟨cd,hc,_⟩:=PySem.W.any_some e.hd;refine Bool.eq_false_iff.mpr λ q=>?_;have e:C=tp:=Value.ref.inj (beq_iff_eq.mp q);subst e;unfold PySem.W.clsIn at hc;split at hc
  ·rename_i c' d' cd' WX ho;have y:=(X _ _ ho).symm.trans z;cases y
  ·cases hc
 ca:=λ X ⟨_,_,I⟩ k=>Nk X I e k
end
theorem vY(I:be X xz σ H s){fs:List (Str×V)}(h1:H a=some (XT a C (some dx)))(h2:H dx=some (XD dx fs)):∃oe od,PySem.W.InstAt s.heap a oe C (some od):=by obtain⟨⟨oe,vs,he,hc,hd,tX⟩,_,_⟩:=I.bj a _ h1;obtain⟨⟨mA,hn,hr⟩,_,_⟩:=I.bj dx _ h2;obtain⟨od,ho,_⟩:=lr hn;exact⟨oe,od,he,hc,by unfold PySem.W.notCls;rw[tX],by rw[hd];exact ho⟩
theorem Ab{c:jp}{fs:List (Str×V)}(I:be X xz σ H s)(h1:H a=some (XT a C (some dx)))(h2:H dx=some (XD dx fs))(e:uE X.K C)(k:PySem.W.kitOne X.K (.ref C) c=some b) (q:∀tk,Q (.bool b) {s with toks:=tk}):wpAny (model X.prog X.w) A (call (.builtin "isinstance") [.ref a,c]) Q E s:=
 C1 (vL e) I.hV (vY I h1 h2) k (λ z=>nomatch z) q
theorem F'{tp:ww}{fs:List (Str×V)}(I:be X xz σ H s)(h1:H a=some (XT a C (some dx)))(h2:H dx=some (XD dx fs))(e:uE X.K C) (ht:s.heap.get? tp=some ⟨.type "tuple",dd,.seq ay.toArray n,sl⟩) (k:PySem.W.kitAny X.K (.ref C) ay=some b) (q:∀tk,Q (.bool b) {s with toks:=tk}):wpAny (model X.prog X.w) A (call (.builtin "isinstance") [.ref a,.ref tp]) Q E s:=
 PySem.W.kia_tup (vL e) I.hV (vY I h1 h2) ht k (λ z=>nomatch z) q
open PySem.Spec PyProof.Rows
def U6(h:Heap)(a:ww)(c:jp)(od:Option ww)(nt:Option (ww×jp)):Prop:=∃oe vs,h.get? a=some oe/\oe.cls=c/\oe.dict=od/\oe.data=.fields vs/\match nt with
 |none=>vs[1]?=some .none
 |some (T,fl)=>vs[1]?=some (.ref T)/\T≠a/\∃oT ts,h.get? T=some oT/\oT.data=.fields ts/\ts[3]?=some fl
structure Z8(B:Heap)(l:List Env)(h h':Heap):Prop where
 fb:B.StaysIn h'
 fr:h'.FunFrames B l
 sl:∀b o,h.get? b=some o->(∀vs,o.data≠.fields vs)->∃z,h'.get? b=some {o with slots:=z}
section
variable {M:Model}{B:Heap}{L e:ww}
theorem Fv{hd:jp}{hn:Bool}{Q:Unit->kt->Prop}(Ll:A.frames=some (env::outer))(hl:s.heap.FunFrames B (env::outer))(hf:env.frame=some L) (he:s.heap.get? e=some oe) (kB:B.StaysIn s.heap) (nB:B.get? e=none) (dv:oe.data=.fields vs) (sz:1 < vs.size) (q:∀h',Z8 B (env::outer) s.heap h'->U6 h' e oe.cls oe.dict (some (s.heap.objs.size,rawInt L))->Q () {s with heap:=h'}):wpAny M A (do let a <- frameOf env;let p <- entryPlaceOf L hn;let b <- EntryCells.newEntry hd a .none (rawInt L) .none p;setField (.ref e) 1 b) Q E s:=by
 have eF:e∉(env::outer).filterMap (·.frame):=λ z=>by obtain⟨_,o,ho,w⟩:=hl.mem z;rw[he]at ho;cases ho;exact w vs dv
 refine K5 (wpAny_frameOf_fun Ll hl hf λ g hg=>K5 (wpAny_entryPlaceOf λ pl hpl=>?_));unfold EntryCells.newEntry newFields;refine K5 (y0 ?_ (hpl.sizeOk5 _ _ _ _ _));have e1:g.get? e=some oe:=(hg.2.1 e eF).trans he;have k1:B.StaysIn g:=λ b o z=>(hg.2.1 b λ y=>by rw[(hl.mem y).1]at z;cases z).trans (kB b o z);generalize hT:({cls:=.type "traceback",dict:=none,data:=.fields ([hd,.ref L,.none,rawInt L,.none]++(if pl.isEmpty then List.replicate 6 Value.none else pl)).toArray}:Obj)=nt;have dT:nt.data=.fields ([hd,.ref L,.none,rawInt L,.none]++(if pl.isEmpty then List.replicate 6 Value.none else pl)).toArray:=by rw[<- hT]
 have e2:=j7 (h:=g) nt e1;refine D5 e2 dv sz (q _ ?_ ?_)
 ·have nr:∀b o,s.heap.get? b=some o->(∀vs,o.data≠.fields vs)->b≠e:=λ b o z w y=>by rw[y,he]at z;cases z;exact w vs dv
  have kp:∀b o,b≠e->g.get? b=some o->((g.push nt).update e (Obj.mapFields (·.setIfInBounds 1 (Value.ref g.objs.size)))).get? b=some o:=λ b o y z=>by rw[j8 _ _ y.symm];exact j7 _ z
  refine⟨λ b o z=>kp b o (λ y=>by rw[y,nB]at z;cases z) (k1 b o z),hl.of_keeps λ b o z w=>?_,λ b o z w=>?_⟩
  ·obtain⟨sl,y⟩:=hg.2.2 b o z;exact⟨_,kp b _ (nr b o z w) y,rfl⟩
  ·obtain⟨sl,y⟩:=hg.2.2 b o z;exact⟨sl,kp b _ (nr b o z w) y⟩
 ·have ne:g.objs.size≠e:=J9 (G7 e1);have d3:=v8 dv (·.setIfInBounds 1 (Value.ref g.objs.size));have e3:=k4 (Obj.mapFields (·.setIfInBounds 1 (Value.ref g.objs.size))) e2 (l6 d3);have t3:=(j8 (g.push nt) (Obj.mapFields (·.setIfInBounds 1 (Value.ref g.objs.size))) ne.symm).trans (n9 g (l6 dT));rw[<- hg.1];exact⟨_,_,e3,Obj.cls_mapFields _ _,q_ _ _,d3,by simp[sz],ne,nt,_,t3,dT,by simp⟩
end
structure XS(X:Cx)(H':Hp)(h:Heap):Prop where
 un:Un X.fs [] X.H₀ H' X.s₀.heap h
 bj:gE X.prog X.w H' h
 fn:h.FunFrames X.base X.stack
 fr:∀b∈je X.stack,H' b=none
 am:X.A.frames=some X.stack
section
variable {h:Heap}{T L:ww}{as:List ww}
theorem XS.lT{oT:Obj}{ts:Array jp}(x:XS X H' h)(le:X.s₀.heap.objs.size<=T)(hn:H' T=none)(hT:h.get? T=some oT)(dT:oT.data=.fields ts)(k:∀b o,b≠T->h.get? b=some o->h'.get? b=some o):XS X H' h':=
 ⟨x.un.lT le k,x.bj.lT hn k,x.fn.of_keeps λ b o z w=>⟨o,k b o (λ y=>by rw[y,hT]at z;cases z;exact w ts dT) z,rfl⟩,x.fr,x.am⟩
theorem XS.note(x:XS X H' h)(hst:X.stack=X.env::X.outer)(ha:∀b∈as,X.s₀.heap.objs.size<=b/\H' b=none)(hL:X.env.frame=some X.env.locals)(ab:X.s₀.heap.objs.size<=X.env.locals) (l:Z8 (PySem.W.hideAll h (je X.stack++as)) X.stack h h'):XS X H' h':=by
 have kp:∀b o,h.get? b=some o->b∉je X.stack->b∉as->h'.get? b=some o:=λ b o q n m=>l.fb b o (PySem.W.hideAll_get _ q λ z=>(C3.mp z).elim n m);have sl:∀b o,h.get? b=some o->b∈je X.stack->∃z,h'.get? b=some {o with slots:=z}:=λ b o q n=>by obtain⟨_,u,hu,w⟩:=x.fn.mem n;rw[q]at hu;cases hu;exact l.sl b o q w
 have old:∀b o,X.s₀.heap.get? b=some o->b∉as:=λ b o q z=>absurd (G7 q) (Nat.not_lt.mpr (ha b z).1);have nst:∀b o,X.s₀.heap.get? b=some o->b∉X.fs->b∉je X.stack:=λ b o q n z=>by
  rw[hst]at z;unfold je at z;rw[o9,hL]at z;rcases G0.mp z with rfl|z
  ·exact absurd (G7 q) (Nat.not_lt.mpr ab)
  ·exact n z
 have sub:∀b,b∈X.fs->b∈je X.stack:=λ b z=>by rw[hst];exact mem_filterMap.mpr (by obtain⟨a,h1,h2⟩:=mem_filterMap.mp z;exact⟨a,.tail _ h1,h2⟩)
 have un:=x.un;refine⟨⟨λ b o q n m y=>?_,λ b o q n m y=>?_,un.free,λ b o q y=>?_,un.gr,un.gc,un.gH⟩,λ b o q=>?_,?_,x.fr,x.am⟩
 ·exact kp b o (un.keep b o q n m y) (nst b o q m) (old b o q)
 ·obtain⟨z,q'⟩:=un.slot b o q n m y;obtain⟨z2,q2⟩:=sl b _ q' (sub b m);exact⟨z2,q2⟩
 ·obtain⟨o',q'⟩:=un.there b o q y;by_cases m:b∈je X.stack
  ·obtain⟨z2,q2⟩:=sl b _ q' m;exact⟨_,q2⟩
  ·exact⟨_,kp b o' q' m (old b o q)⟩
 ·refine(x.bj b o q).fb (λ d u e z=>?_) (λ _ z=>z) λ _ _ z=>z;have hd:H' d≠none:=by
   rcases e with rfl|e
   ·rw[q];intro y;cases y
   ·rw[e];intro y;cases y
  exact kp d u z (λ m=>hd (x.fr d m)) λ m=>hd (ha d m).2
 ·exact x.fn.of_keeps λ b o z w=>by obtain⟨z2,q2⟩:=l.sl b o z w;exact⟨_,q2,rfl⟩
def XF(X:Cx)(E:XK)(e:jp)(s':kt):Prop:=∃(a:ww) (c:jp) (od:Option ww) (H':Hp) (nt:Option (ww×jp)),e=.ref a/\s'.os=X.s₀.os/\AllBare s'.gens/\XS X H' s'.heap/\X.s₀.heap.objs.size<=a/\H' a=none/\U6 s'.heap a c od nt/\
 (∀T fl,nt=some (T,fl)->X.s₀.heap.objs.size<=T/\H' T=none/\(fl=.none\/fl=rawInt X.env.locals))/\E c od H'
theorem za{E:XK}{M:Model}{e:jp}{Q:Unit->kt->Prop}(hst:X.stack=X.env::X.outer)(hL:X.env.frame=some X.env.locals)(ab:X.s₀.heap.objs.size<=X.env.locals)(hA:A.frames=some X.stack)(x:XF X E e s) (q:∀(s':kt) (a:ww) (c:jp) (od:Option ww) (H':Hp) (T:ww),e=.ref a->s'.os=X.s₀.os->AllBare s'.gens->XS X H' s'.heap->X.s₀.heap.objs.size<=a->H' a=none->U6 s'.heap a c od (some (T,rawInt X.env.locals))->X.s₀.heap.objs.size<=T->H' T=none->E c od H'->Q () s'):wpAny M A (noteFrame e X.env) Q Ex s:=by
 obtain⟨a,c,od,H',nt,rfl,iY,bare,xs,le,na,⟨oe,vs,he,hc,hd,dv,tr⟩,hnt,qe⟩:=x;have aF:∀b o ws,s.heap.get? b=some o->o.data=.fields ws->b∉je X.stack:=λ b o ws q1 q2 z=>by obtain⟨_,u,hu,w⟩:=xs.fn.mem z;rw[q1]at hu;cases hu;exact w ws q2
 have ss:X.s₀.heap.objs.size<=s.heap.objs.size:=H9 le (K0 (G7 he));cases nt with
 |none=>have tr:vs[1]?=some .none:=tr;have fn:=xs.fn;rw[hst]at fn hA;unfold noteFrame;simp only[hL];refine K5 (K4 he dv tr ?_);rw[N4 (by decide)];refine Fv (B:=PySem.W.hideAll s.heap (je (X.env::X.outer)++[a])) hA (PySem.W.funFrames_hide fn λ e he b hb=>C3.mpr (.inl (mem_filterMap.mpr ⟨e,he,hb⟩))) hL he (λ b o z=>w9 _ z) (m8 _ (by simp)) dv (Array.getElem?_eq_some_iff.mp tr).1 λ h' l t'=>?_;rw[<- hst]at l;rw[hc,hd]at t';exact q {s with heap:=h'} a c od H' s.heap.objs.size rfl iY bare (xs.note hst (as:=[a]) (λ b z=>by cases u4.mp z;exact⟨le,na⟩) hL ab l) le na t' ss (xs.bj.fresh (K1 _)) qe
 |some p=>
  obtain⟨T,fl⟩:=p;obtain⟨h1,ne,oT,ts,gT,dT,v3⟩:=tr;obtain⟨MD,nT,V8⟩:=hnt T fl rfl;unfold noteFrame;simp only[hL];refine K5 (K4 he dv h1 ?_);rw[N3 (show(Value.ref T != Value.none)=true from by simp)];refine K5 (K4 gT dT v3 ?_);rcases V8 with rfl|rfl
  ·rw[N4 (show ¬((Value.none==rawInt X.env.locals)=true)from by simp[rawInt])];refine K5 (D5 gT dT (Array.getElem?_eq_some_iff.mp v3).1 ?_);generalize hg:s.heap.update T (Obj.mapFields (·.setIfInBounds 3 Value.none))=g;have kp:∀b o,b≠T->s.heap.get? b=some o->g.get? b=some o:=λ b o y z=>by rw[<- hg,j8 _ _ y.symm];exact z
   have Wo:=xs.lT MD nT gT dT kp;have sz:g.objs.size=s.heap.objs.size:=by rw[<- hg];exact Heap.size_update _ _ _
   have fn:=Wo.fn;rw[hst]at fn hA;refine Fv (s:={s with heap:=g}) (B:=PySem.W.hideAll g (je (X.env::X.outer)++[a])) hA (PySem.W.funFrames_hide fn λ e he b hb=>C3.mpr (.inl (mem_filterMap.mpr ⟨e,he,hb⟩))) hL (kp a oe ne.symm he) (λ b o z=>w9 _ z) (m8 _ (by simp)) dv (Array.getElem?_eq_some_iff.mp h1).1 λ h' l t'=>?_;rw[<- hst]at l;rw[hc,hd]at t';exact q {s with heap:=h'} a c od H' g.objs.size rfl iY bare (Wo.note hst (as:=[a]) (λ b z=>by cases u4.mp z;exact⟨le,na⟩) hL ab l) le na t' (by rw[sz];exact ss) (Wo.bj.fresh (K1 _)) qe
  ·rw[N3 (by simp)];exact K6 (q s a c od H' T rfl iY bare xs le na ⟨oe,vs,he,hc,hd,dv,h1,ne,oT,ts,gT,dT,v3⟩ MD nT qe)
theorem DG{M:Model}{Q:Unit->kt->Prop}{c fl fl':jp}{od:Option ww}{fo:Option ww}(hfo:fl'=fo.elim .none λ f=>rawInt f)(xs:XS X H' s.heap)(le:X.s₀.heap.objs.size<=T)(nT:H' T=none)(t:U6 s.heap a c od (some (T,fl))) (q:∀h',XS X H' h'->U6 h' a c od (some (T,fl'))->Q () {s with heap:=h'}):wpAny M A (setFlight (.ref a) fo) Q Ex s:=by
 obtain⟨oe,vs,he,hc,hd,dv,h1,ne,oT,ts,gT,dT,v3⟩:=t;unfold setFlight;refine K5 (K4 he dv h1 ?_);rw[N3 (show(Value.ref T != Value.none)=true from by simp)];have i3:=(Array.getElem?_eq_some_iff.mp v3).1;refine D5 gT dT i3 (q _ ?_ ?_)
 ·exact xs.lT le nT gT dT λ b o y z=>by rw[j8 _ _ y.symm];exact z
 ·have d3:=v8 dT (·.setIfInBounds 3 (fo.elim .none λ f=>rawInt f));refine⟨oe,vs,by rw[j8 _ _ ne];exact he,hc,hd,dv,h1,ne,_,_,k4 _ gT (l6 d3),d3,?_⟩;rw[hfo];simp[i3]
theorem Ie{E:XK}(hst:X.stack=X.env::X.outer)(hL:X.env.frame=some X.env.locals)(ab:X.s₀.heap.objs.size<=X.env.locals):PassesOwn (model X.prog X.w) X.A X.env (XF X E):=by
 intro e s x;have hA:X.A.frames=some X.stack:=by obtain⟨_,_,_,_,_,_,_,_,xs,_⟩:=x;exact xs.am
 refine za hst hL ab hA x λ s' a c od H' T ea iY bare xs le na t MD nT q=>?_;subst ea;obtain⟨oe,vs,he,hc,hd,dv,h1,ne,oT,ts,gT,dT,v3⟩:=id t;unfold cameBackBy;refine K5 (K4 he dv h1 ?_);rw[N4 (by simp)];show wpAny _ _ (setFlight (.ref a) X.env.frame) _ _ _;rw[hL];refine DG (fl':=rawInt X.env.locals) rfl xs MD nT t λ h' y_ t'=>⟨a,c,od,H',some (T,rawInt X.env.locals),rfl,iY,bare,y_,le,na,t',λ T' fl e=>?_,q⟩;cases e;exact⟨MD,nT,.inr rfl⟩
theorem Nj{E:XK}{e:jp}(hst:X.stack=X.env::X.outer)(hL:X.env.frame=some X.env.locals)(ab:X.s₀.heap.objs.size<=X.env.locals)(hA:A.frames=some X.stack)(x:XF X E e s):wpAny (model X.prog X.w) A (leaving X.env e) (λ _ s'=>qI X.prog X.w X.outer X.H₀ X.s₀ E e s') Ex s:=by unfold leaving;refine K5 (za hst hL ab hA x λ s' a c od H' T ea iY bare xs le na t MD nT q=>?_);subst ea;refine DG (fl':=.none) rfl xs MD nT t λ h' y_ t'=>?_;obtain⟨oe,vs,he,hc,hd,dv,h1,ne,oT,ts,gT,dT,v3⟩:=t';exact⟨a,c,od,T,H',rfl,iY,bare,y_.un,y_.bj,le,MD,na,nT,⟨oe,vs,oT,ts,he,hc,hd,dv,h1,ne,gT,dT,v3⟩,q⟩
theorem Dc{E:XK}(hex:X.ex=[]):jA (X.h_ (XF X E)) E:=by
 intro xz σ H s e C t od J le hx q;obtain⟨ho,_,_⟩:=J.bj e _ hx;have un:=J.base;have Qn:(X.h_ (XF X E)).ex=[]:=hex;rw[Qn]at un;have old:∀b o,X.s₀.heap.get? b=some o->b≠e:=λ b o q z=>absurd (G7 q) (by rw[z];exact Nat.not_lt.mpr le);refine⟨e,.ref C,od,Rv H e,none,rfl,J.os,J.bare,⟨⟨un.keep,un.slot,λ b o q n x=>by rw[fz (old b o q)];exact un.free b o q n x,un.there,λ b xs q=>?_,λ b o u q=>?_,λ b p q=>?_⟩,λ b o q=>?_,J.stack,λ b z=>?_,J.ok.frames⟩,le,kh,⟨_,_,ho,rfl,rfl,rfl,rfl⟩,(λ T fl e=>by cases e),q⟩
 ·have y:=un.gr b xs q;rw[fz (λ z=>by rw[z,hx]at y;cases y)];exact y
 ·have y:=un.gc b o u q;rw[fz (λ z=>by rw[z,hx]at y;cases y)];exact y
 ·obtain⟨mo,y⟩:=un.gH b p q;exact⟨mo,by rw[fz (λ z=>by rw[z,hx]at y;cases y)];exact y⟩
 ·have ne:b≠e:=λ z=>by rw[z,kh]at q;cases q
  rw[fz ne]at q;refine(J.bj b o q).fb (λ d u y z=>z) (λ c z=>?_) λ c xs z=>?_
  ·rw[fz (λ w=>by rw[w,hx]at z;cases z)];exact z
  ·rw[fz (λ w=>by rw[w,hx]at z;cases z)];exact z
 ·by_cases y:b=e
  ·rw[y];exact kh
  ·rw[fz y];exact J.jM b z
theorem Ig{E:XK}(hex:X.ex=[]):Passes (qI X.prog X.w) (X.h_ (XF X E)) E:=by rintro xz σ H s e s' I ⟨a,c,dx,T,H',rfl,iY,bare,un,bj,h1,h2,n1,n2,t,q⟩;have J:=I.rT iY un bj bare λ b z=>absurd z (by simp);have Zg:=J.base;have Qn:(X.h_ (XF X E)).ex=[]:=hex;rw[Qn]at Zg;obtain⟨oe,vs,oT,ts,he,hc,hd,dv,v1,ne,hT,dT,v3⟩:=t;refine⟨a,c,dx,H',some (T,.none),rfl,J.os,J.bare,⟨Zg,J.bj,J.stack,J.jM,J.ok.frames⟩,H9 I.sz h1,n1,⟨oe,vs,he,hc,hd,dv,v1,ne,oT,ts,hT,dT,v3⟩,λ T' fl e=>?_,q⟩;cases e;exact⟨H9 I.sz h2,n2,.inl rfl⟩
end
open PySem.Spec PyProof.Rows
abbrev Na(P:Program)(w:World)(K:N5)(mg:Str->Option jp)(base:Heap)(N:List Str)(qual:Str)(scope:Scope)(f:ww)(cd:jp)(A:Around)(outer:List Env)(s:kt)(H:Hp)(E:XK):Cx:=
 (qx (qI P w) P w K mg base N qual scope f cd A outer s H E).h_ (XF (qx (qI P w) P w K mg base N qual scope f cd A outer s H E) E)
theorem dH.okX {x qual:Str}{st:Stmt}{f:ww}{fd:FuncData}{N ps:List Str}{k:Nat}{sp:Sp}(F:dH K x qual st f fd)(S:aH N ps (ao st))(len:∀vs H Q E,sp vs H Q E->vs.length=ps.length) (gy:∀(bR:jp) (A:Around) (outer:List Env) (s:kt) (H:Hp) (vs:List V) (Q:VK) (E:XK),bJ k (A.deeper (envOfC qual (ao st) s.heap.objs.size f bR))->sp vs H Q E->
   ∃t,rZ (Na P w K mg base N qual (ao st) f bR A outer s H E) (cA st) t/\t {nx:=λ _ H'=>Q .bu H',rt:=Q} (start N vs) H):bo P w K mg base (qI P w) (k+1) f fd ps sp:=by
 obtain⟨oc,od,kV,doc,pm,an,bR,ct,Bz,rfl,lk,hcd⟩:=F.ex;refine MQ lk hcd S len λ A outer s H vs Q E hr Gk=>?_;obtain⟨t,h,q⟩:=gy bR A outer s H vs Q E hr Gk;refine⟨t,λ xz s' σ H' D I ht=>?_,q⟩;exact K9 (h xz s' σ H' D (I.h_ _) ht) (λ _ _ z=>z.eZ) λ e s2 z=>Nj rfl rfl (K1 _) I.ok.frames z
theorem wx{E:XK}:PassesOwn (model P w) (Na P w K mg base N qual scope f cd A outer s H E).A (Na P w K mg base N qual scope f cd A outer s H E).env (Na P w K mg base N qual scope f cd A outer s H E).xe:=Ie rfl rfl (K1 _)
theorem lH{E:XK}:jA (Na P w K mg base N qual scope f cd A outer s H E) E:=Dc rfl
theorem wy{E:XK}:Passes (qI P w) (Na P w K mg base N qual scope f cd A outer s H E) E:=Ig rfl
end L2
namespace L3
open PySem.Spec PyProof.Rows L2
abbrev yT:=ww->List (Str×D)->Mem->Prop
def qF(K:N5)(H:Hp)(ds:List (Str×D))(fs:List (Str×V)):Prop:=Paired (λ(p:Str×D) (q:Str×V)=>p.1=q.1/\bn K H p.2 q.2) ds fs
def Ws(K:N5)(E2:yT):XK:=λ c od H=>∃C dx fs ds M,c=.ref C/\od=some dx/\H dx=some (XD dx fs)/\qF K H ds fs/\ce K H M/\E2 C ds M
def jh(K:N5)(H:Hp)(E2:yT)(E:XK):Prop:=∀C dx fs ds H' M',H' dx=some (XD dx fs)->qF K H' ds fs->ce K H' M'->ax H H'->E2 C ds M'->E (.ref C) (some dx) H'
theorem Un.text{fs ex:List ww}{h:Heap}(u:Un fs ex H H' h h'):ax H H':=⟨u.gr,u.gc⟩
section
variable {E:XK}{E2:yT}
theorem Bf(hs:jA X E)(k:jh X.K X.H₀ E2 E):jA X (Ws X.K E2):=by intro xz σ H s e C t od J le hx ⟨C',dx,fs,ds,M,e1,e2,hd,fr,rm,q⟩;cases e1;subst e2;refine hs xz σ H s e C t (some dx) J le hx (k C dx fs ds _ M hd fr rm ?_ q);have u:=Un.text J.base;exact⟨λ b xs z=>by have y:=u.tup b xs z;rw[fz (λ w=>by rw[w,hx]at y;cases y)];exact y,λ b o v z=>by have y:=u.ia b o v z;rw[fz (λ w=>by rw[w,hx]at y;cases y)];exact y⟩
theorem Bx(hp:Passes (qI X.prog X.w) X E)(k:jh X.K X.H₀ E2 E):Passes (qI X.prog X.w) X (Ws X.K E2):=by rintro xz σ H s e s' I ⟨a,c,od,T,H',rfl,iY,bare,un,bj,h1,h2,n1,n2,t,C',dx,fs,ds,M,rfl,rfl,hd,fr,rm,q⟩;exact hp xz σ H s _ s' I ⟨a,_,_,T,H',rfl,iY,bare,un,bj,h1,h2,n1,n2,t,k C' dx fs ds H' M hd fr rm ((Un.text I.base).trans (Un.text un)) q⟩
end
def Cj{α:Type}(ns:List Str)(us:List α):List (Str×α):=(ns.zip us).reverse
theorem GK:∀(ns:List Str) {ds:List D} {us:List V},aG K H ds us->qF K H (Cj ns ds) (Cj ns us):=by
 have app:∀{a b:List (Str×D)} {c d:List (Str×V)},qF K H a c->qF K H b d->qF K H (a++b) (c++d):=by
  intro a b c d h1 h2
  induction h1 with
  |nil=>exact h2
  |cons p _ ih=>exact .cons p ih
 intro ns
 induction ns with
 |nil=>intro ds us _;exact .nil
 |cons n ns ih=>
  intro ds us h;cases ds with
  |nil=>cases(av.mp h);exact .nil
  |cons d ds=>obtain⟨u,r,rfl,hu,hr⟩:=ah.mp h;unfold Cj;rw[zip_cons_cons,zip_cons_cons,reverse_cons,reverse_cons];exact app (ih hr) (.cons ⟨rfl,hu⟩ .nil)
def R8(C:ww)(ns:List Str):Sp:=λ vs H Q _=>∃e t us,vs=.ref e::us/\us.length=ns.length/\H e=some (XO e C none t)/\∀t' dx,H dx=none->dx≠e->Q .bu (dl (dl H e (XO e C (some dx) t')) dx (XD dx (Cj ns us)))
theorem LF{e:ww}{a b:HO}(h:H e=none)(ne:dx≠e):Rv (dl (dl H e a) dx b) e=dl H dx b:=by
 funext c;by_cases z:c=e
 ·rw[z,kh,aB ne.symm,h]
 ·rw[fz z];by_cases y:c=dx
  ·rw[y,aV,aV]
  ·rw[aB y,aB y,aB z]
section
variable {E:XK}{E2:yT}{fI:ww}{ns:List Str}{np:Pos}{a:Expr}
def xN(C:ww)(ns:List Str)(E2:yT)(t:gg):iK:=λ _ δ M=>t δ M λ ds M1=>ds.length=ns.length/\ns.length<=900/\E2 C (Cj ns ds) M1
theorem Es(hs:jA X E)(kx:jh X.K X.H₀ E2 E)(hc:X.calm=true)(hg:Gl X x)(hm:X.mg x=some (.ref C))(ec:yX X.K C fI)(F:bo X.prog X.w X.K X.mg X.base dJ k fI fd ps (R8 C ns))(hr:bJ (k+1) X.A)(hb:Binds X.K fd ps []) (ha:QA X (a::as) t) (hdb:(x==("__debug__":Str))=false:=by decide) (he:starEach (a::as) X.env=(false,eval a X.env)::starEach as X.env:=by rfl) (hpl:(backTo ck (starEach as X.env)).any (·.1)=false:=by rfl):QS X (.Raise (some (.Call (.Name x np) (a::as) [] ck)) none pos) (xN C ns E2 t):=
 ix (EE (Bf hs kx) hc hg hm ec F hr hb ha hdb he hpl) λ D σ H ⟨δ,M,D2,hs,hm,q,kk⟩=>by
  refine⟨δ,M,_,hs,hm,q,λ vs H1 ds M1 hd bU t1 ⟨hl,mI,q1⟩=>⟨by rw[hd.length,hl];omega,λ e t0 fe=>?_⟩⟩;refine⟨e,t0,vs,rfl,by rw[hd.length,hl],aV,λ t' dx ZT ne=>⟨rfl,some dx,t',?_,?_⟩⟩
  ·rw[aB ne.symm,jK,aV]
  ·have ZS:H1 dx=none:=by rw[aB ne]at ZT;exact ZT
   rw[jK,LF fe ne];exact⟨C,dx,_,_,M1,rfl,rfl,aV,GK ns (aG.mono (ax.laid ZS) _ hd),bU.laid ZS,q1⟩
end
end L3
variable {E2:L3.yT}
namespace L2
open PySem.Spec PyProof.Rows
theorem qV:∀(cs:List ww) {ay:List jp},cr (cs.map V.ref) ay->ay=cs.map Value.ref
 |[],_,rv=>by cases rv;rfl
 |c::cs,_,rv=>by obtain⟨w,ws,rfl,sS,r4⟩:=gp rv;obtain rfl:w=Value.ref c:=sS;rw[qV cs r4];rfl
def WJ(C:ww):TE:=λ _ H Q=>Q (.ref C) H
theorem f'(hg:Gl X x)(hm:X.mg x=some (.ref C))(hdb:(x==("__debug__":Str))=false:=by decide):PE X (.Name x pos) (WJ C):=λ xz s σ H Q I h=>fQ I hg hm ⟨.ref C,H,I,rfl,h⟩ hdb
theorem lL:cL X (.builtin "isinstance") (λ xs H Q=>∃(a C dx:ww) (fs:List (Str×V)) (c:ww) (b:Bool),xs=[.ref a,.ref c]/\H a=some (XT a C (some dx))/\H dx=some (XD dx fs)/\uE X.K C/\PySem.W.kitOne X.K (.ref C) (.ref c)=some b/\Q (.bl b) H):=by intro xz s σ H xs us Q I r ⟨a,C,dx,fs,c,b,e,h1,h2,ei,k,q⟩;subst e;obtain⟨u,Vi,rfl,ru,r2⟩:=gp r;obtain⟨u2,rfl,r3⟩:=vals1 r2;obtain rfl:u=Value.ref a:=ru;obtain rfl:u2=Value.ref c:=r3;exact Ab I h1 h2 ei k λ tk=>⟨.bl b,H,I.tok tk,rfl,q⟩
theorem yR:cL X (.builtin "isinstance") (λ xs H Q=>∃(a C dx:ww) (fs:List (Str×V)) (tp:ww) (cs:List ww) (b:Bool),xs=[.ref a,.ref tp]/\H a=some (XT a C (some dx))/\H dx=some (XD dx fs)/\uE X.K C/\H tp=some (.tup (cs.map V.ref))/\PySem.W.kitAny X.K (.ref C) (cs.map Value.ref)=some b/\Q (.bl b) H):=by intro xz s σ H xs us Q I r ⟨a,C,dx,fs,tp,cs,b,e,h1,h2,ei,ht,k,q⟩;subst e;obtain⟨u,Vi,rfl,ru,r2⟩:=gp r;obtain⟨u2,rfl,r3⟩:=vals1 r2;obtain rfl:u=Value.ref a:=ru;obtain rfl:u2=Value.ref tp:=r3;obtain⟨_,ay,rv,o,ho,hc,hd⟩:=I.bj tp _ ht;have ei2:ay=cs.map Value.ref:=qV cs rv;subst ei2;obtain⟨n,hd⟩:=hd;obtain⟨oc,od,da,sl⟩:=o;dsimp only at hc hd;subst hc hd;exact F' I h1 h2 ei ho k λ tk=>⟨.bl b,H,I.tok tk,rfl,q⟩
end L2
namespace L3
open PySem.Spec PyProof.Rows L2
abbrev xh:=List D->Mem->bH->yT->Prop
def lR(K:N5)(sp:xh):Sp:=λ vs H Q E=>∃ds M Q2 E2,aG K H ds vs/\ce K H M/\sp ds M Q2 E2/\i_ K H Q2 Q/\jh K H E2 E
structure jD(P:Program)(w:World)(K:N5)(mg:Str->Option jp)(base:Heap)(k:Nat)(x:Str)(ps:List Str)(sp:xh):Prop where
 ex:∃(f:ww) (fd:FuncData),bo P w K mg base (qI P w) k f fd ps (lR K sp)/\mg x=some (.ref f)/\PySem.W.keepIn K (.ref f)=true/\Binds K fd ps []
theorem Xk{x qual:Str}{st:Stmt}{f:ww}{fd:FuncData}{N ps:List Str}{k:Nat}{sp:xh}(F:dH K x qual st f fd)(S:aH N ps (ao st))(len:∀ds M Q E,sp ds M Q E->ds.length=ps.length) (gy:∀(bR:jp) (A:Around) (outer:List Env) (s:kt) (H:Hp) (E:XK) (ds:List D) (M:Mem) (Q:bH) (E2:yT),bJ k (A.deeper (PyProof.Rows.envOfC qual (ao st) s.heap.objs.size f bR))->sp ds M Q E2->jh K H E2 E->
   ∃t,Hz (Na P w K mg base N qual (ao st) f bR A outer s H E) (cA st) t/\t {nx:=λ _ M'=>fin2 Q .bu M',rt:=fin2 Q} (gJ N ds) M):bo P w K mg base (qI P w) (k+1) f fd ps (lR K sp):=by
 refine F.okX S (λ vs H Q E h=>?_) (λ bR A outer s H vs Q E hr h=>?_)
 ·obtain⟨ds,M,Q2,E2,hd,_,hs,_⟩:=h;rw[hd.length];exact len ds M Q2 E2 hs
 ·obtain⟨ds,M,Q2,E2,hd,hm,hs,kk,kx⟩:=h;obtain⟨t,ht,q⟩:=gy bR A outer s H E ds M Q2 E2 hr hs kx;refine⟨_,ht,gJ N ds,M,_,qT hd,hm,q,⟨?_,?_,?_,?_⟩⟩
  ·exact λ σ' H' δ' M' _ eV t' ⟨CW,s,q⟩=>kk _ H' .bu CW (eo.mpr rfl) (eV.sub s) t' q
  ·exact λ v H' d M' jc eV t' ⟨CW,s,q⟩=>kk v H' d CW jc (eV.sub s) t' q
  ·exact λ σ' H' δ' M' _ eV t' q=>q
  ·exact λ σ' H' δ' M' _ eV t' q=>q
section
variable {E:XK}{sp:xh}{p:Pos}
theorem Ds:jh K H E2 (Ws K E2):=λ C dx fs ds H' M' a b c _ q=>⟨C,dx,fs,ds,M',rfl,rfl,a,b,c,q⟩
def VP(sp:xh)(E2:yT)(t:gg):cb:=λ δ M Q=>t δ M λ ds M1=>sp ds M1 Q E2
theorem OU(hp:Passes (qI X.prog X.w) X E)(kx:jh X.K X.H₀ E2 E)(d:jD X.prog X.w X.K X.mg X.base k x ps sp)(hr:bJ k X.A)(hg:Gl X x)(ha:QA X (e::es) t)(hdb:(x==("__debug__":Str))=false:=by decide) (he:starEach (e::es) X.env=(false,eval e X.env)::starEach es X.env:=by rfl) (hpl:(backTo pos (starEach es X.env)).any (·.1)=false:=by rfl):QE X (.Call (.Name x p) (e::es) [] pos) (VP sp E2 t):=by obtain⟨f,fd,F,hm,kp,b⟩:=d.ex;refine bQ (zJ F hr hg hm kp b (dvs:=[]) .nil (Bx hp kx) ha hdb he hpl) λ σ H Q ⟨δ,M,Q2,hs,hm,q,kk⟩=>?_;refine⟨δ,M,_,hs,hm,q,λ vs H1 ds M1 hd bU t1 q1=>?_⟩;show lR X.K sp (vs++[]) H1 Q _;rw[B2];exact⟨ds,M1,Q2,E2,hd,bU,q1,kk.mono t1,Ds⟩
end
open PySem.Spec PyProof.Rows L2
theorem bX.unset{σ:L2.St}(h:bX K H δ σ):bX K H (δ.set i none) (σ.set i o):=by
 refine⟨by rw[C7,C7];exact h.len,λ j e hj=>?_⟩;by_cases rE:i=j
 ·subst rE;have hi:i < δ.length:=by have:=(i5.mp hj).1;simpa using this
  rw[j9 hi]at hj;cases hj
 ·rw[m7 rE]at hj;obtain⟨u,q,w⟩:=h.get j e hj;exact⟨u,by rw[m7 rE];exact q,w⟩
def eE.but (D:eE)(i:Nat):eE:={nx:=λ δ M=>D.nx (δ.set i none) M,rt:=D.rt,bk:=λ δ M=>D.bk (δ.set i none) M,ct:=λ δ M=>D.ct (δ.set i none) M}
theorem qF.mono(t:ax H H'){ds:List (Str×D)}{fs:List (Str×V)}(h:qF K H ds fs):qF K H' ds fs:=by
 induction h with
 |nil=>exact .nil
 |cons p _ ih=>exact .cons ⟨p.1,bn.mono t _ p.2⟩ ih
def AL(X:Cx)(i:Nat)(Rh:List Stmt)(h2:ww->List (Str×D)->iK):Prop:=∃th:ww->TS,(∀a,rZ (X.Le a) Rh (th a))/\
 ∀(a C dx:ww) (fs:List (Str×V)) (ds:List (Str×D)) (D:Ends) (D2:eE) (σ:L2.St) (H:Hp) (δ:dm) (M:Mem),σ[i]?=some (some (.ref a))->H a=some (XT a C (some dx))->H dx=some (XD dx fs)->qF X.K H ds fs->bX X.K H δ σ->ce X.K H M->h2 C ds D2 δ M->wY X.K H D2 D->th a D σ H
end L3
namespace L4
open PySem.Spec L2 L3
theorem i'(h:WE X.zP e te):WE X e te:=⟨PE.zP h.h⟩
theorem xq(h:WT X.zP e tt):WT X e tt:=⟨PT.zP h.h⟩
structure AN(P:Program)(w:World)(K:N5)(mg:Str->Option jp)(base:Heap)(k:Nat)(x:Str)(C:ww)(ns:List Str):Prop where
 nm:mg x=some (.ref C)
 ex:∃(fI:ww) (fd:FuncData) (ps:List Str),yX K C fI/\bo P w K mg base dJ k fI fd ps (R8 C ns)/\Binds K fd ps []
section
variable {E:XK}{ns:List Str}{p np:Pos}{a:Expr}{sp:xh}
theorem nL(hs:jA X E)(kx:jh X.K X.H₀ E2 E)(hc:X.calm=true)(hg:Gl X x)(er:AN X.prog X.w X.K X.mg X.base k x C ns)(hr:bJ (k+1) X.A)(ha:WA X (a::as) t)(hdb:(x==("__debug__":Str))=false:=by decide) (he:starEach (a::as) X.env=(false,eval a X.env)::starEach as X.env:=by rfl) (hpl:(backTo ck (starEach as X.env)).any (·.1)=false:=by rfl):WS X (.Raise (some (.Call (.Name x np) (a::as) [] ck)) none pos) (xN C ns E2 t):=by obtain⟨fI,fd,ps,ec,F,b⟩:=er.ex;exact⟨Es hs kx hc hg er.nm ec F hr b ha.h hdb he hpl⟩
theorem xu(hp:Passes (qI X.prog X.w) X E)(kx:jh X.K X.H₀ E2 E)(d:jD X.prog X.w X.K X.mg X.base k x ps sp)(hr:bJ k X.A)(hg:Gl X x)(ha:WA X (e::es) t)(hdb:(x==("__debug__":Str))=false:=by decide) (he:starEach (e::es) X.env=(false,eval e X.env)::starEach es X.env:=by rfl) (hpl:(backTo pos (starEach es X.env)).any (·.1)=false:=by rfl):WE X (.Call (.Name x p) (e::es) [] pos) (VP sp E2 t):=⟨OU hp kx d hr hg ha.h hdb he hpl⟩
end
theorem Xj{P:Program}{w:World}{K:N5}{mg:Str->Option jp}{base:Heap}{x qual:Str}{st:Stmt}{f:ww}{fd:FuncData}{N ps:List Str}{k:Nat}{sp:xh}(F:dH K x qual st f fd)(S:aH N ps (ao st))(len:∀ds M Q E,sp ds M Q E->ds.length=ps.length) (gy:∀(bR:jp) (A:Around) (outer:List Env) (s:kt) (H:Hp) (E:XK) (ds:List D) (M:Mem) (Q:bH) (E2:yT),bJ k (A.deeper (PyProof.Rows.envOfC qual (ao st) s.heap.objs.size f bR))->sp ds M Q E2->jh K H E2 E->
   ∃t,HX (Na P w K mg base N qual (ao st) f bR A outer s H E) (cA st) t/\t {nx:=λ _ M'=>fin2 Q .bu M',rt:=fin2 Q} (gJ N ds) M):bo P w K mg base (qI P w) (k+1) f fd ps (lR K sp):=
 L3.Xk F S len λ bR A outer s H E ds M Q E2 hr h kx=>by obtain⟨t,ht,q⟩:=gy bR A outer s H E ds M Q E2 hr h kx;exact⟨t,ht.h,q⟩
theorem oz{ns:List Str}{D:eE}(h:t δ M λ ds M1=>ds.length=ns.length/\ns.length<=900/\E2 C (Cj ns ds) M1):xN C ns E2 t D δ M:=h
theorem Sk{sp:xh}{Q:bH}(h:t δ M λ ds M1=>sp ds M1 Q E2):VP sp E2 t δ M Q:=h
open L2 L3
def P':Option (Option jp)->Bool
 |some none=>true|_=>false
theorem La:∀{o:Option (Option jp)},P' o=true->o=some none
 |some none,_=>rfl
 |some (some _),h=>by cases h
 |none,h=>by cases h
structure jE(K:N5)(mg:Str->Option jp)(x q:Str)(st:Stmt)(C fI:ww)(ps ns:List Str):Prop where
 m:mg x=some (.ref C)
 F:∃fd,dH K "__init__" q st fI fd
 ec:yX K C fI
 ei:uE K C
 cat:qi K C
 no:(ns.all λ f=>P' (PySem.W.findIn K (.ref C) f))=true
section
variable {q:Str}{fI:ww}{ns:List Str}
theorem jE.VV(c:jE K mg x q st C fI ps ns){f:Str}(h:f∈ns):PySem.W.findIn K (.ref C) f=some none:=La (B0.mp c.no f h)
theorem jE.eg(c:jE K mg x q st C fI ps ns){f:Str}(h:f∈ns):Rb K C f:=⟨c.ei.ga,c.ei.gt,c.VV h,c.ei.ba,c.ei.hd⟩
end
theorem jD.of{sp:xh}(F:dH K x qual st f fd)(G:bo P w K mg base (qI P w) k f fd ps (lR K sp))(hm:mg x=some (.ref f))(b:Binds K fd ps []):jD P w K mg base k x ps sp:=⟨f,fd,G,hm,F.kp,b⟩
theorem Zp{A:Type}{P:List A->Prop}(h:∀a t,t.length=n->P (a::t)):∀us:List A,us.length=n+1->P us
 |[],e=>nomatch e
 |a::t,e=>h a t (Nat.succ.inj e)
theorem Zq{A:Type}{P:List A->Prop}(h:∀a,P [a]):∀us:List A,us.length=1->P us:=Zp λ a t e=>by rw[eq_nil_of_length_eq_zero e];exact h a
theorem ln2{A:Type}{P:List A->Prop}(h:∀a b,P [a,b]):∀us:List A,us.length=2->P us:=Zp λ a=>Zq (P:=λ t=>P (a::t)) (h a)
theorem Wr{us:List V}{n:Str}(h:us.length=[n].length):∃u,us=[u]:=Zq (P:=λ us=>∃u,us=[u]) (λ a=>⟨a,rfl⟩) us h
end L4
namespace L3
open PySem.Spec PyProof.Rows L2
def gI:List jp->Option (List Str)
 |[]=>some []
 | .str x _::r=>(gI r).map (x::·)
 |_::_=>none
theorem nW:∀{us:List jp} {zs:List Str},gI us=some zs->cr (zs.map V.str) us
 |[],zs,h=>by cases h;exact .nil
 |u::us,zs,h=>by
  cases u with
  |str x t=>
   unfold gI at h;cases q:gI us with
   |none=>rw[q]at h;cases h
   |some ys=>rw[q]at h;cases h;exact .cons ⟨t,rfl⟩ (nW q)
  |_=>exact absurd h (by unfold gI;intro z;cases z)
theorem km:∀zs:List Str,aG K H (zs.map D.str) (zs.map V.str)
 |[]=>by simp[av]
 |z::zs=>by rw[F9,F9,ah];exact⟨_,_,rfl,aI.mpr rfl,km zs⟩
theorem GD{d:Option ww}{ay:Array jp}(h:mg x=some (.ref a))(l:K.lookup a=some ⟨.type "tuple",d,.seq ay n,sl⟩)(v:gI ay.toList=some zs)(z:ay.size<=sizeLine):jg K mg x (.tup (zs.map D.str)):=
 ⟨.ref a,.ref a,h,rfl,λ H=>aW.mpr ⟨a,zs.map V.str,rfl,.inr ⟨_,ay,n,l,rfl,rfl,z,nW v⟩,km zs⟩⟩
end L3
namespace L4
open L2 L3
section
variable {sp:xh}{p:Pos}
def X0:yT:=λ _ _ _=>False
theorem sy(d:jD X.prog X.w X.K X.mg X.base k x ps sp)(hr:bJ k X.A)(hg:Gl X x)(ha:WA X (e::es) t)(hdb:(x==("__debug__":Str))=false:=by decide) (he:starEach (e::es) X.env=(false,eval e X.env)::starEach es X.env:=by rfl) (hpl:(backTo pos (starEach es X.env)).any (·.1)=false:=by rfl):WE X (.Call (.Name x p) (e::es) [] pos) (VP sp X0 t):=
 xu (E:=λ _ _ _=>False) (λ xz σ H s e s2 I ⟨_,_,_,_,_,_,_,_,_,_,_,_,_,_,_,z⟩=>z.elim) (λ _ _ _ _ _ _ _ _ _ _ z=>z) d hr hg ha hdb he hpl
end
end L4
namespace KK
open L3 L4 L5
open L2 hiding bw qo
theorem pG{c:ww}(h:bi M M')(F:Flow M f c):Fl f c M M':=by obtain⟨ns,p,b,sd,ct,h1,h2,h3⟩:=F;exact⟨⟨ns,p,b,sd,ct,h _ _ h1,h _ _ h2,h3⟩,λ b o _ e=>h b o e⟩
theorem bi.rfl:bi M M:=λ _ _ e=>e
open L3 L4 L5
open L2 hiding bw qo
theorem Ea{Q:bH}(h:M p=some (.lst ds))(q:∀p,M p=none->Q (.ref p) (ai M p (.lst ds))):dList [.ref p] M Q:=by show(match cE M (.ref p)with|some ds=>∀p,M p=none->Q (.ref p) (ai M p (.lst ds))|none=>False);rw[fg h];exact q
theorem zS{β:Type}(f:α->β):∀(l:List α) (j:Nat),(l.map f).eraseIdx j=(l.eraseIdx j).map f
 |[],_=>rfl
 |a::l,0=>rfl
 |a::l,j+1=>by show f a::(l.map f).eraseIdx j=f a::(l.eraseIdx j).map f;rw[zS f l j]
theorem vi:∀{l:List α} {j:Nat} (h:j < l.length),([l[j]]++l.eraseIdx j).Perm l
 |a::l,0,_=>.refl _
 |a::l,j+1,h=>by have:=vi (l:=l) (j:=j) (by simpa using h);show(l[j]'(by simpa using h)::a::l.eraseIdx j).Perm (a::l);exact(List.Perm.swap _ _ _).trans (this.cons a)
end KK
namespace L2
open PySem.Spec PySem.W PySem.Calls PyProof.Rows
section
open Builtin Builtin.Str in
theorem Bg{y:Str}{t u:Tok}(hy:(y.length==0)=false)(hsz:x.length+2<=sizeLine) (h:∀(l:List (Str×Tok)) (k:Nat),l.map (·.1)=Txt.split x y->Q (.ref s.heap.objs.size) {s with heap:=s.heap.push {cls:=.type "list",data:=.seq (strValues l).toArray},toks:=k}):wpAny (model prog w) A (call (.builtin "str.split") [.str x t,.str y u]) Q E s:=by
 have hn:(partsBetween x (occurrences x y 0 x.length (x.length+1)) y.length).length<=sizeLine:=by have e1:=StrLaws.occ_length_le x y 0 x.length (x.length+1);rw[length_partsBetween];omega
 cases h1:(decide (x.length < y.length)||decide (strKind x < strKind y))
 ·cases hf:(occurrences x y 0 x.length (x.length+1)).isEmpty
  ·refine K8 F.slot_str_split (typeIs_str _ _ _) F.entry_str_split (F.args_str_split_2 _ _) (meets_str_split_sep x y t u h1 hy hf (by omega) hn) ?_;show wants Q E _ {s with toks:=_,heap:=s.heap.push {cls:=.type "list",data:=.seq (strsFrom s.toks (partsBetween x (occurrences x y 0 x.length (x.length+1)) y.length)).toArray}};rw[strsFrom_eq];exact h (numbered s.toks _) _ ((numbered_texts _ _).trans ((N4 (ne_true_of_eq_false h1)).trans (N4 (ne_true_of_eq_false hf))).symm)
  ·exact K8 F.slot_str_split (typeIs_str _ _ _) F.entry_str_split (F.args_str_split_2 _ _) (meets_str_split_not_found x y t u h1 hy hf)
    (h [(x,t)] s.toks ((N4 (ne_true_of_eq_false h1)).trans (N3 hf)).symm)
 ·exact K8 F.slot_str_split (typeIs_str _ _ _) F.entry_str_split (F.args_str_split_2 _ _) (meets_str_split_cannot_occur x y t u h1)
   (h [(x,t)] s.toks (N3 h1).symm)
theorem qL:∀(l:List (Str×Tok)),cr ((l.map (·.1)).map V.str) (strValues l)
 |[]=>.nil
 |p::l=>.cons ⟨p.2,rfl⟩ (qL l)
end
def OA:V->List V->Hp->VK->Prop:=λ x vs H Q=>∃z y,x=.str z/\vs=[.str y]/\y.length≠0/\z.length<=100000/\(Txt.split z y).length<=sizeLine/\∀p,H p=none->Q (.ref p) (dl H p (.lst ((Txt.split z y).map V.str)))
theorem FC:RB X "str.split" OA:=by intro xz s σ H x xs v us Q I rx r h;obtain⟨z,y,rfl,rfl,hy,hz,hl,q⟩:=h;obtain⟨t,rfl⟩:=rx;obtain⟨u,rfl,r1⟩:=cr.one r;obtain⟨t',rfl⟩:=r1;refine Bg (by simpa using hy) (by rw[K2];omega) λ l k e=>?_;refine⟨.ref s.heap.objs.size,_,I.laid (t':=k) (λ b o e=>j7 _ e) (K1 _) (show bD X.prog X.w _ _ _ (.lst ((Txt.split z y).map V.str))from⟨by rw[C2];exact hl,strValues l,0,by rw[<- e];exact qL l,n9 _ rfl⟩),rfl,q _ (I.bj.fresh (K1 _))⟩
def Sz:V->List V->Hp->VK->Prop:=λ x vs H Q=>∃z y,x=.str z/\vs=[.str y]/\Q (.int (Txt.find z y)) H
theorem KA:RB X "str.find" Sz:=by intro xz s σ H x xs v us Q I rx r h;obtain⟨z,y,rfl,rfl,q⟩:=h;obtain⟨t,rfl⟩:=rx;obtain⟨u,rfl,r1⟩:=cr.one r;obtain⟨t',rfl⟩:=r1;exact SC.find ⟨.int (Txt.find z y),H,I.tok _,⟨_,rfl⟩,q⟩
theorem CB:cL X (.type "str") (λ xs H Q=>∃i:Int,xs=[.int i]/\i.natAbs.log2 < 1920/\Q (.str (Str.ofString (toString i))) H):=by intro xz s σ H xs us Q I r ⟨i,e,hi,q⟩;subst e;obtain⟨u,rfl,t,rfl⟩:=vals1 r;exact PySem.P.str_of_int hi ⟨.str (Str.ofString (toString i)),H,I.tok _,⟨_,rfl⟩,q⟩
theorem CF:cL X (.type "int") (λ xs H Q=>∃(z:Str) (n:Int),xs=[.str z]/\PySem.intText? z=some n/\z.length<=640/\Q (.int n) H):=by intro xz s σ H xs us Q I r ⟨z,n,e,hn,hl,q⟩;subst e;obtain⟨u,rfl,t,rfl⟩:=vals1 r;exact KIN.call_text hn hl ⟨.int n,H,I.tok _,⟨_,rfl⟩,q⟩
section
variable {a b c:Expr}{ta tb tc:TE}{p1 p3:Pos}
def RW(ta tc tb:TE):TE:=λ σ H Q=>ta σ H λ x H1=>∃i:Int,x=.int i/\i.natAbs.log2 < 1920/\(Str.ofString (toString i)).length<=10000/\tc σ H1 λ y H2=>∃z:Str,y=.str z/\z.length<=10000/\tb σ H2 λ u H3=>∃v:Str,u=.str v/\v.length<=10000/\Q (.str (Str.empty++Str.ofString (toString i)++z++v)) H3
theorem J_(ha:PE X a ta)(hc:PE X c tc)(hb:PE X b tb):PE X (.JoinedStr [.FormattedValue a (-1) none p1,c,.FormattedValue b (-1) none p3] pos) (RW ta tc tb):=by
 intro xz s σ H Q I h;have la:∀x y:Str,(x++y).length=x.length+y.length:=λ x y=>strLen_append x y;have le:Str.empty.length=0:=by decide
 refine JoinedStr_many (joinParts_cons (FormattedValue_plain (cm (ha xz s σ H _ I h) λ u s1 ⟨x,H1,I1,r1,i,e,hi,l1,q1⟩=>?_)));subst e;obtain⟨t,rfl⟩:=r1;refine formatField_int_small hi ⟨?_,?_⟩
 ·show(Str.empty++Str.ofString (toString i)).length<=sizeLine;rw[la,le,K2];omega
 have I1:=I1.tok (s1.toks+1+1);refine joinParts_cons (cm (hc xz _ σ H1 _ I1 q1) λ u s2 ⟨y,H2,I2,r2,z,e,l2,q2⟩=>?_);subst e;obtain⟨t2,rfl⟩:=r2;refine⟨?_,?_⟩
 ·show(Str.empty++Str.ofString (toString i)++z).length<=sizeLine;rw[la,la,le,K2];omega
 refine joinParts_cons (FormattedValue_plain (cm (hb xz s2 σ H2 _ I2 q2) λ u s3 ⟨w,H3,I3,r3,v,e,l3,q3⟩=>?_));subst e;obtain⟨t3,rfl⟩:=r3;refine formatField_str (λ t' tk=>⟨?_,?_⟩) (by rw[K2];omega)
 ·show(Str.empty++Str.ofString (toString i)++z++v).length<=sizeLine;rw[la,la,la,le,K2];omega
 refine joinParts_nil ?_ (by show(Str.empty++Str.ofString (toString i)++z++v).length<=sizeLine;rw[la,la,la,le,K2];omega);exact⟨.str (Str.empty++Str.ofString (toString i)++z++v),H3,(I3.tok tk).tok _,⟨_,rfl⟩,q3⟩
end
end L2
namespace L3
open PySem.Spec PyProof.Rows L2 L5
section
def QK:D->List D->Mem->bH->Prop:=λ x ds M Q=>∃z y,x=.str z/\ds=[.str y]/\y.length≠0/\z.length<=100000/\(Txt.split z y).length<=sizeLine/\∀p,M p=none->Q (.ref p) (ai M p (.lst ((Txt.split z y).map D.str)))
theorem pK:∀(zs:List Str),aG K H (zs.map D.str) (zs.map V.str)
 |[]=>av.mpr rfl
 |z::zs=>ah.mpr ⟨_,_,rfl,aI.mpr rfl,pK zs⟩
theorem m_split:HZ X "str.split" QK:=⟨_,FC,λ x xs d ds H M Q2 Q hx hd hm q k=>by
 obtain⟨z,y,rfl,rfl,hy,hz,hl,q⟩:=q;obtain⟨v,r,rfl,hv,hr⟩:=ah.mp hd;cases(av.mp hr);refine⟨z,y,aI.mp hx,by rw[aI.mp hv],hy,hz,hl,λ p hp=>?_⟩;exact k _ _ (.ref p) _ (aP.mpr rfl) (de hp (pK _) hm) (ax.laid hp) (q p (hm.free hp))⟩
def UR:D->List D->Mem->bH->Prop:=λ x ds M Q=>∃z y,x=.str z/\ds=[.str y]/\Q (.int (Txt.find z y)) M
theorem m_find:HZ X "str.find" UR:=⟨_,KA,λ x xs d ds H M Q2 Q hx hd hm q k=>by
 obtain⟨z,y,rfl,rfl,q⟩:=q;obtain⟨v,r,rfl,hv,hr⟩:=ah.mp hd;cases(av.mp hr);exact⟨z,y,aI.mp hx,by rw[aI.mp hv],k _ H _ M (aw.mpr rfl) hm (ax.refl H) q⟩⟩
def UI:List D->Mem->bH->Prop:=λ xs M Q=>∃i:Int,xs=[.int i]/\i.natAbs.log2 < 1920/\Q (.str (Str.ofString (toString i))) M
theorem Q0:cZ X (.type "str") UI:=⟨_,CB,λ xs ds H M Q2 Q hd hm q k=>by
 obtain⟨i,rfl,hi,q⟩:=q;obtain⟨v,r,rfl,hv,hr⟩:=ah.mp hd;cases(av.mp hr);cases(aw.mp hv);exact⟨i,rfl,hi,k _ H _ M (aI.mpr rfl) hm (ax.refl H) q⟩⟩
def UO:List D->Mem->bH->Prop:=λ xs M Q=>∃(z:Str) (n:Int),xs=[.str z]/\PySem.intText? z=some n/\z.length<=640/\Q (.int n) M
theorem pY:cZ X (.type "int") UO:=⟨_,CF,λ xs ds H M Q2 Q hd hm q k=>by
 obtain⟨z,n,rfl,hn,hl,q⟩:=q;obtain⟨v,r,rfl,hv,hr⟩:=ah.mp hd;cases(av.mp hr);exact⟨z,n,by rw[aI.mp hv],hn,hl,k _ H _ M (aw.mpr rfl) hm (ax.refl H) q⟩⟩
variable {a b c:Expr}{ta tb:cb}{p1 p3:Pos}
def DP(ta tc tb:cb):cb:=λ δ M Q=>ta δ M λ x M1=>∃i:Int,x=.int i/\i.natAbs.log2 < 1920/\(Str.ofString (toString i)).length<=10000/\tc δ M1 λ y M2=>∃z:Str,y=.str z/\z.length<=10000/\tb δ M2 λ u M3=>∃v:Str,u=.str v/\v.length<=10000/\Q (.str (Str.empty++Str.ofString (toString i)++z++v)) M3
theorem OS(ha:QE X a ta)(hc:QE X c tc)(hb:QE X b tb):QE X (.JoinedStr [.FormattedValue a (-1) none p1,c,.FormattedValue b (-1) none p3] pos) (DP ta tc tb):=by refine bQ (J_ ha hc hb) ?_;rintro σ H Q ⟨δ,M,Q2,hs,hm,q,k⟩;refine⟨δ,M,_,hs,hm,q,λ x H1 d M1 hd bU t1 ⟨i,e,hi,l1,q1⟩=>?_⟩;subst e;refine⟨i,aw.mp hd,hi,l1,δ,M1,_,hs.mono t1,bU,q1,λ y H2 d2 M2 hd2 lA t2 ⟨z,e,l2,q2⟩=>?_⟩;subst e;refine⟨z,aI.mp hd2,l2,δ,M2,_,(hs.mono t1).mono t2,lA,q2,λ u H3 d3 M3 HR vV t3 ⟨v,e,l3,q3⟩=>?_⟩;subst e;exact⟨v,aI.mp HR,l3,k _ _ _ _ (aI.mpr rfl) vV (t1.trans (t2.trans t3)) q3⟩
end
end L3
namespace L4
open L2 L3
theorem Nn{a b c:Expr}{ta tb:cb}{p1 p3:Pos}(ha:WE X a ta)(hc:WE X c tc)(hb:WE X b tb):WE X (.JoinedStr [.FormattedValue a (-1) none p1,c,.FormattedValue b (-1) none p3] pos) (DP ta tc tb):=⟨OS ha.h hc.h hb.h⟩
end L4
namespace L2
open PySem.Spec PyProof.Rows
def Sy(K:N5):V->V->Hp->VK->Prop:=λ x y H Q=>∃p xs i v,x=.ref p/\y=.int i/\dr K H p xs/\0<=i/\xs[i.toNat]?=some v/\Q v H
theorem GF:U' X (Sy X.K):=by intro xz s σ H x y v u Q I rx ry h;obtain⟨p,xs,i,z,rfl,rfl,hq,h0,he,q⟩:=h;cases rx;obtain⟨t,rfl⟩:=ry;obtain⟨ay,r,pl,hz⟩:=I.list hq;obtain⟨w,ew,sS⟩:=r.get he;have hl:=r.length;have hn:=js;have lt:=(i5.mp he).1;exact wpAny_getItem_list pl.isList h0 (by omega) (by simpa using ew) ⟨z,H,I,sS,q⟩
section
variable {fa:ww}{p:Pos}{t:TA}{E:XK}
def RR(K:N5)(sp:Sp)(CE:ww)(i j:Nat)(th:ww->TS)(tc:TE)(t:TA):TS:=λ D σ H=>tc σ H λ c H0=>t σ H0 λ vs H1=>sp vs H1 (λ v H2=>∀p,H2 p=none->D.nx (σ.set j (some (.ref p))) (dl H2 p (.tup [c,v]))) (EH K CE i th D σ)
theorem JS{y n xc:Str}{py np vT ik cp:Pos}{b0:Stmt}{th:ww->TS}{CE:ww}{c:Expr}{tc:TE}{kk:Nat}(hE:∀v s,X.xe v s->False)(hst:X.stack=X.env::X.outer/\X.env.frame=some X.env.locals)(hN:X.N.Nodup) (hj:X.N[j]?=some y) (hy:Loc X.env.scope y) (hi:X.N[i]?=some n) (hk:X.env.scope.names.lookup n=some .local) (F:bo X.prog X.w X.K X.mg X.base (qI X.prog X.w) k fa fd ps sp) (hr:bJ k X.A) (hg:Gl X x) (hm:X.mg x=some (.ref fa)) (hkp:PySem.W.keepIn X.K (.ref fa)=true) (hb:Binds X.K fd ps []) (hc:PE X c tc) (ha:PA X (e::es) t) (Uk:Gl X xc) (Ua:X.mg xc=some (.ref CE)) (hC:qi X.K CE) (hs:∀a,rZ (X.Le a) (b0::suite) (th a)) (hsw:swapsWith (.Tuple [c,.Call (.Name x p) (e::es) [] pos] kk cp) (some (.Name y py)) ik.line X.env=pure false:=by rfl) (hf:X.fn y=true\/X.env.scope.names.lookup y=some .local:=by first|exact .inl rfl|exact .inr rfl|assumption) (hdb:(x==("__debug__":Str))=false:=by decide) (Gz:(xc==("__debug__":Str))=false:=by decide) (he:starEach (e::es) X.env=(false,eval e X.env)::starEach es X.env:=by rfl) (hpl:(backTo pos (starEach es X.env)).any (·.1)=false:=by rfl) (mH:starEach [c,.Call (.Name x p) (e::es) [] pos] X.env=[(false,eval c X.env),(false,eval (.Call (.Name x p) (e::es) [] pos) X.env)]:=by rfl):PS X (.Try [.Assign [.Name y py] (.Tuple [c,.Call (.Name x p) (e::es) [] pos] kk cp) ik] [.ExceptHandler (some (.Name xc np)) (some n) (b0::suite) vT] [] [] e_) (RR X.K sp CE i j th tc t):=by intro xz s σ H D I h;have up:∀{α:Type} {m:Sem α} {Q:α->kt->Prop} {Ex:jp->kt->Prop} {s:kt},wpAny (model X.prog X.w) X.A m Q X.xe s->wpAny (model X.prog X.w) X.A m Q Ex s:=λ z=>K9 z (λ _ _ q=>q) λ v s q=>(hE v s q).elim;refine wpAny_Try_except (wpAny_execs_cons (wpAny_Assign_Name (wpAny_Tuple_spliced ?_) hsw));rw[mH];show wpAny _ _ (spliced ((false,eval c X.env)::(false,eval (.Call (.Name x p) (e::es) [] pos) X.env)::[])) _ _ s;refine Calls.spliced_cons (up (cm (hc xz s σ H _ I h) λ u s1 ⟨cv,H0,I0,r0,q0⟩=>?_));refine Calls.spliced_cons (K9 (YC hE F hr hg hm hkp hb ha I0 q0 (λ H1 s1 v s' I1 cx=>QZ I1 hst hN hi hk Uk Ua hC hs cx Gz) hdb he hpl) (λ v s2 ⟨z,H1,I1,r1,q1⟩=>?_) λ _ _ z=>z);refine Calls.spliced_nil ⟨by show 2<=sizeLine;decide,?_⟩;have hf1:H1 s2.heap.objs.size=none:=I1.bj.fresh (K1 _);have I2:=I1.laid (o:=.tup [cv,z]) (h':=s2.heap.push {cls:=.type "tuple",data:=.seq ([u,v]:List jp).toArray}) (t':=s2.toks) (λ b u e=>j7 _ e) (K1 _) (show bD X.prog X.w _ _ _ _ from⟨by show 2<=sizeLine;decide,[u,v],.cons r0 (.cons r1 .nil),⟨_,n9 _ rfl,rfl,_,rfl⟩⟩);exact jL I2 hN hj hy (show bv (.ref s2.heap.objs.size) _ from rfl) (λ s3 I3=>C9 (C9 ⟨_,_,I3,q1 _ hf1⟩)) hf
end
end L2
namespace L3
open PySem.Spec PyProof.Rows L2
section
variable {sp:xh}{p:Pos}
def Mr(K:N5)(sp:xh)(CE:ww)(i j:Nat)(h2:ww->List (Str×D)->iK)(tc:cb)(t:gg):iK:=λ D δ M=>i < δ.length/\tc δ M λ c M0=>t δ M0 λ ds M1=>sp ds M1 (λ d M2=>D.nx (δ.set j (some (.tup [c,d]))) M2) (λ C fs M2=>qi K C/\xD K C CE=true/\h2 C fs (D.but i) (δ.set i none) M2)
theorem JD{y n xc:Str}{py np vT ik cp:Pos}{b0:Stmt}{CE:ww}{c:Expr}{kk:Nat}(hE:∀v s,X.xe v s->False)(hst:X.stack=X.env::X.outer/\X.env.frame=some X.env.locals)(hN:X.N.Nodup) (hj:X.N[j]?=some y) (hy:Loc X.env.scope y) (hi:X.N[i]?=some n) (hk:X.env.scope.names.lookup n=some .local) (d:jD X.prog X.w X.K X.mg X.base k x ps sp) (hr:bJ k X.A) (hg:Gl X x) (hc:QE X c tc) (ha:QA X (e::es) t) (Uk:Gl X xc) (Ua:X.mg xc=some (.ref CE)) (hC:qi X.K CE) (hs:AL X i (b0::suite) h2) (hsw:swapsWith (.Tuple [c,.Call (.Name x p) (e::es) [] pos] kk cp) (some (.Name y py)) ik.line X.env=pure false:=by rfl) (hf:X.fn y=true\/X.env.scope.names.lookup y=some .local:=by first|exact .inl rfl|exact .inr rfl|assumption) (hdb:(x==("__debug__":Str))=false:=by decide) (Gz:(xc==("__debug__":Str))=false:=by decide) (he:starEach (e::es) X.env=(false,eval e X.env)::starEach es X.env:=by rfl) (hpl:(backTo pos (starEach es X.env)).any (·.1)=false:=by rfl) (mH:starEach [c,.Call (.Name x p) (e::es) [] pos] X.env=[(false,eval c X.env),(false,eval (.Call (.Name x p) (e::es) [] pos) X.env)]:=by rfl):QS X (.Try [.Assign [.Name y py] (.Tuple [c,.Call (.Name x p) (e::es) [] pos] kk cp) ik] [.ExceptHandler (some (.Name xc np)) (some n) (b0::suite) vT] [] [] e_) (Mr X.K sp CE i j h2 tc t):=by
 obtain⟨f,fd,F,hm,kp,b⟩:=d.ex;obtain⟨th,hth,hl⟩:=hs;refine ix (JS hE hst hN hj hy hi hk F hr hg hm kp b hc ha Uk Ua hC hth hsw hf hdb Gz he hpl mH) λ D σ H ⟨δ,M,D2,hs,hm,⟨li,q⟩,kk⟩=>?_;refine⟨δ,M,_,hs,hm,q,λ cv H0 cd M0 hcd Yg t0 q0=>⟨δ,M0,_,hs.mono t0,Yg,q0,λ vs H1 ds M1 hd bU t1 q1=>⟨ds,M1,_,_,hd,bU,q1,λ v H2 d M2 hd2 lA t2 q2=>λ p hp=>?_,λ C dx fs dss H2 M2 hx fr rm t2 ⟨ec,sc,q2⟩=>⟨C,rfl,ec,sc,λ a na=>?_⟩⟩⟩⟩
 ·have tp:ax H2 (dl H2 p (.tup [cv,v])):=ax.laid hp;have tt:=t0.trans (t1.trans (t2.trans tp));have dt:bn X.K (dl H2 p (.tup [cv,v])) (.tup [cd,d]) (.ref p):=aW.mpr ⟨p,_,rfl,.inl (.inl aV),ah.mpr ⟨_,_,rfl,bn.mono (t1.trans (t2.trans tp)) _ hcd,aG.one (bn.mono tp _ hd2)⟩⟩;exact kk.nx _ _ _ M2 ((hs.mono tt).set dt) (lA.laid hp) tt q2
 ·have ne:dx≠a:=λ z=>by rw[z,na]at hx;cases hx
  have tl:ax H2 (dl H2 a (XT a C (some dx))):=ax.laid na;have hlen:=hs.len;have tu:=t0.trans (t1.trans t2);refine hl a C dx fs dss (L2.Ends.but D i) (eE.but D2 i) _ _ (δ.set i none) M2 (j9 (by rw[<- hlen];exact li)) aV (by rw[aB ne];exact hx) (fr.mono tl) (bX.unset (hs.mono (tu.trans tl))) (rm.laid na) q2 ⟨?_,?_,?_,?_⟩
  ·exact λ σ' H' δ' M' pq eV t' q'=>kk.nx _ H' _ M' pq.unset eV (tu.trans (tl.trans t')) q'
  ·exact λ v H' d M' jc eV t' q'=>kk.rt v H' d M' jc eV (tu.trans (tl.trans t')) q'
  ·exact λ σ' H' δ' M' pq eV t' q'=>kk.bk _ H' _ M' pq.unset eV (tu.trans (tl.trans t')) q'
  ·exact λ σ' H' δ' M' pq eV t' q'=>kk.ct _ H' _ M' pq.unset eV (tu.trans (tl.trans t')) q'
end
section
variable {o i:Expr}{to ti:cb}
def DS(to ti te:cb):iK:=λ En δ M=>to δ M λ o M1=>ti δ M1 λ i M2=>∃(a:ww) (n:Nat) (ds:List D) (x:Int),o=.ref a/\i=.int n/\M2 a=some (.lst ds)/\ds[n]?=some (.int x)/\te δ M2 λ y M3=>∃z:Int,y=.int z/\M3 a=some (.lst ds)/\En.nx δ (ai M3 a (.lst (ds.set n (.int (x+z)))))
theorem JF(ho:QE X o to)(hi:QE X i ti)(he:QE X e te) (ha:∀ov iv new,augStore i ov iv new=(do holding [new,ov,iv] (setItem ov iv new);release [new,ov,iv] [];pure .next):=by intros;rfl):QS X (.AugAssign (.Subscript o i e_) .Add e pos) (DS to ti te):=by refine ix (JT ho hi GF he Qb set_list ha) λ D σ H ⟨δ,M,D2,hs,hm,q,kk⟩=>?_;refine⟨δ,M,_,hs,hm,q,λ ov H1 od M1 hod bU t1 q1=>⟨δ,M1,_,hs.mono t1,bU,q1,λ iv H2 id M2 hid lA t2 q2=>?_⟩⟩;obtain⟨a,n,ds,x,rfl,rfl,hM,hx,q2⟩:=q2;cases(aP.mp hod);cases(aw.mp hid);obtain⟨xs,Tw,hd⟩:=lA a _ hM;obtain⟨v,ev,rv⟩:=hd.get hx;cases(aw.mp rv);refine⟨a,xs,n,_,rfl,rfl,dr.of Tw,by omega,by rw[x9];exact ev,δ,M2,_,hs.mono (t1.trans t2),lA,q2,λ yv H3 yd M3 Tu vV t3 ⟨z,e3,hM3,q3⟩=>?_⟩;subst e3;cases(aw.mp Tu);obtain⟨Wn,Tv,HR⟩:=vV a _ hM3;have lt:=(i5.mp hx).1;refine⟨_,_,rfl,rfl,a,Wn,n,n,rfl,rfl,Tv,by rw[HR.length];unfold tO;simp only[x9];first|(rw[N3 (by omega)];done)|(simp;omega),?_⟩;show D.nx σ (dl H3 a (.lst (Wn.set n (.int (x+z)))));have tw:ax H3 (dl H3 a (.lst (Wn.set n (.int (x+z))))):=ax.lst Tv;have tt:=t1.trans (t2.trans (t3.trans tw));exact kk.nx _ _ _ _ (hs.mono tt) (vV.put (u:=.lst (ds.set n (.int (x+z)))) tw ⟨_,aV,aG.mono tw _ (HR.set (aw.mpr rfl) n)⟩) tt q3
end
end L3
namespace L4
open PySem.Spec L2 L3
theorem Ij{o i:Expr}{to ti:cb}(ho:WE X o to)(hi:WE X i ti)(he:WE X e te) (ha:∀ov iv new,augStore i ov iv new=(do holding [new,ov,iv] (setItem ov iv new);release [new,ov,iv] [];pure .next):=by intros;rfl):WS X (.AugAssign (.Subscript o i e_) .Add e pos) (DS to ti te):=⟨JF ho.h hi.h he.h ha⟩
theorem Ii{sp:xh}{p:Pos}{y n xc:Str}{py np vT ik cp:Pos}{b0:Stmt}{CE:ww}{c:Expr}{kk:Nat}(hE:∀v s,X.xe v s->False)(hst:X.stack=X.env::X.outer/\X.env.frame=some X.env.locals)(hN:X.N.Nodup) (hj:X.N[j]?=some y) (hy:Loc X.env.scope y) (hi:X.N[i]?=some n) (hk:X.env.scope.names.lookup n=some .local) (d:jD X.prog X.w X.K X.mg X.base k x ps sp) (hr:bJ k X.A) (hg:Gl X x) (hc:WE X c tc) (ha:WA X (e::es) t) (Uk:Gl X xc) (Ua:X.mg xc=some (.ref CE)) (hC:qi X.K CE) (hs:AL X i (b0::suite) h2) (hsw:swapsWith (.Tuple [c,.Call (.Name x p) (e::es) [] pos] kk cp) (some (.Name y py)) ik.line X.env=pure false:=by rfl) (hf:X.fn y=true\/X.env.scope.names.lookup y=some .local:=by first|exact .inl rfl|exact .inr rfl|assumption) (hdb:(x==("__debug__":Str))=false:=by decide) (Gz:(xc==("__debug__":Str))=false:=by decide) (he:starEach (e::es) X.env=(false,eval e X.env)::starEach es X.env:=by rfl) (hpl:(backTo pos (starEach es X.env)).any (·.1)=false:=by rfl) (mH:starEach [c,.Call (.Name x p) (e::es) [] pos] X.env=[(false,eval c X.env),(false,eval (.Call (.Name x p) (e::es) [] pos) X.env)]:=by rfl):WS X (.Try [.Assign [.Name y py] (.Tuple [c,.Call (.Name x p) (e::es) [] pos] kk cp) ik] [.ExceptHandler (some (.Name xc np)) (some n) (b0::suite) vT] [] [] e_) (Mr X.K sp CE i j h2 tc t):=⟨JD hE hst hN hj hy hi hk d hr hg hc.h ha.h Uk Ua hC hs hsw hf hdb Gz he hpl mH⟩
end L4
namespace KK
open PySem.Builtin PySem.Builtin.Str
abbrev sg(x:Str):List Nat:=x.cps.toList
def one(c:Nat):Str:=⟨#[c]⟩
def gX(c:Nat):List Nat->List (List Nat)
 |[]=>[[]]
 |a::l=>if a=c then[]::gX c l else match gX c l with
  |p::ps=>(a::p)::ps
  |[]=>[[a]]
theorem sH(c:Nat):∀l,gX c l≠[]
 |[]=>by simp[gX]
 |a::l=>by
  unfold gX;split
  ·simp
  ·split <;> simp
def mC(c:Nat):Nat->List Nat->List Nat
 |_,[]=>[]
 |i,a::l=>if a=c then i::mC c (i+1) l else mC c (i+1) l
theorem EZ(c:Nat):∀(i:Nat) (l:List Nat),mC c (i+1) l=(mC c i l).map (·+1)
 |i,[]=>rfl
 |i,a::l=>by unfold mC;rw[EZ c (i+1) l];split <;> rfl
def ext(l:List Nat)(i j:Nat):List Nat:=(l.take j).drop i
def U2(l:List Nat)(UW:List Nat):List (List Nat):=((0::UW.map (·+1)).zip (UW++[l.length])).map λ p=>ext l p.1 p.2
theorem uw(c:Nat):∀l,U2 l (mC c 0 l)=gX c l
 |[]=>rfl
 |a::l=>by
  have ih:=uw c l;unfold gX;rw[<- ih];show U2 (a::l) (if a=c then 0::mC c 1 l else mC c 1 l)=_;rw[EZ c 0 l];generalize mC c 0 l=cs;have sh:∀(A B:List Nat),((A.map (·+1)).zip (B.map (·+1))).map (λ p=>ext (a::l) p.1 p.2)=(A.zip B).map λ p=>ext l p.1 p.2:=λ A B=>by rw[zip_map,G9];rfl
  by_cases e:a=c
  ·rw[N3 e,N3 e];unfold U2;have s1:(0::(0::cs.map (·+1)).map (·+1)).zip (0::cs.map (·+1)++[(a::l).length])=(0,0)::((0::cs.map (·+1)).map (·+1)).zip ((cs++[l.length]).map (·+1)):=by rw[C4];rfl
   rw[s1,F9,sh];rfl
  ·rw[N4 e,N4 e];unfold U2;cases cs with
   |nil=>show[ext (a::l) 0 (l.length+1)]=_;simp[ext]
   |cons b cs=>
    have s2:(0::((b::cs).map (·+1)).map (·+1)).zip ((b::cs).map (·+1)++[(a::l).length])=(0,b+1)::(((b::cs).map (·+1)).map (·+1)).zip ((cs++[l.length]).map (·+1)):=by rw[C4];rfl
    rw[s2,F9,sh];have s3:ext (a::l) 0 (b+1)=a::ext l 0 b:=by simp[ext]
    show ext (a::l) 0 (b+1)::_=_;rw[s3];rfl
theorem Ly(x:Str)(i j:Nat):sg (strSub x i j)=ext (sg x) i j:=by
 unfold strSub ext sg;rw[Array.toList_extract,extract_eq_take_drop,take_drop];by_cases h:i<=j
 ·rw[show i+(j - i)=j by omega]
 ·rw[j5 (by rw[A8];omega),j5 (by rw[A8];omega)]
theorem m_(x:Str)(c limit:Nat):∀(l:List Nat) (i:Nat) (f:Array Nat) (free:Nat),(sg x).drop i=l->i+l.length=x.length->free<=i->(forIn (List.range' i (l.length+1)) (f,free) (StrLaws.occBody x (one c) x.length limit)).run.fst.toList=f.toList++(mC c i l).take (limit - f.size)
 |[],i,f,free,hl,hi,hf=>by
  have n:¬(((f.size < limit/\free<=i)/\i+(one c).length<=x.length)/\subAt x (one c) i=true):=λ z=>by have:i+1<=x.length:=z.1.2;simp at hi;omega
  show(forIn [i] (f,free) (StrLaws.occBody x (one c) x.length limit)).run.fst.toList=_;rw[forIn_cons];unfold StrLaws.occBody;rw[N4 n];simp[mC]
 |a::l,i,f,free,hl,hi,hf=>by
  rw[A3]at hi;show(forIn (i::List.range' (i+1) (l.length+1)) (f,free) (StrLaws.occBody x (one c) x.length limit)).run.fst.toList=_;rw[forIn_cons];have B':(sg x).drop (i+1)=l:=by
   have:=L8 (List.drop 1) hl
   rwa [drop_drop]at this
  have at':subAt x (one c) i=true↔a=c:=by unfold subAt;rw[beq_iff_eq,<- Array.toList_inj,Array.toList_extract,extract_eq_take_drop];show List.take (i+1 - i) ((sg x).drop i)=[c]↔_;rw[hl,show i+1 - i=1 by omega];simp
  unfold mC;by_cases e:a=c
  ·rw[N3 e];by_cases g:f.size < limit
   ·have y:((f.size < limit/\free<=i)/\i+(one c).length<=x.length)/\subAt x (one c) i=true:=⟨⟨⟨g,hf⟩,by show i+1<=x.length;omega⟩,at'.mpr e⟩;have h:=m_ x c limit l (i+1) (f.push i) (i+1) B' (by omega) (K1 _);have s:StrLaws.occBody x (one c) x.length limit i (f,free)=pure (ForInStep.yield (f.push i,i+1)):=by unfold StrLaws.occBody;rw[N3 y];rfl
    rw[s];refine h.trans ?_;rw[Array.toList_push,Array.size_push,append_assoc,show limit - f.size=(limit - (f.size+1))+1 by omega,take_succ_cons];rfl
   ·have h:=m_ x c limit l (i+1) f free B' (by omega) (by omega);have s:StrLaws.occBody x (one c) x.length limit i (f,free)=pure (ForInStep.yield (f,free)):=by unfold StrLaws.occBody;rw[N4 λ z=>g z.1.1.1]
    rw[s];refine h.trans ?_;rw[show limit - f.size=0 by omega,take_zero,take_zero]
  ·rw[N4 e];have h:=m_ x c limit l (i+1) f free B' (by omega) (by omega);have s:StrLaws.occBody x (one c) x.length limit i (f,free)=pure (ForInStep.yield (f,free)):=by unfold StrLaws.occBody;rw[N4 λ z=>e (at'.mp z.2)]
   rw[s];exact h
theorem Fo(x:Str)(c limit:Nat):occurrences x (one c) 0 x.length limit=(mC c 0 (sg x)).take limit:=by rw[StrLaws.occ_eq];have:=m_ x c limit (sg x) 0 #[] 0 rfl (by rw[Nat.zero_add];exact n6) (K1 _);rw[show(sg x).length=x.length from n6]at this;rw[Nat.sub_zero,this];rfl
theorem zL(c:Nat):∀(i:Nat) (l:List Nat),(mC c i l).length<=l.length
 |i,[]=>K1 _
 |i,a::l=>by have:=zL c (i+1) l;unfold mC;split <;> simp <;> omega
theorem E_:∀{i:Nat} {l:List Nat},c∉l->mC c i l=[]
 |i,[],_=>rfl
 |i,a::l,h=>by unfold mC;rw[N4 λ e=>h (by rw[e];exact p0),E_ λ z=>h (l7 _ z)]
theorem nY:∀{l:List Nat},c∉l->gX c l=[l]
 |[],_=>rfl
 |a::l,h=>by unfold gX;rw[N4 λ e=>h (by rw[e];exact p0),nY λ z=>h (l7 _ z)]
theorem jN:∀{l:List Nat} (m:List Nat),c∉l->gX c (l++c::m)=l::gX c m
 |[],m,_=>by show(if c=c then[]::gX c m else _)=_;rw[N3 rfl]
 |a::l,m,h=>by
  show(if a=c then[]::gX c (l++c::m)else match gX c (l++c::m)with
   |p::ps=>(a::p)::ps
   |[]=>[[a]])=_
  rw[N4 λ e=>h (by rw[e];exact p0),jN m λ z=>h (l7 _ z)]
theorem zM:∀{l:List Nat} (m:List Nat) (i:Nat),c∉l->∃r,mC c i (l++c::m)=(i+l.length)::r
 |[],m,i,_=>⟨mC c (i+1) m,by show(if c=c then i::mC c (i+1) m else _)=_;rw[N3 rfl];rfl⟩
 |a::l,m,i,h=>by obtain⟨r,e⟩:=zM (l:=l) m (i+1) λ z=>h (l7 _ z);refine⟨r,?_⟩;show(if a=c then i::mC c (i+1) (l++c::m)else mC c (i+1) (l++c::m))=_;rw[N4 λ e=>h (by rw[e];exact p0),e,A3];congr 1;omega
def mk(l:List Nat):Str:=⟨l.toArray⟩
theorem R_(l:List Nat):sg (mk l)=l:=rfl
theorem FE(x:Str):mk (sg x)=x:=rfl
theorem kW{y:Str}(h:sg x=sg y):x=y:=by rw[<- FE x,h];rfl
theorem dO(x:Str):(sg x).length=x.length:=n6
theorem jm(x y:Str):sg (x++y)=sg x++sg y:=by show(x.cps++y.cps).toList=_;rw[Array.toList_append]
set_option tactic.hygienic true in
theorem nX(x:Str)(hc:c < 256):Txt.split x (one c)=(gX c (sg x)).map mk:=by
 have k:Builtin.Str.strKind (one c)=1:=by unfold Builtin.Str.strKind one;simp[hc]
 have k2:1<=Builtin.Str.strKind x:=by
  unfold Builtin.Str.strKind;split
  ·exact K1 _
  ·split <;> decide
 have nx:mC c 0 (sg x)=[]->[x]=(gX c (sg x)).map mk:=λ e=>by rw[<- uw,e];show[x]=[mk (ext (sg x) 0 (sg x).length)];unfold ext;rw[A5];rfl
 unfold Txt.split;split
 ·rename_i h;rw[k,Bool.or_eq_true,x8,x8]at h;rcases h with h|h
  ·have:x.length=0:=Nat.lt_one_iff.mp h;rw[<- dO]at this;rw[j3.mp this];exact L8 (λ z=>[z]) (kW (j3.mp this))
  ·omega
 ·rw[Fo,j4 (Nat.le_succ_of_le (H9 (zL ..) (J0 (dO x))))];split
  ·rename_i h;exact nx (isEmpty_iff.mp h)
  ·rw[<- uw];unfold partsBetween U2;rw[G9,dO];refine o8 λ p _=>?_;exact kW (Ly x p.1 p.2)
theorem Ao(x:Str)(c:Nat):Txt.find x (one c)=match mC c 0 (sg x)with|i::_=>(i:Int)|[]=>-1:=by unfold Txt.find;rw[Fo];cases mC c 0 (sg x) <;> rfl
theorem kg(c:Nat):∀l:List Nat,c∉l\/∃a b,l=a++c::b/\c∉a
 |[]=>.inl (by simp)
 |x::l=>by
  by_cases e:x=c
  ·exact .inr ⟨[],l,by rw[e];rfl,by simp⟩
  ·rcases kg c l with h|⟨a,b,rfl,h⟩
   ·exact .inl (by simp[h,L9 e])
   ·exact .inr ⟨x::a,b,rfl,by simp[h,L9 e]⟩
theorem IF{l x:List Nat}(h:gX c l=[x]):x=l:=by
 rcases kg c l with n|⟨a,b,e,n⟩
 ·rw[nY n]at h;exact((List.cons.inj h).1).symm
 ·rw[e,jN b n]at h;exact absurd (List.cons.inj h).2 (sH c b)
theorem Lv(h:c∉sg x):Txt.find x (one c)= -1:=by rw[Ao,E_ h]
theorem Lx{a b:List Nat}(e:sg x=a++c::b)(h:c∉a):Txt.find x (one c)=(a.length:Int):=by obtain⟨r,er⟩:=zM b 0 h;rw[Ao,e,er,Nat.zero_add]
def jn(c:Nat):List (List Nat)->List Nat
 |[]=>[]
 |[x]=>x
 |x::y::r=>x++c::jn c (y::r)
theorem z_(c:Nat):∀ws:List Str,sg (Txt.join (one c) ws)=jn c (ws.map sg):=by
 intro ws;show sg (glued (one c) ws)=_;rw[StrLaws.glued_eq_join]
 induction ws with
 |nil=>rfl
 |cons x r ih=>
  cases r with
  |nil=>rfl
  |cons y r=>show sg (x++one c++Str.join (one c) (y::r))=sg x++c::jn c (sg y::r.map sg);rw[jm,jm,ih,append_assoc];rfl
theorem DC:∀{ws:List (List Nat)},ws≠[]->(∀x∈ws,c∉x)->gX c (jn c ws)=ws
 |[],h,_=>absurd rfl h
 |[x],_,h=>nY (h x (by simp))
 |x::y::r,_,h=>by show gX c (x++c::jn c (y::r))=_;rw[jN _ (h x (by simp)),DC (by simp) λ z hz=>h z (by simp_all)]
theorem jl(hc:c < 256)(h:ws≠[])(hn:∀x∈ws,c∉sg x):Txt.split (Txt.join (one c) ws) (one c)=ws:=by rw[nX _ hc,z_,DC (by simpa using h) (by simpa using hn),G9];exact(o8 λ x _=>FE x).trans (List.map_id _)
set_option tactic.hygienic true in
theorem zj{c:Nat}:∀{l p:List Nat},p∈gX c l->∀a∈p,a∈l/\a≠c
 |[],p,h,a,ha=>by
  have:p=[]:=by simpa[gX]using h
  rw[this]at ha;cases ha
 |x::l,p,h,a,ha=>by
  have ih:=@zj c l;unfold gX at h;split at h
  ·rcases G0.mp h with rfl|h
   ·cases ha
   ·exact⟨l7 _ (ih h a ha).1,(ih h a ha).2⟩
  ·rename_i n;split at h
   ·rename_i q qs e;rcases G0.mp h with rfl|h
    ·rcases G0.mp ha with rfl|ha
     ·exact⟨by simp,n⟩
     ·exact⟨l7 _ (ih (e▸p0) a ha).1,(ih (e▸p0) a ha).2⟩
    ·exact⟨l7 _ (ih (e▸l7 _ h) a ha).1,(ih (e▸l7 _ h) a ha).2⟩
   ·have:p=[x]:=by simpa using h
    rw[this]at ha;have:a=x:=by simpa using ha
    rw[this];exact⟨by simp,n⟩
set_option tactic.hygienic true in
theorem sI{c:Nat}:∀{l p:List Nat},p∈gX c l->p.length<=l.length
 |[],p,h=>by
  have:p=[]:=by simpa[gX]using h
  rw[this];exact K1 _
 |x::l,p,h=>by
  have ih:=@sI c l;unfold gX at h;rw[A3];split at h
  ·rcases G0.mp h with rfl|h
   ·exact K3 _
   ·exact Nat.le_succ_of_le (ih h)
  ·split at h
   ·rename_i q qs e;rcases G0.mp h with rfl|h
    ·exact Nat.succ_le_succ (ih (e▸p0))
    ·exact Nat.le_succ_of_le (ih (e▸l7 _ h))
   ·have:p=[x]:=by simpa using h
    rw[this];exact Nat.succ_le_succ (K3 _)
set_option tactic.hygienic true in
theorem nZ{c:Nat}:∀{l:List Nat},(gX c l).length<=l.length+1
 |[]=>K1 _
 |x::l=>by
  have ih:=@nZ c l;unfold gX;split
  ·exact Nat.succ_le_succ ih
  ·split
   ·rename_i q qs e;rw[e]at ih;exact Nat.le_succ_of_le ih
   ·exact Nat.succ_le_succ (K3 _)
end KK
namespace L2
open PySem.Spec PyProof.Rows
theorem yQ:cL X (.builtin "isinstance") (λ xs H Q=>∃(a C dx:ww) (fs:List (Str×V)) (c:String) (b:Bool),xs=[.ref a,.ty c]/\H a=some (XT a C (some dx))/\H dx=some (XD dx fs)/\uE X.K C/\PySem.W.kitOne X.K (.ref C) (.type c)=some b/\Q (.bl b) H):=by intro xz s σ H xs us Q I r ⟨a,C,dx,fs,c,b,e,h1,h2,ei,k,q⟩;subst e;obtain⟨u,Vi,rfl,ru,r2⟩:=gp r;obtain⟨u2,rfl,r3⟩:=vals1 r2;obtain rfl:u=Value.ref a:=ru;obtain rfl:u2=Value.type c:=r3;exact Ab I h1 h2 ei k λ tk=>⟨.bl b,H,I.tok tk,rfl,q⟩
end L2
namespace L3
open PySem.Spec PyProof.Rows L2
def SE(K:N5):V->List V->Hp->VK->Prop:=λ x vs H Q=>∃p b0 b1 b2,x=.ref p/\vs=[.bl true]/\H p=some (.lst [.bl b0,.bl b1,.bl b2])/\Q (.int ([b0,b1,b2].countP λ b=>PyData.eqv (.bool b) (.bool true):Nat)) H
theorem KC(hu:X.A.units+64 < cLine):RB X "list.count" (SE X.K):=by
 intro xz s σ H x xs v us Q I rx rv h;obtain⟨p,b0,b1,b2,rfl,rfl,hq,q⟩:=h;cases(show v=Value.ref p from rx);obtain⟨u,rfl,ru⟩:=rv.one;obtain⟨ay,rz,pl,_⟩:=I.list (dr.of (K:=X.K) hq);have hd:aG X.K H [.bl b0,.bl b1,.bl b2] [.bl b0,.bl b1,.bl b2]:=ah.mpr ⟨_,_,rfl,aR.mpr rfl,ah.mpr ⟨_,_,rfl,aR.mpr rfl,aG.one (aR.mpr rfl)⟩⟩;obtain⟨as,ra⟩:=vf I _ (by unfold oP oP oP oP;rfl) hd rz;obtain⟨bs,rb⟩:=Sn I (.bl true) (by unfold nr;rfl) (aR.mpr rfl) ru;have t1:toP (.bl true)=.bool true:=by unfold toP;rfl
 have t2:∀b,toP (.bl b)=.bool b:=λ b=>by unfold toP;rfl
 have t3:toPs [.bl b0,.bl b1,.bl b2]=[.bool b0,.bool b1,.bool b2]:=by unfold toPs toPs toPs toPs;rw[t2,t2,t2]
 obtain⟨e,e1,e2⟩:=ml (A:=X.A.in1) rb (by rw[t1];rfl) (by rw[t1];show X.A.units+1+_ < _;simp[PyData.depth];omega) ra (by rw[t3];rfl);obtain⟨⟨c,dd,da,sl⟩,ho,hc,n,tX⟩:=pl.isList;cases(show c=.type "list" from hc);cases(show da=.seq ay.toArray n from tX);refine K8 PySem.F.slot_list_count ⟨_,ho,rfl⟩ PySem.F.entry_list_count (PySem.F.args_list_count_2 _ _) (SeqAt.list_countAt p ay.toArray n dd sl u e) ⟨ho,λ y hy=>e1 y (by simpa using hy),?_⟩;rw[show ay.toArray.toList=ay from rfl,e2];refine⟨.int _,H,I.tok _,⟨_,rfl⟩,?_⟩;have e3:([L3.D.bl b0,.bl b1,.bl b2].countP λ d=>PyData.eqv (toP d) (toP (.bl true)))=[b0,b1,b2].countP λ b=>PyData.eqv (.bool b) (.bool true):=by rw[t1,show[L3.D.bl b0,.bl b1,.bl b2]=[b0,b1,b2].map D.bl from rfl,countP_map];refine countP_congr λ b _=>?_;show _↔_;rw[show((λ d=>PyData.eqv (toP d) (.bool true))∘D.bl) b=PyData.eqv (.bool b) (.bool true)from L8 (PyData.eqv · _) (t2 b)]
 rw[e3];exact q
end L3
namespace KK
open PySem
theorem uc(m:Nat):∀c∈(Nat.toDigits 10 m).map Char.toNat,48<=c/\c<=57:=λ c hc=>by obtain⟨ch,yz,e⟩:=G8.mp hc;have r:=PyProof.Rows.digit_range (Nat.isDigit_of_mem_toDigits (by decide) (by decide) yz);rw[<- e];exact r
theorem As(h:¬m < 10):(Nat.toDigits 10 m).map Char.toNat=(Nat.toDigits 10 (m / 10)).map Char.toNat++[(Nat.digitChar (m % 10)).toNat]:=by have hm:m % 10 < 10:=Nat.mod_lt m (by decide);have t:Nat.toDigits 10 (m / 10)++Nat.toDigits 10 (m % 10)=Nat.toDigits 10 (10*(m / 10)+m % 10):=Nat.toDigits_append_toDigits (by decide) (by omega) hm;rw[Nat.div_add_mod]at t;rw[<- t,C4,Nat.toDigits_of_lt_base hm];rfl
theorem YI:∀d:Nat,d < 10->d≠0->(Nat.digitChar d).toNat≠48:=by decide
theorem LG(m:Nat):m≠0->((Nat.toDigits 10 m).map Char.toNat).head?≠some 48:=by
 induction m using Nat.strongRecOn with
 |_ m ih=>
  intro hm;by_cases h:m < 10
  ·rw[Nat.toDigits_of_lt_base h];intro e;exact YI m h hm (B7 e)
  ·rw[As h];have:=ih (m / 10) (by omega) (by omega);cases e:(Nat.toDigits 10 (m / 10)).map Char.toNat with
   |nil=>have h2:=PySem.toDigits_len_ge 10 (m / 10);rw[map_eq_nil_iff.mp e]at h2;exact absurd h2 (by decide)
   |cons a l=>rw[e]at this;exact this
theorem QF(m:Nat):∀k,1<=k->m < 10^k->((Nat.toDigits 10 m).map Char.toNat).length<=k:=by
 induction m using Nat.strongRecOn with
 |_ m ih=>
  intro k hk hm;by_cases h:m < 10
  ·rw[Nat.toDigits_of_lt_base h];exact hk
  ·rw[As h,q8];obtain⟨k,rfl⟩:∃j,k=j+1:=⟨k - 1,by omega⟩;have k1:1<=k:=by
    cases k with
    |zero=>omega
    |succ k=>omega
   have:=ih (m / 10) (by omega) k k1 (by rw[Nat.pow_succ]at hm;omega);show _+1<=k+1;omega
open L3 L4 L5
open L2 hiding bw qo
local macro_rules|`(tactic|walk_at "mem")=>`(tactic|first|assumption|exact af|(rw[aq (by assumption)];assumption)|(rw[aq (by assumption),aq (by assumption)];assumption)|(rw[aq (by assumption)];exact af))
local macro_rules|`(tactic|walk_at "rd1")=>`(tactic|first|(with_reducible first|refine NZ ?_|refine Om ?_|refine Jb ?_|refine N6 ?_|refine Ox ?_|refine Jq ?_|refine zz ?_|refine NY ?_|refine IV ?_|refine Si ?_|refine Se ?_)|((with_reducible refine' NV ?k1 ?_);(case k1=>rfl))|(with_reducible first|refine W6 ?_|refine Oy ?_|refine Sh ?_|refine N8 ?_|refine Jx ?_|refine N7 ?_|refine Oo ?_|refine Ei ?_|refine N9 ?_|refine Jr ?_|refine NW ?_|refine Od ?_|refine NX ?_|refine IU ?_|refine Js ?_|refine Eh ?_|refine Oq ?_|refine I_ ?_|refine Jt ?_|refine Ju ?_|refine Jv ?_)|((with_reducible refine' Jw ?k1 ?_);(case k1=>walk_at "mem"))|(with_reducible first|refine NU ?_|refine IZ ?_|refine Sl ?_|refine W5 ?_|refine Sg ?_|refine Bq ?_|refine Ja ?_|refine Sm ?_)|((with_reducible refine Ob ?k1 ?_);(case k1=>first|assumption|decide))|((with_reducible refine Ow ?k1 ?k2 ?_);(case k1=>first|assumption|decide);(case k2=>first|assumption|decide|omega))|((with_reducible refine jT ?k1 ?_);(case k1=>exact QY (by decide) (by decide)))|(with_reducible first|refine IS ?_|refine DW ?_|refine Jf ?_|refine Ee ?_|refine Jm ?_|refine Sj ?_|refine Ej ?_|refine Ef ?_)|((with_reducible refine' Eg ?k1 ?_);(case k1=>walk_at "mem"))|(with_reducible first|refine DX ?_|refine Of ?_|refine Oe ?_|refine Jo ?_|refine Jp ?_|refine Jn ?_|refine Jc ?_|refine IT ?_|refine Oc ?_|refine N_ ?_|refine Jg ?_|refine Bo ?_)|((with_reducible refine' cJ ?k1 ?k2 ?_);(case k1=>walk_at "mem");(case k2=>rfl))|((with_reducible refine' kZ ?k2 ?_);(case k2=>rfl))|((with_reducible refine' Jh ?k1 ?_);(case k1=>walk_at "mem"))|((with_reducible refine' sU ?k1 ?k2 ?_);(case k1=>walk_at "mem");(case k2=>rfl))|(with_reducible first|refine gO ?_|refine Sk ?_|refine Ec ?_|refine Ed ?_|refine Jk ?_|refine Jl ?_))
local macro_rules|`(tactic|walk_at "rd")=>`(tactic|repeat(walk_at "rd1"))
local macro_rules|`(tactic|walk_at "rx")=>`(tactic|repeat(first|walk_at "rd1"|((with_reducible refine' Sf ?k1 ?_);(case k1=>exact Nat.le_of_ble_eq_true rfl))))
local macro_rules|`(tactic|rfl')=>`(tactic|walk_at "rx")
def top(i:Nat):Stmt:=PySem.Challenge.pw_lastloser_k11_texts_of_sums.main.body.getD i (.Pass ⟨0,0,0,0⟩)
def pe(i:Nat):Stmt:=match top i with
 | .ClassDef _ _ _ b _ _ _ _ _ _ _=>b.getD 0 (.Pass ⟨0,0,0,0⟩)
 |_=>.Pass ⟨0,0,0,0⟩
structure fL(K:N5)(mg:Str->Option jp):Prop where
 ValueError:mg "ValueError"=none
 all:mg "all"=none
 bool:mg "bool"=none
 dict:mg "dict"=none
 enumerate:mg "enumerate"=none
 int:mg "int"=none
 isinstance:mg "isinstance"=none
 len:mg "len"=none
 list:mg "list"=none
 max:mg "max"=none
 min:mg "min"=none
 range:mg "range"=none
 sorted:mg "sorted"=none
 str:mg "str"=none
 sum:mg "sum"=none
 tuple:mg "tuple"=none
 zip:mg "zip"=none
 tV:hZ K "bool"
 MI:hZ K "int"
 Gj:hZ K "list"
 MH:hZ K "str"
 Ag:hZ K "tuple"
 Cf:jg K mg "LETTERS" (.str (Str.ofString "abcdefghijklmnopqrstuvwxyz"))
 Cg:jg K mg "FIGURES" (.tup ([Str.ofString "1",Str.ofString "2",Str.ofString "3",Str.ofString "4",Str.ofString "5",Str.ofString "6",Str.ofString "7",Str.ofString "8",Str.ofString "9"].map D.str))
 Lr:jg K mg "TAKEN" (.tup ([Str.ofString "row",Str.ofString "to",Str.ofString "take",Str.ofString "none",Str.ofString "one",Str.ofString "two",Str.ofString "as",Str.ofString "heap"].map D.str))
 pA:jg K mg "LONGEST_WORD" (.int 5)
 GG:jg K mg "DIGITS" (.str (Str.ofString "0123456789"))
 qu:jg K mg "MOST_DIGITS" (.int 31)
 fP:mg "HeapError"=some (.ref 24)
 gS:Nf K 24
 qz:qi K 24
 cX:jE K mg "NoText" "NoText.__init__" (pe 2) 44 41 ["self","row"] [Str.ofString "row"]
 eA:jE K mg "Twice" "Twice.__init__" (pe 3) 63 60 ["self","name"] [Str.ofString "name"]
 cY:jE K mg "NoName" "NoName.__init__" (pe 4) 82 79 ["self","name"] [Str.ofString "name"]
 CI:jE K mg "TooMany" "TooMany.__init__" (pe 5) 101 98 ["self"] []
 Hr:jE K mg "NoGame" "NoGame.__init__" (pe 6) 120 117 ["self","word","heap"] [Str.ofString "word",Str.ofString "heap"]
 CJ:jE K mg "NoTable" "NoTable.__init__" (pe 7) 139 136 ["self","word","at"] [Str.ofString "word",Str.ofString "at"]
 LR:jE K mg "Wrong" "Wrong.__init__" (pe 8) 158 155 ["self","counts"] [Str.ofString "counts"]
 CK:jE K mg "NoPaper" "NoPaper.__init__" (pe 9) 177 174 ["self","at"] [Str.ofString "at"]
 Hq:jE K mg "NoPick" "NoPick.__init__" (pe 10) 196 193 ["self","heap"] [Str.ofString "heap"]
 LS:jE K mg "NoRow" "NoRow.__init__" (pe 11) 215 212 ["self"] []
 k00:PySem.W.kitOne K (.ref 44) (.ref 44)=some true
 k01:PySem.W.kitOne K (.ref 44) (.ref 63)=some false
 k02:PySem.W.kitOne K (.ref 44) (.ref 82)=some false
 kA0:PySem.W.kitAny K (.ref 44) [.ref 120,.ref 177,.ref 196,.ref 215,.ref 139,.ref 101,.ref 158]=some false
 kV0:PySem.W.kitOne K (.ref 44) (.type "ValueError")=some true
 Sa:xD K 44 24=true
 k10:PySem.W.kitOne K (.ref 63) (.ref 44)=some false
 k11:PySem.W.kitOne K (.ref 63) (.ref 63)=some true
 k12:PySem.W.kitOne K (.ref 63) (.ref 82)=some false
 kA1:PySem.W.kitAny K (.ref 63) [.ref 120,.ref 177,.ref 196,.ref 215,.ref 139,.ref 101,.ref 158]=some false
 kV1:PySem.W.kitOne K (.ref 63) (.type "ValueError")=some true
 sb1:xD K 63 24=true
 k20:PySem.W.kitOne K (.ref 82) (.ref 44)=some false
 k21:PySem.W.kitOne K (.ref 82) (.ref 63)=some false
 k22:PySem.W.kitOne K (.ref 82) (.ref 82)=some true
 kA2:PySem.W.kitAny K (.ref 82) [.ref 120,.ref 177,.ref 196,.ref 215,.ref 139,.ref 101,.ref 158]=some false
 kV2:PySem.W.kitOne K (.ref 82) (.type "ValueError")=some true
 sb2:xD K 82 24=true
def uS:gC:=λ ds M Q=>∃ns:List Int,ds=[.fl (ns.map D.int)]/\∀M',Q (.bl true) M'
theorem iq:aH ["_law_flow_here","_law_many","_law_cell","_law_digit"] ["_law_flow_here","_law_many"] (ao (top 37)):=⟨rfl,rfl,rfl,by decide+kernel,rfl,by decide+kernel,by decide+kernel⟩
theorem Ko(F:dH K "_law_pick" "_law_pick" (top 37) f fd)(T:fL K mg):bo P w K mg base dJ 1 f fd ["_law_flow_here","_law_many"] (bZ K fZ):=by
 refine iy F iq (λ ds M Q h=>?_) (λ bR A outer s H E ds M Q hr h=>?_)
 ·obtain⟨a,c,n,rfl,_⟩:=h;rfl
 ·obtain⟨a,c,n,rfl,⟨ns,p,b,sd,ct,hf,hc,eh,hp,hb,TF,Gm⟩,Gu,T6,k⟩:=h;refine⟨_,(ag (bh (xp (aL (cq hr.units) (bO bw (ar 0) ak (λ _ _=>rfl)) ak (aQ _)) (so (aL Ks (bO bw (ar 0) ak (λ _ _=>rfl)) (aS cT (by rfl) T.len (by decide+kernel) (aa (bO bw (ar 0) ak (λ _ _=>rfl)) ae)) (aQ _)))).pt
 (ag (aU (i:=2) iq.nd rfl (Or.inl rfl) (bO bw (bO bw (ar 0) ak (λ _ _=>rfl)) (bO bw (ar 0) ak (λ _ _=>rfl)) (λ _ _=>rfl)))
 (ag (fW (bg a_ (bO bw (ar 0) ak (λ _ _=>rfl)) ak) (fX (ar 0) ak jQ))
 (aj (bh (aL Xn (ar 2) (bg qX ak ak) (aQ _))
 (aj (fW (ar 2) (fX (ar 0) ak jQ)))
 (aj (fW (bg lX (bg a_ (bg a_ (bg dR (bO bw (ar 0) ak (λ _ _=>rfl)) ak) (bg lX (ar 2) ak)) ak) ak) (fX (ar 0) ak jQ)))))))
 aJ)
 (ag (bh (aL vp (bO bw (ar 0) ak (λ _ _=>rfl)) ak (aQ _))
 (ag (aU (i:=3) iq.nd rfl (Or.inl rfl) (bg lX (bO bw (ar 0) ak (λ _ _=>rfl)) (ar 1)))
 (ag (fW (bg tG (bO bw (ar 0) ak (λ _ _=>rfl)) (ar 1)) (fX (ar 0) ak jQ))
 (aj (aD (ar 3)))))
 aJ)
 (ag (fW (bg a_ (bO bw (ar 0) ak (λ _ _=>rfl)) ak) (fX (ar 0) ak jQ))
 (ag (fW (bg lX (bg a_ (bg a_ (bg dR (bO bw (ar 0) ak (λ _ _=>rfl)) ak) ak) (bO bw (ar 0) ak (λ _ _=>rfl))) ak) (fX (ar 0) ak jQ))
 (aj (aD (bg lX (bg tG (bg lX (bg dR (bg a_ (bg lX (bO bw (ar 0) ak (λ _ _=>rfl)) ak) ak) (bg a_ (bg tG (bO bw (ar 0) ak (λ _ _=>rfl)) ak) ak)) ak) ak) (ar 1)))))))),?_⟩
  refine gP (λ δ' M'=>∃(p b sd ct:Int) (v:Option D),δ'=[some (.ref a),some (.int n),v,none]/\M'=ai M a (.lst (MR c p b sd ct))/\0<=p/\0<=b/\0<=sd/\sd < 2147483647) (λ N hN=>?_) ?_
  ·walk_at "rd";refine aN (λ Us=>?_) (λ Us=>?_)
   ·walk_at "rd";refine aN (λ hpl=>?_) (λ hpl=>?_)
    ·obtain⟨x,hx⟩:∃x:Int,fE (ns.map D.int) p=some (.int x):=by
      have hl:p.toNat < ns.length:=by rw[C2]at hpl;omega
      refine⟨ns[p.toNat],?_⟩;have e:((p.toNat:Nat):Int)=p:=by omega
      have q:fE (ns.map D.int) ((p.toNat:Nat):Int)=some (.int ns[p.toNat]):=cH (by simp[hl]);rw[e]at q;exact q
     walk_at "rd";refine cJ hc hx ?_;walk_at "rd";refine Br ⟨by decide,by decide,by decide⟩ ?_;walk_at "rd";refine aN (λ Qr=>?_) (λ Qr=>?_)
     ·walk_at "rd";rw[gq];refine hN _ _ ⟨p+1,x,sd,ct,_,rfl,rfl,by omega,?_,TF,Gm⟩;have Qr:(10:Int)^(18:Int).toNat<=x:=Qr;have e:(10:Int)^(18:Int).toNat=1000000000000000000:=by decide
      omega
     ·walk_at "rd";rw[gq];refine hN _ _ ⟨p+1,b,_,ct,_,rfl,rfl,by omega,hb,B6 _ (by decide),r6 _ (by decide)⟩
    ·walk_at "rd";exact hN _ _ ⟨p,b,sd,ct,none,rfl,(qO hf).symm,hp,hb,TF,Gm⟩
   ·walk_at "rd";exact hN _ _ ⟨p,b,sd,ct,none,rfl,(qO hf).symm,hp,hb,TF,Gm⟩
  ·rintro δ' M' ⟨p,b,sd,ct,v,rfl,rfl,hp,hb,TF,Gm⟩;walk_at "rd";refine aN (λ Us=>?_) (λ Us=>?_)
   ·walk_at "rd";rw[gq];refine au (k _ _ (B6 _ (by omega)) (r6 _ Gu) ⟨ns,p,_,sd,ct,af,by rw[aq eh];exact hc,eh,hp,Int.ediv_nonneg hb (by omega),TF,Gm⟩)
   ·walk_at "rd";refine jT (yI ?_ ?_) ?_
    ·have:=B6 ((sd*48271+12820163+(ct+1)) % 2147483647) (show(65521:Int)≠0 by decide);omega
    ·have:=r6 ((sd*48271+12820163+(ct+1)) % 2147483647) (show(0:Int) < 65521 by decide);omega
    walk_at "rd";rw[gq,gq];exact au (k _ _ (B6 _ (by omega)) (r6 _ Gu) ⟨ns,p,b,_,_,af,by rw[aq eh];exact hc,eh,hp,hb,B6 _ (by decide),r6 _ (by decide)⟩)
theorem uV:aH ["_law_script"] ["_law_script"] (ao (top 36)):=⟨rfl,rfl,rfl,by decide+kernel,rfl,by decide+kernel,by decide+kernel⟩
theorem Kq(F:dH K "_law_flow" "_law_flow" (top 36) f fd)(T:fL K mg):bo P w K mg base dJ 1 f fd ["_law_script"] (bZ K DF):=by
 refine iy F uV (λ ds M Q h=>?_) (λ bR A outer s H E ds M Q hr h=>?_)
 ·obtain⟨a,rfl,_⟩:=h;rfl
 ·obtain⟨ns,rfl,k⟩:=h;refine⟨_,(aj (aD (b_ (aa (cO Hn (by rfl) T.list (by decide+kernel) (aa (ar 0) ae)) (aa ak (aa ak (aa ak (aa ak ae)))))))),?_⟩;walk_at "rd";refine Eb λ c hc=>?_;walk_at "rd";refine⟨small (by show 5<=10000;decide),λ fl V8=>?_⟩;have eh:c≠fl:=λ z=>by subst z;rw[af]at V8;cases V8
  exact au (k fl c _ ⟨ns,0,0,1,0,af,by rw[aq eh];exact af,eh,by decide,by decide,by decide,by decide⟩)
def du:List Str:=[Str.ofString "row",Str.ofString "to",Str.ofString "take",Str.ofString "none",Str.ofString "one",Str.ofString "two",Str.ofString "as",Str.ofString "heap"]
def oR:List Str:=[Str.ofString "rows",Str.ofString "tow",Str.ofString "takes",Str.ofString "nones",Str.ofString "ones",Str.ofString "twos",Str.ofString "ass",Str.ofString "heaps",Str.ofString "on",Str.ofString "t",Str.ofString "ro",Str.ofString "a"]
structure Lw(z:Str):Prop where
 pos:1<=z.length
 len:z.length<=5
 low:∀c∈z.cps.toList,97<=c/\c<=122
structure Wd(z:Str):Prop extends Lw z where
 free:z∉du
def Nm(z:Str):Prop:=Wd z\/∃(w:Str) (c:Nat),Wd w/\49<=c/\c<=57/\z=w++⟨#[c]⟩
def To(z:Str):Bool:=decide (1<=z.length)&&decide (z.length<=5)&&z.cps.toList.all λ c=>decide (97<=c)&&decide (c<=122)
theorem zT(h:To z=true):Lw z:=by unfold To at h;simp only[A7,x8,B0]at h;exact⟨h.1.1,h.1.2,h.2⟩
theorem Kx:∀z∈oR,To z=true:=by decide+kernel
theorem Iy:∀z∈du,To (cS z none (some 4)++Str.ofString "q")=true/\cS z none (some 4)++Str.ofString "q"∉du/\z.length<=4:=by decide+kernel
theorem Nm.len(h:Nm z):1<=z.length/\z.length<=6:=by
 rcases h with h|⟨w,c,h,_,_,rfl⟩
 ·exact⟨h.pos,Nat.le_succ_of_le h.len⟩
 ·have e:(w++⟨#[c]⟩:Str).length=w.length+1:=by rw[len_app];rfl
  rw[e];have:=h.len;omega
theorem Az(x y:Str):(x++y).cps.toList=x.cps.toList++y.cps.toList:=by show(x.cps++y.cps).toList=_;simp
theorem Nm.ok(h:Nm z):PyData.strOk z=true:=by
 have:∀c∈z.cps.toList,c < 0x110000:=by
  rcases h with h|⟨w,c,h,_,_,rfl⟩
  ·exact λ c hc=>s9 (h.low c hc).2 (by decide)
  ·intro d hd;rw[Az]at hd;rcases C3.mp hd with z|z
   ·exact s9 (h.low d z).2 (by decide)
   ·have:d=c:=by simpa using z
    omega
 unfold PyData.strOk;rw[<- Array.all_toList,B0];exact λ c hc=>D1 (this c hc)
theorem join_ones:∀cs:List Nat,Txt.join (Str.ofString "") (cs.map λ c=>(⟨#[c]⟩:Str))=⟨cs.toArray⟩:=by
 intro cs;show Builtin.Str.glued (Str.ofString "") _=_;rw[StrLaws.glued_eq_join,show Str.ofString ""=⟨#[]⟩ by decide+kernel]
 induction cs with
 |nil=>rfl
 |cons c cs ih=>rw[F9,PyProof.Rows.join_nil_cons,ih];show Str.mk (#[c]++cs.toArray)=_;congr 1;simp
def HB(zn:List D)(i:Nat):Prop:=∃cs:List Nat,zn=(cs.map λ c=>(⟨#[c]⟩:Str)).map D.str/\cs.length=i/\∀c∈cs,97<=c/\c<=122
theorem HB.snoc{zn:List D}(h:HB zn i)(hc:97<=c/\c<=122):HB (zn++[.str ⟨#[c]⟩]) (i+1):=by
 obtain⟨cs,rfl,h1,h2⟩:=h;refine⟨cs++[c],by simp,by simp[h1],λ d hd=>?_⟩;rcases C3.mp hd with z|z
 ·exact h2 d z
 ·rw[u4.mp z];exact hc
theorem FT{zn:List D}(h:HB zn n)(h1:1<=n)(hn:n<=5){Q:bH}(q:∀z:Str,Lw z->Q (.str z) M):lG (.str (Str.ofString "")) zn M Q:=by
 obtain⟨cs,rfl,h2,h3⟩:=h;show(match fM ((cs.map λ c=>(⟨#[c]⟩:Str)).map D.str)with|some ys=>(ys.map (·.length)).sum+ys.length*(Str.ofString "").length<=16777216/\Q (.str (Txt.join (Str.ofString "") ys)) M|none=>False);rw[kU];have e0:(Str.ofString "").length=0:=by decide+kernel
 have e1:(((cs.map λ c=>(⟨#[c]⟩:Str))).map (·.length)).sum=cs.length:=by
  clear h2 h3
  induction cs with
  |nil=>rfl
  |cons c cs ih=>simp only[F9,G3,A3]at*;rw[ih];show 1+cs.length=_;omega
 refine⟨by rw[e0,e1];omega,?_⟩;rw[join_ones];have el:(⟨cs.toArray⟩:Str).length=cs.length:=by show cs.toArray.size=_;simp
 exact q _ ⟨by rw[el];omega,by rw[el];omega,λ c hc=>h3 c (by simpa using hc)⟩
theorem AJ{xs:List α}{d:Int}{c:α}(h:fE xs d=some c):c∈xs:=by
 unfold fE at h;cases e:tO xs.length d with
 |none=>rw[e]at h;cases h
 |some j=>rw[e]at h;exact l8 h
theorem PF{d:Int}(h:fE (Str.ofString "abcdefghijklmnopqrstuvwxyz").cps.toList d=some c):97<=c/\c<=122:=by
 have all:∀c∈(Str.ofString "abcdefghijklmnopqrstuvwxyz").cps.toList,97<=c/\c<=122:=by decide+kernel
 exact all c (AJ h)
theorem GO{d:Int}(h:fE (Str.ofString "123456789").cps.toList d=some c):49<=c/\c<=57:=by
 have all:∀c∈(Str.ofString "123456789").cps.toList,49<=c/\c<=57:=by decide+kernel
 exact all c (AJ h)
def R7:gC:=λ ds M Q=>∃f c,ds=[.ref f]/\Flow M f c/\∀(z:Str) (M':Mem),Nm z->Fl f c M M'->Q (.str z) M'
theorem dh:aH ["_law_flow_here","_law_letters","_law_near","_law_name_here"] ["_law_flow_here"] (ao (top 40)):=⟨rfl,rfl,rfl,by decide+kernel,rfl,by decide+kernel,by decide+kernel⟩
theorem Kp(F:dH K "_law_name" "_law_name" (top 40) f fd)(T:fL K mg)(aE:bK P w K mg base 1 "_law_pick" ["_law_flow_here","_law_many"] fZ):bo P w K mg base dJ 2 f fd ["_law_flow_here"] (bZ K R7):=by
 refine iy F dh (λ ds M Q h=>?_) (λ bR A outer s H E ds M Q hr h=>?_)
 ·obtain⟨a,cc,rfl,_⟩:=h;rfl
 ·obtain⟨a,cc,rfl,hF,k⟩:=h;refine⟨_,(ag (aU (i:=1) dh.nd rfl (Or.inr rfl) aX)
 (ag (aU (i:=2) dh.nd rfl (Or.inl rfl) (b_ (mP (zs:=[Str.ofString "rows",Str.ofString "tow",Str.ofString "takes",Str.ofString "nones",Str.ofString "ones",Str.ofString "twos",Str.ofString "ass",Str.ofString "heaps",Str.ofString "on",Str.ofString "t",Str.ofString "ro",Str.ofString "a"]) (by kernel_rfl))))
 (ag (aU (i:=3) dh.nd rfl (Or.inl rfl) (Nl PySem.F.plainAttrs_str PySem.F.slot_str_join PySem.F.type_str_join oV Dv aX (tgs:=["_law_k"]) (fr:=[1,0]) ⟨bM (by kernel_rfl),rfl,(λ _ _ h=>h),(bV rfl T.range (aa (bg a_ ak (aK aE (hr.mono (by decide)) (by rfl) (aa (ar 0) (aa ak ae)))) ae)),(bC (λ _ _ _ _ _=>(aY (i:=0) (show(["_law_k","_law_letters","_law_flow_here"]:List Str).Nodup by decide+kernel) rfl (Or.inl rfl))) (by decide)),(λ _ _ _ _ _=>bE),(λ _ _ _ _ _=>(bO bw (ar 1) (aK aE (hr.mono (by decide)) (by rfl) (aa (ar 2) (aa ak ae))) (λ _ _=>rfl)))⟩))
 (ag (bh (aL (cq hr.units) (aK aE (hr.mono (by decide)) (by rfl) (aa (ar 0) (aa ak ae))) ak (aQ _))
 (aj (aU (i:=3) dh.nd rfl (Or.inl rfl) (bO bw (ar 2) (aK aE (hr.mono (by decide)) (by rfl) (aa (ar 0) (aa ak ae))) (λ _ _=>rfl))))
 aJ)
 (ag (bh (aL (hU hr.units) (ar 3) (eB (mP (zs:=[Str.ofString "row",Str.ofString "to",Str.ofString "take",Str.ofString "none",Str.ofString "one",Str.ofString "two",Str.ofString "as",Str.ofString "heap"]) (by kernel_rfl))) rfl)
 (aj (aU (i:=3) dh.nd rfl (Or.inl rfl) (bg a_ (cu fh (ar 3) cG (cf ak)) aX)))
 aJ)
 (aj (aD (bg a_ (ar 3) (bO bw (b_ (aa aX (aa aX (aa (bO bw aX (aK aE (hr.mono (by decide)) (by rfl) (aa (ar 0) (aa ak ae))) (λ _ _=>rfl)) ae)))) (aK aE (hr.mono (by decide)) (by rfl) (aa (ar 0) (aa ak ae))) (λ _ _=>rfl)))))))))),?_⟩
  walk_at "rd";refine⟨by decide,λ q hq=>?_⟩;have TQ:q≠a:=λ z=>by obtain⟨o,e⟩:=hF.there;rw[<- z,hq]at e;cases e
  have F0:Fl a cc M (ai M q (.lst (oR.map D.str))):=Fl.put hF hq;have V_:(ai M q (.lst (oR.map D.str))) q=some (.lst (oR.map D.str)):=af;have eM:ai M q (.lst (oR.map D.str))=ai M q (.lst ([Str.ofString "rows",Str.ofString "tow",Str.ofString "takes",Str.ofString "nones",Str.ofString "ones",Str.ofString "twos",Str.ofString "ass",Str.ofString "heaps",Str.ofString "on",Str.ofString "t",Str.ofString "ro",Str.ofString "a"].map D.str)):=rfl;rw[<- eM];clear eM;generalize ai M q (.lst (oR.map D.str))=M1 at F0 V_ ⊢;walk_at "rd";refine⟨rfl,?_⟩;walk_at "rd";refine⟨a,cc,5,rfl,F0.bc,by decide,by decide,λ m o h0 h1 CT=>?_⟩;have F1:Fl a cc M1 _:=Fl.pick CT;walk_at "rd";refine⟨dX (by omega) (by omega),?_⟩;refine gV (λ i zn M'=>HB zn i/\Fl a cc M1 M') ⟨⟨[],rfl,rfl,λ c z=>by cases z⟩,F1⟩ (λ i zn M' hi h=>?_) (λ i d' zn M' hd h=>?_) (λ zn M' h=>?_)
  ·obtain⟨⟨cs,rfl,h2,_⟩,_⟩:=h;rw[bP]at hi;rw[C2,C2];exact small (by omega)
  ·walk_at "rd";refine⟨a,cc,26,rfl,h.2.bc,by decide,by decide,λ d2 o2 h2 h3 HV=>?_⟩;obtain⟨c,hc⟩:=wO (xs:=(Str.ofString "abcdefghijklmnopqrstuvwxyz").cps.toList) h2 (by
    have e:(Str.ofString "abcdefghijklmnopqrstuvwxyz").cps.toList.length=26:=by decide+kernel
    rw[e];exact h3)
   refine k_ (by decide+kernel) hc ?_;exact⟨h.1.snoc (PF hc),h.2.trans (Fl.pick HV)⟩
  ·obtain⟨Uw,Uv⟩:=h;rw[bP]at Uw;refine FT Uw (by omega) (by omega) λ z hz=>?_;have F2:=F0.trans Uv;have V_:=Uv.mv q _ TQ V_;clear Uw Uv
   with_reducible refine zz ?_
   with_reducible refine gP (λ δ' M2=>∃z:Str,δ'=[some (.ref a),some (.str (Str.ofString "abcdefghijklmnopqrstuvwxyz")),some (.ref q),some (.str z)]/\Lw z/\Fl a cc M M2) (λ N hN=>?_) ?_
   ·walk_at "rd";refine⟨a,cc,6,rfl,F2.bc,by decide,by decide,λ d3 o3 h4 h5 HU=>?_⟩;walk_at "rd";refine aN (λ _=>?_) (λ _=>?_)
    ·walk_at "rd";refine⟨a,cc,12,rfl,HU,by decide,by decide,λ d4 o4 h6 h7 MP=>?_⟩;obtain⟨y,hy,Tu⟩:=wN (zs:=oR) h6 (by show d4 < 12;exact h7);refine cJ (by rw[aq TQ,aq TQ];exact V_) Tu ?_;walk_at "rd";exact hN _ _ ⟨y,rfl,zT (Kx y hy),(F2.trans (Fl.pick HU)).trans (Fl.pick MP)⟩
    ·walk_at "rd";exact hN _ _ ⟨z,rfl,hz,F2.trans (Fl.pick HU)⟩
   ·rintro δ' M2 ⟨z,rfl,hz,F2⟩
    with_reducible refine gP (λ δ' M3=>∃z:Str,δ'=[some (.ref a),some (.str (Str.ofString "abcdefghijklmnopqrstuvwxyz")),some (.ref q),some (.str z)]/\Wd z/\Fl a cc M M3) (λ N hN=>?_) ?_
    ·walk_at "rd";refine⟨by decide,?_⟩;refine sW (iG z du) ?_;refine bB (λ jF=>?_) (λ jF=>?_)
     ·have jF:z∈du:=by simpa using jF
      obtain⟨t1,t2,t3⟩:=Iy z jF;walk_at "rd";refine eQ (small (by omega)) ?_;walk_at "rd";have hl:=(zT t1).len;refine cU (small (by rw[len_app]at hl;omega)) ?_;walk_at "rd";exact hN _ _ ⟨_,rfl,⟨zT t1,t2⟩,F2⟩
     ·have jF:z∉du:=by simpa using jF
      walk_at "rd";exact hN _ _ ⟨z,rfl,⟨hz,jF⟩,F2⟩
    ·rintro δ' M3 ⟨z,rfl,hz,F3⟩;walk_at "rd";refine⟨a,cc,9,rfl,F3.bc,by decide,by decide,λ d5 o5 h8 h9 V'=>?_⟩;obtain⟨c,hc⟩:=wO (xs:=(Str.ofString "123456789").cps.toList) h8 (by
      have e:(Str.ofString "123456789").cps.toList.length=9:=by decide+kernel
      rw[e];exact h9)
     refine k_ (by decide+kernel) hc ?_;walk_at "rd";refine⟨small (by show 3<=10000;decide),λ q2 pw=>?_⟩;have F5:=F3.trans (Fl.pick V');have X_:q2≠a:=λ z=>by subst z;obtain⟨o,e⟩:=V'.there;rw[pw]at e;cases e
     walk_at "rd";refine⟨a,cc,3,rfl,V'.put pw,by decide,by decide,λ d6 o6 ZR h11 hF6=>?_⟩;obtain⟨y,hy,Tu⟩:=wN (zs:=[Str.ofString "",Str.ofString "",⟨#[c]⟩]) ZR (by show d6 < 3;exact h11);have hl:=hz.len;have em:z++Str.ofString ""=z:=by rw[show Str.ofString ""=⟨#[]⟩ by decide+kernel];show Str.mk (z.cps++#[])=z;simp
     have Zt:Nm (z++y)/\y.length<=1:=by
      have e:(Str.ofString "").length=0:=by decide+kernel
      simp only[G0,not_mem_nil,or_false]at hy;rcases hy with rfl|rfl|rfl
      ·exact⟨by rw[em];exact .inl hz,by omega⟩
      ·exact⟨by rw[em];exact .inl hz,by omega⟩
      ·exact⟨.inr ⟨z,c,hz,(GO hc).1,(GO hc).2,rfl⟩,by show 1<=1;decide⟩
     have hy1:=Zt.2;refine cJ (by rw[aq X_];exact af) Tu ?_;refine cU (small (by omega)) ?_;exact au (k _ _ Zt.1 ((F5.trans (Fl.put V' pw)).trans (Fl.pick hF6)))
theorem xH:aH ["_law_counts_here"] ["_law_counts_here"] (ao (top 42)):=⟨rfl,rfl,rfl,by decide+kernel,rfl,by decide+kernel,by decide+kernel⟩
theorem Pp(F:dH K "_law_key" "_law_key" (top 42) f fd)(T:fL K mg):bo P w K mg base dJ 1 f fd ["_law_counts_here"] (bZ K DE):=by
 refine iy F xH (λ ds M Q h=>?_) (λ bR A outer s H E ds M Q hr h=>?_)
 ·obtain⟨a,rfl,_⟩:=h;rfl
 ·obtain⟨as,rfl,hz,k⟩:=h;refine⟨_,(aj (aD (eB (aa (aS (Nb rfl) (by rfl) T.sum (by decide+kernel) (aa (ar 0) ae)) (aa (nM fR gs (by rfl) T.tuple (by decide+kernel) (tgs:=["_law_n"]) (fr:=[]) ⟨bM (by kernel_rfl),rfl,(λ _ _ h=>h),(bY (ar 0)),(bC (λ _ _ _ _ _=>(aY (i:=0) (show(["_law_n"]:List Str).Nodup by decide+kernel) rfl (Or.inl rfl))) (by decide)),(λ _ _ _ _ _=>bE),(λ _ _ _ _ _=>(bg MB ak (ar 0)))⟩) ae))))),?_⟩;walk_at "rd";refine IW ?_;walk_at "rd";refine gV (λ i zn M'=>M'=M/\zn=((as.map λ a=>0 - a).take i).map D.int) ⟨rfl,by simp⟩ (λ i zn M' hi h=>?_) (λ i d zn M' hd h=>?_) (λ zn M' h=>?_)
  ·obtain⟨_,rfl⟩:=h;rw[C2,A8];rw[C2]at hi;exact small (by omega)
  ·obtain⟨rfl,rfl⟩:=h;rw[x6]at hd;cases e:as[i]? with
   |none=>rw[e]at hd;cases hd
   |some a=>rw[e]at hd;cases hd;walk_at "rd";refine⟨rfl,?_⟩;rw[take_snoc (a:=0 - a) (by simp[e]),C4];rfl
  ·obtain⟨rfl,rfl⟩:=h;walk_at "rd";refine⟨by show 2<=sizeLine;decide,au ?_⟩;have e:(as.map λ a=>0 - a).take (as.map D.int).length=as.map λ a=>0 - a:=by rw[C2];exact j4 (by simp)
   rw[e];exact k
def Up(os:List Row):Prop:=os.Pairwise λ a b=>klt (vK a) (vK b)=true
set_option tactic.hygienic true in
theorem yg(rs:List Row):(once rs).Nodup:=by
 have:∀(rs zn:List Row),zn.Nodup->(rs.foldl iE zn).Nodup:=by
  intro rs
  induction rs with
  |nil=>intro zn h;exact h
  |cons r rs ih=>
   intro zn h;refine ih _ ?_;unfold iE;split
   ·exact h
   ·rename_i z;exact nodup_append.mpr ⟨h,by simp,λ a ha b hb e=>z ((e.trans (u4.mp hb))▸ha)⟩
 exact this rs [] .nil
theorem KS{a b:Row}(hl:a.length=b.length)(h1:klt (vK a) (vK b)=false)(h2:klt (vK b) (vK a)=false):a=b:=by
 unfold klt vK at h1 h2;dsimp only at h1 h2;by_cases e:a.sum=b.sum
 ·rw[N3 e]at h1;rw[N3 e.symm]at h2;have z:=rg _ _ (by simp[hl]) h1 h2;exact(List.map_inj_right (λ x y h=>by omega)).mp z
 ·rw[N4 e]at h1;rw[N4 (L9 e)]at h2;have h1:=u9 h1;have h2:=u9 h2;omega
theorem RL{os:List Row}(h1:os.Nodup)(h2:os.Pairwise Vh)(hl:∀r∈os,r.length=n):Up os:=by
 refine(h1.and h2).imp_of_mem λ{a b} ha hb ⟨ne,bf⟩=>?_;cases e:klt (vK a) (vK b)with
 |true=>rfl
 |false=>exact absurd (KS ((hl a ha).trans (hl b hb).symm) e bf) ne
def uT:gC:=λ ds M Q=>∃(x:D) (rs:List (List Int)),ds=[x]/\(x=.tup (rs.map row)\/∃l,x=.ref l/\M l=some (.lst (rs.map row)))/\rs.length < 64/\(∀r∈rs,r.length<=1000)/\∀out:List (List Int),(∀r∈out,r∈rs)->out.length<=rs.length->out.Nodup->out.Pairwise Vh->Q (.tup (out.map row)) M
theorem mB:aH ["_law_sums"] ["_law_sums"] (ao (top 44)):=⟨rfl,rfl,rfl,by decide+kernel,rfl,by decide+kernel,by decide+kernel⟩
theorem Fg(F:dH K "_law_in_order" "_law_in_order" (top 44) f fd)(T:fL K mg)(Cs:bK P w K mg base 1 "_law_key" ["_law_counts_here"] DE):bo P w K mg base dJ 4 f fd ["_law_sums"] (bZ K uT):=by
 refine iy F mB (λ ds M Q h=>?_) (λ bR A outer s H E ds M Q hr h=>?_)
 ·obtain⟨a,rs,rfl,_⟩:=h;rfl
 ·obtain⟨x,rs,rfl,hx,HW,hz,k⟩:=h;refine⟨_,(aj (aD (cO fR (by rfl) T.tuple (by decide+kernel) (aa (xt Cs (hr.mono (by decide)) (by rfl) T.sorted (by rfl) T.dict (by rfl) (nO (tgs:=["_law_counts_here"]) (fr:=[]) ⟨bM (by kernel_rfl),rfl,(λ _ _ h=>h),(bY (ar 0)),(bC (λ _ _ _ _ _=>(aY (i:=0) (show(["_law_counts_here"]:List Str).Nodup by decide+kernel) rfl (Or.inl rfl))) (by decide)),(λ _ _ _ _ _=>bE),(λ _ _ _ _ _=>(eB (aa (ar 0) (aa mx ae))))⟩)) ae)))),?_⟩;have go:∀(N:bH),(∀(p:ww) (out:List (List Int)) (M':Mem),(∀b o,M b=some o->M' b=some o)->M' p=some (.lst (out.map row))->(∀r∈out,r∈rs)->out.length<=rs.length->out.Nodup->out.Pairwise Vh->N (.ref p) M')->∀p,M p=none->ug DE (.ref p) (ai M p (.lst (rs.map pairD))) N:=by
   intro N hN p hp;have h0:=PB (λ b o e=>e) hp (.lst (rs.map pairD));refine⟨p,rs,true,λ kG M'=>M'=ai M p (.lst (rs.map pairD))/\kG.length<=(once rs).length/\∀i k,kG[i]?=some k->Mc true M' k (vK ((once rs).getD i [])),λ i=>vK ((once rs).getD i []),rfl,af,HW,⟨rfl,K3 _,λ i k e=>by simp at e⟩,?_,?_⟩
   ·rintro kG M' e ⟨rfl,h2,h3⟩ he;rw[x6]at he;cases er:(once rs)[kG.length]? with
    |none=>rw[er]at he;cases he
    |some r=>
     rw[er]at he;cases he;have kH:kG.length < (once rs).length:=(i5.mp er).1;refine⟨r,rfl,hz r (vB (l8 er)),rfl,?_,λ i k e=>?_⟩
     ·rw[q8,k8];omega
     ·by_cases hi:i < kG.length
      ·rw[g9 hi]at e;exact h3 i k e
      ·rw[c7 (by omega)]at e;have Yk:i - kG.length=0:=by have:=(i5.mp e).1;simp at this;omega
       rw[Yk]at e;have e:D.tup [.int r.sum,row (r.map λ a=>0 - a)]=k:=by simpa using e
       have hik:i=kG.length:=by omega
       subst hik;show k=.tup [.int (vK ((once rs).getD kG.length [])).1,.tup ((vK ((once rs).getD kG.length [])).2.map D.int)];rw[<- e,c8,er];rfl
   ·rintro kG M' ⟨rfl,h2,h3⟩ hl;refine⟨h3,λ p2 outD fB ho=>?_⟩;obtain⟨out,rfl,o1,o2⟩:=Fc (rs:=once rs) ho;exact hN p2 out _ (PB h0 fB _) af (λ r hr=>vB (o1.mem_iff.mp hr)) (by rw[o1.length_eq];exact FI rs) (o1.nodup_iff.mpr (yg rs)) o2
  have fin:∀(p:ww) (out:List (List Int)) (M':Mem),(∀b o,M b=some o->M' b=some o)->M' p=some (.lst (out.map row))->(∀r∈out,r∈rs)->out.length<=rs.length->out.Nodup->out.Pairwise Vh->uf [.ref p] M' (fin2 Q):=λ p out M' h1 h2 h3 h4 h5 h6=>kY h2 (back h1 (k out h3 h4 h5 h6));rcases hx with rfl|⟨l,rfl,hl⟩
  ·walk_at "rd";refine gV (λ i zn M'=>M'=M/\zn=(rs.take i).map pairD) ⟨rfl,by simp⟩ (λ i zn M' hi h=>?_) (λ i d zn M' hd h=>?_) (λ zn M' h=>?_)
   ·obtain⟨_,rfl⟩:=h;rw[C2,A8];exact small (by omega)
   ·obtain⟨rfl,rfl⟩:=h;rw[x6]at hd;cases e:rs[i]? with
    |none=>rw[e]at hd;cases hd
    |some r=>rw[e]at hd;cases hd;walk_at "rd";refine⟨by show 2<=sizeLine;decide,rfl,?_⟩;rw[take_snoc e,C4];rfl
   ·obtain⟨rfl,rfl⟩:=h;rw[C2,A5];intro p hp;exact go _ fin p hp
  ·walk_at "rd";refine Hj (ds:=rs.map row) (λ i zn M'=>M'=M/\zn=(rs.take i).map pairD) ⟨rfl,by simp⟩ (λ i zn M' hi h=>?_) (λ i zn M' hi h=>?_) (λ i d zn M' hd h=>?_) (λ zn M' h=>?_)
   ·obtain⟨rfl,_⟩:=h;exact hl
   ·obtain⟨_,rfl⟩:=h;rw[C2,A8];exact small (by omega)
   ·obtain⟨rfl,rfl⟩:=h;rw[x6]at hd;cases e:rs[i]? with
    |none=>rw[e]at hd;cases hd
    |some r=>rw[e]at hd;cases hd;walk_at "rd";refine⟨by show 2<=sizeLine;decide,rfl,?_⟩;rw[take_snoc e,C4];rfl
   ·obtain⟨rfl,rfl⟩:=h;rw[C2,A5];intro p hp;exact go _ fin p hp
theorem qm:aH ["_law_heaps","_law_many"] ["_law_heaps","_law_many"] (ao (top 43)):=⟨rfl,rfl,rfl,by decide+kernel,rfl,by decide+kernel,by decide+kernel⟩
theorem BE(F:dH K "_law_counts" "_law_counts" (top 43) f fd)(T:fL K mg):bo P w K mg base dJ 1 f fd ["_law_heaps","_law_many"] (bZ K oh):=by
 refine iy F qm (λ ds M Q h=>?_) (λ bR A outer s H E ds M Q hr h=>?_)
 ·obtain⟨a,b,c,rfl,_⟩:=h;rfl
 ·obtain⟨a,ns,n,rfl,hM,hz,k⟩:=h;refine⟨_,(aj (aD (nM fR gs (by rfl) T.tuple (by decide+kernel) (tgs:=["_law_h"]) (fr:=[0]) ⟨bM (by kernel_rfl),rfl,(λ _ _ h=>h),(bV rfl T.range (aa (ar 1) ae)),(bC (λ _ _ _ _ _=>(aY (i:=0) (show(["_law_h","_law_heaps"]:List Str).Nodup by decide+kernel) rfl (Or.inl rfl))) (by decide)),(λ _ _ _ _ _=>bE),(λ _ _ _ _ _=>(ig j0 PySem.F.slot_list_count PySem.F.type_list_count (KH hr.units) (ar 1) (aa (ar 0) ae)))⟩))),?_⟩;walk_at "rd";refine⟨dX (by omega) (by omega),?_⟩;rw[x9];refine kr (xs:=List.range n) (enc:=Sd) (λ h=>D.int ((ns.count (h:Int):Nat):Int)) (by simp;omega) (λ i x N hx hN=>?_) ?_
  ·walk_at "rd";refine⟨⟨rfl,_,hM⟩,?_⟩;walk_at "rd";refine Bs hM ?_;rw[G5];exact hN
  ·refine au ?_;unfold row lI at k;rw[G9]at k;exact k
theorem g_:aH ["_law_flow_here","_law_many","_law_most","_law_heaps"] ["_law_flow_here","_law_many","_law_most"] (ao (top 45)):=⟨rfl,rfl,rfl,by decide+kernel,rfl,by decide+kernel,by decide+kernel⟩
theorem Kk(F:dH K "_law_some_sum" "_law_some_sum" (top 45) f fd)(T:fL K mg)(aE:bK P w K mg base 1 "_law_pick" ["_law_flow_here","_law_many"] fZ)(gU:bK P w K mg base 1 "_law_counts" ["_law_heaps","_law_many"] oh):bo P w K mg base dJ 2 f fd ["_law_flow_here","_law_many","_law_most"] (bZ K DD):=by
 refine iy F g_ (λ ds M Q h=>?_) (λ bR A outer s H E ds M Q hr h=>?_)
 ·obtain⟨a,cc,b,c,rfl,_⟩:=h;rfl
 ·obtain⟨a,cc,n,m,rfl,hF,hz,m0,m1,k⟩:=h;refine⟨_,(ag (cI (i:=3) g_.nd rfl (Or.inl rfl) (tgs:=["_law_k"]) (fr:=[0,1]) ⟨bM (by kernel_rfl),rfl,(λ _ _ h=>h),(bV rfl T.range (aa (bg dR (aS (Nc rfl) (by rfl) T.min (by decide+kernel) (aa (ar 1) (aa ak ae))) (aK aE (hr.mono (by decide)) (by rfl) (aa (ar 0) (aa (bg a_ (ar 2) ak) ae)))) ae)),(bC (λ _ _ _ _ _=>(aY (i:=0) (show(["_law_k","_law_flow_here","_law_many"]:List Str).Nodup by decide+kernel) rfl (Or.inl rfl))) (by decide)),(λ _ _ _ _ _=>bE),(λ _ _ _ _ _=>(aK aE (hr.mono (by decide)) (by rfl) (aa (ar 1) (aa (ar 2) ae))))⟩)
 (aj (aD (aK gU (hr.mono (by decide)) (by rfl) (aa (ar 3) (aa (ar 1) ae)))))),?_⟩
  walk_at "rd";refine⟨a,cc,m+1,rfl,hF,by omega,by omega,λ d o h0 h1 CT=>?_⟩;have Ql:(if(1:Int) < (n:Int)then(1:Int)else(n:Int))=if 1<=n then 1 else 0:=by split <;> split <;> omega
  rw[Ql];refine jT (yI (by split <;> omega) (by split <;> omega)) ?_;have hle:(if 1<=n then(1:Int)else 0)*d<=m/\0<=(if 1<=n then(1:Int)else 0)*d/\(n=0->(if 1<=n then(1:Int)else 0)*d=0):=by
   split
   ·rw[Int.one_mul];exact⟨by omega,h0,λ z=>by omega⟩
   ·rw[Int.zero_mul];exact⟨by omega,by omega,λ _=>rfl⟩
  generalize(if 1<=n then(1:Int)else 0)*d=c at hle ⊢;obtain⟨c1,c0,cn⟩:=hle;refine⟨dX (by omega) (by omega),?_⟩;have F1:Fl a cc M _:=Fl.pick CT;refine uj (xs:=List.range c.toNat) (enc:=Sd) D.int (λ ns M'=>Fl a cc M M'/\∀x∈ns,0<=x/\x < (n:Int)) (by simp;omega) ⟨F1,λ x h=>by cases h⟩ (λ i x ys M' N hx hy h hN=>?_) (λ ns M' hl h=>?_)
  ·obtain⟨F2,h2⟩:=h;have hi:=(i5.mp hx).1;rw[y7]at hi;have hn:n≠0:=λ z=>by have:=cn z;omega
   walk_at "rd";refine⟨a,cc,n,rfl,F2.bc,by omega,by omega,λ d2 o2 Uv h3 HV=>hN _ _ ⟨F2.trans (Fl.pick HV),λ x hx=>?_⟩⟩;rcases C3.mp hx with q|q
   ·exact h2 x q
   ·have:x=d2:=by simpa using q
    omega
  ·obtain⟨F2,h2⟩:=h;rw[y7]at hl;intro p hp;walk_at "rd";refine⟨p,ns,n,rfl,af,hz,au (k ns _ (by omega) h2 (F2.trans (Fl.put F2.bc hp)))⟩
theorem cR:aH ["_law_flow_here","_law_many","_law_found","_law_h","_law_form"] ["_law_flow_here","_law_many"] (ao (top 46)):=⟨rfl,rfl,rfl,by decide+kernel,rfl,by decide+kernel,by decide+kernel⟩
theorem Fi(F:dH K "_law_great_sum" "_law_great_sum" (top 46) f fd)(T:fL K mg)(aE:bK P w K mg base 1 "_law_pick" ["_law_flow_here","_law_many"] fZ):bo P w K mg base dJ 2 f fd ["_law_flow_here","_law_many"] (bZ K zq):=by
 refine iy F cR (λ ds M Q h=>?_) (λ bR A outer s H E ds M Q hr h=>?_)
 ·obtain⟨a,cc,b,rfl,_⟩:=h;rfl
 ·obtain⟨a,cc,n,rfl,hF,hz,k⟩:=h;refine⟨_,(ag (aU (i:=2) cR.nd rfl (Or.inl rfl) (b_ ae))
 (ag (eY B8 rfl (bV rfl T.range (aa (ar 1) ae)) (cN (i:=3) cR.nd rfl (Or.inl rfl))
 (ag (aU (i:=4) cR.nd rfl (Or.inl rfl) (aK aE (hr.mono (by decide)) (by rfl) (aa (ar 0) (aa ak ae))))
 (aj (gF (ig j0 i7 i9 iA (ar 2) (aa (bO bw (b_ (aa ak (aa ak (aa (aK aE (hr.mono (by decide)) (by rfl) (aa (ar 0) (aa ak ae))) (aa (aK aE (hr.mono (by decide)) (by rfl) (aa (ar 0) (aa (bg qX ak ak) ae))) (aa (bg MB (bg qX ak ak) (aK aE (hr.mono (by decide)) (by rfl) (aa (ar 0) (aa (bg qX ak ak) ae)))) ae)))))) (ar 4) (λ _ _=>rfl)) ae))))))
 (aj (aD (cO fR (by rfl) T.tuple (by decide+kernel) (aa (ar 2) ae)))))),?_⟩
  walk_at "rd";refine⟨by decide,λ p hp=>?_⟩;have BZ:=(hF.ne hp).1;walk_at "rd";refine⟨dX (by omega) (by omega),?_⟩;rw[x9];refine lC (λ i δ M'=>∃(v1 v2:Option D) (ms:List Int),δ=[some (.ref a),some (.int n),some (.ref p),v1,v2]/\(ms.length=i/\∀x∈ms,0<=x/\x<=10^30)/\M' p=some (.lst (ms.map D.int))/\Fl a cc M M') ⟨none,none,[],rfl,⟨rfl,λ x h=>by cases h⟩,af,Fl.put hF hp⟩ (λ i d δ M' hd h=>?_) (λ δ M' h=>?_)
  ·obtain⟨v1,v2,ms,rfl,⟨h2,T7⟩,h3,F1⟩:=h;obtain⟨hi,rfl⟩:=dQ hd;walk_at "rd";refine⟨a,cc,5,rfl,F1.bc,by decide,by decide,λ d1 o1 a0 a1 CT=>?_⟩;have F2:=F1.trans (Fl.pick CT);walk_at "rd";refine⟨⟨rfl,_,by rw[aq BZ];exact h3⟩,?_⟩;walk_at "rd";refine⟨a,cc,6,rfl,CT,by decide,by decide,λ d2 o2 b0 b1 HV=>?_⟩;have F3:=F2.trans (Fl.pick HV);walk_at "rd";refine Br ⟨by decide,by decide,by decide⟩ ?_;walk_at "rd";refine⟨a,cc,_,rfl,HV,by decide,by decide,λ d3 o3 c0 c1 HU=>?_⟩;have F4:=F3.trans (Fl.pick HU);walk_at "rd";refine Br ⟨by decide,by decide,by decide⟩ ?_;walk_at "rd";refine Br ⟨by decide,by decide,by decide⟩ ?_;walk_at "rd";refine⟨a,cc,_,rfl,HU,by decide,by decide,λ d4 o4 e0 e1 MP=>?_⟩;have F5:=F4.trans (Fl.pick MP);walk_at "rd";refine⟨small (by show 5<=10000;decide),λ q hq=>?_⟩;have Ru:ai (ai (ai (ai M' a o1) a o2) a o3) a o4 p=some (.lst (ms.map D.int)):=by rw[aq BZ,aq BZ,aq BZ,aq BZ];exact h3
   have X9:p≠q:=λ z=>by subst z;rw[Ru]at hq;cases hq
   generalize ai (ai (ai (ai M' a o1) a o2) a o3) a o4=M5 at*;walk_at "rd";obtain⟨x,XY,hx⟩:=wR (ns:=[0,1,d2,d3,_]) a0 (by show d1 < 5;exact a1);refine cJ af hx ?_;walk_at "rd";refine oB (by rw[aq X9];exact Ru) (by rw[C2];exact s9 (show ms.length<=1000 by omega) (by decide)) ?_;walk_at "rd";refine⟨_,_,ms++[x],rfl,⟨by simp[h2],λ y hy=>?_⟩,by rw[af,C4];rfl,(F5.trans (Fl.put MP hq)).own hF hp⟩;rcases C3.mp hy with q|q
   ·exact T7 y q
   ·have e:y=x:=by simpa using q
    subst e;have t6:(10:Int)^(6:Int).toNat=1000000:=by decide
    have Mk:(10:Int)^(30:Int).toNat=1000000000000000000000000000000:=by decide
    have WU:(10:Int)^30=1000000000000000000000000000000:=by decide
    rw[t6]at c1 e1;rw[Mk]at XY;rw[WU];simp only[G0,not_mem_nil,or_false]at XY;rcases XY with z|z|z|z|z <;> omega
  ·obtain⟨v1,v2,ms,rfl,⟨h2,T7⟩,h3,F1⟩:=h;rw[bP]at h2;walk_at "rd";exact kY h3 (au (k ms _ h2 T7 F1))
theorem AE:∀j∈List.range 26,To (mL j)=true/\mL j∉du:=by decide+kernel
theorem LQ(h:j < 26):Nm (mL j):=.inl ⟨zT (AE j (mem_range.mpr h)).1,(AE j (mem_range.mpr h)).2⟩
def og:gC:=λ ds M Q=>∃(f c:ww) (n:Nat),ds=[.ref f,.int n]/\Flow M f c/\n<=12/\∀(p:ww) (zs:List Str) (M':Mem),zs.length=n->M p=none->M' p=some (.lst (zs.map D.str))->Fl f c M M'->(∀z∈zs,Nm z)->zs.Nodup->Q (.ref p) M'
theorem cw:aH ["_law_flow_here","_law_many","_law_names_here","_law_k","_law_name_here","_law_spare"] ["_law_flow_here","_law_many"] (ao (top 41)):=⟨rfl,rfl,rfl,by decide+kernel,rfl,by decide+kernel,by decide+kernel⟩
theorem Ff(F:dH K "_law_names" "_law_names" (top 41) f fd)(T:fL K mg)(yG:bK P w K mg base 2 "_law_name" ["_law_flow_here"] R7):bo P w K mg base dJ 3 f fd ["_law_flow_here","_law_many"] (bZ K og):=by
 refine iy F cw (λ ds M Q h=>?_) (λ bR A outer s H E ds M Q hr h=>?_)
 ·obtain⟨a,cc,b,rfl,_⟩:=h;rfl
 ·obtain⟨a,cc,n,rfl,hF,hz,k⟩:=h;refine⟨_,(ag (aU (i:=2) cw.nd rfl (Or.inl rfl) (b_ ae))
 (ag (eY B8 rfl (bV rfl T.range (aa (ar 1) ae)) (cN (i:=3) cw.nd rfl (Or.inl rfl))
 (ag (aU (i:=4) cw.nd rfl (Or.inl rfl) (aK yG (hr.mono (by decide)) (by rfl) (aa (ar 0) ae)))
 (ag (aU (i:=5) cw.nd rfl (Or.inl rfl) ak)
 (ag (uN B8 (aL (hU hr.units) (ar 4) (ar 2) rfl)
 (ag (aU (i:=4) cw.nd rfl (Or.inl rfl) (bg dR (bO bw aX (bg lX (ar 5) ak) (λ _ _=>rfl)) (bg a_ ak (bg tG (ar 5) ak))))
 (aj (aU (i:=5) cw.nd rfl (Or.inl rfl) (bg a_ (ar 5) ak)))))
 (aj (gF (ig j0 i7 i9 iA (ar 2) (aa (ar 4) ae))))))))
 (aj (aD (ar 2))))),?_⟩
  walk_at "rd";refine⟨by decide,λ p hp=>?_⟩;have BZ:=(hF.ne hp).1;walk_at "rd";refine⟨dX (by omega) (by omega),?_⟩;rw[x9];refine lC (λ i δ M'=>∃(v1 v2 v3:Option D) (zs:List Str),δ=[some (.ref a),some (.int n),some (.ref p),v1,v2,v3]/\zs.length=i/\M' p=some (.lst (zs.map D.str))/\Fl a cc M M'/\(∀z∈zs,Nm z)/\zs.Nodup) ⟨none,none,none,[],rfl,rfl,af,Fl.put hF hp,λ z h=>(by cases h),.nil⟩ (λ i d δ M' hd h=>?_) (λ δ M' h=>?_)
  ·obtain⟨v1,v2,v3,zs,rfl,h2,h3,F1,Qj,Gs⟩:=h;obtain⟨hi,rfl⟩:=dQ hd;walk_at "rd";refine⟨a,cc,rfl,F1.bc,λ z M1 hz6 F2=>?_⟩;have F3:=F1.trans F2;have h3:=F2.mv p _ BZ h3;walk_at "rd";refine u_ ⟨λ m δ M'=>M'=M1/\∃(z:Str) (sp:Nat),δ=[some (.ref a),some (.int n),some (.ref p),some (.int (0+(i:Nat))),some (.str z),some (.int sp)]/\m=zs.length+2 - sp/\sp<=zs.length+1/\Nm z/\(0 < sp->z=mL (sp - 1))/\∀j,j+1 < sp->mL j∈zs,⟨_,rfl,z,0,rfl,rfl,K3 _,hz6,λ q=>absurd q (by omega),λ j q=>absurd q (by omega)⟩,?_⟩;rintro m δ M' ⟨rfl,z,sp,rfl,rfl,Gk,hzn,MJ,Rn⟩;walk_at "rd";refine zA h3 (iG z zs) ?_;refine bB (λ jF=>?_) (λ jF=>?_)
   ·have jF:z∈zs:=by simpa using jF
    have all:∀j,j < sp->mL j∈zs:=λ j hj=>by
     by_cases e:j+1 < sp
     ·exact Rn j e
     ·have:j=sp - 1:=by omega
      rw[this,<- MJ (by omega)];exact jF
    have Rq:sp<=zs.length:=Hl (by omega) all;refine⟨λ δ' M2=>M2=M'/\δ'=[some (.ref a),some (.int n),some (.ref p),some (.int (0+(i:Nat))),some (.str (mL sp)),some (.int ((sp+1:Nat):Int))],?_,?_⟩
    ·rintro δ' M2 ⟨rfl,rfl⟩;exact⟨zs.length+2 - (sp+1),by omega,rfl,mL sp,sp+1,rfl,rfl,by omega,LQ (by omega),λ _=>rfl,λ j hj=>all j (by omega)⟩
    ·walk_at "rd";have em:(sp:Int) % 26=(sp:Int):=Int.emod_eq_of_lt (by omega) (by omega);have ed:(sp:Int) / 26=0:=Int.ediv_eq_zero_of_lt (by omega) (by omega);have bl:wL.length=26:=by decide+kernel
     have hc:fE (Str.ofString "zyxwvutsrqponmlkjihgfedcba").cps.toList ((sp:Int) % 26)=some (wL.getD sp 0):=by
      rw[em];refine cH ?_;show wL[sp]?=_;rw[c8];have:sp < wL.length:=by omega
      simp[this]
     refine k_ (by decide+kernel) hc ?_;walk_at "rd";rw[ed];refine jS (yh _) ?_;walk_at "rd";exact⟨rfl,rfl⟩
   ·walk_at "rd";refine⟨⟨rfl,_,h3⟩,?_⟩;walk_at "rd";refine oB h3 (by rw[C2];exact s9 (show zs.length<=12 by omega) (by decide)) ?_;walk_at "rd";exact⟨_,_,_,zs++[z],rfl,by simp[h2],by rw[af,C4];rfl,F3.own hF hp,(λ y hy=>by
     rcases C3.mp hy with q|q
     ·exact Qj y q
     ·rw[u4.mp q];exact hzn),nodup_append.mpr ⟨Gs,by simp,λ x hx y hy e=>(by simpa using jF:z∉zs) ((e.trans (u4.mp hy))▸hx)⟩⟩
  ·obtain⟨v1,v2,v3,zs,rfl,h2,h3,F1,Qj,Gs⟩:=h;rw[bP]at h2;walk_at "rd";exact au (k p zs _ h2 hp h3 F1 Qj Gs)
theorem sM:aH ["_law_found","_law_due_here"] ["_law_found","_law_due_here"] (ao (top 39)):=⟨rfl,rfl,rfl,by decide+kernel,rfl,by decide+kernel,by decide+kernel⟩
theorem Pt(F:dH K "_law_alike" "_law_alike" (top 39) f fd)(T:fL K mg)(Yg:mg "_law_alike"=some (.ref f))(Us:Binds K fd ["_law_found","_law_due_here"] []):∀k,bo P w K mg base dJ (k+1) f fd ["_law_found","_law_due_here"] (bZ K (zu k)):=by
 intro k
 induction k with
 |zero=>exact Lu IG
 |succ k ih=>
 have bN:=br.of F ih Yg Us;rw[show k+1+1=k+1+1 by omega];clear ih;refine iy F sM (λ ds M Q h=>?_) (λ bR A outer s H E ds M Q hr h=>?_)
 ·obtain⟨x,y,rfl,_⟩:=h;rfl
 ·obtain⟨x,y,rfl,hs,k⟩:=h;refine⟨_,(ag (bh (aL zN (ar 1) gn (aQ _))
 (aj (aD (ja zN (ar 0) gn (aQ _))))
 aJ)
 (ag (bh (gj (dM (aS (hX T.tV) (by rfl) T.isinstance (by decide+kernel) (aa (ar 1) (aa (mw (n:="bool") (by rfl) T.bool (by decide+kernel)) ae)))) (fU (dM (aS (hX T.tV) (by rfl) T.isinstance (by decide+kernel) (aa (ar 0) (aa (mw (n:="bool") (by rfl) T.bool (by decide+kernel)) ae)))))).pt
 (aj (aD (w_and (aS (hX T.tV) (by rfl) T.isinstance (by decide+kernel) (aa (ar 1) (aa (mw (n:="bool") (by rfl) T.bool (by decide+kernel)) ae))) (w_and (aS (hX T.tV) (by rfl) T.isinstance (by decide+kernel) (aa (ar 0) (aa (mw (n:="bool") (by rfl) T.bool (by decide+kernel)) ae))) (lQ (ja (cq hr.units) (ar 0) (ar 1) (aQ _)))))))
 aJ)
 (ag (bh (dM (aS (hX T.MI) (by rfl) T.isinstance (by decide+kernel) (aa (ar 1) (aa (mw (n:="int") (by rfl) T.int (by decide+kernel)) ae))))
 (aj (aD (w_and (aS (hX T.MI) (by rfl) T.isinstance (by decide+kernel) (aa (ar 0) (aa (mw (n:="int") (by rfl) T.int (by decide+kernel)) ae))) (lQ (ja (cq hr.units) (ar 0) (ar 1) (aQ _))))))
 aJ)
 (ag (bh (dM (aS (hX T.MH) (by rfl) T.isinstance (by decide+kernel) (aa (ar 1) (aa (mw (n:="str") (by rfl) T.str (by decide+kernel)) ae))))
 (aj (aD (w_and (aS (hX T.MH) (by rfl) T.isinstance (by decide+kernel) (aa (ar 0) (aa (mw (n:="str") (by rfl) T.str (by decide+kernel)) ae))) (lQ (ja (cq hr.units) (ar 0) (ar 1) (aQ _))))))
 aJ)
 (ag (bh (gj (aL (vn hr.units) (aS (hX T.Ag) (by rfl) T.isinstance (by decide+kernel) (aa (ar 1) (aa (mw (n:="tuple") (by rfl) T.tuple (by decide+kernel)) ae))) (aS (hX T.Ag) (by rfl) T.isinstance (by decide+kernel) (aa (ar 0) (aa (mw (n:="tuple") (by rfl) T.tuple (by decide+kernel)) ae))) (aQ _)) (fU (aL (vn hr.units) (aS (hX T.Gj) (by rfl) T.isinstance (by decide+kernel) (aa (ar 1) (aa (mw (n:="list") (by rfl) T.list (by decide+kernel)) ae))) (aS (hX T.Gj) (by rfl) T.isinstance (by decide+kernel) (aa (ar 0) (aa (mw (n:="list") (by rfl) T.list (by decide+kernel)) ae))) (aQ _)))).pt
 (aj (aD mx))
 aJ)
 (aj (aD (w_and (ja (cq hr.units) (aS cT (by rfl) T.len (by decide+kernel) (aa (ar 0) ae)) (aS cT (by rfl) T.len (by decide+kernel) (aa (ar 1) ae)) (aQ _)) (lQ (nN (AF rfl) mQ (by rfl) T.all (by decide+kernel) (tgs:=["_law_k"]) (fr:=[0,1]) ⟨bM (by kernel_rfl),rfl,(λ _ _ h=>h),(bV rfl T.range (aa (aS cT (by rfl) T.len (by decide+kernel) (aa (ar 1) ae)) ae)),(bC (λ _ _ _ _ _=>(aY (i:=0) (show(["_law_k","_law_found","_law_due_here"]:List Str).Nodup by decide+kernel) rfl (Or.inl rfl))) (by decide)),(λ _ _ _ _ _=>bE),(λ _ _ _ _ _=>(aK bN (hr.mono (by omega)) (by rfl) (aa (bO bw (ar 1) (ar 0) (λ _ _=>rfl)) (aa (bO bw (ar 2) (ar 0) (λ _ _=>rfl)) ae))))⟩)))))))))),?_⟩
  rcases hs with⟨rfl,hx⟩|⟨ds,es,rfl,rfl,hl,hz,hs⟩|⟨p,q,ds,es,rfl,rfl,hp,hq,hl,hz,hs⟩
  ·cases x with
   |bu=>rfl';refine jU ?_;rfl';refine jU ?_;rfl';exact au k
   |bl b=>rfl';refine gN (by simp[my]) ?_;rfl';refine bx (n:="bool") rfl (b:=true) (by decide) ?_;rfl';refine bx (n:="bool") rfl (b:=true) (by decide) ?_;rfl';refine bx (n:="bool") rfl (b:=true) (by decide) ?_;rfl';rw[D1 (rfl:b=b)];exact au k
   |int i=>rfl';refine gN (by simp[my]) ?_;rfl';refine bx (n:="int") rfl (b:=false) (by decide) ?_;rfl';refine bx (n:="int") rfl (b:=false) (by decide) ?_;rfl';refine bx (n:="int") rfl (b:=true) (by decide) ?_;rfl';refine bx (n:="int") rfl (b:=true) (by decide) ?_;rfl';rw[D1 (rfl:i=i)];exact au k
   |str z=>rfl';refine gN (by simp[my]) ?_;rfl';refine bx (n:="str") rfl (b:=false) (by decide) ?_;rfl';refine bx (n:="str") rfl (b:=false) (by decide) ?_;rfl';refine bx (n:="str") rfl (b:=false) (by decide) ?_;rfl';refine bx (n:="str") rfl (b:=true) (by decide) ?_;rfl';refine bx (n:="str") rfl (b:=true) (by decide) ?_;rfl';rw[D1 (rfl:z=z)];exact au k
   |_=>cases hx
  ·rfl';refine gN (by simp[my]) ?_;rfl';refine bx (n:="tuple") rfl (b:=false) (by decide) ?_;rfl';refine bx (n:="tuple") rfl (b:=false) (by decide) ?_;rfl';refine bx (n:="tuple") rfl (b:=false) (by decide) ?_;rfl';refine bx (n:="tuple") rfl (b:=false) (by decide) ?_;rfl';refine bx (n:="tuple") rfl (b:=true) (by decide) ?_;rfl';refine bx (n:="tuple") rfl (b:=true) (by decide) ?_;rfl';refine iP (λ h=>absurd rfl h) (λ _=>?_);rfl';refine bx (n:="tuple") rfl (b:=false) (by decide) ?_;rfl';refine bx (n:="tuple") rfl (b:=false) (by decide) ?_;rfl';refine iP (λ h=>absurd rfl h) (λ _=>?_);rfl';rw[hl];refine aN (λ _=>?_) (λ hl=>absurd rfl hl);rfl';refine⟨dX (by omega) (by omega),?_⟩;rw[x9];refine gV (λ i zn M'=>M'=M/\zn=(List.replicate i true).map D.bl) ⟨rfl,rfl⟩ (λ i zn M' hi h=>?_) (λ i d zn M' hd h=>?_) (λ zn M' h=>?_)
   ·obtain⟨_,rfl⟩:=h;rw[bP]at hi;simp only[C2,l0];exact small (by omega)
   ·obtain⟨rfl,rfl⟩:=h;obtain⟨hi,rfl⟩:=dQ hd;rfl';refine kZ (nF (by omega)) ?_;rfl';refine kZ (nF hi) ?_;refine⟨_,_,rfl,hs i _ _ (i8 (by omega)) (i8 hi),rfl,?_⟩;rw[replicate_succ',C4];rfl
   ·obtain⟨rfl,rfl⟩:=h;unfold rQ;rw[ku];show fin2 Q (.bl ((List.replicate _ true).all id)) _;rw[uB];exact au k
  ·have tp:my M (.ref p)=some "list":=by show(bb M p).map (λ _=>"list")=_;unfold bb;rw[hp];rfl
   have tq:my M (.ref q)=some "list":=by show(bb M q).map (λ _=>"list")=_;unfold bb;rw[hq];rfl
   rfl';refine gN (by rw[tq];simp) ?_;rfl';refine bx tq (b:=false) (by decide) ?_;rfl';refine bx tp (b:=false) (by decide) ?_;rfl';refine bx tq (b:=false) (by decide) ?_;rfl';refine bx tq (b:=false) (by decide) ?_;rfl';refine bx tq (b:=false) (by decide) ?_;rfl';refine bx tp (b:=false) (by decide) ?_;rfl';refine iP (λ h=>absurd rfl h) (λ _=>?_);rfl';refine bx tq (b:=true) (by decide) ?_;rfl';refine bx tp (b:=true) (by decide) ?_;rfl';refine iP (λ h=>absurd rfl h) (λ _=>?_);rfl';rw[hl];refine aN (λ _=>?_) (λ hl=>absurd rfl hl);rfl';refine⟨dX (by omega) (by omega),?_⟩;rw[x9];refine gV (λ i zn M'=>M'=M/\zn=(List.replicate i true).map D.bl) ⟨rfl,rfl⟩ (λ i zn M' hi h=>?_) (λ i d zn M' hd h=>?_) (λ zn M' h=>?_)
   ·obtain⟨_,rfl⟩:=h;rw[bP]at hi;simp only[C2,l0];exact small (by omega)
   ·obtain⟨rfl,rfl⟩:=h;obtain⟨hi,rfl⟩:=dQ hd;rfl';refine cJ hp (nF (by omega)) ?_;rfl';refine cJ hq (nF hi) ?_;refine⟨_,_,rfl,hs i _ _ (i8 (by omega)) (i8 hi),rfl,?_⟩;rw[replicate_succ',C4];rfl
   ·obtain⟨rfl,rfl⟩:=h;unfold rQ;rw[ku];show fin2 Q (.bl ((List.replicate _ true).all id)) _;rw[uB];exact au k
def zr:gC:=λ ds M Q=>∃(f c:ww) (i n:Nat),ds=[.ref f,.int i,.int n]/\Flow M f c/\i<=n/\n<=12/\∀(os:List (List Int)) (M':Mem),os.length<=12->(∀r∈os,HA n i r)->Up os->Fl f c M M'->Q (.tup (os.map row)) M'
theorem c_:aH ["_law_flow_here","_law_ahead","_law_many","_law_told","_law_k","_law_heaps"] ["_law_flow_here","_law_ahead","_law_many"] (ao (top 49)):=⟨rfl,rfl,rfl,by decide+kernel,rfl,by decide+kernel,by decide+kernel⟩
theorem mD(F:dH K "_law_any_sums" "_law_any_sums" (top 49) f fd)(T:fL K mg)(aE:bK P w K mg base 1 "_law_pick" ["_law_flow_here","_law_many"] fZ)(gU:bK P w K mg base 1 "_law_counts" ["_law_heaps","_law_many"] oh)(pT:bK P w K mg base 4 "_law_in_order" ["_law_sums"] uT):bo P w K mg base dJ 5 f fd ["_law_flow_here","_law_ahead","_law_many"] (bZ K zr):=by
 refine iy F c_ (λ ds M Q h=>?_) (λ bR A outer s H E ds M Q hr h=>?_)
 ·obtain⟨a,cc,b,c,rfl,_⟩:=h;rfl
 ·obtain⟨a,cc,i,n,rfl,hF,jF,hn,k⟩:=h;refine⟨_,(ag (aU (i:=3) c_.nd rfl (Or.inl rfl) (b_ ae))
 (ag (eY B8 rfl (bV rfl T.range (aa (bO bw (b_ (aa ak (aa ak (aa ak (aa ak (aa ak ae)))))) (aK aE (hr.mono (by decide)) (by rfl) (aa (ar 0) (aa ak ae))) (λ _ _=>rfl)) ae)) (cN (i:=4) c_.nd rfl (Or.inl rfl))
 (ag (cI (i:=5) c_.nd rfl (Or.inl rfl) (tgs:=["_law_j"]) (fr:=[0,1]) ⟨bM (by kernel_rfl),rfl,(λ _ _ h=>h),(bV rfl T.range (aa (bg dR (aS (Nc rfl) (by rfl) T.min (by decide+kernel) (aa (ar 1) (aa ak ae))) (aK aE (hr.mono (by decide)) (by rfl) (aa (ar 0) (aa ak ae)))) ae)),(bC (λ _ _ _ _ _=>(aY (i:=0) (show(["_law_j","_law_flow_here","_law_ahead"]:List Str).Nodup by decide+kernel) rfl (Or.inl rfl))) (by decide)),(λ _ _ _ _ _=>bE),(λ _ _ _ _ _=>(aK aE (hr.mono (by decide)) (by rfl) (aa (ar 1) (aa (ar 2) ae))))⟩)
 (aj (gF (ig j0 i7 i9 iA (ar 3) (aa (aK gU (hr.mono (by decide)) (by rfl) (aa (ar 5) (aa (ar 2) ae))) ae))))))
 (aj (aD (aK pT (hr.mono (by decide)) (by rfl) (aa (ar 3) ae)))))),?_⟩
  walk_at "rd";refine⟨by decide,λ p hp=>?_⟩;have BZ:=(hF.ne hp).1;have F0:Fl a cc M _:=Fl.put (o:=.lst []) hF hp;walk_at "rd";refine⟨by decide,λ q hq=>?_⟩;have F1:Fl a cc M _:=F0.trans (Fl.put (o:=.lst [.int 0,.int 1,.int 2,.int 6,.int 12]) F0.bc hq);have TQ:=(F0.bc.ne hq).1;have X9:p≠q:=λ z=>by rw[<- z,af]at hq;cases hq
  walk_at "rd";refine⟨a,cc,5,rfl,F1.bc,by decide,by decide,λ d o h0 h1 CT=>?_⟩;have F2:=F1.trans (Fl.pick CT);obtain⟨c,hcm,hc⟩:=wR (ns:=[0,1,2,6,12]) h0 (by show d < 5;exact h1);have abQ:0<=c/\c<=12:=by simp only[G0,not_mem_nil,or_false]at hcm;omega
  refine cJ (by rw[aq TQ];exact af) hc ?_;walk_at "rd";refine⟨dX (by omega) (by omega),?_⟩;have Ut:ai (ai (ai M p (.lst [])) q (.lst [.int 0,.int 1,.int 2,.int 6,.int 12])) a o p=some (.lst (([]:List (List Int)).map row)):=by rw[aq BZ,aq X9];exact af
  generalize ai (ai (ai M p (.lst [])) q (.lst [.int 0,.int 1,.int 2,.int 6,.int 12])) a o=M2 at*;refine lC (λ j δ M'=>∃(v1 v2:Option D) (rs:List (List Int)),δ=[some (.ref a),some (.int i),some (.int n),some (.ref p),v1,v2]/\rs.length=j/\(∀r∈rs,HA n i r)/\M' p=some (.lst (rs.map row))/\Fl a cc M M') ⟨none,none,[],rfl,rfl,(λ r h=>by cases h),Ut,F2⟩ (λ j d δ M' hd h=>?_) (λ δ M' h=>?_)
  ·obtain⟨v1,v2,rs,rfl,X8,TH,h3,F3⟩:=h;obtain⟨hj,rfl⟩:=dQ hd;walk_at "rd";refine⟨a,cc,5,rfl,F3.bc,by decide,by decide,λ d o h0 h1 MP=>?_⟩;have F4:=F3.trans (Fl.pick MP);have Ql:(if(1:Int) < (i:Int)then(1:Int)else(i:Int))=if 1<=i then 1 else 0:=by split <;> split <;> omega
   rw[Ql];refine jT (yI (by split <;> omega) (by split <;> omega)) ?_;have hle:(if 1<=i then(1:Int)else 0)*d<=4/\0<=(if 1<=i then(1:Int)else 0)*d/\(i=0->(if 1<=i then(1:Int)else 0)*d=0):=by
    split
    ·rw[Int.one_mul];exact⟨by omega,h0,λ z=>by omega⟩
    ·rw[Int.zero_mul];exact⟨by omega,by omega,λ _=>rfl⟩
   generalize(if 1<=i then(1:Int)else 0)*d=c2 at hle ⊢;obtain⟨c1,c0,cn⟩:=hle;refine⟨dX (by omega) (by omega),?_⟩;have h4:ai M' a o p=some (.lst (rs.map row)):=by rw[aq BZ];exact h3
   refine uj (xs:=List.range c2.toNat) (enc:=Sd) D.int (λ ns M'=>Fl a cc M M'/\M' p=some (.lst (rs.map row))/\∀x∈ns,0<=x/\x < (i:Int)) (by simp;omega) ⟨F4,h4,λ x h=>by cases h⟩ (λ jj x ys M' N hx hy h hN=>?_) (λ ns M' hl h=>?_)
   ·obtain⟨F2,h3,h2⟩:=h;have hi:=(i5.mp hx).1;rw[y7]at hi;have hn:i≠0:=λ z=>by have:=cn z;omega
    walk_at "rd";refine⟨a,cc,i,rfl,F2.bc,by omega,by omega,λ d2 o2 Uv Ru HV=>hN _ _ ⟨F2.trans (Fl.pick HV),by rw[aq BZ];exact h3,λ x hx=>?_⟩⟩;rcases C3.mp hx with q|q
    ·exact h2 x q
    ·have:x=d2:=by simpa using q
     omega
   ·obtain⟨F2,h3,h2⟩:=h;rw[y7]at hl;intro p2 fB;have TV:p≠p2:=λ z=>by subst z;rw[h3]at fB;cases fB
    walk_at "rd";refine⟨⟨rfl,_,by rw[aq TV];exact h3⟩,?_⟩;walk_at "rd";refine⟨p2,ns,n,rfl,af,by omega,?_⟩;walk_at "rd";refine oB (by rw[aq TV];exact h3) (by rw[C2];exact s9 (show rs.length<=12 by omega) (by decide)) ?_;walk_at "rd";refine⟨_,_,rs++[lI ns n],rfl,by simp[X8],λ r hr=>?_,by rw[af,C4];rfl,(F2.trans (Fl.put F2.bc fB)).own hF hp⟩;rcases C3.mp hr with q|q
    ·exact TH r q
    ·have e:r=lI ns n:=by simpa using q
     subst e;refine⟨wG _ _,wF,?_,Hc λ x hx=>(h2 x hx).2⟩;have:=Hd (ns:=ns) (n:=n);omega
  ·obtain⟨v1,v2,rs,rfl,X8,TH,h3,F3⟩:=h;rw[bP]at X8;walk_at "rd";refine⟨_,rs,rfl,.inr ⟨p,rfl,h3⟩,by omega,λ r hr=>by have:=(TH r hr).len;omega,λ out ho Zz Gs hbf=>?_⟩;exact au (k out _ (by omega) (λ r hr=>TH r (ho r hr)) (RL Gs hbf λ r hr=>(TH r (ho r hr)).len) F3)
structure Z6(g:List dG):Prop where
 nm:∀h∈g,Nm h.1
 nd:(g.map (·.1)).Nodup
theorem Kv{uH:List (List Row)}(h:zs.length=uH.length)(h1:∀z∈zs,Nm z)(h2:zs.Nodup):Z6 (zs.zip uH):=
 ⟨λ p hp=>h1 _ (C8 hp).1,by rw[map_fst_zip (by omega)];exact h2⟩
def zt:gC:=λ ds M Q=>∃(f c:ww) (m:Nat),ds=[.ref f,.int m]/\Flow M f c/\m<=12/\∀(n:Nat) (g:List dG) (M':Mem),n<=m->Vc n g->Z6 g->(∀h∈g,Up h.2/\h.2.length<=12)->Fl f c M M'->Q (dj g) M'
theorem Lq{uH:List (List (List Int))}(hn:n<=12)(hz:zs.length=n)(ho:uH.length=n)(h:∀i os,uH[i]?=some os->os.length<=12/\∀r∈os,HA n i r):Vc n (zs.zip uH):=by
 refine⟨by rw[length_zip];omega,hn,λ i hi=>?_⟩;have e:(zs.zip uH).getD i X'=(zs[i]'(by omega),uH[i]'(by omega)):=by rw[c8,i8 (by rw[length_zip];omega)];simp
 rw[e];have:=h i _ (i8 (by omega));exact⟨by have:=this.1;show(uH[i]'_).length<=63;omega,this.2⟩
theorem eK:aH ["_law_flow_here","_law_most","_law_many","_law_names_here"] ["_law_flow_here","_law_most"] (ao (top 50)):=⟨rfl,rfl,rfl,by decide+kernel,rfl,by decide+kernel,by decide+kernel⟩
theorem mE(F:dH K "_law_any_game" "_law_any_game" (top 50) f fd)(T:fL K mg)(aE:bK P w K mg base 1 "_law_pick" ["_law_flow_here","_law_many"] fZ)(iI:bK P w K mg base 3 "_law_names" ["_law_flow_here","_law_many"] og)(pU:bK P w K mg base 5 "_law_any_sums" ["_law_flow_here","_law_ahead","_law_many"] zr):bo P w K mg base dJ 6 f fd ["_law_flow_here","_law_most"] (bZ K zt):=by
 refine iy F eK (λ ds M Q h=>?_) (λ bR A outer s H E ds M Q hr h=>?_)
 ·obtain⟨a,cc,b,rfl,_⟩:=h;rfl
 ·obtain⟨a,cc,m,rfl,hF,hm,k⟩:=h;refine⟨_,(ag (aU (i:=2) eK.nd rfl (Or.inr rfl) (aK aE (hr.mono (by decide)) (by rfl) (aa (ar 0) (aa (bg a_ (ar 1) ak) ae))))
 (ag (aU (i:=3) eK.nd rfl (Or.inr rfl) (aK iI (hr.mono (by decide)) (by rfl) (aa (ar 0) (aa (ar 2) ae))))
 (aj (aD (nM fR gs (by rfl) T.tuple (by decide+kernel) (tgs:=["_law_h"]) (fr:=[3,0,2]) ⟨bM (by kernel_rfl),rfl,(λ _ _ h=>h),(bV rfl T.range (aa (ar 2) ae)),(bC (λ _ _ _ _ _=>(aY (i:=0) (show(["_law_h","_law_names_here","_law_flow_here","_law_many"]:List Str).Nodup by decide+kernel) rfl (Or.inl rfl))) (by decide)),(λ _ _ _ _ _=>bE),(λ _ _ _ _ _=>(eB (aa (bO bw (ar 1) (ar 0) (λ _ _=>rfl)) (aa (aK pU (hr.mono (by decide)) (by rfl) (aa (ar 2) (aa (ar 0) (aa (ar 3) ae)))) ae))))⟩))))),?_⟩
  walk_at "rd";refine⟨a,cc,m+1,rfl,hF,by omega,by omega,λ d o h0 h1 CT=>?_⟩;have F1:Fl a cc M _:=Fl.pick CT;generalize ai M a o=M1 at*;obtain⟨n,rfl⟩:∃n:Nat,d=(n:Int):=⟨d.toNat,by omega⟩;walk_at "rd";refine⟨a,cc,n,rfl,F1.bc,by omega,λ p zs M2 hz hp Ut F2 Qj Gs=>?_⟩;have F3:=F1.trans F2;have BZ:=(F1.bc.ne hp).1;walk_at "rd";refine⟨dX (by omega) (by omega),?_⟩;rw[x9];refine uj (β:=Str×List (List Int)) (xs:=List.range n) (enc:=Sd) dF (λ g M'=>Fl a cc M M'/\M' p=some (.lst (zs.map D.str))/\∃uH:List (List (List Int)),uH.length=g.length/\g=(zs.take g.length).zip uH/\∀i os,uH[i]?=some os->(os.length<=12/\Up os)/\∀r∈os,HA n i r) (by simp;omega) ⟨F3,Ut,[],rfl,rfl,λ i os h=>by simp at h⟩ (λ i x g M' N hx hy h hN=>?_) (λ g M' hl h=>?_)
  ·obtain⟨F4,h3,uH,ho,hg,iY⟩:=h;have hi:=(i5.mp hx).1;have hxi:x=i:=by rw[getElem?_range (by simpa using hi)]at hx;exact(B7 hx).symm
   subst hxi;rw[y7]at hi;have Zs:zs[x]?=some (zs[x]'(by omega)):=i8 (by omega);have hat:fE (zs.map D.str) (0+(x:Int))=some (.str (zs[x]'(by omega))):=by rw[G5];refine cH ?_;rw[x6,Zs];rfl
   walk_at "rd";refine cJ h3 hat ?_;walk_at "rd";rw[NT];refine⟨a,cc,x,n,rfl,F4.bc,by omega,by omega,λ os M5 TZ Ya Tz F5=>?_⟩;walk_at "rd";refine⟨by show 2<=sizeLine;decide,hN (zs[x]'(by omega),os) _ ⟨F4.trans F5,F5.mv p _ BZ h3,uH++[os],by simp[ho],?_,λ i VR h=>?_⟩⟩
   ·rw[q8,k8,hy,take_one Zs];rw[hy]at hg ho;rw[zip_append (by rw[A8];omega),<- hg];rfl
   ·by_cases kH:i < uH.length
    ·rw[g9 kH]at h;exact iY i VR h
    ·rw[c7 (by omega)]at h;have Yk:i - uH.length=0:=by have:=(i5.mp h).1;simp at this;omega
     rw[Yk]at h;have e:os=VR:=by simpa using h
     subst e;have:i=x:=by omega
     subst this;exact⟨⟨TZ,Tz⟩,Ya⟩
  ·obtain⟨F4,h3,uH,ho,hg,iY⟩:=h;rw[y7]at hl;rw[hl,j4 (by omega)]at hg;refine au (k n g M' (by omega) ?_ ?_ ?_ F4)
   ·rw[hg];exact Lq (by omega) hz (by omega) λ i os h=>⟨(iY i os h).1.1,(iY i os h).2⟩
   ·rw[hg];exact Kv (by omega) Qj Gs
   ·rw[hg];intro h hh;obtain⟨i,hi⟩:=mem_iff_getElem?.mp (C8 (a:=h.1) (b:=h.2) hh).2;exact⟨(iY i _ hi).1.2,(iY i _ hi).1.1⟩
def Qz:List Str:=[Str.ofString "1",Str.ofString "2",Str.ofString "3",Str.ofString "4",Str.ofString "5",Str.ofString "6",Str.ofString "7",Str.ofString "8",Str.ofString "9"]
def vI:Str:=Str.ofString "abcdefghijklmnopqrstuvwxyz"
def isLt(c:Nat):Bool:=decide (c∈vI.cps.toList)
def isWord(z:Str):Bool:=decide (1<=z.length)&&decide (z.length<=5)&&!du.contains z&&(z.cps.toList.map isLt).all id
def rA(z:Str):Bool:=Qz.contains z
def isName(z:Str):Bool:=isWord z||(rA (cS z (some (-1)) none)&&isWord (cS z none (some (-1))))
def eG(f:Str->Bool):gC:=λ ds M Q=>∃z,ds=[.str z]/\z.length<=1000/\Q (.bl (f z)) M
theorem signs_at(h:(dw z)[i]?=some d):∃c,z.cps.toList[i]?=some c/\d=.str ⟨#[c]⟩:=by
 unfold dw at h;rw[x6]at h;cases e:z.cps.toList[i]? with
 |none=>rw[e]at h;cases h
 |some c=>rw[e]at h;exact⟨c,rfl,(B7 h).symm⟩
theorem lM(p:Nat->Bool){δc:dm}{Q:bH}(hz:z.length<=1000) (hs:∀c (A:Mem->Prop) (N:D->Mem->Prop),N (.bl (p c)) M->g (.str ⟨#[c]⟩) δc M λ δ2 M2=>sP δ2 M2 λ b M3=>if b=true then te δ2 M3 N else A M3) (hq:Q (.bl ((z.cps.toList.map p).all id)) M):∃(B:Nat) (W:Nat->List D->Mem->Prop),W 0 [] M/\∀i zn M,W i zn M->i<=B/\zn.length<=sizeLine/\match al (.fix (dw z)) M with
   |none=>False
   |some ds=>match ds[i]? with
    |none=>i=ds.length/\rQ zn M Q
    |some d=>g d δc M λ δ2 M2=>sP δ2 M2 λ b M3=>if b=true then te δ2 M3 λ y M4=>W (i+1) (zn++[y]) M4 else W (i+1) zn M3:=by
 have hl:(dw z).length=z.cps.toList.length:=by unfold dw;rw[C2]
 have XR:z.cps.toList.length<=1000:=by rw[n6];exact hz
 refine gV (λ i zn M'=>M'=M/\zn=((z.cps.toList.take i).map p).map D.bl) ⟨rfl,by simp⟩ (λ i zn M' hi h=>?_) (λ i d zn M' hd h=>?_) (λ zn M' h=>?_)
 ·obtain⟨_,rfl⟩:=h;rw[C2,C2,A8];exact small (by omega)
 ·obtain⟨rfl,rfl⟩:=h;obtain⟨c,hc,rfl⟩:=signs_at hd;refine hs c (λ M3=>M3=_/\_=_) _ ⟨rfl,?_⟩;rw[take_add_one,hc];simp
 ·obtain⟨rfl,rfl⟩:=h;rw[hl,A5];unfold rQ;rw[ku];exact hq
theorem xI:aH ["text"] ["text"] (ao (top 19)):=⟨rfl,rfl,rfl,by decide+kernel,rfl,by decide+kernel,by decide+kernel⟩
theorem x'(F:dH K "is_word" "is_word" (top 19) f fd)(T:fL K mg):bo P w K mg base dJ 1 f fd ["text"] (bZ K (eG isWord)):=by
 refine iy F xI (λ ds M Q h=>?_) (λ bR A outer s H E ds M Q hr h=>?_)
 ·obtain⟨a,rfl,_⟩:=h;rfl
 ·obtain⟨z,rfl,hz,k⟩:=h;refine⟨_,(ag (bh (gj (fV (uM vo vo ak (aS cT (by rfl) T.len (by decide+kernel) (aa (ar 0) ae)) (kM T.pA (by rfl)))) (fU (aL (hU hr.units) (ar 0) (kM T.Lr (by rfl)) rfl))).pt
 (aj (aD mx))
 aJ)
 (aj (aD (nN (AF rfl) mQ (by rfl) T.all (by decide+kernel) (tgs:=["sign"]) (fr:=[]) ⟨bM (by kernel_rfl),rfl,(λ _ _ h=>h),(bY (ar 0)),(bC (λ _ _ _ _ _=>(aY (i:=0) (show(["sign"]:List Str).Nodup by decide+kernel) rfl (Or.inl rfl))) (by decide)),(λ _ _ _ _ _=>bE),(λ _ _ _ _ _=>(ja (hU hr.units) (ar 0) (kM T.Cf (by rfl)) rfl))⟩)))),?_⟩
  have nj:z.length<=sizeLine:=small (by omega);walk_at "rd";refine gO nj ?_;walk_at "rd";have no:isWord z=false->fin2 Q (.bl false) M:=λ e=>au (by rw[e]at k;exact k);refine aN (λ h1=>?_) (λ h1=>?_)
  ·walk_at "rd";refine iP (λ h2=>?_) (λ h2=>?_)
   ·walk_at "rd";refine no ?_;unfold isWord;have:decide (z.length<=5)=false:=B4 (by omega);rw[this,Bool.and_false];rfl
   ·walk_at "rd";refine sW (iG z du) ?_;refine bB (λ h3=>?_) (λ h3=>?_)
    ·walk_at "rd";refine no ?_;unfold isWord;rw[h3,Bool.not_true,Bool.and_false];rfl
    ·walk_at "rd";refine lM isLt hz (λ c A N h=>?_) ?_
     ·walk_at "rd";rw[StrLaws.found_one];exact h
     ·refine au ?_;have e:isWord z=(z.cps.toList.map isLt).all id:=by unfold isWord;rw[h3,D1 (show 1<=z.length by omega),D1 (show z.length<=5 by omega)];rfl
      rw[<- e];exact k
  ·walk_at "rd";refine no ?_;unfold isWord;have:decide (1<=z.length)=false:=B4 (by omega);rw[this];rfl
theorem sO:aH ["text"] ["text"] (ao (top 20)):=⟨rfl,rfl,rfl,by decide+kernel,rfl,by decide+kernel,by decide+kernel⟩
theorem tE(F:dH K "is_figure" "is_figure" (top 20) f fd)(T:fL K mg):bo P w K mg base dJ 1 f fd ["text"] (bZ K (eG rA)):=by
 refine iy F sO (λ ds M Q h=>?_) (λ bR A outer s H E ds M Q hr h=>?_)
 ·obtain⟨a,rfl,_⟩:=h;rfl
 ·obtain⟨z,rfl,hz,k⟩:=h;refine⟨_,(aj (aD (ja (hU hr.units) (ar 0) (kM T.Cg (by rfl)) rfl))),?_⟩;walk_at "rd";exact sW (iG z Qz) (au k)
theorem xJ:aH ["text"] ["text"] (ao (top 21)):=⟨rfl,rfl,rfl,by decide+kernel,rfl,by decide+kernel,by decide+kernel⟩
theorem ya(F:dH K "is_name" "is_name" (top 21) f fd)(T:fL K mg)(rO:bK P w K mg base 1 "is_word" ["text"] (eG isWord))(wo:bK P w K mg base 1 "is_figure" ["text"] (eG rA)):bo P w K mg base dJ 2 f fd ["text"] (bZ K (eG isName)):=by
 refine iy F xJ (λ ds M Q h=>?_) (λ bR A outer s H E ds M Q hr h=>?_)
 ·obtain⟨a,rfl,_⟩:=h;rfl
 ·obtain⟨z,rfl,hz,k⟩:=h;have nj:z.length<=sizeLine:=small (by omega);have c1:=nA z (some (-1)) none;have c2:=nA z none (some (-1));refine⟨_,(aj (aD (w_or (aK rO (hr.mono (by decide)) (by rfl) (aa (ar 0) ae)) (lQ (w_and (aK wo (hr.mono (by decide)) (by rfl) (aa (cu fh (ar 0) (cf (AZ qP ak)) cG) ae)) (lQ (aK rO (hr.mono (by decide)) (by rfl) (aa (cu fh (ar 0) cG (cf (AZ qP ak))) ae)))))))),?_⟩;walk_at "rd";refine⟨z,rfl,hz,?_⟩;refine bB (λ h1=>?_) (λ h1=>?_)
  ·refine au ?_;have e:isName z=true:=by unfold isName;rw[h1];rfl
   rw[<- e];exact k
  ·walk_at "rd";refine eQ nj ?_;refine⟨_,rfl,by omega,?_⟩;refine bB (λ h2=>?_) (λ h2=>?_)
   ·walk_at "rd";refine eQ nj ?_;refine⟨_,rfl,by omega,au ?_⟩;have e:isName z=isWord (cS z none (some (-1))):=by unfold isName;rw[h1,h2];rfl
    rw[<- e];exact k
   ·refine au ?_;have e:isName z=false:=by unfold isName;rw[h1,h2];rfl
    rw[<- e];exact k
def jb(c:Nat):Bool:=(!decide ([c] < (Str.ofString "a").cps.toList))&&(!decide ((Str.ofString "z").cps.toList < [c]))
def bF(z:Str):Bool:=decide (1<=z.length)&&decide (z.length<=5)&&!du.contains z&&(z.cps.toList.map jb).all id
def dD(z:Str):Bool:=match z.cps.toList.getLast? with
 |some c=>if decide (1 < z.length)&&decide (c∈(Str.ofString "123456789").cps.toList)then bF (cS z none (some (-1)))else bF z
 |none=>bF z
theorem CL(h:1<=z.length):∃c,fE z.cps.toList (-1)=some c/\z.cps.toList.getLast?=some c:=by
 have hl:z.cps.toList.length=z.length:=by simp[Str.length]
 have eh:z.cps.toList≠[]:=by intro e;rw[e]at hl;simp at hl;omega
 refine⟨z.cps.toList.getLast eh,?_,getLast?_eq_some_getLast eh⟩;have e:z.cps.toList=z.cps.toList.dropLast++[z.cps.toList.getLast eh]:=(dropLast_concat_getLast eh).symm;have q:=wQ z.cps.toList.dropLast (z.cps.toList.getLast eh);rw[<- e]at q;exact q
theorem cW:vI.cps.toList=[97,98,99,100,101,102,103,104,105,106,107,108,109,110,111,112,113,114,115,116,117,118,119,120,121,122]:=by decide+kernel
theorem Lb(c:Nat):isLt c=jb c:=by
 have ea:(Str.ofString "a").cps.toList=[97]:=by decide+kernel
 have ez:(Str.ofString "z").cps.toList=[122]:=by decide+kernel
 unfold isLt jb;rw[cW,ea,ez,B1];simp only[x8,A7,Bool.not_eq_true',decide_eq_false_iff_not,cons_lt_cons_iff,List.lt_irrefl,and_false,or_false,G0,not_mem_nil];omega
theorem dW(z:Str):isWord z=bF z:=by unfold isWord bF;rw[show isLt=jb from funext Lb]
theorem ko(z:Str):cS z none (some (-1))=⟨z.cps.toList.dropLast.toArray⟩:=by
 unfold cS;have hl:z.cps.toList.length=z.length:=by simp[Str.length]
 have e:HT.bS z.length z.length (some (-1))=z.length - 1:=by show(if(-1:Int) < 0 then((-1:Int)+(z.length:Int)).toNat else min (-1:Int).toNat z.length)=_;rw[N3 (by decide)];omega
 have e0:HT.bS z.length 0 none=0:=rfl;rw[e,e0,drop_zero,Nat.sub_zero,dropLast_eq_take,hl]
theorem pW(z:Str):cS z (some (-1)) none=⟨(z.cps.toList.drop (z.length - 1)).toArray⟩:=by
 unfold cS;have hl:z.cps.toList.length=z.length:=by simp[Str.length]
 have e:HT.bS z.length 0 (some (-1))=z.length - 1:=by show(if(-1:Int) < 0 then((-1:Int)+(z.length:Int)).toNat else min (-1:Int).toNat z.length)=_;rw[N3 (by decide)];omega
 have e0:HT.bS z.length z.length none=z.length:=rfl;rw[e,e0,j4 (by rw[A4];omega)]
theorem Ap(c:Nat):rA ⟨#[c]⟩=decide (c∈(Str.ofString "123456789").cps.toList):=by
 have e:(Str.ofString "123456789").cps.toList=[49,50,51,52,53,54,55,56,57]:=by decide+kernel
 have ef:Qz=[⟨#[49]⟩,⟨#[50]⟩,⟨#[51]⟩,⟨#[52]⟩,⟨#[53]⟩,⟨#[54]⟩,⟨#[55]⟩,⟨#[56]⟩,⟨#[57]⟩]:=by decide+kernel
 unfold rA;rw[e,ef,B1];simp
theorem GN:rA ⟨#[]⟩=false:=by decide+kernel
theorem AY(h:z.length=0):isWord z=false:=by unfold isWord;rw[B4 (show ¬1<=z.length by omega)];rfl
theorem Dk(h:c∈z.cps.toList)(hc:isLt c=false):isWord z=false:=by
 unfold isWord;have:(z.cps.toList.map isLt).all id=false:=by rw[List.all_eq_false];exact⟨false,by rw[<- hc];exact List.mem_map_of_mem h,by decide⟩
 rw[this,Bool.and_false]
theorem GL(h:c∈(Str.ofString "123456789").cps.toList):isLt c=false:=by
 have e:(Str.ofString "123456789").cps.toList=[49,50,51,52,53,54,55,56,57]:=by decide+kernel
 rw[e]at h;unfold isLt;rw[cW];simp only[G0,not_mem_nil,or_false]at h;rcases h with rfl|rfl|rfl|rfl|rfl|rfl|rfl|rfl|rfl <;> decide
theorem lx(z:Str):isName z=dD z:=by
 have hl:z.cps.toList.length=z.length:=by simp[Str.length]
 unfold isName dD;cases hg:z.cps.toList.getLast? with
 |none=>
  have hn:z.cps.toList=[]:=getLast?_eq_none_iff.mp hg;have h0:z.length=0:=by rw[<- hl,hn];rfl
  have e:cS z (some (-1)) none=⟨#[]⟩:=by rw[pW,hn,drop_nil]
  rw[e,GN,Bool.false_and,Bool.or_false];exact dW z
 |some c=>
  obtain⟨init,hi⟩:=getLast?_eq_some_iff.mp hg;have hlen:z.length=init.length+1:=by rw[<- hl,hi];simp
  have e1:cS z (some (-1)) none=⟨#[c]⟩:=by rw[pW,hi,hlen];simp
  rw[e1,Ap];show(isWord z||(decide (c∈(Str.ofString "123456789").cps.toList)&&isWord (cS z none (some (-1)))))=if(decide (1 < z.length)&&decide (c∈(Str.ofString "123456789").cps.toList))=true then bF (cS z none (some (-1)))else bF z
  by_cases hf:c∈(Str.ofString "123456789").cps.toList
  ·have hw:isWord z=false:=Dk (by rw[hi];simp) (GL hf);rw[D1 hf,hw,Bool.false_or,Bool.true_and,Bool.and_true];by_cases h1:1 < z.length
   ·rw[D1 h1,N3 rfl];exact dW _
   ·rw[B4 h1,N4 p9,<- dW,hw];refine AY ?_;rw[ko];show z.cps.toList.dropLast.toArray.size=0;rw[y9,length_dropLast,hl];omega
  ·rw[B4 hf,Bool.false_and,Bool.or_false,Bool.and_false,N4 p9];exact dW z
theorem oq:aH ["_law_text"] ["_law_text"] (ao (top 47)):=⟨rfl,rfl,rfl,by decide+kernel,rfl,by decide+kernel,by decide+kernel⟩
theorem oM(F:dH K "_law_is_word" "_law_is_word" (top 47) f fd)(T:fL K mg):bo P w K mg base dJ 1 f fd ["_law_text"] (bZ K (eG bF)):=by
 refine iy F oq (λ ds M Q h=>?_) (λ bR A outer s H E ds M Q hr h=>?_)
 ·obtain⟨a,rfl,_⟩:=h;rfl
 ·obtain⟨z,rfl,hz,k⟩:=h;have nj:z.length<=sizeLine:=small (by omega);refine⟨_,(ag (bh (gj (aL Ks (aS cT (by rfl) T.len (by decide+kernel) (aa (ar 0) ae)) ak (aQ _)) (gj (aL vp (aS cT (by rfl) T.len (by decide+kernel) (aa (ar 0) ae)) ak (aQ _)) (fU (aL (hU hr.units) (ar 0) (b_ (mP (zs:=[Str.ofString "row",Str.ofString "to",Str.ofString "take",Str.ofString "none",Str.ofString "one",Str.ofString "two",Str.ofString "as",Str.ofString "heap"]) (by kernel_rfl))) rfl)))).pt
 (aj (aD mx))
 aJ)
 (aj (aD (nN (AF rfl) mQ (by rfl) T.all (by decide+kernel) (tgs:=["_law_sign"]) (fr:=[]) ⟨bM (by kernel_rfl),rfl,(λ _ _ h=>h),(bY (ar 0)),(bC (λ _ _ _ _ _=>(aY (i:=0) (show(["_law_sign"]:List Str).Nodup by decide+kernel) rfl (Or.inl rfl))) (by decide)),(λ _ _ _ _ _=>bE),(λ _ _ _ _ _=>(zc vo vo aX (ar 0) aX))⟩)))),?_⟩
  have no:∀M',bA M M'->bF z=false->fin2 Q (.bl false) M':=λ M' hs e=>⟨M,hs,by rw[e]at k;exact k⟩;walk_at "rd";refine gO nj ?_;walk_at "rd";refine aN (λ h1=>?_) (λ h1=>?_)
  ·walk_at "rd";refine no M (bA.refl M) ?_;unfold bF;have:decide (1<=z.length)=false:=B4 (by omega);rw[this];rfl
  ·walk_at "rd";refine gO nj ?_;walk_at "rd";refine aN (λ h2=>?_) (λ h2=>?_)
   ·walk_at "rd";refine no M (bA.refl M) ?_;unfold bF;have:decide (z.length<=5)=false:=B4 (by omega);rw[this,Bool.and_false];rfl
   ·walk_at "rd";refine⟨by decide,λ p hp=>?_⟩;have hs:bA M (ai M p (.lst (du.map D.str))):=(bA.refl M).put hp;refine zA (ds:=du.map D.str) af (iG z du) ?_;refine bB (λ h3=>?_) (λ h3=>?_)
    ·walk_at "rd";refine no _ hs ?_;unfold bF;rw[h3,Bool.not_true,Bool.and_false];rfl
    ·walk_at "rd";refine lM jb hz (λ c A N h=>?_) ?_
     ·walk_at "rd";refine bB (λ hb=>?_) (λ hb=>?_)
      ·walk_at "rd";have e:jb c=!decide ((Str.ofString "z").cps.toList < [c]):=by unfold jb;rw[show(!decide ([c] < (Str.ofString "a").cps.toList))=true from hb];rfl
       rw[e]at h;exact h
      ·have e:jb c=false:=by unfold jb;rw[show(!decide ([c] < (Str.ofString "a").cps.toList))=false from hb];rfl
       rw[e]at h;exact h
     ·refine⟨M,hs,?_⟩;have e:bF z=(z.cps.toList.map jb).all id:=by unfold bF;rw[h3,D1 (show 1<=z.length by omega),D1 (show z.length<=5 by omega)];rfl
      rw[<- e];exact k
theorem ou:aH ["_law_text"] ["_law_text"] (ao (top 48)):=⟨rfl,rfl,rfl,by decide+kernel,rfl,by decide+kernel,by decide+kernel⟩
theorem oN(F:dH K "_law_is_name" "_law_is_name" (top 48) f fd)(T:fL K mg)(jf:bK P w K mg base 1 "_law_is_word" ["_law_text"] (eG bF)):bo P w K mg base dJ 2 f fd ["_law_text"] (bZ K (eG dD)):=by
 refine iy F ou (λ ds M Q h=>?_) (λ bR A outer s H E ds M Q hr h=>?_)
 ·obtain⟨a,rfl,_⟩:=h;rfl
 ·obtain⟨z,rfl,hz,k⟩:=h;have nj:z.length<=sizeLine:=small (by omega);have c2:=nA z none (some (-1));refine⟨_,(ag (bh (xp (aL vp (aS cT (by rfl) T.len (by decide+kernel) (aa (ar 0) ae)) ak (aQ _)) (so (aL (hU hr.units) (bO bw (ar 0) (AZ qP ak) (λ _ _=>rfl)) aX rfl))).pt
 (aj (aD (aK jf (hr.mono (by decide)) (by rfl) (aa (cu fh (ar 0) cG (cf (AZ qP ak))) ae))))
 aJ)
 (aj (aD (aK jf (hr.mono (by decide)) (by rfl) (aa (ar 0) ae))))),?_⟩
  walk_at "rd";refine gO nj ?_;walk_at "rd";refine aN (λ h1=>?_) (λ h1=>?_)
  ·obtain⟨c,hc,Cb⟩:=CL (z:=z) (by omega);walk_at "rd";refine k_ nj hc ?_;walk_at "rd";rw[StrLaws.found_one];refine aN (λ h2=>?_) (λ h2=>?_)
   ·walk_at "rd";refine eQ nj ?_;refine⟨_,rfl,by omega,au ?_⟩;have e:dD z=bF (cS z none (some (-1))):=by unfold dD;rw[Cb];show(if(decide (1 < z.length)&&decide (c∈(Str.ofString "123456789").cps.toList))=true then _ else _)=_;rw[D1 (show 1 < z.length by omega),D1 h2];rfl
    rw[<- e];exact k
   ·walk_at "rd";refine⟨_,rfl,hz,au ?_⟩;have e:dD z=bF z:=by unfold dD;rw[Cb];show(if(decide (1 < z.length)&&decide (c∈(Str.ofString "123456789").cps.toList))=true then _ else _)=_;rw[B4 h2,Bool.and_false];rfl
    rw[<- e];exact k
  ·walk_at "rd";refine⟨_,rfl,hz,au ?_⟩;have e:dD z=bF z:=by unfold dD;rw[B4 (show ¬1 < z.length by omega)];cases z.cps.toList.getLast? <;> rfl
   rw[<- e];exact k
open PySem.Builtin PySem.Builtin.Str in
theorem dN:Str.ofString " "=one 32/\Str.ofString "*"=one 42/\Str.ofString "."=mk [46]:=by decide+kernel
def UC:Str:=Str.ofString "0123456789"
theorem Cp:UC.cps.toList=[48,49,50,51,52,53,54,55,56,57]:=by decide+kernel
def mF(c:Nat):Bool:=decide (c∈UC.cps.toList)
theorem Ac:mF c=true↔48<=c/\c<=57:=by unfold mF;rw[Cp];simp only[x8,G0,not_mem_nil,or_false];omega
def val(z:Str):Int:=((NumText.digitsVal z.cps.toList:Nat):Int)
def bT(z:Str):Bool:=decide (1<=z.length)&&decide (z.length<=31)&&!decide (z.cps.toList.head?=some 48)&&(z.cps.toList.map mF).all id&&decide (2<=val z)&&decide (val z<=10^30)
theorem nP(h:(z.cps.toList.map mF).all id=true)(h1:1<=z.length)(h2:z.length<=31):intText? z=some (val z):=by
 refine intText_digits (x:=z) (λ c hc=>?_) (λ e=>?_) (by omega)
 ·rw[B0]at h;exact Ac.mp (h _ (List.mem_map_of_mem hc))
 ·rw[<- dO]at h1;unfold sg at h1;rw[e]at h1;exact absurd h1 (by decide)
theorem rf(h:bT z=true):intText? z=some (val z)/\z.length<=31:=by unfold bT at h;simp only[A7,x8]at h;exact⟨nP h.1.1.2 h.1.1.1.1.1 h.1.1.1.1.2,h.1.1.1.1.2⟩
def tm(z:Str):Option (Str×Int):=match gX 42 (sg z)with
 |[_]=>if isName z then some (z,1)else none
 |[a,b]=>if isName (mk b)&&bT (mk a)then some (mk b,val (mk a))else none
 |_=>none
theorem iM{z:Str}{init:List (List Nat)}{q:List Nat}(e:gX 42 (sg z)=init++[q]):(isName (mk q)=false->tm z=none)/\(init=[]->isName (mk q)=true->tm z=some (z,1))/\(∀x,init=[x]->isName (mk q)=true->tm z=if bT (mk x)then some (mk q,val (mk x))else none)/\(2<=init.length->tm z=none):=by
 unfold tm;rw[e];cases init with
 |nil=>
  have e2:q=sg z:=IF e;subst e2;refine⟨λ h=>?_,λ _ h=>?_,λ x h=>(by cases h),λ h=>absurd h (by decide)⟩
  ·exact N4 (ne_true_of_eq_false h)
  ·exact N3 h
 |cons x init=>
  cases init with
  |nil=>
   refine⟨λ h=>?_,λ h=>(by cases h),λ y h h2=>?_,λ h=>absurd h (by decide:¬2<=1)⟩
   ·show(if(isName (mk q)&&bT (mk x))=true then _ else _)=_;rw[h];rfl
   ·cases h;show(if(isName (mk q)&&bT (mk x))=true then _ else _)=_;rw[h2,Bool.true_and]
  |cons y init=>
   have:∀w:List (List Nat),w≠[]->(match x::y::w with
    |[_]=>if isName z then some (z,(1:Int))else none
    |[a,b]=>if isName (mk b)&&bT (mk a)then some (mk b,val (mk a))else none
    |_=>none)=none:=λ w h=>by
    cases w with
    |nil=>exact absurd rfl h
    |cons _ _=>rfl
   have h:=this (init++[q]) (by simp);exact⟨λ _=>h,λ z=>(by cases z),λ _ z=>(by cases z),λ _=>h⟩
def kQ:Option (Str×Int)->D
 |none=>.bu
 |some (z,n)=>.tup [.str z,.int n]
def qq:Option (Str×Int)->D
 |none=>.bu
 |some (z,n)=>.tup [.int n,.str z]
def sJ(f:Option (Str×Int)->D):gC:=λ ds M Q=>∃z,ds=[.str z]/\z.length<=1000/\PyData.strOk z=true/\Q (f (tm z)) M
theorem xK:aH ["text"] ["text"] (ao (top 25)):=⟨rfl,rfl,rfl,by decide+kernel,rfl,by decide+kernel,by decide+kernel⟩
theorem yb(F:dH K "is_many" "is_many" (top 25) f fd)(T:fL K mg):bo P w K mg base dJ 1 f fd ["text"] (bZ K (eG bT)):=by
 refine iy F xK (λ ds M Q h=>?_) (λ bR A outer s H E ds M Q hr h=>?_)
 ·obtain⟨a,rfl,_⟩:=h;rfl
 ·obtain⟨z,rfl,hz,k⟩:=h;have nj:z.length<=sizeLine:=small (by omega);refine⟨_,(ag (bh (gj (fV (uM vo vo ak (aS cT (by rfl) T.len (by decide+kernel) (aa (ar 0) ae)) (kM T.qu (by rfl)))) (fU (aL (cq hr.units) (bO bw (ar 0) ak (λ _ _=>rfl)) aX (aQ _)))).pt
 (aj (aD mx))
 aJ)
 (aj (aD (w_and (nN (AF rfl) mQ (by rfl) T.all (by decide+kernel) (tgs:=["sign"]) (fr:=[]) ⟨bM (by kernel_rfl),rfl,(λ _ _ h=>h),(bY (ar 0)),(bC (λ _ _ _ _ _=>(aY (i:=0) (show(["sign"]:List Str).Nodup by decide+kernel) rfl (Or.inl rfl))) (by decide)),(λ _ _ _ _ _=>bE),(λ _ _ _ _ _=>(ja (hU hr.units) (ar 0) (kM T.GG (by rfl)) rfl))⟩) (lQ (zc vo vo ak (cO pY (by rfl) T.int (by decide+kernel) (aa (ar 0) ae)) (bg qX ak ak))))))),?_⟩
  rfl';refine gO nj ?_;rfl';have no:bT z=false->fin2 Q (.bl false) M:=λ e=>au (by rw[e]at k;exact k);refine aN (λ h1=>?_) (λ h1=>?_)
  ·rfl';refine iP (λ h2=>?_) (λ h2=>?_)
   ·rfl';refine no ?_;unfold bT;have:decide (z.length<=31)=false:=B4 (by omega);rw[this,Bool.and_false];rfl
   ·have MJ:1<=z.length:=by omega
    have Rn:z.length<=31:=by omega
    obtain⟨c,r,e⟩:∃c r,z.cps.toList=c::r:=by
     cases e:z.cps.toList with
     |nil=>rw[<- dO]at MJ;unfold sg at MJ;rw[e]at MJ;exact absurd MJ (by decide)
     |cons c r=>exact⟨c,r,rfl⟩
    rfl';refine k_ nj (x:=c) (by rw[e];exact cH (j:=0) rfl) ?_;rfl';have z0:((⟨#[c]⟩:Str)=Str.ofString "0")↔c=48:=by rw[show Str.ofString "0"=⟨#[48]⟩ by decide+kernel];simp
    have mb:bT z=(!decide (c=48)&&((z.cps.toList.map mF).all id&&(decide (2<=val z)&&decide (val z<=10^30)))):=by unfold bT;rw[D1 MJ,D1 Rn,e,Bool.true_and,Bool.true_and,Bool.and_assoc,Bool.and_assoc];simp
    refine aN (λ h3=>?_) (λ h3=>?_)
    ·rfl';refine no ?_;rw[mb,D1 (z0.mp h3)];rfl
    ·rw[z0]at h3;rw[B4 h3]at mb;rfl';refine lM mF hz (λ c A N h=>?_) ?_
     ·rfl';rw[StrLaws.found_one];exact h
     ·refine bB (λ h4=>?_) (λ h4=>?_)
      ·rw[h4]at mb;rfl';refine⟨z,val z,rfl,nP h4 MJ Rn,by omega,?_⟩;rfl';refine aN (λ h5=>?_) (λ h5=>?_)
       ·rw[D1 h5]at mb;rfl';refine Br ⟨by decide,by decide,by decide⟩ ?_;rfl';refine au ?_;rw[mb]at k;exact k
       ·rw[B4 h5]at mb;exact no mb
      ·rw[h4]at mb;rfl';exact no mb
  ·rfl';refine no ?_;unfold bT;have:decide (1<=z.length)=false:=B4 (by omega);rw[this];rfl
theorem oo:aH ["word","parts"] ["word"] (ao (top 26)):=⟨rfl,rfl,rfl,by decide+kernel,rfl,by decide+kernel,by decide+kernel⟩
theorem Kj(F:dH K "term_of" "term_of" (top 26) f fd)(T:fL K mg)(Ct:bK P w K mg base 2 "is_name" ["text"] (eG isName))(Cu:bK P w K mg base 1 "is_many" ["text"] (eG bT)):bo P w K mg base dJ 3 f fd ["word"] (bZ K (sJ kQ)):=by
 refine iy F oo (λ ds M Q h=>?_) (λ bR A outer s H E ds M Q hr h=>?_)
 ·obtain⟨a,rfl,_⟩:=h;rfl
 ·obtain⟨z,rfl,hz,_,k⟩:=h;refine⟨_,(ag (aU (i:=1) oo.nd rfl (Or.inl rfl) (ig PySem.F.plainAttrs_str PySem.F.slot_str_split PySem.F.type_str_split m_split (ar 0) (aa aX ae)))
 (ag (bh (fV (dM (aK Ct (hr.mono (by decide)) (by rfl) (aa (bO bw (ar 1) (AZ qP ak) (λ _ _=>rfl)) ae))))
 (aj (aD gn))
 aJ)
 (ag (bh (aL (cq hr.units) (aS cT (by rfl) T.len (by decide+kernel) (aa (ar 1) ae)) ak (aQ _))
 (aj (aD (eB (aa (ar 0) (aa ak ae)))))
 aJ)
 (ag (bh (xp (aL (cq hr.units) (aS cT (by rfl) T.len (by decide+kernel) (aa (ar 1) ae)) ak (aQ _)) (so (dM (aK Cu (hr.mono (by decide)) (by rfl) (aa (bO bw (ar 1) ak (λ _ _=>rfl)) ae))))).pt
 (aj (aD (eB (aa (bO bw (ar 1) ak (λ _ _=>rfl)) (aa (cO pY (by rfl) T.int (by decide+kernel) (aa (bO bw (ar 1) ak (λ _ _=>rfl)) ae)) ae)))))
 aJ)
 (aj (aD gn)))))),?_⟩
  have hs:=nX z (c:=42) (by decide);have hm:=@nZ 42 (sg z);rw[dO]at hm;have Rq:(Txt.split z (one 42)).length<=z.length+1:=by rw[hs,C2];exact hm
  rfl';rw[dN.2.1];refine⟨rfl,z,one 42,rfl,rfl,by decide,by omega,small (by omega),λ p hp=>?_⟩;rw[hs];have hle:∀q∈gX 42 (sg z),(mk q).length<=1000:=λ q hq=>by rw[<- dO];have:=sI hq;rw[dO]at this;exact H9 this hz
  have eh:=sH 42 (sg z);have et:=@iM z;have Tz:bA M (ai M p (.lst (((gX 42 (sg z)).map mk).map D.str))):=(bA.refl M).put hp;generalize gX 42 (sg z)=ps at*;have no:tm z=none->fin2 Q .bu (ai M p (.lst ((ps.map mk).map D.str))):=λ e=>⟨M,Tz,by rw[e]at k;exact k⟩;obtain⟨init,q,rfl⟩:∃init q,ps=init++[q]:=⟨ps.dropLast,ps.getLast eh,(dropLast_concat_getLast eh).symm⟩;obtain⟨t1,t2,t3,t4⟩:=et rfl;rfl';refine cJ (d:=.str (mk q)) af (by rw[C4,C4];exact wQ _ _) ?_;rfl';refine⟨mk q,rfl,hle q (by simp),?_⟩;refine bB (λ h1=>?_) (λ h1=>?_)
  ·rfl';exact no (t1 (by simpa using h1))
  ·have h1:isName (mk q)=true:=by simpa using h1
   rfl';rw[C2,C2,q8];refine aN (λ h2=>?_) (λ h2=>?_)
   ·have e:init=[]:=j3.mp (by simp at h2;omega);rfl';refine⟨M,Tz,?_⟩;rw[t2 e h1]at k;exact k
   ·rfl';rw[C2,C2,q8];refine aN (λ h3=>?_) (λ h3=>?_)
    ·obtain⟨x,rfl⟩:∃x,init=[x]:=length_eq_one_iff.mp (by simp at h3;omega);have t3:=t3 x rfl h1;rfl';refine⟨mk x,rfl,hle x (by simp),?_⟩;refine bB (λ h4=>?_) (λ h4=>?_)
     ·rw[h4,N3 rfl]at t3;rfl';refine⟨mk x,val (mk x),rfl,(rf h4).1,H9 (rf h4).2 (by decide),?_⟩;rfl';refine⟨M,Tz,?_⟩;rw[t3]at k;exact k
     ·rw[h4,N4 p9]at t3;rfl';exact no t3
    ·rfl';refine no (t4 ?_);simp at h2 h3;omega
set_option tactic.hygienic true in
theorem oS(h:isName z=true):∀c∈sg z,isLt c=true\/c∈(Str.ofString "123456789").cps.toList:=by
 have wd:∀w,isWord w=true->∀c∈sg w,isLt c=true:=λ w hw c hc=>by unfold isWord at hw;rw[A7,B0]at hw;exact hw.2 _ (List.mem_map_of_mem hc)
 rw[lx]at h;unfold dD at h;cases hg:z.cps.toList.getLast? with
 |none=>rw[hg]at h;have h:bF z=true:=h;rw[<- dW]at h;exact λ c hc=>.inl (wd z h c hc)
 |some x=>
  rw[hg]at h;have h:(if(decide (1 < z.length)&&decide (x∈(Str.ofString "123456789").cps.toList))=true then bF (cS z none (some (-1)))else bF z)=true:=h;split at h
  ·rename_i e;rw[A7,x8,x8]at e;rw[<- dW,ko]at h;obtain⟨init,hi⟩:=getLast?_eq_some_iff.mp hg;intro c hc;unfold sg at hc;rw[hi]at hc;rcases C3.mp hc with q|q
   ·refine .inl (wd _ h c ?_);show c∈z.cps.toList.dropLast;rw[hi];simpa using q
   ·rw[u4.mp q];exact .inr e.2
  ·rw[<- dW]at h;exact λ c hc=>.inl (wd z h c hc)
theorem tJ(h:isName z=true)(hc:c < 49):c∉sg z:=λ m=>by
 rcases oS h c m with e|e
 ·unfold isLt at e;rw[cW]at e;simp at e;omega
 ·rw[show(Str.ofString "123456789").cps.toList=[49,50,51,52,53,54,55,56,57] by decide+kernel]at e;simp at e;omega
theorem Dw(h:42∉sg z):tm z=if isName z then some (z,1)else none:=by
 have e:gX 42 (sg z)=[]++[sg z]:=nY h;cases hn:isName z
 ·exact(iM e).1 hn
 ·exact(iM e).2.1 rfl hn
theorem tm_at{a b:List Nat}(e:sg z=a++42::b)(h:42∉a):tm z=if isName (mk b)&&bT (mk a)then some (mk b,val (mk a))else none:=by
 have e2:gX 42 (sg z)=a::gX 42 b:=by rw[e,jN b h]
 rcases kg 42 b with n|⟨a2,b2,rfl,n⟩
 ·rw[nY n]at e2;have e2:gX 42 (sg z)=[a]++[b]:=e2;cases hn:isName (mk b)
  ·exact(iM e2).1 hn
  ·exact(iM e2).2.2.1 a rfl hn
 ·rw[jN b2 n]at e2;have eh:=sH 42 b2;have hb:isName (mk (a2++42::b2))=false:=by
   cases hn:isName (mk (a2++42::b2))
   ·rfl
   ·exact absurd (show 42∈sg (mk (a2++42::b2))from by rw[R_];simp) (tJ hn (by decide))
  rw[hb];refine(iM (init:=a::a2::(gX 42 b2).dropLast) (q:=(gX 42 b2).getLast eh) ?_).2.2.2 (by simp);rw[e2];exact L8 (λ w=>a::a2::w) (dropLast_concat_getLast eh).symm
theorem wz(z:Str)(i:Nat):cS z (some (i:Int)) none=mk ((sg z).drop i):=by
 refine kW ?_;show(z.cps.toList.drop (HT.bS z.length 0 (some (i:Int)))).take (z.length - HT.bS z.length 0 (some (i:Int)))=z.cps.toList.drop i;have hl:z.cps.toList.length=z.length:=n6;rw[HT.mT,j4 (by rw[A4];omega)];by_cases h:i<=z.length
 ·rw[Nat.min_eq_left h]
 ·rw[Nat.min_eq_right (by omega),j5 (by omega),j5 (by omega)]
theorem QX(z:Str)(i:Nat):cS z none (some (i:Int))=mk ((sg z).take i):=by
 refine kW ?_;show(z.cps.toList.drop 0).take (HT.bS z.length z.length (some (i:Int)) - 0)=z.cps.toList.take i;have hl:z.cps.toList.length=z.length:=n6;rw[HT.mT,drop_zero,Nat.sub_zero];by_cases h:i<=z.length
 ·rw[Nat.min_eq_left h]
 ·rw[Nat.min_eq_right (by omega),j4 (by omega),j4 (by omega)]
theorem cQ:aH ["_law_word_here","_law_at","_law_name_here","_law_many"] ["_law_word_here"] (ao (top 52)):=⟨rfl,rfl,rfl,by decide+kernel,rfl,by decide+kernel,by decide+kernel⟩
theorem tj(F:dH K "_law_part_read" "_law_part_read" (top 52) f fd)(T:fL K mg)(qv:bK P w K mg base 2 "_law_is_name" ["_law_text"] (eG dD)):bo P w K mg base dJ 3 f fd ["_law_word_here"] (bZ K (sJ qq)):=by
 refine iy F cQ (λ ds M Q h=>?_) (λ bR A outer s H E ds M Q hr h=>?_)
 ·obtain⟨a,rfl,_⟩:=h;rfl
 ·obtain⟨z,rfl,hz,bj,k⟩:=h;refine⟨_,(ag (aU (i:=1) cQ.nd rfl (Or.inl rfl) (ig PySem.F.plainAttrs_str PySem.F.slot_str_find PySem.F.type_str_find m_find (ar 0) (aa aX ae)))
 (ag (aU (i:=2) cQ.nd rfl (Or.inl rfl) (cu fh (ar 0) (cf (bg a_ (ar 1) ak)) cG))
 (ag (aU (i:=3) cQ.nd rfl (Or.inl rfl) (cu fh (ar 0) cG (cf (aS (U1 rfl) (by rfl) T.max (by decide+kernel) (aa (ar 1) (aa ak ae))))))
 (ag (bh (fV (dM (aK qv (hr.mono (by decide)) (by rfl) (aa (ar 2) ae))))
 (aj (aD gn))
 aJ)
 (ag (bh (aL Ks (ar 1) ak (aQ _))
 (aj (aD (eB (aa ak (aa (ar 2) ae)))))
 aJ)
 (ag (bh (gj (aL (cq hr.units) (ar 3) aX (aQ _)) (gj (aL vp (aS cT (by rfl) T.len (by decide+kernel) (aa (ar 3) ae)) ak (aQ _)) (gj (aL (cq hr.units) (bO bw (ar 3) ak (λ _ _=>rfl)) aX (aQ _)) (fU (aL (vn hr.units) (nO (tgs:=["_law_sign"]) (fr:=[]) ⟨bM (by kernel_rfl),rfl,(λ _ _ h=>h),(bY (ar 3)),(bC (λ _ _ _ _ _=>(aY (i:=0) (show(["_law_sign"]:List Str).Nodup by decide+kernel) rfl (Or.inl rfl))) (by decide)),(λ _ _ _ _ _=>(sv (aL (oO (by exact hr.units)) (ar 0) aX rfl))),(λ _ _ _ _ _=>(ar 0))⟩) (b_ ae) (aQ _)))))).pt
 (aj (aD gn))
 aJ)
 (ag (bh (gj (aL Ks (cO pY (by rfl) T.int (by decide+kernel) (aa (ar 3) ae)) ak (aQ _)) (fU (aL vp (cO pY (by rfl) T.int (by decide+kernel) (aa (ar 3) ae)) (bg qX ak ak) (aQ _)))).pt
 (aj (aD gn))
 aJ)
 (aj (aD (eB (aa (cO pY (by rfl) T.int (by decide+kernel) (aa (ar 3) ae)) (aa (ar 2) ae)))))))))))),?_⟩
  have nj:z.length<=sizeLine:=small (by omega);rfl';rw[dN.2.1];refine⟨rfl,z,one 42,rfl,rfl,?_⟩;rcases kg 42 (sg z)with n|⟨a,b,e,n⟩
  ·rw[Lv n];have et:=Dw n;rfl';refine eQ nj ?_;rw[show cS z (some (-1+1)) none=z from wz z 0];rfl';refine eQ nj ?_;rfl';refine⟨z,rfl,hz,?_⟩;rw[<- lx];refine bB (λ h1=>?_) (λ h1=>?_)
   ·have h1:isName z=false:=by simpa using h1
    rfl';refine au ?_;rw[et,h1]at k;exact k
   ·have h1:isName z=true:=by simpa using h1
    rfl';refine aN (λ _=>?_) (λ h2=>absurd (by decide) h2);rfl';refine au ?_;rw[et,h1]at k;exact k
  ·rw[Lx e n];have et:=tm_at e n;have hl:a.length+(b.length+1)=z.length:=by rw[<- dO z,e,q8];rfl
   rfl';refine eQ nj ?_;rw[show cS z (some ((a.length:Int)+1)) none=mk b from(wz z (a.length+1)).trans (by rw[e];simp)];rfl';refine eQ nj ?_;rw[show max (a.length:Int) 0=(a.length:Int)from by omega,show cS z none (some (a.length:Int))=mk a from(QX z a.length).trans (by rw[e];simp)];have Qg:∀c∈a,c < 0x110000:=λ c hc=>by unfold PyData.strOk at bj;rw[<- Array.all_toList,B0]at bj;have:=bj c (by show c∈sg z;rw[e];exact mem_append_left _ hc);simpa using this
   have ZM:(mk a).length=a.length:=rfl;have hbl:(mk b).length=b.length:=rfl;rfl';refine⟨mk b,rfl,by omega,?_⟩;rw[<- lx];refine bB (λ h1=>?_) (λ h1=>?_)
   ·have h1:isName (mk b)=false:=by simpa using h1
    rfl';refine au ?_;rw[et,h1]at k;exact k
   ·have h1:isName (mk b)=true:=by simpa using h1
    rw[h1,Bool.true_and]at et;have no:∀M',bA M M'->bT (mk a)=false->fin2 Q .bu M':=λ M' hs e=>⟨M,hs,by rw[et,e]at k;exact k⟩;rfl';refine aN (λ h2=>absurd h2 (by omega)) (λ _=>?_);rfl';refine aN (λ h2=>?_) (λ h2=>?_)
    ·rfl';refine no M (bA.refl M) ?_;rw[h2];decide+kernel
    ·have eh:a≠[]:=λ z=>h2 (by rw[z];decide+kernel);rfl';refine gO (small (by omega)) ?_;rfl';refine aN (λ h3=>?_) (λ h3=>?_)
     ·rfl';refine no M (bA.refl M) ?_;unfold bT;rw[B4 (show ¬(mk a).length<=31 by omega),Bool.and_false];rfl
     ·obtain⟨c,r,rfl⟩:=exists_cons_of_ne_nil eh;rfl';refine k_ (small (by omega)) (x:=c) (cH (j:=0) rfl) ?_;rfl';have z0:((⟨#[c]⟩:Str)=Str.ofString "0")↔c=48:=by rw[show Str.ofString "0"=⟨#[48]⟩ by decide+kernel];simp
      refine aN (λ h4=>?_) (λ h4=>?_)
      ·rfl';refine no M (bA.refl M) ?_;rw[z0]at h4;unfold bT;rw[h4];simp[mk]
      ·rw[z0]at h4;have mb:bT (mk (c::r))=(((c::r).map mF).all id&&(decide (2<=val (mk (c::r)))&&decide (val (mk (c::r))<=10^30))):=by unfold bT;rw[D1 (show 1<=(mk (c::r)).length by rw[ZM];simp),D1 (show(mk (c::r)).length<=31 by omega),Bool.and_assoc,Bool.and_assoc];simp[mk,h4]
       have Rq:(dw (mk (c::r))).length=(c::r).length:=by unfold dw;rw[C2];rfl
       have ef:(((c::r).map mF).all id=true)↔(c::r).filter (λ d=>!mF d)=[]:=by rw[filter_eq_nil_iff,B0];simp
       rfl';refine gV (λ i zn M'=>M'=M/\zn=(((c::r).take i).filter λ d=>!mF d).map λ d=>D.str ⟨#[d]⟩) ⟨rfl,by simp⟩ (λ i zn M' hi h=>?_) (λ i d zn M' hd h=>?_) (λ zn M' h=>?_)
       ·obtain⟨_,rfl⟩:=h;rw[C2];have:=length_filter_le (λ d=>!mF d) ((c::r).take i);rw[A8]at this;exact small (by omega)
       ·obtain⟨rfl,rfl⟩:=h;obtain⟨x,hx,rfl⟩:=signs_at hd;have hx:(c::r)[i]?=some x:=hx;rfl';rw[StrLaws.found_one];have et2:((c::r).take (i+1)).filter (λ d=>!mF d)=((c::r).take i).filter (λ d=>!mF d)++[x].filter λ d=>!mF d:=by rw[take_add_one,hx,u7];rfl
        rw[et2];have ex:[x].filter (λ d=>!mF d)=if mF x then[]else[x]:=by cases h:mF x <;> simp[List.filter,h]
        rw[ex];rw[show decide (x∈(Str.ofString "0123456789").cps.toList)=mF x from rfl];refine bB (λ h5=>?_) (λ h5=>?_)
        ·rfl';rw[show mF x=false by simpa using h5];exact⟨rfl,by simp⟩
        ·rw[show mF x=true by simpa using h5];exact⟨rfl,by simp⟩
       ·obtain⟨rfl,rfl⟩:=h;rw[Rq,A5];intro p hp;rfl';intro p2 fB;have TV:=bq (show ai M' p _ p=some _ from af) fB;have s1:=(bA.refl M').put (o:=.lst (((c::r).filter λ d=>!mF d).map λ d=>D.str ⟨#[d]⟩)) hp;have s2:=s1.put (o:=.lst []) (by rw[aq TV.symm]at fB;exact fB);refine sV (k:=0) (b:=((c::r).map mF).all id) (by rw[aq TV];exact af) af (f_ λ d hd=>dA 0 ?_) (λ e he=>by cases he) (by decide) (by rw[ef,map_eq_nil_iff]) ?_
        ·have hd:=Qg d (mem_filter.mp hd).1;unfold PyData.strOk;simpa using hd
        ·generalize ai (ai M' p _) p2 (.lst [])=M3 at*;refine bB (λ h5=>?_) (λ h5=>?_)
         ·rfl';refine no _ s2 ?_;rw[mb,show((c::r).map mF).all id=false from(Bool.not_eq_true' _).mp h5];rfl
         ·have h5:((c::r).map mF).all id=true:=(Bool.not_eq_false' _).mp h5;have V5:intText? (mk (c::r))=some (val (mk (c::r))):=nP h5 (by rw[ZM];simp) (by omega);rw[h5,Bool.true_and]at mb;rfl';refine⟨mk (c::r),_,rfl,V5,by omega,?_⟩;rfl';refine aN (λ h6=>?_) (λ h6=>?_)
          ·rfl';refine no _ s2 ?_;rw[mb,B4 (by omega)];rfl
          ·rfl';refine⟨mk (c::r),_,rfl,V5,by omega,?_⟩;rfl';refine Br ⟨by decide,by decide,by decide⟩ ?_;rfl';have Mk:(10:Int)^(30:Int).toNat=10^30:=rfl;rw[Mk];refine aN (λ h7=>?_) (λ h7=>?_)
           ·rfl';refine no _ s2 ?_;rw[mb,B4 (λ z=>absurd h7 (Int.not_lt.mpr z)),Bool.and_false]
           ·rfl';refine⟨mk (c::r),_,rfl,V5,by omega,?_⟩;rfl';refine⟨_,s2,?_⟩;rw[et,mb,D1 (show 2<=val (mk (c::r)) by omega),D1 (Int.not_lt.mp h7)]at k;exact k
def w_(ws:List Str):Option (List (Str×Int)):=if ws=[mk [46]]then some []else if(ws.map tm).all Option.isSome then some (ws.filterMap tm)else none
theorem zd(h:(ws.map tm).all Option.isSome=true)(f:Option (Str×Int)->D):ws.map (λ w=>f (tm w))=(ws.filterMap tm).map λ t=>f (some t):=by
 induction ws with
 |nil=>rfl
 |cons w ws ih=>rw[F9,all_cons,A7]at h;obtain⟨t,e⟩:=Option.isSome_iff_exists.mp h.1;rw[F9,ih h.2,o9,e];rfl
structure Hv(w:Str):Prop where
 len:w.length<=1000
 ok:PyData.strOk w=true
def mR(f:Option (Str×Int)->D):gC:=λ ds M Q=>∃(a:ww) (ws:List Str),ds=[.ref a]/\M a=some (.lst (ws.map D.str))/\(∀w∈ws,Hv w)/\ws.length<=5000/\ws≠[]/\(w_ ws=none->Q .bu M)/\∀ts p,w_ ws=some ts->M p=none->Q (.ref p) (ai M p (.lst (ts.map λ t=>f (some t))))
theorem iz{o:MO}(h:bA M M')(e:M' p=some o):bA (ai M p o) M':=λ a u ha=>by
 by_cases z:a=p
 ·subst z;rw[af]at ha;cases ha;exact e
 ·rw[aq z]at ha;exact h a u ha
theorem EG(h:Pl k d):∀e∈[d],Pl k e:=λ e he=>by rw[u4.mp he];exact h
theorem lZ{xs:List Str}(h:xs.map D.str=ys.map D.str):xs=ys:=(List.map_inj_right (λ a b e=>by cases e;rfl)).mp h
theorem iR(h:isName z=true):PyData.strOk z=true:=by
 unfold PyData.strOk;rw[<- Array.all_toList,B0];intro c hc;refine D1 ?_;rcases oS h c hc with e|e
 ·unfold isLt at e;rw[cW]at e;simp at e;omega
 ·rw[show(Str.ofString "123456789").cps.toList=[49,50,51,52,53,54,55,56,57] by decide+kernel]at e;simp at e;omega
set_option tactic.hygienic true in
theorem sE{w n:Str}{v:Int}(h:tm w=some (n,v)):isName n=true:=by
 rcases kg 42 (sg w)with m|⟨a,b,e,m⟩
 ·rw[Dw m]at h;split at h
  ·cases h;assumption
  ·cases h
 ·rw[tm_at e m]at h;split at h
  ·cases h;rename_i g;exact(Bool.and_eq_true_iff.mp g).1
  ·cases h
theorem SW(w:Str):Pl 1 (kQ (tm w)):=by
 cases e:tm w with
 |none=>exact sZ 1
 |some t=>
  refine EF λ d hd=>?_;rcases G0.mp hd with z|z
  ·rw[z];exact dA 0 (iR (sE e))
  ·rw[u4.mp z];exact EJ 0 _
theorem SX(w:Str):Pl 1 (qq (tm w)):=by
 cases e:tm w with
 |none=>exact sZ 1
 |some t=>
  refine EF λ d hd=>?_;rcases G0.mp hd with z|z
  ·rw[z];exact EJ 0 _
  ·rw[u4.mp z];exact dA 0 (iR (sE e))
theorem zf(f:Option (Str×Int)->D)(hf:∀t,f (some t)≠.bu)(hn:f none=.bu)(ws:List Str):(!(ws.map tm).all Option.isSome)=true↔D.bu∈ws.map λ w=>f (tm w):=by
 rw[Bool.not_eq_true',List.all_eq_false,G8];constructor
 ·rintro⟨t,ht,e⟩;obtain⟨w,hw,rfl⟩:=G8.mp ht;refine⟨w,hw,?_⟩;rw[Option.not_isSome_iff_eq_none.mp e];exact hn
 ·rintro⟨w,hw,e⟩;refine⟨tm w,List.mem_map_of_mem hw,λ z=>?_⟩;obtain⟨t,ht⟩:=Option.isSome_iff_exists.mp z;rw[ht]at e;exact hf t e
theorem lV:aH ["words","terms"] ["words"] (ao (top 27)):=⟨rfl,rfl,rfl,by decide+kernel,rfl,by decide+kernel,by decide+kernel⟩
theorem Fd(F:dH K "terms_of" "terms_of" (top 27) f fd)(T:fL K mg)(Cq:bK P w K mg base 3 "term_of" ["word"] (sJ kQ)):bo P w K mg base dJ 4 f fd ["words"] (bZ K (mR kQ)):=by
 refine iy F lV (λ ds M Q h=>?_) (λ bR A outer s H E ds M Q hr h=>?_)
 ·obtain⟨a,ws,rfl,_⟩:=h;rfl
 ·obtain⟨a,ws,rfl,ha,hw,hl,eh,k0,k1⟩:=h;refine⟨_,(ag (bh (aL (cq hr.units) (ar 0) (b_ (aa aX ae)) (aQ _))
 (aj (aD (b_ ae)))
 aJ)
 (ag (cI (i:=1) lV.nd rfl (Or.inl rfl) (tgs:=["word"]) (fr:=[]) ⟨bM (by kernel_rfl),rfl,(λ _ _ h=>h),(bY (ar 0)),(bC (λ _ _ _ _ _=>(aY (i:=0) (show(["word"]:List Str).Nodup by decide+kernel) rfl (Or.inl rfl))) (by decide)),(λ _ _ _ _ _=>bE),(λ _ _ _ _ _=>(aK Cq (hr.mono (by decide)) (by rfl) (aa (ar 0) ae)))⟩)
 (ag (bh (gj (aL (cq hr.units) (ar 1) (b_ ae) (aQ _)) (fU (aL (hU hr.units) gn (ar 1) rfl))).pt
 (aj (aD gn))
 aJ)
 (aj (aD (ar 1)))))),?_⟩
  rfl';intro p hp;have s1:=(bA.refl M).put (o:=.lst [.str (Str.ofString ".")]) hp;refine jV (k:=0) (b:=decide (ws=[mk [46]])) (by rw[aq (bq ha hp)];exact ha) af (f_ λ w hm=>dA 0 (hw w hm).ok) (EG (dA 0 (by decide+kernel))) (by decide) (by rw[decide_eq_true_iff,dN.2.2];exact⟨λ e=>by rw[e];rfl,λ e=>lZ (e.trans rfl)⟩) ?_;refine aN (λ h1=>?_) (λ h1=>?_)
  ·rfl';intro q hq;have Gn:M q=none:=bi.free s1 hq;refine⟨_,iz (s1.trans (λ b o e=>?_)) af,k1 [] q (by unfold w_;rw[N3 h1]) Gn⟩;rw[aq (λ z=>by rw[z,hq]at e;cases e)];exact e
  ·have MN:=s1 a _ ha;generalize ai M p (.lst [.str (Str.ofString ".")])=M1 at*;rfl';refine eW D.str (λ w=>kQ (tm w)) (by omega) MN (λ i w N hi hN=>?_) ?_
   ·rfl';have:=hw w (l8 hi);exact⟨w,rfl,this.len,this.ok,hN⟩
   ·intro q hq;have Gn:M q=none:=bi.free s1 hq;have s2:bA M1 (ai M1 q (.lst (ws.map λ w=>kQ (tm w)))):=(bA.refl M1).put hq;have BW:ai M1 q (.lst (ws.map λ w=>kQ (tm w))) q=some (.lst (ws.map λ w=>kQ (tm w))):=af;have s2:=s1.trans s2;generalize ai M1 q (.lst (ws.map λ w=>kQ (tm w)))=M2 at*;rfl';intro p3 nk;have s3:bA M2 (ai M2 p3 (.lst [])):=(bA.refl M2).put nk;have SV:=f_ (k:=1) (xs:=ws) (enc:=λ w=>kQ (tm w)) λ w _=>SW w;refine jV (k:=1) (b:=false) (s3 _ _ BW) af SV (λ e he=>by cases he) (by decide) (by simp[eh]) ?_;have BW:=s3 _ _ BW;have s3:=s2.trans s3;generalize ai M2 p3 (.lst [])=M3 at*;rfl';have an:=zf kQ (λ t z=>by cases z) rfl ws;refine sX (b:=!(ws.map tm).all Option.isSome) (fg BW) (sZ 1) SV (by decide) an ?_;refine bB (λ h2=>?_) (λ h2=>?_)
    ·rfl';exact⟨M,s3,k0 (by unfold w_;rw[N4 h1,(Bool.not_eq_true' _).mp h2];rfl)⟩
    ·have h2:=(Bool.not_eq_false' _).mp h2;rfl';rw[zd h2]at BW;exact⟨_,iz s3 BW,k1 _ q (by unfold w_;rw[N4 h1,h2];rfl) Gn⟩
theorem gZ:aH ["_law_words","_law_told"] ["_law_words"] (ao (top 53)):=⟨rfl,rfl,rfl,by decide+kernel,rfl,by decide+kernel,by decide+kernel⟩
theorem vm(F:dH K "_law_sum_read" "_law_sum_read" (top 53) f fd)(T:fL K mg)(mJ:bK P w K mg base 3 "_law_part_read" ["_law_word_here"] (sJ qq)):bo P w K mg base dJ 4 f fd ["_law_words"] (bZ K (mR qq)):=by
 refine iy F gZ (λ ds M Q h=>?_) (λ bR A outer s H E ds M Q hr h=>?_)
 ·obtain⟨a,ws,rfl,_⟩:=h;rfl
 ·obtain⟨a,ws,rfl,ha,hw,hl,eh,k0,k1⟩:=h;refine⟨_,(ag (bh (aL (cq hr.units) (ar 0) (b_ (aa aX ae)) (aQ _))
 (aj (aD (b_ ae)))
 aJ)
 (ag (cI (i:=1) gZ.nd rfl (Or.inl rfl) (tgs:=["_law_word_here"]) (fr:=[]) ⟨bM (by kernel_rfl),rfl,(λ _ _ h=>h),(bY (ar 0)),(bC (λ _ _ _ _ _=>(aY (i:=0) (show(["_law_word_here"]:List Str).Nodup by decide+kernel) rfl (Or.inl rfl))) (by decide)),(λ _ _ _ _ _=>bE),(λ _ _ _ _ _=>(aK mJ (hr.mono (by decide)) (by rfl) (aa (ar 0) ae)))⟩)
 (ag (bh (gj (aL (cq hr.units) (ar 1) (b_ ae) (aQ _)) (fU (aL (hU hr.units) gn (ar 1) rfl))).pt
 (aj (aD gn))
 aJ)
 (aj (aD (ar 1)))))),?_⟩
  rfl';intro p hp;have s1:=(bA.refl M).put (o:=.lst [.str (Str.ofString ".")]) hp;refine jV (k:=0) (b:=decide (ws=[mk [46]])) (by rw[aq (bq ha hp)];exact ha) af (f_ λ w hm=>dA 0 (hw w hm).ok) (EG (dA 0 (by decide+kernel))) (by decide) (by rw[decide_eq_true_iff,dN.2.2];exact⟨λ e=>by rw[e];rfl,λ e=>lZ (e.trans rfl)⟩) ?_;refine aN (λ h1=>?_) (λ h1=>?_)
  ·rfl';intro q hq;have Gn:M q=none:=bi.free s1 hq;refine⟨_,iz (s1.trans (λ b o e=>?_)) af,k1 [] q (by unfold w_;rw[N3 h1]) Gn⟩;rw[aq (λ z=>by rw[z,hq]at e;cases e)];exact e
  ·have MN:=s1 a _ ha;generalize ai M p (.lst [.str (Str.ofString ".")])=M1 at*;rfl';refine eW D.str (λ w=>qq (tm w)) (by omega) MN (λ i w N hi hN=>?_) ?_
   ·rfl';have:=hw w (l8 hi);exact⟨w,rfl,this.len,this.ok,hN⟩
   ·intro q hq;have Gn:M q=none:=bi.free s1 hq;have s2:bA M1 (ai M1 q (.lst (ws.map λ w=>qq (tm w)))):=(bA.refl M1).put hq;have BW:ai M1 q (.lst (ws.map λ w=>qq (tm w))) q=some (.lst (ws.map λ w=>qq (tm w))):=af;have s2:=s1.trans s2;generalize ai M1 q (.lst (ws.map λ w=>qq (tm w)))=M2 at*;rfl';intro p3 nk;have s3:bA M2 (ai M2 p3 (.lst [])):=(bA.refl M2).put nk;have SV:=f_ (k:=1) (xs:=ws) (enc:=λ w=>qq (tm w)) λ w _=>SX w;refine jV (k:=1) (b:=false) (s3 _ _ BW) af SV (λ e he=>by cases he) (by decide) (by simp[eh]) ?_;have BW:=s3 _ _ BW;have s3:=s2.trans s3;generalize ai M2 p3 (.lst [])=M3 at*;rfl';have an:=zf qq (λ t z=>by cases z) rfl ws;refine sX (b:=!(ws.map tm).all Option.isSome) (fg BW) (sZ 1) SV (by decide) an ?_;refine bB (λ h2=>?_) (λ h2=>?_)
    ·rfl';exact⟨M,s3,k0 (by unfold w_;rw[N4 h1,(Bool.not_eq_true' _).mp h2];rfl)⟩
    ·have h2:=(Bool.not_eq_false' _).mp h2;rfl';rw[zd h2]at BW;exact⟨_,iz s3 BW,k1 _ q (by unfold w_;rw[N4 h1,h2];rfl) Gn⟩
def Ib(zs:List Str):List (D×D):=zs.map λ z=>(D.str z,D.bl true)
def uG(zs:List Str):List (D×D):=zs.zipIdx.map λ z=>(D.str z.1,D.int (z.2:Int))
theorem tK(f:Nat->D)(z:Str):∀(zs:List Str) (k:Nat),eN ((zs.zipIdx k).map λ z=>(D.str z.1,f z.2)) (.str z)=if z∈zs then some (f (k+zs.idxOf z))else none
 |[],k=>by simp[eN]
 |x::xs,k=>by
  have ih:=tK f z xs (k+1);unfold eN at ih ⊢;rw[zipIdx_cons,F9,B3];by_cases e:x=z
  ·subst e;rw[N3 p0];simp
  ·have n:¬D.str x=D.str z:=λ q=>e (D.str.inj q);have n2:decide ((D.str x)=D.str z)=false:=B4 n;show Option.map _ (match decide (D.str x=D.str z)with|true=>some _|false=>_)=_;rw[n2];refine ih.trans ?_;have m:z∈x::xs↔z∈xs:=by simp[L9 e]
   have i:(x::xs).idxOf z=xs.idxOf z+1:=by rw[idxOf_cons,show(x==z)=false from beq_eq_false_iff_ne.mpr e];rfl
   by_cases h:z∈xs
   ·rw[N3 h,N3 (m.mpr h),i];congr 2;omega
   ·rw[N4 h,N4 λ q=>h (m.mp q)]
theorem RD(zs:List Str):Ib zs=(zs.zipIdx 0).map λ z=>(D.str z.1,(λ _=>D.bl true) z.2):=by unfold Ib;rw[show(λ z:Str×Nat=>(D.str z.1,(λ _=>D.bl true) z.2))=(λ z=>(D.str z,D.bl true))∘Prod.fst from rfl,<- G9,zipIdx_map_fst]
theorem yY(zs:List Str)(z:Str):(eN (Ib zs) (.str z)).isSome=decide (z∈zs):=by rw[RD,tK (λ _=>D.bl true)];by_cases h:z∈zs <;> simp[h]
theorem Ng(h:z∉zs):putD (Ib zs) (.str z) (.bl true)=Ib (zs++[z]):=by unfold putD;rw[yY,N4 (by simp[h])];unfold Ib;rw[C4];rfl
theorem s_(zs:List Str)(z:Str):eN (uG zs) (.str z)=if z∈zs then some (.int (zs.idxOf z:Nat))else none:=by unfold uG;rw[tK λ i=>D.int (i:Int),Nat.zero_add]
theorem O0(h:z∉zs):putD (uG zs) (.str z) (.int (zs.length:Nat))=uG (zs++[z]):=by unfold putD;rw[s_,N4 h,N4 (by simp)];unfold uG;rw[zipIdx_append,C4,Nat.zero_add];rfl
theorem EI(zs:List Str):(uG zs).length=zs.length:=by unfold uG;rw[C2,length_zipIdx]
def df:List Str->List Str->Option Str
 |_,[]=>none
 |zs,n::ns=>if n∈zs then some n else df (zs++[n]) ns
def Off(p:ww)(M M':Mem):Prop:=∀b o,b≠p->M b=some o->M' b=some o
def zv:xh:=λ ds M Q E=>∃(a p:ww) (ns zs:List Str),ds=[.ref a,.ref p]/\M a=some (.lst (ns.map D.str))/\M p=some (.fH false (Ib zs))/\ns.length+zs.length<=5000/\(df zs ns=none->∀M',Off p M M'->Q .bu M')/\∀n,df zs ns=some n->∀M',Off p M M'->E 63 [(Str.ofString "name",.str n)] M'
def Mm:xh:=λ ds M Q E=>∃(a p:ww) (ns own:List Str),ds=[.ref a,.ref p]/\M a=some (.lst (ns.map D.str))/\M p=some (.fH false (uG own))/\ns.length<=5000/\(ns.find? (λ n=>!decide (n∈own))=none->Q .bu M)/\∀n,ns.find? (λ n=>!decide (n∈own))=some n->E 82 [(Str.ofString "name",.str n)] M
def Mp:gC:=λ ds M Q=>∃(a:ww) (ts:List (Str×Int)),ds=[.ref a]/\M a=some (.lst (ts.map λ t=>kQ (some t)))/\ts.length<=5000/\∀p,M p=none->Q (.ref p) (ai M p (.lst ((ts.map (·.1)).map D.str)))
def Mo:gC:=λ ds M Q=>∃(a:ww) (zs:List Str),ds=[.ref a]/\M a=some (.lst (zs.map D.str))/\zs.length<=1000/\zs.Nodup/\∀p,M p=none->Q (.ref p) (ai M p (.fH false (uG zs)))
theorem Bj:aH ["self","row"] ["self","row"] (ao (pe 2)):=⟨rfl,rfl,rfl,by decide+kernel,rfl,by decide+kernel,by decide+kernel⟩
theorem BF(F:dH K "__init__" "NoText.__init__" (pe 2) 41 fd)(T:fL K mg):bo P w K mg base dJ 1 41 fd ["self","row"] (R8 44 [Str.ofString "row"]):=by
 refine F.ok Bj (λ vs H Q E h=>?_) (λ bR A outer s H vs Q E hr h=>?_)
 ·obtain⟨e,t,us,rfl,hl,_⟩:=h;rw[A3,hl];rfl
 ·obtain⟨e,t,us,rfl,hl,he,k⟩:=h;obtain⟨u,rfl⟩:=Wr hl;refine⟨_,dz (mW (oH (by rfl) T.fP T.gS (aO (pv 0) (aO (pv 1) cj)))) (eR (EC (pv 0) (pv 1))),?_⟩;refine⟨.ref e,rfl,u,rfl,e,_,_,t,[u],rfl,he,T.cX.ec,by simp,λ t1=>?_⟩;refine⟨u,rfl,.ref e,rfl,e,_,_,t1,rfl,T.cX.ec,T.cX.VV (by simp),.inl ⟨aV,λ dx hd ne=>?_⟩⟩;have z:=k t1 dx (by rw[aB ne]at hd;exact hd) ne;rw[jK];exact z
theorem Ck(T:fL K mg):AN P w K mg base 1 "NoText" 44 [Str.ofString "row"]:=by obtain⟨fd,F⟩:=T.cX.F;exact⟨T.cX.m,_,fd,_,T.cX.ec,BF F T,F.binds λ _ _ _ _ _ _=>ln2 λ _ _=>rfl⟩
theorem DH:aH ["self","name"] ["self","name"] (ao (pe 3)):=⟨rfl,rfl,rfl,by decide+kernel,rfl,by decide+kernel,by decide+kernel⟩
theorem Fm(F:dH K "__init__" "Twice.__init__" (pe 3) 60 fd)(T:fL K mg):bo P w K mg base dJ 1 60 fd ["self","name"] (R8 63 [Str.ofString "name"]):=by
 refine F.ok DH (λ vs H Q E h=>?_) (λ bR A outer s H vs Q E hr h=>?_)
 ·obtain⟨e,t,us,rfl,hl,_⟩:=h;rw[A3,hl];rfl
 ·obtain⟨e,t,us,rfl,hl,he,k⟩:=h;obtain⟨u,rfl⟩:=Wr hl;refine⟨_,dz (mW (oH (by rfl) T.fP T.gS (aO (pv 0) (aO (pv 1) cj)))) (eR (EC (pv 0) (pv 1))),?_⟩;refine⟨.ref e,rfl,u,rfl,e,_,_,t,[u],rfl,he,T.eA.ec,by simp,λ t1=>?_⟩;refine⟨u,rfl,.ref e,rfl,e,_,_,t1,rfl,T.eA.ec,T.eA.VV (by simp),.inl ⟨aV,λ dx hd ne=>?_⟩⟩;have z:=k t1 dx (by rw[aB ne]at hd;exact hd) ne;rw[jK];exact z
theorem GQ(T:fL K mg):AN P w K mg base 1 "Twice" 63 [Str.ofString "name"]:=by obtain⟨fd,F⟩:=T.eA.F;exact⟨T.eA.m,_,fd,_,T.eA.ec,Fm F T,F.binds λ _ _ _ _ _ _=>ln2 λ _ _=>rfl⟩
theorem Bk:aH ["self","name"] ["self","name"] (ao (pe 4)):=⟨rfl,rfl,rfl,by decide+kernel,rfl,by decide+kernel,by decide+kernel⟩
theorem BG(F:dH K "__init__" "NoName.__init__" (pe 4) 79 fd)(T:fL K mg):bo P w K mg base dJ 1 79 fd ["self","name"] (R8 82 [Str.ofString "name"]):=by
 refine F.ok Bk (λ vs H Q E h=>?_) (λ bR A outer s H vs Q E hr h=>?_)
 ·obtain⟨e,t,us,rfl,hl,_⟩:=h;rw[A3,hl];rfl
 ·obtain⟨e,t,us,rfl,hl,he,k⟩:=h;obtain⟨u,rfl⟩:=Wr hl;refine⟨_,dz (mW (oH (by rfl) T.fP T.gS (aO (pv 0) (aO (pv 1) cj)))) (eR (EC (pv 0) (pv 1))),?_⟩;refine⟨.ref e,rfl,u,rfl,e,_,_,t,[u],rfl,he,T.cY.ec,by simp,λ t1=>?_⟩;refine⟨u,rfl,.ref e,rfl,e,_,_,t1,rfl,T.cY.ec,T.cY.VV (by simp),.inl ⟨aV,λ dx hd ne=>?_⟩⟩;have z:=k t1 dx (by rw[aB ne]at hd;exact hd) ne;rw[jK];exact z
theorem Cm(T:fL K mg):AN P w K mg base 1 "NoName" 82 [Str.ofString "name"]:=by obtain⟨fd,F⟩:=T.cY.F;exact⟨T.cY.m,_,fd,_,T.cY.ec,BG F T,F.binds λ _ _ _ _ _ _=>ln2 λ _ _=>rfl⟩
theorem gY:aH ["names","told","name"] ["names","told"] (ao (top 28)):=⟨rfl,rfl,rfl,by decide+kernel,rfl,by decide+kernel,by decide+kernel⟩
theorem Fj(F:dH K "refuse_again" "refuse_again" (top 28) f fd)(T:fL K mg):bo P w K mg base (qI P w) 3 f fd ["names","told"] (lR K zv):=by
 have LC:=GQ (P:=P) (w:=w) (base:=base) T;refine Xj F gY (λ ds M Q E h=>?_) (λ bR A outer s H E ds M Q E2 hr h kx=>?_)
 ·obtain⟨a,p,ns,zs,rfl,_⟩:=h;rfl
 ·obtain⟨a,p,ns,zs,rfl,ha,hp,hl,k0,k1⟩:=h;have TJ:bJ 2 (A.deeper (PyProof.Rows.envOfC "refuse_again" (ao (top 28)) s.heap.objs.size f bR)):=hr.mono (by decide);refine⟨_,(aj (eY wx rfl (bY (ar 0)) (cN (i:=2) gY.nd rfl (Or.inl rfl))
 (ag (bh (xq (aL (Tc hr.units) (ar 2) (ar 1) rfl))
 (aj (nL lH kx rfl (by rfl) LC TJ (aa (i' (ar 2)) ae)))
 aJ)
 (aj (fW mx (fX (ar 1) (ar 2) (DK hr.units))))))),?_⟩
  have hap:a≠p:=λ z=>by rw[z,hp]at ha;cases ha
  rfl';refine An (ds:=ns.map D.str) (λ i δ M'=>∃(v2:Option D) (ys:List Str),δ=[some (.ref a),some (.ref p),v2]/\M' p=some (.fH false (Ib ys))/\ys.length=zs.length+i/\Off p M M'/\df zs ns=df ys (ns.drop i)) ⟨none,zs,rfl,hp,rfl,λ b o _ e=>e,rfl⟩ (λ i δ M' _ h=>?_) (λ i d δ M' hd h=>?_) (λ δ M' h=>?_)
  ·obtain⟨_,_,_,_,_,hO,_⟩:=h;exact hO a _ hap ha
  ·obtain⟨v2,ys,rfl,h1,h2,hO,h3⟩:=h;rw[x6]at hd;cases e3:ns[i]? with
   |none=>rw[e3]at hd;cases hd
   |some x=>
    rw[e3]at hd;cases hd;obtain⟨hi,ex⟩:=i5.mp e3;rw[i4 hi,ex]at h3;have h3:df zs ns=if x∈ys then some x else df (ys++[x]) (ns.drop (i+1)):=h3
    rfl';refine Ol h1 ⟨.inr x,rfl⟩ ?_;rw[yY];refine aN (λ jF=>?_) (λ jF=>?_)
    ·refine oz ?_;rfl';rw[N3 jF]at h3;exact⟨rfl,by decide,k1 x h3 M' hO⟩
    ·rw[N4 jF]at h3;rfl';refine zy h1 ⟨.inr x,rfl⟩ (by unfold Ib;rw[C2];exact s9 (show _<=5000 by omega) (by decide)) ?_;rw[Ng jF];exact⟨_,ys++[x],rfl,af,by rw[q8,h2];rfl,λ b o n e=>by rw[aq n];exact hO b o n e,h3⟩
  ·obtain⟨v2,ys,rfl,h1,h2,hO,h3⟩:=h;rw[C2,drop_length]at h3;exact au (k0 h3 M' hO)
theorem fO:aH ["names","known","name"] ["names","known"] (ao (top 29)):=⟨rfl,rfl,rfl,by decide+kernel,rfl,by decide+kernel,by decide+kernel⟩
theorem Ph(F:dH K "refuse_unknown" "refuse_unknown" (top 29) f fd)(T:fL K mg):bo P w K mg base (qI P w) 3 f fd ["names","known"] (lR K Mm):=by
 have GV:=Cm (P:=P) (w:=w) (base:=base) T;refine Xj F fO (λ ds M Q E h=>?_) (λ bR A outer s H E ds M Q E2 hr h kx=>?_)
 ·obtain⟨a,p,ns,zs,rfl,_⟩:=h;rfl
 ·obtain⟨a,p,ns,own,rfl,ha,hp,hl,k0,k1⟩:=h;have TJ:bJ 2 (A.deeper (PyProof.Rows.envOfC "refuse_unknown" (ao (top 29)) s.heap.objs.size f bR)):=hr.mono (by decide);refine⟨_,(aj (eY wx rfl (bY (ar 0)) (cN (i:=2) fO.nd rfl (Or.inl rfl))
 (aj (bh (xq (aL (Fq hr.units) (ar 2) (ar 1) rfl))
 (aj (nL lH kx rfl (by rfl) GV TJ (aa (i' (ar 2)) ae)))
 aJ)))),?_⟩
  rfl';refine An (ds:=ns.map D.str) (λ i δ M'=>∃(v2:Option D),δ=[some (.ref a),some (.ref p),v2]/\M'=M/\ns.find? (λ n=>!decide (n∈own))=(ns.drop i).find? λ n=>!decide (n∈own)) ⟨none,rfl,rfl,rfl⟩ (λ i δ M' _ h=>?_) (λ i d δ M' hd h=>?_) (λ δ M' h=>?_)
  ·obtain⟨_,_,rfl,_⟩:=h;exact ha
  ·obtain⟨v2,rfl,rfl,h3⟩:=h;rw[x6]at hd;cases e3:ns[i]? with
   |none=>rw[e3]at hd;cases hd
   |some x=>
    rw[e3]at hd;cases hd;obtain⟨hi,ex⟩:=i5.mp e3;rw[i4 hi,ex,B3]at h3;rfl';refine Bp hp ⟨.inr x,rfl⟩ ?_;rw[s_];by_cases jF:x∈own
    ·rw[N3 jF];rw[D1 jF]at h3;rfl';exact⟨_,rfl,rfl,h3⟩
    ·rw[N4 jF];rw[B4 jF]at h3;refine bB (λ _=>?_) (λ z=>by cases z);refine oz ?_;rfl';exact⟨rfl,by decide,k1 x h3⟩
  ·obtain⟨v2,rfl,rfl,h3⟩:=h;rw[C2,drop_length]at h3;exact au (k0 h3)
theorem uU:aH ["terms"] ["terms"] (ao (top 30)):=⟨rfl,rfl,rfl,by decide+kernel,rfl,by decide+kernel,by decide+kernel⟩
theorem Pn(F:dH K "names_of" "names_of" (top 30) f fd)(T:fL K mg):bo P w K mg base dJ 1 f fd ["terms"] (bZ K Mp):=by
 refine iy F uU (λ ds M Q h=>?_) (λ bR A outer s H E ds M Q hr h=>?_)
 ·obtain⟨a,ts,rfl,_⟩:=h;rfl
 ·obtain⟨a,ts,rfl,ha,hl,k⟩:=h;refine⟨_,(aj (aD (nO (tgs:=["term"]) (fr:=[]) ⟨bM (by kernel_rfl),rfl,(λ _ _ h=>h),(bY (ar 0)),(bC (λ _ _ _ _ _=>(aY (i:=0) (show(["term"]:List Str).Nodup by decide+kernel) rfl (Or.inl rfl))) (by decide)),(λ _ _ _ _ _=>bE),(λ _ _ _ _ _=>(bO bw (ar 0) ak (λ _ _=>rfl)))⟩))),?_⟩;rfl';refine eW (λ t=>kQ (some t)) (λ t=>.str t.1) (by omega) ha (λ i t N hi hN=>?_) ?_
  ·obtain⟨n,v⟩:=t;show _;unfold kQ;rfl';exact hN
  ·intro p hp;rfl';refine au ?_;have:=k p hp;rw[G9]at this;exact this
theorem eP:aH ["names","places","number","name"] ["names"] (ao (top 13)):=⟨rfl,rfl,rfl,by decide+kernel,rfl,by decide+kernel,by decide+kernel⟩
theorem Pk(F:dH K "places_of" "places_of" (top 13) f fd)(T:fL K mg):bo P w K mg base dJ 1 f fd ["names"] (bZ K Mo):=by
 refine iy F eP (λ ds M Q h=>?_) (λ bR A outer s H E ds M Q hr h=>?_)
 ·obtain⟨a,zs,rfl,_⟩:=h;rfl
 ·obtain⟨a,zs,rfl,ha,hl,Gs,k⟩:=h;refine⟨_,(ag (aU (i:=1) eP.nd rfl (Or.inl rfl) (Dp false))
 (ag (eY B8 rfl (Il rfl T.enumerate (aa (ar 0) ae)) (Dl (n:=2) rfl (jI (cN (i:=2) eP.nd rfl (Or.inl rfl)) (jI (cN (i:=3) eP.nd rfl (Or.inl rfl)) zb)))
 (aj (fW (ar 2) (fX (ar 1) (ar 3) (DK hr.units)))))
 (aj (aD (ar 1))))),?_⟩
  rfl';intro p hp;have MN:ai M p (.fH false []) a=some (.lst (zs.map D.str)):=by rw[aq (bq ha hp)];exact ha
  have iX:ai M p (.fH false []) p=some (.fH false (uG [])):=af;have s1:bA M (ai M p (.fH false [])):=(bA.refl M).put hp;generalize ai M p (.fH false [])=M1 at*;rfl';refine Qy (ds:=gA (zs.map D.str)) (λ i δ M'=>∃v2 v3:Option D,δ=[some (.ref a),some (.ref p),v2,v3]/\M' p=some (.fH false (uG (zs.take i)))/\bA M M') ⟨_,_,rfl,iX,s1⟩ (λ i δ M' _ h=>?_) (λ i d δ M' hd h=>?_) (λ δ M' h=>?_)
  ·obtain⟨_,_,_,_,hs⟩:=h;exact Cn (hs _ _ ha)
  ·obtain⟨v2,v3,rfl,h1,hs⟩:=h;rw[vZ,x6,getElem?_zipIdx]at hd;cases e3:zs[i]? with
   |none=>rw[e3]at hd;cases hd
   |some x=>
    rw[e3]at hd;cases hd;obtain⟨hi,ex⟩:=i5.mp e3;have hx:x∉zs.take i:=λ z=>by obtain⟨j,hj,ej⟩:=mem_take_iff_getElem.mp z;have:=(getElem_inj Gs).mp (ej.trans ex.symm);omega
    have HP:(zs.take i).length=i:=by rw[A8];omega
    dsimp only;rw[Nat.zero_add];rfl';refine zy h1 ⟨.inr x,rfl⟩ (by rw[EI];exact s9 (show _<=1000 by omega) (by decide)) ?_;have fB:=O0 hx;rw[HP]at fB;rw[fB];refine⟨_,_,rfl,?_,hs.put hp⟩;rw[af,take_add_one,e3];rfl
  ·obtain⟨v2,v3,rfl,h1,hs⟩:=h;rw[vZ,C2,length_zipIdx,A5]at h1;rfl';exact⟨_,iz hs h1,k p hp⟩
def qy(ts:List (Str×Int))(z:Str):Int:=((ts.filter λ t=>decide (t.1=z)).map (·.2)).sum
def uJ(own:List Str)(ts:List (Str×Int)):Row:=own.map (qy ts)
theorem LN(own:List Str)(ts:List (Str×Int)):(uJ own ts).length=own.length:=by unfold uJ;rw[C2]
theorem Hg(ts:List (Str×Int))(z:Str)(v:Int)(y:Str):qy (ts++[(z,v)]) y=qy ts y+if z=y then v else 0:=by unfold qy;rw[u7,C4,sum_append];by_cases h:z=y <;> simp[h]
theorem vE(f:Str->Int)(z:Str)(v:Int):∀{own:List Str},own.Nodup->z∈own->(own.map f)[own.idxOf z]?=some (f z)/\(own.map f).set (own.idxOf z) (f z+v)=own.map λ y=>f y+if z=y then v else 0
 |[],_,h=>by cases h
 |x::xs,nd,h=>by
  rw[nodup_cons]at nd;by_cases e:x=z
  ·subst e;rw[idxOf_cons_self];refine⟨rfl,?_⟩;show(f x+v)::xs.map f=(f x+if x=x then v else 0)::_;rw[N3 rfl];refine L8 _ (o8 λ y hy=>?_);rw[N4 (λ q=>nd.1 (by rw[q];exact hy)),Int.add_zero]
  ·have hz:z∈xs:=by simpa[L9 e]using h
   obtain⟨h1,h2⟩:=vE f z v nd.2 hz;rw[idxOf_cons,show(x==z)=false from beq_eq_false_iff_ne.mpr e];refine⟨h1,?_⟩;show f x::(xs.map f).set (xs.idxOf z) (f z+v)=(f x+if z=x then v else 0)::_
   rw[N4 (L9 e),Int.add_zero,h2]
theorem He{own:List Str}(nd:own.Nodup)(ts:List (Str×Int))(v:Int)(hz:z∈own):∃x,(uJ own ts)[own.idxOf z]?=some x/\(uJ own ts).set (own.idxOf z) (x+v)=uJ own (ts++[(z,v)]):=by obtain⟨h1,h2⟩:=vE (qy ts) z v nd hz;refine⟨_,h1,h2.trans ?_⟩;unfold uJ;exact o8 λ y _=>(Hg ts z v y).symm
def zm:gC:=λ ds M Q=>∃(a p:ww) (ts:List (Str×Int)) (own:List Str),ds=[.ref a,.ref p]/\M a=some (.lst (ts.map λ t=>kQ (some t)))/\M p=some (.fH false (uG own))/\ts.length<=5000/\own.length<=1000/\own.Nodup/\(∀t∈ts,t.1∈own)/\Q (row (uJ own ts)) M
theorem iN:aH ["terms","places","counts","name","many"] ["terms","places"] (ao (top 31)):=⟨rfl,rfl,rfl,by decide+kernel,rfl,by decide+kernel,by decide+kernel⟩
theorem BD(F:dH K "sum_of" "sum_of" (top 31) f fd)(T:fL K mg):bo P w K mg base dJ 1 f fd ["terms","places"] (bZ K zm):=by
 refine iy F iN (λ ds M Q h=>?_) (λ bR A outer s H E ds M Q hr h=>?_)
 ·obtain⟨a,p,ts,own,rfl,_⟩:=h;rfl
 ·obtain⟨a,p,ts,own,rfl,ha,hp,hl,Zz,nd,jF,k⟩:=h;refine⟨_,(ag (aU (i:=2) iN.nd rfl (Or.inl rfl) (bg dR (b_ (aa ak ae)) (aS Q1 (by rfl) T.len (by decide+kernel) (aa (ar 1) ae))))
 (ag (eY B8 rfl (bY (ar 0)) (Dl (n:=2) rfl (jI (cN (i:=3) iN.nd rfl (Or.inl rfl)) (jI (cN (i:=4) iN.nd rfl (Or.inl rfl)) zb)))
 (aj (Ij (ar 2) (bO (Mf hr.units) (ar 1) (ar 3) (λ _ _=>rfl)) (ar 4))))
 (aj (aD (cO fR (by rfl) T.tuple (by decide+kernel) (aa (ar 2) ae)))))),?_⟩
  rfl';intro q1 xg;have s1:=(bA.refl M).put (o:=.lst [.int 0]) xg;have hq:ai M q1 (.lst [.int 0]) q1=some (.lst [.int 0]):=af;generalize ai M q1 (.lst [.int 0])=M1 at*;rfl';refine Ji (s1 _ _ hp) ?_;rw[EI];refine vd hq (by omega) (by omega) λ c hc=>?_;have ZL:M c=none:=bi.free s1 hc;have e0:List.replicate (own.length:Int).toNat (D.int 0)=(uJ own []).map D.int:=by unfold uJ;rw[G9,x9];exact map_const'.symm
  rw[e0];have s2:=s1.put (o:=.lst ((uJ own []).map D.int)) ZL;have h1:ai M1 c (.lst ((uJ own []).map D.int)) c=some (.lst ((uJ own []).map D.int)):=af;generalize ai M1 c (.lst ((uJ own []).map D.int))=M2 at*;have ha2:=s2 _ _ ha;rfl';refine An (ds:=ts.map λ t=>kQ (some t)) (λ i δ M'=>∃v3 v4:Option D,δ=[some (.ref a),some (.ref p),some (.ref c),v3,v4]/\M' c=some (.lst ((uJ own (ts.take i)).map D.int))/\bA M M') ⟨none,none,rfl,h1,s2⟩ (λ i δ M' _ h=>?_) (λ i d δ M' hd h=>?_) (λ δ M' h=>?_)
  ·obtain⟨_,_,_,_,hs⟩:=h;exact hs _ _ ha
  ·obtain⟨v3,v4,rfl,h1,hs⟩:=h;rw[x6]at hd;cases e3:ts[i]? with
   |none=>rw[e3]at hd;cases hd
   |some x=>rw[e3]at hd;cases hd;obtain⟨z,v⟩:=x;have hz:=jF _ (l8 e3);obtain⟨x,ex,es⟩:=He nd (ts.take i) v hz;dsimp only;unfold kQ;rfl';unfold DS;rfl';refine Og (hs _ _ hp) ⟨.inr z,rfl⟩ ((s_ own z).trans (N3 hz)) ?_;refine⟨c,_,_,x,rfl,rfl,h1,by rw[x6,ex];rfl,?_⟩;rfl';refine⟨v,rfl,h1,?_⟩;refine⟨_,_,rfl,?_,hs.put ZL⟩;rw[af,<- map_set,es,take_add_one,e3];rfl
  ·obtain⟨v3,v4,rfl,h1,hs⟩:=h;rw[C2,A5]at h1;rfl';exact kY h1 ⟨M,hs,k⟩
inductive Rd
 |sum (r:Row)|text|twice (n:Str)|RN (n:Str)
def hG(own:List Str)(ws:List Str):Rd:=match w_ ws with
 |none=>.text
 |some ts=>match df [] (ts.map (·.1))with
  |some n=>.twice n
  |none=>match(ts.map (·.1)).find? (λ n=>!decide (n∈own))with
   |some n=>.RN n
   |none=>.sum (uJ own ts)
def ie(z:Str):List Str:=Txt.split z (one 32)
theorem xr(h:Hv z):(∀w∈ie z,Hv w)/\(ie z).length<=1001/\ie z≠[]:=by
 unfold ie;rw[nX z (by decide)];have hl:=h.len;refine⟨λ w hw=>?_,?_,?_⟩
 ·obtain⟨l,HP,rfl⟩:=G8.mp hw;refine⟨?_,?_⟩
  ·have:=sI HP;rw[dO]at this;exact H9 this h.len
  ·have ho:=h.ok;unfold PyData.strOk at ho ⊢;rw[<- Array.all_toList,B0]at ho ⊢;exact λ c hc=>ho c (zj HP c hc).1
 ·have:=@nZ 32 (sg z);rw[dO]at this;rw[C2];omega
 ·have:=sH 32 (sg z);simpa using this
theorem ze(h:w_ ws=some ts):ts.length<=ws.length:=by
 unfold w_ at h;split at h
 ·cases h;exact K3 _
 ·split at h
  ·cases h;exact length_filterMap_le _ _
  ·cases h
def aM(g:List dG):List Str:=g.map (·.1)
structure HE(g:List dG):Prop where
 nm:∀h∈g,Nm h.1
 nd:(aM g).Nodup
 mI:g.length<=12
def Z2(Q:bH)(E:yT)(M:Mem):Rd->Prop
 | .sum r=>Q (row r) M
 | .text=>E 44 [(Str.ofString "row",.int 0)] M
 | .twice n=>E 63 [(Str.ofString "name",.str n)] M
 | .RN n=>E 82 [(Str.ofString "name",.str n)] M
def n_:xh:=λ ds M Q E=>∃(g:List dG) (z:Str),ds=[dj g,.str z]/\HE g/\Hv z/\∀M',bi M M'->Z2 Q E M' (hG (aM g) (ie z))
theorem ip:aH ["game","text","terms","places"] ["game","text"] (ao (top 32)):=⟨rfl,rfl,rfl,by decide+kernel,rfl,by decide+kernel,by decide+kernel⟩
theorem Kn(F:dH K "read_sum" "read_sum" (top 32) f fd)(T:fL K mg)(yF:bK P w K mg base 4 "terms_of" ["words"] (mR kQ))(pO:bK P w K mg base 1 "names_of" ["terms"] Mp)(pN:jD P w K mg base 3 "refuse_again" ["names","told"] zv)(wj:bK P w K mg base 1 "places_of" ["names"] Mo)(lF:jD P w K mg base 3 "refuse_unknown" ["names","known"] Mm)(G':bK P w K mg base 1 "sum_of" ["terms","places"] zm):bo P w K mg base (qI P w) 5 f fd ["game","text"] (lR K n_):=by
 have GU:=Ck (P:=P) (w:=w) (base:=base) T;refine Xj F ip (λ ds M Q E h=>?_) (λ bR A outer s H E ds M Q E2 hr h kx=>?_)
 ·obtain⟨g,z,rfl,_⟩:=h;rfl
 ·obtain⟨g,z,rfl,G,hz,k⟩:=h;have TJ:bJ 2 (A.deeper (PyProof.Rows.envOfC "read_sum" (ao (top 32)) s.heap.objs.size f bR)):=hr.mono (by decide);refine⟨_,(ag (aU (i:=2) ip.nd rfl (Or.inl rfl) (i' (aK yF (hr.mono (by decide)) (by rfl) (aa (ig PySem.F.plainAttrs_str PySem.F.slot_str_split PySem.F.type_str_split m_split (ar 1) (aa aX ae)) ae))))
 (ag (bh (xq (aL zN (ar 2) gn (aQ _)))
 (aj (nL lH kx rfl (by rfl) GU TJ (aa (i' ak) ae)))
 aJ)
 (ag (gF (xu wy kx pN (hr.mono (by decide)) (by rfl) (aa (i' (aK pO (hr.mono (by decide)) (by rfl) (aa (ar 2) ae))) (aa (i' (Dp false)) ae))))
 (ag (aU (i:=3) ip.nd rfl (Or.inl rfl) (i' (aK wj (hr.mono (by decide)) (by rfl) (aa (nO (tgs:=["heap"]) (fr:=[]) ⟨bM (by kernel_rfl),rfl,(λ _ _ h=>h),(bY (ar 0)),(bC (λ _ _ _ _ _=>(aY (i:=0) (show(["heap"]:List Str).Nodup by decide+kernel) rfl (Or.inl rfl))) (by decide)),(λ _ _ _ _ _=>bE),(λ _ _ _ _ _=>(bO (Mf hr.units) (ar 0) ak (λ _ _=>rfl)))⟩) ae))))
 (ag (gF (xu wy kx lF (hr.mono (by decide)) (by rfl) (aa (i' (aK pO (hr.mono (by decide)) (by rfl) (aa (ar 2) ae))) (aa (i' (ar 3)) ae))))
 (aj (aD (i' (aK G' (hr.mono (by decide)) (by rfl) (aa (ar 2) (aa (ar 3) ae))))))))))),?_⟩
  obtain⟨w1,w2,w3⟩:=xr hz;have XR:=hz.len;rfl';rw[dN.1];refine⟨rfl,z,one 32,rfl,rfl,by decide,by omega,small (by show(ie z).length<=10000;omega),λ p hp=>?_⟩;have E1:bi M (ai M p (.lst ((ie z).map D.str))):=bi.new bi.rfl hp _;have h1:ai M p (.lst ((ie z).map D.str)) p=some (.lst ((ie z).map D.str)):=af;rw[show Txt.split z (one 32)=ie z from rfl];generalize ai M p (.lst ((ie z).map D.str))=M1 at*;unfold hG at k;rfl';refine⟨p,ie z,rfl,h1,w1,by omega,w3,λ hn=>?_,λ ts q ht hq=>?_⟩
  ·rfl';refine jU ?_;refine bB (λ _=>?_) (λ z=>by cases z);refine oz ?_;rfl';rw[hn]at k;exact⟨rfl,by decide,k _ E1⟩
  ·rw[ht]at k;dsimp only at k;have tl:=ze ht;have Y8:=E1.new hq (.lst (ts.map λ t=>kQ (some t)));have h2:ai M1 q (.lst (ts.map λ t=>kQ (some t))) q=some (.lst (ts.map λ t=>kQ (some t))):=af;generalize ai M1 q (.lst (ts.map λ t=>kQ (some t)))=M2 at*;rfl';refine gN (by simp[my,h2]) ?_;rfl';refine⟨q,ts,rfl,h2,by omega,λ p3 nk=>?_⟩;have E3:=Y8.new nk (.lst ((ts.map (·.1)).map D.str));have g3:ai M2 p3 (.lst ((ts.map (·.1)).map D.str)) q=some (.lst (ts.map λ t=>kQ (some t))):=by rw[aq (bq h2 nk)];exact h2
   have h3:ai M2 p3 (.lst ((ts.map (·.1)).map D.str)) p3=some (.lst ((ts.map (·.1)).map D.str)):=af;generalize ai M2 p3 (.lst ((ts.map (·.1)).map D.str))=M3 at*;rfl';intro p4 uI;have E4:=E3.new uI (.fH false []);have n4:M p4=none:=E3.free uI;have q4:q≠p4:=bq g3 uI;refine⟨p3,p4,ts.map (·.1),[],rfl,by rw[aq (bq h3 uI)];exact h3,af,by rw[C2];show _+0<=_;omega,λ ha M5 hO=>?_,λ n ha M5 hO=>?_⟩
   ·rw[ha]at k;dsimp only at k;have E5:bi M M5:=λ b o e=>hO b o (bq e n4) (E4 b o e);have g5:M5 q=some (.lst (ts.map λ t=>kQ (some t))):=hO q _ q4 (by rw[aq q4];exact g3);clear hO;rfl';unfold dj;rfl';have gf:=G.mI;refine kr (xs:=g) (enc:=dF) (λ h=>.str h.1) (by omega) (λ i h N hi hN=>?_) ?_
    ·unfold dF;rfl';refine Jj ?_;rfl';exact hN
    ·intro p6 Gp;have e6:(g.map λ h=>D.str h.1)=(aM g).map D.str:=by unfold aM;rw[G9];rfl
     rw[e6];have E6:=E5.new Gp (.lst ((aM g).map D.str));have g6:ai M5 p6 (.lst ((aM g).map D.str)) q=some (.lst (ts.map λ t=>kQ (some t))):=by rw[aq (bq g5 Gp)];exact g5
     have h6:ai M5 p6 (.lst ((aM g).map D.str)) p6=some (.lst ((aM g).map D.str)):=af;generalize ai M5 p6 (.lst ((aM g).map D.str))=M6 at*;have ol:(aM g).length<=12:=by unfold aM;rw[C2];exact gf
     rfl';refine⟨p6,aM g,rfl,h6,by omega,G.nd,λ p7 MK=>?_⟩;have E7:=E6.new MK (.fH false (uG (aM g)));have g7:ai M6 p7 (.fH false (uG (aM g))) q=some (.lst (ts.map λ t=>kQ (some t))):=by rw[aq (bq g6 MK)];exact g6
     have h7:ai M6 p7 (.fH false (uG (aM g))) p7=some (.fH false (uG (aM g))):=af;generalize ai M6 p7 (.fH false (uG (aM g)))=M7 at*;rfl';refine⟨q,ts,rfl,g7,by omega,λ p8 TX=>?_⟩;have E8:=E7.new TX (.lst ((ts.map (·.1)).map D.str));have g8:ai M7 p8 (.lst ((ts.map (·.1)).map D.str)) q=some (.lst (ts.map λ t=>kQ (some t))):=by rw[aq (bq g7 TX)];exact g7
     have f8:ai M7 p8 (.lst ((ts.map (·.1)).map D.str)) p7=some (.fH false (uG (aM g))):=by rw[aq (bq h7 TX)];exact h7
     have h8:ai M7 p8 (.lst ((ts.map (·.1)).map D.str)) p8=some (.lst ((ts.map (·.1)).map D.str)):=af;generalize ai M7 p8 (.lst ((ts.map (·.1)).map D.str))=M8 at*;rfl';refine⟨p8,p7,ts.map (·.1),aM g,rfl,h8,f8,by rw[C2];omega,λ hu=>?_,λ n hu=>?_⟩
     ·rw[hu]at k;rfl';refine⟨q,p7,ts,aM g,rfl,g8,f8,by omega,by omega,G.nd,λ t ht=>?_,au (k _ E8)⟩;have:=find?_eq_none.mp hu t.1 (List.mem_map_of_mem ht);simpa using this
     ·rw[hu]at k;exact k _ E8
   ·rw[ha]at k;exact k M5 λ b o e=>hO b o (bq e n4) (E4 b o e)
theorem Du(h:w_ ws=some ts):∀t∈ts,isName t.1=true:=by
 unfold w_ at h;split at h
 ·cases h;intro t z;cases z
 ·split at h
  ·cases h;intro t ht;obtain⟨w,_,e⟩:=mem_filterMap.mp ht;exact sE (n:=t.1) (v:=t.2) e
  ·cases h
def GW:Rd->D
 | .sum r=>.tup [.str (Str.ofString "sum"),row r]
 | .text=>.tup [.str (Str.ofString "text"),.int 0]
 | .twice n=>.tup [.str (Str.ofString "twice"),.str n]
 | .RN n=>.tup [.str (Str.ofString "name"),.str n]
def mS:gC:=λ ds M Q=>∃(g:List dG) (z:Str),ds=[dj g,.str z]/\HE g/\Hv z/\∀M',bi M M'->Q (GW (hG (aM g) (ie z))) M'
theorem dP:aH ["_law_game","_law_text","_law_told","_law_names_here","_law_k","_law_own","_law_name_here"] ["_law_game","_law_text"] (ao (top 56)):=⟨rfl,rfl,rfl,by decide+kernel,rfl,by decide+kernel,by decide+kernel⟩
theorem Pq(F:dH K "_law_due" "_law_due" (top 56) f fd)(T:fL K mg)(pQ:bK P w K mg base 4 "_law_sum_read" ["_law_words"] (mR qq)):bo P w K mg base dJ 5 f fd ["_law_game","_law_text"] (bZ K mS):=by
 refine iy F dP (λ ds M Q h=>?_) (λ bR A outer s H E ds M Q hr h=>?_)
 ·obtain⟨g,z,rfl,_⟩:=h;rfl
 ·obtain⟨g,z,rfl,G,hz,k⟩:=h;refine⟨_,(ag (aU (i:=2) dP.nd rfl (Or.inr rfl) (aK pQ (hr.mono (by decide)) (by rfl) (aa (ig PySem.F.plainAttrs_str PySem.F.slot_str_split PySem.F.type_str_split m_split (ar 1) (aa aX ae)) ae)))
 (ag (bh (aL zN (ar 2) gn (aQ _))
 (aj (aD (eB (aa aX (aa ak ae)))))
 aJ)
 (ag (cI (i:=3) dP.nd rfl (Or.inl rfl) (tgs:=["_law_many","_law_name_here"]) (fr:=[]) ⟨bM (by kernel_rfl),rfl,(λ _ _ h=>h),(bY (ar 2)),(gm (λ _ _ _ _ _=>(jr rfl (cg (aY (i:=0) (show(["_law_many","_law_name_here"]:List Str).Nodup by decide+kernel) rfl (Or.inl rfl)) (cg (aY (i:=1) (show(["_law_many","_law_name_here"]:List Str).Nodup by decide+kernel) rfl (Or.inl rfl)) gQ)))) (by decide) (by decide)),(λ _ _ _ _ _=>bE),(λ _ _ _ _ _=>(ar 1))⟩)
 (ag (eY B8 rfl (bV rfl T.range (aa (aS cT (by rfl) T.len (by decide+kernel) (aa (ar 3) ae)) ae)) (cN (i:=4) dP.nd rfl (Or.inl rfl))
 (aj (bh (aL (hU hr.units) (bO bw (ar 3) (ar 4) (λ _ _=>rfl)) (cu fh (ar 3) cG (cf (ar 4))) rfl)
 (aj (aD (eB (aa aX (aa (bO bw (ar 3) (ar 4) (λ _ _=>rfl)) ae)))))
 aJ)))
 (ag (cI (i:=5) dP.nd rfl (Or.inl rfl) (tgs:=["_law_name_here","_law_options"]) (fr:=[]) ⟨bM (by kernel_rfl),rfl,(λ _ _ h=>h),(bY (ar 0)),(gm (λ _ _ _ _ _=>(jr rfl (cg (aY (i:=0) (show(["_law_name_here","_law_options"]:List Str).Nodup by decide+kernel) rfl (Or.inl rfl)) (cg (aY (i:=1) (show(["_law_name_here","_law_options"]:List Str).Nodup by decide+kernel) rfl (Or.inl rfl)) gQ)))) (by decide) (by decide)),(λ _ _ _ _ _=>bE),(λ _ _ _ _ _=>(ar 0))⟩)
 (ag (eY B8 rfl (bY (ar 3)) (cN (i:=6) dP.nd rfl (Or.inl rfl))
 (aj (bh (aL (oO hr.units) (ar 6) (ar 5) rfl)
 (aj (aD (eB (aa aX (aa (ar 6) ae)))))
 aJ)))
 (aj (aD (eB (aa aX (aa (nM fR gs (by rfl) T.tuple (by decide+kernel) (tgs:=["_law_one"]) (fr:=[2]) ⟨bM (by kernel_rfl),rfl,(λ _ _ h=>h),(bY (ar 5)),(bC (λ _ _ _ _ _=>(aY (i:=0) (show(["_law_one","_law_told"]:List Str).Nodup by decide+kernel) rfl (Or.inr rfl))) (by decide)),(λ _ _ _ _ _=>bE),(λ _ _ _ _ _=>(nN (Nb rfl) Ip (by rfl) T.sum (by decide+kernel) (tgs:=["_law_many","_law_name_here"]) (fr:=[0]) ⟨bM (by kernel_rfl),rfl,(λ _ _ h=>h),(bY (ar 1)),(gm (λ _ _ _ _ _=>(jr rfl (cg (aY (i:=0) (show(["_law_many","_law_name_here","_law_one"]:List Str).Nodup by decide+kernel) rfl (Or.inl rfl)) (cg (aY (i:=1) (show(["_law_many","_law_name_here","_law_one"]:List Str).Nodup by decide+kernel) rfl (Or.inl rfl)) gQ)))) (by decide) (by decide)),(λ _ _ _ _ _=>(sv (aL (cq hr.units) (ar 1) (ar 2) (aQ _)))),(λ _ _ _ _ _=>(ar 0))⟩))⟩) ae))))))))))),?_⟩
  obtain⟨w1,w2,w3⟩:=xr hz;have XR:=hz.len;rfl';rw[dN.1];refine⟨rfl,z,one 32,rfl,rfl,by decide,by omega,small (by show(ie z).length<=10000;omega),λ p hp=>?_⟩;have E1:bi M (ai M p (.lst ((ie z).map D.str))):=bi.new bi.rfl hp _;have h1:ai M p (.lst ((ie z).map D.str)) p=some (.lst ((ie z).map D.str)):=af;rw[show Txt.split z (one 32)=ie z from rfl];generalize ai M p (.lst ((ie z).map D.str))=M1 at*;unfold hG at k;rfl';refine⟨p,ie z,rfl,h1,w1,by omega,w3,λ hn=>?_,λ ts q ht hq=>?_⟩
  ·rfl';refine jU ?_;refine bB (λ _=>?_) (λ z=>by cases z);rfl';rw[hn]at k;exact au (k _ E1)
  ·rw[ht]at k;dsimp only at k;have tl:=ze ht;have Y8:=E1.new hq (.lst (ts.map λ t=>qq (some t)));have h2:ai M1 q (.lst (ts.map λ t=>qq (some t))) q=some (.lst (ts.map λ t=>qq (some t))):=af;generalize ai M1 q (.lst (ts.map λ t=>qq (some t)))=M2 at*;rfl';refine gN (by simp[my,h2]) ?_;rfl';refine eW (λ t=>qq (some t)) (λ t=>.str t.1) (by omega) h2 (λ i t N hi hN=>?_) ?_
   ·obtain⟨n,v⟩:=t;unfold qq;rfl';exact hN
   intro p3 nk;have e3:(ts.map λ t=>D.str t.1)=(ts.map (·.1)).map D.str:=by rw[G9];rfl
   rw[e3];have Xq:∀n∈ts.map (·.1),isName n=true:=λ n hn=>by obtain⟨t,Qd,rfl⟩:=G8.mp hn;exact Du ht t Qd
   have hnl:(ts.map (·.1)).length=ts.length:=C2 _;have E3:=Y8.new nk (.lst ((ts.map (·.1)).map D.str));have g3:ai M2 p3 (.lst ((ts.map (·.1)).map D.str)) q=some (.lst (ts.map λ t=>qq (some t))):=by rw[aq (bq h2 nk)];exact h2
   have h3:ai M2 p3 (.lst ((ts.map (·.1)).map D.str)) p3=some (.lst ((ts.map (·.1)).map D.str)):=af;generalize ai M2 p3 (.lst ((ts.map (·.1)).map D.str))=M3 at*;generalize Qi:ts.map (·.1)=ns at*;rfl';rw[C2];refine⟨dX (by omega) (by omega),?_⟩;rw[x9];refine lC (λ i δ M'=>∃v4:Option D,δ=[some (dj g),some (.str z),some (.ref q),some (.ref p3),v4,none,none]/\bi M3 M'/\df [] ns=df (ns.take i) (ns.drop i)) ⟨none,rfl,bi.rfl,rfl⟩ (λ i d δ M' hd h=>?_) (λ δ M' h=>?_)
   ·obtain⟨v4,rfl,hE,hA⟩:=h;obtain⟨hi,rfl⟩:=dQ hd;have Ru:=hE _ _ h3;rw[i4 hi]at hA;have hA:df [] ns=if ns[i]∈ns.take i then some ns[i]else df (ns.take i++[ns[i]]) (ns.drop (i+1)):=hA
    have hx:fE (ns.map D.str) (i:Int)=some (.str ns[i]):=cH (by rw[x6,i8 hi];rfl);rw[G5];rfl';refine cJ Ru hx ?_;rfl';refine iO Ru (by omega) λ p5 B_=>?_;rw[x9,<- map_take];have E5:=bi.new hE B_ (.lst ((ns.take i).map D.str));have h5:ai M' p5 (.lst ((ns.take i).map D.str)) p5=some (.lst ((ns.take i).map D.str)):=af;generalize ai M' p5 (.lst ((ns.take i).map D.str))=M5 at*;have Ye:=Xq ns[i] (A9 hi);refine sX (k:=0) (b:=decide (ns[i]∈ns.take i)) (fg h5) (dA 0 (iR Ye)) (f_ λ n hn=>dA 0 (iR (Xq n (m5 hn)))) (by decide) (by rw[decide_eq_true_iff];exact(zR (λ a b e=>by cases e;rfl) _).symm) ?_;refine aN (λ jF=>?_) (λ jF=>?_)
    ·rw[N3 jF]at hA;rw[hA]at k;rfl';refine cJ (E5 _ _ h3) hx ?_;rfl';exact au (k _ (E3.trans E5))
    ·rw[N4 jF]at hA;rfl';refine⟨_,rfl,E5,?_⟩;rw[hA,take_add_one,i8 hi];rfl
   ·obtain⟨v4,rfl,hE,hA⟩:=h;rw[bP,drop_length]at hA;have hA:df [] ns=none:=hA;rw[hA]at k;dsimp only at k;unfold dj;rfl';have gf:=G.mI;refine kr (xs:=g) (enc:=dF) (λ h=>.str h.1) (by omega) (λ i h N hi hN=>?_) ?_
    ·unfold dF;rfl';exact hN
    intro p6 Gp;have e6:(g.map λ h=>D.str h.1)=(aM g).map D.str:=by unfold aM;rw[G9];rfl
    rw[e6];have E6:=bi.new hE Gp (.lst ((aM g).map D.str));have h6:ai M' p6 (.lst ((aM g).map D.str)) p6=some (.lst ((aM g).map D.str)):=af;generalize ai M' p6 (.lst ((aM g).map D.str))=M6 at*;have g6:=E6 _ _ g3;have h36:=E6 _ _ h3;have E6:=E3.trans E6;rfl';refine An (ds:=ns.map D.str) (λ i δ M'=>∃v6:Option D,δ=[some (dj g),some (.str z),some (.ref q),some (.ref p3),v4,some (.ref p6),v6]/\M'=M6/\ns.find? (λ n=>!decide (n∈aM g))=(ns.drop i).find? λ n=>!decide (n∈aM g)) ⟨none,rfl,rfl,rfl⟩ (λ i δ M' _ h=>?_) (λ i d δ M' hd h=>?_) (λ δ M' h=>?_)
    ·obtain⟨_,_,rfl,_⟩:=h;exact h36
    ·obtain⟨v6,rfl,rfl,hf⟩:=h;rw[x6]at hd;cases e7:ns[i]? with
     |none=>rw[e7]at hd;cases hd
     |some x=>
      rw[e7]at hd;cases hd;obtain⟨hi,ex⟩:=i5.mp e7;rw[i4 hi,ex,B3]at hf;have Ye:=Xq x (l8 e7);rfl';refine xP (k:=0) (b:=decide (x∈aM g)) (fg h6) (dA 0 (iR Ye)) (f_ λ n hn=>dA 0 ?_) (by decide) (by rw[decide_eq_true_iff];exact(zR (λ a b e=>by cases e;rfl) _).symm) ?_
      ·obtain⟨h,hh,rfl⟩:=G8.mp hn;exact(G.nm h hh).ok
      ·cases hb:decide (x∈aM g)with
       |true=>rw[hb]at hf;rfl';exact⟨_,rfl,rfl,hf⟩
       |false=>rw[hb]at hf;have hf:ns.find? (λ n=>!decide (n∈aM g))=some x:=hf;rw[hf]at k;refine bB (λ _=>?_) (λ z=>by cases z);rfl';exact au (k _ E6)
    ·obtain⟨v6,rfl,rfl,hf⟩:=h;rw[C2,drop_length]at hf;have hf:ns.find? (λ n=>!decide (n∈aM g))=none:=hf;rw[hf]at k;rfl';have ol:(aM g).length<=12:=by unfold aM;rw[C2];exact gf
     refine eW D.str (λ y=>.int (qy ts y)) (by omega) h6 (λ i y N hi hN=>?_) ?_
     ·rfl';refine CA (λ t=>qq (some t)) (λ t=>decide (t.1=y)) (λ t=>.int t.2) (by omega) g6 (λ j t N1 N2 ht y1 y2=>?_) ?_
      ·obtain⟨n,v⟩:=t;unfold qq;rfl';refine aN (λ e=>?_) (λ e=>?_)
       ·rfl';exact y1 (D1 e)
       ·exact y2 (B4 e)
      ·have e8:((ts.filter λ t=>decide (t.1=y)).map λ t=>D.int t.2)=((ts.filter λ t=>decide (t.1=y)).map (·.2)).map D.int:=by rw[G9];rfl
       rw[e8];refine IY ?_;exact hN
     ·rfl';refine au ?_;have:=k _ E6;have e9:((aM g).map λ y=>D.int (qy ts y))=(uJ (aM g) ts).map D.int:=by unfold uJ;rw[G9];rfl
      rw[e9];exact this
structure KF(K:N5)(C:ww)(f:Str)(b0 b1 b2:Bool):Prop where
 ei:uE K C
 eg:Rb K C f
 k0:PySem.W.kitOne K (.ref C) (.ref 44)=some b0
 k1:PySem.W.kitOne K (.ref C) (.ref 63)=some b1
 k2:PySem.W.kitOne K (.ref C) (.ref 82)=some b2
 kA:PySem.W.kitAny K (.ref C) [.ref 120,.ref 177,.ref 196,.ref 215,.ref 139,.ref 101,.ref 158]=some false
 kV:PySem.W.kitOne K (.ref C) (.type "ValueError")=some true
theorem bL:aH ["_law_game","_law_text","_law_found","_law_kinds","_law_others","e"] ["_law_game","_law_text"] (ao (top 57)):=⟨rfl,rfl,rfl,by decide+kernel,rfl,by decide+kernel,by decide+kernel⟩
set_option tactic.hygienic true in
theorem Fh(F:dH K "_law_heard" "_law_heard" (top 57) f fd)(T:fL K mg)(dY:jD P w K mg base 5 "read_sum" ["game","text"] n_):bo P w K mg base dJ 6 f fd ["_law_game","_law_text"] (bZ K mS):=by
 refine iy F bL (λ ds M Q h=>?_) (λ bR A outer s H E ds M Q hr h=>?_)
 ·obtain⟨g,z,rfl,_⟩:=h;rfl
 ·obtain⟨g,z,rfl,G,hz,k⟩:=h;refine⟨_,ag (aU (i:=2) bL.nd rfl (Or.inl rfl) (eB (aa aX (aa ak ae)))) (ag (Ii (i:=5) (j:=2) (h2:=λ C fs D δ M=>∃(w f:Str) (v:L3.D) (b0 b1 b2:Bool),KF K C f b0 b1 b2/\((w=Str.ofString "text"/\f=Str.ofString "row"/\b0=true/\b1=false/\b2=false)\/(w=Str.ofString "twice"/\f=Str.ofString "name"/\b0=false/\b1=true/\b2=false)\/(w=Str.ofString "name"/\f=Str.ofString "name"/\b0=false/\b1=false/\b2=true))/\fs=[(f,v)]/\∀p,M p=none->D.nx (((δ.set 3 (some (.ref p))).set 4 (some (.bl false))).set 2 (some (.tup [.str w,v]))) (ai M p (.lst [.bl b0,.bl b1,.bl b2]))) (λ _ _ z=>z) ⟨rfl,rfl⟩ bL.nd rfl (Or.inl rfl) rfl rfl dY (hr.mono (by decide)) (by rfl) aX (aa (ar 0) (aa (ar 1) ae)) (by rfl) T.fP T.qz
    ?suite) (aj (aD (ar 2)))),?_⟩
  ·refine⟨_,λ a=>(dz (jq (i:=3) bL.nd rfl (Or.inl rfl) (ET (aO (fq lL (by rfl) T.isinstance (by decide+kernel) (aO (pv 5) (aO (f' (by rfl) T.cX.m) cj))) (aO (fq lL (by rfl) T.isinstance (by decide+kernel) (aO (pv 5) (aO (f' (by rfl) T.eA.m) cj))) (aO (fq lL (by rfl) T.isinstance (by decide+kernel) (aO (pv 5) (aO (f' (by rfl) T.cY.m) cj))) cj))))) (dz (jq (i:=4) bL.nd rfl (Or.inl rfl) (fq yR (by rfl) T.isinstance (by decide+kernel) (aO (pv 5) (aO (lh (aO (f' (by rfl) T.Hr.m) (aO (f' (by rfl) T.CK.m) (aO (f' (by rfl) T.Hq.m) (aO (f' (by rfl) T.LS.m) (aO (f' (by rfl) T.CJ.m) (aO (f' (by rfl) T.CI.m) (aO (f' (by rfl) T.LR.m) cj)))))))) cj)))) (eR (vh (xV (zF MA (EY j0 PySem.F.slot_list_count PySem.F.type_list_count (KC hr.units) (pv 3) (aO My cj)) ll (aQ _)) (xV (Ez (lg (pv 4))) (zE (lg (fq yQ (by rfl) T.isinstance (by decide+kernel) (aO (pv 5) (aO (zK (v:=.ty "ValueError") (by rfl) T.ValueError (by decide+kernel) rfl) cj))))))).pt (dz (jq (i:=2) bL.nd rfl (Or.inl rfl) (lh (aO oG (aO ll cj)))) (dz (vh (lg (zI L2.bw (pv 3) ll (λ _ _=>rfl))) (eR (jq (i:=2) bL.nd rfl (Or.inl rfl) (lh (aO oG (aO (EO (pv 5)) cj))))) jW) (dz (vh (lg (zI L2.bw (pv 3) ll (λ _ _=>rfl))) (eR (jq (i:=2) bL.nd rfl (Or.inl rfl) (lh (aO oG (aO (EO (pv 5)) cj))))) jW) (eR (vh (lg (zI L2.bw (pv 3) ll (λ _ _=>rfl))) (eR (jq (i:=2) bL.nd rfl (Or.inl rfl) (lh (aO oG (aO (EO (pv 5)) cj))))) jW))))) jW)))),?_⟩;intro a C dx fs ds D D2 σ H' δ M' hσ h1 h2 fr sr rm hh ct;obtain⟨w,f,v,b0,b1,b2,kf,hb,rfl,q⟩:=hh;obtain⟨u,rfl,hu⟩:∃u,fs=[(f,u)]/\bn K H' v u:=by
    cases fr with
    |cons p r=>cases r with
     |nil=>rename_i q;obtain⟨n,u⟩:=q;obtain⟨e,z⟩:=p;cases e;exact⟨u,rfl,z⟩
   have sl:∀n:Nat,n<=10->n<=sizeLine:=λ n h=>H9 h (Nat.le_of_ble_eq_true rfl);refine⟨.ref a,hσ,a,C,dx,_,44,b0,rfl,h1,h2,kf.ei,kf.k0,.ref a,hσ,a,C,dx,_,63,b1,rfl,h1,h2,kf.ei,kf.k1,.ref a,hσ,a,C,dx,_,82,b2,rfl,h1,h2,kf.ei,kf.k2,sl 3 (by decide),λ p hp=>?_⟩;have q:=q p (rm.free hp);have s1:∀{x},(σ.set 3 x)[5]?=some (some (.ref a)):=λ{x}=>by rw[m7 (by decide)];exact hσ
   have lσ:5 < σ.length:=(i5.mp hσ).1;have a1:dl H' p (.lst [.bl b0,.bl b1,.bl b2]) a=some (XT a C (some dx)):=by rw[aB (aZ h1 hp)];exact h1
   have d1:dl H' p (.lst [.bl b0,.bl b1,.bl b2]) dx=some (XD dx [(f,u)]):=by rw[aB (aZ h2 hp)];exact h2
   have l1:dl H' p (.lst [.bl b0,.bl b1,.bl b2]) p=some (.lst [.bl b0,.bl b1,.bl b2]):=aV;have t1:ax H' (dl H' p (.lst [.bl b0,.bl b1,.bl b2])):=ax.laid hp;have m1:ce K (dl H' p (.lst [.bl b0,.bl b1,.bl b2])) (ai M' p (.lst [.bl b0,.bl b1,.bl b2])):=de hp (ah.mpr ⟨_,_,rfl,aR.mpr rfl,ah.mpr ⟨_,_,rfl,aR.mpr rfl,aG.one (aR.mpr rfl)⟩⟩) rm;generalize dl H' p (.lst [.bl b0,.bl b1,.bl b2])=H1 at*;refine⟨.ref a,s1,sl 7 (by decide),λ p2 fB=>?_⟩;have a2:dl H1 p2 (.tup [V.ref 120,V.ref 177,V.ref 196,V.ref 215,V.ref 139,V.ref 101,V.ref 158]) a=some (XT a C (some dx)):=by rw[aB (aZ a1 fB)];exact a1
   have d2:dl H1 p2 (.tup [V.ref 120,V.ref 177,V.ref 196,V.ref 215,V.ref 139,V.ref 101,V.ref 158]) dx=some (XD dx [(f,u)]):=by rw[aB (aZ d1 fB)];exact d1
   have l2:dl H1 p2 (.tup [V.ref 120,V.ref 177,V.ref 196,V.ref 215,V.ref 139,V.ref 101,V.ref 158]) p=some (.lst [.bl b0,.bl b1,.bl b2]):=by rw[aB (aZ l1 fB)];exact l1
   have t2:=t1.trans (ax.laid (o:=(.tup [V.ref 120,V.ref 177,V.ref 196,V.ref 215,V.ref 139,V.ref 101,V.ref 158])) fB);have m2:=m1.laid (o:=(.tup [V.ref 120,V.ref 177,V.ref 196,V.ref 215,V.ref 139,V.ref 101,V.ref 158])) fB;have e2:dl H1 p2 (.tup [V.ref 120,V.ref 177,V.ref 196,V.ref 215,V.ref 139,V.ref 101,V.ref 158]) p2=some (.tup [V.ref 120,V.ref 177,V.ref 196,V.ref 215,V.ref 139,V.ref 101,V.ref 158]):=aV;generalize dl H1 p2 (.tup [V.ref 120,V.ref 177,V.ref 196,V.ref 215,V.ref 139,V.ref 101,V.ref 158])=H2 at*;refine⟨a,C,dx,_,p2,[120,177,196,215,139,101,158],false,rfl,a2,d2,kf.ei,e2,kf.kA,?_⟩;have hc:decide (V.int (([b0,b1,b2].countP λ b=>PyData.eqv (.bool b) (.bool true):Nat):Int)=V.int 1)=true:=by rcases hb with⟨_,_,rfl,rfl,rfl⟩|⟨_,_,rfl,rfl,rfl⟩|⟨_,_,rfl,rfl,rfl⟩ <;> decide
   have g3:∀{x y},(((σ.set 3 (some (V.ref p))).set 4 x).set 2 y)[3]?=some (some (.ref p)):=λ{x y}=>by rw[m7 (by decide),m7 (by decide)];exact j9 (by omega)
   have g3':((σ.set 3 (some (V.ref p))).set 4 (some (V.bl false)))[3]?=some (some (.ref p)):=by rw[m7 (by decide)];exact j9 (by omega)
   have g4:((σ.set 3 (some (V.ref p))).set 4 (some (V.bl false)))[4]?=some (some (.bl false)):=j9 (by rw[C7];omega);have g5:((σ.set 3 (some (V.ref p))).set 4 (some (V.bl false)))[5]?=some (some (.ref a)):=by rw[m7 (by decide)];exact s1
   have Yy:∀{y},(((σ.set 3 (some (V.ref p))).set 4 (some (V.bl false))).set 2 y)[5]?=some (some (.ref a)):=λ{y}=>by rw[m7 (by decide)];exact g5
   refine⟨.ref p,g3',.inl ⟨rfl,_,dr.of l2⟩,p,b0,b1,b2,rfl,rfl,l2,rfl,true,L8 V.bl hc,?_⟩;refine⟨.bl false,g4,false,rfl,?_⟩;refine⟨.ref a,g5,a,C,dx,_,"ValueError",true,rfl,a2,d2,kf.ei,kf.kV,true,rfl,?_⟩;refine⟨sl 2 (by decide),λ p3 nk=>?_⟩;have a3:dl H2 p3 (.tup [V.str (Str.ofString "text"),V.int 0]) a=some (XT a C (some dx)):=by rw[aB (aZ a2 nk)];exact a2
   have d3:dl H2 p3 (.tup [V.str (Str.ofString "text"),V.int 0]) dx=some (XD dx [(f,u)]):=by rw[aB (aZ d2 nk)];exact d2
   have l3:dl H2 p3 (.tup [V.str (Str.ofString "text"),V.int 0]) p=some (.lst [.bl b0,.bl b1,.bl b2]):=by rw[aB (aZ l2 nk)];exact l2
   have t3:=t2.trans (ax.laid (o:=(.tup [V.str (Str.ofString "text"),V.int 0])) nk);have m3:=m2.laid (o:=(.tup [V.str (Str.ofString "text"),V.int 0])) nk;generalize dl H2 p3 (.tup [V.str (Str.ofString "text"),V.int 0])=H3 at*;have sr3:bX K H' ((δ.set 3 (some (.ref p))).set 4 (some (.bl false))) ((σ.set 3 (some (.ref p))).set 4 (some (.bl false))):=(sr.set (aP.mpr rfl)).set (aR.mpr rfl)
   have fn:∀(w:Str) (p4:ww),H3 p4=none->D2.nx (((δ.set 3 (some (.ref p))).set 4 (some (.bl false))).set 2 (some (.tup [.str w,v]))) (ai M' p (.lst [.bl b0,.bl b1,.bl b2]))->D.nx ((((σ.set 3 (some (.ref p))).set 4 (some (.bl false))).set 2 (some (.ref p3))).set 2 (some (.ref p4))) (dl H3 p4 (.tup [V.str w,u])):=λ w p4 uI q=>by rw[set_set];have t4:=t3.trans (ax.laid (o:=.tup [V.str w,u]) uI);exact ct.nx _ _ _ _ ((sr3.mono t4).set (aW.mpr ⟨p4,_,rfl,.inl (.inl aV),ah.mpr ⟨_,_,rfl,aI.mpr rfl,aG.one (bn.mono t4 _ hu)⟩⟩)) (m3.laid uI) t4 q
   rcases hb with⟨rfl,rfl,rfl,rfl,rfl⟩|⟨rfl,rfl,rfl,rfl,rfl⟩|⟨rfl,rfl,rfl,rfl,rfl⟩
   ·refine⟨.ref p,g3,_,.bl true,.inl (dr.of l3),rfl,true,rfl,?_⟩;refine⟨.ref a,Yy,a,C,dx,_,u,rfl,a3,d3,kf.eg,by simp[List.lookup],sl 2 (by decide),λ p4 uI=>?_⟩;have l4:dl H3 p4 (.tup [V.str (Str.ofString "text"),u]) p=some (.lst [.bl true,.bl false,.bl false]):=by rw[aB (aZ l3 uI)];exact l3
    have g6:((((σ.set 3 (some (V.ref p))).set 4 (some (V.bl false))).set 2 (some (.ref p3))).set 2 (some (.ref p4)))[3]?=some (some (.ref p)):=by rw[set_set];exact g3
    refine⟨.ref p,g6,_,.bl false,.inl (dr.of l4),rfl,false,rfl,?_⟩;refine⟨.ref p,g6,_,.bl false,.inl (dr.of l4),rfl,false,rfl,?_⟩;exact fn _ p4 uI q
   ·refine⟨.ref p,g3,_,.bl false,.inl (dr.of l3),rfl,false,rfl,?_⟩;refine⟨.ref p,g3,_,.bl true,.inl (dr.of l3),rfl,true,rfl,?_⟩;refine⟨.ref a,Yy,a,C,dx,_,u,rfl,a3,d3,kf.eg,by simp[List.lookup],sl 2 (by decide),λ p4 uI=>?_⟩;have l4:dl H3 p4 (.tup [V.str (Str.ofString "twice"),u]) p=some (.lst [.bl false,.bl true,.bl false]):=by rw[aB (aZ l3 uI)];exact l3
    have g6:((((σ.set 3 (some (V.ref p))).set 4 (some (V.bl false))).set 2 (some (.ref p3))).set 2 (some (.ref p4)))[3]?=some (some (.ref p)):=by rw[set_set];exact g3
    refine⟨.ref p,g6,_,.bl false,.inl (dr.of l4),rfl,false,rfl,?_⟩;exact fn _ p4 uI q
   ·refine⟨.ref p,g3,_,.bl false,.inl (dr.of l3),rfl,false,rfl,?_⟩;refine⟨.ref p,g3,_,.bl false,.inl (dr.of l3),rfl,false,rfl,?_⟩;refine⟨.ref p,g3,_,.bl true,.inl (dr.of l3),rfl,true,rfl,?_⟩;refine⟨.ref a,Yy,a,C,dx,_,u,rfl,a3,d3,kf.eg,by simp[List.lookup],sl 2 (by decide),λ p4 uI=>?_⟩;exact fn _ p4 uI q
  ·rfl';refine⟨Nat.lt_succ_self 5,?_⟩;rfl';refine⟨g,z,rfl,G,hz,λ M1 E1=>?_⟩;generalize hG (aM g) (ie z)=rr at*;cases rr with
   |sum r=>show _;rfl';exact au (k _ E1)
   |text=>refine⟨T.cX.cat,T.Sa,_,_,.int 0,_,_,_,⟨T.cX.ei,T.cX.eg (by simp),T.k00,T.k01,T.k02,T.kA0,T.kV0⟩,.inl ⟨rfl,rfl,rfl,rfl,rfl⟩,rfl,λ p hp=>?_⟩;dsimp only[eE.but];rfl';exact au (k _ (E1.new hp _))
   |twice n=>refine⟨T.eA.cat,T.sb1,_,_,.str n,_,_,_,⟨T.eA.ei,T.eA.eg (by simp),T.k10,T.k11,T.k12,T.kA1,T.kV1⟩,.inr (.inl ⟨rfl,rfl,rfl,rfl,rfl⟩),rfl,λ p hp=>?_⟩;dsimp only[eE.but];rfl';exact au (k _ (E1.new hp _))
   |RN n=>refine⟨T.cY.cat,T.sb2,_,_,.str n,_,_,_,⟨T.cY.ei,T.cY.eg (by simp),T.k20,T.k21,T.k22,T.kA2,T.kV2⟩,.inr (.inr ⟨rfl,rfl,rfl,rfl,rfl⟩),rfl,λ p hp=>?_⟩;dsimp only[eE.but];rfl';exact au (k _ (E1.new hp _))
def wd(z:Str)(v:Int):Str:=if v=1 then z else Str.ofString (toString v)++one 42++z
theorem tH{v:Int}(h:0<=v):sg (Str.ofString (toString v))=(Nat.toDigits 10 v.toNat).map Char.toNat:=by obtain⟨m,rfl⟩:=Int.eq_ofNat_of_zero_le h;exact PySem.W.KIN.signs_num m
theorem ng{v:Int}(h:0<=v)(h2:v<=10^30):(Str.ofString (toString v)).length<=31:=by rw[<- dO,tH h];exact QF _ 31 (by decide) (by omega)
theorem zO{v:Int}(h:0<=v)(h2:v<=10^30):v.natAbs.log2 < 1920:=by
 by_cases z:v.natAbs=0
 ·rw[z];decide
 ·refine(Nat.log2_lt z).mpr ?_;have:v.natAbs < 2^100:=by omega
  exact u3 this (Nat.pow_le_pow_right (by decide) (by decide))
theorem Ft{v:Int}(h:2<=v)(h2:v<=10^30):bT (Str.ofString (toString v))=true/\val (Str.ofString (toString v))=v:=by
 have e:=tH (v:=v) (by omega);have ev:val (Str.ofString (toString v))=v:=by unfold val;have:(Str.ofString (toString v)).cps.toList=(Nat.toDigits 10 v.toNat).map Char.toNat:=e;rw[this,PySem.W.KIN.val_back];omega
 refine⟨?_,ev⟩;have hl:=ng (v:=v) (by omega) h2;have Rr:1<=(Str.ofString (toString v)).length:=by rw[<- dO,e,C2];exact PySem.toDigits_len_ge 10 _
 unfold bT;rw[ev,D1 Rr,D1 hl,D1 h,D1 h2];have e2:(Str.ofString (toString v)).cps.toList=(Nat.toDigits 10 v.toNat).map Char.toNat:=e;rw[e2,B4 (LG v.toNat (by omega))];have:(((Nat.toDigits 10 v.toNat).map Char.toNat).map mF).all id=true:=by rw[B0];intro b hb;obtain⟨c,hc,rfl⟩:=G8.mp hb;exact Ac.mpr (uc _ c hc)
 rw[this];rfl
theorem Dm{v:Int}(h:1<=v):sg (wd z v)=if v=1 then sg z else(Nat.toDigits 10 v.toNat).map Char.toNat++42::sg z:=by
 unfold wd;split
 ·rfl
 ·rw[jm,jm,tH (by omega),append_assoc];rfl
theorem RO{v:Int}(hz:isName z=true)(h1:1<=v)(h2:v<=10^30):tm (wd z v)=some (z,v):=by
 have e:=Dm (z:=z) h1;by_cases h:v=1
 ·subst h;show tm z=_;rw[Dw (tJ hz (by decide)),hz];rfl
 ·rw[N4 h]at e;have nm:=Ft (v:=v) (by omega) h2;have em:mk ((Nat.toDigits 10 v.toNat).map Char.toNat)=Str.ofString (toString v):=by rw[<- tH (v:=v) (by omega)];rfl
  rw[tm_at e λ c=>by have:=uc _ 42 c;omega,em,nm.1,nm.2,FE,hz];rfl
theorem RI{v:Int}(hz:isName z=true)(h1:1<=v):32∉sg (wd z v):=by
 have hn:=tJ hz (c:=32) (by decide);rw[Dm h1];split
 ·exact hn
 ·intro h;rcases C3.mp h with q|q
  ·have:=uc _ 32 q;omega
  ·rcases G0.mp q with q|q
   ·cases q
   ·exact hn q
structure Q7(w:Str):Prop where
 len:w.length<=40
 ok:PyData.strOk w=true
 no:32∉sg w
theorem gR{w:Str}:PyData.strOk w=true↔∀c∈sg w,c < 0x110000:=by unfold PyData.strOk;rw[<- Array.all_toList,B0];simp
theorem RJ{v:Int}(hz:isName z=true)(hl:z.length<=6)(h1:1<=v)(h2:v<=10^30):Q7 (wd z v):=by
 refine⟨?_,?_,RI hz h1⟩
 ·unfold wd;split
  ·omega
  ·have:=ng (v:=v) (by omega) h2;rw[Str.length_append,Str.length_append];show _+1+_<=_;omega
 ·have ho:=gR.mp (iR hz);rw[gR,Dm h1];split
  ·exact ho
  ·intro c hc;rcases C3.mp hc with q|q
   ·have:=uc _ c q;omega
   ·rcases G0.mp q with q|q
    ·omega
    ·exact ho c q
def dq(own:List Str)(cs:Row):List (Str×Int):=(own.zip cs).filter λ t=>decide (0 < t.2)
def mr(ts:List (Str×Int)):List Str:=if ts=[]then[mk [46]]else ts.map λ t=>wd t.1 t.2
theorem Hi(t:Str×Int)(ts:List (Str×Int))(y:Str):qy (t::ts) y=(if t.1=y then t.2 else 0)+qy ts y:=by unfold qy;rw[filter_cons];by_cases h:t.1=y <;> simp[h]
theorem UZ{y:Str}(h:∀t∈ts,t.1≠y):qy ts y=0:=by unfold qy;rw[filter_eq_nil_iff.mpr λ t ht=>by simpa using h t ht];rfl
set_option tactic.hygienic true in
theorem AA:∀{own:List Str} {cs:Row},own.Nodup->cs.length=own.length->(∀x∈cs,0<=x)->uJ own (dq own cs)=cs
 |[],[],_,_,_=>rfl
 |[],_::_,_,h,_=>by cases h
 |_::_,[],_,h,_=>by cases h
 |x::own,c::cs,nd,hl,hp=>by
  rw[nodup_cons]at nd;have ih:=AA nd.2 (Nat.succ.inj hl) λ y hy=>hp y (l7 _ hy);have hx:∀t∈dq own cs,t.1≠x:=λ t ht e=>nd.1 (by
   unfold dq at ht;rw[<- e];exact(C8 (mem_filter.mp ht).1).1)
  have hc:=hp c (p0);have et:∀y,qy (dq (x::own) (c::cs)) y=(if x=y then c else 0)+qy (dq own cs) y:=λ y=>by
   show qy (((x,c)::own.zip cs).filter λ t=>decide (0 < t.2)) y=_;rw[filter_cons];split
   ·exact Hi (x,c) _ y
   ·rename_i h;have:c=0:=by simp at h;omega
    rw[this];show qy (dq own cs) y=_;split <;> simp
  show qy _ x::own.map (qy _)=c::cs;rw[et x,N3 rfl,UZ hx,Int.add_zero];refine L8 _ (Eq.trans (o8 λ y hy=>?_) ih);rw[et y,N4 (λ e=>nd.1 (by rw[e];exact hy)),G5]
theorem Dx{xs ys:List Int}(h:xs.Perm ys):xs.sum=ys.sum:=by
 induction h with
 |nil=>rfl
 |cons a _ ih=>rw[G3,G3,ih]
 |swap a b l=>rw[G3,G3,G3,G3];omega
 |trans _ _ h1 h2=>exact h1.trans h2
theorem Hh{us:List (Str×Int)}(h:ts.Perm us)(y:Str):qy ts y=qy us y:=by unfold qy;exact Dx ((h.filter _).map _)
theorem wV:∀{ns zs:List Str},ns.Nodup->(∀n∈ns,n∉zs)->df zs ns=none
 |[],_,_,_=>rfl
 |n::ns,zs,nd,h=>by
  rw[nodup_cons]at nd;unfold df;rw[N4 (h n p0)];refine wV nd.2 λ m hm hz=>?_;rcases C3.mp hz with q|q
  ·exact h m (l7 _ hm) q
  ·rw[u4.mp q]at hm;exact nd.1 hm
structure Ia(own:List Str)(cs:Row):Prop where
 nm:∀z∈own,isName z=true/\z.length<=6
 nd:own.Nodup
 len:cs.length=own.length
 mI:own.length<=12
 pos:∀x∈cs,0<=x/\x<=10^30
theorem Ia.dq{own:List Str}(h:Ia own cs):∀t∈dq own cs,t.1∈own/\1<=t.2/\t.2<=10^30:=λ t ht=>by
 unfold KK.dq at ht;obtain⟨h1,h2⟩:=mem_filter.mp ht;obtain⟨h3,h4⟩:=C8 h1;have h2:0 < t.2:=by simpa using h2
 exact⟨h3,by omega,(h.pos _ h4).2⟩
set_option tactic.hygienic true in
theorem Ia.mr{own:List Str}(h:Ia own cs):(∀w∈mr (KK.dq own cs),Q7 w)/\(mr (KK.dq own cs)).length<=12/\mr (KK.dq own cs)≠[]:=by
 unfold KK.mr;split
 ·exact⟨λ w hw=>by rw[u4.mp hw];exact⟨by decide,by decide+kernel,by decide⟩,by decide,by simp⟩
 ·rename_i ne;refine⟨λ w hw=>?_,?_,by simpa using ne⟩
  ·obtain⟨t,ht,rfl⟩:=G8.mp hw;obtain⟨a,b,c⟩:=h.dq t ht;exact RJ (h.nm _ a).1 (h.nm _ a).2 b c
  ·rw[C2];have:=length_filter_le (λ t:Str×Int=>decide (0 < t.2)) (own.zip cs);rw[length_zip]at this;have:=h.mI;show(List.filter _ _).length<=12;omega
set_option tactic.hygienic true in
theorem uZ{own:List Str}(h:Ia own cs)(hp:ws.Perm (mr (KK.dq own cs))):hG own ws=.sum cs:=by
 have key:∃ts,w_ ws=some ts/\ts.Perm (KK.dq own cs):=by
  unfold mr at hp;split at hp
  ·rename_i e;have:ws=[mk [46]]:=perm_singleton.mp hp;exact⟨[],by unfold w_;rw[N3 this],by rw[e]⟩
  ·have dot:tm (mk [46])=none:=by decide+kernel
   have Wx:∀t∈KK.dq own cs,tm (wd t.1 t.2)=some t:=λ t ht=>by obtain⟨a,b,c⟩:=h.dq t ht;exact RO (h.nm _ a).1 b c
   have nd:ws≠[mk [46]]:=λ e=>by have:=hp.mem_iff.mp (show mk [46]∈ws by rw[e];exact p0);obtain⟨t,ht,e2⟩:=G8.mp this;have:=Wx t ht;rw[e2,dot]at this;cases this
   have all:(ws.map tm).all Option.isSome=true:=by rw[B0];intro o ho;obtain⟨w,hw,rfl⟩:=G8.mp ho;obtain⟨t,ht,e2⟩:=G8.mp (hp.mem_iff.mp hw);rw[<- e2,Wx t ht];rfl
   refine⟨ws.filterMap tm,by unfold w_;rw[N4 nd,N3 all],?_⟩;refine(hp.filterMap tm).trans ?_;rw[filterMap_map];refine List.Perm.of_eq ?_;have:∀l:List (Str×Int),(∀t∈l,tm (wd t.1 t.2)=some t)->l.filterMap (tm∘λ t=>wd t.1 t.2)=l:=by
    intro l
    induction l with
    |nil=>exact λ _=>rfl
    |cons a l ih=>intro hh;rw[o9,show(tm∘λ t:Str×Int=>wd t.1 t.2) a=some a from hh a p0];exact L8 (a::·) (ih λ t ht=>hh t (l7 _ ht))
   exact this _ Wx
 obtain⟨ts,e,pm⟩:=key;have nd:(ts.map (·.1)).Nodup:=by
  refine((pm.map _).nodup_iff).mpr ?_;have:((own.zip cs).map (·.1)).Nodup:=by rw[map_fst_zip (by have:=h.len;omega)];exact h.nd
  exact this.sublist ((filter_sublist).map _)
 have pe:(ts.map (·.1)).find? (λ n=>!decide (n∈own))=none:=by rw[find?_eq_none];intro n hn;obtain⟨t,ht,rfl⟩:=G8.mp hn;have:=(h.dq t (pm.mem_iff.mp ht)).1;simp[this]
 unfold hG;rw[e];dsimp only;rw[wV nd (λ n _ z=>by cases z)];dsimp only;rw[pe];refine L8 Rd.sum ?_;refine Eq.trans ?_ (AA h.nd h.len λ x hx=>(h.pos x hx).1);exact o8 λ y _=>Hh pm y
def R6:gC:=λ ds M Q=>∃(z:Str) (v:Int),ds=[.str z,.int v]/\z.length<=6/\1<=v/\v<=10^30/\Q (.str (wd z v)) M
def xG:gC:=λ ds M Q=>∃(g:List dG) (cs:Row),ds=[dj g,row cs]/\Ia (aM g) cs/\Q (.str (Txt.join (one 32) (mr (dq (aM g) cs)))) M
def Mn:gC:=λ ds M Q=>∃(a:ww) (own:List Str) (cs:Row),ds=[.ref a,row cs]/\M a=some (.lst (own.map D.str))/\Ia own cs/\Q (.str (Txt.join (one 32) (mr (dq own cs)))) M
theorem Be(x:Str):Str.empty++x=x:=kW (by rw[jm];rfl)
theorem Dy(h:∀w∈ws,w.length<=n):(ws.map (·.length)).sum<=ws.length*n:=by
 induction ws with
 |nil=>simp
 |cons w ws ih=>have h1:=h w p0;have h2:=ih λ x hx=>h x (l7 _ hx);rw[F9,G3,A3,Nat.succ_mul];omega
theorem KW(h:∀w∈ws,w.length<=1000)(hl:ws.length<=100):(ws.map (·.length)).sum+ws.length*(one 32).length<=16777216:=by have:=Dy h;have e:(one 32).length=1:=rfl;rw[e];omega
theorem oA{Q:bH}(h:M a=some (.lst (ys.map D.str)))(h1:∀w∈ys,w.length<=1000)(h2:ys.length<=100)(q:Q (.str (Txt.join (one 32) ys)) M):wt (.str (Str.ofString " ")) [.ref a] M Q:=by
 rw[dN.1];show(match bb M a with
  |some ds=>lG (.str (one 32)) ds M Q
  |none=>False)
 unfold bb;rw[h];show(match fM (ys.map D.str)with
  |some ys=>(ys.map (·.length)).sum+ys.length*(one 32).length<=16777216/\Q (.str (Txt.join (one 32) ys)) M
  |none=>False)
 rw[kU];exact⟨KW h1 h2,q⟩
theorem Nh(g:List dG)(cs:Row):nH (g.map dF) (cs.map D.int)=(g.zip cs).map λ t=>D.tup [dF t.1,.int t.2]:=by unfold nH;rw[zip_map,G9];rfl
theorem Nt(g:List dG)(cs:Row):(((g.zip cs).filter λ t=>decide (0 < t.2)).map λ t=>D.str (wd t.1.1 t.2))=((dq (aM g) cs).map λ t=>wd t.1 t.2).map D.str:=by unfold dq aM;rw[zip_map_left,List.filter_map,G9,G9];rfl
theorem sx(h:ts≠[]):mr ts=ts.map λ t=>wd t.1 t.2:=N4 h
theorem o_:Txt.join (one 32) [mk [46]]=Str.ofString ".":=by decide+kernel
theorem sL:aH ["name","many"] ["name","many"] (ao (top 33)):=⟨rfl,rfl,rfl,by decide+kernel,rfl,by decide+kernel,by decide+kernel⟩
theorem S'(F:dH K "term_text" "term_text" (top 33) f fd)(T:fL K mg):bo P w K mg base dJ 1 f fd ["name","many"] (bZ K R6):=by
 refine iy F sL (λ ds M Q h=>?_) (λ bR A outer s H E ds M Q hr h=>?_)
 ·obtain⟨z,v,rfl,_⟩:=h;rfl
 ·obtain⟨z,v,rfl,hz,h1,h2,k⟩:=h;refine⟨_,(aj (aD (RK (aL (cq hr.units) (ar 1) ak (aQ _)) (ar 0) (Nn (ar 1) aX (ar 0))))),?_⟩;rfl';refine aN (λ e=>?_) (λ e=>?_)
  ·rfl';refine au ?_;unfold wd at k;rw[N3 e]at k;exact k
  ·unfold wd at k;rw[N4 e]at k;have hl:=ng (v:=v) (by omega) h2;unfold DP;rfl';refine⟨v,rfl,zO (by omega) h2,by omega,?_⟩;rfl';refine⟨_,rfl,by decide+kernel,?_⟩;rfl';refine⟨z,rfl,by omega,au ?_⟩;rw[Be,dN.2.1];exact k
theorem lW:aH ["game","counts","words"] ["game","counts"] (ao (top 34)):=⟨rfl,rfl,rfl,by decide+kernel,rfl,by decide+kernel,by decide+kernel⟩
theorem Km(F:dH K "show_sum" "show_sum" (top 34) f fd)(T:fL K mg)(wg:bK P w K mg base 1 "term_text" ["name","many"] R6):bo P w K mg base dJ 2 f fd ["game","counts"] (bZ K xG):=by
 refine iy F lW (λ ds M Q h=>?_) (λ bR A outer s H E ds M Q hr h=>?_)
 ·obtain⟨g,cs,rfl,_⟩:=h;rfl
 ·obtain⟨g,cs,rfl,C,k⟩:=h;refine⟨_,(ag (cI (i:=2) lW.nd rfl (Or.inl rfl) (tgs:=["heap","many"]) (fr:=[]) ⟨bM (by kernel_rfl),rfl,(λ _ _ h=>h),(Ik rfl T.zip (aa (ar 0) (aa (ar 1) ae))),(gm (λ _ _ _ _ _=>(jr rfl (cg (aY (i:=0) (show(["heap","many"]:List Str).Nodup by decide+kernel) rfl (Or.inl rfl)) (cg (aY (i:=1) (show(["heap","many"]:List Str).Nodup by decide+kernel) rfl (Or.inl rfl)) gQ)))) (by decide) (by decide)),(λ _ _ _ _ _=>(sv (aL vp (ar 1) ak (aQ _)))),(λ _ _ _ _ _=>(aK wg (hr.mono (by decide)) (by rfl) (aa (bO bw (ar 0) ak (λ _ _=>rfl)) (aa (ar 1) ae))))⟩)
 (aj (aD (RK (aL (vn hr.units) (ar 2) (b_ ae) (aQ _)) (ig PySem.F.plainAttrs_str PySem.F.slot_str_join PySem.F.type_str_join oV aX (aa (ar 2) ae)) aX)))),?_⟩
  have hw:=C.mr;have hg:g.length<=12:=by have:=C.mI;unfold aM at this;rw[C2]at this;exact this
  unfold dj row;rfl';rw[Nh];refine LO (xs:=g.zip cs) (enc:=λ t=>D.tup [dF t.1,.int t.2]) (λ t=>decide (0 < t.2)) (λ t=>D.str (wd t.1.1 t.2)) (by rw[length_zip];omega) (λ i t N1 N2 ht y1 y2=>?_) ?_
  ·obtain⟨h,v⟩:=t;have hm:=C8 (l8 ht);have hn:=C.nm h.1 (List.mem_map_of_mem hm.1);have hv:=C.pos v hm.2;unfold dF;rfl';refine aN (λ e=>?_) (λ e=>?_)
   ·rfl';exact⟨h.1,v,rfl,hn.2,by omega,hv.2,y1 (D1 e)⟩
   ·exact y2 (B4 e)
  ·rw[Nt];intro p hp;have s1:=(bA.refl M).put (o:=.lst (((dq (aM g) cs).map λ t=>wd t.1 t.2).map D.str)) hp;have h1:ai M p (.lst (((dq (aM g) cs).map λ t=>wd t.1 t.2).map D.str)) p=some (.lst (((dq (aM g) cs).map λ t=>wd t.1 t.2).map D.str)):=af;generalize ai M p (.lst (((dq (aM g) cs).map λ t=>wd t.1 t.2).map D.str))=M1 at*;have V3:dq (aM g) cs≠[]->(∀w∈(dq (aM g) cs).map λ t=>wd t.1 t.2,Q7 w)/\((dq (aM g) cs).map λ t=>wd t.1 t.2).length<=12:=λ ne=>by rw[sx ne]at hw;exact⟨hw.1,hw.2.1⟩
   rfl';intro p2 fB;have s2:bA M1 (ai M1 p2 (.lst [])):=(bA.refl M1).put fB;have xw:∀w∈(dq (aM g) cs).map λ t=>wd t.1 t.2,Q7 w:=λ w hm=>(V3 (λ z=>by rw[z]at hm;cases hm)).1 w hm;refine sV (k:=0) (b:=decide (dq (aM g) cs=[])) (s2 _ _ h1) af (f_ λ w hm=>dA 0 (xw w hm).ok) (λ e he=>by cases he) (by decide) (by rw[decide_eq_true_iff,map_eq_nil_iff,map_eq_nil_iff]) ?_;have h2:=s2 _ _ h1;have s2:=s1.trans s2;generalize ai M1 p2 (.lst [])=M2 at*;refine bB (λ e=>?_) (λ e=>?_)
   ·have ne:dq (aM g) cs≠[]:=by simpa using e
    rw[sx ne]at k;rfl';refine⟨rfl,?_⟩;rfl';exact oA h2 (λ w hm=>by have:=(xw w hm).len;omega) (by have:=(V3 ne).2;omega) ⟨M,s2,k⟩
   ·have ne:dq (aM g) cs=[]:=by simpa using e
    rw[ne]at k;rfl';refine⟨M,s2,?_⟩;rw[<- o_];exact k
theorem eI:aH ["_law_names_here","_law_counts_here","_law_words","_law_h"] ["_law_names_here","_law_counts_here"] (ao (top 51)):=⟨rfl,rfl,rfl,by decide+kernel,rfl,by decide+kernel,by decide+kernel⟩
theorem Pj(F:dH K "_law_sum_text" "_law_sum_text" (top 51) f fd)(T:fL K mg):bo P w K mg base dJ 1 f fd ["_law_names_here","_law_counts_here"] (bZ K Mn):=by
 refine iy F eI (λ ds M Q h=>?_) (λ bR A outer s H E ds M Q hr h=>?_)
 ·obtain⟨a,own,cs,rfl,_⟩:=h;rfl
 ·obtain⟨a,own,cs,rfl,ha,C,k⟩:=h;refine⟨_,(ag (aU (i:=2) eI.nd rfl (Or.inl rfl) (b_ ae))
 (ag (eY B8 rfl (bV rfl T.range (aa (aS cT (by rfl) T.len (by decide+kernel) (aa (ar 0) ae)) ae)) (cN (i:=3) eI.nd rfl (Or.inl rfl))
 (aj (bh (aL vp (bO bw (ar 1) (ar 3) (λ _ _=>rfl)) ak (aQ _))
 (aj (gF (ig j0 i7 i9 iA (ar 2) (aa (bg a_ (bO bw (b_ (aa aX (aa (bg a_ (cO Q0 (by rfl) T.str (by decide+kernel) (aa (bO bw (ar 1) (ar 3) (λ _ _=>rfl)) ae)) aX) ae))) (cO Ho (by rfl) T.int (by decide+kernel) (aa (ja vp (bO bw (ar 1) (ar 3) (λ _ _=>rfl)) ak (aQ _)) ae)) (λ _ _=>rfl)) (bO bw (ar 0) (ar 3) (λ _ _=>rfl))) ae))))
 aJ)))
 (aj (aD (ig PySem.F.plainAttrs_str PySem.F.slot_str_join PySem.F.type_str_join oV aX (aa (bg a_ (ar 2) (bg dR (b_ (aa aX ae)) (cO Ho (by rfl) T.int (by decide+kernel) (aa (ja (cq hr.units) (ar 2) (b_ ae) (aQ _)) ae)))) ae)))))),?_⟩
  have hw:=C.mr;have Zz:=C.mI;have Cb:=C.len;unfold row;rfl';intro p hp;have s1:=(bA.refl M).put (o:=.lst []) hp;have h1:ai M p (.lst []) p=some (.lst (((dq (own.take 0) (cs.take 0)).map λ t=>wd t.1 t.2).map D.str)):=by rw[af];rfl
  generalize ai M p (.lst [])=M1 at*;have MN:=s1 _ _ ha;rfl';rw[C2];refine⟨dX (by omega) (by omega),?_⟩;rw[x9];refine lC (λ i δ M'=>∃v3:Option D,δ=[some (.ref a),some (.tup (cs.map D.int)),some (.ref p),v3]/\bA M M'/\M' p=some (.lst (((dq (own.take i) (cs.take i)).map λ t=>wd t.1 t.2).map D.str))) ⟨none,rfl,s1,h1⟩ (λ i d δ M' hd h=>?_) (λ δ M' h=>?_)
  ·obtain⟨v3,rfl,hs,iX⟩:=h;obtain⟨hi,rfl⟩:=dQ hd;have Yj:i < cs.length:=by omega
   have hv:=C.pos cs[i] (A9 Yj);have hn:=C.nm own[i] (A9 hi);have hx:fE (cs.map D.int) (i:Int)=some (.int cs[i]):=cH (by rw[x6,i8 Yj];rfl);have hy:fE (own.map D.str) (i:Int)=some (.str own[i]):=cH (by rw[x6,i8 hi];rfl);have et:dq (own.take (i+1)) (cs.take (i+1))=dq (own.take i) (cs.take i)++if 0 < cs[i]then[(own[i],cs[i])]else[]:=by unfold dq;rw[take_add_one,take_add_one,i8 hi,i8 Yj,zip_append (by rw[A8,A8];omega),u7];congr 1;by_cases h:0 < cs[i] <;> simp[h]
   rw[G5];rfl';refine kZ hx ?_;rfl';refine aN (λ e=>?_) (λ e=>?_)
   ·rw[N3 e]at et;rfl';refine⟨⟨rfl,_,iX⟩,?_⟩;rfl';refine kZ hx ?_;rfl';have hl:=ng hv.1 hv.2;refine⟨_,rfl,zO hv.1 hv.2,?_⟩;rfl';rw[dN.2.1];refine cU (small (by have:(one 42).length=1:=rfl;omega)) ?_;have HP:(Str.ofString (toString cs[i])++one 42).length<=32:=by rw[Str.length_append];show _+1<=_;omega
    rfl';intro p4 uI;have q4:=bq iX uI;have s4:=hs.put (o:=.lst [.str (Str.ofString ""),.str (Str.ofString (toString cs[i])++one 42)]) (bi.free hs uI);have fB:ai M' p4 (.lst [.str (Str.ofString ""),.str (Str.ofString (toString cs[i])++one 42)]) p=some (.lst (((dq (own.take i) (cs.take i)).map λ t=>wd t.1 t.2).map D.str)):=by rw[aq q4];exact iX
    have h4:ai M' p4 (.lst [.str (Str.ofString ""),.str (Str.ofString (toString cs[i])++one 42)]) p4=some (.lst [.str (Str.ofString ""),.str (Str.ofString (toString cs[i])++one 42)]):=af;generalize ai M' p4 (.lst [.str (Str.ofString ""),.str (Str.ofString (toString cs[i])++one 42)])=M4 at*;rfl';refine kZ hx ?_;rfl';have fin:∀x:Str,x++own[i]=wd own[i] cs[i]->x.length<=32->rR (.str x) (.str own[i]) M4 λ d M1=>uh (.ref p) [d] M1 λ _ M1=>∃v3:Option D,([some (D.ref a),some (.tup (cs.map D.int)),some (.ref p),some (.int (i:Int))]:dm)=[some (.ref a),some (.tup (cs.map D.int)),some (.ref p),v3]/\bA M M1/\M1 p=some (.lst (((dq (own.take (i+1)) (cs.take (i+1))).map λ t=>wd t.1 t.2).map D.str)):=λ x ex hx=>by
     refine cU (small (by omega)) ?_;refine oB fB ?_ ?_
     ·rw[C2,C2];have:=length_filter_le (λ t:Str×Int=>decide (0 < t.2)) ((own.take i).zip (cs.take i));rw[length_zip,A8]at this;exact s9 (show _<=1000 by show(List.filter _ _).length<=_;omega) (by decide)
     ·refine⟨_,rfl,s4.put hp,?_⟩;rw[af,et,C4,C4,ex];rfl
    by_cases h1:cs[i]=1
    ·rw[B4 (show ¬1 < cs[i] by omega)];rfl';refine cJ (s4 _ _ ha) hy ?_;refine fin _ ?_ (by decide+kernel);unfold wd;rw[N3 h1];exact kW (by rw[jm];rfl)
    ·rw[D1 (show 1 < cs[i] by omega)];rfl';refine cJ (s4 _ _ ha) hy ?_;refine fin _ ?_ HP;unfold wd;rw[N4 h1]
   ·rw[N4 e,B2]at et;rfl';refine⟨_,rfl,hs,?_⟩;rw[et];exact iX
  ·obtain⟨v3,rfl,hs,iX⟩:=h;rw[bP,A5,<- Cb,A5]at iX;rfl';refine⟨rfl,?_⟩;rfl';intro p5 B_;have s5:bA M' (ai M' p5 (.lst [.str (Str.ofString ".")])):=(bA.refl M').put B_;have h5:ai M' p5 (.lst [.str (Str.ofString ".")]) p5=some (.lst [.str (Str.ofString ".")]):=af;have fB:=s5 _ _ iX;have s5:=hs.trans s5;generalize ai M' p5 (.lst [.str (Str.ofString ".")])=M5 at*;rfl';intro p6 Gp;have s6:bA M5 (ai M5 p6 (.lst [])):=(bA.refl M5).put Gp;have V3:dq own cs≠[]->(∀w∈(dq own cs).map λ t=>wd t.1 t.2,Q7 w)/\((dq own cs).map λ t=>wd t.1 t.2).length<=12:=λ ne=>by rw[sx ne]at hw;exact⟨hw.1,hw.2.1⟩
   have xw:∀w∈(dq own cs).map λ t=>wd t.1 t.2,Q7 w:=λ w hm=>(V3 (λ z=>by rw[z]at hm;cases hm)).1 w hm;refine jV (k:=0) (b:=decide (dq own cs=[])) (s6 _ _ fB) af (f_ λ w hm=>dA 0 (xw w hm).ok) (λ e he=>by cases he) (by decide) (by rw[decide_eq_true_iff,map_eq_nil_iff,map_eq_nil_iff]) ?_;have fB:=s6 _ _ fB;have h5:=s6 _ _ h5;have s6:=s5.trans s6;generalize ai M5 p6 (.lst [])=M6 at*;rfl';have fin:∀(b:Nat),b<=1->(dq own cs).map (λ t=>wd t.1 t.2)++List.replicate b (mk [46])=mr (dq own cs)->rP (.ref p5) (.int (b:Int)) M6 λ e M2=>rR (.ref p) e M2 λ d M1=>wt (.str (Str.ofString " ")) [d] M1 (fin2 Q):=λ b hb1 hb=>by
    refine vd h5 (by omega) (by omega) λ p7 MK=>?_;have s7:bA M6 (ai M6 p7 (.lst (List.replicate (b:Int).toNat (.str (Str.ofString "."))))):=(bA.refl M6).put MK;have h7:ai M6 p7 (.lst (List.replicate (b:Int).toNat (.str (Str.ofString ".")))) p7=some (.lst ((List.replicate b (mk [46])).map D.str)):=by rw[af,x9,map_replicate,dN.2.2]
    have nk:=s7 _ _ fB;have s7:=s6.trans s7;generalize ai M6 p7 (.lst (List.replicate (b:Int).toNat (.str (Str.ofString "."))))=M7 at*;have hl:((dq own cs).map λ t=>wd t.1 t.2).length+(List.replicate b (mk [46])).length=(mr (dq own cs)).length:=by rw[<- hb,q8]
    refine cV nk h7 (small (by simp only[C2,l0]at hl ⊢;omega)) λ p8 TX=>?_;rw[<- C4,hb];have s8:=s7.put (o:=.lst ((mr (dq own cs)).map D.str)) (bi.free s7 TX);refine oA af (λ w hm=>by have:=(hw.1 w hm).len;omega) (by omega) ⟨M,s8,k⟩
   by_cases e:dq own cs=[]
   ·rw[D1 e];exact fin 1 (by decide) (by rw[e];rfl)
   ·rw[B4 e];exact fin 0 (by decide) (by rw[sx e];simp)
def zo:gC:=λ ds M Q=>∃(f c a:ww) (ns:List Str),ds=[.ref f,.ref a]/\Flow M f c/\M a=some (.lst (ns.map D.str))/\ns.length<=300/\(∀w∈ns,PyData.strOk w=true)/\∀(p:ww) (Kt:List Str) (M':Mem),Kt.Perm ns->M p=none->M' p=some (.lst (Kt.map D.str))->Fl f c M M'->Q (.ref p) M'
theorem ID{ns:List Str}(h:b=true↔ns=[]):b=true↔ns.map D.str=[]:=by rw[h,map_eq_nil_iff]
theorem eJ:aH ["_law_flow_here","_law_things","_law_left","_law_told"] ["_law_flow_here","_law_things"] (ao (top 38)):=⟨rfl,rfl,rfl,by decide+kernel,rfl,by decide+kernel,by decide+kernel⟩
theorem Kl(F:dH K "_law_shuffled" "_law_shuffled" (top 38) f fd)(T:fL K mg)(aE:bK P w K mg base 1 "_law_pick" ["_law_flow_here","_law_many"] fZ):bo P w K mg base dJ 2 f fd ["_law_flow_here","_law_things"] (bZ K zo):=by
 refine iy F eJ (λ ds M Q h=>?_) (λ bR A outer s H E ds M Q hr h=>?_)
 ·obtain⟨f,c,a,ns,rfl,_⟩:=h;rfl
 ·obtain⟨f,cc,a,ns,rfl,hF,ha,hl,bj,k⟩:=h;refine⟨_,(ag (aU (i:=2) eJ.nd rfl (Or.inl rfl) (cO Hn (by rfl) T.list (by decide+kernel) (aa (ar 1) ae)))
 (ag (aU (i:=3) eJ.nd rfl (Or.inl rfl) (b_ ae))
 (ag (uN B8 (aL (vn hr.units) (ar 2) (b_ ae) (aQ _))
 (aj (gF (ig j0 i7 i9 iA (ar 3) (aa (ig j0 PySem.F.slot_list_pop PySem.F.type_list_pop Tn (ar 2) (aa (aK aE (hr.mono (by decide)) (by rfl) (aa (ar 0) (aa (aS cT (by rfl) T.len (by decide+kernel) (aa (ar 2) ae)) ae))) ae)) ae)))))
 (aj (aD (ar 3)))))),?_⟩
  rfl';refine Ea ha λ p hp=>?_;rfl';intro q hq;have BY:p≠q:=bq (show ai M p (.lst (ns.map D.str)) p=some _ from af) hq;have Gn:M q=none:=bi.free (bi.new bi.rfl hp _) hq;have pf:=(hF.ne hp).1;have qf:=(hF.ne Gn).1;have F0:Fl f cc M (ai (ai M p (.lst (ns.map D.str))) q (.lst [])):=pG (bi.new (bi.new bi.rfl hp _) hq _) hF;have h1:ai (ai M p (.lst (ns.map D.str))) q (.lst []) p=some (.lst (ns.map D.str)):=by rw[aq BY,af]
  have h2:ai (ai M p (.lst (ns.map D.str))) q (.lst []) q=some (.lst (([]:List Str).map D.str)):=af;generalize ai (ai M p (.lst (ns.map D.str))) q (.lst [])=M2 at*;rfl';refine u_ ⟨λ m δ M'=>∃(xs ys:List Str),δ=[some (.ref f),some (.ref a),some (.ref p),some (.ref q)]/\M' p=some (.lst (xs.map D.str))/\M' q=some (.lst (ys.map D.str))/\(ys++xs).Perm ns/\Fl f cc M M'/\m=xs.length,⟨_,ns,[],rfl,h1,h2,.refl _,F0,rfl⟩,?_⟩;rintro m δ M' ⟨xs,ys,rfl,h1,h2,vU,F1,rfl⟩;have hlen:=vU.length_eq;rw[q8]at hlen;rfl';intro e he;refine sV (k:=0) (b:=decide (xs=[])) (by rw[aq (bq h1 he)];exact h1) af (f_ λ x hx=>dA 0 (bj x (vU.mem_iff.mp (k7 _ hx)))) (λ e he=>by cases he) (by decide) (ID (by rw[decide_eq_true_iff])) ?_;have h1:ai M' e (.lst []) p=some (.lst (xs.map D.str)):=by rw[aq (bq h1 he)];exact h1
  have h2:ai M' e (.lst []) q=some (.lst (ys.map D.str)):=by rw[aq (bq h2 he)];exact h2
  have F1:=F1.trans (Fl.put (o:=.lst []) F1.bc he);generalize ai M' e (.lst [])=M3 at*;refine bB (λ hn=>?_) (λ hn=>?_)
  ·have hn:xs≠[]:=by simpa using hn
   have vT:0 < xs.length:=length_pos_iff.mpr hn;refine⟨λ δ' M'=>∃(y_ RH:List Str),δ'=[some (.ref f),some (.ref a),some (.ref p),some (.ref q)]/\M' p=some (.lst (y_.map D.str))/\M' q=some (.lst (RH.map D.str))/\(RH++y_).Perm ns/\Fl f cc M M'/\y_.length < xs.length,?_,?_⟩
   ·rintro δ' M' ⟨y_,RH,rfl,a1,a2,a3,a4,a5⟩;exact⟨_,a5,y_,RH,rfl,a1,a2,a3,a4,rfl⟩
   ·rfl';refine⟨⟨rfl,_,h2⟩,?_⟩;rfl';refine⟨⟨rfl,_,h1⟩,?_⟩;rfl';rw[C2];refine⟨f,cc,xs.length,rfl,F1.bc,by omega,by omega,λ d o h0 ZR Yt=>?_⟩;have P:=Fl.pick Yt;have F2:=F1.trans P;have h1:=P.mv _ _ pf h1;have h2:=P.mv _ _ qf h2;generalize ai M3 f o=M4 at*;obtain⟨j,rfl⟩:∃n:Nat,d=(n:Int):=⟨d.toNat,by omega⟩;have hj:j < xs.length:=by omega
    rfl';refine DY h1 (y:=D.str xs[j]) (by rw[x6,i8 hj];rfl) (by rw[C2];omega) ?_;rfl';refine oB (ds:=ys.map D.str) (by rw[aq (L9 BY)];exact h2) (by rw[C2];exact s9 (show ys.length<=300 by omega) (by decide)) ?_;refine⟨xs.eraseIdx j,ys++[xs[j]],rfl,?_,?_,?_,(F2.own hF hp).own hF Gn,?_⟩
    ·rw[aq BY,af,zS]
    ·rw[af,C4];rfl
    ·refine List.Perm.trans ?_ vU;rw[append_assoc];refine List.Perm.append_left _ ?_;exact vi hj
    ·rw[length_eraseIdx_of_lt hj];omega
  ·have hn:xs=[]:=by simpa using hn
   subst hn;rw[B2]at vU;rfl';exact au (k q ys _ vU Gn h2 F1)
structure HY(w:Str):Prop where
 len:w.length<=40
 ok:PyData.strOk w=true
def Ry(w:Str):Prop:=w.length<=72/\PyData.strOk w=true
def gw:List Str:=[Str.ofString "",Str.ofString ".",Str.ofString "|",Str.ofString "a",Str.ofString "zz9",Str.ofString "A",Str.ofString "row",Str.ofString "2*",Str.ofString "*",Str.ofString "2*zz9"]
theorem zQ:∀z∈gw,z.length<=40/\PyData.strOk z=true:=by decide+kernel
def s30:Str:=Str.ofString "1"++Txt.mul (Str.ofString "0") 30++Str.ofString "*"
def s29:Str:=Str.ofString "1"++Txt.mul (Str.ofString "0") 29++Str.ofString "1*"
def s31:Str:=Txt.mul (Str.ofString "9") 31++Str.ofString "*"
def oj:List Str:=[Str.ofString "1*",Str.ofString "0*",Str.ofString "02*",Str.ofString "2*",Str.ofString "-2*",Str.ofString "2**",s30,s29,s31,Str.ofString "x*"]
theorem II:∀z∈oj,z.length<=32/\PyData.strOk z=true:=by decide+kernel
theorem yi:MulOk (Str.ofString "0") 30/\MulOk (Str.ofString "0") 29/\MulOk (Str.ofString "9") 31:=⟨⟨by decide,λ _ _=>by decide+kernel,λ _ _=>by decide+kernel⟩,⟨by decide,λ _ _=>by decide+kernel,λ _ _=>by decide+kernel⟩,by decide,λ _ _=>by decide+kernel,λ _ _=>by decide+kernel⟩
theorem Pr{y:Str}(h1:PyData.strOk x=true)(h2:PyData.strOk y=true):PyData.strOk (x++y)=true:=by
 rw[gR,jm];intro c hc;rcases C3.mp hc with q|q
 ·exact gR.mp h1 c q
 ·exact gR.mp h2 c q
theorem AI{d:Int}(h0:0<=d)(h1:d < (ws.length:Int)):∃w∈ws,fE (ws.map D.str) d=some (.str w):=by
 obtain⟨n,rfl⟩:=Int.eq_ofNat_of_zero_le h0;have hn:n < ws.length:=by omega
 exact⟨ws[n],A9 hn,cH (by rw[x6,i8 hn];rfl)⟩
def zk:gC:=λ ds M Q=>∃(f c a b:ww) (ws zs:List Str),ds=[.ref f,.ref a,.ref b]/\Flow M f c/\M a=some (.lst (ws.map D.str))/\M b=some (.lst (zs.map D.str))/\(∀w∈ws,HY w)/\(∀w∈zs,HY w)/\ws.length<=100/\zs.length<=100/\∀(w:Str) (M':Mem),Ry w->Fl f c M M'->Q (.str w) M'
theorem eD:aH ["_law_flow_here","_law_words","_law_names_here","_law_menu","_law_word_here","_law_some"] ["_law_flow_here","_law_words","_law_names_here"] (ao (top 54)):=⟨rfl,rfl,rfl,by decide+kernel,rfl,by decide+kernel,by decide+kernel⟩
theorem Ki(F:dH K "_law_word" "_law_word" (top 54) f fd)(T:fL K mg)(aE:bK P w K mg base 1 "_law_pick" ["_law_flow_here","_law_many"] fZ):bo P w K mg base dJ 2 f fd ["_law_flow_here","_law_words","_law_names_here"] (bZ K zk):=by
 refine iy F eD (λ ds M Q h=>?_) (λ bR A outer s H E ds M Q hr h=>?_)
 ·obtain⟨f,c,a,b,ws,zs,rfl,_⟩:=h;rfl
 ·obtain⟨f,cc,a,b,ws,zs,rfl,hF,ha,hb,hw,hz,wl,zl,k⟩:=h;refine⟨_,(ag (aU (i:=3) eD.nd rfl (Or.inl rfl) (bg a_ (bg a_ (ar 1) (ar 2)) (b_ (mP (zs:=[Str.ofString "",Str.ofString ".",Str.ofString "|",Str.ofString "a",Str.ofString "zz9",Str.ofString "A",Str.ofString "row",Str.ofString "2*",Str.ofString "*",Str.ofString "2*zz9"]) (by kernel_rfl)))))
 (ag (aU (i:=4) eD.nd rfl (Or.inl rfl) (bO bw (ar 3) (aK aE (hr.mono (by decide)) (by rfl) (aa (ar 0) (aa (aS cT (by rfl) T.len (by decide+kernel) (aa (ar 3) ae)) ae))) (λ _ _=>rfl)))
 (ag (aU (i:=5) eD.nd rfl (Or.inl rfl) (b_ (aa aX (aa aX (aa aX (aa aX (aa aX (aa aX (aa (bg a_ (bg a_ aX (bg dR aX ak)) aX) (aa (bg a_ (bg a_ aX (bg dR aX ak)) aX) (aa (bg a_ (bg dR aX ak) aX) (aa aX ae))))))))))))
 (ag (bh (aL (cq hr.units) (aK aE (hr.mono (by decide)) (by rfl) (aa (ar 0) (aa ak ae))) ak (aQ _))
 (aj (aU (i:=4) eD.nd rfl (Or.inl rfl) (bg a_ (bO bw (ar 5) (aK aE (hr.mono (by decide)) (by rfl) (aa (ar 0) (aa ak ae))) (λ _ _=>rfl)) (ar 4))))
 aJ)
 (aj (aD (ar 4))))))),?_⟩
  rfl';refine cV ha hb (small (by rw[C2,C2];omega)) λ p1 iX=>?_;rw[<- C4];have E1:=bi.new (bi.rfl (M:=M)) iX (.lst ((ws++zs).map D.str));have h1:ai M p1 (.lst ((ws++zs).map D.str)) p1=some (.lst ((ws++zs).map D.str)):=af;generalize ai M p1 (.lst ((ws++zs).map D.str))=M1 at*;rfl';intro p2 fB;have E2:=E1.new fB (.lst (gw.map D.str));have Uw:ai M1 p2 (.lst (gw.map D.str)) p1=some (.lst ((ws++zs).map D.str)):=by rw[aq (bq h1 fB)];exact h1
  have h2:ai M1 p2 (.lst (gw.map D.str)) p2=some (.lst (gw.map D.str)):=af;rw[show[Str.ofString "",Str.ofString ".",Str.ofString "|",Str.ofString "a",Str.ofString "zz9",Str.ofString "A",Str.ofString "row",Str.ofString "2*",Str.ofString "*",Str.ofString "2*zz9"]=gw from rfl];generalize ai M1 p2 (.lst (gw.map D.str))=M2 at*;refine cV Uw h2 (small (by rw[C2,C2,q8];show _+10<=_;omega)) λ p3 nk=>?_;rw[<- C4];have E3:=E2.new nk (.lst ((ws++zs++gw).map D.str));have h3:ai M2 p3 (.lst ((ws++zs++gw).map D.str)) p3=some (.lst ((ws++zs++gw).map D.str)):=af;have n3:=E2.free nk;generalize ai M2 p3 (.lst ((ws++zs++gw).map D.str))=M3 at*;have F3:=pG E3 hF;have pf:=(hF.ne n3).1;have lm:(ws++zs++gw).length=ws.length+zs.length+10:=by rw[q8,q8];rfl
  rfl';rw[C2];refine⟨f,cc,_,rfl,F3.bc,by omega,by omega,λ d o d0 d1 Yt=>?_⟩;have P:=Fl.pick Yt;have F4:=F3.trans P;have h3:=P.mv _ _ pf h3;generalize ai M3 f o=M4 at*;obtain⟨w,wm,hx⟩:=AI (ws:=ws++zs++gw) d0 d1;have xw:HY w:=by
   rcases C3.mp wm with q|q
   ·rcases C3.mp q with q|q
    ·exact hw w q
    ·exact hz w q
   ·exact⟨(zQ w q).1,(zQ w q).2⟩
  rfl';refine cJ h3 hx ?_;rfl';refine jS yi.1 ?_;refine cU (small (by decide+kernel)) ?_;rfl';refine cU (small (by decide+kernel)) ?_;rfl';refine jS yi.2.1 ?_;refine cU (small (by decide+kernel)) ?_;rfl';refine cU (small (by decide+kernel)) ?_;rfl';refine jS yi.2.2 ?_;rfl';refine cU (small (by decide+kernel)) ?_;rfl';intro p5 B_;have E5:=bi.new (bi.rfl (M:=M4)) B_ (.lst (oj.map D.str));have h5:ai M4 p5 (.lst (oj.map D.str)) p5=some (.lst (oj.map D.str)):=af;have qf:=(F4.bc.ne B_).1;have F5:=F4.trans (pG E5 F4.bc);rw[show[D.str (Str.ofString "1*"),.str (Str.ofString "0*"),.str (Str.ofString "02*"),.str (Str.ofString "2*"),.str (Str.ofString "-2*"),.str (Str.ofString "2**"),.str (Str.ofString "1"++Txt.mul (Str.ofString "0") 30++Str.ofString "*"),.str (Str.ofString "1"++Txt.mul (Str.ofString "0") 29++Str.ofString "1*"),.str (Txt.mul (Str.ofString "9") 31++Str.ofString "*"),.str (Str.ofString "x*")]=oj.map D.str from rfl];generalize ai M4 p5 (.lst (oj.map D.str))=M5 at*;rfl';refine⟨f,cc,3,rfl,F5.bc,by decide,by decide,λ d3 o3 a0 a1 HU=>?_⟩;have P6:=Fl.pick HU;have F6:=F5.trans P6;have h6:=P6.mv _ _ qf h5;generalize ai M5 f o3=M6 at*;rfl';refine aN (λ e=>?_) (λ e=>?_)
  ·rfl';refine⟨f,cc,10,rfl,F6.bc,by decide,by decide,λ d4 o4 b0 b1 MP=>?_⟩;have P7:=Fl.pick MP;have F7:=F6.trans P7;have h7:=P7.mv _ _ qf h6;generalize ai M6 f o4=M7 at*;obtain⟨y,ym,hy⟩:=AI (ws:=oj) b0 b1;have ho:=II y ym;have wl2:=xw.len;refine cJ h7 hy ?_;rfl';refine cU (small (by omega)) ?_;rfl';refine au (k _ _ ⟨?_,Pr ho.2 xw.ok⟩ F7);rw[Str.length_append];omega
  ·rfl';have wl2:=xw.len;exact au (k _ _ ⟨by omega,xw.ok⟩ F6)
theorem HY.kN{w:Str}(h:HY w):Ry w:=⟨H9 h.len (by decide),h.ok⟩
theorem Tr{ws:List (List Nat)}(h:∀w∈ws,∀c∈w,c < 0x110000):∀c∈jn 32 ws,c < 0x110000:=by
 induction ws with
 |nil=>exact λ c z=>by cases z
 |cons x r ih=>
  cases r with
  |nil=>exact h x (by simp)
  |cons y r=>
   intro c hc;rcases C3.mp (show c∈x++32::jn 32 (y::r)from hc)with q|q
   ·exact h x (by simp) c q
   ·rcases G0.mp q with q|q
    ·omega
    ·exact ih (λ w hw=>h w (l7 _ hw)) c q
theorem oZ(h:∀w∈ws,w.length<=n/\PyData.strOk w=true)(hl:ws.length*(n+1)<=1000):Hv (Txt.join (one 32) ws):=by
 refine⟨?_,?_⟩
 ·have h1:(Txt.join (one 32) ws).length<=(ws.map (·.length)).sum+ws.length*(one 32).length:=by show(Builtin.Str.glued (one 32) ws).length<=_;rw[StrLaws.glued_eq_join];exact StrLaws.join_length_le _ _
  have h2:=Dy λ w hw=>(h w hw).1;have h3:(one 32).length=1:=rfl;rw[h3]at h1;rw[Nat.mul_add]at hl;omega
 ·rw[gR,z_];refine Tr λ w hw=>?_;obtain⟨x,hx,rfl⟩:=G8.mp hw;exact gR.mp (h x hx).2
def Mq:gC:=λ ds M Q=>∃(f c b:ww) (z:Str) (zs:List Str),ds=[.ref f,.str z,.ref b]/\Flow M f c/\Hv z/\(∀w∈ie z,HY w)/\(ie z).length<=12/\M b=some (.lst (zs.map D.str))/\(∀w∈zs,HY w)/\zs.length<=100/\b≠f/\∀(z':Str) (M':Mem),Hv z'->Fl f c M M'->Q (.str z') M'
def wZ(f c b:ww)(z:Str)(at' fm:Int)(M:Mem)(k:Int)(δ:dm)(M':Mem):Prop:=∃(p:ww) (ws:List Str),δ=[some (.ref f),some (.str z),some (.ref b),some (.ref p),some (.int at'),some (.int fm)]/\M' p=some (.lst (ws.map D.str))/\(p≠f/\M p=none)/\(∀w∈ws,Ry w)/\ws.length<=13/\(k<=fm->(∀w∈ws,HY w)/\ws.length<=12/\at' < (ws.length:Int))/\Fl f c M M'
theorem wZ.next{c b:ww}{at' fm:Int}{k:Int}(h:wZ f c b z at' fm M k δ M'):wZ f c b z at' fm M (k+1) δ M':=by obtain⟨p,ws,h1,h2,h3,h4,h5,h6,h7⟩:=h;exact⟨p,ws,h1,h2,h3,h4,h5,λ g=>h6 (by omega),h7⟩
theorem ve{Q:bH}(h:M a=some (.lst (ys.map D.str)))(h1:∀w∈ys,w.length<=1000)(h2:ys.length<=100)(q:Q (.str (Txt.join (one 32) ys)) M):wt (.str (one 32)) [.ref a] M Q:=by
 have:=oA h h1 h2 q
 rwa [dN.1]at this
theorem LL(ws:List Str)(n:Nat):∃us:List Str,cutD (ws.map D.str) (some (n:Int)) (some ((n:Int)+1))=us.map D.str/\us.length<=1/\∀w∈us,w∈ws:=by
 refine⟨(ws.drop (HT.bS ws.length 0 (some (n:Int)))).take (HT.bS ws.length ws.length (some ((n:Int)+1)) - HT.bS ws.length 0 (some (n:Int))),?_,?_,λ w hw=>mem_of_mem_drop (m5 hw)⟩
 ·unfold cutD;rw[C2,map_take,map_drop]
 ·rw[A8,HT.mT,show((n:Int)+1)=((n+1:Nat):Int)from rfl,HT.mT];omega
theorem nu{c:ww}(F:Fl f c M M')(h:M' q=none):M q=none:=by
 cases e:M q with
 |none=>rfl
 |some o=>
  by_cases z:q=f
  ·subst z;obtain⟨o,ho⟩:=F.bc.there;rw[ho]at h;cases h
  ·rw[F.mv q o z e]at h;cases h
theorem yr{L:Nat}(h:n < L):tO L (n:Int)=some n:=by
 unfold tO;simp only[x9]
 first|(rw[N3 (by omega)];done)|(simp;omega)
theorem Ld{w:Str}(h:HY w):Ry (cS w none (some (-1))):=by refine⟨H9 (nA w none (some (-1))) (H9 h.len (by decide)),?_⟩;rw[ko,gR];exact λ c hc=>gR.mp h.ok c ((dropLast_sublist _).subset hc)
theorem bG:aH ["_law_flow_here","_law_text","_law_names_here","_law_words","_law_at","_law_form"] ["_law_flow_here","_law_text","_law_names_here"] (ao (top 55)):=⟨rfl,rfl,rfl,by decide+kernel,rfl,by decide+kernel,by decide+kernel⟩
theorem yc(F:dH K "_law_changed" "_law_changed" (top 55) f fd)(T:fL K mg)(aE:bK P w K mg base 1 "_law_pick" ["_law_flow_here","_law_many"] fZ)(jw:bK P w K mg base 2 "_law_word" ["_law_flow_here","_law_words","_law_names_here"] zk):bo P w K mg base dJ 3 f fd ["_law_flow_here","_law_text","_law_names_here"] (bZ K Mq):=by
 refine iy F bG (λ ds M Q h=>?_) (λ bR A outer s H E ds M Q hr h=>?_)
 ·obtain⟨f,c,b,z,zs,rfl,_⟩:=h;rfl
 ·obtain⟨f,cc,b,z,zs,rfl,hF,hz,hw,hl,hb,nj,zl,bf,k⟩:=h;refine⟨_,(ag (aU (i:=3) bG.nd rfl (Or.inl rfl) (ig PySem.F.plainAttrs_str PySem.F.slot_str_split PySem.F.type_str_split m_split (ar 1) (aa aX ae)))
 (ag (aU (i:=4) bG.nd rfl (Or.inl rfl) (aK aE (hr.mono (by decide)) (by rfl) (aa (ar 0) (aa (aS cT (by rfl) T.len (by decide+kernel) (aa (ar 3) ae)) ae))))
 (ag (aU (i:=5) bG.nd rfl (Or.inl rfl) (aK aE (hr.mono (by decide)) (by rfl) (aa (ar 0) (aa ak ae))))
 (ag (bh (aL (cq hr.units) (ar 5) ak (aQ _))
 (aj (aU (i:=3) bG.nd rfl (Or.inl rfl) (bg a_ (cu fh (ar 3) cG (cf (ar 4))) (cu fh (ar 3) (cf (bg a_ (ar 4) ak)) cG))))
 aJ)
 (ag (bh (aL (cq hr.units) (ar 5) ak (aQ _))
 (aj (aU (i:=3) bG.nd rfl (Or.inl rfl) (bg a_ (bg a_ (cu fh (ar 3) cG (cf (ar 4))) (cu fh (ar 3) (cf (ar 4)) (cf (bg a_ (ar 4) ak)))) (cu fh (ar 3) (cf (ar 4)) cG))))
 aJ)
 (ag (bh (aL (cq hr.units) (ar 5) ak (aQ _))
 (aj (aU (i:=3) bG.nd rfl (Or.inl rfl) (bg a_ (bg a_ (cu fh (ar 3) cG (cf (ar 4))) (b_ (aa (aK jw (hr.mono (by decide)) (by rfl) (aa (ar 0) (aa (ar 3) (aa (ar 2) ae)))) ae))) (cu fh (ar 3) (cf (ar 4)) cG))))
 aJ)
 (ag (bh (gj (aL (cq hr.units) (ar 5) ak (aQ _)) (fU (aL (cq hr.units) (ar 5) ak (aQ _)))).pt
 (aj (fW (aK jw (hr.mono (by decide)) (by rfl) (aa (ar 0) (aa (ar 3) (aa (ar 2) ae)))) (fX (ar 3) (ar 4) jQ)))
 aJ)
 (ag (bh (aL (cq hr.units) (ar 5) ak (aQ _))
 (aj (fW (cu fh (bO bw (ar 3) (ar 4) (λ _ _=>rfl)) cG (cf (AZ qP ak))) (fX (ar 3) (ar 4) jQ)))
 aJ)
 (ag (bh (aL (cq hr.units) (ar 5) ak (aQ _))
 (aj (aU (i:=3) bG.nd rfl (Or.inl rfl) (bg a_ (ar 3) (b_ (aa (aK jw (hr.mono (by decide)) (by rfl) (aa (ar 0) (aa (ar 3) (aa (ar 2) ae)))) ae)))))
 aJ)
 (aj (aD (ig PySem.F.plainAttrs_str PySem.F.slot_str_join PySem.F.type_str_join oV aX (aa (ar 3) ae))))))))))))),?_⟩
  have XR:=hz.len;obtain⟨_,_,w3⟩:=xr hz;rfl';rw[dN.1];refine⟨rfl,z,one 32,rfl,rfl,by decide,by omega,small (by show(ie z).length<=10000;omega),λ p hp=>?_⟩;rw[show Txt.split z (one 32)=ie z from rfl];have E1:bi M (ai M p (.lst ((ie z).map D.str))):=bi.new bi.rfl hp _;have h1:ai M p (.lst ((ie z).map D.str)) p=some (.lst ((ie z).map D.str)):=af;generalize ai M p (.lst ((ie z).map D.str))=M1 at*;have F1:=pG E1 hF;have pf:=(hF.ne hp).1;have aab:0 < (ie z).length:=length_pos_iff.mpr w3;generalize ie z=ws at*;rfl';rw[C2];refine⟨f,cc,_,rfl,F1.bc,by omega,by omega,λ at' o a0 a1 ZQ=>?_⟩;have P2:=Fl.pick ZQ;have F2:=F1.trans P2;have h2:=P2.mv _ _ pf h1;generalize ai M1 f o=M2 at*;rfl';refine⟨f,cc,7,rfl,F2.bc,by decide,by decide,λ fm o2 b0 b1 ZP=>?_⟩;have P3:=Fl.pick ZP;have F3:=F2.trans P3;have h3:=P3.mv _ _ pf h2;generalize ai M2 f o2=M3 at*;have I0:wZ f cc b z at' fm M 0 [some (.ref f),some (.str z),some (.ref b),some (.ref p),some (.int at'),some (.int fm)] M3:=⟨p,ws,rfl,h3,⟨pf,hp⟩,λ w m=>(hw w m).kN,by omega,λ _=>⟨hw,hl,a1⟩,F3⟩;clear h1 h2 h3 F1 F2 F3 P2 P3 E1 ZQ ZP hp pf;walk_at "rd1"
  with_reducible refine gP (λ δ' M'=>wZ f cc b z at' fm M 1 δ' M') (λ N hN=>?_) (λ δ' M' I=>?_)
  ·obtain⟨p,ws,hδ,hp,pf,kN,CQ,kk,F⟩:=I0;cases hδ;have Qt:=F.mv _ _ bf hb;rfl';refine aN (λ e=>?_) (λ e=>?_)
   ·subst e;obtain⟨Dr,Rl,alt⟩:=kk (Int.le_refl _);obtain⟨n,rfl⟩:=Int.eq_ofNat_of_zero_le a0;have hn:n < ws.length:=by omega
    rfl';refine iO hp (by omega) λ q1 xg=>?_;rw[x9,<- map_take];have F1:=F.trans (Fl.put (o:=.lst ((ws.take n).map D.str)) F.bc xg);have g1:ai M3 q1 (.lst ((ws.take n).map D.str)) q1=some (.lst ((ws.take n).map D.str)):=af;have iX:ai M3 q1 (.lst ((ws.take n).map D.str)) p=some (.lst (ws.map D.str)):=by rw[aq (bq hp xg)];exact hp
    generalize ai M3 q1 (.lst ((ws.take n).map D.str))=M1 at*;rfl';refine iu iX (by omega) λ q2 pw=>?_;rw[show((n:Int)+1).toNat=n+1 by omega,<- map_drop];have F2:=F1.trans (Fl.put (o:=.lst ((ws.drop (n+1)).map D.str)) F1.bc pw);have g2:ai M1 q2 (.lst ((ws.drop (n+1)).map D.str)) q2=some (.lst ((ws.drop (n+1)).map D.str)):=af;have g1:ai M1 q2 (.lst ((ws.drop (n+1)).map D.str)) q1=some (.lst ((ws.take n).map D.str)):=by rw[aq (bq g1 pw)];exact g1
    generalize ai M1 q2 (.lst ((ws.drop (n+1)).map D.str))=M2 at*;refine cV g1 g2 (small (by simp only[C2,A8,A4];omega)) λ q3 BX=>?_;rw[<- C4];refine hN _ _ ⟨q3,_,rfl,af,⟨(F2.bc.ne BX).1,nu F2 BX⟩,λ w m=>?_,?_,λ g=>absurd g (by omega),F2.trans (Fl.put F2.bc BX)⟩
    ·rcases C3.mp m with q|q
     ·exact kN w (m5 q)
     ·exact kN w (mem_of_mem_drop q)
    ·simp only[q8,A8,A4];omega
   ·rfl';exact hN _ _ (wZ.next ⟨p,ws,rfl,hp,pf,kN,CQ,kk,F⟩)
  with_reducible refine gP (λ δ' M'=>wZ f cc b z at' fm M 2 δ' M') (λ N hN=>?_) (λ δ' M' I=>?_)
  ·obtain⟨p,ws,rfl,hp,pf,kN,CQ,kk,F⟩:=I;have Qt:=F.mv _ _ bf hb;rfl';refine aN (λ e=>?_) (λ e=>?_)
   ·subst e;obtain⟨Dr,Rl,alt⟩:=kk (Int.le_refl _);obtain⟨n,rfl⟩:=Int.eq_ofNat_of_zero_le a0;have hn:n < ws.length:=by omega
    rfl';refine iO hp (by omega) λ q1 xg=>?_;rw[x9,<- map_take];have F1:=F.trans (Fl.put (o:=.lst ((ws.take n).map D.str)) F.bc xg);have g1:ai M' q1 (.lst ((ws.take n).map D.str)) q1=some (.lst ((ws.take n).map D.str)):=af;have iX:ai M' q1 (.lst ((ws.take n).map D.str)) p=some (.lst (ws.map D.str)):=by rw[aq (bq hp xg)];exact hp
    have Zk:=(F.bc.ne xg).1;generalize ai M' q1 (.lst ((ws.take n).map D.str))=M1 at*;rfl';refine sT iX λ q2 pw=>?_;obtain⟨us,eu,ul,um⟩:=LL ws n;have uv:∀w∈us,Ry w:=λ w m=>kN w (um w m);rw[eu];have g1:ai M1 q2 (.lst (us.map D.str)) q1=some (.lst ((ws.take n).map D.str)):=by rw[aq (bq g1 pw)];exact g1
    have iX:ai M1 q2 (.lst (us.map D.str)) p=some (.lst (ws.map D.str)):=by rw[aq (bq iX pw)];exact iX
    have g2:ai M1 q2 (.lst (us.map D.str)) q2=some (.lst (us.map D.str)):=af;have F2:=F1.trans (Fl.put (o:=.lst (us.map D.str)) F1.bc pw);generalize ai M1 q2 (.lst (us.map D.str))=M2 at*;refine cV g1 g2 (small (by simp only[C2,A8];omega)) λ q3 BX=>?_;rw[<- C4];have iX:ai M2 q3 (.lst ((ws.take n++us).map D.str)) p=some (.lst (ws.map D.str)):=by rw[aq (bq iX BX)];exact iX
    have g3:ai M2 q3 (.lst ((ws.take n++us).map D.str)) q3=some (.lst ((ws.take n++us).map D.str)):=af;have F2:=F2.trans (Fl.put (o:=.lst ((ws.take n++us).map D.str)) F2.bc BX);generalize ai M2 q3 (.lst ((ws.take n++us).map D.str))=M2 at*;rfl';have g1:=g1;refine iu iX (by omega) λ q4 TR=>?_;rw[x9,<- map_drop];have F4:=F2.trans (Fl.put (o:=.lst ((ws.drop n).map D.str)) F2.bc TR);have g4:ai M2 q4 (.lst ((ws.drop n).map D.str)) q4=some (.lst ((ws.drop n).map D.str)):=af;have g3:ai M2 q4 (.lst ((ws.drop n).map D.str)) q3=some (.lst ((ws.take n++us).map D.str)):=by rw[aq (bq g3 TR)];exact g3
    generalize ai M2 q4 (.lst ((ws.drop n).map D.str))=M4 at*;refine cV g3 g4 (small (by simp only[C2,q8,A8,A4];omega)) λ q5 Qf=>?_;rw[<- C4];refine hN _ _ ⟨q5,_,rfl,af,⟨(F4.bc.ne Qf).1,nu F4 Qf⟩,λ w m=>?_,?_,λ g=>absurd g (by omega),F4.trans (Fl.put F4.bc Qf)⟩
    ·rcases C3.mp m with q|q
     ·rcases C3.mp q with q|q
      ·exact kN w (m5 q)
      ·exact uv w q
     ·exact kN w (mem_of_mem_drop q)
    ·simp only[q8,A8,A4];omega
   ·rfl';exact hN _ _ (wZ.next ⟨p,ws,rfl,hp,pf,kN,CQ,kk,F⟩)
  with_reducible refine gP (λ δ' M'=>wZ f cc b z at' fm M 3 δ' M') (λ N hN=>?_) (λ δ' M' I=>?_)
  ·obtain⟨p,ws,rfl,hp,pf,kN,CQ,kk,F⟩:=I;have Qt:=F.mv _ _ bf hb;rfl';refine aN (λ e=>?_) (λ e=>?_)
   ·subst e;obtain⟨Dr,Rl,alt⟩:=kk (Int.le_refl _);obtain⟨n,rfl⟩:=Int.eq_ofNat_of_zero_le a0;have hn:n < ws.length:=by omega
    rfl';refine iO hp (by omega) λ q1 xg=>?_;rw[x9,<- map_take];have F1:=F.trans (Fl.put (o:=.lst ((ws.take n).map D.str)) F.bc xg);have g1:ai M' q1 (.lst ((ws.take n).map D.str)) q1=some (.lst ((ws.take n).map D.str)):=af;have iX:ai M' q1 (.lst ((ws.take n).map D.str)) p=some (.lst (ws.map D.str)):=by rw[aq (bq hp xg)];exact hp
    have Zk:=(F.bc.ne xg).1;generalize ai M' q1 (.lst ((ws.take n).map D.str))=M1 at*;rfl';refine⟨f,cc,p,b,ws,zs,rfl,F1.bc,iX,(F1.mv _ _ bf hb),Dr,nj,by omega,zl,λ x M5 hx Fx=>?_⟩;have F1:=F1.trans Fx;have g1:=Fx.mv _ _ Zk g1;have iX:=Fx.mv _ _ pf.1 iX;clear Fx;generalize M5=M1 at*;rfl';intro q2 pw;obtain⟨us,Tx⟩:∃us,us=[x]:=⟨_,rfl⟩;have ul:us.length<=1:=by rw[Tx];exact K1 _
    have uv:∀w∈us,Ry w:=λ w m=>by rw[Tx]at m;rw[u4.mp m];exact hx
    rw[show[D.str x]=us.map D.str by rw[Tx];rfl];have g1:ai M1 q2 (.lst (us.map D.str)) q1=some (.lst ((ws.take n).map D.str)):=by rw[aq (bq g1 pw)];exact g1
    have iX:ai M1 q2 (.lst (us.map D.str)) p=some (.lst (ws.map D.str)):=by rw[aq (bq iX pw)];exact iX
    have g2:ai M1 q2 (.lst (us.map D.str)) q2=some (.lst (us.map D.str)):=af;have F2:=F1.trans (Fl.put (o:=.lst (us.map D.str)) F1.bc pw);generalize ai M1 q2 (.lst (us.map D.str))=M2 at*;refine cV g1 g2 (small (by simp only[C2,A8];omega)) λ q3 BX=>?_;rw[<- C4];have iX:ai M2 q3 (.lst ((ws.take n++us).map D.str)) p=some (.lst (ws.map D.str)):=by rw[aq (bq iX BX)];exact iX
    have g3:ai M2 q3 (.lst ((ws.take n++us).map D.str)) q3=some (.lst ((ws.take n++us).map D.str)):=af;have F2:=F2.trans (Fl.put (o:=.lst ((ws.take n++us).map D.str)) F2.bc BX);generalize ai M2 q3 (.lst ((ws.take n++us).map D.str))=M2 at*;rfl';have g1:=g1;refine iu iX (by omega) λ q4 TR=>?_;rw[x9,<- map_drop];have F4:=F2.trans (Fl.put (o:=.lst ((ws.drop n).map D.str)) F2.bc TR);have g4:ai M2 q4 (.lst ((ws.drop n).map D.str)) q4=some (.lst ((ws.drop n).map D.str)):=af;have g3:ai M2 q4 (.lst ((ws.drop n).map D.str)) q3=some (.lst ((ws.take n++us).map D.str)):=by rw[aq (bq g3 TR)];exact g3
    generalize ai M2 q4 (.lst ((ws.drop n).map D.str))=M4 at*;refine cV g3 g4 (small (by simp only[C2,q8,A8,A4];omega)) λ q5 Qf=>?_;rw[<- C4];refine hN _ _ ⟨q5,_,rfl,af,⟨(F4.bc.ne Qf).1,nu F4 Qf⟩,λ w m=>?_,?_,λ g=>absurd g (by omega),F4.trans (Fl.put F4.bc Qf)⟩
    ·rcases C3.mp m with q|q
     ·rcases C3.mp q with q|q
      ·exact kN w (m5 q)
      ·exact uv w q
     ·exact kN w (mem_of_mem_drop q)
    ·simp only[q8,A8,A4];omega
   ·rfl';exact hN _ _ (wZ.next ⟨p,ws,rfl,hp,pf,kN,CQ,kk,F⟩)
  with_reducible refine gP (λ δ' M'=>wZ f cc b z at' fm M 5 δ' M') (λ N hN=>?_) (λ δ' M' I=>?_)
  ·obtain⟨p,ws,rfl,hp,pf,kN,CQ,kk,F⟩:=I;have Qt:=F.mv _ _ bf hb;rfl';refine aN (λ e=>?_) (λ e=>?_)
   ·skip
    obtain⟨Dr,Rl,alt⟩:=kk (by omega);obtain⟨n,rfl⟩:=Int.eq_ofNat_of_zero_le a0;have hn:n < ws.length:=by omega
    rfl';refine⟨f,cc,p,b,ws,zs,rfl,F.bc,hp,Qt,Dr,nj,by omega,zl,λ x M5 hx Fx=>?_⟩;have B_:=Fx.mv _ _ pf.1 hp;rfl';refine sU B_ (yr (by rw[C2];exact hn)) ?_;have FF:Fl f cc M (ai M5 p (.lst ((ws.map D.str).set n (.str x)))):=(F.trans Fx).own hF pf.2;refine hN _ _ ⟨p,ws.set n x,rfl,by rw[af,map_set],pf,λ w m=>?_,by rw[C7];omega,λ g=>absurd g (by omega),FF⟩;rcases mem_or_eq_of_mem_set m with q|q
    ·exact kN w q
    ·rw[q];exact hx
   ·rfl';refine aN (λ e=>?_) (λ e=>?_)
    ·skip
     obtain⟨Dr,Rl,alt⟩:=kk (by omega);obtain⟨n,rfl⟩:=Int.eq_ofNat_of_zero_le a0;have hn:n < ws.length:=by omega
     rfl';refine⟨f,cc,p,b,ws,zs,rfl,F.bc,hp,Qt,Dr,nj,by omega,zl,λ x M5 hx Fx=>?_⟩;have B_:=Fx.mv _ _ pf.1 hp;rfl';refine sU B_ (yr (by rw[C2];exact hn)) ?_;have FF:Fl f cc M (ai M5 p (.lst ((ws.map D.str).set n (.str x)))):=(F.trans Fx).own hF pf.2;refine hN _ _ ⟨p,ws.set n x,rfl,by rw[af,map_set],pf,λ w m=>?_,by rw[C7];omega,λ g=>absurd g (by omega),FF⟩;rcases mem_or_eq_of_mem_set m with q|q
     ·exact kN w q
     ·rw[q];exact hx
    ·rfl';exact hN _ _ (wZ.next (wZ.next ⟨p,ws,rfl,hp,pf,kN,CQ,kk,F⟩))
  with_reducible refine gP (λ δ' M'=>wZ f cc b z at' fm M 6 δ' M') (λ N hN=>?_) (λ δ' M' I=>?_)
  ·obtain⟨p,ws,rfl,hp,pf,kN,CQ,kk,F⟩:=I;rfl';refine aN (λ e=>?_) (λ e=>?_)
   ·skip
    obtain⟨Dr,Rl,alt⟩:=kk (by omega);obtain⟨n,rfl⟩:=Int.eq_ofNat_of_zero_le a0;have hn:n < ws.length:=by omega
    rfl';refine cJ hp (cH (by rw[x6,i8 hn];rfl)) ?_;have vw:=Dr ws[n] (A9 hn);have vl:=vw.len;rfl';refine eQ (small (by omega)) ?_;have hx:=Ld vw;generalize cS ws[n] none (some (-1))=x at*;rfl';refine sU hp (yr (by rw[C2];exact hn)) ?_;have FF:Fl f cc M (ai M' p (.lst ((ws.map D.str).set n (.str x)))):=F.own hF pf.2;refine hN _ _ ⟨p,ws.set n x,rfl,by rw[af,map_set],pf,λ w m=>?_,by rw[C7];omega,λ g=>absurd g (by omega),FF⟩;rcases mem_or_eq_of_mem_set m with q|q
    ·exact kN w q
    ·rw[q];exact hx
   ·rfl';exact hN _ _ (wZ.next ⟨p,ws,rfl,hp,pf,kN,CQ,kk,F⟩)
  with_reducible refine gP (λ δ' M'=>wZ f cc b z at' fm M 7 δ' M') (λ N hN=>?_) (λ δ' M' I=>?_)
  ·obtain⟨p,ws,rfl,hp,pf,kN,CQ,kk,F⟩:=I;have Qt:=F.mv _ _ bf hb;rfl';refine aN (λ e=>?_) (λ e=>?_)
   ·skip
    obtain⟨Dr,Rl,alt⟩:=kk (by omega);obtain⟨n,rfl⟩:=Int.eq_ofNat_of_zero_le a0;have hn:n < ws.length:=by omega
    rfl';refine⟨f,cc,p,b,ws,zs,rfl,F.bc,hp,Qt,Dr,nj,by omega,zl,λ x M5 hx Fx=>?_⟩;have B_:=Fx.mv _ _ pf.1 hp;have F5:=F.trans Fx;rfl';intro q2 pw;have g2:ai M5 q2 (.lst [.str x]) q2=some (.lst ([x].map D.str)):=af;have Gp:ai M5 q2 (.lst [.str x]) p=some (.lst (ws.map D.str)):=by rw[aq (bq B_ pw)];exact B_
    have F6:=F5.trans (Fl.put (o:=.lst [.str x]) F5.bc pw);generalize ai M5 q2 (.lst [.str x])=M6 at*;refine cV Gp g2 (small (by simp only[C2];show _+1<=_;omega)) λ q3 BX=>?_;rw[<- C4];refine hN _ _ ⟨q3,_,rfl,af,⟨(F6.bc.ne BX).1,nu F6 BX⟩,λ w m=>?_,?_,λ g=>absurd g (by omega),F6.trans (Fl.put F6.bc BX)⟩
    ·rcases C3.mp m with q|q
     ·exact kN w q
     ·rw[u4.mp q];exact hx
    ·rw[q8];show _+1<=13;omega
   ·rfl';exact hN _ _ (wZ.next ⟨p,ws,rfl,hp,pf,kN,CQ,kk,F⟩)
  obtain⟨p,ws,rfl,hp,pf,kN,CQ,kk,F⟩:=I;rfl';refine⟨rfl,?_⟩;rfl';refine ve hp (λ w m=>by have:=(kN w m).1;omega) (by omega) (au (k _ _ (oZ (n:=72) kN (by omega)) F))
theorem bi.fl{c:ww}(h:bi M M')(F:Flow M f c):Fl f c M M':=by obtain⟨ns,p,b,sd,ct,h1,h2,h3⟩:=F.ex;exact⟨⟨ns,p,b,sd,ct,h _ _ h1,h _ _ h2,h3⟩,λ b o _ e=>h b o e⟩
theorem BI(h:Nm z):isName z=true:=by
 have wd:∀{w:Str},Wd w->isWord w=true:=λ{w} hw=>by
  unfold isWord;have h1:du.contains w=false:=by simpa using hw.free
  have h2:(w.cps.toList.map isLt).all id=true:=by rw[B0];intro b hb;obtain⟨c,hc,rfl⟩:=G8.mp hb;have:=hw.low c hc;unfold isLt;rw[cW];simp only[id_eq,x8,G0,not_mem_nil,or_false];omega
  rw[h1,h2,D1 hw.pos,D1 hw.len];rfl
 rcases h with h|⟨w,c,h,h1,h2,rfl⟩
 ·unfold isName;rw[wd h];rfl
 ·have hl:(w++⟨#[c]⟩:Str).cps.toList=w.cps.toList++[c]:=Az _ _;have e1:cS (w++⟨#[c]⟩) none (some (-1))=w:=by rw[ko,hl,dropLast_concat]
  have e2:cS (w++⟨#[c]⟩) (some (-1)) none=⟨#[c]⟩:=by
   have e:(w++⟨#[c]⟩:Str).length - 1=w.cps.toList.length:=by rw[len_app];show w.length+1 - 1=_;simp[Str.length]
   rw[pW,hl,e,drop_left]
  unfold isName;rw[e1,e2,wd h,Ap];have:c∈(Str.ofString "123456789").cps.toList:=by
   have e:(Str.ofString "123456789").cps.toList=[49,50,51,52,53,54,55,56,57]:=by decide+kernel
   rw[e];simp only[G0,not_mem_nil,or_false];omega
  rw[D1 this];simp
theorem HE.YM{g:List dG}(G:HE g)(hl:cs.length=g.length)(hp:∀x∈cs,0<=x/\x<=10^30):Ia (aM g) cs:=by
 have ol:(aM g).length=g.length:=by unfold aM;rw[C2]
 refine⟨λ z hz=>?_,G.nd,by omega,by have:=G.mI;omega,hp⟩;obtain⟨h,hh,rfl⟩:=G8.mp hz;exact⟨BI (G.nm h hh),(G.nm h hh).len.2⟩
theorem DJ(M:Mem){r:Rd}(h:∀cs,r=.sum cs->cs.length<=1000):qc M 5 (GW r) (GW r):=by
 have two:∀a b,qc M 4 a a->qc M 4 b b->qc M 5 (.tup [a,b]) (.tup [a,b]):=λ a b ha hb=>by
  refine DI (by show 2<=10000;decide) λ d hd=>?_;rcases G0.mp hd with z|z
  ·rw[z];exact ha
  ·rw[u4.mp z];exact hb
 cases r with
 |sum cs=>exact two _ _ (.inl ⟨rfl,True.intro⟩) (jP M 2 (H9 (h cs rfl) (by decide)))
 |text=>exact two _ _ (.inl ⟨rfl,True.intro⟩) (.inl ⟨rfl,True.intro⟩)
 |twice n=>exact two _ _ (.inl ⟨rfl,True.intro⟩) (.inl ⟨rfl,True.intro⟩)
 |RN n=>exact two _ _ (.inl ⟨rfl,True.intro⟩) (.inl ⟨rfl,True.intro⟩)
theorem DV{own:List Str}(h:hG own ws=.sum cs):cs.length=own.length:=by
 unfold hG at h;split at h
 ·cases h
 ·split at h
  ·cases h
  ·split at h
   ·cases h
   ·cases h;exact LN _ _
def zp:gC:=λ ds M Q=>∃(f c:ww) (g g2:List dG) (cs:Row),ds=[.ref f,dj g,dj g2,row cs]/\Flow M f c/\HE g/\HE g2/\Ia (aM g) cs/\∀M',Fl f c M M'->Q (.bl true) M'
theorem cP:aH ["_law_flow_here","_law_game","_law_other","_law_counts_here","_law_names_here","_law_text","_law_k","_law_spoilt"] ["_law_flow_here","_law_game","_law_other","_law_counts_here"] (ao (top 58)):=⟨rfl,rfl,rfl,by decide+kernel,rfl,by decide+kernel,by decide+kernel⟩
theorem Fe(F:dH K "_law_right" "_law_right" (top 58) f fd)(T:fL K mg)(pP:bK P w K mg base 1 "_law_sum_text" ["_law_names_here","_law_counts_here"] Mn)(jv:bK P w K mg base 2 "show_sum" ["game","counts"] xG)(bN:bK P w K mg base 6 "_law_alike" ["_law_found","_law_due_here"] (zu 5))(pS:bK P w K mg base 2 "_law_shuffled" ["_law_flow_here","_law_things"] zo)(dY:jD P w K mg base 5 "read_sum" ["game","text"] n_)(qw:bK P w K mg base 3 "_law_changed" ["_law_flow_here","_law_text","_law_names_here"] Mq)(mi:bK P w K mg base 6 "_law_heard" ["_law_game","_law_text"] mS)(rN:bK P w K mg base 5 "_law_due" ["_law_game","_law_text"] mS):bo P w K mg base dJ 7 f fd ["_law_flow_here","_law_game","_law_other","_law_counts_here"] (bZ K zp):=by
 refine iy F cP (λ ds M Q h=>?_) (λ bR A outer s H E ds M Q hr h=>?_)
 ·obtain⟨f,c,g,g2,cs,rfl,_⟩:=h;rfl
 ·obtain⟨f,cc,g,g2,cs,rfl,hF,G,G2,C,k⟩:=h;refine⟨_,(ag (cI (i:=4) cP.nd rfl (Or.inl rfl) (tgs:=["_law_name_here","_law_options"]) (fr:=[]) ⟨bM (by kernel_rfl),rfl,(λ _ _ h=>h),(bY (ar 1)),(gm (λ _ _ _ _ _=>(jr rfl (cg (aY (i:=0) (show(["_law_name_here","_law_options"]:List Str).Nodup by decide+kernel) rfl (Or.inl rfl)) (cg (aY (i:=1) (show(["_law_name_here","_law_options"]:List Str).Nodup by decide+kernel) rfl (Or.inl rfl)) gQ)))) (by decide) (by decide)),(λ _ _ _ _ _=>bE),(λ _ _ _ _ _=>(ar 0))⟩)
 (ag (aU (i:=5) cP.nd rfl (Or.inl rfl) (aK pP (hr.mono (by decide)) (by rfl) (aa (ar 4) (aa (ar 3) ae))))
 (ag (bh (fV (dM (aK bN (hr.mono (by decide)) (by rfl) (aa (aK jv (hr.mono (by decide)) (by rfl) (aa (ar 1) (aa (ar 3) ae))) (aa (ar 5) ae)))))
 (aj (aD mx))
 aJ)
 (ag (aU (i:=5) cP.nd rfl (Or.inl rfl) (ig PySem.F.plainAttrs_str PySem.F.slot_str_join PySem.F.type_str_join oV aX (aa (aK pS (hr.mono (by decide)) (by rfl) (aa (ar 0) (aa (ig PySem.F.plainAttrs_str PySem.F.slot_str_split PySem.F.type_str_split m_split (ar 5) (aa aX ae)) ae))) ae)))
 (ag (bh (fV (dM (aK bN (hr.mono (by decide)) (by rfl) (aa (sy dY (hr.mono (by decide)) (by rfl) (aa (ar 1) (aa (ar 5) ae))) (aa (ar 3) ae)))))
 (aj (aD mx))
 aJ)
 (ag (eY B8 rfl (bV rfl T.range (aa ak ae)) (cN (i:=6) cP.nd rfl (Or.inl rfl))
 (ag (aU (i:=7) cP.nd rfl (Or.inl rfl) (aK qw (hr.mono (by decide)) (by rfl) (aa (ar 0) (aa (ar 5) (aa (bg a_ (ar 4) (nO (tgs:=["_law_name_here","_law_options"]) (fr:=[]) ⟨bM (by kernel_rfl),rfl,(λ _ _ h=>h),(bY (ar 2)),(gm (λ _ _ _ _ _=>(jr rfl (cg (aY (i:=0) (show(["_law_name_here","_law_options"]:List Str).Nodup by decide+kernel) rfl (Or.inl rfl)) (cg (aY (i:=1) (show(["_law_name_here","_law_options"]:List Str).Nodup by decide+kernel) rfl (Or.inl rfl)) gQ)))) (by decide) (by decide)),(λ _ _ _ _ _=>bE),(λ _ _ _ _ _=>(ar 0))⟩)) ae)))))
 (ag (bh (fV (dM (aK bN (hr.mono (by decide)) (by rfl) (aa (aK mi (hr.mono (by decide)) (by rfl) (aa (ar 1) (aa (ar 7) ae))) (aa (aK rN (hr.mono (by decide)) (by rfl) (aa (ar 1) (aa (ar 7) ae))) ae)))))
 (aj (aD mx))
 aJ)
 (aj (bh (fV (dM (aK bN (hr.mono (by decide)) (by rfl) (aa (aK mi (hr.mono (by decide)) (by rfl) (aa (ar 2) (aa (ar 7) ae))) (aa (aK rN (hr.mono (by decide)) (by rfl) (aa (ar 2) (aa (ar 7) ae))) ae)))))
 (aj (aD mx))
 aJ)))))
 (aj (aD (aK bN (hr.mono (by decide)) (by rfl) (aa (sy dY (hr.mono (by decide)) (by rfl) (aa (ar 1) (aa (ar 5) ae))) (aa (ar 3) ae))))))))))),?_⟩
  have gf:=G.mI;have gf2:=G2.mI;have csl:=C.len;have Zl:=C.mI;obtain⟨xw,w12,Y_⟩:=C.mr;unfold dj;rfl';refine kr (xs:=g) (enc:=dF) (λ h=>.str h.1) (by omega) (λ i h N hi hN=>?_) ?_
  ·unfold dF;rfl';exact hN
  intro p hp;have e1:(g.map λ h=>D.str h.1)=(aM g).map D.str:=by unfold aM;rw[G9];rfl
  rw[e1];have F1:=pG (bi.new (bi.rfl (M:=M)) hp (.lst ((aM g).map D.str))) hF;have h1:ai M p (.lst ((aM g).map D.str)) p=some (.lst ((aM g).map D.str)):=af;have pf:=(hF.ne hp).1;generalize ai M p (.lst ((aM g).map D.str))=M1 at*;rfl';refine⟨p,aM g,cs,rfl,h1,C,?_⟩;rfl';refine⟨g,cs,rfl,C,?_⟩;rfl';refine⟨_,_,rfl,.inl ⟨rfl,True.intro⟩,?_⟩;rfl';rw[dN.1];refine⟨rfl,?_⟩;rfl';have T1:Hv (Txt.join (one 32) (mr (dq (aM g) cs))):=oZ (n:=40) (λ w m=>⟨(xw w m).len,(xw w m).ok⟩) (by omega);have Zi:Txt.split (Txt.join (one 32) (mr (dq (aM g) cs))) (one 32)=mr (dq (aM g) cs):=jl (by decide) Y_ λ x hx=>(xw x hx).no;have t1l:=T1.len;refine⟨rfl,_,one 32,rfl,rfl,by decide,by omega,by rw[Zi];exact small (by omega),λ p2 fB=>?_⟩;rw[Zi];have F2:=F1.trans (Fl.put (o:=.lst ((mr (dq (aM g) cs)).map D.str)) F1.bc fB);have h2:ai M1 p2 (.lst ((mr (dq (aM g) cs)).map D.str)) p2=some (.lst ((mr (dq (aM g) cs)).map D.str)):=af;have h1:ai M1 p2 (.lst ((mr (dq (aM g) cs)).map D.str)) p=some (.lst ((aM g).map D.str)):=by rw[aq (bq h1 fB)];exact h1
  generalize ai M1 p2 (.lst ((mr (dq (aM g) cs)).map D.str))=M2 at*;rfl';refine⟨f,cc,p2,_,rfl,F2.bc,h2,by omega,λ w m=>(xw w m).ok,λ p3 us M3 pm _ h3 F3=>?_⟩;have F4:=F2.trans F3;have h1:=F3.mv _ _ pf h1;have rd:=uZ C pm;have ul:=pm.length_eq;have Rf:∀w∈us,Q7 w:=λ w m=>xw w (pm.mem_iff.mp m);have une:us≠[]:=λ z=>by rw[z]at ul;exact Y_ (j3.mp ul.symm)
  have U:Hv (Txt.join (one 32) us):=oZ (n:=40) (λ w m=>⟨(Rf w m).len,(Rf w m).ok⟩) (by omega);have WV:ie (Txt.join (one 32) us)=us:=jl (by decide) une λ x hx=>(Rf x hx).no;rfl';refine ve h3 (λ w m=>by have:=(Rf w m).len;omega) (by omega) ?_;generalize Txt.join (one 32) us=tx at*;have gd:D.tup (g.map dF)=dj g:=rfl;have Yw:D.tup (g2.map dF)=dj g2:=rfl;have Zj:∀(M:Mem) (Q:bH),(∀M',bi M M'->Q (row cs) M')->n_ [dj g,.str tx] M Q X0:=λ M Q h=>⟨g,tx,rfl,G,U,λ M' hE=>by rw[WV,rd];exact h M' hE⟩;rfl';rw[gd,Yw];refine Zj _ _ λ M5 E5=>?_;have F5:=F4.trans (E5.fl F4.bc);have h1:=E5 _ _ h1;rfl';refine⟨_,_,rfl,jP _ 3 (by omega),?_⟩;rfl';refine⟨dX (by decide) (by decide),?_⟩;refine lC (λ i δ M'=>∃v6 v7:Option D,δ=[some (.ref f),some (dj g),some (dj g2),some (row cs),some (.ref p),some (.str tx),v6,v7]/\M' p=some (.lst ((aM g).map D.str))/\Fl f cc M M') ⟨_,_,rfl,h1,F5⟩ (λ i d δ M' hd h=>?_) (λ δ M' h=>?_)
  ·obtain⟨v6,v7,rfl,h1,F⟩:=h;rfl';rw[<- Yw];rfl';refine kr (xs:=g2) (enc:=dF) (λ h=>.str h.1) (by omega) (λ i h N hi hN=>?_) ?_
   ·unfold dF;rfl';exact hN
   intro p6 Gp;rw[show(g2.map λ h=>D.str h.1)=(aM g2).map D.str by unfold aM;rw[G9];rfl,Yw];have F6:=F.trans (Fl.put (o:=.lst ((aM g2).map D.str)) F.bc Gp);have h6:ai M' p6 (.lst ((aM g2).map D.str)) p6=some (.lst ((aM g2).map D.str)):=af;have h1:ai M' p6 (.lst ((aM g2).map D.str)) p=some (.lst ((aM g).map D.str)):=by rw[aq (bq h1 Gp)];exact h1
   generalize ai M' p6 (.lst ((aM g2).map D.str))=M6 at*;have ol:(aM g2).length<=12:=by unfold aM;rw[C2];exact gf2
   refine cV h1 h6 (small (by rw[C2,C2];omega)) λ p7 MK=>?_;rw[<- C4];have F7:=F6.trans (Fl.put (o:=.lst ((aM g++aM g2).map D.str)) F6.bc MK);have h7:ai M6 p7 (.lst ((aM g++aM g2).map D.str)) p7=some (.lst ((aM g++aM g2).map D.str)):=af;have h1:ai M6 p7 (.lst ((aM g++aM g2).map D.str)) p=some (.lst ((aM g).map D.str)):=by rw[aq (bq h1 MK)];exact h1
   have p7f:=(F6.bc.ne MK).1;generalize ai M6 p7 (.lst ((aM g++aM g2).map D.str))=M7 at*;have nv:∀{g:List dG},HE g->∀w∈aM g,HY w:=λ{g} G w m=>by obtain⟨h,hh,rfl⟩:=G8.mp m;have:=(G.nm h hh).len;exact⟨by omega,(G.nm h hh).ok⟩
   rfl';refine⟨f,cc,p7,tx,_,rfl,F7.bc,U,by rw[WV];exact λ w m=>⟨(Rf w m).len,(Rf w m).ok⟩,by rw[WV];omega,h7,λ w m=>?_,by rw[q8];omega,p7f,λ z Mz hz Fz=>?_⟩
   ·rcases C3.mp m with q|q
    ·exact nv G w q
    ·exact nv G2 w q
   have F8:=F7.trans Fz;have h1:=Fz.mv _ _ pf h1;have sd:∀(M:Mem) {g:List dG},HE g->qc M 5 (GW (hG (aM g) (ie z))) (GW (hG (aM g) (ie z))):=λ M {g} G=>DJ M λ cs e=>by have:=DV e;have:=G.mI;unfold aM at*;rw[C2]at*;omega
   rfl';refine⟨g,z,rfl,G,hz,λ M8 E8=>?_⟩;have F8:=F8.trans (E8.fl F8.bc);have h1:=E8 _ _ h1;rfl';refine⟨g,z,rfl,G,hz,λ M9 E9=>?_⟩;have F8:=F8.trans (E9.fl F8.bc);have h1:=E9 _ _ h1;rfl';refine⟨_,_,rfl,sd _ G,?_⟩;rfl';refine⟨g2,z,rfl,G2,hz,λ M8 E8=>?_⟩;have F8:=F8.trans (E8.fl F8.bc);have h1:=E8 _ _ h1;rfl';refine⟨g2,z,rfl,G2,hz,λ M9 E9=>?_⟩;have F8:=F8.trans (E9.fl F8.bc);have h1:=E9 _ _ h1;rfl';refine⟨_,_,rfl,sd _ G2,?_⟩;rfl';exact⟨_,_,rfl,h1,F8⟩
  ·obtain⟨v6,v7,rfl,h1,F⟩:=h;rfl';refine Zj _ _ λ M6 E6=>?_;rfl';refine⟨_,_,rfl,jP _ 3 (by omega),?_⟩;exact au (k _ (F.trans (E6.fl F.bc)))
theorem UX{g:List dG}(G:HE g):Ia (aM g) (List.replicate g.length 0):=G.YM l0 λ x hx=>by rw[(mem_replicate.mp hx).2];exact⟨by decide,by decide⟩
theorem Mg(own:List Str)(n:Nat):dq own (List.replicate n 0)=[]:=by unfold dq;rw[filter_eq_nil_iff];intro t ht;rw[(mem_replicate.mp (C8 ht).2).2];decide
theorem Ar:Hv (Str.ofString ".")/\ie (Str.ofString ".")=[mk [46]]:=⟨⟨by decide+kernel,by decide+kernel⟩,by
 rw[<- o_];exact jl (by decide) (by simp) λ x hx=>by rw[u4.mp hx];decide⟩
theorem Mt(n:Nat):D.tup (List.replicate n (D.int 0))=row (List.replicate n 0):=by unfold row;rw[map_replicate]
theorem sN:aH ["_law_script","_law_flow_here","_law_game","_law_other"] ["_law_script"] (ao (top 59)):=⟨rfl,rfl,rfl,by decide+kernel,rfl,by decide+kernel,by decide+kernel⟩
theorem Po(F:dH K "law" "law" (top 59) f fd)(T:fL K mg)(yH:bK P w K mg base 1 "_law_flow" ["_law_script"] DF)(aE:bK P w K mg base 1 "_law_pick" ["_law_flow_here","_law_many"] fZ)(iI:bK P w K mg base 3 "_law_names" ["_law_flow_here","_law_many"] og)(pV:bK P w K mg base 6 "_law_any_game" ["_law_flow_here","_law_most"] zt)(mK:bK P w K mg base 2 "_law_great_sum" ["_law_flow_here","_law_many"] zq)(pR:bK P w K mg base 2 "_law_some_sum" ["_law_flow_here","_law_many","_law_most"] DD)(mh:bK P w K mg base 7 "_law_right" ["_law_flow_here","_law_game","_law_other","_law_counts_here"] zp)(bN:bK P w K mg base 6 "_law_alike" ["_law_found","_law_due_here"] (zu 5))(jv:bK P w K mg base 2 "show_sum" ["game","counts"] xG)(dY:jD P w K mg base 5 "read_sum" ["game","text"] n_):bo P w K mg base dJ 8 f fd ["_law_script"] (bZ K uS):=by
 refine iy F sN (λ ds M Q h=>?_) (λ bR A outer s H E ds M Q hr h=>?_)
 ·obtain⟨a,rfl,_⟩:=h;rfl
 ·obtain⟨ns,rfl,k⟩:=h;refine⟨_,(ag (aU (i:=1) sN.nd rfl (Or.inl rfl) (aK yH (hr.mono (by decide)) (by rfl) (aa (ar 0) ae)))
 (ag (aU (i:=2) sN.nd rfl (Or.inl rfl) (nM fR gs (by rfl) T.tuple (by decide+kernel) (tgs:=["_law_name_here"]) (fr:=[]) ⟨bM (by kernel_rfl),rfl,(λ _ _ h=>h),(bY (aK iI (hr.mono (by decide)) (by rfl) (aa (ar 1) (aa (aK aE (hr.mono (by decide)) (by rfl) (aa (ar 1) (aa ak ae))) ae)))),(bC (λ _ _ _ _ _=>(aY (i:=0) (show(["_law_name_here"]:List Str).Nodup by decide+kernel) rfl (Or.inl rfl))) (by decide)),(λ _ _ _ _ _=>bE),(λ _ _ _ _ _=>(eB (aa (ar 0) (aa (eB ae) ae))))⟩))
 (ag (aU (i:=3) sN.nd rfl (Or.inl rfl) (aK pV (hr.mono (by decide)) (by rfl) (aa (ar 1) (aa ak ae))))
 (ag (bh (fV (dM (aK mh (hr.mono (by decide)) (by rfl) (aa (ar 1) (aa (ar 2) (aa (ar 3) (aa (aK mK (hr.mono (by decide)) (by rfl) (aa (ar 1) (aa (aS cT (by rfl) T.len (by decide+kernel) (aa (ar 2) ae)) ae))) ae)))))))
 (aj (aD mx))
 aJ)
 (ag (bh (fV (dM (aK mh (hr.mono (by decide)) (by rfl) (aa (ar 1) (aa (ar 2) (aa (ar 3) (aa (aK pR (hr.mono (by decide)) (by rfl) (aa (ar 1) (aa (aS cT (by rfl) T.len (by decide+kernel) (aa (ar 2) ae)) (aa ak ae)))) ae)))))))
 (aj (aD mx))
 aJ)
 (aj (aD (w_and (aK bN (hr.mono (by decide)) (by rfl) (aa (aK jv (hr.mono (by decide)) (by rfl) (aa (ar 2) (aa (bg dR (eB (aa ak ae)) (aS cT (by rfl) T.len (by decide+kernel) (aa (ar 2) ae))) ae))) (aa aX ae))) (lQ (aK bN (hr.mono (by decide)) (by rfl) (aa (sy dY (hr.mono (by decide)) (by rfl) (aa (ar 2) (aa aX ae))) (aa (bg dR (eB (aa ak ae)) (aS cT (by rfl) T.len (by decide+kernel) (aa (ar 2) ae))) ae)))))))))))),?_⟩
  rfl';refine⟨ns,rfl,λ a cc M0 hF0=>?_⟩;rfl';refine⟨a,cc,11,rfl,hF0,by decide,by decide,λ d o h0 h1 CT=>?_⟩;generalize ai M0 a o=M1 at*;obtain⟨n,rfl⟩:=Int.eq_ofNat_of_zero_le h0;rfl';refine⟨a,cc,n,rfl,CT,by omega,λ p zs M2 hz _ Ut F2 Qj Gs=>?_⟩;have HV:=F2.bc;rfl';refine eW D.str (λ z=>dF (z,[])) (by omega) Ut (λ i z N hi hN=>?_) ?_
  ·rfl';exact hN
  rfl';obtain⟨g,hg⟩:∃g:List dG,g=zs.map λ z=>(z,[]):=⟨_,rfl⟩;have gl:g.length=n:=by rw[hg,C2,hz]
  have go:aM g=zs:=by rw[hg];unfold aM;rw[G9];exact(o8 λ z _=>rfl).trans (List.map_id _)
  have G:HE g:=⟨λ h hh=>by rw[hg]at hh;obtain⟨z,Rn,rfl⟩:=G8.mp hh;exact Qj z Rn,by rw[go];exact Gs,by omega⟩;have gd:D.tup (zs.map λ z=>dF (z,[]))=dj g:=by rw[hg];unfold dj;rw[G9];rfl
  rw[gd];have gdt:dj g=.tup (g.map dF):=rfl;rfl';refine⟨a,cc,5,rfl,HV,by decide,λ n2 g2 M3 ZD G2' Z7 _ F3=>?_⟩;have G2:HE g2:=⟨Z7.nm,Z7.nd,by have:=G2'.len;omega⟩;have HU:=F3.bc;rfl';rw[gdt];rfl';rw[C2,gl];refine⟨a,cc,n,rfl,HU,by omega,λ ms M4 hml T7 F4=>?_⟩;rfl';refine⟨a,cc,g,g2,ms,rfl,F4.bc,G,G2,G.YM (by omega) T7,λ M5 F5=>?_⟩;rfl';rw[C2,gl];refine⟨a,cc,n,6,rfl,F5.bc,by omega,by decide,by decide,λ ks M6 hkl hks F6=>?_⟩;rfl';refine⟨a,cc,g,g2,_,rfl,F6.bc,G,G2,G.YM (by rw[wG];omega) (λ x hx=>⟨wF x hx,?_⟩),λ M7 F7=>?_⟩
  ·obtain⟨h,_,rfl⟩:=G8.mp hx;have:=count_le_length (a:=(h:Int)) (l:=ks);omega
  rfl';rw[C2,gl];refine vc (by omega) (by omega) ?_;rw[x9,Mt,<- gl];have C0:=UX G;refine⟨g,_,rfl,C0,?_⟩;rfl';rw[Mg];refine⟨_,_,rfl,?_,?_⟩
  ·rw[show mr []=[mk [46]]from rfl,o_];exact .inl ⟨rfl,True.intro⟩
  rfl';refine⟨g,_,rfl,G,Ar.1,λ M8 E8=>?_⟩;have rd:hG (aM g) (ie (Str.ofString "."))=.sum (List.replicate g.length 0):=uZ C0 (by rw[Mg,Ar.2];exact .refl _);rw[rd];unfold Z2;dsimp only;rfl';rw[C2];refine vc (by omega) (by omega) ?_;rw[x9,Mt];rfl';exact⟨_,_,rfl,jP _ 3 (by rw[l0];omega),au (k _)⟩
theorem Ga(K:N5):hZ K "bool":=⟨by kernel_rfl,by kernel_rfl,by kernel_rfl,by kernel_rfl,by kernel_rfl,by kernel_rfl⟩
theorem K'(K:N5):hZ K "int":=⟨by kernel_rfl,by kernel_rfl,by kernel_rfl,by kernel_rfl,by kernel_rfl,by kernel_rfl⟩
theorem F_(K:N5):hZ K "list":=⟨by kernel_rfl,by kernel_rfl,by kernel_rfl,by kernel_rfl,by kernel_rfl,by kernel_rfl⟩
theorem K_(K:N5):hZ K "str":=⟨by kernel_rfl,by kernel_rfl,by kernel_rfl,by kernel_rfl,by kernel_rfl,by kernel_rfl⟩
theorem BU(K:N5):hZ K "tuple":=⟨by kernel_rfl,by kernel_rfl,by kernel_rfl,by kernel_rfl,by kernel_rfl,by kernel_rfl⟩
theorem PH(hO:Mb H)(hS:dr K H a (ns.map V.int)):bZ K uS [.ref a] H (λ v _=>v=.bl true) λ _ _ _=>False:=by
 have Ll:H_ K H a (ns.map V.int):=by
  rcases hS with(h|⟨o,h⟩)|h
  ·rcases hO a with z|⟨o,xs,z⟩
   ·rw[z]at h;cases h
   ·rw[z]at h;cases h
  ·exact .inl ⟨o,h⟩
  ·exact .inr h
 refine⟨[.fl (ns.map D.int)],λ _=>none,λ d _=>d=.bl true,aG.one (ju.mpr ⟨a,_,rfl,Ll,lE ns⟩),λ a o e=>(by cases e),⟨ns,rfl,λ _=>rfl⟩,λ v H' d M' hd hm t e=>?_⟩;subst e;exact aR.mp hd
theorem KL{A:Type}{P:List A->Prop}(h:∀a t,t.length=n->P (a::t)):∀us:List A,us.length=n+1->P us
 |[],e=>nomatch e
 |a::t,e=>h a t (Nat.succ.inj e)
theorem iC{A:Type}{P:List A->Prop}(h:∀a,P [a]):∀us:List A,us.length=1->P us:=KL λ a t e=>by rw[eq_nil_of_length_eq_zero e];exact h a
theorem iB{A:Type}{P:List A->Prop}(h:∀a b,P [a,b]):∀us:List A,us.length=2->P us:=KL λ a=>iC (P:=λ t=>P (a::t)) (h a)
theorem FJ{A:Type}{P:List A->Prop}(h:∀a b c,P [a,b,c]):∀us:List A,us.length=3->P us:=KL λ a=>iB (P:=λ t=>P (a::t)) (h a)
theorem XE{A:Type}{P:List A->Prop}(h:∀a b c d,P [a,b,c,d]):∀us:List A,us.length=4->P us:=KL λ a=>FJ (P:=λ t=>P (a::t)) (h a)
structure cC(K:N5)(mg:Str->Option jp)(x:Str)(i:Nat)(f:ww)(d:FuncData):Prop where
 m:mg x=some (.ref f)
 F:dH K x x (top i) f d
theorem all_mk{l:PySem.W.OpenLaw}{w:World}{K:N5}{mg:Str->Option jp}{f0 f1 f2 f3 f4 f5 f6 f7 f8 f9 f10 f11 f12 f13 f14 f15 f16 f17 f18 f19 f20 f21 f22 f23 f24 f25 f26 f27 f28 f29 f30 f31 f32 f33 f34 f35 f36 ZU:ww}{d0 d1 d2 d3 d4 d5 d6 d7 d8 d9 d10 d11 d12 d13 d14 d15 d16 d17 d18 d19 d20 d21 d22 d23 d24 d25 d26 d27 d28 d29 d30 d31 d32 d33 d34 d35 d36:FuncData}{kV dc pm cd ct:jp}{an:Option ww}
  (T:fL K mg)
  (t0:cC K mg "places_of" 13 f0 d0)
  (t1:cC K mg "is_word" 19 f1 d1)
  (t2:cC K mg "is_figure" 20 f2 d2)
  (t3:cC K mg "is_name" 21 f3 d3)
  (t4:cC K mg "is_many" 25 f4 d4)
  (t5:cC K mg "term_of" 26 f5 d5)
  (t6:cC K mg "terms_of" 27 f6 d6)
  (t7:cC K mg "refuse_again" 28 f7 d7)
  (t8:cC K mg "refuse_unknown" 29 f8 d8)
  (t9:cC K mg "names_of" 30 f9 d9)
  (VO:cC K mg "sum_of" 31 f10 d10)
  (VN:cC K mg "read_sum" 32 f11 d11)
  (VM:cC K mg "term_text" 33 f12 d12)
  (VL:cC K mg "show_sum" 34 f13 d13)
  (VJ:cC K mg "_law_flow" 36 f14 d14)
  (VI:cC K mg "_law_pick" 37 f15 d15)
  (VH:cC K mg "_law_shuffled" 38 f16 d16)
  (R0:cC K mg "_law_alike" 39 f17 d17)
  (VG:cC K mg "_law_name" 40 f18 d18)
  (VF:cC K mg "_law_names" 41 f19 d19)
  (VE:cC K mg "_law_key" 42 f20 d20)
  (VD:cC K mg "_law_counts" 43 f21 d21)
  (VC:cC K mg "_law_in_order" 44 f22 d22)
  (VB:cC K mg "_law_some_sum" 45 f23 d23)
  (VA:cC K mg "_law_great_sum" 46 f24 d24)
  (Vz:cC K mg "_law_is_word" 47 f25 d25)
  (Vy:cC K mg "_law_is_name" 48 f26 d26)
  (Vx:cC K mg "_law_any_sums" 49 f27 d27)
  (Vw:cC K mg "_law_any_game" 50 f28 d28)
  (Vv:cC K mg "_law_sum_text" 51 f29 d29)
  (Mk:cC K mg "_law_part_read" 52 f30 d30)
  (Vu:cC K mg "_law_sum_read" 53 f31 d31)
  (Vt:cC K mg "_law_word" 54 f32 d32)
  (Vs:cC K mg "_law_changed" 55 f33 d33)
  (Vr:cC K mg "_law_due" 56 f34 d34)
  (Vq:cC K mg "_law_heard" 57 f35 d35)
  (Vp:cC K mg "_law_right" 58 f36 d36)
  (t37:cC K mg "law" 59 ZU (PySem.W.fnOf "law" "law" (eT (top 59)) (cA (top 59)) (ao (top 59)) .none kV dc pm an cd ct)):
  ∃fd:FuncData,(∀(s:kt) (v:jp),BindsTo s fd ⟨[v],[]⟩ [("_law_script",v)])/\∀base:Heap,K.In base->base.Ns mainGlobals mg->bo l.prog w K mg base dJ 8 ZU fd ["_law_script"] (bZ K uS):=by
 refine⟨PySem.W.fnOf "law" "law" (eT (top 59)) (cA (top 59)) (ao (top 59)) .none kV dc pm an cd ct,λ s v=>.of_eq rfl,λ base _ hMk=>?_⟩;have b0:=t0.F.binds (ps:=["names"]) λ _ _ _ _ _ _=>iC λ _=>rfl;have b1:=t1.F.binds (ps:=["text"]) λ _ _ _ _ _ _=>iC λ _=>rfl;have b2:=t2.F.binds (ps:=["text"]) λ _ _ _ _ _ _=>iC λ _=>rfl;have b3:=t3.F.binds (ps:=["text"]) λ _ _ _ _ _ _=>iC λ _=>rfl;have b4:=t4.F.binds (ps:=["text"]) λ _ _ _ _ _ _=>iC λ _=>rfl;have b5:=t5.F.binds (ps:=["word"]) λ _ _ _ _ _ _=>iC λ _=>rfl;have b6:=t6.F.binds (ps:=["words"]) λ _ _ _ _ _ _=>iC λ _=>rfl;have b7:=t7.F.binds (ps:=["names","told"]) λ _ _ _ _ _ _=>iB λ _ _=>rfl;have b8:=t8.F.binds (ps:=["names","known"]) λ _ _ _ _ _ _=>iB λ _ _=>rfl;have b9:=t9.F.binds (ps:=["terms"]) λ _ _ _ _ _ _=>iC λ _=>rfl;have b10:=VO.F.binds (ps:=["terms","places"]) λ _ _ _ _ _ _=>iB λ _ _=>rfl;have b11:=VN.F.binds (ps:=["game","text"]) λ _ _ _ _ _ _=>iB λ _ _=>rfl;have b12:=VM.F.binds (ps:=["name","many"]) λ _ _ _ _ _ _=>iB λ _ _=>rfl;have b13:=VL.F.binds (ps:=["game","counts"]) λ _ _ _ _ _ _=>iB λ _ _=>rfl;have b14:=VJ.F.binds (ps:=["_law_script"]) λ _ _ _ _ _ _=>iC λ _=>rfl;have b15:=VI.F.binds (ps:=["_law_flow_here","_law_many"]) λ _ _ _ _ _ _=>iB λ _ _=>rfl;have b16:=VH.F.binds (ps:=["_law_flow_here","_law_things"]) λ _ _ _ _ _ _=>iB λ _ _=>rfl;have Z1:=R0.F.binds (ps:=["_law_found","_law_due_here"]) λ _ _ _ _ _ _=>iB λ _ _=>rfl;have b18:=VG.F.binds (ps:=["_law_flow_here"]) λ _ _ _ _ _ _=>iC λ _=>rfl;have b19:=VF.F.binds (ps:=["_law_flow_here","_law_many"]) λ _ _ _ _ _ _=>iB λ _ _=>rfl;have b20:=VE.F.binds (ps:=["_law_counts_here"]) λ _ _ _ _ _ _=>iC λ _=>rfl;have b21:=VD.F.binds (ps:=["_law_heaps","_law_many"]) λ _ _ _ _ _ _=>iB λ _ _=>rfl;have b22:=VC.F.binds (ps:=["_law_sums"]) λ _ _ _ _ _ _=>iC λ _=>rfl;have b23:=VB.F.binds (ps:=["_law_flow_here","_law_many","_law_most"]) λ _ _ _ _ _ _=>FJ λ _ _ _=>rfl;have b24:=VA.F.binds (ps:=["_law_flow_here","_law_many"]) λ _ _ _ _ _ _=>iB λ _ _=>rfl;have b25:=Vz.F.binds (ps:=["_law_text"]) λ _ _ _ _ _ _=>iC λ _=>rfl;have b26:=Vy.F.binds (ps:=["_law_text"]) λ _ _ _ _ _ _=>iC λ _=>rfl;have b27:=Vx.F.binds (ps:=["_law_flow_here","_law_ahead","_law_many"]) λ _ _ _ _ _ _=>FJ λ _ _ _=>rfl;have b28:=Vw.F.binds (ps:=["_law_flow_here","_law_most"]) λ _ _ _ _ _ _=>iB λ _ _=>rfl;have b29:=Vv.F.binds (ps:=["_law_names_here","_law_counts_here"]) λ _ _ _ _ _ _=>iB λ _ _=>rfl;have b30:=Mk.F.binds (ps:=["_law_word_here"]) λ _ _ _ _ _ _=>iC λ _=>rfl;have b31:=Vu.F.binds (ps:=["_law_words"]) λ _ _ _ _ _ _=>iC λ _=>rfl;have b32:=Vt.F.binds (ps:=["_law_flow_here","_law_words","_law_names_here"]) λ _ _ _ _ _ _=>FJ λ _ _ _=>rfl;have b33:=Vs.F.binds (ps:=["_law_flow_here","_law_text","_law_names_here"]) λ _ _ _ _ _ _=>FJ λ _ _ _=>rfl;have b34:=Vr.F.binds (ps:=["_law_game","_law_text"]) λ _ _ _ _ _ _=>iB λ _ _=>rfl;have b35:=Vq.F.binds (ps:=["_law_game","_law_text"]) λ _ _ _ _ _ _=>iB λ _ _=>rfl;have b36:=Vp.F.binds (ps:=["_law_flow_here","_law_game","_law_other","_law_counts_here"]) λ _ _ _ _ _ _=>XE λ _ _ _ _=>rfl;have cM:=br.of VI.F (Ko VI.F T (P:=l.prog) (w:=w) (base:=base)) VI.m b15;have AX:=br.of VJ.F (Kq VJ.F T (P:=l.prog) (w:=w) (base:=base)) VJ.m b14;have AW:=br.of VG.F (Kp VG.F T cM (P:=l.prog) (w:=w) (base:=base)) VG.m b18;have Di:=br.of VE.F (Pp VE.F T (P:=l.prog) (w:=w) (base:=base)) VE.m b20;have xk:=br.of VC.F (Fg VC.F T Di (P:=l.prog) (w:=w) (base:=base)) VC.m b22;have lP:=br.of VD.F (BE VD.F T (P:=l.prog) (w:=w) (base:=base)) VD.m b21;have AU:=br.of VB.F (Kk VB.F T cM lP (P:=l.prog) (w:=w) (base:=base)) VB.m b23;have xm:=br.of VA.F (Fi VA.F T cM (P:=l.prog) (w:=w) (base:=base)) VA.m b24;have nJ:=br.of VF.F (Ff VF.F T AW (P:=l.prog) (w:=w) (base:=base)) VF.m b19;have uL:=br.of R0.F (Pt R0.F T R0.m Z1 (P:=l.prog) (w:=w) (base:=base) 5) R0.m Z1;have jG:=br.of Vx.F (mD Vx.F T cM lP xk (P:=l.prog) (w:=w) (base:=base)) Vx.m b27;have jH:=br.of Vw.F (mE Vw.F T cM nJ jG (P:=l.prog) (w:=w) (base:=base)) Vw.m b28;have r_:=br.of t1.F (x' t1.F T (P:=l.prog) (w:=w) (base:=base)) t1.m b1;have nK:=br.of t2.F (tE t2.F T (P:=l.prog) (w:=w) (base:=base)) t2.m b2;have sf:=br.of t3.F (ya t3.F T r_ nK (P:=l.prog) (w:=w) (base:=base)) t3.m b3;have kJ:=br.of Vz.F (oM Vz.F T (P:=l.prog) (w:=w) (base:=base)) Vz.m b25;have kL:=br.of Vy.F (oN Vy.F T kJ (P:=l.prog) (w:=w) (base:=base)) Vy.m b26;have sj:=br.of t4.F (yb t4.F T (P:=l.prog) (w:=w) (base:=base)) t4.m b4;have AS:=br.of t5.F (Kj t5.F T sf sj (P:=l.prog) (w:=w) (base:=base)) t5.m b5;have nI:=br.of Mk.F (tj Mk.F T kL (P:=l.prog) (w:=w) (base:=base)) Mk.m b30;have xi:=br.of t6.F (Fd t6.F T AS (P:=l.prog) (w:=w) (base:=base)) t6.m b6;have qj:=br.of Vu.F (vm Vu.F T nI (P:=l.prog) (w:=w) (base:=base)) Vu.m b31;have xo:=jD.of t7.F (Fj t7.F T (P:=l.prog) (w:=w) (base:=base)) t7.m b7;have De:=jD.of t8.F (Ph t8.F T (P:=l.prog) (w:=w) (base:=base)) t8.m b8;have Dh:=br.of t9.F (Pn t9.F T (P:=l.prog) (w:=w) (base:=base)) t9.m b9;have Dg:=br.of t0.F (Pk t0.F T (P:=l.prog) (w:=w) (base:=base)) t0.m b0;have uK:=br.of VO.F (BD VO.F T (P:=l.prog) (w:=w) (base:=base)) VO.m b10;have kI:=jD.of VN.F (Kn VN.F T xi Dh xo Dg De uK (P:=l.prog) (w:=w) (base:=base)) VN.m b11;have Dj:=br.of Vr.F (Pq Vr.F T qj (P:=l.prog) (w:=w) (base:=base)) Vr.m b34;have xl:=br.of Vq.F (Fh Vq.F T kI (P:=l.prog) (w:=w) (base:=base)) Vq.m b35;have Ih:=br.of VM.F (S' VM.F T (P:=l.prog) (w:=w) (base:=base)) VM.m b12;have qK:=br.of VL.F (Km VL.F T Ih (P:=l.prog) (w:=w) (base:=base)) VL.m b13;have Df:=br.of Vv.F (Pj Vv.F T (P:=l.prog) (w:=w) (base:=base)) Vv.m b29;have AV:=br.of VH.F (Kl VH.F T cM (P:=l.prog) (w:=w) (base:=base)) VH.m b16;have AR:=br.of Vt.F (Ki Vt.F T cM (P:=l.prog) (w:=w) (base:=base)) Vt.m b32;have sk:=br.of Vs.F (yc Vs.F T cM AR (P:=l.prog) (w:=w) (base:=base)) Vs.m b33;have xj:=br.of Vp.F (Fe Vp.F T Df qK uL AV kI sk xl Dj (P:=l.prog) (w:=w) (base:=base)) Vp.m b36;exact Po t37.F T AX cM nJ jH xm AU xj uL qK kI
theorem walk{q:Program}{loose:List Str}{XP:(Str->Option jp)->Heap->Prop}{YP:World->Heap->Prop}{d:DefRec}{K:Params->N5}(hn:l.most=some 63)(Gy:d.params.defaults=[])
  (hY:∀(w:World) (h:Heap),YP w h->(K w.params).In h)
  (F:∀(w:World) (mg:Str->Option jp) (fa:ww) (h:Heap),(K w.params).In h->h.Ns mainGlobals mg->mg d.name=some (.ref fa)->
   ∃fd:FuncData,(∀(s:kt) (u:jp),BindsTo s fd ⟨[u],[]⟩ [("_law_script",u)])/\∀base:Heap,(K w.params).In base->base.Ns mainGlobals mg->bo l.prog w (K w.params) mg base dJ 8 fa fd ["_law_script"] (bZ (K w.params) uS)):
  PySem.W.WalkO q loose XP YP l.row.toRowW d [] (λ f vs=>PySem.call f vs):=
 L2.Im (n:=63) (k:=8) (x:="_law_script") (CX:=λ _=>dJ) (sp:=λ w=>bZ (K w.params) uS) hn (by decide) Gy ⟨rfl,by decide,by decide⟩ hY F (λ _ _ a ns hl hO hS=>PH hO hS) λ _ _ _ _ _ z=>z
end KK
open PySem.W PyProof.Rows
def PySem.W.Fast.tw3823154879663722724:Program:=PySem.Challenge.pw_lastloser_k11_texts_of_sums
theorem PySem.W.Fast.te3823154879663722724 : PySem.Challenge.pw_lastloser_k11_texts_of_sums = PySem.W.Fast.tw3823154879663722724 := rfl
def PySem.W.Fast.tw10255974909061214210:Nat:=0
def PySem.W.Fast.tw7451045129028175170:Nat:=0
def PySem.W.Fast.tw5950009327821585346:Nat:=0
def PySem.W.Fast.tw13734320061436316773:Nat:=0
def PySem.W.Fast.tw2035885645244354282:Nat:=0
def PySem.W.Fast.tw17389258389358423757:Nat:=0
def PySem.W.Fast.tw9830972787581528302:Nat:=0
def PySem.W.Fast.tw7647526301663498640:Nat:=0
def PySem.W.Fast.tw8174818775132228881:Nat:=0
def PySem.W.Fast.tw16903777205083614484:Nat:=0
def PySem.W.Fast.tw2782947838631305620:Nat:=0
def PySem.W.Fast.tw11849638441166490260:Nat:=0
def PySem.W.Fast.tw12047753507359966362:Nat:=0
def PySem.W.Fast.tw16075071697477406910:Nat:=0
def PySem.W.Fast.tw8762780615277662590:Nat:=0
def PySem.W.Fast.tw14628638289105787486:Nat:=0
def PySem.W.Fast.tw340943301801174815:Nat:=0
namespace KK
open L2
noncomputable def kE (P:Params)(x:Str)(t:Nat)(v:jp):DictEntry:={hash:=PyData.keyHash P x,key:=.str x t,val:=v}
noncomputable def kO (x:Str)(t l n r s u:Nat)(v w:jp):Obj:={cls:=.type "code",data:=.fields #[.str x t,.str x (t+1),.str "/claim/cut.py" (t+2),.int l 0,.int n 0,.int 0 0,.int 0 0,.int 3 0,.ref r,.bool true,.int 181 0,.ref (r+1),.none,v,w,.ref s,.int u 0,.int l 0,.str "/claim/cut.py" (u+1)]}
noncomputable def kF (x:Str)(i:Nat)(m:Str×Nat)(c:Nat)(d:jp:=.none):Obj:={cls:=.type "function",data:=.func (PySem.W.fnOf x x (eT (top i)) (cA (top i)) (ao (top i)) d .none .none (.str m.1 m.2) none (.ref c) .none)}
noncomputable def HN (q:Str)(c t l n u:Nat):Obj:={cls:=.type "code",data:=.fields #[.str "__init__" t,.str q (t+1),.str "/claim/cut.py" (t+2),.int l 0,.int n 0,.int 0 0,.int 0 0,.int 3 0,.ref (c - 5),.bool true,.int 181 0,.ref (c - 4),.none,.ref (c - 3),.ref (c - 2),.ref (c - 1),.int u 0,.int l 0,.str "/claim/cut.py" (u+1)]}
noncomputable def FR (q:Str)(i:Nat)(m:Str×Nat)(c:Nat):Obj:={cls:=.type "function",data:=.func (PySem.W.fnOf "__init__" q (eT (pe i)) (cA (pe i)) (ao (pe i)) .none .none .none (.str m.1 m.2) none (.ref c) .none)}
abbrev kC(x:Str)(a:Nat)(bs bm sub:List jp)(s t u:Nat):Obj:=excClassObj x x a (a - 1) bs bm true [] sub false none none (some (.ref s)) none (some (.str x t)) (some (.str x u)) (some (.bool true)) "ValueError.__new__"
noncomputable def kP (x:Str)(a i:Nat)(m:Str×Nat)(t l n u q:Nat)(d:jp:=.none):List (Nat×Obj):=[(a,if q=0 then kO x t l n (a - 3) (a - 1) u .none .none else kO x t l n (a - 5) (a - 1) u (.ref (a - 3)) (.ref (a - 2))),(a+1,kF x i m a d)]
noncomputable def m4:Str×Nat:=("lastloser.errors",187)
noncomputable def m0:Str×Nat:=("lastloser.places",457)
noncomputable def m1:Str×Nat:=("lastloser.sumtexts",514)
noncomputable def m2:Str×Nat:=("lastloser.words",469)
noncomputable def m3:Str×Nat:=("law_lastloser_k11_texts_of_sums",595)
noncomputable def kD (P:Params):Obj:={cls:=.type "dict",data:=.dict #[kE P "__name__" 165 (.str "law_lastloser_k11_texts_of_sums" 595),kE P "__doc__" 166 .none,kE P "__package__" 167 .none,kE P "__loader__" 168 (.builtin "__main__.__loader__#opaque"),kE P "__spec__" 169 .none,kE P "__annotations__" 170 (.ref 6),kE P "__builtins__" 171 (.ref 4),kE P "__file__" 173 (.str "/claim/cut.py" 172),kE P "__cached__" 174 .none,kE P "HeapError" 206 (.ref 24),kE P "NoText" 231 (.ref 44),kE P "Twice" 256 (.ref 63),kE P "NoName" 281 (.ref 82),kE P "TooMany" 304 (.ref 101),kE P "NoGame" 331 (.ref 120),kE P "NoTable" 358 (.ref 139),kE P "Wrong" 383 (.ref 158),kE P "NoPaper" 408 (.ref 177),kE P "NoPick" 433 (.ref 196),kE P "NoRow" 456 (.ref 215),kE P "places_of" 468 (.ref 224),kE P "LETTERS" 472 (.str "abcdefghijklmnopqrstuvwxyz" 471),kE P "FIGURES" 482 (.ref 225),kE P "TAKEN" 491 (.ref 226),kE P "LONGEST_WORD" 493 (.int 5 492),kE P "is_word" 499 (.ref 231),kE P "is_figure" 506 (.ref 238),kE P "is_name" 513 (.ref 245),kE P "DIGITS" 517 (.str "0123456789" 516),kE P "MOST_DIGITS" 519 (.int 31 518),kE P "is_many" 525 (.ref 250),kE P "term_of" 533 (.ref 257),kE P "terms_of" 539 (.ref 262),kE P "refuse_again" 548 (.ref 269),kE P "refuse_unknown" 557 (.ref 276),kE P "names_of" 563 (.ref 281),kE P "sum_of" 574 (.ref 288),kE P "read_sum" 580 (.ref 293),kE P "term_text" 588 (.ref 300),kE P "show_sum" 594 (.ref 305),kE P "_law_flow" 603 (.ref 312),kE P "_law_pick" 613 (.ref 319),kE P "_law_shuffled" 623 (.ref 326),kE P "_law_alike" 629 (.ref 331),kE P "_law_name" 635 (.ref 336),kE P "_law_names" 647 (.ref 343),kE P "_law_key" 653 (.ref 348),kE P "_law_counts" 659 (.ref 353),kE P "_law_in_order" 665 (.ref 358),kE P "_law_some_sum" 671 (.ref 363),kE P "_law_great_sum" 682 (.ref 370),kE P "_law_is_word" 688 (.ref 375),kE P "_law_is_name" 695 (.ref 382),kE P "_law_any_sums" 701 (.ref 387),kE P "_law_any_game" 707 (.ref 392),kE P "_law_sum_text" 717 (.ref 399),kE P "_law_part_read" 723 (.ref 404),kE P "_law_sum_read" 729 (.ref 409),kE P "_law_word" 741 (.ref 416),kE P "_law_changed" 753 (.ref 423),kE P "_law_due" 759 (.ref 428),kE P "_law_heard" 771 (.ref 435),kE P "_law_right" 777 (.ref 440),kE P "law" 783 (.ref 445)] 64}
noncomputable def n24 (P:Params):Obj:={cls:=.type "dict",data:=.dict #[kE P "__module__" 196 (.str "lastloser.errors" 187),kE P "__firstlineno__" 200 (.int 2 199),kE P "__static_attributes__" 201 (.ref 22),kE P "__weakref__" 203 (.ref 25),kE P "__doc__" 204 .none] 3}
noncomputable def n44 (P:Params):Obj:={cls:=.type "dict",data:=.dict #[kE P "__module__" 214 (.str "lastloser.errors" 187),kE P "__firstlineno__" 218 (.int 4 217),kE P "__init__" 226 (.ref 41),kE P "__static_attributes__" 228 (.ref 42),kE P "__doc__" 229 .none] 2}
noncomputable def n63 (P:Params):Obj:={cls:=.type "dict",data:=.dict #[kE P "__module__" 239 (.str "lastloser.errors" 187),kE P "__firstlineno__" 243 (.int 9 242),kE P "__init__" 251 (.ref 60),kE P "__static_attributes__" 253 (.ref 61),kE P "__doc__" 254 .none] 2}
noncomputable def n82 (P:Params):Obj:={cls:=.type "dict",data:=.dict #[kE P "__module__" 264 (.str "lastloser.errors" 187),kE P "__firstlineno__" 268 (.int 14 267),kE P "__init__" 276 (.ref 79),kE P "__static_attributes__" 278 (.ref 80),kE P "__doc__" 279 .none] 2}
noncomputable def Xz (P:Params):Obj:={cls:=.type "dict",data:=.dict #[kE P "__module__" 289 (.str "lastloser.errors" 187),kE P "__firstlineno__" 293 (.int 19 292),kE P "__init__" 300 (.ref 98),kE P "__static_attributes__" 301 (.ref 99),kE P "__doc__" 302 .none] 2}
noncomputable def Xy (P:Params):Obj:={cls:=.type "dict",data:=.dict #[kE P "__module__" 312 (.str "lastloser.errors" 187),kE P "__firstlineno__" 316 (.int 23 315),kE P "__init__" 325 (.ref 117),kE P "__static_attributes__" 328 (.ref 118),kE P "__doc__" 329 .none] 2}
noncomputable def Xx (P:Params):Obj:={cls:=.type "dict",data:=.dict #[kE P "__module__" 339 (.str "lastloser.errors" 187),kE P "__firstlineno__" 343 (.int 29 342),kE P "__init__" 352 (.ref 136),kE P "__static_attributes__" 355 (.ref 137),kE P "__doc__" 356 .none] 2}
noncomputable def Xw (P:Params):Obj:={cls:=.type "dict",data:=.dict #[kE P "__module__" 366 (.str "lastloser.errors" 187),kE P "__firstlineno__" 370 (.int 35 369),kE P "__init__" 378 (.ref 155),kE P "__static_attributes__" 380 (.ref 156),kE P "__doc__" 381 .none] 2}
noncomputable def Xv (P:Params):Obj:={cls:=.type "dict",data:=.dict #[kE P "__module__" 391 (.str "lastloser.errors" 187),kE P "__firstlineno__" 395 (.int 40 394),kE P "__init__" 403 (.ref 174),kE P "__static_attributes__" 405 (.ref 175),kE P "__doc__" 406 .none] 2}
noncomputable def Xu (P:Params):Obj:={cls:=.type "dict",data:=.dict #[kE P "__module__" 416 (.str "lastloser.errors" 187),kE P "__firstlineno__" 420 (.int 45 419),kE P "__init__" 428 (.ref 193),kE P "__static_attributes__" 430 (.ref 194),kE P "__doc__" 431 .none] 2}
noncomputable def Xt (P:Params):Obj:={cls:=.type "dict",data:=.dict #[kE P "__module__" 441 (.str "lastloser.errors" 187),kE P "__firstlineno__" 445 (.int 50 444),kE P "__init__" 452 (.ref 212),kE P "__static_attributes__" 453 (.ref 213),kE P "__doc__" 454 .none] 2}
noncomputable def kT (vs:List jp)(n:Nat):Obj:={cls:=.type "tuple",data:=.seq vs.toArray n}
noncomputable def kK (P:Params):N5:=(3,kD P)::[(2,{cls:=.none,data:=.dict #[]}),(23,n24 P),(24,kC "HeapError" 24 [.type "ValueError"] [.type "ValueError",.type "Exception",.type "BaseException",.type "object"] [.ref 44,.ref 63,.ref 82,.ref 101,.ref 120,.ref 139,.ref 158,.ref 177,.ref 196,.ref 215] 15 189 197),(43,n44 P),(44,kC "NoText" 44 [.ref 24] [.ref 24,.type "ValueError",.type "Exception",.type "BaseException",.type "object"] [] 28 207 215),(40,HN "NoText.__init__" 40 219 6 2 224),(41,FR "NoText.__init__" 2 m4 40),(62,n63 P),(63,kC "Twice" 63 [.ref 24] [.ref 24,.type "ValueError",.type "Exception",.type "BaseException",.type "object"] [] 47 232 240),(59,HN "Twice.__init__" 59 244 11 2 249),(60,FR "Twice.__init__" 3 m4 59),(81,n82 P),(82,kC "NoName" 82 [.ref 24] [.ref 24,.type "ValueError",.type "Exception",.type "BaseException",.type "object"] [] 66 257 265),(78,HN "NoName.__init__" 78 269 16 2 274),(79,FR "NoName.__init__" 4 m4 78),(100,Xz P),(101,kC "TooMany" 101 [.ref 24] [.ref 24,.type "ValueError",.type "Exception",.type "BaseException",.type "object"] [] 85 282 290),(97,HN "TooMany.__init__" 97 294 21 1 298),(98,FR "TooMany.__init__" 5 m4 97),(119,Xy P),(120,kC "NoGame" 120 [.ref 24] [.ref 24,.type "ValueError",.type "Exception",.type "BaseException",.type "object"] [] 104 305 313),(116,HN "NoGame.__init__" 116 317 25 3 323),(117,FR "NoGame.__init__" 6 m4 116),(138,Xx P),(139,kC "NoTable" 139 [.ref 24] [.ref 24,.type "ValueError",.type "Exception",.type "BaseException",.type "object"] [] 123 332 340),(135,HN "NoTable.__init__" 135 344 31 3 350),(136,FR "NoTable.__init__" 7 m4 135),(157,Xw P),(158,kC "Wrong" 158 [.ref 24] [.ref 24,.type "ValueError",.type "Exception",.type "BaseException",.type "object"] [] 142 359 367),(154,HN "Wrong.__init__" 154 371 37 2 376),(155,FR "Wrong.__init__" 8 m4 154),(176,Xv P),(177,kC "NoPaper" 177 [.ref 24] [.ref 24,.type "ValueError",.type "Exception",.type "BaseException",.type "object"] [] 161 384 392),(173,HN "NoPaper.__init__" 173 396 42 2 401),(174,FR "NoPaper.__init__" 9 m4 173),(195,Xu P),(196,kC "NoPick" 196 [.ref 24] [.ref 24,.type "ValueError",.type "Exception",.type "BaseException",.type "object"] [] 180 409 417),(192,HN "NoPick.__init__" 192 421 47 2 426),(193,FR "NoPick.__init__" 10 m4 192),(214,Xt P),(215,kC "NoRow" 215 [.ref 24] [.ref 24,.type "ValueError",.type "Exception",.type "BaseException",.type "object"] [] 199 434 442),(211,HN "NoRow.__init__" 211 446 52 1 450),(212,FR "NoRow.__init__" 11 m4 211),(225,kT [.str "1" 473,.str "2" 474,.str "3" 475,.str "4" 476,.str "5" 477,.str "6" 478,.str "7" 479,.str "8" 480,.str "9" 481] 0),(226,kT [.str "row" 483,.str "to" 484,.str "take" 485,.str "none" 486,.str "one" 487,.str "two" 488,.str "as" 489,.str "heap" 490] 0)]++[kP "places_of" 223 13 m0 459 55 1 466 1,kP "is_word" 230 19 m2 494 65 1 497 0,kP "is_figure" 237 20 m2 500 69 1 504 1,kP "is_name" 244 21 m2 507 71 1 511 1,kP "is_many" 249 25 m1 520 76 1 523 0,kP "term_of" 256 26 m1 526 80 1 531 1,kP "terms_of" 261 27 m1 534 89 1 537 0,kP "refuse_again" 268 28 m1 540 96 2 546 1,kP "refuse_unknown" 275 29 m1 549 101 2 555 1,kP "names_of" 280 30 m1 558 105 1 561 0,kP "sum_of" 287 31 m1 564 107 2 572 1,kP "read_sum" 292 32 m1 575 112 2 578 0,kP "term_text" 299 33 m1 581 120 2 586 1,kP "show_sum" 304 34 m1 589 122 2 592 0,kP "_law_flow" 311 36 m3 597 126 1 601 1,kP "_law_pick" 318 37 m3 604 128 2 611 1,kP "_law_shuffled" 325 38 m3 614 143 2 621 1,kP "_law_alike" 330 39 m3 624 149 2 627 0,kP "_law_name" 335 40 m3 630 161 1 633 0,kP "_law_names" 342 41 m3 636 170 2 645 1,kP "_law_key" 347 42 m3 648 180 1 651 0,kP "_law_counts" 352 43 m3 654 182 2 657 0,kP "_law_in_order" 357 44 m3 660 184 1 663 0,kP "_law_some_sum" 362 45 m3 666 186 3 669 0,kP "_law_great_sum" 369 46 m3 672 189 2 680 1,kP "_law_is_word" 374 47 m3 683 195 1 686 0,kP "_law_is_name" 381 48 m3 689 199 1 693 1,kP "_law_any_sums" 386 49 m3 696 203 3 699 0,kP "_law_any_game" 391 50 m3 702 209 2 705 0,kP "_law_sum_text" 398 51 m3 708 213 2 715 1,kP "_law_part_read" 403 52 m3 718 219 1 721 0,kP "_law_sum_read" 408 53 m3 724 232 1 727 0,kP "_law_word" 415 54 m3 730 239 3 739 1,kP "_law_changed" 422 55 m3 742 246 3 751 1,kP "_law_due" 427 56 m3 754 263 2 757 0,kP "_law_heard" 434 57 m3 760 276 2 769 1,kP "_law_right" 439 58 m3 772 292 4 775 0,kP "law" 444 59 m3 778 307 1 781 0].flatten
noncomputable def kA:List ww:=[3,2,23,24,43,44,40,41,62,63,59,60,81,82,78,79,100,101,97,98,119,120,116,117,138,139,135,136,157,158,154,155,176,177,173,174,195,196,192,193,214,215,211,212,225,226,223,224,230,231,237,238,244,245,249,250,256,257,261,262,268,269,275,276,280,281,287,288,292,293,299,300,304,305,311,312,318,319,325,326,330,331,335,336,342,343,347,348,352,353,357,358,362,363,369,370,374,375,381,382,386,387,391,392,398,399,403,404,408,409,415,416,422,423,427,428,434,435,439,440,444,445]
theorem tF{h:Heap}(X:K.In h)(G:h.Ns mainGlobals mg)(m:Str×Nat)(c:Nat)(a:PySem.W.nsIn K mainGlobals x=some (some (.ref (c+1))):=by kernel_rfl)(l:K.lookup (c+1)=some (kF x i m c):=by kernel_rfl)(e:PySem.W.codeIn K (.ref c) x=true:=by kernel_rfl):cC K mg x i (c+1) (PySem.W.fnOf x x (eT (top i)) (cA (top i)) (ao (top i)) .none .none .none (.str m.1 m.2) none (.ref c) .none):=
 ⟨G1 X G a,GI (st:=top i) l e (by unfold PySem.W.keepIn;dsimp only;rw[l];rfl)⟩
theorem kn{h:Heap}(X:K.In h)(G:h.Ns mainGlobals mg)(e:PySem.W.nsIn K mainGlobals x=some none:=by kernel_rfl):mg x=none:=PySem.W.mg_none_of X G e
theorem cB(x:Str)(a:Nat)(bs bm sub:List jp)(s t u:Nat)(l:K.lookup a=some (kC x a bs bm sub s t u):=by kernel_rfl)(e:bm.contains (.type "BaseException")=true:=by kernel_rfl):qi K a:=⟨⟨_,_,_,_,_,_,_,_,_,_,_,_,_,_,_,_,_,l,e⟩⟩
theorem cF{h:Heap}{q:Str}{ns:List Str}(X:K.In h)(G:h.Ns mainGlobals mg)(m:Str×Nat)(i:Nat)(x:Str)(a:Nat)(bs bm sub:List jp)(s t u:Nat)(e1:PySem.W.nsIn K mainGlobals x=some (some (.ref a)):=by kernel_rfl)(l:K.lookup a=some (kC x a bs bm sub s t u):=by kernel_rfl)(l2:K.lookup (a - 3)=some (FR q i m (a - 4)):=by kernel_rfl)(e2:PySem.W.codeIn K (.ref (a - 4)) q=true:=by kernel_rfl)(e3:PySem.W.tailIn K YT bm=true:=by kernel_rfl)(e4:PySem.W.nsOkIn K (a - 1)=true:=by kernel_rfl)(e5:PySem.W.nsIn K (a - 1) "__init__"=some (some (.ref (a - 3))):=by kernel_rfl)(e6:PySem.W.isFn K (.ref (a - 3))=true:=by kernel_rfl)(e7:PySem.W.keepIn K (.ref a)=true:=by kernel_rfl)(e8:PySem.W.findIn K (.ref a) "__setattr__"=some (some (.builtin "object.__setattr__")):=by kernel_rfl) (f1:PySem.W.findIn K (.ref a) "__getattribute__"=some (some (.builtin "BaseException.__getattribute__")):=by kernel_rfl) (f2:PySem.W.findIn K (.ref a) "__getattr__"=some none:=by kernel_rfl) (f3:PySem.W.mroIn K a (.type "BaseException")=some true:=by kernel_rfl) (f4:PySem.W.mroIn K a (.type "object")=some true:=by kernel_rfl) (f5:(PySem.W.clsIn K a).any (·.hasDict)=true:=by kernel_rfl) (f6:PySem.W.findIn K (.ref a) "__class__"=some (some (.builtin "object.__class__")):=by kernel_rfl) (f7:PySem.W.specialIn K (.builtin "object.__class__") "__get__"=some (some (.builtin "getset_descriptor.__get__")):=by kernel_rfl) (f8:PySem.W.takesIn K (.builtin "object.__class__")=some true:=by kernel_rfl) (e10:(ns.all λ f=>L4.P' (PySem.W.findIn K (.ref a) f))=true:=by kernel_rfl) (e11:bm.contains (.type "BaseException")=true:=by kernel_rfl):L4.jE K mg x q (pe i) a (a - 3) ps ns:=
 ⟨G1 X G e1,⟨_,GI (st:=pe i) l2 e2 (by unfold PySem.W.keepIn;dsimp only;rw[l2];rfl)⟩,⟨⟨_,_,_,_,_,_,_,_,_,_,_,_,_,_,_,l,e3,e4,e5⟩,e6,e7,e8⟩,⟨f1,f2,f3,f4,f5,f6,f7,f8⟩,⟨⟨_,_,_,_,_,_,_,_,_,_,_,_,_,_,_,_,_,l,e11⟩⟩,e10⟩
theorem gT{h:Heap}(X:K.In h)(G:h.Ns mainGlobals mg)(x:Str)(a:Nat)(vs:List jp)(n:Nat)(e:PySem.W.nsIn K mainGlobals x=some (some (.ref a)):=by kernel_rfl)(l:K.lookup a=some (kT vs n):=by kernel_rfl)(v:L3.gI vs=some zs:=by kernel_rfl)(z:vs.length<=sizeLine:=by decide):L3.jg K mg x (.tup (zs.map L3.D.str)):=
 L3.GD (G1 X G e) l (by simpa using v) (by simpa using z)
def pg:Program:={PySem.Challenge.pw_lastloser_k11_texts_of_sums with main:={PySem.Challenge.pw_lastloser_k11_texts_of_sums.main with body:=[top 0,top 1,top 2,top 3,top 4,top 5,top 6,top 7,top 8,top 9,top 10,top 11,top 12,top 13,top 14,top 15,top 16,top 17,top 18,top 19,top 20,top 21,top 22,top 23,top 24,top 25,top 26,top 27,top 28,top 29,top 30,top 31,top 32,top 33,top 34,top 35,top 36,top 37,top 38,top 39,top 40,top 41,top 42,top 43,top 44,top 45,top 46,top 47,top 48,top 49,top 50,top 51,top 52,top 53,top 54,top 55,top 56,top 57,top 58,top 59]}}
def lw:PySem.W.OpenLaw:={PySem.Challenge.rw_lastloser_k11_texts_of_sums with prog:=pg}
end KK
set_option maxRecDepth 100000 in
set_option maxHeartbeats 0 in
theorem KK.pre:KK.lw.Holds:=by
 w_on;o_law;o_head (PySem.W.kHook KK.kK KK.kA (λ _=>by kernel_rfl));(case hw=>w_witness2)
 refine KK.walk (l:=KK.lw) rfl rfl (λ w h Y=>PySem.W.kIn_of Y) ?F
 case F=>
  intro w mg fa h KX G T9;have hm:mg "law"=some (.ref fa):=T9;have e:=hm.symm.trans (G1 KX G (v:=.ref (444+1)) (by kernel_rfl));cases e;exact KK.all_mk ⟨KK.kn KX G,KK.kn KX G,KK.kn KX G,KK.kn KX G,KK.kn KX G,KK.kn KX G,KK.kn KX G,KK.kn KX G,KK.kn KX G,KK.kn KX G,KK.kn KX G,KK.kn KX G,KK.kn KX G,KK.kn KX G,KK.kn KX G,KK.kn KX G,KK.kn KX G,KK.Ga _,KK.K' _,KK.F_ _,KK.K_ _,KK.BU _,⟨_,.str _,G1 KX G (v:=.str "abcdefghijklmnopqrstuvwxyz" 471) (by kernel_rfl),⟨_,rfl⟩,λ H=>L3.aI.mpr rfl⟩,KK.gT KX G "FIGURES" 225 [.str "1" 473,.str "2" 474,.str "3" 475,.str "4" 476,.str "5" 477,.str "6" 478,.str "7" 479,.str "8" 480,.str "9" 481] 0,KK.gT KX G "TAKEN" 226 [.str "row" 483,.str "to" 484,.str "take" 485,.str "none" 486,.str "one" 487,.str "two" 488,.str "as" 489,.str "heap" 490] 0,⟨_,.int _,G1 KX G (v:=.int 5 492) (by kernel_rfl),⟨_,rfl⟩,λ H=>L3.aw.mpr rfl⟩,⟨_,.str _,G1 KX G (v:=.str "0123456789" 516) (by kernel_rfl),⟨_,rfl⟩,λ H=>L3.aI.mpr rfl⟩,⟨_,.int _,G1 KX G (v:=.int 31 518) (by kernel_rfl),⟨_,rfl⟩,λ H=>L3.aw.mpr rfl⟩,G1 KX G (by kernel_rfl),⟨by kernel_rfl,by kernel_rfl,by kernel_rfl⟩,KK.cB "HeapError" 24 [.type "ValueError"] [.type "ValueError",.type "Exception",.type "BaseException",.type "object"] [.ref 44,.ref 63,.ref 82,.ref 101,.ref 120,.ref 139,.ref 158,.ref 177,.ref 196,.ref 215] 15 189 197,KK.cF KX G KK.m4 2 "NoText" 44 [.ref 24] [.ref 24,.type "ValueError",.type "Exception",.type "BaseException",.type "object"] [] 28 207 215,KK.cF KX G KK.m4 3 "Twice" 63 [.ref 24] [.ref 24,.type "ValueError",.type "Exception",.type "BaseException",.type "object"] [] 47 232 240,KK.cF KX G KK.m4 4 "NoName" 82 [.ref 24] [.ref 24,.type "ValueError",.type "Exception",.type "BaseException",.type "object"] [] 66 257 265,KK.cF KX G KK.m4 5 "TooMany" 101 [.ref 24] [.ref 24,.type "ValueError",.type "Exception",.type "BaseException",.type "object"] [] 85 282 290,KK.cF KX G KK.m4 6 "NoGame" 120 [.ref 24] [.ref 24,.type "ValueError",.type "Exception",.type "BaseException",.type "object"] [] 104 305 313,KK.cF KX G KK.m4 7 "NoTable" 139 [.ref 24] [.ref 24,.type "ValueError",.type "Exception",.type "BaseException",.type "object"] [] 123 332 340,KK.cF KX G KK.m4 8 "Wrong" 158 [.ref 24] [.ref 24,.type "ValueError",.type "Exception",.type "BaseException",.type "object"] [] 142 359 367,KK.cF KX G KK.m4 9 "NoPaper" 177 [.ref 24] [.ref 24,.type "ValueError",.type "Exception",.type "BaseException",.type "object"] [] 161 384 392,KK.cF KX G KK.m4 10 "NoPick" 196 [.ref 24] [.ref 24,.type "ValueError",.type "Exception",.type "BaseException",.type "object"] [] 180 409 417,KK.cF KX G KK.m4 11 "NoRow" 215 [.ref 24] [.ref 24,.type "ValueError",.type "Exception",.type "BaseException",.type "object"] [] 199 434 442,by kernel_rfl,by kernel_rfl,by kernel_rfl,by kernel_rfl,by kernel_rfl,by kernel_rfl,by kernel_rfl,by kernel_rfl,by kernel_rfl,by kernel_rfl,by kernel_rfl,by kernel_rfl,by kernel_rfl,by kernel_rfl,by kernel_rfl,by kernel_rfl,by kernel_rfl,by kernel_rfl⟩ (KK.tF KX G KK.m0 223) (KK.tF KX G KK.m2 230) (KK.tF KX G KK.m2 237) (KK.tF KX G KK.m2 244) (KK.tF KX G KK.m1 249) (KK.tF KX G KK.m1 256) (KK.tF KX G KK.m1 261) (KK.tF KX G KK.m1 268) (KK.tF KX G KK.m1 275) (KK.tF KX G KK.m1 280) (KK.tF KX G KK.m1 287) (KK.tF KX G KK.m1 292) (KK.tF KX G KK.m1 299) (KK.tF KX G KK.m1 304) (KK.tF KX G KK.m3 311) (KK.tF KX G KK.m3 318) (KK.tF KX G KK.m3 325) (KK.tF KX G KK.m3 330) (KK.tF KX G KK.m3 335) (KK.tF KX G KK.m3 342) (KK.tF KX G KK.m3 347) (KK.tF KX G KK.m3 352) (KK.tF KX G KK.m3 357) (KK.tF KX G KK.m3 362) (KK.tF KX G KK.m3 369) (KK.tF KX G KK.m3 374) (KK.tF KX G KK.m3 381) (KK.tF KX G KK.m3 386) (KK.tF KX G KK.m3 391) (KK.tF KX G KK.m3 398) (KK.tF KX G KK.m3 403) (KK.tF KX G KK.m3 408) (KK.tF KX G KK.m3 415) (KK.tF KX G KK.m3 422) (KK.tF KX G KK.m3 427) (KK.tF KX G KK.m3 434) (KK.tF KX G KK.m3 439) (KK.tF KX G KK.m3 444)
theorem PySem.Challenge.cw_lastloser_k11_texts_of_sums_holds : PySem.Challenge.rw_lastloser_k11_texts_of_sums.Holds :=
 KK.pre
