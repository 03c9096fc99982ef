import PyProof.Rows.All
import Wide.All
import OpenK.AllK
import PySem.Challenge.RW_lastloser_k07_rules_read
local macro_rules|`(())=>`(by first|lia|omega)
set_option tactic.hygienic false
local macro_rules|`(tactic|obtain $p:rcasesPatMed:=$t:term)=>`(tactic|first|(refine Classical.byContradiction fun k=>?_;rcases $t:term with $p:rcasesPatMed<;>(refine k ?_;clear k))|rcases $t:term with $p:rcasesPatMed)
set_option Elab.async false
set_option linter.all false
set_option maxRecDepth 100000
set_option maxHeartbeats 4000000
open List
abbrev al:=PySem.Value
abbrev am:=PySem.Shared
abbrev be:=PySem.Addr
def bi:=@absurd
def bn:=@Option.map_eq_some_iff
def bv:=@List.mem_range
def ca:=@of_decide_eq_true
def a0:=@PyProof.Rows.slot_tuple_getitem
def a8:=@PySem.wpAny_typeNameOfWhole_keyiter
def a9:=@PySem.F.slot_dict_keyiterator_next
def b0:=@PyProof.Rows.callWith_type1
def b6:=@PySem.F.slot_tuple_iterator_next
def b7:=@getElem?_append_right
def b8:=@getD_eq_getElem?_getD
def b9:=@getElem?_append_left
def c3:=@Array.getElem?_eq_getElem
def c4:=@drop_eq_getElem_cons
def c5:=@List.getElem?_eq_some_iff
def c6:=@List.getElem?_eq_none_iff
def c7:=@PySem.F.slot_list_append
def c8:=@getElem?_eq_getElem
def c9:=@PySem.F.type_list_append
def e7:=@PySem.F.plainAttrs_list
def e9:=@getElem?_replicate
def g9:=@PySem.wpAny_callSpecial?_slot
def i4:=@length_eq_zero_iff
def i5:=@take_of_length_le
def i6:=@Array.getElem?_eq_none
def i7:=@PySem.Heap.get?_push_of_some
def i8:=@PySem.Heap.get?_update_other
def i9:=@PySem.richCompare_meets_room
def j0:=@PySem.Heap.get?_update_self
def j2:=@mem_append_right
def j4:=@length_singleton
def j5:=@Array.getElem?_toList
def j6:=@length_replicate
def j7:=@getElem?_eq_none
def j8:=@Nat.le_of_ble_eq_true
def j9:=@mem_cons_of_mem
def k4:=@mem_of_getElem?
def k5:=@mem_append_left
def k7:=@PySem.Around.under_plainId
def k8:=@mem_of_mem_take
def k9:=@getElem?_set_ne
def l0:=@PySem.Heap.SameBut.update
def l3:=@PySem.mem_of_lookup
def l4:=@replicate_succ
def l6:=@Array.length_toList
def l7:=@PySem.Heap.get?_push_size
def l8:=@map_congr_left
def l9:=@mem_cons_self
def n0:=@Bool.false_ne_true
def n9:=@length_append
def o8:=@Bool.false_eq_true
def p6:=@Int.emod_lt_of_pos
def p7:=@PySem.wpAny_setField_rec
def p8:=@Nat.lt_of_le_of_lt
def p9:=@Nat.lt_of_lt_of_le
def r6:=@mem_singleton
def r9:=@PySem.wpAny_Call_Name_kw
def u3:=@filter_append
def u4:=@of_decide_eq_false
def u5:=@PySem.Obj.data_mapFields
def u6:=@Int.lt_of_le_of_lt
def u7:=@PySem.tupleKind_room_in1
def u9:=@Array.forIn_toList
def w6:=@getElem?_map
def w9:=@decide_eq_true_eq
def x6:=@Int.toNat_natCast
def x8:=@PySem.wpAny_newObj_type
def x9:=@flatten_cons
def y0:=@append_assoc
def y1:=@PySem.wpAny_truthy_bool
def y2:=@PySem.wpAny_pyIter_list
def y3:=@length_range
def y4:=@Option.isSome_map
def y6:=@List.size_toArray
def y7:=@Nat.lt_succ_of_lt
def y8:=@lookup_cons
def y9:=@Nat.le_of_not_lt
def z0:=@length_cons
def z9:=@take_length
def A0:=@PySem.wpAny_call_entry
def A1:=@PySem.F.plain_max_loop
def A2:=@Bool.and_eq_true
def A3:=@length_take
def A4:=@Bool.eq_iff_iff
def A5:=@append_nil
def A6:=@find?_cons
def A7:=@decide_eq_false
def A8:=@PySem.wpAny_loadPart'
def A9:=@Int.emod_nonneg
def B0:=@Option.some.inj
def B1:=@PySem.wpAny_passesOwn
def B2:=@PySem.codeAny_builtin
def B3:=@PySem.W.kia_one
def B4:=@length_map
def B5:=@mem_append
def B6:=@map_append
def B7:=@Nat.le_antisymm
def B8:=@PySem.wpAny_specialOf
def B9:=@decide_eq_true
def C0:=@PySem.wpAny_seqItems
def C1:=@PySem.Heap.size_push
def C2:=@PySem.wpAny_tryCatch
def C3:=@PySem.wpAny_holding
def C4:=@PySem.Paired.length
def C5:=@Nat.lt_irrefl
def C6:=@map_cons
def C7:=@mem_cons
def C8:=@PySem.plainId_quiet
def C9:=@PySem.W.mg_of
def D1:=@sum_cons
def D3:=@Nat.ne_of_lt
def D4:=@PySem.Heap.lt_size
def D5:=@mem_map
def D6:=@List.map_map
def D7:=@Nat.le_trans
def D8:=@Nat.zero_add
def D9:=@Nat.le_of_eq
def G0:=@PySem.wpAny_typeOf
def G1:=@Nat.ne_of_gt
def G2:=@Nat.le_of_lt
def G3:=@Nat.le_refl
def G4:=@PySem.sizeLine_eq
def G5:=@Nat.zero_le
def G6:=@PySem.wpAny_field
def G7:=@PySem.wpAny_letGo
def G8:=@PySem.wpAny_bind
def G9:=@PySem.wpAny_pure
def H0:=@PySem.wpAny_rule
def H9:=@PySem.call_meets
def J0:=@PySem.wpAny_mono
def J1:=@if_false
def J3:=@congrArg
def J4:=@Ne.symm
def J5:=@if_true
def J6:=@if_pos
def J7:=@if_neg
abbrev J8:=PySem.W.Frag
abbrev aU:=PySem.Str.ofString
open PySem
variable {E Q:al->am->Prop}{ce:List (be×Obj)}{fd:FuncData}{s:am}{K:J8}{f a p l q:be}{A:Around}{w:World}{pos jM apos dF p2:Pos}{es ifs rest:List Expr}{prog P:Program}{k i n c t' ep m:Nat}{mg mA:Str->Option al}{e tg iter elt:Expr}{ps zs bW ys:List Str}{u:al}{b:Bool}{α:Type}{scope:Scope}{fr:List Nat}{z name y qual:Str}{ns:List Int}{kindOf:Str->Option NameKind}{T:String}{us av vs:List al}{S:Heap->be->Array al->Prop}{body Ko:List Stmt}{base h':Heap}{ts:List (Str×Int)}{fp ch:List be}{XP:(Str->Option al)->Heap->Prop}{j:Int}{cells cl:List (Str×be)}{J:List al->Nat->am->Prop}{st:Stmt}{C:Int->Int->Prop}{sl:Array (Option al)}{o:Obj}{YP:World->Heap->Prop}
namespace L2
open PySem.Spec PyProof.Rows
abbrev Key:=Sum Int Str
def oF:Key->al->Bool
 | .inl k,v=>Value.isInt k v
 | .inr x,v=>Value.isStrOf x v
def Wv(w:World):Key->Int
 | .inl k=>hashInt k
 | .inr x=>hashStr w x
def bX:∀{k:Key} {v:al},oF k v=true->(∃i t,k=Sum.inl i/\v=Value.int i t)\/(∃x t,k=Sum.inr x/\v=Value.str x t)
 | .inl i,v,h=>by obtain⟨t,e⟩:=Value.isInt_shape (k:=i) (v:=v) h;exact .inl ⟨i,t,rfl,e⟩
 | .inr x,v,h=>by obtain⟨t,e⟩:=Value.isStrOf_shape (x:=x) (v:=v) h;exact .inr ⟨x,t,rfl,e⟩
def zR(i:Int)(t:Tok):oF (.inl i) (.int i t)=true:=by simp[oF,Value.isInt]
def zQ(x:Str)(t:Tok):oF (.inr x) (.str x t)=true:=by simp[oF,Value.isStrOf]
def N5(a b:Int):decide ((Sum.inl a:Key)=Sum.inl b)=(a==b):=by
 by_cases e:a=b
 ·subst e;simp
 ·have h:¬(Sum.inl a:Key)=Sum.inl b:=λ q=>e (Sum.inl.inj q);rw[A7 h];exact(beq_eq_false_iff_ne.mpr e).symm
def NZ(a b:Str):decide ((Sum.inr a:Key)=Sum.inr b)=decide (a=b):=by
 by_cases e:a=b
 ·subst e;simp
 ·have h:¬(Sum.inr a:Key)=Sum.inr b:=λ q=>e (Sum.inr.inj q);rw[A7 h,A7 e]
def N4(a:Int)(b:Str):decide ((Sum.inl a:Key)=Sum.inr b)=false:=A7 (λ q=>nomatch q)
def N0(a:Str)(b:Int):decide ((Sum.inr a:Key)=Sum.inl b)=false:=A7 (λ q=>nomatch q)
def bE(prog:Program)(w:World):PySem.KeyKind prog w Key where
 is:=oF
 hash:=Wv w
 inj:=λ v a b ha hb=>by
  rcases bX ha with⟨i,t,rfl,rfl⟩|⟨x,t,rfl,rfl⟩
  ·rcases bX hb with⟨j,u,rfl,e⟩|⟨y,u,rfl,e⟩
   ·injection e with e1 _;rw[e1]
   ·exact nomatch e
  ·rcases bX hb with⟨j,u,rfl,e⟩|⟨y,u,rfl,e⟩
   ·exact nomatch e
   ·injection e with e1 _;rw[e1]
 byValue:=λ k v h=>by rcases bX h with⟨i,t,rfl,rfl⟩|⟨x,t,rfl,rfl⟩<;>rfl
 pyHash:=λ hv h=>by
  rcases bX hv with⟨i,t,rfl,rfl⟩|⟨x,t,rfl,rfl⟩
  ·exact wpAny_pyHash_int h
  ·exact wpAny_pyHash_str h
 eqBool:=λ hu hv h=>by
  rcases bX hu with⟨i,t,rfl,rfl⟩|⟨x,t,rfl,rfl⟩
  ·rcases bX hv with⟨j,u,rfl,rfl⟩|⟨y,u,rfl,rfl⟩
   ·rw[N5]at h;exact wpAny_eqBool_int h
   ·rw[N4]at h;exact SeqAt.EqAt.int_str i t y u _ _ _ _ h
  ·rcases bX hv with⟨j,u,rfl,rfl⟩|⟨y,u,rfl,rfl⟩
   ·rw[N0]at h;exact SeqAt.EqAt.str_int x t j u _ _ _ _ h
   ·rw[NZ]at h;exact wpAny_eqBool_str h
 «strs»:=λ k x t v h=>by
  rcases bX h with⟨i,u,rfl,e⟩|⟨y,u,rfl,e⟩
  ·exact nomatch e
  ·injection e with e1 _
   subst e1;cases v<;>rfl
def kI(prog:Program)(w:World)(i:Int)(t:Tok):(bE prog w).is (.inl i) (.int i t)=true:=zR i t
def sH(prog:Program)(w:World)(x:Str)(t:Tok):(bE prog w).is (.inr x) (.str x t)=true:=zQ x t
inductive V where
 |bh|bl (b:Bool)|int (i:Int)|str (x:Str)|Fe (b:Array UInt8)|PN (b:UInt64)|ref (a:be)|ty (n:String)
 deriving DecidableEq
def lc:V->al->Prop
 | .bh,u=>u=Value.none
 | .bl b,u=>u=Value.bool b
 | .int i,u=>∃t,u=Value.int i t
 | .str x,u=>∃t,u=Value.str x t
 | .Fe b,u=>∃t,u=Value.bytes b t
 | .PN b,u=>∃t,u=Value.float b t
 | .ref a,u=>u=Value.ref a
 | .ty n,u=>u=Value.type n
abbrev li:List V->List al->Prop:=Paired lc
theorem li.length{xs:List V}(r:li xs us):xs.length=us.length:=C4 r
theorem li.get:∀{xs:List V} {us:List al} {i:Nat} {x:V},li xs us->xs[i]?=some x->∃u,us[i]?=some u/\lc x u
 |_,_,_,_,.nil,e=>by simp at e
 |_,_,0,_,.cons r _,e=>by simp at e;subst e;exact⟨_,rfl,r⟩
 |_,_,i+1,x,.cons _ t,e=>by obtain⟨u,h1,h2⟩:=li.get (i:=i) (x:=x) t (by simpa using e);exact⟨u,by simpa using h1,h2⟩
theorem li.set{x:V}(r:lc x u):∀{xs:List V} {us:List al} (i:Nat),li xs us->li (xs.set i x) (us.set i u)
 |_,_,_,.nil=>.nil
 |_,_,0,.cons _ t=>.cons r t
 |_,_,i+1,.cons q t=>.cons q (li.set r i t)
theorem li.append:∀{xs ys:List V} {us ws:List al},li xs us->li ys ws->li (xs++ys) (us++ws)
 |_,_,_,_,.nil,s=>s
 |_,_,_,_,.cons r t,s=>.cons r (li.append t s)
theorem li.take:∀{xs:List V} {us:List al} (n:Nat),li xs us->li (xs.take n) (us.take n)
 |_,_,0,_=>.nil
 |_,_,_+1,.nil=>.nil
 |_,_,n+1,.cons r t=>.cons r (li.take n t)
theorem li.drop:∀{xs:List V} {us:List al} (n:Nat),li xs us->li (xs.drop n) (us.drop n)
 |_,_,0,r=>r
 |_,_,_+1,.nil=>.nil
 |_,_,n+1,.cons _ t=>li.drop n t
def li.none_of:∀{xs:List V} {us:List al} {i:Nat},li xs us->xs[i]?=none->us[i]?=none:=λ{xs us i} r e=>by have h1:=r.length;have h2:xs.length<=i:=c6.mp e;exact c6.mpr ()
def jD:Option V->Option al->Prop
 |some v,some u=>lc v u
 |none,none=>True
 |_,_=>False
def KV{κ:Type}:List (κ×V)->List (κ×al)->Prop:=Paired λ(p:κ×V) (q:κ×al)=>p.1=q.1/\lc p.2 q.2
def kV:Key->V
 | .inl i=>.int i
 | .inr x=>.str x
inductive HO where
  |lst (xs:List V)
  |tup (xs:List V)
  |dK (ar:List (Key×V))|dT (ar:List (List Key×V))
  |set (S:Int->Bool) (n:Nat)
  |ins (C dx:be) (fs:List (Str×V))
  |own (x:be)
  |xd (fs:List (Str×V))
  |met (f x:be)
  |VW (lo hi:Int)
  |gG (o:Obj) (u:HO)
  |AH (ps:Array al)
  |ext (φ:Heap->Prop)
abbrev Hp:=be->Option HO
def lm(H:Hp)(a:be)(o:HO):Hp:=λ b=>if b=a then some o else H b
def bL{H:Hp}{o:HO}:lm H a o a=some o:=by unfold lm;rw[J6 rfl]
def aX{H:Hp}{b:be}{o:HO}(h:b≠a):lm H a o b=H b:=by unfold lm;rw[J7 h]
def bA{H:Hp}{b:be}{o u:HO}(h:H a=some o)(h':H b=some u)(d:o≠u):a≠b:=by intro e;subst e;rw[h]at h';exact d (B0 h')
def cn{H:Hp}{b:be}{o:HO}(h:H a=some o)(h':H b=none):a≠b:=by intro e;subst e;rw[h]at h';cases h'
section
variable (P:Program)(w:World)
def bK(H:Hp)(h:Heap)(a:be):HO->Prop
 | .lst xs=>xs.length<=sizeLine/\∃(av:List al)(n:Nat),li xs av/\h.get? a=some {cls:=.type "list",data:=.seq av.toArray n}
 | .tup xs=>xs.length<=sizeLine/\∃av:List al,li xs av/\IsTup h a av.toArray
 | .dK ar=>ar.length<=sizeLine/\(a==sysModules)=false/\∃vs,KV ar vs/\h.DictOf (bE P w) a vs
 | .dT ar=>ar.length<=sizeLine/\(a==sysModules)=false/\∃xs:List (List Key×be×al),
   Paired (λ(p:List Key×V) (q:List Key×be×al)=>p.1=q.1/\H q.2.1=some (.tup (p.1.map kV))/\lc p.2 q.2.2) ar xs/\
   ∃o es ep,h.get? a=some o/\o.ExactDict/\o.data=.dict es ep/\es.toList=xs.map (entryOfKey (tupleKind (bE P w)))/\(xs.map (·.1)).Nodup
 | .set S n=>h.SetOf (intKind P w) a S n
 | .ins C dx fs=>H dx=some (.own a)/\fs.length<=1000/\dx≠a/\h.get? a=some (PySem.W.instObj C dx)/\
   ∃mA,h.Ns1 dx mA/\(∀f,jD (fs.lookup f) (mA f))/\PySem.Within mA (fs.map (·.1))
 | .own _=>∃o,h.get? a=some o
 | .xd fs=>∃mA,h.Ns1 a mA/\∀f,jD (fs.lookup f) (mA f)
 | .VW lo hi=>∃t u v,h.get? a=some {cls:=.type "range",data:=.fields #[.int lo t,.int hi u,.int 1 v]}
 | .gG o u=>h.get? a=some o/\bK H h a u
 | .AH ps=>h.get? a=some {cls:=.none,data:=.fields ps}
 | .met f x=>h.get? a=some (PySem.W.methodObj (.ref f) (.ref x))
 | .ext φ=>φ h/\(∃o,h.get? a=some o)/\∀h1 h2:Heap,φ h1->(∀o,h1.get? a=some o->h2.get? a=some o)->φ h2
def iU(H:Hp)(h:Heap):Prop:=∀a o,H a=some o->bK P w H h a o
end
section
variable {H H':Hp}{h:Heap}{o:HO}
theorem bK.lt(x:bK P w H h a o):a<h.objs.size:=by
 cases o with
 |lst xs=>obtain⟨_,_,_,_,e⟩:=x;exact D4 e
 |tup xs=>obtain⟨_,_,_,p⟩:=x;exact p.lt
 |dK ar=>obtain⟨_,_,_,_,o,_,_,e,_⟩:=x;exact D4 e
 |dT ar=>obtain⟨_,_,_,_,o,_,_,e,_⟩:=x;exact D4 e
 |set S n=>obtain⟨o,_,_,_,e,_⟩:=x;exact D4 e
 |ins C dx fs=>obtain⟨_,_,_,e,_⟩:=x;exact D4 e
 |own y=>obtain⟨_,e⟩:=x;exact D4 e
 |xd fs=>obtain⟨_,⟨_,_,_,e,_⟩,_⟩:=x;exact D4 e
 |VW lo hi=>obtain⟨_,_,_,e⟩:=x;exact D4 e
 |gG ob u=>obtain⟨e,_⟩:=x;exact D4 e
 |AH ps=>exact D4 (show h.get? a=some _ from x)
 |met f y=>exact D4 (show h.get? a=some _ from x)
 |ext φ=>obtain⟨_,⟨_,e⟩,_⟩:=x;exact D4 e
theorem Paired.bR{β:Type}{F G:α->β->Prop}:∀{l₁:List α} {l₂:List β},Paired F l₁ l₂->(∀a b,F a b->G a b)->Paired G l₁ l₂
 |_,_,.nil,_=>.nil
 |_,_,.cons r t,f=>.cons (f _ _ r) (Paired.bR t f)
def bK.gJ(x:bK P w H h a o)(k:∀b u,(b=a\/H b=some (.own a))->h.get? b=some u->h'.get? b=some u)(ho:∀b,H b=some (.own a)->H' b=some (.own a))(ht:∀b xs,H b=some (.tup xs)->H' b=some (.tup xs)):bK P w H' h' a o:=by
 induction o with
 |lst xs=>obtain⟨z,av,n,r,e⟩:=x;exact⟨z,av,n,r,k _ _ (.inl rfl) e⟩
 |tup xs=>obtain⟨z,av,r,ob,e,c⟩:=x;exact⟨z,av,r,ob,k _ _ (.inl rfl) e,c⟩
 |dK ar=>obtain⟨z,y,vs,r,ob,es,ep,e,c⟩:=x;exact⟨z,y,vs,r,ob,es,ep,k _ _ (.inl rfl) e,c⟩
 |dT ar=>obtain⟨z,y,xs,r,ob,es,ep,e,c⟩:=x;exact⟨z,y,xs,Paired.bR r λ p q z=>⟨z.1,ht _ _ z.2.1,z.2.2⟩,ob,es,ep,k _ _ (.inl rfl) e,c⟩
 |set S n=>obtain⟨ob,es,ep,t,e,c⟩:=x;exact⟨ob,es,ep,t,k _ _ (.inl rfl) e,c⟩
 |ins C dx fs=>obtain⟨d,z,ne,e,mA,⟨od,es,ep,e2,c⟩,r⟩:=x;exact⟨ho _ d,z,ne,k _ _ (.inl rfl) e,mA,⟨od,es,ep,k _ _ (.inr d) e2,c⟩,r⟩
 |own y=>obtain⟨ob,e⟩:=x;exact⟨ob,k _ _ (.inl rfl) e⟩
 |xd fs=>obtain⟨mA,⟨od,es,ep,e,c⟩,r⟩:=x;exact⟨mA,⟨od,es,ep,k _ _ (.inl rfl) e,c⟩,r⟩
 |VW lo hi=>obtain⟨t,u,v,e⟩:=x;exact⟨t,u,v,k _ _ (.inl rfl) e⟩
 |gG ob u ih=>obtain⟨e,q⟩:=x;exact⟨k _ _ (.inl rfl) e,ih q⟩
 |AH ps=>have e:h.get? a=some {cls:=.none,data:=.fields ps}:=x;show h'.get? a=some {cls:=.none,data:=.fields ps};exact k a _ (.inl rfl) e
 |met f y=>have e:h.get? a=some (PySem.W.methodObj (.ref f) (.ref y)):=x;show h'.get? a=some (PySem.W.methodObj (.ref f) (.ref y));exact k a _ (.inl rfl) e
 |ext φ=>obtain⟨p,⟨o,e⟩,st⟩:=x;exact⟨st _ _ p λ o q=>k _ _ (.inl rfl) q,⟨o,k _ _ (.inl rfl) e⟩,st⟩
theorem iU.lt(x:iU P w H h)(e:H a=some o):a<h.objs.size:=(x a o e).lt
def iU.fresh(x:iU P w H h)(e:h.objs.size<=a):H a=none:=by
 cases q:H a with
 |none=>rfl
 |some u=>exact bi (p9 (x.lt q) e) (C5 _)
def iU.kept(x:iU P w H h)(k:∀b u,h.get? b=some u->h'.get? b=some u):iU P w H h':=λ a o e=>
 (x a o e).gJ (λ b u _ q=>k b u q) (λ _ q=>q) λ _ _ q=>q
def iU.laid(x:iU P w H h)(k:∀b u,h.get? b=some u->h'.get? b=some u)(hp:h.objs.size<=a)(new:bK P w (lm H a o) h' a o):iU P w (lm H a o) h':=λ b u e=>by
 have hn:=x.fresh hp;by_cases hb:b=a
 ·subst hb;rw[bL]at e;cases e;exact new
 ·rw[aX hb]at e;exact(x b u e).gJ (λ c v _ q=>k c v q) (λ c q=>by rw[aX (cn q hn)];exact q) λ c xs q=>by rw[aX (cn q hn)];exact q
end
def Rd(H:Hp)(a:be)(u:HO):Prop:=H a=some u\/∃o,H a=some (.gG o u)
def Rd.ok{H:Hp}{h:Heap}{u:HO}(r:Rd H a u)(x:iU P w H h):bK P w H h a u:=by
 rcases r with r|⟨o,r⟩
 ·exact x a u r
 ·obtain⟨_,q⟩:=x a _ r;exact q
def Uw:Option HO->Prop
 |some (.lst _)=>True
 |some (.dK _)=>True
 |some (.dT _)=>True
 |some (.set _ _)=>True
 |some (.ins _ _ _)=>True
 |some (.ext _)=>True
 |_=>False
section
variable {H:Hp}{h:Heap}{x e:be}{o':HO}
def iU.write(ok:iU P w H h)(mu:Uw (H x))(he:e=x\/H e=some (.own x))(k:∀b u,b≠e->h.get? b=some u->h'.get? b=some u)(PH:∃u,h'.get? e=some u)(new:bK P w (lm H x o') h' x o'):iU P w (lm H x o') h':=λ b u q=>by
 have SH:∀c y,H c=some (.own y)->c≠x:=λ c y r z=>by subst z;rw[r]at mu;exact mu
 have Wb:∀c xs,H c=some (.tup xs)->c≠x:=λ c xs r z=>by subst z;rw[r]at mu;exact mu
 by_cases hb:b=x
 ·subst hb;rw[bL]at q;cases q;exact new
 ·rw[aX hb]at q;by_cases OB:b=e
  ·have q':H b=some (.own x):=by
    rcases he with z|z
    ·exact bi (OB.trans z) hb
    ·rw[OB];exact z
   rw[q]at q';cases q';obtain⟨v,hv⟩:=PH;exact⟨v,by rw[OB];exact hv⟩
  ·refine(ok b u q).gJ (λ c v hc r=>k c v ?_ r) (λ c r=>by rw[aX (SH c b r)];exact r) λ c xs r=>by rw[aX (Wb c xs r)];exact r
   rcases hc with rfl|hc
   ·exact OB
   ·rintro rfl;rcases he with z|z
    ·exact SH c b hc z
    ·rw[hc]at z;cases z;exact hb rfl
end
structure Un(fs ex:List be)(H H':Hp)(h h':Heap):Prop where
 keep:∀b o,h.get? b=some o->H b=none->b∉fs->b∉ex->h'.get? b=some o
 slot:∀b o,h.get? b=some o->H b=none->b∈fs->b∉ex->∃sl,h'.get? b=some {o with slots:=sl}
 free:∀b o,h.get? b=some o->H b=none->b∉ex->H' b=none
 there:∀b o,h.get? b=some o->b∉ex->∃o',h'.get? b=some o'
 pE:∀b xs,H b=some (.tup xs)->H' b=some (.tup xs)
 nP:∀b o u,H b=some (.gG o u)->H' b=some (.gG o u)
 pJ:∀b ps,H b=some (.AH ps)->∃more,H' b=some (.AH (ps++more))
section
variable {fs fs' ex XE:List be}{H H1 H2:Hp}{h h1 h2:Heap}{x e:be}{o:HO}
def Un.any(u:Un fs ex H H1 h h1){b:be}{ob:Obj}(q:h.get? b=some ob)(n:H b=none)(hx:b∉ex):∃sl,h1.get? b=some {ob with slots:=sl}:=by
 by_cases hb:b∈fs
 ·exact u.slot b ob q n hb hx
 ·exact⟨ob.slots,u.keep b ob q n hb hx⟩
def Un.kept(k:∀b u,h.get? b=some u->h'.get? b=some u):Un fs ex H H h h':=
 ⟨λ b ob q _ _ _=>k b ob q,λ b ob q _ _ _=>⟨ob.slots,k b ob q⟩,λ _ _ _ n _=>n,λ b ob q _=>⟨ob,k b ob q⟩,λ _ _ q=>q,λ _ _ _ q=>q,λ _ ps q=>⟨#[],by rw[q];simp⟩⟩
def Un.refl:Un fs ex H H h h:=Un.kept λ _ _ q=>q
def Un.laid(k:∀b u,h.get? b=some u->h'.get? b=some u)(hp:h.objs.size<=a)(hn:H a=none):Un fs ex H (lm H a o) h h' where
 keep:=λ b u q _ _ _=>k b u q
 slot:=λ b u q _ _ _=>⟨u.slots,k b u q⟩
 free:=λ b u q n _=>by rw[aX (D3 (p9 (D4 q) hp))];exact n
 there:=λ b u q _=>⟨u,k b u q⟩
 pE:=λ b xs q=>by rw[aX (cn q hn)];exact q
 nP:=λ b u xs q=>by rw[aX (cn q hn)];exact q
 pJ:=λ b ps q=>⟨#[],by rw[aX (cn q hn),q];simp⟩
def Un.write(mu:Uw (H x))(he:e=x\/H e=some (.own x))(k:∀b u,b≠e->h.get? b=some u->h'.get? b=some u)(PH:∃u,h'.get? e=some u):Un fs ex H (lm H x o) h h':=by
 have hx:∀b,H b=none->b≠x:=λ b n z=>by subst z;rw[n]at mu;exact mu
 have hb:∀b,H b=none->b≠e:=λ b n z=>by
  subst z;rcases he with r|r
  ·exact hx b n r
  ·rw[n]at r;cases r
 have hm:∀b u,H b=some u->¬Uw (some u)->b≠x:=λ b u q nm z=>by subst z;rw[q]at mu;exact nm mu
 refine⟨λ b u q n _ _=>k b u (hb b n) q,λ b u q n _ _=>⟨u.slots,k b u (hb b n) q⟩,λ b u q n _=>by rw[aX (hx b n)];exact n,λ b u q _=>?_,
  λ b xs q=>by rw[aX (hm b _ q λ z=>z)];exact q,λ b u xs q=>by rw[aX (hm b _ q λ z=>z)];exact q,λ b ps q=>⟨#[],by rw[aX (hm b _ q λ z=>z),q];simp⟩⟩
 by_cases OB:b=e
 ·subst OB;exact PH
 ·exact⟨u,k b u OB q⟩
end
def UI(h:Heap)(H:Hp):List be:=(List.range h.objs.size).filter λ a=>(H a).isSome
def qG(h:Heap)(H:Hp):Heap:=PySem.W.hideAll h (UI h H)
def zX(h:Heap)(H:Hp):(qG h H).objs.size=h.objs.size:=PySem.W.hideAll_size _ _
def Ea{h:Heap}{H:Hp}{b:be}(e:h.get? b=some o)(n:H b=none):(qG h H).get? b=some o:=
 PySem.W.hideAll_get _ e λ hm=>by have q:(H b).isSome=true:=(mem_filter.mp hm).2;rw[n]at q;simp at q
def IL{h:Heap}{H:Hp}{b:be}(e:(qG h H).get? b=some o):h.get? b=some o/\H b=none:=by
 have e':h.get? b=some o:=PySem.W.of_hideAll (UI h H) e;refine⟨e',?_⟩;cases q:H b with
 |none=>rfl
 |some x=>have hm:b∈UI h H:=mem_filter.mpr ⟨bv.mpr (D4 e'),by simp[q]⟩;have z:(qG h H).get? b=none:=PySem.W.hideAll_none (UI h H) hm;rw[z]at e;cases e
structure Mod(K:J8)(mg:Str->Option al)(base:Heap):Prop where
 UW:K.In base
 glob:base.Ns mainGlobals mg
 blt:∃mb,base.Ns builtinsNs mb/\∀x:Str,x≠"__name__"->mb x=bootBuiltins x
 nolimit:base.NoLimit
structure Cx where
 prog:Program
 w:World
 K:J8
 mg:Str->Option al
 base:Heap
 A:Around
 N:List Str
 s₀:am
 H₀:Hp
 env:Env
 outer:List Env
 stack:List Env
 ex:List be
 fn:Str->Bool
 calm:Bool
 pn:List (be×Obj)
 xe:al->am->Prop
abbrev ux(X:Cx)(e:Expr)(es:List Expr):Prop:=starEach (e::es) X.env=(false,eval e X.env)::starEach es X.env
abbrev Kg(X:Cx)(p:Pos)(es:List Expr):Prop:=(backTo p (starEach es X.env)).any (·.1)=false
abbrev nV(x:Str):Prop:=(x==("__debug__":Str))=false
abbrev Z3(x:Str):Prop:=(x==("__classdict__":Str))=false
abbrev Lu(X:Cx)(x:Str):Prop:=X.fn x=true\/X.env.scope.names.lookup x=some .local
abbrev FN(X:Cx)(iter:Expr):Prop:=∀x,foldedSetIterable iter X.env x=pure x
abbrev Ym(X:Cx)(o:Expr)(n:Str):Prop:=attributeBase o n X.env (eval o X.env)=eval o X.env
abbrev Yd(a b:Pos):Prop:=(a.endLine==b.line)=true
abbrev gj(X:Cx):Prop:=X.A.units+64<cLine
abbrev Z6(X:Cx)(p:Pos)(e:Expr)(es:List Expr):Prop:=((backTo p (starEach (e::es) X.env)).all (λ x=>!x.1)&&(backToKw p (keywordEach [] X.env)).all (λ x=>x.1.isSome)&&decide ((e::es).length+([]:List Keyword).length+(if([]:List Keyword).isEmpty then 0 else 1)<30))=true
abbrev Yc(id:String):Prop:=typeOf (.builtin id)=pure (.type "method_descriptor")
abbrev IsT(X:Cx)(e:Expr):Prop:=∀whole,isTrue e X.env whole=(do let v <- whole;standAt e.pos;holding [v] (truthy v))
abbrev Vm(X:Cx):Prop:=PassesOwn (model X.prog X.w) X.A X.env X.xe
def Ac(l:List Env):List be:=l.filterMap (·.frame)
abbrev Cx.fs(X:Cx):List be:=Ac X.outer
def X_(sc:Scope)(x:Str):Prop:=sc.names.lookup x=some .local\/sc.names.lookup x=some .cell\/sc.names.lookup x=some .free
def Loc(sc:Scope)(x:Str):Prop:=sc.names.lookup x=some .local\/sc.names.lookup x=some .cell
def Look(env:Env)(h:Heap)(m:Str->Option al)(x:Str)(u:al):Prop:=
 (env.kindOf x=some .local/\m x=some u)\/((env.kindOf x=some .cell\/env.kindOf x=some .free)/\∃c,env.cells.lookup x=some c/\h.IsCell c (some u))
structure Cx.Ok(X:Cx):Prop where
 mod:Mod X.K X.mg X.base
 kind:X.env.scope.kind=.function
 glob:X.env.globals=mainGlobals
 blt:X.env.builtins=builtinsNs
 above:X.s₀.heap.objs.size<=X.env.locals
 inj:∀x y c,X.env.cells.lookup x=some c->X.env.cells.lookup y=some c->x=y
 has:∀x,(X.env.kindOf x=some .cell\/X.env.kindOf x=some .free)->∃c,X.env.cells.lookup x=some c
 Ul:∀x c,X.fn x=true->X.env.cells.lookup x=some c->X.s₀.heap.objs.size<=c
 hd:X.calm=true->X.A.handled=none
 frames:X.A.frames=some X.stack
 UN:X.stack=X.outer\/(X.stack=X.env::X.outer/\X.env.frame=some X.env.locals)
 ZP:∀b∈X.ex,b≠X.env.locals/\∀x c,X.env.cells.lookup x=some c->c≠b
 bs:∀b o,X.base.get? b=some o->X.s₀.heap.get? b=some o/\X.H₀ b=none
 FI:X.base.objs.size<=X.s₀.heap.objs.size
 zF:∀b o,X.base.get? b=some o->b∉X.ex
 JH:∀b∈X.ex,b∉X.fs
 ll:X.s₀.heap.FunFrames X.base X.outer
 OF:∀b∈X.fs,X.H₀ b=none
structure io(X:Cx)(ce:List (be×Obj))(σ:List (Option V))(H:Hp)(s:am):Prop where
 ok:X.Ok
 os:s.os=X.s₀.os
 bare:AllBare s.gens
 base:Un X.fs X.ex X.H₀ H X.s₀.heap s.heap
 loc:∃m,s.heap.Ns X.env.locals m/\∀(i:Nat)(x:Str)(v:V),X.N[i]?=some x->σ[i]?=some (some v)->X_ X.env.scope x->∃u,lc v u/\Look X.env s.heap m x u
 cell:∀x c,X.env.cells.lookup x=some c->∃v,s.heap.IsCell c v
 free:H X.env.locals=none
 gr:∀x c,X.env.cells.lookup x=some c->H c=none
 pin:∀p∈X.pn++ce,s.heap.get? p.1=some p.2/\H p.1=none/\p.1≠X.env.locals/\p.1∉X.fs/\∀v,p.2.data≠.cell v
 bP:iU X.prog X.w H s.heap
 len:σ.length=X.N.length
section
variable {X:Cx}{σ:List (Option V)}{H H':Hp}
def Cx.Ok.We(ok:X.Ok){b:be}(e:X.base.get? b=some o):b∉X.fs:=λ hb=>by have:=(ok.ll.mem hb).1;rw[e]at this;cases this
theorem io.bs(I:io X ce σ H s):∀b o,X.base.get? b=some o->s.heap.get? b=some o/\H b=none:=λ b o e=>
 ⟨I.base.keep b o (I.ok.bs b o e).1 (I.ok.bs b o e).2 (I.ok.We e) (I.ok.zF b o e),I.base.free b o (I.ok.bs b o e).1 (I.ok.bs b o e).2 (I.ok.zF b o e)⟩
def io.bk(I:io X ce σ H s):∀b o,X.base.get? b=some o->s.heap.get? b=some o:=λ b o e=>(I.bs b o e).1
theorem io.mod(I:io X ce σ H s):Mod X.K X.mg X.base:=I.ok.mod
def io.nN(I:io X ce σ H s):X.K.In s.heap:=I.ok.mod.UW.keeps I.bk
theorem io.lt(I:io X ce σ H s):X.env.locals<s.heap.objs.size:=let⟨_,hn,_⟩:=I.loc;hn.lt
def io.sz(I:io X ce σ H s):X.s₀.heap.objs.size<=s.heap.objs.size:=D7 I.ok.above (G2 I.lt)
def io.Wc(I:io X ce σ H s)(h:s.heap.objs.size<=a):a∉X.fs:=λ hb=>by obtain⟨_,o,ho,_⟩:=I.ok.ll.mem hb;exact bi (p9 (D4 ho) (D7 I.sz h)) (C5 _)
def io.OY(I:io X ce σ H s):∀x c,X.env.cells.lookup x=some c->c≠X.env.locals:=λ x c e z=>by obtain⟨v,o,ho,hd⟩:=I.cell x c e;obtain⟨m,⟨o',es,ep,kL,ie,_⟩,_⟩:=I.loc;rw[z,kL]at ho;cases ho;rw[ie]at hd;cases hd
theorem io.ll(I:io X ce σ H s):s.heap.FunFrames X.base X.outer:=by
 have all:∀(l:List Env),(∀b∈Ac l,b∈X.fs)->X.s₀.heap.FunFrames X.base l->s.heap.FunFrames X.base l:=by
  intro l
  induction l with
  |nil=>intro _ _;trivial
  |cons env r ih=>intro hs hl;obtain⟨hk,⟨L,o,hf,hn,ho,hd⟩,hr⟩:=hl;have hL:L∈X.fs:=hs L (by unfold Ac;rw[filterMap_cons,hf];exact l9);obtain⟨sl,e⟩:=I.base.slot L o ho (I.ok.OF L hL) hL λ z=>I.ok.JH L z hL;exact⟨hk,⟨L,_,hf,hn,e,hd⟩,ih (λ b hb=>hs b (by unfold Ac;rw[filterMap_cons,hf];exact j9 _ hb)) hr⟩
 exact all X.outer (λ _ hb=>hb) I.ok.ll
theorem io.stack(I:io X ce σ H s):s.heap.FunFrames X.base X.stack:=by
 rcases I.ok.UN with e|⟨e,hf⟩
 ·rw[e];exact I.ll
 ·rw[e];obtain⟨m,hn,_⟩:=I.loc;refine .cons (by rw[I.ok.kind];decide) hf hn ?_ I.ll;exact Heap.get?_none_of_le (D7 I.ok.FI I.ok.above)
def io.pL(I:io X ce σ H s):∀b∈Ac X.stack,b∈X.env.locals::X.fs:=λ b hb=>by
 rcases I.ok.UN with e|⟨e,hf⟩
 ·rw[e]at hb;exact j9 _ hb
 ·rw[e]at hb;unfold Ac at hb;rw[filterMap_cons,hf]at hb;exact hb
def io.xa(I:io X ce σ H s):∀b∈Ac X.stack,H b=none:=λ b hb=>by
 rcases C7.mp (I.pL b hb)with e|hb
 ·rw[e];exact I.free
 ·obtain⟨_,o,ho,_⟩:=I.ok.ll.mem hb;exact I.base.free b o ho (I.ok.OF b hb) λ z=>I.ok.JH b z hb
def io.step{g':Array GenState}{d':Drawn}(I:io X ce σ H s)(zZ:∀b∈ch,(b∈X.ex\/X.s₀.heap.objs.size<=b)/\b≠X.env.locals/\(∀x c,X.env.cells.lookup x=some c->c≠b)/\∀p∈X.pn++ce,p.1≠b)(keep:∀b o,b≠X.env.locals->b∉X.fs->b∉ch->s.heap.get? b=some o->H b=none->h'.get? b=some o)(slot:∀b o,b≠X.env.locals->b∈X.fs->b∉ch->s.heap.get? b=some o->H b=none->∃sl,h'.get? b=some {o with slots:=sl})(free:∀b o,b∉ch->s.heap.get? b=some o->H b=none->H' b=none)(there:∀b o,b∉ch->s.heap.get? b=some o->∃o',h'.get? b=some o')(pE:∀b xs,H b=some (.tup xs)->H' b=some (.tup xs))(nP:∀b o u,H b=some (.gG o u)->H' b=some (.gG o u))(pJ:∀b ps,H b=some (.AH ps)->∃more,H' b=some (.AH (ps++more)))(ns:∀m,s.heap.Ns X.env.locals m->h'.Ns X.env.locals m)(bP:iU X.prog X.w H' h')(hg:AllBare g'):io X ce σ H' {s with heap:=h',gens:=g',drawn:=d',toks:=t'}:=by
 have Zh:∀b o,X.s₀.heap.get? b=some o->b≠X.env.locals:=λ b o e=>D3 (p9 (D4 e) I.ok.above);have US:∀b o,X.s₀.heap.get? b=some o->b∉X.ex->b∉ch:=λ b o e hx hb=>by
  rcases(zZ b hb).1 with z|z
  ·exact hx z
  ·exact bi (p9 (D4 e) z) (C5 _)
 have cellK:∀x c,X.env.cells.lookup x=some c->∀v,s.heap.IsCell c v->h'.IsCell c v:=λ x c e v ⟨o,ho,hd⟩=>by
  have SK:c∉ch:=λ z=>(zZ c z).2.2.1 x c e rfl;by_cases hc:c∈X.fs
  ·obtain⟨sl,q⟩:=slot c o (I.OY x c e) hc SK ho (I.gr x c e);exact⟨_,q,hd⟩
  ·exact⟨o,keep c o (I.OY x c e) hc SK ho (I.gr x c e),hd⟩
 refine⟨I.ok,I.os,hg,⟨λ b o e n hb hx=>?_,λ b o e n hb hx=>?_,λ b o e n hx=>?_,λ b o e hx=>?_,λ b xs e=>pE b xs (I.base.pE b xs e),λ b o xs e=>nP b o xs (I.base.nP b o xs e),λ b ps e=>?_⟩,?_,λ x c e=>?_,?_,λ x c e=>?_,λ p hp=>?_,bP,I.len⟩
 ·exact keep b o (Zh b o e) hb (US b o e hx) (I.base.keep b o e n hb hx) (I.base.free b o e n hx)
 ·obtain⟨sl,e1⟩:=I.base.slot b o e n hb hx;obtain⟨sl',e2⟩:=slot b _ (Zh b o e) hb (US b o e hx) e1 (I.base.free b o e n hx);exact⟨sl',e2⟩
 ·obtain⟨o',e1⟩:=I.base.there b o e hx;exact free b o' (US b o e hx) e1 (I.base.free b o e n hx)
 ·obtain⟨o',e1⟩:=I.base.there b o e hx;exact there b o' (US b o e hx) e1
 ·obtain⟨m1,e1⟩:=I.base.pJ b ps e;obtain⟨m2,e2⟩:=pJ b _ e1;exact⟨m1++m2,by rw[e2,Array.append_assoc]⟩
 ·obtain⟨m,hn,hl⟩:=I.loc;refine⟨m,ns m hn,λ i x v e1 e2 e3=>?_⟩;obtain⟨u,r,l⟩:=hl i x v e1 e2 e3;refine⟨u,r,?_⟩;rcases l with l|⟨k,c,e,z⟩
  ·exact .inl l
  ·exact .inr ⟨k,c,e,cellK x c e _ z⟩
 ·obtain⟨v,z⟩:=I.cell x c e;exact⟨v,cellK x c e v z⟩
 ·obtain⟨m,⟨o,_,_,ho,_⟩,_⟩:=I.loc;exact free _ o (λ z=>(zZ _ z).2.1 rfl) ho I.free
 ·obtain⟨v,o,ho,hd⟩:=I.cell x c e;exact free c o (λ z=>(zZ c z).2.2.1 x c e rfl) ho (I.gr x c e)
 ·obtain⟨e,n,ne,nf,d⟩:=I.pin p hp;have SK:p.1∉ch:=λ z=>(zZ p.1 z).2.2.2 p hp rfl;exact⟨keep p.1 p.2 ne nf SK e n,free p.1 p.2 SK e n,ne,nf,d⟩
def io.un(I:io X ce σ H s)(u:Un X.fs [] H H' s.heap h')(bP:iU X.prog X.w H' h'):io X ce σ H' {s with heap:=h',toks:=t'}:=by
 obtain⟨m,⟨o,es,ep,ho,r⟩,_⟩:=id I.loc;obtain⟨sl,hL⟩:=u.any ho I.free (by simp);exact I.step (g':=s.gens) (d':=s.drawn) (ch:=[]) (λ _ z=>nomatch z) (λ b o _ hb _ e n=>u.keep b o e n hb (by simp)) (λ b o _ hb _ e n=>u.slot b o e n hb (by simp)) (λ b o _ e n=>u.free b o e n (by simp)) (λ b o _ e=>u.there b o e (by simp)) u.pE u.nP u.pJ (λ m' hm=>by
  obtain⟨o',OI,XG,kL,r'⟩:=hm;rw[ho]at kL;cases kL;exact⟨_,OI,XG,hL,r'⟩) bP I.bare
def io.call{g':Array GenState}{d':Drawn}(I:io X ce σ H s)(u:Un (Ac X.stack) ch H H' s.heap h')(bP:iU X.prog X.w H' h')(hg:AllBare g')(zZ:∀b∈ch,(b∈X.ex\/X.s₀.heap.objs.size<=b)/\b≠X.env.locals/\(∀x c,X.env.cells.lookup x=some c->c≠b)/\∀p∈X.pn++ce,p.1≠b):io X ce σ H' {s with heap:=h',gens:=g',drawn:=d',toks:=t'}:=by
 obtain⟨m,⟨o,es,ep,ho,r⟩,_⟩:=id I.loc;obtain⟨sl,hL⟩:=u.any ho I.free λ z=>(zZ _ z).2.1 rfl;exact I.step (ch:=ch) zZ (λ b o hL hb hc e n=>u.keep b o e n (λ z=>(C7.mp (I.pL b z)).elim hL hb) hc) (λ b o _ _ hc e n=>u.any e n hc) (λ b o hc e n=>u.free b o e n hc) (λ b o hc e=>u.there b o e hc) u.pE u.nP u.pJ (λ m' hm=>by
  obtain⟨o',OI,XG,kL,r'⟩:=hm;rw[ho]at kL;cases kL;exact⟨_,OI,XG,hL,r'⟩) bP hg
def io.turned{it:be}(I:io X ce σ H s)(k:∀b o,b≠it->s.heap.get? b=some o->h'.get? b=some o)(hn:H it=none)(hL:it≠X.env.locals)(h1:it∈X.ex\/X.s₀.heap.objs.size<=it)(h2:∀x c,X.env.cells.lookup x=some c->c≠it)(h3:∀p∈X.pn++ce,p.1≠it):io X ce σ H {s with heap:=h',toks:=t'}:=by
 have SJ:∀b u,H b=some u->b≠it:=λ b u e z=>by rw[z,hn]at e;cases e
 refine I.step (g':=s.gens) (d':=s.drawn) (ch:=[it]) (λ b hb=>?_) (λ b o _ _ hc e _=>k b o (λ z=>hc (by simp[z])) e) (λ b o _ _ hc e _=>⟨o.slots,k b o (λ z=>hc (by simp[z])) e⟩) (λ _ _ _ _ n=>n)
  (λ b o hc e=>⟨o,k b o (λ z=>hc (by simp[z])) e⟩) (λ _ _ e=>e) (λ _ _ _ e=>e) (λ b ps e=>⟨#[],by rw[e];simp⟩) (λ m hm=>?_) (λ b u e=>?_) I.bare
 ·have e:b=it:=by simpa using hb
  subst e;exact⟨h1,hL,h2,h3⟩
 ·obtain⟨o,es,ep,ho,r⟩:=hm;exact⟨o,es,ep,k _ o (J4 hL) ho,r⟩
 ·refine(I.bP b u e).gJ (λ c v hc q=>k c v ?_ q) (λ _ q=>q) λ _ _ q=>q;rcases hc with z|z
  ·rw[z];exact SJ b u e
  ·exact SJ c _ z
def io.tok(I:io X ce σ H s)(t:Nat):io X ce σ H {s with toks:=t}:=I.un (h':=s.heap) (t':=t) Un.refl I.bP
theorem io.kept(I:io X ce σ H s)(k:∀b u,s.heap.get? b=some u->h'.get? b=some u):io X ce σ H {s with heap:=h',toks:=t'}:=I.un (Un.kept k) (I.bP.kept k)
theorem io.laid{o:HO}(I:io X ce σ H s)(k:∀b u,s.heap.get? b=some u->h'.get? b=some u)(hp:s.heap.objs.size<=a)(new:bK X.prog X.w (lm H a o) h' a o):io X ce σ (lm H a o) {s with heap:=h',toks:=t'}:=I.un (Un.laid k hp (I.bP.fresh hp)) (I.bP.laid k hp new)
theorem io.write{x e:be}{o:HO}(I:io X ce σ H s)(mu:Uw (H x))(he:e=x\/H e=some (.own x))(k:∀b u,b≠e->s.heap.get? b=some u->h'.get? b=some u)(PH:∃u,h'.get? e=some u)(new:bK X.prog X.w (lm H x o) h' x o):io X ce σ (lm H x o) {s with heap:=h',toks:=t'}:=I.un (Un.write mu he k PH) (I.bP.write mu he k PH new)
def io.weak{σ':List (Option V)}(I:io X ce σ H s)(hl:σ'.length=σ.length)(w:∀(i:Nat) v,σ'[i]?=some (some v)->σ[i]?=some (some v)):io X ce σ' H s:=
 ⟨I.ok,I.os,I.bare,I.base,let⟨m,hn,rC⟩:=I.loc;⟨m,hn,λ i x v e1 e2 e3=>rC i x v e1 (w i v e2) e3⟩,I.cell,I.free,I.gr,I.pin,I.bP,hl.trans I.len⟩
def io.cE{pins':List (be×Obj)}(I:io X ce σ H s)(h:∀p∈pins',s.heap.get? p.1=some p.2/\H p.1=none/\p.1≠X.env.locals/\p.1∉X.fs/\∀v,p.2.data≠.cell v):io X pins' σ H s:=
 ⟨I.ok,I.os,I.bare,I.base,I.loc,I.cell,I.free,I.gr,λ p hp=>(B5.mp hp).elim (λ z=>I.pin p (k5 _ z)) (h p),I.bP,I.len⟩
def sF{N:List Str}(hN:N.Nodup){j:Nat}{x:Str}(a:N[i]?=some x)(b:N[j]?=some x):i=j:=by obtain⟨h1,e1⟩:=c5.mp a;obtain⟨h2,e2⟩:=c5.mp b;exact(getElem_inj hN).mp (e1.trans e2.symm)
def ou{M:Model}{x:Str}{v:V}{Q:Unit->am->Prop}(I:io X ce σ H s)(hN:X.N.Nodup)(hi:X.N[i]?=some x)(hx:Loc X.env.scope x)(r:lc v u)(h:∀s',io X ce (σ.set i (some v)) H s'->(∃a,Heap.SameBut a s.heap s'.heap/\(a=X.env.locals\/X.env.cells.lookup x=some a))->Q .unit s')(hf:Lu X x:=by first|exact .inl rfl|exact .inr rfl|assumption):wpAny M A (storeName X.env x u) Q E s:=by
 obtain⟨m,hn,hl⟩:=id I.loc;have Xn:(X.env.scope.kind==.class||(X.env.scope.kind==.module&&X.env.locals != X.env.globals))=false:=by rw[I.ok.kind];rfl
 have ZA:i < σ.length:=by rw[I.len];exact(c5.mp hi).1
 have OY:=I.OY;have tracked:∀{a:be} {h':Heap},(∃o,s.heap.get? a=some o/\H a=none)->Heap.SameBut a s.heap h'->iU X.prog X.w H h':=λ{a h'} ha hs b ob e=>by
  obtain⟨_,_,La⟩:=ha;refine(I.bP b ob e).gJ (λ c w' hc q=>(hs.2 c ?_).trans q) (λ _ q=>q) λ _ _ q=>q;rintro rfl;rcases hc with rfl|hc
  ·rw[La]at e;cases e
  ·rw[La]at hc;cases hc
 rcases hx with hk|hk
 ·refine wpAny_storeName_local hk hn (λ h' hn' hs=>?_) Xn;obtain⟨oL,_,_,hoL,_⟩:=id hn;refine h _ ⟨I.ok,I.os,I.bare,⟨λ b o e n hb hx=>?_,λ b o e n hb hx=>?_,I.base.free,λ b o e hx=>?_,I.base.pE,I.base.nP,I.base.pJ⟩,⟨_,hn',λ j y v' e1 e2 e3=>?_⟩,λ y c e=>?_,I.free,I.gr,λ p hp=>?_,tracked ⟨oL,hoL,I.free⟩ hs,by simpa using I.len⟩ ⟨_,hs,.inl rfl⟩
  ·exact(hs.2 b (D3 (p9 (D4 e) I.ok.above))).trans (I.base.keep b o e n hb hx)
  ·obtain⟨sl,e1⟩:=I.base.slot b o e n hb hx;exact⟨sl,(hs.2 b (D3 (p9 (D4 e) I.ok.above))).trans e1⟩
  ·obtain⟨o',e1⟩:=I.base.there b o e hx;exact⟨o',(hs.2 b (D3 (p9 (D4 e) I.ok.above))).trans e1⟩
  ·by_cases hj:j=i
   ·subst hj;rw[hi]at e1;cases e1;rw[getElem?_set_self ZA]at e2;cases e2;exact⟨u,r,.inl ⟨hk,by simp⟩⟩
   ·rw[k9 (J4 hj)]at e2;obtain⟨u',r',q⟩:=hl j y v' e1 e2 e3;refine⟨u',r',?_⟩;rcases q with⟨k,e⟩|⟨k,c,e,z⟩
    ·refine .inl ⟨k,?_⟩;have:y≠x:=λ e=>hj (sF hN e1 (e▸hi));simp[this,e]
    ·exact .inr ⟨k,c,e,z.sameBut hs (OY y c e)⟩
  ·obtain⟨w',z⟩:=I.cell y c e;exact⟨w',z.sameBut hs (OY y c e)⟩
  ·obtain⟨e,n,ne,nf,d⟩:=I.pin p hp;exact⟨(hs.2 p.1 ne).trans e,n,ne,nf,d⟩
 ·have Xj:X.fn x=true:=by
   rcases hf with z|z
   ·exact z
   ·rw[z]at hk;cases hk
  obtain⟨c,hc⟩:=I.ok.has x (.inl hk);obtain⟨w',z⟩:=I.cell x c hc;refine wpAny_storeName_cell I.ok.kind hk hc z (λ h' uJ hs=>?_);obtain⟨oc,Zw,W6⟩:=id z;refine h {s with heap:=h'} ⟨I.ok,I.os,I.bare,⟨λ b o e n hb hx=>?_,λ b o e n hb hx=>?_,I.base.free,λ b o e hx=>?_,I.base.pE,I.base.nP,I.base.pJ⟩,⟨m,hn.sameBut hs (J4 (OY x c hc)),λ j y v' e1 e2 e3=>?_⟩,λ y c' e=>?_,I.free,I.gr,λ p hp=>?_,tracked ⟨oc,Zw,I.gr x c hc⟩ hs,by simpa using I.len⟩ ⟨c,hs,.inr hc⟩
  ·exact(hs.2 b (D3 (p9 (D4 e) (I.ok.Ul x c Xj hc)))).trans (I.base.keep b o e n hb hx)
  ·obtain⟨sl,e1⟩:=I.base.slot b o e n hb hx;exact⟨sl,(hs.2 b (D3 (p9 (D4 e) (I.ok.Ul x c Xj hc)))).trans e1⟩
  ·obtain⟨o',e1⟩:=I.base.there b o e hx;exact⟨o',(hs.2 b (D3 (p9 (D4 e) (I.ok.Ul x c Xj hc)))).trans e1⟩
  ·by_cases hj:j=i
   ·subst hj;rw[hi]at e1;cases e1;rw[getElem?_set_self ZA]at e2;cases e2;exact⟨u,r,.inr ⟨.inl hk,c,hc,uJ⟩⟩
   ·rw[k9 (J4 hj)]at e2;obtain⟨u',r',q⟩:=hl j y v' e1 e2 e3;refine⟨u',r',?_⟩;rcases q with q|⟨k,c',e,z'⟩
    ·exact .inl q
    ·refine .inr ⟨k,c',e,z'.sameBut hs ?_⟩;rintro rfl;exact hj (sF hN e1 (I.ok.inj _ _ _ e hc▸hi))
  ·by_cases ZG:c'=c
   ·subst ZG;exact⟨_,uJ⟩
   ·obtain⟨w2,z2⟩:=I.cell y c' e;exact⟨w2,z2.sameBut hs ZG⟩
  ·obtain⟨e,n,ne,nf,d⟩:=I.pin p hp;refine⟨(hs.2 p.1 ?_).trans e,n,ne,nf,d⟩;intro q;rw[q,Zw]at e;have q':oc=p.2:=B0 e;exact d w' (by rw[<- q'];exact W6)
def rN{M:Model}{x:Str}{v:V}{Q:Unit->am->Prop}(I:io X ce σ H s)(hN:X.N.Nodup)(hi:X.N[i]?=some x)(hx:Loc X.env.scope x)(r:lc v u)(h:∀s',io X ce (σ.set i (some v)) H s'->Q .unit s')(hf:Lu X x:=by first|exact .inl rfl|exact .inr rfl|assumption):wpAny M A (storeName X.env x u) Q E s:=
 ou I hN hi hx r (λ s' I' _=>h s' I') hf
def io.Uk{s':am}(I:io X ce σ H s)(ho:s'.os=s.os)(u:Un (Ac X.stack) ch H H' s.heap s'.heap)(bP:iU X.prog X.w H' s'.heap)(hg:AllBare s'.gens)(zZ:∀b∈ch,(b∈X.ex\/X.s₀.heap.objs.size<=b)/\b≠X.env.locals/\(∀x c,X.env.cells.lookup x=some c->c≠b)/\∀p∈X.pn++ce,p.1≠b):io X ce σ H' s':=by obtain⟨h',g',d',t',o'⟩:=s';have e:o'=s.os:=ho;subst e;exact I.call (g':=g') (t':=t') (d':=d') u bP hg zZ
end
abbrev XK:=al->Option be->Hp->Prop
abbrev St:=List (Option V)
abbrev VK:=V->Hp->Prop
abbrev TE:=St->Hp->VK->Prop
abbrev TT:=St->Hp->(Bool->Hp->Prop)->Prop
abbrev TA:=St->Hp->(List V->Hp->Prop)->Prop
structure Ends where
 nx:St->Hp->Prop
 rt:VK
 bk:St->Hp->Prop:=λ _ _=>False
 ct:St->Hp->Prop:=λ _ _=>False
abbrev TS:=Ends->St->Hp->Prop
def EP(X:Cx)(ce:List (be×Obj))(σ:St)(Q:VK)(u:al)(s':am):Prop:=∃v H',io X ce σ H' s'/\lc v u/\Q v H'
def TP(X:Cx)(ce:List (be×Obj))(σ:St)(Q:Bool->Hp->Prop)(b:Bool)(s':am):Prop:=∃H',io X ce σ H' s'/\Q b H'
def AP(X:Cx)(ce:List (be×Obj))(σ:St)(Q:List V->Hp->Prop)(us:List al)(s':am):Prop:=∃vs H',io X ce σ H' s'/\li vs us/\Q vs H'
def SP(X:Cx)(ce:List (be×Obj))(D:Ends)(f:Flow)(s':am):Prop:=
 match f with
 | .next=>∃σ' H',io X ce σ' H' s'/\D.nx σ' H'
 | .brk=>∃σ' H',io X ce σ' H' s'/\D.bk σ' H'
 | .cont=>∃σ' H',io X ce σ' H' s'/\D.ct σ' H'
 | .ret u=>∃v σ' H',io X ce σ' H' s'/\lc v u/\D.rt v H'
def PE(X:Cx)(e:Expr)(t:TE):Prop:=
 ∀(ce:List (be×Obj))(s:am)(σ:St)(H:Hp)(Q:VK),io X ce σ H s->t σ H Q->wpAny (model X.prog X.w) X.A (eval e X.env) (EP X ce σ Q) X.xe s
def PT(X:Cx)(e:Expr)(t:TT):Prop:=
 ∀(ce:List (be×Obj))(s:am)(σ:St)(H:Hp)(Q:Bool->Hp->Prop),io X ce σ H s->t σ H Q->wpAny (model X.prog X.w) X.A (isTrue e X.env (eval e X.env)) (TP X ce σ Q) X.xe s
def PW(X:Cx)(e:Expr)(t:TT):Prop:=
 ∀(whole:Sem al)(ce:List (be×Obj))(s:am)(σ:St)(H:Hp)(Q:Bool->Hp->Prop),io X ce σ H s->t σ H Q->wpAny (model X.prog X.w) X.A (isTrue e X.env whole) (TP X ce σ Q) X.xe s
def PW.pt{X:Cx}{t:TT}(h:PW X e t):PT X e t:=h _
def PA(X:Cx)(es:List Expr)(t:TA):Prop:=
 ∀(pos:Pos)(ce:List (be×Obj))(s:am)(σ:St)(H:Hp)(Q:List V->Hp->Prop),io X ce σ H s->t σ H Q->wpAny (model X.prog X.w) X.A (spliced (backTo pos (starEach es X.env))) (AP X ce σ Q) X.xe s
def PS(X:Cx)(st:Stmt)(t:TS):Prop:=
 ∀(ce:List (be×Obj))(s:am)(σ:St)(H:Hp)(D:Ends),io X ce σ H s->t D σ H->wpAny (model X.prog X.w) X.A (exec st X.env) (SP X ce D) X.xe s
def uA(X:Cx)(st:List Stmt)(t:TS):Prop:=
 ∀(ce:List (be×Obj))(s:am)(σ:St)(H:Hp)(D:Ends),io X ce σ H s->t D σ H->wpAny (model X.prog X.w) X.A (execs st X.env) (SP X ce D) X.xe s
def cq{t:Sem α}{Q Q':α->am->Prop}{M:Model}(h:wpAny M A t Q E s)(hQ:∀a s,Q a s->Q' a s):wpAny M A t Q' E s:=J0 h hQ λ _ _ x=>x
section
variable {X:Cx}
def VI(i:Nat):TE:=λ σ H Q=>∃v,σ[i]?=some (some v)/\Q v H
def tC(v:V):TE:=λ _ H Q=>Q v H
def MU{x:Str}(hN:X.N[i]?=some x)(hv:X_ X.env.scope x)(hd:nV x:=by decide)(Ec:Z3 x:=by decide):PE X (.Name x pos) (VI i):=by
 intro ce s σ H Q I h;obtain⟨v,e,h⟩:=h;obtain⟨m,hn,hl⟩:=I.loc;obtain⟨u,r,l⟩:=hl i x v hN e hv;have fin:EP X ce σ Q u s:=⟨v,H,I,r,h⟩;rcases l with⟨hk,hm⟩|⟨hk,c,hc,Lb⟩
 ·exact wpAny_Name (wpAny_loadName_local I.ok.kind hk hn hm fin) hd
 ·rcases hk with hk|hk
  ·exact wpAny_Name (wpAny_loadName_cell I.ok.kind hk hc Lb fin) hd
  ·exact wpAny_Name (wpAny_loadName_free I.ok.kind hk hc Lb fin Ec) hd
def CD{i j pos:_}:PE X (.Constant (.int i) j pos) (tC (.int i)):=λ _ _ _ H _ I h=>wpAny_Constant_int ⟨.int i,H,I.tok _,⟨_,rfl⟩,h⟩
def RP{b j pos:_}:PE X (.Constant (.bool b) j pos) (tC (.bl b)):=λ _ _ _ H _ I h=>Constant_bool ⟨.bl b,H,I,rfl,h⟩
def MZ{j pos:_}:PE X (.Constant .none j pos) (tC .bh):=λ _ _ _ H _ I h=>Constant_none ⟨.bh,H,I,rfl,h⟩
def MW{x j pos:_}:PE X (.Constant (.str x) j pos) (tC (.str x)):=λ _ _ _ H _ I h=>Calls.Constant_str ⟨.str x,H,I.tok _,⟨_,rfl⟩,h⟩
def Gl(X:Cx)(x:Str):Prop:=X.env.kindOf x=some .globalImplicit
def qr{σ:St}{H:Hp}{x:Str}(I:io X ce σ H s)(hg:Gl X x)(hm:X.mg x=some u)(h:Q u s)(hd:nV x:=by decide):wpAny (model X.prog X.w) X.A (eval (.Name x pos) X.env) Q E s:=
 Calls.Name_function_global I.ok.kind hg (Calls.loadGlobal_global (by rw[I.ok.glob];exact I.mod.glob.keeps I.bk) hm h) hd
def eI{σ:St}{H:Hp}{x:Str}(I:io X ce σ H s)(hg:Gl X x)(hm:X.mg x=none)(hv:bootBuiltins x=some u)(h:Q u s)(hn:x≠"__name__":=by decide)(hd:nV x:=by decide):wpAny (model X.prog X.w) X.A (eval (.Name x pos) X.env) Q E s:=by obtain⟨mb,h1,h2⟩:=I.mod.blt;exact Calls.Name_function_global I.ok.kind hg (Calls.loadGlobal_builtin (by rw[I.ok.glob];exact I.mod.glob.keeps I.bk) hm (by rw[I.ok.blt];exact h1.keeps I.bk) ((h2 x hn).trans hv) h) hd
def xD{x:Str}{v:V}(hg:Gl X x)(hm:X.mg x=some u)(r:lc v u)(hd:nV x:=by decide):PE X (.Name x pos) (tC v):=
 λ _ _ _ H _ I h=>qr I hg hm ⟨v,H,I,r,h⟩ hd
def Ik{x:Str}{v:V}(hg:Gl X x)(hm:X.mg x=none)(hv:bootBuiltins x=some u)(r:lc v u)(hn:x≠"__name__":=by decide)(hd:nV x:=by decide):PE X (.Name x pos) (tC v):=
 λ _ _ _ H _ I h=>eI I hg hm hv ⟨v,H,I,r,h⟩ hn hd
variable {a b:Expr}{ta tb:TE}
def tB(t:TE):TT:=λ σ H Q=>t σ H λ x H1=>∃c,x=.bl c/\Q c H1
def MG{t:TE}(h:PE X e t)(he:IsT X e:=by intro _;rfl):PT X e (tB t):=by intro ce s σ H Q I hw;refine isTrue_plain (cq (h ce s σ H _ I hw) λ v s1 ⟨x,H1,I1,r1,q1⟩=>?_) (he _);obtain⟨d,rfl,q⟩:=q1;cases r1;exact y1 ⟨H1,I1,q⟩
variable {tA UM:TT}
def VS(t u:TT):TT:=λ σ H Q=>t σ H λ c H1=>if c=true then u σ H1 Q else Q false H1
def tOr(t u:TT):TT:=λ σ H Q=>t σ H λ c H1=>if c=true then Q true H1 else u σ H1 Q
def VO(t:TT):TT:=λ σ H Q=>t σ H λ c H1=>Q (!c) H1
def HS(ha:PT X a tA):PW X (.BoolOp .And [a] pos) tA:=by
 intro wh ce s σ H Q I h;refine isTrue_and (cq (ha ce s σ H Q I h) λ c s1 e=>?_);cases c with
 |true=>exact isTrue_and_nil e
 |false=>exact e
def ME(ha:PT X a tA):PW X (.BoolOp .Or [a] pos) tA:=by
 intro wh ce s σ H Q I h;refine isTrue_or (cq (ha ce s σ H Q I h) λ c s1 e=>?_);cases c with
 |false=>exact isTrue_or_nil e
 |true=>exact e
def MF(ha:PT X a tA)(hb:PW X (.BoolOp .And (b::rest) pos) UM):PW X (.BoolOp .And (a::b::rest) pos) (VS tA UM):=by
 intro wh ce s σ H Q I h;refine isTrue_and (cq (ha ce s σ H _ I h) λ c s1 ⟨H1,I1,q1⟩=>?_);cases c with
 |true=>exact hb wh ce s1 σ H1 Q I1 q1
 |false=>exact⟨H1,I1,q1⟩
def RH(ha:PT X a tA)(hb:PW X (.BoolOp .Or (b::rest) pos) UM):PW X (.BoolOp .Or (a::b::rest) pos) (tOr tA UM):=by
 intro wh ce s σ H Q I h;refine isTrue_or (cq (ha ce s σ H _ I h) λ c s1 ⟨H1,I1,q1⟩=>?_);cases c with
 |true=>exact⟨H1,I1,q1⟩
 |false=>exact hb wh ce s1 σ H1 Q I1 q1
def MH(ha:PT X a tA):PT X (.UnaryOp .Not a pos) (VO tA):=by intro ce s σ H Q I h;exact isTrue_not (ha ce s σ H (λ c H1=>Q (!c) H1) I h)
def Qp(ta tb:TE):TE:=λ σ H Q=>ta σ H λ x H1=>∃c,x=.bl c/\if c=true then tb σ H1 Q else Q (.bl false) H1
def VN(ta tb:TE):TE:=λ σ H Q=>ta σ H λ x H1=>∃c,x=.bl c/\if c=true then Q (.bl true) H1 else tb σ H1 Q
def Ql(ta:TE):TE:=λ σ H Q=>ta σ H λ x H1=>∃c,x=.bl c/\Q (.bl (!c)) H1
def MX{op:_}{t:TE}(h:PE X a t):PE X (.BoolOp op [a] pos) t:=λ ce s σ H Q I hw=>BoolOp_one (h ce s σ H Q I hw)
def Nb(ha:PE X a ta)(hb:PE X (.BoolOp .And (b::rest) pos) tb):PE X (.BoolOp .And (a::b::rest) pos) (Qp ta tb):=by
 intro ce s σ H Q I h;refine BoolOp_and (cq (ha ce s σ H _ I h) λ v s1 ⟨x,H1,I1,r1,q1⟩=>?_);obtain⟨c,rfl,q1⟩:=q1;cases r1;refine y1 ?_;cases c with
 |true=>exact hb ce s1 σ H1 Q I1 q1
 |false=>exact⟨.bl false,H1,I1,rfl,q1⟩
def RM(ha:PE X a ta)(hb:PE X (.BoolOp .Or (b::rest) pos) tb):PE X (.BoolOp .Or (a::b::rest) pos) (VN ta tb):=by
 intro ce s σ H Q I h;refine BoolOp_or (cq (ha ce s σ H _ I h) λ v s1 ⟨x,H1,I1,r1,q1⟩=>?_);obtain⟨c,rfl,q1⟩:=q1;cases r1;refine y1 ?_;cases c with
 |false=>exact hb ce s1 σ H1 Q I1 q1
 |true=>exact⟨.bl true,H1,I1,rfl,q1⟩
def MY(ha:PE X a ta):PE X (.UnaryOp .Not a pos) (Ql ta):=by intro ce s σ H Q I h;refine UnaryOp_ (cq (ha ce s σ H _ I h) λ v s1 ⟨x,H1,I1,r1,q1⟩=>?_);obtain⟨c,rfl,q1⟩:=q1;cases r1;exact not_of (y1 ⟨.bl (!c),H1,I1,rfl,q1⟩)
def tIf(t:TT)(ta tb:TE):TE:=λ σ H Q=>t σ H λ c H1=>if c=true then ta σ H1 Q else tb σ H1 Q
def CF{c:Expr}(hc:PT X c tA)(ha:PE X a ta)(hb:PE X b tb):PE X (.IfExp c a b pos) (tIf tA ta tb):=by
 intro ce s σ H Q I h;refine wpAny_IfExp (cq (hc ce s σ H _ I h) λ d s1 ⟨H1,I1,q1⟩=>?_);cases d with
 |true=>exact ha ce s1 σ H1 Q I1 q1
 |false=>exact hb ce s1 σ H1 Q I1 q1
end
def dv(K:J8)(H:Hp)(a:be)(xs:List V):Prop:=
 Rd H a (.lst xs)\/
  ∃(o:Obj)(av:Array al)(n:Nat),K.lookup a=some o/\o.cls=.type "list"/\o.dict=none/\o.data=.seq av n/\av.size<=sizeLine/\li xs av.toList
def fj(K:J8)(H:Hp)(a:be)(xs:List V):Prop:=
 Rd H a (.tup xs)\/
  ∃(o:Obj)(av:Array al)(n:Nat),K.lookup a=some o/\o.cls=.type "tuple"/\o.data=.seq av n/\av.size<=sizeLine/\li xs av.toList
def XY:al->Option V
 | .none=>some .bh
 | .bool b=>some (.bl b)
 | .int i _=>some (.int i)
 | .str x _=>some (.str x)
 | .bytes b _=>some (.Fe b)
 | .float b _=>some (.PN b)
 | .ref a=>some (.ref a)
 | .type n=>some (.ty n)
 |_=>none
def lc.abs{x:V}(r:lc x u):XY u=some x:=by
 cases x with
 |bh=>cases r;rfl
 |bl _=>cases r;rfl
 |int _=>obtain⟨t,rfl⟩:=r;rfl
 |str _=>obtain⟨t,rfl⟩:=r;rfl
 |Fe _=>obtain⟨t,rfl⟩:=r;rfl
 |PN _=>obtain⟨t,rfl⟩:=r;rfl
 |ref _=>cases r;rfl
 |ty _=>cases r;rfl
def lc.inj{x y:V}(r:lc x u)(q:lc y u):x=y:=B0 (r.abs.symm.trans q.abs)
theorem li.inj:∀{xs ys:List V} {us:List al},li xs us->li ys us->xs=ys
 |_,_,_,.nil,.nil=>rfl
 |_,_,_,.cons r t,.cons r' t'=>by rw[r.inj r',li.inj t t']
section
variable {X:Cx}{σ:St}{H:Hp}{xs ys:List V}
def dv.of(h:H a=some (.lst xs)):dv K H a xs:=.inl (.inl h)
def fj.of(h:H a=some (.tup xs)):fj K H a xs:=.inl (.inl h)
def io.list(I:io X ce σ H s)(h:dv X.K H a xs):∃av:List al,li xs av/\PlainL s.heap a av.toArray/\xs.length<=sizeLine:=by
 rcases h with h|⟨o,av,n,hk,hc,hd,hs,hz,r⟩
 ·obtain⟨z,av,n,r,e⟩:=h.ok I.bP;exact⟨av,r,⟨_,n,e,rfl,rfl,rfl⟩,z⟩
 ·refine⟨av.toList,r,⟨o,n,I.nN a o hk,hc,hd,by simpa using hs⟩,?_⟩;have e:=r.length;simp only[l6]at e;lia
def io.tuple(I:io X ce σ H s)(h:fj X.K H a xs):∃av:List al,li xs av/\IsTup s.heap a av.toArray/\xs.length<=sizeLine:=by
 rcases h with h|⟨o,av,n,hk,hc,hs,hz,r⟩
 ·obtain⟨z,av,r,p⟩:=h.ok I.bP;exact⟨av,r,p,z⟩
 ·refine⟨av.toList,r,⟨o,I.nN a o hk,hc,n,by simpa using hs⟩,?_⟩;have e:=r.length;simp only[l6]at e;lia
def io.sN(I:io X ce σ H s)(h:dv X.K H a xs)(h':dv X.K H a ys):xs=ys:=by
 obtain⟨av,r,⟨o,n,e,_,_,d⟩,_⟩:=I.list h;obtain⟨its',r',⟨o',n',e',_,_,d'⟩,_⟩:=I.list h';rw[e]at e';cases e';rw[d]at d';injection d' with d1 _
 have:av=its':=by simpa using J3 Array.toList d1
 subst this;exact r.inj r'
def io.oo(I:io X ce σ H s)(h:fj X.K H a xs)(h':fj X.K H a ys):xs=ys:=by
 obtain⟨av,r,⟨o,e,_,n,d⟩,_⟩:=I.tuple h;obtain⟨its',r',⟨o',e',_,n',d'⟩,_⟩:=I.tuple h';rw[e]at e';cases e';rw[d]at d';injection d' with d1 _
 have:av=its':=by simpa using J3 Array.toList d1
 subst this;exact r.inj r'
end
abbrev Cx.nH(X:Cx)(E:al->am->Prop):Cx:={X with xe:=E}
abbrev Cx.Pu(X:Cx):Cx:=X.nH λ _ _=>False
theorem Cx.Ok.nH{X:Cx}(ok:X.Ok)(E:al->am->Prop):(X.nH E).Ok:=
 ⟨ok.mod,ok.kind,ok.glob,ok.blt,ok.above,ok.inj,ok.has,ok.Ul,ok.hd,ok.frames,ok.UN,ok.ZP,ok.bs,ok.FI,ok.zF,ok.JH,ok.ll,ok.OF⟩
def Cx.Ok.gI{X:Cx}(ok:(X.nH E).Ok):X.Ok:=
 ⟨ok.mod,ok.kind,ok.glob,ok.blt,ok.above,ok.inj,ok.has,ok.Ul,ok.hd,ok.frames,ok.UN,ok.ZP,ok.bs,ok.FI,ok.zF,ok.JH,ok.ll,ok.OF⟩
section
variable {X:Cx}{σ:St}{H:Hp}
theorem io.nH(I:io X ce σ H s)(E:al->am->Prop):io (X.nH E) ce σ H s:=⟨I.ok.nH E,I.os,I.bare,I.base,I.loc,I.cell,I.free,I.gr,I.pin,I.bP,I.len⟩
theorem io.gI(I:io (X.nH E) ce σ H s):io X ce σ H s:=⟨I.ok.gI,I.os,I.bare,I.base,I.loc,I.cell,I.free,I.gr,I.pin,I.bP,I.len⟩
theorem SP.gI{D:Ends}{f:Flow}{s':am}(h:SP (X.nH E) ce D f s'):SP X ce D f s':=by
 cases f with
 |next=>obtain⟨σ',H',I,q⟩:=h;exact⟨σ',H',I.gI,q⟩
 |brk=>obtain⟨σ',H',I,q⟩:=h;exact⟨σ',H',I.gI,q⟩
 |cont=>obtain⟨σ',H',I,q⟩:=h;exact⟨σ',H',I.gI,q⟩
 |ret u=>obtain⟨v,σ',H',I,r,q⟩:=h;exact⟨v,σ',H',I.gI,r,q⟩
theorem uA.Pu{st:List Stmt}{t:TS}(h:uA X.Pu st t):uA X st t:=λ ce s σ H D I hw=>
 J0 (h ce s σ H D (I.nH _) hw) (λ _ _ q=>q.gI) λ _ _ z=>False.elim z
end
section
variable {X:Cx}{rest:List Stmt}{t u:TS}{te:TE}
def Qm:TS:=λ D σ H=>D.nx σ H
def VL(t u:TS):TS:=λ D σ H=>t {D with nx:=u D} σ H
def HY:uA X [] Qm:=λ _ _ σ H _ I h=>wpAny_execs_nil ⟨σ,H,I,h⟩
def Cs(h1:PS X st t)(h2:uA X rest u):uA X (st::rest) (VL t u):=by
 intro ce s σ H D I h;refine wpAny_execs_cons (cq (h1 ce s σ H {D with nx:=u D} I h) λ f s1 q=>?_);cases f with
 |next=>obtain⟨σ',H',I',q⟩:=q;exact h2 ce s1 σ' H' D I' q
 |ret v=>exact q
 |brk=>exact q
 |cont=>exact q
def HX(h1:PS X st t):uA X [st] t:=by
 intro ce s σ H D I h;refine wpAny_execs_cons (cq (h1 ce s σ H D I h) λ f s1 q=>?_);cases f with
 |next=>exact wpAny_execs_nil q
 |ret v=>exact q
 |brk=>exact q
 |cont=>exact q
def io.quiet{σ:St}{H:Hp}(I:io X ce σ H s):interactive X.env=false:=by simp[interactive,I.ok.kind]
def Qn(te:TE):TS:=λ D σ H=>te σ H λ _ H1=>D.nx σ H1
def HZ(he:PE X e te)(hs:swapsWith e none pos.line X.env=pure false:=by rfl):PS X (.Expr e pos) (Qn te):=by intro ce s σ H D I h;exact wpAny_Expr_any (cq (he ce s σ H _ I h) λ v s1 ⟨x,H1,I1,r1,q1⟩=>⟨σ,H1,I1,q1⟩) I.quiet hs
def VM(te:TE):TS:=λ D σ H=>te σ H D.rt
def MJ(he:PE X e te):PS X (.Return (some e) pos) (VM te):=by intro ce s σ H D I h;exact wpAny_Return_some (cq (he ce s σ H _ I h) λ v s1 ⟨x,H1,I1,r1,q1⟩=>⟨x,σ,H1,I1,r1,q1⟩)
def VQ(c:TT)(t u:TS):TS:=λ D σ H=>c σ H λ b H1=>if b=true then t D σ H1 else u D σ H1
def RI{c:Expr}{a b:List Stmt}{tc:TT}(hc:PT X c tc)(ha:uA X a t)(hb:uA X b u):PS X (.If c a b pos) (VQ tc t u):=by
 intro ce s σ H D I h;refine wpAny_If (cq (hc ce s σ H _ I h) λ d s1 ⟨H1,I1,q1⟩=>?_);cases d with
 |true=>exact ha ce s1 σ H1 D I1 q1
 |false=>exact hb ce s1 σ H1 D I1 q1
def LP:TS:=λ _ _ _=>False
def zr:uA X Ko LP:=λ _ _ _ _ _ _ h=>h.elim
end
abbrev TG:=V->St->Hp->(St->Hp->Prop)->Prop
abbrev yN:=List V->St->Hp->(St->Hp->Prop)->Prop
def PG(X:Cx)(target:Expr)(t:TG):Prop:=
 ∀(ce:List (be×Obj))(s:am)(σ:St)(H:Hp)(v:V)(u:al)(Q:St->Hp->Prop),io X ce σ H s->lc v u->t v σ H Q->
  wpAny (model X.prog X.w) X.A (assign target X.env u) (λ _ s'=>∃σ' H',io X ce σ' H' s'/\Q σ' H') X.xe s
def O9(X:Cx)(ts:List Expr)(t:yN):Prop:=
 ∀(ce:List (be×Obj))(s:am)(σ:St)(H:Hp)(vs:List V)(us:List al)(Q:St->Hp->Prop),io X ce σ H s->li vs us->t vs σ H Q->
  wpAny (model X.prog X.w) X.A (assignInOrder ((assignEach ts X.env).map (·.2)) us) (λ _ s'=>∃σ' H',io X ce σ' H' s'/\Q σ' H') X.xe s
abbrev uw:=V->V->V->Hp->(Hp->Prop)->Prop
def nU(X:Cx)(t:uw):Prop:=
 ∀(ce:List (be×Obj))(s:am)(σ:St)(H:Hp)(o i v:V)(ov iv u:al)(Q:Hp->Prop),io X ce σ H s->lc o ov->lc i iv->lc v u->t o i v H Q->
  wpAny (model X.prog X.w) X.A (setItem ov iv u) (λ _ s'=>∃H',io X ce σ H' s'/\Q H') X.xe s
abbrev Vk:=V->V->Hp->VK->Prop
def Z1(X:Cx)(op:Operator)(t:Vk):Prop:=
 ∀(ce:List (be×Obj))(s:am)(σ:St)(H:Hp)(x y:V)(v u:al)(Q:VK),io X ce σ H s->lc x v->lc y u->t x y H Q->
  wpAny (model X.prog X.w) X.A (inplaceOp op v u) (EP X ce σ Q) X.xe s
section
variable {X:Cx}
def cB(i:Nat):TG:=λ v σ H Q=>Q (σ.set i (some v)) H
def gc{x:Str}(hN:X.N.Nodup)(hi:X.N[i]?=some x)(hx:Loc X.env.scope x)(hf:Lu X x:=by first|exact .inl rfl|exact .inr rfl|assumption):PG X (.Name x pos) (cB i):=by intro ce s σ H v u Q I r h;exact wpAny_assign_Name (rN I hN hi hx r (λ s' I'=>⟨_,H,I',h⟩) hf)
def qK:yN:=λ vs σ H Q=>vs=[]/\Q σ H
def dz(t:TG)(u:yN):yN:=λ vs σ H Q=>∃v r,vs=v::r/\t v σ H λ σ' H'=>u r σ' H' Q
def pV:O9 X [] qK:=by intro ce s σ H vs us Q I r h;obtain⟨e,h⟩:=h;subst e;cases r;exact assignInOrder_nil ⟨σ,H,I,h⟩
def fE{t:TG}{u:yN}(h1:PG X e t)(h2:O9 X es u)(hs:(assignEach (e::es) X.env).map (·.2)=assign e X.env::(assignEach es X.env).map (·.2):=by rfl):O9 X (e::es) (dz t u):=by
 intro ce s σ H vs us Q I r h;obtain⟨v,vr,e1,h⟩:=h;subst e1;cases r with
 |cons r rr=>rw[hs];refine assignInOrder_cons (cq (h1 ce s σ H _ _ _ I r h) λ _ s1 ⟨σ1,H1,I1,q1⟩=>?_);exact h2 ce s1 σ1 H1 _ _ Q I1 rr q1
def tE(K:J8)(n:Nat)(t:yN):TG:=λ v σ H Q=>∃a xs,v=.ref a/\fj K H a xs/\xs.length=n/\t xs σ H Q
def vj{t:yN}(hc:X.calm=true)(h:O9 X es t)(hn:(assignEach es X.env).length=n:=by rfl)(rA:(assignEach es X.env).findIdx? (·.1)=none:=by rfl):PG X (.Tuple es k pos) (tE X.K n t):=by intro ce s σ H v u Q I r hw;obtain⟨a,xs,e1,hq,hl,hw⟩:=hw;subst e1;cases r;obtain⟨av,rv,ht,hz⟩:=I.tuple hq;refine assign_Tuple_tuple (I.ok.hd hc) ht (by simp[hn,<- hl,rv.length]) rA λ h' hx=>?_;have I1:io X ce σ H {s with heap:=h'}:=I.kept (t':=s.toks) λ b o e=>hx b o (D3 (D4 e)) e;exact h ce _ σ H xs _ Q I1 (by simpa using rv) hw
def XC(to ti:TE)(t:uw):TG:=λ v σ H Q=>to σ H λ o H1=>ti σ H1 λ i H2=>t o i v H2 λ H3=>Q σ H3
def MS{o i:Expr}{to ti:TE}{t:uw}(ho:PE X o to)(hi:PE X i ti)(hs:nU X t) (ha:∀v,assign (.Subscript o i pos) X.env v=(do
   let ov <- holding [v] (eval o X.env)
   let iv <- holding [v,ov] (eval i X.env)
   standAt pos
   holding [v,ov,iv] (setItem ov iv v)
   release [v,ov,iv] []):=by intro _;rfl):PG X (.Subscript o i pos) (XC to ti t):=by
 intro ce s σ H v u Q I r h;rw[ha];refine G8 (C3 (cq (ho ce s σ H _ I h) λ ov s1 ⟨x,H1,I1,r1,q1⟩=>?_));refine G8 (C3 (cq (hi ce s1 σ H1 _ I1 q1) λ iv s2 ⟨y,H2,I2,r2,q2⟩=>?_));refine G8 (wpAny_standAt (G8 (C3 (cq (hs ce s2 σ H2 x y v ov iv u _ I2 r1 r2 r q2) λ _ s3 ⟨H3,I3,q3⟩=>?_))));exact wpAny_release ⟨σ,H3,I3,q3⟩
def GQ(te:TE)(g:TG):TS:=λ D σ H=>te σ H λ x H1=>g x σ H1 D.nx
def ML{te:TE}{g:TG}(he:PE X e te)(hg:PG X tg g)(hs:swapsWithSole [tg] e pos.line X.env=pure false:=by rfl)(hw:swappedStores [tg] e X.env=pure none:=by rfl)(h1:(assignEach [tg] X.env).map (·.2)=[assign tg X.env]:=by rfl):PS X (.Assign [tg] e pos) (GQ te g):=by intro ce s σ H D I h;refine wpAny_Assign_stores (cq (he ce s σ H _ I h) λ v s1 ⟨x,H1,I1,r1,q1⟩=>?_) hs hw;rw[h1];exact cq (hg ce s1 σ H1 x v _ I1 r1 q1) λ _ s2 q=>q
def MI{x:Str}{te:TE}{pos':Pos}(hN:X.N.Nodup)(hi:X.N[i]?=some x)(hx:Loc X.env.scope x)(he:PE X e te)(hs:swapsWith e (some (.Name x pos')) pos.line X.env=pure false:=by rfl)(hf:Lu X x:=by first|exact .inl rfl|exact .inr rfl|assumption):PS X (.Assign [.Name x pos'] e pos) (GQ te (cB i)):=by intro ce s σ H D I h;refine wpAny_Assign_Name (cq (he ce s σ H _ I h) λ v s1 ⟨y,H1,I1,r1,q1⟩=>?_) hs;exact rN I1 hN hi hx r1 (λ s2 I2=>⟨_,H1,I2,q1⟩) hf
def Qo(to ti te:TE)(GK:V->V->Hp->VK->Prop)(UK:Vk)(GF:uw):TS:=λ D σ H=>to σ H λ o H1=>ti σ H1 λ i H2=>GK o i H2 λ x H3=>te σ H3 λ y H4=>UK x y H4 λ z H5=>GF o i z H5 λ H6=>D.nx σ H6
def Uu(X:Cx)(t:V->V->Hp->VK->Prop):Prop:=
 ∀(ce:List (be×Obj))(s:am)(σ:St)(H:Hp)(o i:V)(ov iv:al)(Q:VK),io X ce σ H s->lc o ov->lc i iv->t o i H Q->
  wpAny (model X.prog X.w) X.A (getItem ov iv) (EP X ce σ Q) X.xe s
def H_{o i:Expr}{to ti te:TE}{GK:V->V->Hp->VK->Prop}{UK:Vk}{GF:uw}{op:Operator}(ho:PE X o to)(hi:PE X i ti)(hg:Uu X GK)(he:PE X e te)(hp:Z1 X op UK)(hs:nU X GF)(ha:∀ov iv new,augStore i ov iv new=(do holding [new,ov,iv] (setItem ov iv new);release [new,ov,iv] [];pure .next):=by intros;rfl):PS X (.AugAssign (.Subscript o i jM) op e pos) (Qo to ti te GK UK GF):=by intro ce s σ H D I h;refine wpAny_AugAssign_SubscriptAny (cq (ho ce s σ H _ I h) λ ov s1 ⟨x1,H1,I1,r1,q1⟩=>?_) ha;refine cq (hi ce s1 σ H1 _ I1 q1) λ iv s2 ⟨x2,H2,I2,r2,q2⟩=>?_;refine cq (hg ce s2 σ H2 x1 x2 ov iv _ I2 r1 r2 q2) λ old s3 ⟨x3,H3,I3,r3,q3⟩=>?_;refine cq (he ce s3 σ H3 _ I3 q3) λ v s4 ⟨x4,H4,I4,r4,q4⟩=>?_;refine cq (hp ce s4 σ H4 x3 x4 old v _ I4 r3 r4 q4) λ new s5 ⟨x5,H5,I5,r5,q5⟩=>?_;exact cq (hs ce s5 σ H5 x1 x2 x5 ov iv new _ I5 r1 r2 r5 q5) λ _ s6 ⟨H6,I6,q6⟩=>⟨σ,H6,I6,q6⟩
def ipI(f:Int->Int->Int):Vk:=λ x y H Q=>∃i j,x=.int i/\y=.int j/\Q (.int (f i j)) H
def Ob:Z1 X .Add (ipI λ i j=>i+j):=by intro ce s σ H x y v u Q I r1 r2 h;obtain⟨i,j,e1,e2,q⟩:=h;subst e1;subst e2;obtain⟨t,rfl⟩:=r1;obtain⟨t',rfl⟩:=r2;exact iadd_int ⟨.int _,H,I.tok _,⟨_,rfl⟩,q⟩
end
section
variable {X:Cx}
def LN(c:TT)(tb:TS):TS:=λ D σ H=>∃W:Nat->St->Hp->Prop,(∃m,W m σ H)/\∀m σ H,W m σ H->
 c σ H λ b H1=>if b=true then ∃N:St->Hp->Prop,(∀σ' H',N σ' H'->∃m',m'<m/\W m' σ' H')/\tb {D with nx:=N,ct:=N,bk:=D.nx} σ H1 else D.nx σ H1
def Ct{c:Expr}{tc:TT}{tb:TS}(hp:Vm X)(hc:PT X c tc)(hb:uA X body tb):PS X (.While c body [] pos) (LN tc tb):=by
 intro ce s σ H D I h;obtain⟨W,⟨m0,w0⟩,turn⟩:=h;refine wpAny_While (codeAny_whileLoop (λ n s'=>∃σ' H',io X ce σ' H' s'/\W n σ' H') ?_ m0 ⟨σ,H,I,w0⟩);rintro n s1 ⟨σ1,H1,I1,w1⟩;refine B1 hp (cq (hc ce s1 σ1 H1 _ I1 (turn n σ1 H1 w1)) λ b s2 ⟨H2,I2,q2⟩=>?_);cases b with
 |true=>
  obtain⟨N,hN,q2⟩:=q2;rw[J6 rfl];refine B1 hp (cq (hb ce s2 σ1 H2 _ I2 q2) λ f s3 q3=>?_);cases f with
  |next=>obtain⟨σ3,H3,I3,n3⟩:=q3;obtain⟨m',hm,w3⟩:=hN σ3 H3 n3;exact⟨m',hm,σ3,H3,I3,w3⟩
  |cont=>obtain⟨σ3,H3,I3,n3⟩:=q3;obtain⟨m',hm,w3⟩:=hN σ3 H3 n3;exact⟨m',hm,σ3,H3,I3,w3⟩
  |brk=>exact q3
  |ret v=>exact q3
 |false=>rw[J7 n0];exact wpAny_execs_nil ⟨σ1,H2,I2,q2⟩
end
structure It where
 go:Nat->Hp->Prop
 FQ:Nat->Hp->V->Hp->Prop
 stop:Nat->Hp->Prop
def gp(X:Cx)(ce:List (be×Obj))(H:Hp)(b:be):Prop:=
 H b=none/\b≠X.env.locals/\b∉X.fs/\(b∈X.ex\/X.s₀.heap.objs.size<=b)/\(∀x c,X.env.cells.lookup x=some c->c≠b)/\∀p∈X.pn++ce,p.1≠b
def io.iH{X:Cx}{σ:St}{H H':Hp}{b:be}(I:io X ce σ H s)(hb:s.heap.objs.size<=b)(hn:H' b=none):gp X ce H' b:=by
 refine⟨hn,G1 (p9 I.lt hb),I.Wc hb,.inr (D7 I.sz hb),λ x c e z=>?_,λ p hp z=>?_⟩
 ·obtain⟨v,q⟩:=I.cell x c e;exact bi (p9 q.lt (by rw[z];exact hb)) (C5 _)
 ·exact bi (p9 (D4 (I.pin p hp).1) (by rw[z];exact hb)) (C5 _)
structure Turn(P:Program)(w:World)(K:J8)(tg:Expr)(J:It)(fp:List be)(it:be)(tn:Nat->Heap->Prop):Prop where
 mem:it∈fp
 obj:∀i h,tn i h->∀b∈fp,∃o,h.get? b=some o/\∀v,o.data≠.cell v
 keep:∀i h h',tn i h->(∀b∈fp,∀o,h.get? b=some o->h'.get? b=some o)->tn i h'
 item:∀(X:Cx),X.prog=P->X.w=w->X.K=K->X.calm=true->∀(i:Nat)(ce:List (be×Obj))(s:am)(σ:St)(H:Hp)(E:al->am->Prop),io X ce σ H s->(∀b∈fp,gp X ce H b)->tn i s.heap->J.go i H->
  wpAny (model P w) X.A (pyNext (.ref it)) (λ r s1=>∃u,r=some u/\
   wpAny (model P w) X.A (letOwnedTupleGo tg (.ref it) u) (λ _ s2=>∃x H',io X ce σ H' s2/\lc x u/\J.FQ i H x H'/\tn (i+1) s2.heap/\∀b∈fp,H' b=none) E s1) E s
 done:∀(X:Cx),X.prog=P->X.w=w->X.K=K->X.calm=true->∀(i:Nat)(ce:List (be×Obj))(s:am)(σ:St)(H:Hp)(E:al->am->Prop),io X ce σ H s->(∀b∈fp,gp X ce H b)->tn i s.heap->J.stop i H->
  wpAny (model P w) X.A (pyNext (.ref it)) (λ r s1=>r=none/\io X ce σ H s1) E s
 self:∀(A:Around)(i:Nat)(s:am)(Q:al->am->Prop)(E:al->am->Prop),tn i s.heap->Q (.ref it) s->wpAny (model P w) A (pyIter (.ref it)) Q E s
abbrev TI:=St->Hp->(It->Hp->Prop)->Prop
def Z2(X:Cx)(ce:List (be×Obj))(σ:St)(tg:Expr)(R:It->Hp->Prop)(UX:al)(s2:am):Prop:=
 ∃(it:be)(fp:List be)(tn:Nat->Heap->Prop)(J:It)(H':Hp),UX=.ref it/\io X ce σ H' s2/\Turn X.prog X.w X.K tg J fp it tn/\tn 0 s2.heap/\(∀b∈fp,gp X ce H' b)/\R J H'
def PI(X:Cx)(tg iter:Expr)(wi:TI):Prop:=
 ∀(ce:List (be×Obj))(s:am)(σ:St)(H:Hp)(R:It->Hp->Prop),io X ce σ H s->wi σ H R->
  wpAny (model X.prog X.w) X.A (eval iter X.env) (λ v s1=>wpAny (model X.prog X.w) X.A (pyIter v) (Z2 X ce σ tg R) X.xe s1) X.xe s
def yj{M:Model}{it:be}{n:String}{vs:Array al}{Q:Unit->am->Prop}(ho:s.heap.get? it=some o)(hc:o.cls=.type n)(hd:o.data=.fields vs)(hn:["enumerate","zip","dict_itemiterator","dict_reverseitemiterator","odict_iterator","itertools.zip_longest","itertools.pairwise"].contains n=false)(hQ:Q .unit s):wpAny M A (letOwnedTupleGo tg (.ref it) u) Q E s:=by
 unfold letOwnedTupleGo;cases tg<;>first
  |exact G9 hQ
  |(cases u<;>first
    |exact G9 hQ
    |(refine G8 (wpAny_load ho ?_)
      rw[hc,hd];show wpAny M A (if(["enumerate","zip","dict_itemiterator","dict_reverseitemiterator","odict_iterator","itertools.zip_longest","itertools.pairwise"].contains n&&vs[0]?==some (rawInt _))=true then _ else _) Q E s;rw[J7 (by intro h;rw[hn,Bool.false_and]at h;cases h)];exact G9 hQ))
def Vq(K:J8)(a:be):It:=
 ⟨λ i H=>∃xs x,dv K H a xs/\xs[i]?=some x,λ i H x H'=>H'=H/\∀xs,dv K H a xs->xs[i]?=some x,λ i H=>∃xs,dv K H a xs/\xs.length<=i⟩
def Yf(K:J8)(a:be):It:=
 ⟨λ i H=>∃xs x,fj K H a xs/\xs[i]?=some x,λ i H x H'=>H'=H/\∀xs,fj K H a xs->xs[i]?=some x,λ i H=>∃xs,fj K H a xs/\xs.length<=i⟩
def Uz(lo:Int)(n:Nat):It:=⟨λ i _=>i<n,λ i H x H'=>H'=H/\x=.int (lo+i),λ i _=>n<=i⟩
def yY(a it:be):Turn P w K tg (Vq K a) [it] it (λ i h=>h.IsListIter it a i) where
 mem:=by simp
 obj:=λ i h st b hb=>by
  have e:b=it:=by simpa using hb
  subst e;obtain⟨o,e,c,d⟩:=st;exact⟨o,e,λ v z=>by rw[d]at z;cases z⟩
 keep:=λ i h h' st k=>st.at λ o e=>k it (by simp) o e
 item:=by intro X hP hw hK hc i ce s σ H E I hf st hg;subst hP hw hK;obtain⟨xs,x,hq,hx⟩:=hg;obtain⟨av,rv,p,hz⟩:=I.list hq;obtain⟨u,hu,ru⟩:=rv.get hx;obtain⟨f0,f1,f2,f3,f4,f5⟩:=hf it (by simp);refine wpAny_pyNext_list_item st p.isList (x:=u) (by simpa using hu) λ h' uD sb=>?_;have I1:io X ce σ H {s with heap:=h'}:=I.turned (t':=s.toks) (λ b o hb e=>(sb.2 b hb).trans e) f0 f1 f3 f4 f5;obtain⟨o,e,c,d⟩:=id uD;exact⟨u,rfl,yj (s:={s with heap:=h'}) e c d (by decide) ⟨x,H,I1,ru,⟨rfl,λ ys hy=>by rw[I.sN hy hq];exact hx⟩,uD,λ b hb=>(hf b hb).1⟩⟩
 done:=by intro X hP hw hK hc i ce s σ H E I hf st hg;subst hP hw hK;obtain⟨xs,hq,hx⟩:=hg;obtain⟨av,rv,p,hz⟩:=I.list hq;obtain⟨f0,f1,f2,f3,f4,f5⟩:=hf it (by simp);have hl:=rv.length;exact wpAny_pyNext_list_end (I.ok.hd hc) st p.isList (by simp;lia) λ h' eb=>⟨rfl,I.turned (t':=s.toks) (λ b o hb e=>eb b o hb e) f0 f1 f3 f4 f5⟩
 self:=λ _ _ _ _ _ st h=>wpAny_pyIter_listiter st h
def uQ(a it:be):Turn P w K tg (Yf K a) [it] it (λ i h=>h.IsTupleIter it a i) where
 mem:=by simp
 obj:=λ i h st b hb=>by
  have e:b=it:=by simpa using hb
  subst e;obtain⟨o,e,c,d⟩:=st;exact⟨o,e,λ v z=>by rw[d]at z;cases z⟩
 keep:=λ i h h' st k=>st.at λ o e=>k it (by simp) o e
 item:=by intro X hP hw hK hc i ce s σ H E I hf st hg;subst hP hw hK;obtain⟨xs,x,hq,hx⟩:=hg;obtain⟨av,rv,p,hz⟩:=I.tuple hq;obtain⟨u,hu,ru⟩:=rv.get hx;obtain⟨f0,f1,f2,f3,f4,f5⟩:=hf it (by simp);refine wpAny_pyNext_tuple_item st (show s.heap.IsTuple a av.toArray from p) (x:=u) (by simpa using hu) λ h' uD sb=>?_;have I1:io X ce σ H {s with heap:=h'}:=I.turned (t':=s.toks) (λ b o hb e=>(sb.2 b hb).trans e) f0 f1 f3 f4 f5;obtain⟨o,e,c,d⟩:=id uD;exact⟨u,rfl,yj (s:={s with heap:=h'}) e c d (by decide) ⟨x,H,I1,ru,⟨rfl,λ ys hy=>by rw[I.oo hy hq];exact hx⟩,uD,λ b hb=>(hf b hb).1⟩⟩
 done:=by intro X hP hw hK hc i ce s σ H E I hf st hg;subst hP hw hK;obtain⟨xs,hq,hx⟩:=hg;obtain⟨av,rv,p,hz⟩:=I.tuple hq;obtain⟨f0,f1,f2,f3,f4,f5⟩:=hf it (by simp);have hl:=rv.length;exact wpAny_pyNext_tuple_end (I.ok.hd hc) st (show s.heap.IsTuple a av.toArray from p) (by simp;lia) λ h' eb=>⟨rfl,I.turned (t':=s.toks) (λ b o hb e=>eb b o hb e) f0 f1 f3 f4 f5⟩
 self:=λ _ _ _ _ _ st h=>wpAny_pyIter_tupleiter st h
def uR(it:be)(lo:Int)(n:Nat):Turn P w K tg (Uz lo n) [it] it (λ i h=>IsRangeIter h it (lo+(i:Nat)*1) ((n:Int)-(i:Nat)) 1) where
 mem:=by simp
 obj:=λ i h st b hb=>by
  have e:b=it:=by simpa using hb
  subst e;exact⟨_,st,λ v z=>by
   have z':Data.fields _=Data.cell v:=z;cases z'⟩
 keep:=λ i h h' st k=>k it (by simp) _ st
 item:=by intro X hP hw hK hc i ce s σ H E I hf st hg;subst hP hw hK;obtain⟨f0,f1,f2,f3,f4,f5⟩:=hf it (by simp);have W:=Walks.range (prog:=X.prog) (w:=X.w) (I.ok.hd hc) it lo 1 n;refine W.item i s _ _ hg st λ v h' tk hv uD kk=>?_;obtain⟨t,rfl⟩:=hv;have I1:io X ce σ H {s with heap:=h',toks:=tk}:=I.turned (λ b o hb e=>kk b o (by simpa using hb) e) f0 f1 f3 f4 f5;refine⟨_,rfl,yj (s:={s with heap:=h',toks:=tk}) (n:="range_iterator") uD rfl rfl (by decide) ⟨.int (lo+i),H,I1,⟨t,?_⟩,⟨rfl,rfl⟩,uD,λ b hb=>(hf b hb).1⟩⟩;rw[Int.mul_one]
 done:=by intro X hP hw hK hc i ce s σ H E I hf st hg;subst hP hw hK;obtain⟨f0,f1,f2,f3,f4,f5⟩:=hf it (by simp);exact wpAny_pyNext_range_end (I.ok.hd hc) st (by have:n<=i:=hg;lia) λ h' eb=>⟨rfl,I.turned (t':=s.toks) (λ b o hb e=>eb b o hb e) f0 f1 f3 f4 f5⟩
 self:=λ _ _ _ _ _ st h=>wpAny_pyIter_rangeiter st h
section
variable {X:Cx}
def rY{σ:St}{H:Hp}{R:It->Hp->Prop}{lo hi:Int}{t u v:Tok}{tk:Nat}(I:io X ce σ H s)(h1: -(2^62)<=lo)(h2:lo<2^62)(h3: -(2^62)<=hi)(h4:hi<2^62)(q:R (Uz lo (hi-lo).toNat) H):wpAny (model X.prog X.w) X.A (pyIter (.ref s.heap.objs.size)) (Z2 X ce σ tg R) E {s with heap:=s.heap.push {cls:=.type "range",data:=.fields #[.int lo t,.int hi u,.int 1 v]},toks:=tk}:=by
 refine wpAny_pyIter_range (IsRange.new ..) (small_one h1 h2 h3 h4) ?_;have I1:io X ce σ H {s with heap:=s.heap.push {cls:=.type "range",data:=.fields #[.int lo t,.int hi u,.int 1 v]},toks:=tk}:=I.kept λ b o e=>i7 _ e;refine⟨(s.heap.push {cls:=.type "range",data:=.fields #[.int lo t,.int hi u,.int 1 v]}).objs.size,[(s.heap.push {cls:=.type "range",data:=.fields #[.int lo t,.int hi u,.int 1 v]}).objs.size],_,_,H,rfl,
  I1.kept (t':=tk) λ b o e=>i7 _ e,uR _ lo (hi-lo).toNat,?_,λ b hb=>?_,q⟩
 ·have e1:lo+((0:Nat):Int)*1=lo:=by simp
  have e2:(((hi-lo).toNat:Nat):Int)-((0:Nat):Int)=Builtin.Range.rangeSize lo hi 1:=by rw[rangeSize_one];split<;>lia
  show IsRangeIter _ _ (lo+((0:Nat):Int)*1) ((((hi-lo).toNat:Nat):Int)-((0:Nat):Int)) 1;rw[e1,e2];exact l7 _ rfl
 ·have e:b=(s.heap.push {cls:=.type "range",data:=.fields #[.int lo t,.int hi u,.int 1 v]}).objs.size:=by simpa using hb
  subst e;exact I1.iH (G3 _) (I1.bP.fresh (G3 _))
def S6(ta:TA):TI:=λ σ H R=>ta σ H λ vs H1=>∃j:Int,vs=[.int j]/\-(2^62)<=j/\j<2^62/\R (Uz 0 j.toNat) H1
def S5(ta:TA):TI:=λ σ H R=>ta σ H λ vs H1=>∃i j:Int,vs=[.int i,.int j]/\(-(2^62)<=i/\i<2^62/\-(2^62)<=j/\j<2^62)/\R (Uz i (j-i).toNat) H1
def zv{a:Expr}{ta:TA}{p:Pos}(hg:Gl X "range")(hm:X.mg "range"=none)(ha:PA X [a] ta)(hs:starEach [a] X.env=[(false,eval a X.env)]:=by rfl):PI X tg (.Call (.Name "range" p) [a] [] pos) (S6 ta):=by
 intro ce s σ H R I h;refine Call_ (eI I hg hm boot_range (b0 (cq (ha pos ce s σ H _ I h) λ us s1 ⟨vs,H1,I1,r1,q1⟩=>?_) hs rfl));obtain⟨j,e,q1,q2,q⟩:=q1;subst e;cases r1 with
 |cons r rr=>cases rr;obtain⟨t,rfl⟩:=r;exact call_range_1 (rY I1 () () q1 q2 (by simpa using q))
def zu{a b:Expr}{ta:TA}{p:Pos}(hg:Gl X "range")(hm:X.mg "range"=none)(ha:PA X [a,b] ta)(hs:starEach [a,b] X.env=[(false,eval a X.env),(false,eval b X.env)]:=by rfl)(iT:starEach [b] X.env=[(false,eval b X.env)]:=by rfl):PI X tg (.Call (.Name "range" p) [a,b] [] pos) (S5 ta):=by
 intro ce s σ H R I h;refine Call_ (eI I hg hm boot_range (b0 (cq (ha pos ce s σ H _ I h) λ us s1 ⟨vs,H1,I1,r1,q1⟩=>?_) (by show _=_;rw[hs,iT]) (by show _=_;rw[iT];rfl)));obtain⟨i,j,e,⟨q1,q2,q3,q4⟩,q⟩:=q1;subst e;cases r1 with
 |cons r rr=>
  cases rr with
  |cons r' rr=>cases rr;obtain⟨t,rfl⟩:=r;obtain⟨t',rfl⟩:=r';exact call_range_2 (rY I1 q1 q2 q3 q4 q)
def VR(wi:TI)(g:TG)(tb:TS):TS:=λ D σ H=>wi σ H λ J H1=>∃W:Nat->Nat->St->Hp->Prop,(∃m,W 0 m σ H1)/\∀i m σ H,W i m σ H->
 (J.stop i H/\D.nx σ H)\/(J.go i H/\∃N:St->Hp->Prop,(∀σ' H',N σ' H'->∃m',m'<m/\W (i+1) m' σ' H')/\∀x H',J.FQ i H x H'->g x σ H' λ σ2 H2=>tb {D with nx:=N,ct:=N,bk:=D.nx} σ2 H2)
def pU(fp:List be)(h:Heap):List (be×Obj):=fp.filterMap λ b=>(h.get? b).map λ o=>(b,o)
def dD{h:Heap}{b:be}(hb:b∈fp)(e:h.get? b=some o):(b,o)∈pU fp h:=mem_filterMap.mpr ⟨b,hb,by rw[e];rfl⟩
def zC{h:Heap}{p:be×Obj}(hp:p∈pU fp h):p.1∈fp/\h.get? p.1=some p.2:=by
 obtain⟨b,hb,e⟩:=mem_filterMap.mp hp;cases q:h.get? b with
 |none=>rw[q]at e;cases e
 |some o=>rw[q]at e;have e':(b,o)=p:=B0 e;subst e';exact⟨hb,q⟩
def io.pinned{σ:St}{H:Hp}(I:io X ce σ H s)(hf:∀b∈fp,gp X ce H b)(ho:∀b∈fp,∃o,s.heap.get? b=some o/\∀v,o.data≠.cell v):io X (ce++pU fp s.heap) σ H s:=
 I.cE λ p hp=>(B5.mp hp).elim (λ z=>I.pin p (j2 _ z)) λ z=>by obtain⟨hb,e⟩:=zC z;obtain⟨f0,f1,f2,_⟩:=hf p.1 hb;obtain⟨o,e',d⟩:=ho p.1 hb;rw[e]at e';cases e';exact⟨e,f0,f1,f2,d⟩
def io.l_{pl:List (be×Obj)}{σ:St}{H:Hp}(I:io X (ce++pl) σ H s):io X ce σ H s:=I.cE λ p hp=>I.pin p (j2 _ (k5 _ hp))
def MK{wi:TI}{g:TG}{tb:TS}(hp:Vm X)(hc:X.calm=true)(hi:PI X tg iter wi)(hg:PG X tg g)(hb:uA X body tb)(hs:FN X iter:=by intro _;rfl):PS X (.For tg iter body [] pos) (VR wi g tb):=by
 intro ce s σ H D I h;refine wpAny_For (cq (hi ce s σ H _ I h) λ v s1 h1=>cq h1 λ UX s2 h2=>?_) hs;obtain⟨it,fp,tn,J,H2,e,I2,T,Qu,f2,W,⟨m0,w0⟩,turn⟩:=h2;subst e;have LV:∀{H':Hp},(∀b∈fp,H' b=none)->∀b∈fp,gp X ce H' b:=λ hn b hb=>⟨hn b hb,(f2 b hb).2⟩;refine codeAny_forLoop_any (λ n s'=>∃i σ' H',io X ce σ' H' s'/\tn i s'.heap/\(∀b∈fp,H' b=none)/\W i n σ' H') ?_ m0 ⟨0,σ,H2,I2,Qu,λ b hb=>(f2 b hb).1,w0⟩;rintro n s3 ⟨i,σ3,H3,I3,Qt,TF,w3⟩;rcases turn i n σ3 H3 w3 with⟨stop,qn⟩|⟨go,N,hN,step⟩
 ·refine B1 hp (cq (T.done X rfl rfl rfl hc i ce s3 σ3 H3 X.xe I3 (LV TF) Qt stop) λ r s4 ⟨hr,I4⟩=>?_);subst hr;exact wpAny_execs_nil ⟨σ3,H3,I4,qn⟩
 ·refine B1 hp (cq (T.item X rfl rfl rfl hc i ce s3 σ3 H3 X.xe I3 (LV TF) Qt go) λ r s4 ⟨u,hr,h4⟩=>?_);subst hr;refine B1 hp (cq h4 λ _ s5 ⟨x,H5,I5,r5,y5,GR,XD⟩=>?_);have Yh:=I5.pinned (LV XD) (T.obj _ _ GR);refine B1 hp (cq (hg _ s5 σ3 H5 x u _ Yh r5 (step x H5 y5)) λ _ s6 ⟨σ6,H6,I6,q6⟩=>?_);refine B1 hp (cq (hb _ s6 σ6 H6 _ I6 q6) λ f s7 q7=>?_);have again:∀{σ7:St} {H7:Hp},io X (ce++pU fp s5.heap) σ7 H7 s7->N σ7 H7->∃m,m<n/\∃i σ' H',io X ce σ' H' s7/\tn i s7.heap/\(∀b∈fp,H' b=none)/\W i m σ' H':=λ{σ7 H7} I7 n7=>by obtain⟨m',hm,w7⟩:=hN σ7 H7 n7;refine⟨m',hm,i+1,σ7,H7,I7.l_,T.keep _ _ _ GR λ b hb o e=>(I7.pin (b,o) (j2 _ (j2 _ (dD hb e)))).1,λ b hb=>?_,w7⟩;obtain⟨o,e,d⟩:=T.obj _ _ GR b hb;exact(I7.pin (b,o) (j2 _ (j2 _ (dD hb e)))).2.1
  cases f with
  |next=>obtain⟨σ7,H7,I7,n7⟩:=q7;exact again I7 n7
  |cont=>obtain⟨σ7,H7,I7,n7⟩:=q7;exact again I7 n7
  |brk=>obtain⟨σ7,H7,I7,q7⟩:=q7;exact⟨σ7,H7,I7.l_,q7⟩
  |ret v=>obtain⟨x7,σ7,H7,I7,r7,q7⟩:=q7;exact⟨x7,σ7,H7,I7.l_,r7,q7⟩
end
abbrev R2:=V->V->Hp->VK->Prop
def eN(X:Cx)(f:al->al->Sem al)(r:R2):Prop:=
 ∀(ce:List (be×Obj))(s:am)(σ:St)(H:Hp)(x y:V)(v u:al)(Q:VK),io X ce σ H s->lc x v->lc y u->r x y H Q->
  wpAny (model X.prog X.w) X.A (f v u) (EP X ce σ Q) X.xe s
def Vj(X:Cx)(f:al->Sem al)(r:V->Hp->VK->Prop):Prop:=
 ∀(ce:List (be×Obj))(s:am)(σ:St)(H:Hp)(x:V)(v:al)(Q:VK),io X ce σ H s->lc x v->r x H Q->
  wpAny (model X.prog X.w) X.A (f v) (EP X ce σ Q) X.xe s
def cI(X:Cx)(f:al)(r:List V->Hp->VK->Prop):Prop:=
 ∀(ce:List (be×Obj))(s:am)(σ:St)(H:Hp)(xs:List V)(us:List al)(Q:VK),io X ce σ H s->li xs us->r xs H Q->
  wpAny (model X.prog X.w) X.A (call f us) (EP X ce σ Q) X.xe s
def Qk(r:R2)(ta tb:TE):TE:=λ σ H Q=>ta σ H λ x H1=>tb σ H1 λ y H2=>r x y H2 Q
def tUn(r:V->Hp->VK->Prop)(ta:TE):TE:=λ σ H Q=>ta σ H λ x H1=>r x H1 Q
def rI(C:Int->Int->Prop)(g:Int->Int->V):R2:=λ x y H Q=>∃i j,x=.int i/\y=.int j/\C i j/\Q (g i j) H
def Fw(g:Int->Int->V):R2:=λ x y H Q=>∃i j,x=.int i/\y=.int j/\Q (g i j) H
def rU(g:Int->V):V->Hp->VK->Prop:=λ x H Q=>∃i,x=.int i/\Q (g i) H
section
variable {X:Cx}{a b c:Expr}{ta tb tc:TE}
def O4(ha:PE X a ta)(hb:PE X b tb){σ:St}{H:Hp}{R:V->V->Hp->Prop}(I:io X ce σ H s)(h:ta σ H λ x H1=>tb σ H1 λ y H2=>R x y H2){f:al->al->Sem al}(hf:∀v u s2 x y H2,io X ce σ H2 s2->lc x v->lc y u->R x y H2->wpAny (model X.prog X.w) X.A (f v u) Q X.xe s2):wpAny (model X.prog X.w) X.A (eval a X.env) (λ v s₁=>wpAny (model X.prog X.w) X.A (eval b X.env) (λ u s₂=>wpAny (model X.prog X.w) X.A (f v u) Q X.xe s₂) X.xe s₁) X.xe s:=by refine cq (ha ce s σ H _ I h) λ v s1 ⟨x,H1,I1,r1,q1⟩=>?_;refine cq (hb ce s1 σ H1 _ I1 q1) λ u s2 ⟨y,H2,I2,r2,q2⟩=>?_;exact hf v u s2 x y H2 I2 r1 r2 q2
def RN{op:Operator}{r:R2}(ho:eN X (binaryOp op) r)(ha:PE X a ta)(hb:PE X b tb):PE X (.BinOp a op b pos) (Qk r ta tb):=by intro ce s σ H Q I h;exact wpAny_BinOp (O4 ha hb I h λ v u s2 x y H2 I2 rx ry q=>ho ce s2 σ H2 x y v u Q I2 rx ry q)
def RL{op:UnaryOp}{r:V->Hp->VK->Prop}(ho:Vj X (unaryOp op) r)(ha:PE X a ta):PE X (.UnaryOp op a pos) (tUn r ta):=by intro ce s σ H Q I h;exact UnaryOp_ (cq (ha ce s σ H _ I h) λ v s1 ⟨x,H1,I1,r1,q1⟩=>ho ce s1 σ H1 x v Q I1 r1 q1)
def UQ{f:al->al->Sem al}{g:Int->Int->Int}(rule:∀(i j:Int)(t u:Tok)(s:am)(Q:al->am->Prop)(E:al->am->Prop),C i j->Q (.int (g i j) s.toks) {s with toks:=s.toks+1}->wpAny (model X.prog X.w) X.A (f (.int i t) (.int j u)) Q E s):eN X f (rI C λ i j=>.int (g i j)):=by intro ce s σ H x y v u Q I rx ry h;obtain⟨i,j,rfl,rfl,hc,q⟩:=h;obtain⟨t,rfl⟩:=rx;obtain⟨t',rfl⟩:=ry;exact rule i j t t' s _ _ hc ⟨.int (g i j),H,I.tok _,⟨_,rfl⟩,q⟩
def RX{f:al->al->Sem al}{g:Int->Int->Int}(rule:∀(i j:Int)(t u:Tok)(s:am)(Q:al->am->Prop)(E:al->am->Prop),Q (.int (g i j) s.toks) {s with toks:=s.toks+1}->wpAny (model X.prog X.w) X.A (f (.int i t) (.int j u)) Q E s):eN X f (Fw λ i j=>.int (g i j)):=by intro ce s σ H x y v u Q I rx ry h;obtain⟨i,j,rfl,rfl,q⟩:=h;obtain⟨t,rfl⟩:=rx;obtain⟨t',rfl⟩:=ry;exact rule i j t t' s _ _ ⟨.int (g i j),H,I.tok _,⟨_,rfl⟩,q⟩
def IA{f:al->al->Sem al}{g:Int->Int->Bool}(rule:∀(i j:Int)(t u:Tok)(s:am)(Q:al->am->Prop)(E:al->am->Prop),Q (.bool (g i j)) s->wpAny (model X.prog X.w) X.A (f (.int i t) (.int j u)) Q E s):eN X f (Fw λ i j=>.bl (g i j)):=by intro ce s σ H x y v u Q I rx ry h;obtain⟨i,j,rfl,rfl,q⟩:=h;obtain⟨t,rfl⟩:=rx;obtain⟨t',rfl⟩:=ry;exact rule i j t t' s _ _ ⟨.bl (g i j),H,I,rfl,q⟩
def Pe(i j:Int):Prop:=0<j/\j<1073741824
def UD(i j:Int):Prop:=0<=j/\j<=1000000/\i.natAbs<2^64
def rp(i j:Int):Prop:=(-(2^64)<i/\i<2^64)\/(-(2^64)<j/\j<2^64)
def rp.ok{i:Int}(h:rp i j):IntMulOk i j:=by
 rcases h with⟨h1,h2⟩|⟨h1,h2⟩
 ·exact .of_left (intBits_le_64 h1 h2)
 ·exact .of_right (intBits_le_64 h1 h2)
def Nq:eN X (binaryOp .Add) (Fw λ i j=>.int (i+j)):=RX λ _ _ _ _ _ _ _ q=>add_int q
def Nc:eN X (binaryOp .Sub) (Fw λ i j=>.int (i-j)):=RX λ _ _ _ _ _ _ _ q=>sub_int q
def Nh:eN X (binaryOp .Mult) (rI rp λ i j=>.int (i*j)):=UQ λ _ _ _ _ _ _ _ hc q=>mul_int q hc.ok
def Iv:eN X (binaryOp .FloorDiv) (rI Pe λ i j=>.int (i/j)):=UQ λ i j _ _ _ _ _ hc q=>by have h1:(0:Int)<j:=hc.1;have h2:j<1073741824:=hc.2;exact floordiv_int () (by rw[Int.fdiv_eq_ediv_of_nonneg i ()];exact q) (.inl (PyProof.noPylong_small ()))
def Ni:eN X (binaryOp .Mod) (rI (λ _ j=>0<j) λ i j=>.int (i%j)):=UQ λ i j _ _ _ _ _ hc q=>by have h1:(0:Int)<j:=hc;exact mod_int' () (by rw[Int.fmod_eq_emod_of_nonneg i ()];exact q)
def Nf:eN X (binaryOp .Pow) (rI UD λ i j=>.int (i^j.toNat)):=UQ λ _ _ _ _ _ _ _ hc q=>pow_int_small hc.1 hc.2.1 hc.2.2 q
def Z9{f:al->Sem al}{g:Int->Int}(rule:∀(i:Int)(t:Tok)(s:am)(Q:al->am->Prop)(E:al->am->Prop),Q (.int (g i) s.toks) {s with toks:=s.toks+1}->wpAny (model X.prog X.w) X.A (f (.int i t)) Q E s):Vj X f (rU λ i=>.int (g i)):=by intro ce s σ H x v Q I rx h;obtain⟨i,rfl,q⟩:=h;obtain⟨t,rfl⟩:=rx;exact rule i t s _ _ ⟨.int (g i),H,I.tok _,⟨_,rfl⟩,q⟩
def LF:Vj X (unaryOp .USub) (rU λ i=>.int (-i)):=Z9 λ _ _ _ _ _ q=>neg_int q
end
def Q6:V->V->Bool
 | .bh,.bh=>true| .bh,.int _=>true| .int _,.bh=>true| .bh,.bl _=>true| .bl _,.bh=>true| .bh,.str _=>true| .str _,.bh=>true
 | .int _,.int _=>true| .bl _,.bl _=>true| .str _,.str _=>true| .Fe _,.Fe _=>true
 | .int _,.str _=>true| .str _,.int _=>true| .bl _,.str _=>true| .str _,.bl _=>true
 |_,_=>false
def rEq:R2:=λ x y H Q=>Q6 x y=true/\Q (.bl (decide (x=y))) H
def rNe:R2:=λ x y H Q=>Q6 x y=true/\Q (.bl (!decide (x=y))) H
def yr{i:Int}:decide (V.int i=V.int j)=(i==j):=by rw[A4];simp
def EA{i j:Bool}:decide (V.bl i=V.bl j)=(i==j):=by rw[A4];simp
def yq{i j:Str}:decide (V.str i=V.str j)=(i==j):=by rw[A4];simp
def yt{i j:Array UInt8}:decide (V.Fe i=V.Fe j)=(i.toList==j.toList):=by rw[A4];cases i;cases j;simp
section
variable {X:Cx}{a b c:Expr}{ta tb tc:TE}
def ba{σ:St}{H:Hp}{Q:VK}{k k':Bool}(I:io X ce σ H s)(q:Q (.bl k) H)(e:k=k'):EP X ce σ Q (.bool k') s:=by subst e;exact⟨.bl k,H,I,rfl,q⟩
def RW:eN X (compareOp .Eq) rEq:=by
 intro ce s σ H x y v u Q I rx ry h;obtain⟨hs,q⟩:=h;cases x with
 |bh=>
  cases rx;cases y with
  |bh=>cases ry;exact PySem.EqNone.eq_none_none (ba I q (by simp))
  |bl j=>cases ry;exact PySem.EqNone.eq_none_bool (ba I q (by simp))
  |int j=>obtain⟨t',rfl⟩:=ry;exact PySem.EqNone.eq_none_int (ba I q (by simp))
  |str j=>obtain⟨t',rfl⟩:=ry;exact PySem.EqNone.eq_none_str (ba I q (by simp))
  |_=>exact bi (show false=true from hs) n0
 |bl i=>
  cases rx;cases y with
  |bh=>cases ry;exact PySem.EqNone.eq_bool_none (ba I q (by simp))
  |bl j=>cases ry;exact eq_bool (ba I q EA)
  |str j=>obtain⟨t',rfl⟩:=ry;exact PySem.EqMixed.eq_bool_str (ba I q (by simp))
  |_=>exact bi (show false=true from hs) n0
 |int i=>
  obtain⟨t,rfl⟩:=rx;cases y with
  |bh=>cases ry;exact PySem.EqNone.eq_int_none (ba I q (by simp))
  |int j=>obtain⟨t',rfl⟩:=ry;exact eq_int (ba I q yr)
  |str j=>obtain⟨t',rfl⟩:=ry;exact PySem.EqMixed.eq_int_str (ba I q (by simp))
  |_=>exact bi (show false=true from hs) n0
 |str i=>
  obtain⟨t,rfl⟩:=rx;cases y with
  |bh=>cases ry;exact PySem.EqNone.eq_str_none (ba I q (by simp))
  |bl j=>cases ry;exact PySem.EqMixed.eq_str_bool (ba I q (by simp))
  |int j=>obtain⟨t',rfl⟩:=ry;exact PySem.EqMixed.eq_str_int (ba I q (by simp))
  |str j=>obtain⟨t',rfl⟩:=ry;exact eq_str (ba I q yq)
  |_=>exact bi (show false=true from hs) n0
 |Fe i=>
  obtain⟨t,rfl⟩:=rx;cases y with
  |Fe j=>obtain⟨t',rfl⟩:=ry;exact PySem.W.eq_bytes (ba I q yt)
  |_=>exact bi (show false=true from hs) n0
 |_=>cases y<;>exact bi (show false=true from hs) n0
def RR:eN X (compareOp .NotEq) rNe:=by
 intro ce s σ H x y v u Q I rx ry h;obtain⟨hs,q⟩:=h;cases x with
 |bh=>
  cases rx;cases y with
  |bh=>cases ry;exact PySem.EqNone.ne_none_none (ba I q (by simp))
  |bl j=>cases ry;exact PySem.EqNone.ne_none_bool (ba I q (by simp))
  |int j=>obtain⟨t',rfl⟩:=ry;exact PySem.EqNone.ne_none_int (ba I q (by simp))
  |str j=>obtain⟨t',rfl⟩:=ry;exact PySem.EqNone.ne_none_str (ba I q (by simp))
  |_=>exact bi (show false=true from hs) n0
 |bl i=>
  cases rx;cases y with
  |bh=>cases ry;exact PySem.EqNone.ne_bool_none (ba I q (by simp))
  |bl j=>cases ry;exact ne_bool (ba I q (J3 not EA))
  |str j=>obtain⟨t',rfl⟩:=ry;exact PySem.EqMixed.ne_bool_str (ba I q (by simp))
  |_=>exact bi (show false=true from hs) n0
 |int i=>
  obtain⟨t,rfl⟩:=rx;cases y with
  |bh=>cases ry;exact PySem.EqNone.ne_int_none (ba I q (by simp))
  |int j=>obtain⟨t',rfl⟩:=ry;exact ne_int (ba I q (J3 not yr))
  |str j=>obtain⟨t',rfl⟩:=ry;exact PySem.EqMixed.ne_int_str (ba I q (by simp))
  |_=>exact bi (show false=true from hs) n0
 |str i=>
  obtain⟨t,rfl⟩:=rx;cases y with
  |bh=>cases ry;exact PySem.EqNone.ne_str_none (ba I q (by simp))
  |bl j=>cases ry;exact PySem.EqMixed.ne_str_bool (ba I q (by simp))
  |int j=>obtain⟨t',rfl⟩:=ry;exact PySem.EqMixed.ne_str_int (ba I q (by simp))
  |str j=>obtain⟨t',rfl⟩:=ry;exact ne_str (ba I q (J3 not yq))
  |_=>exact bi (show false=true from hs) n0
 |Fe i=>
  obtain⟨t,rfl⟩:=rx;cases y with
  |Fe j=>obtain⟨t',rfl⟩:=ry;exact PySem.W.ne_bytes (ba I q (J3 not yt))
  |_=>exact bi (show false=true from hs) n0
 |_=>cases y<;>exact bi (show false=true from hs) n0
def RS:eN X (compareOp .Lt) (Fw λ i j=>.bl (decide (i<j))):=IA λ _ _ _ _ _ _ _ q=>lt_int q
def RT:eN X (compareOp .LtE) (Fw λ i j=>.bl (decide (i<=j))):=IA λ _ _ _ _ _ _ _ q=>le_int q
def RU:eN X (compareOp .Gt) (Fw λ i j=>.bl (decide (j<i))):=IA λ _ _ _ _ _ _ _ q=>gt_int q
def RV:eN X (compareOp .GtE) (Fw λ i j=>.bl (decide (j<=i))):=IA λ _ _ _ _ _ _ _ q=>ge_int q
def zy:eN X (compareOp .In) (λ x y H Q=>∃i j,x=.str i/\y=.str j/\Q (.bl (!(Builtin.Str.occurrences j i 0 j.length 1).isEmpty)) H):=by intro ce s σ H x y v u Q I rx ry h;obtain⟨i,j,rfl,rfl,q⟩:=h;obtain⟨t,rfl⟩:=rx;obtain⟨t',rfl⟩:=ry;exact in_str (ba I q rfl)
def Nk:eN X (compareOp .Is) (λ x y H Q=>y=.bh/\Q (.bl (decide (x=.bh))) H):=by
 intro ce s σ H x y v u Q I rx ry h;obtain⟨rfl,q⟩:=h;cases ry;refine is_none_gen (ba I q ?_);cases x<;>first
  |(cases rx;rfl)
  |(obtain⟨t,rfl⟩:=rx;rfl)
def Iq:eN X (compareOp .IsNot) (λ x y H Q=>y=.bh/\Q (.bl (!decide (x=.bh))) H):=by
 intro ce s σ H x y v u Q I rx ry h;obtain⟨rfl,q⟩:=h;cases ry;refine isnot_none_gen (ba I q ?_);cases x<;>first
  |(cases rx;rfl)
  |(obtain⟨t,rfl⟩:=rx;rfl)
def eN.or{f:al->al->Sem al}{r r':R2}(h:eN X f r)(h':eN X f r'):eN X f (λ x y H Q=>r x y H Q\/r' x y H Q):=by
 intro ce s σ H x y v u Q I rx ry q;rcases q with q|q
 ·exact h ce s σ H x y v u Q I rx ry q
 ·exact h' ce s σ H x y v u Q I rx ry q
def Ii{op:CmpOp}{r:R2}(ho:eN X (compareOp op) r)(ha:PE X a ta)(hb:PE X b tb)(hm:behindInMarks op b=false):PE X (.Compare a [op] [b] pos) (Qk r ta tb):=by intro ce s σ H Q I h;exact wpAny_Compare1 (O4 ha hb I h λ v u s2 x y H2 I2 rx ry q=>ho ce s2 σ H2 x y v u Q I2 rx ry q) hm
def Km(t:TE):TT:=λ σ H Q=>t σ H λ x H'=>∃k,x=.bl k/\Q k H'
def HW{op:CmpOp}{r:R2}(ho:eN X (compareOp op) r)(ha:PE X a ta)(hb:PE X b tb)(hm:behindInMarks op b=false):PT X (.Compare a [op] [b] pos) (Km (Qk r ta tb)):=by
 intro ce s σ H Q I h;refine wpAny_isTrue_Compare1 (cq (ha ce s σ H _ I h) λ v s1 ⟨x,H1,I1,r1,q1⟩=>cq (hb ce s1 σ H1 _ I1 q1) λ u s2 ⟨y,H2,I2,r2,q2⟩=>
  cq (ho ce s2 σ H2 x y v u _ I2 r1 r2 q2) λ c s3 ⟨z,H3,I3,r3,k,e,q3⟩=>?_) hm
 subst e;cases r3;exact y1 ⟨H3,I3,q3⟩
def Bn(r r':R2)(ta tb tc:TE):TE:=λ σ H Q=>ta σ H λ x H1=>tb σ H1 λ y H2=>r x y H2 λ z H3=>∃k,z=.bl k/\
 (if k=true then tc σ H3 λ w' H4=>r' y w' H4 Q else Q (.bl false) H3)
def Cr{op Nu:CmpOp}{r r':R2}(ho:eN X (compareOp op) r)(kL:eN X (compareOp Nu) r')(ha:PE X a ta)(hb:PE X b tb)(hc:PE X c tc)(hm:lastMarks [op,Nu] [b,c]=false:=by with_unfolding_all rfl):PT X (.Compare a [op,Nu] [b,c] pos) (Km (Bn r r' ta tb tc)):=by
 intro ce s σ H Q I h;refine isTrue_chain (cq (ha ce s σ H _ I h) λ v s1 ⟨x,H1,I1,r1,q1⟩=>test_link (cq (hb ce s1 σ H1 _ I1 q1) λ u s2 ⟨y,H2,I2,r2,q2⟩=>
  cq (ho ce s2 σ H2 x y v u _ I2 r1 r2 q2) λ d s3 ⟨z,H3,I3,r3,k,e,q3⟩=>?_)) hm
 subst e;cases r3;refine y1 ?_;cases k with
 |false=>obtain⟨k',e',q'⟩:=q3;cases e';exact ite_ff ⟨H3,I3,q'⟩
 |true=>refine ite_tt (test_last (cq (hc ce s3 σ H3 _ I3 q3) λ w' s4 ⟨z',H4,I4,r4,q4⟩=>cq (kL ce s4 σ H4 y z' u w' _ I4 r2 r4 q4) λ d' s5 ⟨z2,H5,I5,r5,k2,e2,q5⟩=>?_));subst e2;cases r5;exact y1 ⟨H5,I5,q5⟩
def iG:(sizeLine:Nat)<2^63:=by rw[G4];decide
def vo:eN X (binaryOp .Add) (λ x y H Q=>∃i j,x=.str i/\y=.str j/\i.length+j.length<=sizeLine/\Q (.str (i++j)) H):=by intro ce s σ H x y v u Q I rx ry h;obtain⟨i,j,rfl,rfl,hz,q⟩:=h;obtain⟨t,rfl⟩:=rx;obtain⟨t',rfl⟩:=ry;exact add_str (λ t' tk=>⟨.str (i++j),H,I.tok _,⟨_,rfl⟩,q⟩) hz
def vals1{x:V}(r:li [x] us):∃u,us=[u]/\lc x u:=by
 cases r with
 |cons r1 r2=>cases r2;exact⟨_,rfl,r1⟩
def vals2{x y:V}(r:li [x,y] us):∃u w',us=[u,w']/\lc x u/\lc y w':=by
 cases r with
 |cons r1 r2=>
  cases r2 with
  |cons r3 r4=>cases r4;exact⟨_,_,rfl,r1,r3⟩
def Ap(hc:X.calm=true):cI X (.builtin "min") (λ xs H Q=>∃i j,xs=[.int i,.int j]/\Q (.int (if j<i then j else i)) H):=by
 intro ce s σ H xs us Q I r h;obtain⟨i,j,rfl,q⟩:=h;obtain⟨u,w',rfl,⟨t,rfl⟩,⟨t',rfl⟩⟩:=vals2 r;refine min_two_ints (I.ok.hd hc) λ h' tk k=>⟨_,H,I.kept k,?_,q⟩;by_cases hj:j<i
 ·rw[J6 hj,J6 hj];exact⟨_,rfl⟩
 ·rw[J7 hj,J7 hj];exact⟨_,rfl⟩
def As:cI X (.type "int") (λ xs H Q=>(∃i,xs=[.int i]/\Q (.int i) H)\/∃k,xs=[.bl k]/\Q (.int (if k then 1 else 0)) H):=by
 intro ce s σ H xs us Q I r h;rcases h with⟨i,rfl,q⟩|⟨k,rfl,q⟩
 ·obtain⟨u,rfl,t,rfl⟩:=vals1 r;exact call_int_int ⟨.int i,H,I,⟨_,rfl⟩,q⟩
 ·obtain⟨u,rfl,r1⟩:=vals1 r;cases r1;exact call_int_bool ⟨.int (if k then 1 else 0),H,I.tok _,⟨_,rfl⟩,q⟩
end
structure O'(h:Heap)(x dx C:be)(mA:Str->Option al):Prop where
 obj:h.get? x=some (PySem.W.instObj C dx)
 ns:h.Ns1 dx mA
 ne:dx≠x
set_option tactic.hygienic true in
def zP{h:Heap}{dx:be}(n:h.Ns1 dx mA):∃od,h.get? dx=some od/\∀name,PySem.W.lookIn name od=some (mA name):=by
 obtain⟨o,es,ep,ho,hd,hk,_,hm⟩:=n;refine⟨o,ho,λ name=>?_⟩;have e:=hm name;unfold nsFind findBy at e;rw[<- Array.find?_toList]at e;unfold PySem.W.lookIn;rw[hd];dsimp only;split
 ·rename_i y q;rw[q]at e;exact J3 some e
 ·rename_i q;rw[q]at e;have a:es.toList.any (·.refKey)=false:=by rw[List.any_eq_false];intro y hy;obtain⟨z,t,qF⟩:=hk y (Array.mem_toList_iff.mp hy);simp[DictEntry.refKey,qF]
  have a':¬es.toList.any (·.refKey)=true:=by rw[a];exact n0
  rw[J7 a'];exact J3 some e
def O'.look{h:Heap}{x dx C:be}(I:O' h x dx C mA):∃od,PySem.W.InstAt h x (PySem.W.instObj C dx) C (some od)/\∀name,PySem.W.lookIn name od=some (mA name):=
 let⟨od,ho,hl⟩:=zP I.ns
 ⟨od,⟨I.obj,rfl,rfl,ho⟩,hl⟩
def jD.some_of{v:V}{o:Option al}(r:jD (some v) o):∃u,o=some u/\lc v u:=by
 cases o with
 |none=>exact(show False from r).elim
 |some u=>exact⟨u,rfl,r⟩
section
variable {H H':Hp}{h:Heap}{C dx:be}{fs fs':List (Str×V)}
def Jm(bP:iU P w H h)(e:H a=some (.ins C dx fs)):∃mA,O' h a dx C mA/\(∀f,jD (fs.lookup f) (mA f))/\PySem.Within mA (fs.map (·.1))/\fs.length<=1000/\H dx=some (.own a):=by obtain⟨d,z,ne,ob,mA,n,r,q⟩:=(show bK P w H h a (.ins C dx fs)from bP a _ e);exact⟨mA,⟨ob,n,ne⟩,r,q,z,d⟩
end
structure Yl(K:J8)(C:be):Prop where
 pg:PySem.W.plainGet K C Str.empty=true
 hd:PySem.W.hasDictIn K C=true
 po:PySem.W.plainOver K C=true
 sa:PySem.W.findIn K (.ref C) "__setattr__"=some (some (.builtin "object.__setattr__"))
def Yl.get{C:be}(c:Yl K C)(f:Str):PySem.W.plainGet K C f=true:=c.pg
section
variable {X:Cx}{σ:St}{H:Hp}{c:al}
inductive lq(K:J8)(H:Hp):V->al->Prop where
 |bh:lq K H .bh (.type "NoneType")
 |bl (x:Bool):lq K H (.bl x) (.type "bool")
 |int (i:Int):lq K H (.int i) (.type "int")
 |str (x:Str):lq K H (.str x) (.type "str")
 |PN (x:UInt64):lq K H (.PN x) (.type "float")
 |lst {a:be} {xs:List V} (e:H a=some (.lst xs)):lq K H (.ref a) (.type "list")
 |gG {a:be} {o:Obj} {xs:List V} (e:H a=some (.gG o (.lst xs))):lq K H (.ref a) (.type "list")
 |tup {a:be} {xs:List V} (e:H a=some (.tup xs)):lq K H (.ref a) (.type "tuple")
 |dK {a:be} {ar:List (Key×V)} (e:H a=some (.dK ar)):lq K H (.ref a) (.type "dict")
 |dT {a:be} {ar:List (List Key×V)} (e:H a=some (.dT ar)):lq K H (.ref a) (.type "dict")
 |ins {a C dx:be} {fs:List (Str×V)} (e:H a=some (.ins C dx fs)) (cl:Yl K C) (ha:PySem.W.findIn K (.ref C) "__class__"=some (some (.builtin "object.__class__")))
   (hn:PySem.W.specialIn K (.builtin "object.__class__") "__get__"=some (some (.builtin "getset_descriptor.__get__"))) (U3:PySem.W.takesIn K (.builtin "object.__class__")=some true)
   (hm:PySem.W.mroIn K C (.type "object")=some true):lq K H (.ref a) (.ref C)
def h_{x:V}{t:al}(I:io X ce σ H s)(rx:lc x u)(ty:lq X.K H x t)(e:PySem.W.kitOne X.K t c=some b)(h:∀tk,Q (.bool b) {s with toks:=tk}):wpAny (model X.prog X.w) A (call (.builtin "isinstance") [u,c]) Q E s:=by
 cases ty with
 |bh=>cases(show u=Value.none from rx);exact B3 PySem.W.kitx_none I.nN True.intro e (λ z=>nomatch z) h
 |bl y=>cases(show u=Value.bool y from rx);exact B3 PySem.W.kitx_bool I.nN True.intro e (λ z=>nomatch z) h
 |int i=>obtain⟨t,q⟩:=(show ∃t,u=Value.int i t from rx);cases q;exact B3 PySem.W.kitx_int I.nN True.intro e (λ z=>nomatch z) h
 |str y=>obtain⟨t,q⟩:=(show ∃t,u=Value.str y t from rx);cases q;exact B3 PySem.W.kitx_str I.nN True.intro e (λ z=>nomatch z) h
 |PN y=>obtain⟨t,q⟩:=(show ∃t,u=Value.float y t from rx);cases q;exact B3 PySem.W.kitx_float I.nN True.intro e (λ z=>nomatch z) h
 |@lst a xs ea=>cases(show u=Value.ref a from rx);obtain⟨_,_,n,_,h1⟩:=(show bK X.prog X.w H s.heap a (.lst xs)from I.bP a _ ea);exact B3 PySem.W.kitx_list I.nN ⟨_,h1,rfl⟩ e (λ z=>nomatch z) h
 |@gG a ob xs ea=>cases(show u=Value.ref a from rx);obtain⟨_,_,_,n,_,h1⟩:=(show bK X.prog X.w H s.heap a (.gG ob (.lst xs))from I.bP a _ ea);exact B3 PySem.W.kitx_list I.nN ⟨_,h1,rfl⟩ e (λ z=>nomatch z) h
 |@tup a xs ea=>cases(show u=Value.ref a from rx);obtain⟨_,_,_,p⟩:=(show bK X.prog X.w H s.heap a (.tup xs)from I.bP a _ ea);obtain⟨o,h1,h2,_⟩:=p;exact B3 PySem.W.kitx_tuple I.nN ⟨o,h1,h2⟩ e (λ z=>nomatch z) h
 |@dK a ar ea=>cases(show u=Value.ref a from rx);obtain⟨_,_,vs,_,p⟩:=(show bK X.prog X.w H s.heap a (.dK ar)from I.bP a _ ea);obtain⟨o,es,ep,h1,h2,_⟩:=p;exact B3 PySem.W.kitx_dict I.nN ⟨o,h1,h2.1⟩ e (λ z=>nomatch z) h
 |@dT a ar ea=>cases(show u=Value.ref a from rx);obtain⟨_,_,xs,_,o,es,ep,h1,h2,_⟩:=(show bK X.prog X.w H s.heap a (.dT ar)from I.bP a _ ea);exact B3 PySem.W.kitx_dict I.nN ⟨o,h1,h2.1⟩ e (λ z=>nomatch z) h
 |@ins a C dx fs ea cl ha hn U3 hm=>cases(show u=Value.ref a from rx);obtain⟨mA,O,_⟩:=Jm I.bP ea;obtain⟨od,J,_⟩:=O.look;exact B3 (PySem.W.kitx_own (cl.get _) cl.hd ha hn U3 hm) I.nN J e (λ z=>nomatch z) h
end
structure cR(k:Nat)(A:Around):Prop where
 hd:A.handled=none
 dp:A.depth+2*k+5<recursionLimit
 un:A.units+16*k+200<cLine
def cR.mono{j:Nat}(r:cR k A)(h:j<=k):cR j A:=⟨r.hd,by have:=r.dp;lia,by have:=r.un;lia⟩
theorem cR.deeper(r:cR (k+1) A)(env:Env):cR k (A.deeper env):=
 ⟨r.hd,by have:=r.dp;show A.depth+1+2*k+5 < _;lia,by have:=r.un;show A.units+3+16*k+200 < _;lia⟩
theorem cR.in1(r:cR (k+1) A):cR k A.in1:=
 ⟨r.hd,by have:=r.dp;show A.depth+2*k+5 < _;lia,by have:=r.un;show A.units+1+16*k+200 < _;lia⟩
theorem cR.depth(r:cR k A):A.depth<recursionLimit:=by have:=r.dp;lia
theorem cR.units(r:cR k A):A.units+64<cLine:=by have:=r.un;lia
def LO:TA:=λ _ H Q=>Q [] H
def Bm(ta:TE)(tr:TA):TA:=λ σ H Q=>ta σ H λ x H1=>tr σ H1 λ xs H2=>Q (x::xs) H2
section
variable {X:Cx}{te:TE}{t:TA}
def iF:PA X [] LO:=λ _ _ _ _ H Q I h=>Calls.spliced_nil ⟨[],H,I,.nil,h⟩
def gf(ha:PE X e te)(hr:PA X es t)(hs:ux X e es:=by rfl):PA X (e::es) (Bm te t):=by intro pos ce s σ H Q I h;rw[hs];show wpAny _ _ (spliced ((false,eval e X.env)::backTo pos (starEach es X.env))) _ _ s;refine Calls.spliced_cons (cq (ha ce s σ H _ I h) λ u s1 ⟨x,H1,I1,r1,q1⟩=>?_);exact cq (hr pos ce s1 σ H1 _ I1 q1) λ us s2 ⟨xs,H2,I2,r2,q2⟩=>⟨x::xs,H2,I2,.cons r1 r2,q2⟩
def VJ(t:TA):TE:=λ σ H Q=>t σ H λ xs H1=>xs.length<=sizeLine/\∀p,H1 p=none->Q (.ref p) (lm H1 p (.tup xs))
def VP(t:TA):TE:=λ σ H Q=>t σ H λ xs H1=>xs.length<=sizeLine/\∀p,H1 p=none->Q (.ref p) (lm H1 p (.lst xs))
def MV{x1:_}(h:PA X es t):PE X (.Tuple es x1 pos) (VJ t):=by intro ce s σ H Q I hq;refine wpAny_Tuple_spliced (cq (h pos ce s σ H _ I hq) λ us s1 ⟨xs,H1,I1,r,z,q⟩=>⟨by rw[<- r.length];exact z,?_⟩);have hf:H1 s1.heap.objs.size=none:=I1.bP.fresh (G3 _);refine⟨.ref s1.heap.objs.size,lm H1 s1.heap.objs.size (.tup xs),I1.laid (t':=s1.toks) (λ b u e=>i7 _ e) (G3 _) ?_,rfl,q _ hf⟩;exact⟨z,us,r,⟨_,l7 _ rfl,rfl,_,rfl⟩⟩
def M_(h:PA X es t):PE X (.List es pos) (VP t):=by intro ce s σ H Q I hq;refine wpAny_List_spliced (cq (h pos ce s σ H _ I hq) λ us s1 ⟨xs,H1,I1,r,z,q⟩=>⟨by rw[<- r.length];exact z,?_⟩);have hf:H1 s1.heap.objs.size=none:=I1.bP.fresh (G3 _);refine⟨.ref s1.heap.objs.size,lm H1 s1.heap.objs.size (.lst xs),I1.laid (t':=s1.toks) (λ b u e=>i7 _ e) (G3 _) ?_,rfl,q _ hf⟩;exact⟨z,us,0,r,l7 _ rfl⟩
end
abbrev Sp:=List V->Hp->VK->XK->Prop
abbrev Fs:=List Env->Hp->am->XK->al->am->Prop
structure rn(P:Program)(w:World)(K:J8)(mg:Str->Option al)(base:Heap)(A:Around)(outer:List Env)(s:am)(H:Hp):Prop where
 frames:A.frames=some outer
 mod:Mod K mg base
 bs:∀b o,base.get? b=some o->s.heap.get? b=some o/\H b=none
 FI:base.objs.size<=s.heap.objs.size
 ll:s.heap.FunFrames base outer
 OF:∀b∈Ac outer,H b=none
 bP:iU P w H s.heap
 bare:AllBare s.gens
def CE(outer:List Env)(P:Program)(w:World)(H:Hp)(s:am)(Q:VK)(u:al)(s':am):Prop:=
 ∃v H',s'.os=s.os/\AllBare s'.gens/\Un (Ac outer) [] H H' s.heap s'.heap/\iU P w H' s'.heap/\lc v u/\Q v H'
def CR(CX:Fs)(outer:List Env)(P:Program)(w:World)(H:Hp)(s:am)(Q:VK)(E:XK)(r:Result)(s':am):Prop:=
 match r with
 | .ok (.ret u)=>CE outer P w H s Q u s'
 | .ok _=>False
 | .error e=>CX outer H s E e s'
structure bg(P:Program)(w:World)(K:J8)(mg:Str->Option al)(base:Heap)(CX:Fs)(k:Nat)(f:be)(fd:FuncData)(ps:List Str)(sp:Sp):Prop where
 len:∀vs H Q E,sp vs H Q E->vs.length=ps.length
 run:∀(A:Around)(outer:List Env)(s:am)(H:Hp)(args:Args)(us:List al)(vs:List V)(Q:VK)(E:XK),cR k A->rn P w K mg base A outer s H->BindsTo s fd args (ps.zip us)->li vs us->sp vs H Q E->
  codeAny (model P w) A (.call (.ref f) args) (CR CX outer P w H s Q E) s
theorem rn.in1{outer:List Env}{H:Hp}(e:rn P w K mg base A outer s H):rn P w K mg base A.in1 outer s H:=⟨e.frames,e.mod,e.bs,e.FI,e.ll,e.OF,e.bP,e.bare⟩
section
variable {X:Cx}{σ:St}{H:Hp}{s':am}
def io.OK(I:io X ce σ H s):rn X.prog X.w X.K X.mg X.base X.A X.stack s H:=
 ⟨I.ok.frames,I.ok.mod,I.bs,D7 I.ok.FI I.sz,I.stack,I.xa,I.bP,I.bare⟩
def io.after{Q:VK}(I:io X ce σ H s)(h:CE X.stack X.prog X.w H s Q u s'):EP X ce σ Q u s':=by obtain⟨v,H',os,bare,un,bP,r,q⟩:=h;obtain⟨hh,g,d,t,os'⟩:=s';obtain rfl:os'=s.os:=os;exact⟨v,H',I.call (h':=hh) (g':=g) (d':=d) (t':=t) (ch:=[]) un bP bare (λ b z=>bi z (by simp)),r,q⟩
end
def Kn(sp:Sp)(Ew:List V)(E:XK)(t:TA):TE:=λ σ H Q=>t σ H λ vs H1=>sp (vs++Ew) H1 Q E
def Binds(K:J8)(fd:FuncData)(ps:List Str)(ds:List al):Prop:=
 ∀(s:am)(us:List al),K.In s.heap->(us++ds).length=ps.length->BindsTo s fd ⟨us,[]⟩ (ps.zip (us++ds))
def Binds.all(h:∀us:List al,us.length=ps.length->bindArgs fd ⟨us,[]⟩=pure (ps.zip us)):Binds K fd ps []:=λ s us _ hl=>by rw[A5]at hl ⊢;exact .of_eq (h us hl)
def Passes(CX:Fs)(X:Cx)(E:XK):Prop:=∀(ce:List (be×Obj))(σ:St)(H:Hp)(s:am)(e:al)(s':am),io X ce σ H s->CX X.stack H s E e s'->X.xe e s'
section
variable {X:Cx}{CX:Fs}{C:be}{sp:Sp}{Ew:List V}{ds:List al}{E:XK}{x m:Str}{p:Pos}{o:Expr}{ta:TE}{t:TA}
def L_{σ:St}{H:Hp}{Q:VK}{vs:List V}(F:bg X.prog X.w X.K X.mg X.base CX k f fd ps sp)(hr:cR k X.A)(hb:Binds X.K fd ps ds)(hd:li Ew ds)(hx:Passes CX X E)(I:io X ce σ H s)(r:li vs us)(h:sp (vs++Ew) H Q E):wpAny (model X.prog X.w) X.A (call (.ref f) us) (EP X ce σ Q) X.xe s:=by
 have r2:li (vs++Ew) (us++ds):=r.append hd;have hl:(us++ds).length=ps.length:=by rw[<- r2.length];exact F.len _ _ _ _ h
 refine wpAny_call (codeAny_mono (F.run X.A X.stack s H ⟨us,[]⟩ (us++ds) (vs++Ew) Q E hr I.OK (hb s us I.nN hl) r2 h) λ r s' hq=>?_);cases r with
 |error e=>exact hx ce σ H s e s' I hq
 |ok fl=>
  cases fl with
  |ret u=>exact I.after hq
  |next=>exact False.elim hq
  |brk=>exact False.elim hq
  |cont=>exact False.elim hq
def Ij(F:bg X.prog X.w X.K X.mg X.base CX k f fd ps sp)(hr:cR k X.A)(hg:Gl X x)(hm:X.mg x=some (.ref f))(hk:PySem.W.keepIn X.K (.ref f)=true)(hb:Binds X.K fd ps ds)(hd:li Ew ds)(hx:Passes CX X E)(ha:PA X (e::es) t)(tf:nV x:=by decide)(he:ux X e es:=by rfl)(gS:Kg X pos es:=by rfl):PE X (.Call (.Name x p) (e::es) [] pos) (Kn sp Ew E t):=by intro ce s σ H Q I h;refine r9 (qr I hg hm ?_ tf);refine PySem.W.callWith_K (h₀:=X.base) I.ok.mod.UW hk (cq (ha pos ce s σ H _ I h) λ us s1 ⟨vs,H1,I1,r,q⟩=>⟨I1.nN,?_⟩) he gS;exact L_ F hr hb hd hx I1 r q
end
def PK(X:Cx)(SU:List Keyword)(t:TA):Prop:=
 ∀(pos:Pos)(ce:List (be×Obj))(s:am)(σ:St)(H:Hp)(Q:List V->Hp->Prop),io X ce σ H s->t σ H Q->wpAny (model X.prog X.w) X.A (evalAll ((backToKw pos (keywordEach SU X.env)).map (·.2))) (AP X ce σ Q) X.xe s
section
variable {X:Cx}{CX:Fs}{C:be}{ks:List Str}{sp:Sp}{E:XK}{x m:Str}{p Ws:Pos}{o:Expr}{SU:List Keyword}{te ta:TE}{t tk:TA}{nm:Option Str}
def Cw:PK X [] LO:=λ _ _ _ _ H Q I h=>wpAny_evalAll_nil ⟨[],H,I,.nil,h⟩
def xC(ha:PE X e te)(hr:PK X SU t):PK X (⟨nm,e,Ws⟩::SU) (Bm te t):=by intro pos ce s σ H Q I h;show wpAny _ _ (evalAll ((do let v <- eval e X.env;standAt pos;pure v)::(backToKw pos (keywordEach SU X.env)).map (·.2))) _ _ s;refine wpAny_evalAll_cons (G8 (cq (ha ce s σ H _ I h) λ u s1 ⟨x,H1,I1,r1,q1⟩=>G8 (wpAny_standAt (G9 ?_))));exact cq (hr pos ce s1 σ H1 _ I1 q1) λ us s2 ⟨xs,H2,I2,r2,q2⟩=>⟨x::xs,H2,I2,.cons r1 r2,q2⟩
variable {g:List al->List al->List al}{gV:List V->List V->List V}
end
structure jE(N P:List Str)(sc:Scope):Prop where
 kind:sc.kind=.function
 co:sc.isCoroutine=false
 gen:sc.isGenerator=false
 nd:N.Nodup
 pre:N.take P.length=P
 par:∀x∈P,sc.names.lookup x=some .local\/sc.names.lookup x=some .cell
 NN:∀y∈sc.names,y.2≠.free
theorem oY{x:Str}:∀{binds:List (Str×al)} {m:Str->Option al},(∀v,(x,v)∉binds)->bindL kindOf binds m x=m x
 |[],_,_=>rfl
 |(n,v)::r,m,h=>by
  unfold bindL;rw[oY λ w hw=>h w (j9 _ hw)];split
  ·have:x≠n:=by rintro rfl;exact h v l9
   simp[this]
  ·rfl
theorem o_{x:Str}:∀{binds:List (Str×al)} {m:Str->Option al},(∀v,(x,v)∉binds)->bindC kindOf binds m x=m x
 |[],_,_=>rfl
 |(n,v)::r,m,h=>by
  unfold bindC;rw[o_ λ w hw=>h w (j9 _ hw)];split
  ·rfl
  ·have:x≠n:=by rintro rfl;exact h v l9
   simp[this]
theorem oZ{x:Str}{v:al}:∀{P:List Str} {vs:List al} {i:Nat} {m:Str->Option al},P.Nodup->P[i]?=some x->vs[i]?=some v->kindOf x=some .local->
  bindL kindOf (P.zip vs) m x=some v
 |[],_,_,_,_,h,_,_=>by simp at h
 |_::_,[],_,_,_,_,h,_=>by simp at h
 |p::P,w::vs,0,m,nd,h1,h2,hk=>by simp at h1 h2;subst h1;subst h2;show bindL kindOf ((p,w)::P.zip vs) m p=_;unfold bindL;rw[oY λ v hv=>(nodup_cons.mp nd).1 (of_mem_zip hv).1,J6 hk];simp
 |p::P,w::vs,i+1,m,nd,h1,h2,hk=>by show bindL kindOf ((p,w)::P.zip vs) m x=_;unfold bindL;exact oZ (i:=i) (nodup_cons.mp nd).2 (by simpa using h1) (by simpa using h2) hk
theorem pb{x:Str}{v:al}:∀{P:List Str} {vs:List al} {i:Nat} {m:Str->Option al},P.Nodup->P[i]?=some x->vs[i]?=some v->kindOf x≠some .local->
  bindC kindOf (P.zip vs) m x=some v
 |[],_,_,_,_,h,_,_=>by simp at h
 |_::_,[],_,_,_,_,h,_=>by simp at h
 |p::P,w::vs,0,m,nd,h1,h2,hk=>by simp at h1 h2;subst h1;subst h2;show bindC kindOf ((p,w)::P.zip vs) m p=_;unfold bindC;rw[o_ λ v hv=>(nodup_cons.mp nd).1 (of_mem_zip hv).1,J7 hk];simp
 |p::P,w::vs,i+1,m,nd,h1,h2,hk=>by show bindC kindOf ((p,w)::P.zip vs) m x=_;unfold bindC;exact pb (i:=i) (nodup_cons.mp nd).2 (by simpa using h1) (by simpa using h2) hk
def start(N:List Str)(vs:List V):St:=vs.map some++List.replicate (N.length-vs.length) none
def tV(CX:Fs)(P:Program)(w:World)(K:J8)(mg:Str->Option al)(base:Heap)(N:List Str)(qual:Str)(scope:Scope)(f:be)(cd:al)(A:Around)(outer:List Env)(s:am)(H:Hp)(E:XK):Cx where
 prog:=P
 w:=w
 K:=K
 mg:=mg
 base:=base
 A:=A.deeper (envOfC qual scope s.heap.objs.size f cd)
 N:=N
 s₀:=s
 H₀:=H
 env:=envOfC qual scope s.heap.objs.size f cd
 outer:=outer
 stack:=envOfC qual scope s.heap.objs.size f cd::outer
 ex:=[]
 calm:=true
 fn:=λ _=>true
 pn:=[]
 xe:=λ e s'=>wpAny (model P w) (A.deeper (envOfC qual scope s.heap.objs.size f cd)) (leaving (envOfC qual scope s.heap.objs.size f cd) e) (λ _ Ri=>CX outer H s E e Ri) (λ e' Ri=>CX outer H s E e' Ri) s'
def ud{sc:Scope}{x:Str}(h:sc.names.lookup x=some .cell):∃c,(cellsFrom n sc.names []).lookup x=some c:=by have q:=PySem.W.cellsFrom_some sc.names n [] (.inl h);exact Option.isSome_iff_exists.mp q
def zW{CX:Fs}{N:List Str}{cd:al}{outer:List Env}{s1:am}{H:Hp}{E:XK}{vs:List V}(S:jE N ps scope)(hd:A.handled=none)(e0:rn P w K mg base A outer s H)(hl:vs.length=ps.length)(r:li vs us)(x:InCallC s s.heap.objs.size (bindL (envOfC qual scope s.heap.objs.size f cd).kindOf (ps.zip us) λ _=>none) (cellsFrom (s.heap.objs.size+1) scope.names []) (bindC (envOfC qual scope s.heap.objs.size f cd).kindOf (ps.zip us) λ _=>none) s1):io (tV CX P w K mg base N qual scope f cd A outer s H E) [] (start N vs) H s1:=by
 have gS:ps.length<=N.length:=by have:=J3 List.length S.pre;rw[A3]at this;lia
 obtain⟨h1,tk,rfl,hk⟩:=x.done;have SI:∀b:be,b∉(tV CX P w K mg base N qual scope f cd A outer s H E).ex:=λ b z=>bi (show b∈([]:List be)from z) (by simp);refine⟨⟨e0.mod,S.kind,rfl,rfl,G3 _,λ y z c h1 h2=>?_,λ y hy=>?_,λ y c _ h=>?_,λ _=>hd,Around.frames_deeper e0.frames,.inr ⟨rfl,rfl⟩,λ b z=>bi z (SI b),e0.bs,e0.FI,λ b _ _=>SI b,λ b z=>bi z (SI b),e0.ll,e0.OF⟩,
  rfl,e0.bare,Un.kept hk,⟨_,x.toInCall.ns,λ i y v h1 h2 h3=>?_⟩,λ y c h=>⟨_,x.cell y c h⟩,e0.bP.fresh (G3 _),λ y c h=>?_,λ p hp=>bi (show p∈([]:List (be×Obj))from hp) (by simp),e0.bP.kept hk,?_⟩
 ·exact name_of_addr x.apart (l3 h1) (l3 h2)
 ·have hy:scope.names.lookup y=some .cell\/scope.names.lookup y=some .free:=hy;rcases hy with hy|hy
  ·exact ud hy
  ·exact bi rfl (S.NN _ (l3 hy))
 ·exact G2 (x.above y c (l3 h))
 ·have hi:i<vs.length:=by
   unfold start at h2;by_cases hi:i<vs.length
   ·exact hi
   ·rw[b7 (by simpa using hi)]at h2;rw[e9]at h2;split at h2<;>cases h2
  have ha:vs[i]?=some v:=by
   unfold start at h2;rw[b9 (by simpa using hi),w6]at h2;cases e:vs[i]? with
   |none=>rw[e]at h2;cases h2
   |some a=>rw[e]at h2;cases h2;rfl
  obtain⟨u,hu,rv⟩:=r.get ha;have hp:ps[i]?=some y:=by rw[<- S.pre,getElem?_take_of_lt ()];exact h1
  have Zi:ps.Nodup:=by rw[<- S.pre];exact S.nd.sublist (take_sublist _ _)
  refine⟨u,rv,?_⟩;rcases S.par y (k4 hp)with k|k
  ·exact .inl ⟨k,oZ Zi hp hu k⟩
  ·obtain⟨c,e⟩:=ud (n:=s.heap.objs.size+1) k;refine .inr ⟨.inl k,c,e,?_⟩;have q:=x.cell y c e;rw[pb Zi hp hu (by show scope.names.lookup y≠_;rw[k];decide)]at q;exact q
 ·exact e0.bP.fresh (G2 (x.above y c (l3 h)))
 ·unfold start;show _=N.length;rw[n9,B4,j6];lia
def TH{CX:Fs}{P:Program}{w:World}{K:J8}{mg:Str->Option al}{base:Heap}{k:Nat}{f:be}{name qual:Str}{params:Arguments}{body:List Stmt}{scope:Scope}{dV kV doc pm b_ ct oc:al}{an od:Option be}{AK:Array (Option al)}{N ps:List Str}{sp:Sp}(lk:K.lookup f=some ⟨oc,od,.func (PySem.W.fnOf name qual params body scope dV kV doc pm an b_ ct),AK⟩)(Ec:PySem.W.codeIn K b_ qual=true)(S:jE N ps scope)(len:∀vs H Q E,sp vs H Q E->vs.length=ps.length) (hbody:∀(A:Around)(outer:List Env)(s:am)(H:Hp)(vs:List V)(Q:VK)(E:XK),cR k (A.deeper (envOfC qual scope s.heap.objs.size f b_))->sp vs H Q E->
   ∃t,uA (tV CX P w K mg base N qual scope f b_ A outer s H E) body t/\t {nx:=λ _ H'=>Q .bh H',rt:=Q} (start N vs) H):
  bg P w K mg base CX (k+1) f (PySem.W.fnOf name qual params body scope dV kV doc pm an b_ ct) ps sp:=by
 refine⟨len,λ A outer s H args us vs Q E hr e0 hb r DS=>?_⟩;have hl:=len _ _ _ _ DS;have KX:K.In s.heap:=e0.mod.UW.keeps λ b o e=>(e0.bs b o e).1;have lim:s.heap.NoLimit:=e0.mod.nolimit.keeps λ b o e=>(e0.bs b o e).1;have DZ:∀y∈ps.zip us,scope.names.lookup y.1=some .local\/(scope.names.lookup y.1=some .cell/\((cellsFrom (s.heap.objs.size+1) scope.names []).lookup y.1).isSome=true):=λ⟨n,v⟩ hy=>by
  rcases S.par n (of_mem_zip hy).1 with q|q
  ·exact .inl q
  ·exact .inr ⟨q,PySem.W.cellsFrom_some _ _ _ (.inl q)⟩
 refine codeAny_call_function hr.depth (KX _ _ lk) rfl S.co S.gen rfl (PySem.W.codeRec_of KX Ec) (hb _ _ _ _ ?_);refine wpAny_newFunctionEnv_cells S.kind DZ λ env he s1 x=>?_;subst he;refine⟨lim.keeps x.toInCall.keep,codeAny_func ?_⟩;obtain⟨t,ht,hq⟩:=hbody A outer s H vs Q E (hr.deeper _) DS;have I:io (tV CX P w K mg base N qual scope f b_ A outer s H E) [] (start N vs) H s1:=zW S hr.hd e0 hl r x;refine J0 (ht [] s1 (start N vs) H _ I hq) (λ fl s' hs=>?_) λ e s' hs=>hs;have fin:∀{σ':St} {H':Hp} {v:V} {u:al},io (tV CX P w K mg base N qual scope f b_ A outer s H E) [] σ' H' s'->lc v u->Q v H'->CE outer P w H s Q u s':=
  λ{σ' H' v u} J rv q=>⟨v,H',J.os,J.bare,J.base,J.bP,rv,q⟩
 cases fl with
 |ret u=>obtain⟨v,σ',H',J,rv,q⟩:=hs;exact fin J rv q
 |next=>obtain⟨σ',H',J,q⟩:=hs;exact fin (v:=V.bh) (u:=Value.none) J rfl q
 |brk=>obtain⟨_,_,_,q⟩:=hs;exact False.elim q
 |cont=>obtain⟨_,_,_,q⟩:=hs;exact False.elim q
section
variable {X:Cx}{x:Str}{p:Pos}{t:TA}{id:String}{r:List V->Hp->VK->Prop}
def UL(r:List V->Hp->VK->Prop)(t:TA):TE:=λ σ H Q=>t σ H λ vs H1=>r vs H1 Q
def sk(hc:cI X (.builtin id) r)(hg:Gl X x)(hm:X.mg x=none)(hv:bootBuiltins x=some (.builtin id))(ha:PA X (e::es) t)(hn:x≠"__name__":=by decide)(tf:nV x:=by decide)(he:ux X e es:=by rfl)(gS:Kg X pos es:=by rfl):PE X (.Call (.Name x p) (e::es) [] pos) (UL r t):=by intro ce s σ H Q I h;refine r9 (eI I hg hm hv ?_ hn tf);exact PyProof.Rows.callWith_builtin1 (cq (ha pos ce s σ H _ I h) λ us s1 ⟨vs,H1,I1,r1,q1⟩=>hc ce s1 σ H1 vs us Q I1 r1 q1) he gS
def oz(hc:cI X (.type T) r)(hg:Gl X x)(hm:X.mg x=none)(hv:bootBuiltins x=some (.type T))(ha:PA X (e::es) t)(hn:x≠"__name__":=by decide)(tf:nV x:=by decide)(he:ux X e es:=by rfl)(gS:Kg X pos es:=by rfl):PE X (.Call (.Name x p) (e::es) [] pos) (UL r t):=by intro ce s σ H Q I h;refine r9 (eI I hg hm hv ?_ hn tf);exact b0 (cq (ha pos ce s σ H _ I h) λ us s1 ⟨vs,H1,I1,r1,q1⟩=>hc ce s1 σ H1 vs us Q I1 r1 q1) he gS
end
end L2
variable {X:L2.Cx}{H H1 H':L2.Hp}{xs:List L2.V}{σ:L2.St}{ar:List (List L2.Key×L2.V)}{v:L2.V}{r:List L2.V->L2.Hp->L2.VK->Prop}
namespace HT
open PyProof.Rows
def lexLt:List Int->List Int->Bool
 |[],[]=>false
 |[],_::_=>true
 |_::_,[]=>false
 |x::xs,y::ys=>if x=y then lexLt xs ys else decide (x<y)
def bZ(x y:Int)(xs ys:List Int):lexLt (x::xs) (y::ys)=if x=y then lexLt xs ys else decide (x<y):=rfl
def cw:lexLt [] []=false:=rfl
def cf(y:Int)(ys:List Int):lexLt [] (y::ys)=true:=rfl
def cg(x:Int)(xs:List Int):lexLt (x::xs) []=false:=rfl
def Et(A:Around)(s:am)(a:Int)(t:Tok)(c:Int)(u:Tok):∃e,SeqAt.EqAt A s (.int a t) (.int c u) e/\(e=true↔a=c):=
 ⟨(a==c),SeqAt.EqAt.int_int a t c u,by simp⟩
def mx(A:Around)(s:am)(a:Int)(t:Tok)(c:Int)(u:Tok)(prog:Program)(w:World)(E:al->am->Prop)(Q:al->am->Prop)(h:Q (.bool (decide (a<c))) s):wpAny (model prog w) A (richCompare .Lt (.int a t) (.int c u)) Q E s:=
 (PyProof.Rows.lt_int h:wpAny (model prog w) A (compareOp .Lt (.int a t) (.int c u)) Q E s)
section
open PySem.SeqAt
open PySem.AutoSeq1 (wpAny_loadPart')
open PySem.MeetsSeq PySem.MeetsSeq2 PySem.MeetsSeq3
def nI(l b:be)(ii ff:Array al)(n n2:Nat)(dd PQ:Option be)(sl Pk:Array (Option al))(ns ms:List Int)(hi:IntsAre ii.toList ns)(hj:IntsAre ff.toList ms):Meets (Builtin.«tuple.__lt__» ⟨[.ref l,.ref b],[]⟩)
   (λ _ R s=>s.heap.get? l=some {cls:=.type "tuple",dict:=dd,data:=.seq ii n,slots:=sl}/\s.heap.get? b=some {cls:=.type "tuple",dict:=PQ,data:=.seq ff n2,slots:=Pk}/\
    R (.ok (.ret (.bool (lexLt ns ms)))) s):=
 .of_wp λ prog w A R s h=>by
  obtain⟨hp,g,d,tk,os⟩:=s;obtain⟨hl,hb,h⟩:=h;have f2:=AutoSeq1.sub_tuple_tuple;have z1:ii.size=ns.length:=by rw[<- hi.length];simp
  have z2:ff.size=ms.length:=by rw[<- hj.length];simp
  wp_walk using A8 hl,A8 hb,wpAny_forIn_list _ (λ rest b s'=>b.1=none/\s'=⟨hp,g,d,tk,os⟩/\∃(vs ws:List al)(Pt Px:List Int),rest=vs.zip ws/\
   IntsAre vs Pt/\IntsAre ws Px/\Pt.length+ff.size=Px.length+ii.size/\R (.ok (.ret (.bool (lexLt Pt Px)))) ⟨hp,g,d,tk,os⟩) _
  case turn=>
   rintro⟨y,x⟩ rest b s' ⟨z_,rfl,vs,ws,Pt,Px,hz,WQ,U0,hlen,hR⟩;cases WQ with
   |nil=>rw[zip_nil_left]at hz;cases hz
   |cons a t WN=>
    cases U0 with
    |nil=>rw[zip_nil_right]at hz;cases hz
    |cons c u WM=>
     rw[zip_cons_cons]at hz;injection hz with hyx Te
     injection hyx with hy hx
     subst hy hx;rw[bZ]at hR;simp only[z0]at hlen;obtain⟨e,he,Tp⟩:=Et A.in1 ⟨hp,g,d,tk,os⟩ a t c u;refine G8 (he prog w _ _ ?_);cases e with
     |true=>
      rw[J6 (Tp.mp rfl)]at hR
      wp_walk
      exact⟨rfl,rfl,_,_,_,_,Te,WN,WM,(),hR⟩
     |false=>
      rw[J7 (λ q=>bi (Tp.mpr q) n0)]at hR;have hri:=mx A.in1 ⟨hp,g,d,tk,os⟩ a t c u prog w
      wp_walk using hri
      exact⟨_,rfl,by simpa using hR⟩
  case fin=>
   rintro⟨b1,b2⟩ s' ⟨z_,rfl,vs,ws,Pt,Px,hz,WQ,U0,hlen,hR⟩;simp only at z_;subst z_;have hv:lexLt Pt Px=decide (ii.size<ff.size):=by
    cases WQ with
    |nil=>
     cases U0 with
     |nil=>simp only[length_nil]at hlen;rw[cw];exact(A7 ()).symm
     |cons c u hw=>simp only[length_nil,z0]at hlen;rw[cf];exact(B9 ()).symm
    |cons a t hv=>
     cases U0 with
     |nil=>simp only[length_nil,z0]at hlen;rw[cg];exact(A7 ()).symm
     |cons c u hw=>rw[zip_cons_cons]at hz;cases hz
   rw[hv]at hR
   wp_walk
   exact⟨_,rfl,by simpa[Builtin.Tuple.tupleCompareSizes]using hR⟩
  case h=>
   exact⟨rfl,rfl,ii.toList,ff.toList,ns,ms,rfl,hi,hj,(),h⟩
end
def vF{b:be}{ii ff:Array al}{ms:List Int}(hl:IsTup s.heap l ii)(hb:IsTup s.heap b ff)(hi:IntsAre ii.toList ns)(hj:IntsAre ff.toList ms)(hu:A.units<cLine)(h:Q (.bool (lexLt ns ms)) s):wpAny (model prog w) A (compareOp .Lt (.ref l) (.ref b)) Q E s:=by
 obtain⟨⟨cls,dd,data,sl⟩,ho,hc,n,hd⟩:=id hl;obtain⟨⟨XQ,PQ,data2,Pk⟩,Ju,Oz,n2,hd2⟩:=id hb;simp only at hc hd Oz hd2;subst hc hd Oz hd2;exact i9 (op:=.Lt) ⟨_,ho,rfl⟩ ⟨_,Ju,rfl⟩ PySem.F.slot_tuple_lt PySem.F.entry_tuple_lt (PySem.F.args_tuple_lt_2 _ _) (nI l b ii ff n n2 dd PQ sl Pk ns ms hi hj)
  ⟨ho,Ju,show Value.bool (lexLt ns ms)≠Value.notImplemented/\Q (.bool (lexLt ns ms)) s from⟨(λ x=>nomatch x),h⟩⟩ hu
def JV{t b:be}{ws:List al}(ht:IsTup s.heap t vs.toArray)(hb:IsTup s.heap b ws.toArray)(hv:vs≠[])(h1:ws=[]->Q (.ref t) s)(h2:ws≠[]->Q (.ref s.heap.objs.size) {s with heap:=s.heap.push {cls:=.type "tuple",data:=.seq (vs++ws).toArray}})(hsz:vs.length+ws.length<=sizeLine):wpAny (model prog w) A (binaryOp .Add (.ref t) (.ref b)) Q E s:=by
 obtain⟨⟨cls,dd,data,sl⟩,ho,hc,n,hd⟩:=id ht;obtain⟨⟨XQ,PQ,data2,Pk⟩,Ju,Oz,n2,hd2⟩:=id hb;simp only at hc hd Oz hd2;subst hc hd Oz hd2;have e:vs.toArray++ws.toArray=(vs++ws).toArray:=by simp
 by_cases hw:ws=[]
 ·exact concat_meets ⟨_,ho,rfl⟩ ⟨_,Ju,rfl⟩ noFill_tuple_add seq_tuple_add PySem.F.slot_tuple_add PySem.F.entry_tuple_add (PySem.F.args_tuple_add_2 _ _)
   (tuple_addW1 t b vs.toArray ws.toArray n n2 dd PQ sl Pk (by simpa using hv) (by simp[hw])) ⟨ho,Ju,h1 hw⟩
 ·refine concat_meets ⟨_,ho,rfl⟩ ⟨_,Ju,rfl⟩ noFill_tuple_add seq_tuple_add PySem.F.slot_tuple_add PySem.F.entry_tuple_add (PySem.F.args_tuple_add_2 _ _)
   (tuple_addW2 t b vs.toArray ws.toArray n n2 dd PQ sl Pk (by simpa using hv) (by simpa using hw) (by rw[y6,y6];exact hsz)) ⟨ho,Ju,?_⟩
  rw[e];exact h2 hw
def bY(n d:Nat):Option Int->Nat
 |none=>d
 |some v=>if v<0 then(v+(n:Int)).toNat else min v.toNat n
def BI(n d:Nat):bY n d none=d:=rfl
def uY(n d:Nat)(hd:d<=n)(o:Option Int):bY n d o<=n:=by
 cases o with
 |none=>exact hd
 |some v=>
  show(if v<0 then(v+(n:Int)).toNat else min v.toNat n)<=n;by_cases hv:v<0
  ·rw[J6 hv];lia
  ·rw[J7 hv];exact Nat.min_le_right _ _
def yE(v:Int)(n d:Nat):(if v<0 then max (v+(n:Int)) 0 else min v (n:Int))=((bY n d (some v):Nat):Int):=by
 show(if v<0 then max (v+(n:Int)) 0 else min v (n:Int))=(((if v<0 then(v+(n:Int)).toNat else min v.toNat n):Nat):Int);by_cases hv:v<0
 ·simp only[J6 hv];lia
 ·simp only[J7 hv];lia
def wI(lo hi:Option Int)(n:Nat):Builtin.Slice.sliceAdjust lo hi 1 (n:Int)=(((bY n 0 lo:Nat):Int),((bY n n hi:Nat):Int)):=by
 have h1:¬((1:Int)<0):=()
 unfold Builtin.Slice.sliceAdjust;simp only[h1,J1];refine Prod.ext ?_ ?_
 ·cases lo with
  |none=>rfl
  |some v=>exact yE v n 0
 ·cases hi with
  |none=>rfl
  |some v=>exact yE v n n
def vi(i j:Nat):Builtin.Slice.slicePlaces (i:Int) (j:Int) 1=j-i:=by
 unfold Builtin.Slice.slicePlaces;have h1:(1:Int) > 0:=()
 simp only[h1,J5,Int.ediv_one];split<;>lia
def ml{v:al}{o:Option Int}{Q:Option Int->am->Prop}(p:IsPart v o)(h:Q o s):wpAny (model prog w) A (Builtin.Slice.slicePartIndex v) Q E s:=by
 cases p with
 |none=>exact slicePart_none h
 |int i t=>exact slicePart_int h
def fB{sl:be}{vl vu:al}{lo hi:Option Int}{Q:Int×Int×Nat->am->Prop}(hs:s.heap.IsSliceOf sl vl vu .none)(pl:IsPart vl lo)(pu:IsPart vu hi)(h:Q (((bY n 0 lo:Nat):Int),1,bY n n hi-bY n 0 lo) s):wpAny (model prog w) A (Builtin.Slice.sliceApplied (.ref sl) (pure (n:Int))) Q E s:=by obtain⟨os,Om,Vc,Eb⟩:=id hs;unfold Builtin.Slice.sliceApplied Builtin.Slice.sliceFields;refine G8 (G8 (G6 Om Eb (x:=vl) rfl (G8 (G6 Om Eb (x:=vu) rfl (G8 (G6 Om Eb (x:=.none) rfl (G9 ?_)))))));refine G8 (slicePart_none ?_);show wpAny _ _ (if((1:Int)==0)=true then _ else _) _ _ s;rw[J7 (by decide)];refine G8 (ml pl (G8 (ml pu (G8 (G9 ?_)))));show wpAny _ _ (match Builtin.Slice.sliceAdjust lo hi 1 (n:Int)with|(lo,hi)=>pure (lo,(1:Int),Builtin.Slice.slicePlaces lo hi 1)) _ _ s;rw[wI lo hi n];show wpAny _ _ (pure (((bY n 0 lo:Nat):Int),(1:Int),Builtin.Slice.slicePlaces ((bY n 0 lo:Nat):Int) ((bY n n hi:Nat):Int) 1)) _ _ s;rw[vi];exact G9 h
def Cy(xs:Array al)(i k:Nat):((List.range k).filterMap λ(m:Nat)=>xs[((i:Int)+(m:Int)*1).toNat]?).toArray=((xs.toList.drop i).take k).toArray:=by
 have e:(λ(m:Nat)=>xs[((i:Int)+(m:Int)*1).toNat]?)=λ m=>xs[i+m]?:=by
  funext m;have:((i:Int)+(m:Int)*1).toNat=i+m:=()
  rw[this]
 rw[e];have:=pick_run xs i k;rw[filterMap_map]at this;have e2:((λ x=>xs[x]?)∘λ x=>i+x)=λ m=>xs[i+m]?:=rfl;rw[e2]at this;rw[this]
def ju{t sl:be}{ii:Array al}{vl vu:al}{lo hi:Option Int}(ht:IsTup s.heap t ii)(hs:s.heap.IsSliceOf sl vl vu .none)(pl:IsPart vl lo)(pu:IsPart vu hi)(hw:¬(bY ii.size 0 lo=0/\bY ii.size ii.size hi=ii.size))(h:Q (.ref s.heap.objs.size) {s with heap:=s.heap.push {cls:=.type "tuple",data:=.seq ((ii.toList.drop (bY ii.size 0 lo)).take (bY ii.size ii.size hi-bY ii.size 0 lo)).toArray}})(hsz:ii.size<=sizeLine):wpAny (model prog w) A (getItem (.ref t) (.ref sl)) Q E s:=by
 have yg:sizeOk (.seq ((ii.toList.drop (bY ii.size 0 lo)).take (bY ii.size ii.size hi-bY ii.size 0 lo)).toArray):=by show((ii.toList.drop (bY ii.size 0 lo)).take (bY ii.size ii.size hi-bY ii.size 0 lo)).toArray.size<=sizeLine;rw[y6,A3,length_drop,l6];lia
 have hj:bY ii.size ii.size hi<=ii.size:=uY _ _ (G3 _) hi;obtain⟨os,Om,Vc,Eb⟩:=id hs;have Xw:s.TypeIs (.ref sl) "slice":=⟨os,Om,Vc⟩;unfold getItem
 try with_reducible refine C3 ?_
 first|refine G8 (G9 ?_)|skip
 refine G8 (wpAny_sequenceKey ht.typeIs (by decide) ?_);refine G8 (g9 (name:=aU "__getitem__") ht.typeIs a0
  (A0 a0 ht.typeIs entry_tuple_getitem ?_ (args_tuple_getitem _ _)))
 show wpAny _ _ (Builtin.Tuple.tupleItemsOf (.ref t)>>=_) _ _ s;refine G8 (tupleItemsOf_ ht ?_);refine G8 (G0 Xw ?_);rw[J6 (by decide)];refine G8 (fB hs pl pu ?_);have hno:¬((((bY ii.size 0 lo:Nat):Int)==0&&(1:Int)==1&&(bY ii.size ii.size hi-bY ii.size 0 lo)==ii.size)=true):=by intro q;rw[A2,A2]at q;have q1:((bY ii.size 0 lo:Nat):Int)=0:=eq_of_beq q.1.1;have q2:bY ii.size ii.size hi-bY ii.size 0 lo=ii.size:=eq_of_beq q.2;exact hw ⟨(),()⟩
 show wpAny _ _ (if(((bY ii.size 0 lo:Nat):Int)==0&&(1:Int)==1&&(bY ii.size ii.size hi-bY ii.size 0 lo)==ii.size)=true then _ else _) _ _ s;rw[J7 hno,Cy]
 first
  |exact G8 (m:=Builtin.Tuple.tupleExact _) (x8 (G9 ⟨_,rfl,G9 h⟩) yg)
  |exact G8 (m:=Builtin.Tuple.tupleExact _) (x8 (G8 (G9 (G9 ⟨_,rfl,G9 h⟩))) yg)
  |exact G8 (G8 (m:=Builtin.Tuple.tupleExact _) (x8 (G9 (G9 ⟨_,rfl,G9 h⟩)) yg))
  |exact G8 (G8 (m:=Builtin.Tuple.tupleExact _) (x8 (G9 ⟨_,rfl,G9 h⟩) yg))
end HT
namespace L2
open PySem.Spec PyProof.Rows
abbrev TO:=St->Hp->(Option Int->Hp->Prop)->Prop
def PO(X:Cx)(e:Option Expr)(t:TO):Prop:=
 ∀(ce:List (be×Obj))(s:am)(σ:St)(H:Hp)(Q:Option Int->Hp->Prop),io X ce σ H s->t σ H Q->
  wpAny (model X.prog X.w) X.A (evalPart e X.env) (λ u s'=>∃o H',io X ce σ H' s'/\IsPart u o/\Q o H') X.xe s
def GP:TO:=λ _ H Q=>Q none H
def Qj(t:TE):TO:=λ σ H Q=>t σ H λ x H1=>∃i,x=.int i/\Q (some i) H1
def intsAre_of:∀{us:List al},li (ns.map V.int) us->IntsAre us ns:=by
 induction ns with
 |nil=>intro us r;rw[map_nil]at r;cases r;exact .nil
 |cons n ns ih=>
  intro us r;rw[C6]at r;cases r with
  |cons r1 r2=>obtain⟨t,e⟩:=r1;subst e;exact .cons n t (ih r2)
section
variable {te:TE}{lo hi:Option Expr}{tl th:TO}
def Ib:PO X none GP:=by intro ce s σ H Q I h;rw[evalPart_none];exact G9 ⟨none,H,I,.none,h⟩
def Ia(h:PE X e te):PO X (some e) (Qj te):=by intro ce s σ H Q I hw;rw[evalPart_some];refine cq (h ce s σ H _ I hw) λ u s1 ⟨x,H1,I1,r1,q1⟩=>?_;obtain⟨i,rfl,q⟩:=q1;obtain⟨t,rfl⟩:=r1;exact⟨some i,H1,I1,.int i t,q⟩
def yO(X:Cx)(r:V->Option Int->Option Int->Hp->VK->Prop):Prop:=
 ∀(ce:List (be×Obj))(s:am)(σ:St)(H:Hp)(x:V)(v vl vu:al)(lo hi:Option Int)(sl:be)(Q:VK),io X ce σ H s->lc x v->s.heap.IsSliceOf sl vl vu .none->IsPart vl lo->IsPart vu hi->r x lo hi H Q->
  ∃T id,typeLookup (.type T) "__getitem__"=pure (some (.builtin id))/\s.TypeIs v T/\wpAny (model X.prog X.w) X.A (getItem v (.ref sl)) (EP X ce σ Q) X.xe s
def yO.or{r r':V->Option Int->Option Int->Hp->VK->Prop}(h:yO X r)(h':yO X r'):yO X (λ x lo hi H Q=>r x lo hi H Q\/r' x lo hi H Q):=by
 intro ce s σ H x v vl vu lo hi sl Q I rx hs pl pu q;rcases q with q|q
 ·exact h ce s σ H x v vl vu lo hi sl Q I rx hs pl pu q
 ·exact h' ce s σ H x v vl vu lo hi sl Q I rx hs pl pu q
def tSl(r:V->Option Int->Option Int->Hp->VK->Prop)(te:TE)(tl th:TO):TE:=λ σ H Q=>te σ H λ x H1=>tl σ H1 λ l H2=>th σ H2 λ u H3=>r x l u H3 Q
def CC{r:V->Option Int->Option Int->Hp->VK->Prop}(hr:yO X r)(he:PE X e te)(hl:PO X lo tl)(hu:PO X hi th):PE X (.Subscript e (.Slice lo hi none p2) pos) (tSl r te tl th):=by intro ce s σ H Q I h;refine Subscript_ (cq (he ce s σ H _ I h) λ v s1 ⟨x,H1,I1,r1,q1⟩=>?_);refine wpAny_Slice (cq (hl ce s1 σ H1 _ I1 q1) λ vl s2 ⟨l,H2,I2,pl,q2⟩=>cq (hu ce s2 σ H2 _ I2 q2) λ vu s3 ⟨u,H3,I3,pu,q3⟩=>?_);rw[evalPart_none];refine G9 ?_;have I4:io X ce σ H3 {s3 with heap:=s3.heap.push {cls:=.type "slice",data:=.fields #[vl,vu,.none]}}:=I3.kept (t':=s3.toks) λ b ob q=>i7 _ q;obtain⟨T,id,hT,ht,hg⟩:=hr ce {s3 with heap:=s3.heap.push {cls:=.type "slice",data:=.fields #[vl,vu,.none]}} σ H3 x v vl vu l u s3.heap.objs.size Q I4 r1 (Heap.IsSliceOf.new ..) pl pu q3;show wpAny (model X.prog X.w) X.A (subscriptTail e (.Slice lo hi none p2) v (.ref s3.heap.objs.size)) (EP X ce σ Q) X.xe {s3 with heap:=s3.heap.push {cls:=.type "slice",data:=.fields #[vl,vu,.none]}};exact tail_any (ops:=[.ref s3.heap.objs.size,v]) ht hT hg (by with_unfolding_all rfl)
def tX(xs:List V)(lo hi:Option Int):List V:=(xs.drop (HT.bY xs.length 0 lo)).take (HT.bY xs.length xs.length hi-HT.bY xs.length 0 lo)
def kR(xs:List V)(lo hi:Option Int):(tX xs lo hi).length<=xs.length:=by unfold tX;rw[A3,length_drop];lia
def Rw(K:J8):V->Option Int->Option Int->Hp->VK->Prop:=λ x lo hi H Q=>∃a xs,x=.ref a/\fj K H a xs/\
 ¬(HT.bY xs.length 0 lo=0/\HT.bY xs.length xs.length hi=xs.length)/\∀p,H p=none->Q (.ref p) (lm H p (.tup (tX xs lo hi)))
def LZ:yO X (Rw X.K):=by
 intro ce s σ H x v vl vu lo hi sl Q I rx hs pl pu h;obtain⟨a,xs,rfl,hx,hw,q⟩:=h;cases rx;obtain⟨av,r,ht,hz⟩:=I.tuple hx;have hlen:av.toArray.size=xs.length:=by rw[y6];exact r.length.symm
 refine⟨"tuple",_,a0.lookup,ht.typeIs,?_⟩;refine HT.ju ht hs pl pu (by rw[hlen];exact hw) ?_ (by rw[hlen];exact hz);rw[hlen];refine⟨.ref s.heap.objs.size,_,I.laid (t':=s.toks) (o:=.tup (tX xs lo hi)) (λ b ob q=>i7 _ q) (G3 _) ?_,rfl,q _ (I.bP.fresh (G3 _))⟩;exact⟨D7 (kR xs lo hi) hz,_,(r.drop (HT.bY xs.length 0 lo)).take (HT.bY xs.length xs.length hi-HT.bY xs.length 0 lo),IsTup.new _ _⟩
def RG(K:J8):R2:=λ x y H Q=>∃a b xs ys,x=.ref a/\y=.ref b/\fj K H a xs/\fj K H b ys/\xs≠[]/\xs.length+ys.length<=sizeLine/\
 (ys=[]->Q (.ref a) H)/\(ys≠[]->∀p,H p=none->Q (.ref p) (lm H p (.tup (xs++ys))))
def li.qe(r:li xs us):us=[]↔xs=[]:=by
 cases r with
 |nil=>simp
 |cons _ _=>simp
def Iw:eN X (binaryOp .Add) (RG X.K):=by intro ce s σ H x y v u Q I rx ry h;obtain⟨a,b,xs,ys,rfl,rfl,ha,hb,hx,hz,q1,q2⟩:=h;cases rx;cases ry;obtain⟨av,r1,p1,_⟩:=I.tuple ha;obtain⟨qx,r2,p2,_⟩:=I.tuple hb;refine HT.JV p1 p2 (λ z=>hx (r1.qe.mp z)) (λ z=>⟨.ref a,H,I,rfl,q1 (r2.qe.mp z)⟩) (λ z=>?_) (by rw[<- r1.length,<- r2.length];exact hz);refine⟨.ref s.heap.objs.size,_,I.laid (t':=s.toks) (o:=.tup (xs++ys)) (λ b ob q=>i7 _ q) (G3 _) ?_,rfl,q2 (λ w=>z (r2.qe.mpr w)) _ (I.bP.fresh (G3 _))⟩;exact⟨by rw[n9];exact hz,_,r1.append r2,IsTup.new _ _⟩
end
def sT(n:Nat)(i:Int):Option Nat:=if 0<=i then(if i<n then some i.toNat else none)else if -(n:Int)<=i then some (i+n).toNat else none
def fi{α:Type}(xs:List α)(i:Int):Option α:=(sT xs.length i).bind λ j=>xs[j]?
def yb{i:Int}{j:Nat}(h:sT n i=some j):seqIndex? i n=some j/\j<n/\-(n:Int)<=i/\i<n:=by
 unfold sT at h;by_cases h0:0<=i
 ·rw[J6 h0]at h;by_cases h1:i<n
  ·rw[J6 h1]at h;have e:i.toNat=j:=B0 h;exact⟨by rw[seqIndex_of h0 h1,e],(),(),h1⟩
  ·rw[J7 h1]at h;cases h
 ·rw[J7 h0]at h;by_cases h1: -(n:Int)<=i
  ·rw[J6 h1]at h;have e:(i+n).toNat=j:=B0 h;exact⟨by rw[seqIndex_neg () h1,e],(),h1,()⟩
  ·rw[J7 h1]at h;cases h
def rf{xs:List α}{i:Int}{v:α}(h:fi xs i=some v):∃j,seqIndex? i xs.length=some j/\xs[j]?=some v/\j<xs.length/\-(xs.length:Int)<=i/\i<xs.length:=by
 unfold fi at h;cases e:sT xs.length i with
 |none=>rw[e]at h;cases h
 |some j=>rw[e]at h;obtain⟨h1,h2,h3,h4⟩:=yb e;exact⟨j,h1,h,h2,h3,h4⟩
def cT{xs:List α}{j:Nat}{v:α}(h:xs[j]?=some v):fi xs (j:Int)=some v:=by
 have hj:j<xs.length:=(c5.mp h).1;have e:sT xs.length (j:Int)=some j:=by unfold sT;rw[J6 (),J6 ()];simp
 unfold fi;rw[e];exact h
def uq(xs:List α)(v:α):fi (xs++[v]) (-1)=some v:=by
 have hl:(xs++[v]).length=xs.length+1:=by simp
 have e:sT (xs++[v]).length (-1)=some xs.length:=by unfold sT;rw[hl,J7 (by decide),J6 ()];congr 1;lia
 unfold fi;rw[e];show(xs++[v])[xs.length]?=some v;simp
def yP(b:Expr):Prop:=∀o i,subscripted b false o i=operate [o,i] (getItem o i)
def wN(X:Cx)(r:R2):Prop:=
 ∀(value slice:Expr)(ce:List (be×Obj))(s:am)(σ:St)(H:Hp)(x y:V)(v u:al)(Q:VK),io X ce σ H s->lc x v->lc y u->r x y H Q->
  subscripted slice false v u=operate [v,u] (getItem v u)->wpAny (model X.prog X.w) X.A (subscriptTail value slice v u) (EP X ce σ Q) X.xe s
def Ux(X:Cx)(id:String)(r:V->List V->Hp->VK->Prop):Prop:=
 ∀(ce:List (be×Obj))(s:am)(σ:St)(H:Hp)(x:V)(xs:List V)(v:al)(us:List al)(Q:VK),io X ce σ H s->lc x v->li xs us->r x xs H Q->
  wpAny (model X.prog X.w) X.A (call (.builtin id) (v::us)) (EP X ce σ Q) X.xe s
section
variable {a b:Expr}{ta tb:TE}
def wN.or{r r':R2}(h:wN X r)(h':wN X r'):wN X (λ x y H Q=>r x y H Q\/r' x y H Q):=by
 intro value slice ce s σ H x y v u Q I rx ry q hs;rcases q with q|q
 ·exact h value slice ce s σ H x y v u Q I rx ry q hs
 ·exact h' value slice ce s σ H x y v u Q I rx ry q hs
def RO{r:R2}(hr:wN X r)(ha:PE X a ta)(hb:PE X b tb)(hs:yP b):PE X (.Subscript a b pos) (Qk r ta tb):=by intro ce s σ H Q I h;exact Subscript_ (O4 ha hb I h λ v u s2 x y H2 I2 rx ry q=>hr a b ce s2 σ H2 x y v u Q I2 rx ry q (hs _ _))
def RC(K:J8):R2:=λ x y H Q=>∃p xs i v,x=.ref p/\y=.int i/\dv K H p xs/\fi xs i=some v/\Q v H
def RA(K:J8):R2:=λ x y H Q=>∃p xs i v,x=.ref p/\y=.int i/\fj K H p xs/\fi xs i=some v/\Q v H
def RB:R2:=λ x y H Q=>∃z i c,x=.str z/\y=.int i/\z.length<=sizeLine/\fi z.cps.toList i=some c/\Q (.str ⟨#[c]⟩) H
def Ji:wN X (RC X.K):=by
 intro value slice ce s σ H x y v u Q I rx ry h hs;obtain⟨p,xs,i,z,rfl,rfl,hq,he,q⟩:=h;cases rx;obtain⟨t,rfl⟩:=ry;obtain⟨av,r,pl,hz⟩:=I.list hq;obtain⟨j,h1,h2,h3,h4,h5⟩:=rf he;obtain⟨w,ew,vc⟩:=r.get h2;have hl:=r.length;have hn:=iG;have fin:EP X ce σ Q w s:=⟨z,H,I,vc,q⟩;by_cases h0:0<=i
 ·have hj:i.toNat=j:=by rw[seqIndex_of h0 h5]at h1;exact B0 h1
  exact item_listR pl.isList h0 () (by rw[hj];simpa using ew) fin hs
 ·have hj:(i+(av.toArray.size:Int)).toNat=j:=by rw[seqIndex_neg () h4]at h1;rw[y6,<- hl];exact B0 h1
  exact subscriptTail_builtinR (x:=w) pl.isList.typeIs slot_list_getitem.lookup
   (wpAny_getItem_list_neg (Q:=λ r s'=>r=w/\EP X ce σ Q r s') pl.isList () (by rw[y6]<;>lia) () (by rw[hj];simpa using ew) ⟨rfl,fin⟩) hs
def N8:wN X (RA X.K):=by
 intro value slice ce s σ H x y v u Q I rx ry h hs;obtain⟨p,xs,i,z,rfl,rfl,hq,he,q⟩:=h;cases rx;obtain⟨t,rfl⟩:=ry;obtain⟨av,r,pl,hz⟩:=I.tuple hq;obtain⟨j,h1,h2,h3,h4,h5⟩:=rf he;obtain⟨w,ew,vc⟩:=r.get h2;have hl:=r.length;have hn:=iG;have fin:EP X ce σ Q w s:=⟨z,H,I,vc,q⟩;exact subscriptTail_builtinR (x:=w) pl.typeIs slot_tuple_getitem.lookup
  (getItem_tuple (j:=j) (Q:=λ r s'=>r=w/\EP X ce σ Q r s') pl () () (by rw[y6,<- hl];exact h1) (by simpa using ew) ⟨rfl,fin⟩) hs
def N9:wN X RB:=by
 intro value slice ce s σ H x y v u Q I rx ry h hs;obtain⟨z,i,c,rfl,rfl,hz,he,q⟩:=h;obtain⟨t,rfl⟩:=rx;obtain⟨t',rfl⟩:=ry;obtain⟨j,h1,h2,h3,h4,h5⟩:=rf he;have hl:z.cps.toList.length=z.length:=by simp[Str.length]
 rw[hl]at h1 h4 h5;have hn:=iG;exact tail_any (typeIs_str s z t) slot_str_getitem.lookup (getItem_str (c:=c) (by
  have e1:decide (i < -(2^63:Int))=false:=A7 ();have e2:decide (i ≥ 2^63)=false:=A7 ();rw[e1,e2,Bool.or_false]) (by rw[h1];simpa using h2) ⟨.str ⟨#[c]⟩,H,I.tok _,⟨_,rfl⟩,q⟩) hs
def rIx(K:J8):R2:=λ x y H Q=>RC K x y H Q\/RA K x y H Q\/RB x y H Q
def N_:wN X (rIx X.K):=Ji.or (N8.or N9)
def vD(av:List al)(n j:Nat)(u:al):Obj.mapSeq (·.setIfInBounds j u) {cls:=.type "list",data:=.seq av.toArray n}={cls:=.type "list",data:=.seq (av.set j u).toArray n}:=by simp[Obj.mapSeq]
theorem io.lst{ce:List (be×Obj)}{σ:St}{H:Hp}{s:am}{p:be}{xs:List V}(I:io X ce σ H s)(h:H p=some (.lst xs)):∃(av:List al)(n:Nat),li xs av/\s.heap.get? p=some {cls:=.type "list",data:=.seq av.toArray n}/\xs.length<=sizeLine:=by obtain⟨z,av,n,r,e⟩:=I.bP p _ h;exact⟨av,n,r,e,z⟩
def io.NQ{ys:List V}{its':List al}{n':Nat}{f:Obj->Obj}(I:io X ce σ H s)(h:H p=some (.lst xs))(ho:s.heap.get? p=some {cls:=.type "list",data:=.seq av.toArray n})(hf:f {cls:=.type "list",data:=.seq av.toArray n}={cls:=.type "list",data:=.seq its'.toArray n'})(r:li ys its')(hz:ys.length<=sizeLine)(t:Nat):io X ce σ (lm H p (.lst ys)) {s with heap:=s.heap.update p f,toks:=t}:=by
 have e:(s.heap.update p f).get? p=some {cls:=.type "list",data:=.seq its'.toArray n'}:=by rw[j0 f ho (by rw[hf]<;>rfl),hf]
 refine I.write (x:=p) (e:=p) (by rw[h];trivial) (.inl rfl) (λ b u hb q=>(i8 _ _ (J4 hb)).trans q) ⟨_,e⟩ ?_;exact⟨hz,its',n',r,e⟩
def Ry:V->V->V->Hp->(Hp->Prop)->Prop:=λ o i v H Q=>∃p xs k j,o=.ref p/\i=.int k/\H p=some (.lst xs)/\sT xs.length k=some j/\Q (lm H p (.lst (xs.set j v)))
def set_list:nU X Ry:=by
 intro ce s σ H o i v ov iv u Q I ro ri rv h;obtain⟨p,xs,k,j,rfl,rfl,hp,hj,q⟩:=h;cases ro;obtain⟨t,rfl⟩:=ri;obtain⟨av,n,r,ho,hz⟩:=I.lst hp;obtain⟨h1,h2,h3,h4⟩:=yb hj;have hl:=r.length;have hn:=iG;have I':io X ce σ (lm H p (.lst (xs.set j v))) {s with heap:=s.heap.update p (Obj.mapSeq (·.setIfInBounds j u))}:=
  I.NQ hp ho (vD av n j u) (r.set rv j) (by rw[length_set];exact hz) s.toks
 by_cases h0:0<=k
 ·have hk:k.toNat=j:=by rw[seqIndex_of h0 h4]at h1;exact B0 h1
  exact PySem.W.ki_setAt ho h0 () (by rw[y6,<- hl];exact h4) (by rw[hk];exact⟨_,I',q⟩)
 ·have hk:(k+(av.toArray.size:Int)).toNat=j:=by rw[seqIndex_neg () h3]at h1;rw[y6,<- hl];exact B0 h1
  exact PySem.W.ki_setBack ho () (by rw[y6,<- hl];exact h3) () (by rw[hk];exact⟨_,I',q⟩)
def iX(lo hi:Option Int)(n:Nat):(sliceBounds lo hi none n).1=((HT.bY n 0 lo:Nat):Int)/\(sliceBounds lo hi none n).2.1=((HT.bY n n hi:Nat):Int)/\(sliceBounds lo hi none n).2.2=1:=by
 refine⟨?_,?_,rfl⟩
 ·cases lo with
  |none=>simp[sliceBounds,HT.bY]
  |some i=>
   simp only[sliceBounds,HT.bY,Option.getD_none,show(1:Int) > 0 by decide,J5];by_cases h:i<0
   ·simp only[h,J5]<;>lia
   ·simp only[h,J1]<;>lia
 ·cases hi with
  |none=>simp[sliceBounds,HT.bY]
  |some i=>
   simp only[sliceBounds,HT.bY,Option.getD_none,show(1:Int) > 0 by decide,J5];by_cases h:i<0
   ·simp only[h,J5]<;>lia
   ·simp only[h,J1]<;>lia
def nK(av:List al)(lo hi:Option Int):slicePick av.toArray lo hi none=((av.drop (HT.bY av.length 0 lo)).take (HT.bY av.length av.length hi-HT.bY av.length 0 lo)).toArray:=by obtain⟨h1,h2,h3⟩:=iX lo hi av.toArray.size;unfold slicePick;rw[h1,h2,h3];simp only[sliceRange_one,pick_run,y6]<;>rfl
def Rx(K:J8):V->Option Int->Option Int->Hp->VK->Prop:=λ x lo hi H Q=>∃a xs,x=.ref a/\dv K H a xs/\∀p,H p=none->Q (.ref p) (lm H p (.lst (tX xs lo hi)))
def GX:yO X (Rx X.K):=by intro ce s σ H x v vl vu lo hi sl Q I rx hs pl pu h;obtain⟨a,xs,rfl,hx,q⟩:=h;cases rx;obtain⟨av,r,ht,hz⟩:=I.list hx;have hlen:=r.length;refine⟨"list",_,slot_list_getitem.lookup,ht.isList.typeIs,?_⟩;refine wpAny_getItem_list_slice ht.isList hs pl pu .none (by simp) ?_ (by rw[y6]<;>lia);rw[nK,<- hlen];refine⟨.ref s.heap.objs.size,_,I.laid (t':=s.toks) (o:=.lst (tX xs lo hi)) (λ b ob q=>i7 _ q) (G3 _) ?_,rfl,q _ (I.bP.fresh (G3 _))⟩;exact⟨D7 (kR xs lo hi) hz,_,0,(r.drop (HT.bY xs.length 0 lo)).take (HT.bY xs.length xs.length hi-HT.bY xs.length 0 lo),l7 _ rfl⟩
def gu:V->Bool
 | .bh=>true
 | .bl _=>true
 | .int _=>true
 | .str _=>true
 |_=>false
def Lk:V->V->Bool
 | .bh,.bh=>true
 | .bl a,.bl b=>a==b
 | .bl a,.int b=>(if a then 1 else 0)==b
 | .int a,.bl b=>a==(if b then 1 else 0)
 | .int a,.int b=>a==b
 | .str a,.str b=>a==b
 |_,_=>false
def OJ{y x:V}{v:al}(ry:lc y u)(rx:lc x v)(fy:gu y=true)(fx:gu x=true):SeqAt.EqAt A s u v (Lk y x):=by
 cases y with
 |bh=>
  cases ry;cases x with
  |bh=>cases rx;exact SeqAt.EqAt.same _
  |bl b=>cases rx;exact SeqAt.EqAt.none_bool b
  |int b=>obtain⟨t,rfl⟩:=rx;exact SeqAt.EqAt.none_int b t
  |str b=>obtain⟨t,rfl⟩:=rx;exact SeqAt.EqAt.none_str b t
  |_=>exact bi (show false=true from fx) n0
 |bl a=>
  cases ry;cases x with
  |bh=>cases rx;exact SeqAt.EqAt.bool_none a
  |bl b=>cases rx;exact SeqAt.EqAt.bool_bool a b
  |int b=>obtain⟨t,rfl⟩:=rx;exact SeqAt.EqAt.bool_int a b t
  |str b=>obtain⟨t,rfl⟩:=rx;exact SeqAt.EqAt.bool_str a b t
  |_=>exact bi (show false=true from fx) n0
 |int a=>
  obtain⟨t',rfl⟩:=ry;cases x with
  |bh=>cases rx;exact SeqAt.EqAt.int_none a t'
  |bl b=>cases rx;exact SeqAt.EqAt.int_bool a t' b
  |int b=>obtain⟨t,rfl⟩:=rx;exact SeqAt.EqAt.int_int a t' b t
  |str b=>obtain⟨t,rfl⟩:=rx;exact SeqAt.EqAt.int_str a t' b t
  |_=>exact bi (show false=true from fx) n0
 |str a=>
  obtain⟨t',rfl⟩:=ry;cases x with
  |bh=>cases rx;exact SeqAt.EqAt.str_none a t'
  |bl b=>cases rx;exact SeqAt.EqAt.str_bool a t' b
  |int b=>obtain⟨t,rfl⟩:=rx;exact SeqAt.EqAt.str_int a t' b t
  |str b=>obtain⟨t,rfl⟩:=rx;exact SeqAt.EqAt.str_str a t' b t
  |_=>exact bi (show false=true from fx) n0
 |_=>exact bi (show false=true from fy) n0
def JI(x:V)(u:al):Bool:=match u with
 | .none=>Lk .bh x
 | .bool b=>Lk (.bl b) x
 | .int i _=>Lk (.int i) x
 | .str z _=>Lk (.str z) x
 |_=>false
def Es{x y:V}(r:lc y u)(f:gu y=true):JI x u=Lk y x:=by
 cases y with
 |bh=>cases r;rfl
 |bl b=>cases r;rfl
 |int i=>obtain⟨t,rfl⟩:=r;rfl
 |str z=>obtain⟨t,rfl⟩:=r;rfl
 |_=>exact bi (show false=true from f) n0
theorem rg{x:V}:∀{xs:List V} {us:List al},li xs us->xs.all gu=true->us.any (JI x)=xs.any λ y=>Lk y x
 |_,_,.nil,_=>rfl
 |y::xs,u::us,.cons r t,f=>by rw[all_cons,A2]at f;rw[any_cons,any_cons,Es r f.1,rg t f.2]
theorem mG{x:V}{v:al}(rx:lc x v)(fx:gu x=true):∀{xs:List V} {us:List al},li xs us->xs.all gu=true->∀u∈us,SeqAt.EqAt A s u v (JI x u)
 |_,_,.nil,_=>λ u hu=>by cases hu
 |y::xs,u::us,.cons r t,f=>λ u' hu=>by
  rw[all_cons,A2]at f;rcases C7.mp hu with rfl|hu
  ·rw[Es r f.1];exact OJ r rx f.1 fx
  ·exact mG rx fx t f.2 u' hu
def K3(x:V)(xs:List V):Bool:=xs.any λ y=>Lk y x
def rIn(K:J8)(neg:Bool):R2:=λ x y H Q=>∃p xs,y=.ref p/\(dv K H p xs\/fj K H p xs)/\gu x=true/\xs.all gu=true/\Q (.bl (if neg then !K3 x xs else K3 x xs)) H
def zA:eN X (compareOp .In) (rIn X.K false):=by
 intro ce s σ H x y v u Q I rx ry h;obtain⟨p,xs,rfl,hq,fx,fs,q⟩:=h;cases ry;rcases hq with hq|hq
 ·obtain⟨av,r,pl,hz⟩:=I.list hq;refine SeqAt.in_listAt (JI x) pl.isList (λ w hw=>mG rx fx r fs w (by simpa using hw)) ⟨.bl _,H,I,rfl,?_⟩;rw[show av.toArray.any (JI x)=av.any (JI x) by simp,rg r fs];exact q
 ·obtain⟨av,r,pl,hz⟩:=I.tuple hq;refine SeqAt.in_tupleAt (JI x) pl (λ w hw=>mG rx fx r fs w (by simpa using hw)) ⟨.bl _,H,I,rfl,?_⟩;rw[show av.toArray.any (JI x)=av.any (JI x) by simp,rg r fs];exact q
def pW:eN X (compareOp .NotIn) (λ x y H Q=>∃i j,x=.str i/\y=.str j/\Q (.bl (!(!(Builtin.Str.occurrences j i 0 j.length 1).isEmpty))) H):=by intro ce s σ H x y v u Q I rx ry h;obtain⟨i,j,rfl,rfl,q⟩:=h;obtain⟨t,rfl⟩:=rx;obtain⟨t',rfl⟩:=ry;exact notIn_str ⟨.bl _,H,I,rfl,q⟩
def qY:cI X (.builtin "len") (λ xs H Q=>∃p ys,xs=[.ref p]/\(dv X.K H p ys\/fj X.K H p ys)/\Q (.int ys.length) H):=by
 intro ce s σ H xs us Q I r h;obtain⟨p,ys,rfl,hq,q⟩:=h;obtain⟨u,rfl,rx⟩:=vals1 r;cases rx;have hn:=iG;rcases hq with hq|hq
 ·obtain⟨av,r',pl,hz⟩:=I.list hq;have hlen:=r'.length;exact Calls.call_len_list pl.isList (by simp only[y6]<;>lia) ⟨.int ys.length,H,I.tok _,⟨s.toks+1,by rw[y6,hlen]⟩,q⟩
 ·obtain⟨av,r',pl,hz⟩:=I.tuple hq;have hlen:=r'.length;exact len_tuple pl (by simp only[y6]<;>lia) ⟨.int ys.length,H,I.tok _,⟨s.toks+1,by rw[y6,hlen]⟩,q⟩
def qX:cI X (.builtin "len") (λ xs H Q=>∃z,xs=[.str z]/\z.length<=sizeLine/\Q (.int z.length) H):=by intro ce s σ H xs us Q I r h;obtain⟨z,rfl,hz,q⟩:=h;obtain⟨u,rfl,t,rfl⟩:=vals1 r;have hn:=iG;exact len_str () ⟨.int z.length,H,I.tok _,⟨_,rfl⟩,q⟩
def cI.or{f:al}{r':List V->Hp->VK->Prop}(h:cI X f r)(h':cI X f r'):cI X f (λ xs H Q=>r xs H Q\/r' xs H Q):=by
 intro ce s σ H xs us Q I rs q;rcases q with q|q
 ·exact h ce s σ H xs us Q I rs q
 ·exact h' ce s σ H xs us Q I rs q
def qW:cI X (.type "list") (λ xs H Q=>∃p ys,xs=[.ref p]/\(dv X.K H p ys\/fj X.K H p ys)/\∀l,H l=none->Q (.ref l) (lm H l (.lst ys))):=by
 intro ce s σ H xs us Q I r h;obtain⟨p,ys,rfl,hq,q⟩:=h;obtain⟨u,rfl,rx⟩:=vals1 r;cases rx;have fin:∀(av:List al),li ys av->ys.length<=sizeLine->∀(h':Heap)(c':Nat),(∀b o',s.heap.get? b=some o'->h'.get? b=some o')->
   h'.get? s.heap.objs.size=some {cls:=.type "list",dict:=none,data:=.seq av.toArray c',slots:=#[]}->EP X ce σ Q (.ref s.heap.objs.size) {s with heap:=h'}:=λ av r' hz h' c' kp e=>
  ⟨.ref s.heap.objs.size,_,I.laid (t':=s.toks) kp (G3 _) (show bK X.prog X.w _ h' _ (.lst ys)from⟨hz,av,c',r',e⟩),rfl,q _ (I.bP.fresh (G3 _))⟩
 rcases hq with hq|hq
 ·obtain⟨av,r',pl,hz⟩:=I.list hq;have hlen:=r'.length;obtain⟨o,ho,hc,n,hd⟩:=pl.isList;exact call_list_seq p (.inl rfl) ho hc hd (λ h' c' kp e=>fin av r' hz h' c' kp e) (by simp only[y6]<;>lia)
 ·obtain⟨av,r',pl,hz⟩:=I.tuple hq;have hlen:=r'.length;obtain⟨o,ho,hc,n,hd⟩:=pl;exact call_list_seq p (.inr rfl) ho hc hd (λ h' c' kp e=>fin av r' hz h' c' kp e) (by simp only[y6]<;>lia)
def nS:cI X (.type "tuple") (λ xs H Q=>∃p ys,xs=[.ref p]/\((dv X.K H p ys/\∀l,H l=none->Q (.ref l) (lm H l (.tup ys)))\/(fj X.K H p ys/\Q (.ref p) H))):=by
 intro ce s σ H xs us Q I r h;obtain⟨p,ys,rfl,h⟩:=h;obtain⟨u,rfl,rx⟩:=vals1 r;cases rx;rcases h with⟨hq,q⟩|⟨hq,q⟩
 ·obtain⟨av,r',pl,hz⟩:=I.list hq;have hlen:=r'.length;refine call_tuple_list pl.isList (λ h' kp=>?_) (by simp only[y6]<;>lia);have I1:io X ce σ H {s with heap:=h'}:=I.kept (t':=s.toks) kp;have I2:io X ce σ (lm H h'.objs.size (.tup ys)) {s with heap:=h'.push {cls:=.type "tuple",data:=.seq av.toArray}}:=
   I1.laid (t':=s.toks) (λ b o e=>i7 _ e) (G3 _) (show bK X.prog X.w _ _ _ (.tup ys)from⟨hz,av,r',IsTup.new _ _⟩)
  exact⟨.ref h'.objs.size,_,I2,rfl,q _ (I1.bP.fresh (G3 _))⟩
 ·obtain⟨av,r',pl,hz⟩:=I.tuple hq;exact call_tuple_same pl ⟨.ref p,H,I,rfl,q⟩
def VC(K:J8)(T:String)(x:V)(H:Hp):Prop:=match x with
 | .str _=>T="str"
 | .int _=>T="int"
 | .ref p=>(T="list"/\∃xs,dv K H p xs)\/(T="tuple"/\∃o,K.lookup p=some o/\o.cls=.type "tuple"/\o.dict=none)\/
   (T="dict"/\((∃ar,H p=some (.dK ar))\/∃ar,H p=some (.dT ar)))\/(T="set"/\∃S n,H p=some (.set S n))
 |_=>False
def LG{x:V}{v:al}(I:io X ce σ H s)(r:lc x v)(ty:VC X.K T x H):s.TypeIs v T/\∀a,v=.ref a->∃ob,s.heap.get? a=some ob/\ob.dict=none:=by
 cases x with
 |str z=>obtain⟨t,rfl⟩:=r;cases(show T="str" from ty);exact⟨typeIs_str s z t,λ _ e=>nomatch e⟩
 |int i=>obtain⟨t,rfl⟩:=r;cases(show T="int" from ty);exact⟨typeIs_int s i t,λ _ e=>nomatch e⟩
 |ref p=>
  cases r;rcases ty with⟨rfl,xs,hq⟩|⟨rfl,o,hk,hc,hd⟩|⟨rfl,hk⟩|⟨rfl,S,n,hk⟩
  ·obtain⟨av,_,pl,_⟩:=I.list hq;refine⟨pl.isList.typeIs,λ a e=>?_⟩;cases e;obtain⟨o,n,e,c,hd,_⟩:=pl;exact⟨o,e,hd⟩
  ·refine⟨⟨o,I.nN p o hk,hc⟩,λ a e=>?_⟩;cases e;exact⟨o,I.nN _ o hk,hd⟩
  ·have z:∃o,s.heap.get? p=some o/\o.ExactDict:=by
    rcases hk with⟨ar,hk⟩|⟨ar,hk⟩
    ·obtain⟨_,_,_,_,o,_,_,e,ex,_⟩:=I.bP p _ hk;exact⟨o,e,ex⟩
    ·obtain⟨_,_,_,_,o,_,_,e,ex,_⟩:=I.bP p _ hk;exact⟨o,e,ex⟩
   obtain⟨o,e,ex⟩:=z;refine⟨⟨o,e,ex.1⟩,λ a e2=>?_⟩;cases e2;exact⟨o,e,ex.2.1⟩
  ·obtain⟨o,_,_,_,e,ex,_⟩:=I.bP p _ hk;refine⟨⟨o,e,ex.1⟩,λ a e2=>?_⟩;cases e2;exact⟨o,e,ex.2.1⟩
 |_=>exact False.elim ty
def tBM(K:J8)(T:String)(r:V->List V->Hp->VK->Prop)(to:TE)(t:TA):TE:=λ σ H Q=>to σ H λ x H1=>VC K T x H1/\t σ H1 λ xs H2=>r x xs H2 Q
variable {o:Expr}{to:TE}{t:TA}{id:String}{r:V->List V->Hp->VK->Prop}
def KN(pa:PlainAttrs T)(slot:Slot T name id)(Of:Yc id)(hm:Ux X id r)(ho:PE X o to)(ha:PA X (e::es) t)(tp:Ym X o name:=by rfl)(jX:Z6 X dF e es:=by rfl)(sZ:Yd apos dF:=by rfl)(hs:ux X e es:=by rfl)(vO:Kg X dF es:=by rfl):PE X (.Call (.Attribute o name apos) (e::es) [] dF) (tBM X.K T r to t):=by intro ce s σ H Q I h;refine wpAny_Call_method_late tp jX sZ rfl (cq (ho ce s σ H _ I h) λ v s1 ⟨x,H1,I1,r1,ty,q1⟩=>?_);obtain⟨h1,h2⟩:=LG I1 r1 ty;refine⟨T,id,pa,slot,Of,h1,h2,?_⟩;have hA:=ha dF ce s1 σ H1 _ I1 q1;rw[hs]at hA ⊢;refine Calls.callWith_builtin (by show(false||(backTo dF (starEach es X.env)).any (·.1))=false;rw[vO]<;>rfl) (Calls.evalArgs_plain ?_);exact cq hA λ us s2 ⟨vs,H2,I2,r2,q2⟩=>hm ce s2 σ H2 x vs v us Q I2 r1 r2 q2
end
def Z4(X:Cx)(id:String)(r:V->List V->Hp->VK->Prop):Prop:=
 ∀(ce:List (be×Obj))(s:am)(σ:St)(H:Hp)(x:V)(xs:List V)(v:al)(us:List al)(Q:VK),io X ce σ H s->lc x v->li xs us->r x xs H Q->
  wpAny (model X.prog X.w) X.A (call (.builtin id) (v::us)) (EP X ce σ Q) X.xe s
def li.one:∀{x:V} {us:List al},li [x] us->∃u,us=[u]/\lc x u
 |_,_,.cons r .nil=>⟨_,rfl,r⟩
theorem li.rep(h:li xs us):∀k:Nat,li (List.replicate k xs).flatten (List.replicate k us).flatten
 |0=>.nil
 |k+1=>by rw[l4,l4,x9,x9];exact li.append h (li.rep h k)
theorem foldl_rep(av:List al):∀(k:Nat)(dL:List al),
  List.foldl (λ x1 x2=>x1++x2) dL.toArray (List.replicate k av.toArray)=(dL++(List.replicate k av).flatten).toArray
 |0,dL=>by simp
 |k+1,dL=>by
  have e:dL.toArray++av.toArray=(dL++av).toArray:=by simp
  have e2:(dL++av)++(List.replicate k av).flatten=dL++(List.replicate (k+1) av).flatten:=by rw[l4,x9,y0]
  rw[<- e2,<- foldl_rep av k (dL++av),<- e,l4,foldl_cons]
section
variable {b:be}{ys zs:List V}
def io.SN{its':List al}{f:Array al->Array al}(I:io X ce σ H s)(hH:H l=some (.lst xs))(e:s.heap.get? l=some {cls:=.type "list",data:=.seq av.toArray n})(hf:f av.toArray=its'.toArray)(hv:li ys its')(hz:ys.length<=sizeLine):io X ce σ (lm H l (.lst ys)) {s with heap:=s.heap.update l (Obj.mapSeq f),toks:=t'}:=by have q:=PySem.IsL.update e f;rw[hf]at q;refine I.write (x:=l) (e:=l) (by rw[hH];exact trivial) (.inl rfl) (λ b' u hb hu=>(i8 s.heap (Obj.mapSeq f) (J4 hb)).trans hu) ⟨_,q⟩ ?_;exact⟨hz,its',_,hv,q⟩
def io.SO(I:io X ce σ H s)(hv:li ys av)(hz:ys.length<=sizeLine):io X ce σ (lm H s.heap.objs.size (.lst ys)) {s with heap:=s.heap.push {cls:=.type "list",data:=.seq av.toArray},toks:=t'}:=
 I.laid (λ _ _ q=>i7 _ q) (G3 _) ⟨hz,av,0,hv,l7 _ rfl⟩
theorem io.fresh(I:io X ce σ H s):H s.heap.objs.size=none:=I.bP.fresh (G3 _)
def io.zO(I:io X ce σ H s)(hH:H l=some (.lst xs)):xs.length<=sizeLine/\∃(av:List al)(n:Nat),li xs av/\xs.length=av.length/\s.heap.get? l=some {cls:=.type "list",data:=.seq av.toArray n}:=by obtain⟨z,av,n,r,e⟩:=I.bP l _ hH;exact⟨z,av,n,r,r.length,e⟩
def sA(h:n<=sizeLine):Builtin.List.listTooLong n=false:=by unfold Builtin.List.listTooLong;exact A7 ()
end
def xw:V->List V->Hp->VK->Prop:=λ x vs H Q=>∃l xs y,x=.ref l/\vs=[y]/\H l=some (.lst xs)/\xs.length<sizeLine/\Q .bh (lm H l (.lst (xs++[y])))
def zK:Z4 X "list.append" xw:=by intro ce s σ H x vs v us Q I rx rv h;obtain⟨l,xs,y,rfl,rfl,hH,hz,q⟩:=h;cases rx;obtain⟨u,rfl,ru⟩:=rv.one;obtain⟨z,av,n,r,hl,e⟩:=I.zO hH;refine H9 F.slot_list_append ⟨_,e,rfl⟩ F.entry_list_append (F.args_list_append_2 _ _) (PySem.list_append l av.toArray n u (by rw[y6];lia)) ⟨e,?_⟩;refine⟨.bh,_,I.SN (its':=av++[u]) hH e (by simp) (r.append (.cons ru .nil)) ?_,rfl,q⟩;rw[n9,j4];lia
def xu:V->List V->Hp->VK->Prop:=λ x vs H Q=>∃l b xs zs,x=.ref l/\vs=[.ref b]/\H l=some (.lst xs)/\H b=some (.lst zs)/\xs.length+zs.length<=sizeLine/\Q .bh (lm H l (.lst (xs++zs)))
def zJ:Z4 X "list.extend" xu:=by
 intro ce s σ H x vs v us Q I rx rv h;obtain⟨l,b,xs,zs,rfl,rfl,hH,hB,hz,q⟩:=h;cases rx;obtain⟨u,rfl,ru⟩:=rv.one;cases ru;obtain⟨z,av,n,r,hl,e⟩:=I.zO hH;obtain⟨z2,qx,n2,r2,Jw,e2⟩:=I.zO hB;have hsz:av.toArray.size+qx.toArray.size<=sizeLine:=by rw[y6,y6];lia
 have DY:¬(!av.toArray.isEmpty&&Builtin.List.listTooLong (av.toArray.size+qx.toArray.size))=true:=by rw[sA hsz,Bool.and_false];exact n0
 refine H9 F.slot_list_extend ⟨_,e,rfl⟩ F.entry_list_extend (F.args_list_extend_2 _ _)
  (AutoSeq1.list_extend_list_list_0 l av.toArray n b qx.toArray n2 DY (by rw[y6];lia) ()) ⟨e,e2,?_⟩
 refine⟨.bh,_,I.SN (its':=av++qx) hH e (by simp) (r.append r2) ?_,rfl,q⟩;rw[n9];lia
def V3:R2:=λ x y H Q=>∃l b xs zs,x=.ref l/\y=.ref b/\H l=some (.lst xs)/\H b=some (.lst zs)/\xs.length+zs.length<=sizeLine/\∀p,H p=none->Q (.ref p) (lm H p (.lst (xs++zs)))
def Np:eN X (binaryOp .Add) V3:=by
 intro ce s σ H x y v u Q I rx ry h;obtain⟨l,b,xs,zs,rfl,rfl,hH,hB,hz,q⟩:=h;cases rx;cases ry;obtain⟨z,av,n,r,hl,e⟩:=I.zO hH;obtain⟨z2,qx,n2,r2,Jw,e2⟩:=I.zO hB;refine PySem.P.add_list e e2 ?_ (by rw[y6,y6];lia);have ea:av.toArray++qx.toArray=(av++qx).toArray:=by simp
 rw[ea];exact⟨.ref _,_,I.SO (t':=s.toks) (r.append r2) (by rw[n9];lia),rfl,q _ I.fresh⟩
def V1:R2:=λ x y H Q=>∃l k xs,x=.ref l/\y=.int k/\H l=some (.lst xs)/\-(2^63)<=k/\k<2^63/\xs.length*k.toNat<=sizeLine/\
 ∀p,H p=none->Q (.ref p) (lm H p (.lst (List.replicate k.toNat xs).flatten))
def len_rep(xs:List α)(k:Nat):(List.replicate k xs).flatten.length=k*xs.length:=by
 induction k with
 |zero=>simp
 |succ k ih=>rw[l4,x9,n9,ih,Nat.succ_mul,Nat.add_comm]
def Nd:eN X (binaryOp .Mult) V1:=by
 intro ce s σ H x y v u Q I rx ry h;obtain⟨l,k,xs,rfl,rfl,hH,h1,h2,hz,q⟩:=h;cases rx;obtain⟨t,rfl⟩:=ry;obtain⟨z,av,n,r,hl,e⟩:=I.zO hH;have hlen:av.toArray.size*k.toNat<=sizeLine:=by rw[y6,<- hl];exact hz
 have Xp:¬av.toArray.size*k.toNat > (2^63-1)/8:=by
  have:(sizeLine:Nat)<=(2^63-1)/8:=by decide
  lia
 have Tq:¬(!Builtin.List.listFitsIndex k)=true:=by rw[fitsIndex_both h1 h2];exact n0
 have DY:¬Builtin.List.listTooLong (av.toArray.size*k.toNat)=true:=by rw[sA hlen];exact n0
 have Oo:List.foldl (λ x1 x2=>x1++x2) #[] (List.replicate (if av.toArray.isEmpty=true then 0 else k.toNat) av.toArray)=(List.replicate k.toNat av).flatten.toArray:=by
  have f0:∀m:Nat,List.foldl (λ x1 x2=>x1++x2) #[] (List.replicate m av.toArray)=(List.replicate m av).flatten.toArray:=λ m=>by have:=foldl_rep av m [];rw[nil_append]at this;exact this
  rw[f0];cases av with
  |nil=>simp
  |cons a r'=>rw[J7 (by simp)]
 refine wpAny_binaryOp_repeat_ref (T:="list") (U:="int") (by decide) ⟨_,e,rfl⟩ (λ s'=>typeIs_int s' k t) noFill_list_mul F.fills_int_mul F.slot_int_rmul repeat_list F.slot_int_index.lookup
  (H9 F.slot_int_rmul (typeIs_int s k t) F.entry_int_rmul (F.args_int_rmul_2 _ _) (int___rmul___int_list k t l av.toArray n)
   ⟨e,rfl,⟨_,e,rfl⟩,H9 F.slot_list_mul ⟨_,e,rfl⟩ F.entry_list_mul (F.args_list_mul_2 _ _) (AutoListH.list___mul___list_int_3 l av.toArray n k t Tq Xp DY) ⟨e,?_⟩⟩)
 rw[Oo];exact⟨.ref _,_,I.SO (t':=s.toks) (r.rep k.toNat) (by rw[len_rep,Nat.mul_comm];exact hz),rfl,q _ I.fresh⟩
end L2
namespace Z7
open PySem.W PySem.Calls PyProof.Rows
def lh{P:Params}{h:Heap}:∀(ns:List Int)(vs:List al),WellAll P h vs (ns.map WData.int)->IntsAre vs ns:=by
 intro ns
 induction ns with
 |nil=>intro vs w;rw[map_nil]at w;cases w;exact .nil
 |cons n ns ih=>
  intro vs w;rw[C6]at w;cases w with
  |cons a b=>cases a;exact .cons _ _ (ih _ b)
def zg{l:OpenLaw}(hn:l.most=some n){P:Params}{h:Heap}{args:List WData}{vals:List al}(Jt:l.row.toRowW.claim.pre args=true)(S':WellAll P h vals args):∃a vs ns,vals=[Value.ref a]/\args=[WData.list (ns.map WData.int)]/\h.get? a=some {cls:=.type "list",data:=.seq vs.toArray}/\IntsAre vs ns/\ns.length<=n:=by
 have hsh:WShape.hasAll [] args [.list .int]=true:=(pre_splitW Jt).1;have hc:l.pre.holds [] {args:=args}=true:=(pre_splitW Jt).2;obtain⟨d,r,rfl,h1,h2⟩:=hasAllW_cons hsh;obtain rfl:=hasAllW_nil h2;obtain⟨xs,rfl,h3⟩:=hasW_list h1;obtain⟨ns,rfl⟩:=items_int h3;have hlen:ns.length<=n:=by
  unfold OpenLaw.pre at hc;have h4:(WTm.not (.lt (.lit (.int (n:Int))) (.len (.arg 0)))).holds [] {args:=[.list (ns.map .int)]}=true:=by have h4:=(holds_andW hc).1;rw[hn]at h4;exact h4
  have h5:=condW_of h4 (w_not (w_lt w_lit (w_len_list (w_arg rfl))));rw[B4]at h5;refine y9 λ q=>?_;have q':(n:Int)<((ns.length:Nat):Int):=()
  first
   |(rw[B9 q']at h5;exact bi h5 (by decide))
   |(simp at h5;lia)
 cases S' with
 |cons w1 w2=>
  cases w2;cases w1 with
  |list ho vR=>exact⟨_,_,ns,rfl,rfl,ho,lh ns _ vR,hlen⟩
def zt(l:OpenLaw)(args:List WData):l.row.toRowW.claim.post args (.bool true) args=true:=
 postW_of (r:=l.row.toRowW) (X:=(true==true))
  (show WShape.has [] (.bool true) .bool=true by first|rfl|decide|simp[WShape.has,WShape.arms,WShape.armsAll])
  (show(WTm.eq .res (.lit (.bool true))).value [] {args:=args,res:=some (.bool true),after:=args}=some (.bool (true==true))from w_eq_bool (w_res rfl) w_lit) rfl
def uk{l:OpenLaw}{n:Nat}{q:Program}{loose:List Str}{XP:(Str->Option al)->Heap->Prop}{YP:World->Heap->Prop}{d:DefRec}(hn:l.most=some n)(zY:d.params.defaults=[]) (call:∀(w:World)(s₀ s₁:am)(mg mb:Str->Option al)(fa:be)(o:Obj)(pm cd doc:al)(a:be)(vs:List al)(ns:List Int),
   Ground q loose [] XP w s₀ mg mb s₁.heap->YP w s₁.heap->
   s₁.heap.get? fa=some o->o.data=.func (docDef d.name d.params d.body d.scope pm cd doc)->s₁.heap.CodeRec cd d.name->mg d.name=some (.ref fa)->
   s₁.heap.get? a=some {cls:=.type "list",data:=.seq vs.toArray}->IntsAre vs ns->ns.length<=n->s₁.gens=#[]->
   codeAny (model l.prog w) callerA (.call (.ref fa) ⟨[.ref a],[]⟩) (λ r s'=>r=.ok (.ret (.bool true))/\OldK s₁.heap s'.heap/\s'.os=s₁.os/\AllBare s'.gens) s₁):
  WalkO q loose XP YP l.row.toRowW d [] (λ f vs=>PySem.call f vs):=by
 intro w s₀ s₁ mg mb G Y fa o pm cd doc dV kV ho hd Ec hD Tj hg args vals as Jt abm hrd S' hlo;obtain rfl:dV=.none:=Dflts.none hD zY;obtain rfl:kV=.none:=Dflts.noKw hD;obtain⟨a,vs,ns,rfl,rfl,DV,hints,hlen⟩:=zg hn Jt S';refine enter_call (codeAny_mono (call w s₀ s₁ mg mb fa o pm cd doc a vs ns G Y ho (fd_plain hd) Ec Tj DV hints hlen hg) λ r s' hq=>?_);obtain⟨rfl,h2,h3,h4⟩:=hq;exact⟨.inl ⟨.bool true,.bool true,[],rfl,λ _=>rfl,.bool true,zt l _,λ _=>⟨List.Pairwise.nil,λ _ hm=>(nomatch hm)⟩⟩,h2,h3,h4⟩
end Z7
namespace L2
open PySem.Spec PyProof.Rows
theorem oj:∀{vs:List al} {ns:List Int},IntsAre vs ns->li (ns.map V.int) vs
 |_,_,.nil=>.nil
 |_,_,.cons n t h=>.cons ⟨t,rfl⟩ (oj h)
def Kf(H:Hp):Prop:=∀b,H b=none\/∃o xs,H b=some (.gG o (.lst xs))
def Dr{mb:Str->Option al}{CX:Fs}{fa:be}{x:Str}{sp:Sp}{s₁:am}(KX:K.In s₁.heap)(Zx:s₁.heap.Ns mainGlobals mg)(hb:s₁.heap.Ns builtinsNs mb)(hbb:∀x:Str,x≠"__name__"->mb x=bootBuiltins x)(Xa:s₁.heap.NoLimit)(hg:s₁.gens=#[])(ha:s₁.heap.get? a=some {cls:=.type "list",data:=.seq vs.toArray})(hi:IntsAre vs ns)(hl:ns.length<=sizeLine)(hr:cR k callerA)(F:∀base:Heap,K.In base->base.Ns mainGlobals mg->bg P w K mg base CX k fa fd [x] sp)(Tu:∀(s:am)(u:al),BindsTo s fd ⟨[u],[]⟩ [(x,u)])(DS:∀H:Hp,Kf H->dv K H a (ns.map V.int)->sp [.ref a] H (λ v _=>v=.bl true) λ _ _ _=>False)(Xz:∀H e s',CX [] H s₁ (λ _ _ _=>False) e s'->False):codeAny (model P w) callerA (.call (.ref fa) ⟨[.ref a],[]⟩) (λ r s'=>r=.ok (.ret (.bool true))/\OldK s₁.heap s'.heap/\s'.os=s₁.os/\AllBare s'.gens) s₁:=by
 have rv:=oj hi;have Wl:=hi.length;have core:∀H:Hp,Kf H->dv K H a (ns.map V.int)->iU P w H s₁.heap->(∀b,H b≠none->b=a)->(H a≠none->K.lookup a=none)->
   codeAny (model P w) callerA (.call (.ref fa) ⟨[.ref a],[]⟩) (λ r s'=>r=.ok (.ret (.bool true))/\OldK s₁.heap s'.heap/\s'.os=s₁.os/\AllBare s'.gens) s₁:=by
  intro H hO hS bP hA hK;have yJ:∀{b:be} {o:Obj},s₁.heap.get? b=some o->H b=none->(qG s₁.heap H).get? b=some o:=λ e n=>Ea e n;have SI:∀{b:be} {o:Obj} {es:Array DictEntry} {ep:Nat},s₁.heap.get? b=some o->o.data=.dict es ep->H b=none:=λ{b o es ep} e d=>by
   cases q:H b with
   |none=>rfl
   |some u=>have e':b=a:=hA b (by rw[q];simp);subst e';rw[ha]at e;cases e;have d':Data.seq vs.toArray _=Data.dict es ep:=d;cases d'
  have UR:∀{b:be} {m:Str->Option al},s₁.heap.Ns b m->(qG s₁.heap H).Ns b m:=λ{b m} ⟨o,es,ep,e,d,r⟩=>⟨o,es,ep,yJ e (SI e d),d,r⟩;have ZL:K.In (qG s₁.heap H):=λ b o e=>yJ (KX b o e) (by
   cases q:H b with
   |none=>rfl
   |some u=>
    have e':b=a:=hA b (by rw[q];simp);subst e';rw[hK (by rw[q];simp)]at e;cases e)
  have hM:Mod K mg (qG s₁.heap H):=⟨ZL,UR Zx,⟨mb,UR hb,hbb⟩,let⟨mc,h1,h2⟩:=Xa;⟨mc,UR h1,h2⟩⟩;have e0:rn P w K mg (qG s₁.heap H) callerA [] s₁ H:=⟨rfl,hM,λ b o e=>IL e,D9 (zX _ _),trivial,λ b hb=>bi (show b∈([]:List be)from hb) (by simp),bP,.of_eq hg⟩;refine codeAny_mono ((F _ ZL (UR Zx)).run callerA [] s₁ H ⟨[.ref a],[]⟩ [.ref a] [.ref a] _ _ hr e0 (Tu s₁ (.ref a)) (.cons rfl .nil) (DS H hO hS)) λ r s' h=>?_;cases r with
  |error e=>exact(Xz H e s' h).elim
  |ok fl=>
   cases fl with
   |next=>exact False.elim h
   |brk=>exact False.elim h
   |cont=>exact False.elim h
   |ret u=>
    obtain⟨v,H',os,bare,un,W5,r',q⟩:=h;have q':v=.bl true:=q;subst q';obtain rfl:u=Value.bool true:=r';refine⟨rfl,OldK.of_keep λ b o e=>?_,os,bare⟩;cases q:H b with
    |none=>exact un.keep b o e q (by intro z;exact bi (show b∈([]:List be)from z) (by simp)) (by simp)
    |some u=>
     rcases hO b with z|⟨ob,xs,z⟩
     ·rw[q]at z;cases z
     ·have z2:=un.nP b ob _ z;obtain⟨e1,_⟩:=bP b _ z;obtain⟨e2,_⟩:=W5 b _ z2;rw[e]at e1;cases e1;exact e2
 cases hk:K.lookup a with
 |some o=>have e:=KX a o hk;rw[ha]at e;cases e;refine core (λ _=>none) (λ _=>.inl rfl) (.inr ⟨_,vs.toArray,_,hk,rfl,rfl,rfl,by rw[y6,Wl];exact hl,by simpa using rv⟩) (λ b u z=>by have z':(none:Option HO)=some u:=z;cases z') (λ b z=>bi rfl z) λ z=>bi rfl z
 |none=>
  refine core (λ b=>if b=a then some (.gG {cls:=.type "list",data:=.seq vs.toArray} (.lst (ns.map V.int)))else none) (λ b=>?_) (.inl (.inr ⟨{cls:=.type "list",data:=.seq vs.toArray},J6 rfl⟩)) (λ b u z=>?_) (λ b z=>?_) λ _=>hk
  ·by_cases hb:b=a
   ·exact .inr ⟨_,_,J6 hb⟩
   ·exact .inl (J7 hb)
  ·by_cases hb:b=a
   ·have z':=(J6 hb).symm.trans z;cases z';subst hb;exact⟨ha,by rw[B4];exact hl,vs,_,rv,ha⟩
   ·have z':=(J7 hb).symm.trans z;cases z'
  ·by_cases hb:b=a
   ·exact hb
   ·exact bi (J7 hb) z
def GB{l:PySem.W.OpenLaw}{n k:Nat}{q:Program}{loose:List Str}{XP:(Str->Option al)->Heap->Prop}{YP:World->Heap->Prop}{d:DefRec}{K:Params->J8}{CX:World->Fs}{sp:World->Sp}{x:Str}
  (hn:l.most=some n) (hn2:n<=sizeLine) (zY:d.params.defaults=[]) (hr:cR k callerA)
  (hY:∀(w:World)(h:Heap),YP w h->(K w.params).In h)
  (F:∀(w:World)(mg:Str->Option al)(fa:be)(h:Heap),(K w.params).In h->h.Ns mainGlobals mg->mg d.name=some (.ref fa)->
   ∃fd:FuncData,(∀(s:am)(u:al),BindsTo s fd ⟨[u],[]⟩ [(x,u)])/\
    ∀base:Heap,(K w.params).In base->base.Ns mainGlobals mg->bg l.prog w (K w.params) mg base (CX w) k fa fd [x] (sp w))
  (DS:∀(w:World)(H:Hp)(a:be)(ns:List Int),ns.length<=n->Kf H->dv (K w.params) H a (ns.map V.int)->sp w [.ref a] H (λ v _=>v=.bl true) λ _ _ _=>False)
  (Xz:∀(w:World)(H:Hp)(s:am)(e:al)(s':am),CX w [] H s (λ _ _ _=>False) e s'->False):
  PySem.W.WalkO q loose XP YP l.row.toRowW d [] (λ f vs=>PySem.call f vs):=by
 refine Z7.uk hn zY λ w s₀ s₁ mg mb fa o pm cd doc a vs ns G Y ho hd Ec Tj DV hints hlen hg=>?_;have KX:=hY w _ Y;obtain⟨fd,hb,hF⟩:=F w mg fa _ KX G.T.g Tj;exact Dr KX G.T.g G.T.b G.T.builtins G.T.nolimit hg DV hints (D7 hlen hn2) hr hF hb (λ H hO hS=>DS w H a ns hlen hO hS) λ H e s'=>Xz w H s₁ e s'
def dM(s:Stmt):Arguments:=match s with
 | .FunctionDef _ a _ _ _ _ _ _ _ _=>a
 |_=>{posonlyargs:=[],args:=[],vararg:=none,kwonlyargs:=[],kw_defaults:=[],kwarg:=none,defaults:=[]}
def cF(s:Stmt):List Stmt:=match s with
 | .FunctionDef _ _ b _ _ _ _ _ _ _=>b
 |_=>[]
def bF(s:Stmt):Scope:=match s with
 | .FunctionDef _ _ _ _ _ _ sc _ _ _=>sc
 |_=>{kind:=.function,names:=[],isGenerator:=false,isCoroutine:=false}
abbrev cM:Fs:=λ _ _ _ _ _ _=>False
abbrev E0:XK:=λ _ _ _=>False
def RQ:Passes cM X E0:=λ _ _ _ _ _ _ _ h=>h.elim
structure dh(K:J8)(x qual:Str)(st:Stmt)(f:be)(fd:FuncData):Prop where
 ex:∃(oc:al)(od:Option be)(kV doc pm:al)(an:Option be)(b_ ct:al)(AK:Array (Option al)),
  fd=PySem.W.fnOf x qual (dM st) (cF st) (bF st) .none kV doc pm an b_ ct/\K.lookup f=some ⟨oc,od,.func fd,AK⟩/\PySem.W.codeIn K b_ qual=true
 kp:PySem.W.keepIn K (.ref f)=true
def dh.ok{x qual:Str}{st:Stmt}{f:be}{fd:FuncData}{N ps:List Str}{k:Nat}{sp:Sp}(F:dh K x qual st f fd)(S:jE N ps (bF st))(len:∀vs H Q E,sp vs H Q E->vs.length=ps.length) (hbody:∀(b_:al)(A:Around)(outer:List Env)(s:am)(H:Hp)(vs:List V)(Q:VK)(E:XK),cR k (A.deeper (envOfC qual (bF st) s.heap.objs.size f b_))->sp vs H Q E->
   ∃t,uA (tV cM P w K mg base N qual (bF st) f b_ A outer s H E).Pu (cF st) t/\t {nx:=λ _ H'=>Q .bh H',rt:=Q} (start N vs) H):bg P w K mg base cM (k+1) f fd ps sp:=by
 obtain⟨oc,od,kV,doc,pm,an,b_,ct,AK,rfl,lk,Ec⟩:=F.ex;refine TH lk Ec S len λ A outer s H vs Q E hr DS=>?_;obtain⟨t,h,q⟩:=hbody b_ A outer s H vs Q E hr DS;exact⟨t,h.Pu,q⟩
def dh.binds{x:Str}(F:dh K x qual st f fd)(h:∀(kV doc pm:al)(an:Option be)(b_ ct:al)(us:List al),us.length=ps.length->bindArgs (PySem.W.fnOf x qual (dM st) (cF st) (bF st) .none kV doc pm an b_ ct) ⟨us,[]⟩=pure (ps.zip us)):Binds K fd ps []:=by obtain⟨oc,od,kV,doc,pm,an,b_,ct,AK,rfl,lk,Ec⟩:=F.ex;exact .all (h kV doc pm an b_ ct)
def OE{x:Str}{oc:al}{od an:Option be}{AK:Array (Option al)}{kV doc pm b_ ct:al}(l:K.lookup f=some ⟨oc,od,.func (PySem.W.fnOf x qual (dM st) (cF st) (bF st) .none kV doc pm an b_ ct),AK⟩)(c:PySem.W.codeIn K b_ qual=true)(k:PySem.W.keepIn K (.ref f)=true):dh K x qual st f (PySem.W.fnOf x qual (dM st) (cF st) (bF st) .none kV doc pm an b_ ct):=⟨⟨oc,od,kV,doc,pm,an,b_,ct,AK,rfl,l,c⟩,k⟩
def io.oq{D:be}{o:HO}(I:io X ce σ H s)(hn:H D=none)(new:bK X.prog X.w (lm H D o) s.heap D o)(hL:D≠X.env.locals)(hs:X.s₀.heap.objs.size<=D)(hc:∀x c,X.env.cells.lookup x=some c->c≠D)(hp:∀p∈X.pn++ce,p.1≠D):io X ce σ (lm H D o) s:=by
 have ne:∀{b:be} {u:HO},H b=some u->b≠D:=λ e=>cn e hn;have nb:∀(b:be)(ob:Obj),X.s₀.heap.get? b=some ob->b≠D:=λ b ob e=>D3 (p9 (D4 e) hs);refine⟨I.ok,I.os,I.bare,⟨I.base.keep,I.base.slot,λ b ob e n hx=>?_,I.base.there,λ b xs e=>?_,λ b ob u e=>?_,λ b ps e=>?_⟩,I.loc,I.cell,?_,λ x c e=>?_,λ p Zv=>?_,λ b u e=>?_,I.len⟩
 ·rw[aX (nb b ob e)];exact I.base.free b ob e n hx
 ·have q:=I.base.pE b xs e;rw[aX (ne q)];exact q
 ·have q:=I.base.nP b ob u e;rw[aX (ne q)];exact q
 ·obtain⟨m,q⟩:=I.base.pJ b ps e;exact⟨m,by rw[aX (ne q)];exact q⟩
 ·rw[aX (J4 hL)];exact I.free
 ·rw[aX (hc x c e)];exact I.gr x c e
 ·obtain⟨e,n,r⟩:=I.pin p Zv;exact⟨e,by rw[aX (hp p Zv)];exact n,r⟩
 ·by_cases hb:b=D
  ·subst hb;rw[bL]at e;cases e;exact new
  ·rw[aX hb]at e;exact(I.bP b u e).gJ (λ c v _ q=>q) (λ c q=>by rw[aX (ne q)];exact q) λ c xs q=>by rw[aX (ne q)];exact q
def d_(cells:List (Str×be)):List (Str×NameKind)->List (Str×be)->List (Str×be)
 |[],dL=>dL
 |(n,k)::r,dL=>if(k==.free)=true then d_ cells r ((n,(cells.lookup n).getD 0)::dL)else d_ cells r dL
theorem iO:∀(names:List (Str×NameKind))(dL:List (Str×be)),(∀n,(n,NameKind.free)∈names->∃c,cells.lookup n=some c)-> (∀x c,dL.lookup x=some c->cells.lookup x=some c)->∀x c,(d_ cells names dL).lookup x=some c->cells.lookup x=some c
 |[],dL,_,h,x,c,e=>h x c e
 |(n,k)::r,dL,hc,h,x,c,e=>by
  unfold d_ at e;by_cases hk:(k==NameKind.free)=true
  ·rw[J6 hk]at e;refine iO r _ (λ m hm=>hc m (j9 _ hm)) (λ y d q=>?_) x c e;have oK:k=NameKind.free:=by simpa using hk
   obtain⟨c0,e0⟩:=hc n (by rw[oK];exact l9);rw[y8]at q;cases hy:(y==n)with
   |true=>
    rw[hy]at q;have yn:y=n:=by simpa using hy
    subst yn;rw[e0]at q;rw[e0];exact q
   |false=>rw[hy]at q;exact h y d q
  ·rw[J7 hk]at e;exact iO r _ (λ m hm=>hc m (j9 _ hm)) h x c e
theorem gZ{x:Str}:∀(names:List (Str×NameKind))(dL:List (Str×be)),((dL.lookup x).isSome=true)->((d_ cells names dL).lookup x).isSome=true
 |[],dL,h=>h
 |(n,k)::r,dL,h=>by
  unfold d_;split
  ·refine gZ r _ ?_;rw[y8];cases hy:(x==n)with
   |true=>rfl
   |false=>exact h
  ·exact gZ r _ h
theorem kg{x:Str}:∀(names:List (Str×NameKind))(dL:List (Str×be)),(x,NameKind.free)∈names->((d_ cells names dL).lookup x).isSome=true
 |[],dL,h=>bi h (by simp)
 |(n,k)::r,dL,h=>by
  unfold d_;rcases C7.mp h with e|h
  ·cases e;rw[J6 (by decide)];refine gZ r _ ?_;rw[y8];simp
  ·split
   ·exact kg r _ h
   ·exact kg r _ h
def fK{env:Env}(hc:∀n,(n,NameKind.free)∈scope.names->∃c,env.cells.lookup n=some c):closureFor scope env=pure (d_ env.cells scope.names []):=by
 unfold closureFor;have all:∀(names:List (Str×NameKind))(dL:List (Str×be)),(∀n,(n,NameKind.free)∈names->∃c,env.cells.lookup n=some c)->
   (forIn names dL (λ(x:Str×NameKind) (cs:List (Str×be))=>(match x with|(name,kind)=>if(kind==.free)=true then(do let c <- cellOf env name;pure (ForInStep.yield ((name,c)::cs)))else pure (ForInStep.yield cs):Sem (ForInStep (List (Str×be))))))=(pure (d_ env.cells names dL):Sem (List (Str×be))):=by
  intro names
  induction names with
  |nil=>intro dL _;rfl
  |cons y r ih=>
   intro dL hc;obtain⟨n,k⟩:=y;rw[forIn_cons];unfold d_;dsimp only;by_cases hk:(k==NameKind.free)=true
   ·rw[J6 hk,J6 hk];have oK:k=NameKind.free:=by simpa using hk
    obtain⟨c0,e0⟩:=hc n (by rw[oK];exact l9);unfold cellOf;rw[e0];exact ih _ λ m hm=>hc m (j9 _ hm)
   ·rw[J7 hk,J7 hk];exact ih _ λ m hm=>hc m (j9 _ hm)
 have q:=all scope.names [] hc;refine Eq.trans ?_ (J3 (λ m=>m>>=pure) q);rfl
theorem mr{env:Env}:∀{names:List (Str×NameKind)} {x:Str},names.lookup x=some .free-> (names.map λ(n,k)=>if(k==NameKind.free&&env.scope.kind==.function&&env.kindOf n==some .cell)then(n,NameKind.cell)else(n,k)).lookup x=some .cell\/ (names.map λ(n,k)=>if(k==NameKind.free&&env.scope.kind==.function&&env.kindOf n==some .cell)then(n,NameKind.cell)else(n,k)).lookup x=some .free
 |[],_,h=>by simp at h
 |(n,k)::r,x,h=>by
  have ih:=@mr env r x;rw[C6];dsimp only;cases hx:x==n with
  |true=>
   rw[y8,hx]at h;have h':k=NameKind.free:=by simpa using h
   subst h';split
   ·left;rw[y8,hx]
   ·right;rw[y8,hx]
  |false=>
   rw[y8,hx]at h;have ih:=ih h;split
   ·rw[y8,hx];exact ih
   ·rw[y8,hx];exact ih
def qS{prog:Program}{w:World}{A:Around}{R:Result->am->Prop}{s:am}{elt target iter:Expr}{ifs:List Expr}{scope:Scope}{pos:Pos}{it dL:al}{env:Env}(I:Nat->am->Prop) (turn:∀n s,I n s->wpAny (model prog w) A (pyNext it) (λ r s1=>match r with
   |none=>R (.ok .next) s1
   |some v=>wpAny (model prog w) A (letOwnedTupleGo target it v) (λ _ s2=>wpAny (model prog w) A (assign target env v) (λ _ s3=>
     wpAny (model prog w) A (forIn ifs true λ c r=>if r=true then do let ok <- isTrue c env (eval c env);pure (ForInStep.yield ok)else pure (ForInStep.yield r)) (λ ok s4=>
      if ok=true then wpAny (model prog w) A (eval elt env) (λ x s5=>
       wpAny (model prog w) A (call (.builtin "list.append") [dL,x]) (λ _ s6=>∃m,m<n/\I m s6) (λ _ _=>False) s5) (λ _ _=>False) s4
      else ∃m,m<n/\I m s4) (λ _ _=>False) s3) (λ _ _=>False) s2) (λ _ _=>False) s1) (λ _ _=>False) s)
  (n:Nat) (h:I n s):
  codeAny (model prog w) A (.compLoop (.ListComp elt [⟨target,iter,ifs,0⟩] scope pos) 0 it dL env) R s:=by
 refine codeAny_loop rfl I (λ n s hI=>?_) n h;show wpAny _ A ((compTurn (.ListComp elt [⟨target,iter,ifs,0⟩] scope pos) 0 it dL env).onRaise (λ x=>do noteFrame x env;theTreesLotGoes x)) _ _ s;refine wpAny_noted ?_;rw[compTurn_list];refine wpAny_noRaise (G8 (wpAny_standAt (G8 (J0 (turn n s hI) (λ r s1 h1=>?_) λ _ _ h'=>h'))));cases r with
 |none=>exact G9 h1
 |some v=>
  refine G8 (J0 h1 (λ _ s2 h2=>?_) λ _ _ h'=>h');refine G8 (J0 h2 (λ _ s3 h3=>G8 (J0 h3 (λ ok s4 h4=>?_) λ _ _ h'=>h')) λ _ _ h'=>h');cases ok with
  |false=>exact G9 ⟨rfl,h4⟩
  |true=>exact G8 (G8 (J0 h4 (λ x s5 h5=>G8 (J0 h5 (λ _ s6 h6=>G9 (G9 ⟨rfl,h6⟩)) λ _ _ h'=>h')) λ _ _ h'=>h'))
def bj(X:Cx)(scope:Scope)(cl:List (Str×be))(bW:List Str)(fr:List Nat)(C:be)(fp:List be)(s:am)(H:Hp):Cx:=
 {X with N:=bW++fr.map (λ j=>X.N.getD j ""),s₀:=s,H₀:=H,env:=compEnvC scope cl C X.env,outer:=X.stack,ex:=fp,fn:=λ x=>scope.names.lookup x==some .cell,pn:=[]}
def eY(n:Nat)(fr:List Nat)(σ:St):St:=List.replicate n none++fr.map (λ j=>σ.getD j none)
structure Ft(X:Cx)(scope:Scope)(C:be)(h1:Heap)(cl:List (Str×be)):Prop where
 look:∀x c,cl.lookup x=some c->X.env.cells.lookup x=some c\/(C<c/\h1.IsCell c none)
 inj:∀x y c,cl.lookup x=some c->cl.lookup y=some c->x=y
 has:∀x,(x,NameKind.free)∈scope.names\/(x,NameKind.cell)∈scope.names->∃c,cl.lookup x=some c
 fre:∀x c,scope.names.lookup x=some .free->cl.lookup x=some c->X.env.cells.lookup x=some c
 own:∀x c,scope.names.lookup x=some .cell->cl.lookup x=some c->C<c
structure gB(X:Cx)(scope:Scope)(fr:List Nat):Prop where
 kind:scope.kind=.function
 cells:∀y∈scope.names,y.2=.cell->scope.names.lookup y.1=some .cell
 names:∀y∈scope.names,y.2=.local->scope.names.lookup y.1=some .local
 has:∀n,(n,NameKind.free)∈scope.names->X.env.kindOf n=some .cell\/X.env.kindOf n=some .free
 fr:∀j∈fr,j<X.N.length/\scope.names.lookup (X.N.getD j "")=some .free
def iR(n:Nat)(g:TG):Prop:=∀x σ H Q,g x σ H Q->g x σ H λ σ2 H2=>Q σ2 H2/\σ2.length=σ.length/\∀k,n<=k->σ2[k]?=σ[k]?
def ib(h:i<n):iR n (cB i):=λ x σ H Q q=>⟨q,by simp,λ k hk=>by rw[k9 ()]⟩
def lQ(n:Nat)(g:yN):Prop:=∀xs σ H Q,g xs σ H Q->g xs σ H λ σ2 H2=>Q σ2 H2/\σ2.length=σ.length/\∀k,n<=k->σ2[k]?=σ[k]?
def Ej:lQ n qK:=λ xs σ H Q q=>⟨q.1,q.2,rfl,λ _ _=>rfl⟩
def PY(X:Cx)(ifs:List Expr)(t:TT):Prop:=
 ∀(ce:List (be×Obj))(s:am)(σ:St)(H:Hp)(Q:Bool->Hp->Prop),io X ce σ H s->t σ H Q->
  wpAny (model X.prog X.w) X.A (forIn ifs true λ c r=>if r=true then do let ok <- isTrue c X.env (eval c X.env);pure (ForInStep.yield ok)else pure (ForInStep.yield r)) (TP X ce σ Q) X.xe s
def VH:TT:=λ _ H Q=>Q true H
def Ie:PY X [] VH:=λ _ s σ H Q I h=>wpAny_tests_nil ⟨H,I,h⟩
def Ic{c:Expr}{t:TT}(h:PT X c t):PY X [c] t:=λ ce s σ H Q I q=>wpAny_tests_one (h ce s σ H Q I q)
def mh(wi:TI)(g:TG)(tt:TT)(te:TE)(n:Nat)(fr:List Nat):TE:=λ σ H Q=>wi σ H λ J H1=>∃W:Nat->Nat->List V->Hp->Prop,(∃m,W 0 m [] H1)/\∀i m dL H,W i m dL H->
 dL.length<=sizeLine/\((J.stop i H/\∀p,H p=none->Q (.ref p) (lm H p (.lst dL)))\/
  (J.go i H/\∃N:List V->Hp->Prop,(∀Fg H',N Fg H'->∃m',m'<m/\W (i+1) m' Fg H')/\∀x H',J.FQ i H x H'->g x (eY n fr σ) H' λ σ2 H2=>tt σ2 H2 λ b H3=>if b=true then te σ2 H3 λ y H4=>N (dL++[y]) H4 else N dL H3))
theorem gN{env:Env}:∀{names:List (Str×NameKind)} {x:Str} {k0:NameKind}, (names.map λ(n,k)=>if(k==NameKind.free&&env.scope.kind==.function&&env.kindOf n==some .cell)then(n,NameKind.cell)else(n,k)).lookup x=some k0->(k0=.cell\/k0=.free)->(x,NameKind.free)∈names\/(x,NameKind.cell)∈names
 |[],_,_,h,_=>by simp at h
 |(n,k)::r,x,k0,h,hk=>by
  have ih:=@gN env r x k0;rw[C6]at h;dsimp only at h;cases hx:x==n with
  |true=>
   have xn:x=n:=by simpa using hx
   subst xn;by_cases Ts:(k==NameKind.free&&env.scope.kind==.function&&env.kindOf x==some .cell)=true
   ·have:k=NameKind.free:=by have:=(A2 _ _).mp Ts;have:=(A2 _ _).mp this.1;simpa using this.1
    subst this;exact .inl l9
   ·rw[J7 Ts,y8,hx]at h;have h':k=k0:=by simpa using h
    subst h';rcases hk with e|e
    ·subst e;exact .inr l9
    ·subst e;exact .inl l9
  |false=>
   have z:(x,NameKind.free)∈r\/(x,NameKind.cell)∈r:=by
    refine ih ?_ hk;split at h
    ·rw[y8,hx]at h;exact h
    ·rw[y8,hx]at h;exact h
   exact z.imp (j9 _) (j9 _)
def hW{x n:Str}{dL:List (Str×be)}{c:be}(h:((n,a)::dL).lookup x=some c):(x=n/\c=a)\/(x≠n/\dL.lookup x=some c):=by
 rw[y8]at h;cases e:x==n with
 |true=>rw[e]at h;exact .inl ⟨by simpa using e,(B0 h).symm⟩
 |false=>rw[e]at h;exact .inr ⟨by simpa using e,h⟩
set_option tactic.hygienic true in
theorem qT:∀(names:List (Str×NameKind))(h:Heap)(dL:List (Str×be))(x:Str)(c:be),(cellsFrom h.objs.size names dL).lookup x=some c->dL.lookup x=some c\/(h.objs.size<=c/\(pushCells h names).IsCell c none)
 |[],_,_,_,_,e=>.inl e
 |(n,k)::r,h,dL,x,c,e=>by
  unfold cellsFrom at e;unfold pushCells;split at e
  ·rename_i hk;rw[J6 hk];have sz:=C1 h {cls:=.type "cell",data:=.cell none};rw[<- sz]at e;rcases qT r _ _ x c e with z|z
   ·rcases hW z with⟨_,q⟩|⟨_,q⟩
    ·subst q;exact .inr ⟨G3 _,_,pushCells_keeps r _ _ _ (l7 _ rfl),rfl⟩
    ·exact .inl q
   ·exact .inr ⟨by have:=z.1;rw[sz]at this;lia,z.2⟩
  ·rename_i hk;rw[J7 hk];exact qT r h dL x c e
theorem wx:∀(names:List (Str×NameKind))(n:Nat)(dL:List (Str×be)),(∀x c,dL.lookup x=some c->c<n)->(∀x y c,dL.lookup x=some c->dL.lookup y=some c->x=y)->∀x y c,(cellsFrom n names dL).lookup x=some c->(cellsFrom n names dL).lookup y=some c->x=y
 |[],_,_,_,hi=>hi
 |(m,k)::r,n,dL,lt,hi=>by
  unfold cellsFrom;split
  ·refine wx r (n+1) _ (λ x c e=>?_) (λ x y c e1 e2=>?_)
   ·rcases hW e with⟨_,q⟩|⟨_,q⟩
    ·rw[q];exact Nat.lt_succ_self n
    ·exact y7 (lt x c q)
   ·rcases hW e1 with⟨a1,q1⟩|⟨a1,q1⟩<;>rcases hW e2 with⟨a2,q2⟩|⟨a2,q2⟩
    ·rw[a1,a2]
    ·exact bi (q1▸lt y c q2) (C5 _)
    ·exact bi (q2▸lt x c q1) (C5 _)
    ·exact hi x y c q1 q2
  ·exact wx r n dL lt hi
theorem lP{x:Str}:∀(names:List (Str×NameKind))(n:Nat)(dL:List (Str×be)),(∃c,dL.lookup x=some c)->∃c,(cellsFrom n names dL).lookup x=some c
 |[],_,_,h=>h
 |(m,k)::r,n,dL,⟨c,h⟩=>by
  unfold cellsFrom;split
  ·refine lP r _ _ ?_;rw[y8];cases x==m with
   |true=>exact⟨_,rfl⟩
   |false=>exact⟨c,h⟩
  ·exact lP r n dL ⟨c,h⟩
theorem wz{x:Str}:∀(names:List (Str×NameKind))(n:Nat)(dL:List (Str×be)),(x,NameKind.cell)∈names->∃c,(cellsFrom n names dL).lookup x=some c
 |[],_,_,h=>bi h (by simp)
 |(m,k)::r,n,dL,h=>by
  unfold cellsFrom;rcases C7.mp h with e|h
  ·cases e;rw[J6 (by decide)];exact lP r _ _ ⟨n,by rw[y8];simp⟩
  ·split
   ·exact wz r _ _ h
   ·exact wz r _ _ h
set_option tactic.hygienic true in
theorem wA{x:Str}:∀(names:List (Str×NameKind))(n:Nat)(dL:List (Str×be)),(x,NameKind.cell)∉names->(cellsFrom n names dL).lookup x=dL.lookup x
 |[],_,_,_=>rfl
 |(m,k)::r,n,dL,h=>by
  unfold cellsFrom;split
  ·rename_i hk;rw[wA r _ _ λ z=>h (j9 _ z),y8];cases e:x==m with
   |false=>rfl
   |true=>
    have e1:x=m:=by simpa using e
    have e2:k=.cell:=by simpa using hk
    subst e1 e2;exact bi l9 h
  ·exact wA r n dL λ z=>h (j9 _ z)
set_option tactic.hygienic true in
theorem wu{x:Str}{lo:Nat}:∀(names:List (Str×NameKind))(n:Nat)(dL:List (Str×be)),lo<=n->((x,NameKind.cell)∈names\/∀c,dL.lookup x=some c->lo<=c)->∀c,(cellsFrom n names dL).lookup x=some c->lo<=c
 |[],_,_,_,h,c,e=>by
  rcases h with h|h
  ·cases h
  ·exact h c e
 |(m,k)::r,n,dL,hn,h,c,e=>by
  unfold cellsFrom at e;split at e
  ·refine wu r (n+1) _ () ?_ c e;rcases h with h|h
   ·rcases C7.mp h with q|q
    ·cases q;exact .inr λ c e=>by
      rcases hW e with⟨_,z⟩|⟨z,_⟩
      ·rw[z];exact hn
      ·exact bi rfl z
    ·exact .inl q
   ·exact .inr λ c e=>by
     rcases hW e with⟨_,z⟩|⟨_,z⟩
     ·rw[z];exact hn
     ·exact h c z
  ·rename_i hk;refine wu r n dL hn ?_ c e;rcases h with h|h
   ·rcases C7.mp h with q|q
    ·cases q;exact bi rfl hk
    ·exact .inl q
   ·exact .inr h
section
variable {M:Model}
def zH{globals:be}{closure:List (Str×be)}{func:Option be}{code:al}{env:Env}{builtins:be}{Q:Env->am->Prop}(hQ:Q (newEnv scope s.heap.objs.size globals (cellsFrom (s.heap.objs.size+1) scope.names closure) qual func code (some env) builtins) {s with heap:=pushCells (s.heap.push {cls:=.type "dict",data:=.dict #[]}) scope.names}):wpAny M A (newFunctionEnv scope globals closure [] qual func code (some env) builtins) Q E s:=by simp only[newFunctionEnv,Option.isSome_some,J5];refine G8 (wpAny_alloc ?_);refine G8 (wpAny_layCells _ (λ name kind cells=>by cases hkc:kind==NameKind.cell<;>simp[hkc]) _ _ _ _ ?_);rw[show({s with heap:=s.heap.push {cls:=.type "dict",data:=.dict #[]}}:am).heap.objs.size=s.heap.objs.size+1 from C1 ..];exact G8 (G9 (G9 hQ))
end
def O2{C:be}{h1:Heap}(B:gB X scope fr)(L:Ft X scope C h1 cl)(I:io X ce σ H s)(hC:s.heap.objs.size<=C)(f:∀b∈fp,gp X ce H b)(FE:∀b∈fp,b<s.heap.objs.size): (bj X scope cl bW fr C fp s H).Ok:=by
 refine⟨I.ok.mod,B.kind,I.ok.glob,I.ok.blt,hC,L.inj,λ x hx=>?_,λ x c h e=>?_,I.ok.hd,I.ok.frames,.inl rfl,λ b hb=>⟨D3 (p9 (FE b hb) hC),λ x c e=>?_⟩,
  I.bs,D7 I.ok.FI I.sz,λ b o e hb=>?_,λ b hb hs=>?_,I.stack,I.xa⟩
 ·rcases hx with hx|hx
  ·exact L.has x (gN hx (.inl rfl))
  ·exact L.has x (gN hx (.inr rfl))
 ·exact D7 hC (G2 (L.own x c (by simpa[bj]using h) e))
 ·rcases L.look x c e with z|z
  ·exact(f b hb).2.2.2.2.1 x c z
  ·exact λ q=>bi (p8 hC z.1) (Nat.not_lt.mpr (G2 (q▸FE b hb)))
 ·rcases(f b hb).2.2.2.1 with z|z
  ·exact I.ok.zF b o e z
  ·exact bi (p9 (D4 e) (D7 I.ok.FI z)) (C5 _)
 ·rcases C7.mp (I.pL b hs)with z|z
  ·exact(f b hb).2.1 z
  ·exact(f b hb).2.2.1 z
def J9{s1:am}{C:be}{m:Str->Option al}(B:gB X scope fr)(L:Ft X scope C s1.heap cl)(I:io X ce σ H s)(hC:s.heap.objs.size<=C)(f:∀b∈fp,gp X ce H b)(FE:∀b∈fp,b<s.heap.objs.size)(ho:s1.os=s.os)(hg:AllBare s1.gens)(hk:∀b o,s.heap.get? b=some o->s1.heap.get? b=some o)(hn:s1.heap.Ns C m):io (bj X scope cl bW fr C fp s H) [] (eY bW.length fr σ) H s1:=by
 refine⟨O2 B L I hC f FE,ho,hg,Un.kept hk,⟨m,hn,λ i x v e1 e2 e3=>?_⟩,λ x c e=>?_,I.bP.fresh hC,λ x c e=>?_,λ p hp=>bi hp (by simp[bj]),I.bP.kept hk,by simp[eY,bj]⟩
 ·-- a free name:av XR value
  have e1:(bW++fr.map (λ j=>X.N.getD j ""))[i]?=some x:=e1;have hi:bW.length<=i:=by refine y9 λ fR=>?_;unfold eY at e2;rw[b9 (by simpa using fR),e9,J6 fR]at e2;cases e2
  unfold eY at e2;rw[b7 (by simpa using hi),j6,w6]at e2;rw[b7 hi,w6]at e1;cases ej:fr[i-bW.length]? with
  |none=>rw[ej]at e1;cases e1
  |some j=>
   rw[ej]at e1 e2;have TQ:X.N.getD j ""=x:=B0 e1;have ZR:σ.getD j none=some v:=B0 e2;obtain⟨hj,hl⟩:=B.fr j (k4 ej);have hN:X.N[j]?=some x:=by rw[b8,c8 hj]at TQ;rw[c8 hj];exact J3 some TQ
   have hs:σ[j]?=some (some v):=by
    have Va:j < σ.length:=by rw[I.len];exact hj
    rw[b8,c8 Va]at ZR;rw[c8 Va];exact J3 some ZR
   rw[TQ]at hl;obtain⟨m0,DW,Zz⟩:=I.loc;have Jv:(x,NameKind.free)∈scope.names:=l3 hl;have kinds:=B.has x Jv;obtain⟨u,ru,lu⟩:=Zz j x v hN hs (by rcases kinds with z|z;exact .inr (.inl z);exact .inr (.inr z));refine⟨u,ru,.inr ⟨mr hl,?_⟩⟩;obtain⟨c,hc⟩:=L.has x (.inl Jv);refine⟨c,hc,?_⟩;rcases lu with⟨kl,_⟩|⟨_,c',uJ,z⟩
   ·rcases kinds with z|z<;>(rw[z]at kl;cases kl)
   ·have:c=c':=by have:=L.fre x c hl hc;rw[this]at uJ;exact B0 uJ
    subst this;obtain⟨o,ho,hd⟩:=z;exact⟨o,hk _ _ ho,hd⟩
 ·rcases L.look x c e with z|z
  ·obtain⟨v,o,kL,hd⟩:=I.cell x c z;exact⟨v,o,hk _ _ kL,hd⟩
  ·exact⟨none,z.2⟩
 ·rcases L.look x c e with z|z
  ·exact I.gr x c z
  ·exact I.bP.fresh (D7 hC (G2 z.1))
def O3{h2:Heap}(B:gB X scope fr)(I:io X ce σ H s)(hs:s.heap.objs.size<=h2.objs.size):Ft X scope h2.objs.size (pushCells (h2.push {cls:=.type "dict",data:=.dict #[]}) scope.names) (cellsFrom (h2.objs.size+1) scope.names (d_ X.env.cells scope.names [])):=by
 have look:∀x c,(d_ X.env.cells scope.names []).lookup x=some c->X.env.cells.lookup x=some c:=
  iO scope.names [] (λ n hn=>I.ok.has n (B.has n hn)) λ x c e=>by simp at e
 have sz:=C1 h2 {cls:=.type "dict",data:=.dict #[]};refine⟨λ x c e=>?_,wx _ _ _ (λ x c e=>?_) (λ x y c e1 e2=>I.ok.inj x y c (look x c e1) (look y c e2)),λ x h=>?_,λ x c h e=>?_,λ x c h e=>?_⟩
 ·rw[<- sz]at e;rcases qT _ _ _ x c e with z|z
  ·exact .inl (look x c z)
  ·exact .inr ⟨p9 (by rw[sz];exact Nat.lt_succ_self _) z.1,z.2⟩
 ·obtain⟨v,hv⟩:=I.cell x c (look x c e);exact y7 (p9 hv.lt hs)
 ·rcases h with h|h
  ·exact lP _ _ _ (Option.isSome_iff_exists.mp (kg scope.names [] h))
  ·exact wz _ _ _ h
 ·rw[wA _ _ _ λ z=>by have:=B.cells _ z rfl;rw[h]at this;cases this]at e;exact look x c e
 ·exact wu (lo:=h2.objs.size+1) _ _ _ (G3 _) (.inl (l3 h)) c e
section
variable {wi:TI}{g:TG}{tt:TT}{te:TE}
def toF{M:Model}{t:Sem α}{Q Q':α->am->Prop}(hE:∀e s,E e s->False)(h:wpAny M A t Q E s)(hQ:∀a s,Q a s->Q' a s):wpAny M A t Q' (λ _ _=>False) s:=
 J0 h hQ hE
def oW{ce:List (be×Obj)}{σ:St}{H:Hp}{s:am}{R:al->be->Result->am->Prop}{E:al->am->Prop}{J:It}{fp:List be}{it:be}{tn:Nat->Heap->Prop}{Qe:List V->Hp->Prop}(B:gB X scope fr)(hc:X.calm=true)(hE:∀e s,X.xe e s->False)(hg:∀cl C fp s H,PG (bj X scope cl bW fr C fp s H) tg g)(gk:iR bW.length g)(ht:∀cl C fp s H,PY (bj X scope cl bW fr C fp s H) ifs tt)(he:∀cl C fp s H,PE (bj X scope cl bW fr C fp s H) elt te)(I:io X ce σ H s)(T:Turn X.prog X.w X.K tg J fp it tn)(st:tn 0 s.heap)(f:∀b∈fp,gp X ce H b)(W:Nat->Nat->List V->Hp->Prop)(m0:Nat)(w0:W 0 m0 [] H) (turn:∀i m dL H,W i m dL H->dL.length<=sizeLine/\((J.stop i H/\Qe dL H)\/(J.go i H/\∃N:List V->Hp->Prop,(∀Fg H',N Fg H'->∃m',m'<m/\W (i+1) m' Fg H')/\∀x H',J.FQ i H x H'->g x (eY bW.length fr σ) H' λ σ2 H2=>tt σ2 H2 λ b H3=>
   if b=true then te σ2 H3 λ y H4=>N (dL++[y]) H4 else N dL H3)))
  (fin:∀(D C:be)(s1:am)(H1:Hp)(dL:List V)(av:List al),s.heap.objs.size<=D->s.heap.objs.size<=C->D≠C->io X ce σ H1 s1->H1 C=none->H1 D=none->(∃m,s1.heap.Ns C m)->
   s1.heap.PlainList D av.toArray->li dL av->dL.length<=sizeLine->Qe dL H1->R (.ref D) C (.ok .next) s1):
  wpAny (model X.prog X.w) X.A (newList []) (λ dL s3=>wpAny (model X.prog X.w) X.A (newFunctionEnv scope X.env.globals (d_ X.env.cells scope.names []) [] X.env.qual none .none (some X.env)) (λ Uj s4=>
   codeAny (model X.prog X.w) X.A (.compStart (.ListComp elt [⟨tg,iter,ifs,0⟩] scope pos) 0 (.ref it) dL {Uj with scope:=relabel scope X.env}) (R dL Uj.locals) s4) E s3) E s:=by
 have FE:∀b∈fp,b<s.heap.objs.size:=λ b hb=>by obtain⟨o,e,_⟩:=T.obj 0 _ st b hb;exact D4 e
 refine x8 (zH ?_);dsimp only;generalize Xy:s.heap.push {cls:=.type "list",dict:=none,data:=.seq ([]:List al).toArray}=H2;have hC:H2.objs.size=s.heap.objs.size+1:=by rw[<- Xy,C1]
 have L0:=O3 (h2:=H2) B I ();have Ti:(pushCells (H2.push {cls:=.type "dict",data:=.dict #[]}) scope.names).Ns H2.objs.size (λ _=>none):=(Heap.Ns.new H2 (.type "dict")).keeps (pushCells_keeps _ _);have Wu:∀b o,H2.get? b=some o->(pushCells (H2.push {cls:=.type "dict",data:=.dict #[]}) scope.names).get? b=some o:=λ b o e=>pushCells_keeps _ _ b o (i7 _ e);generalize pushCells (H2.push {cls:=.type "dict",data:=.dict #[]}) scope.names=h1 at L0 Ti Wu ⊢;have OC:s.heap.objs.size≠H2.objs.size:=()
 have JB:s.heap.objs.size<=H2.objs.size:=()
 have below:∀b,b<s.heap.objs.size->b≠H2.objs.size/\b≠s.heap.objs.size:=λ b hb=>⟨(),()⟩;have old:∀b o,s.heap.get? b=some o->h1.get? b=some o:=λ b o e=>Wu b o (Xy▸i7 _ e);have Xt:h1.PlainList s.heap.objs.size #[]:=⟨_,Wu _ _ (Xy▸l7 _ rfl)⟩;have Y9:tn 0 h1:=T.keep _ _ _ st λ b _ o e=>old b o e;have Wk:∀x c,(cellsFrom (H2.objs.size+1) scope.names (d_ X.env.cells scope.names [])).lookup x=some c->X.env.cells.lookup x=some c\/H2.objs.size<c:=λ x c e=>(L0.look x c e).imp id λ z=>z.1;generalize cellsFrom (H2.objs.size+1) scope.names (d_ X.env.cells scope.names [])=cl at L0 Wk ⊢;generalize hCd:H2.objs.size=C at*;generalize Tz:s.heap.objs.size=D at*;have hDs:∀b,b<D->b<s.heap.objs.size:=λ b hb=>by rw[Tz];exact hb
 have fD:=I.iH (b:=D) (H':=H) (D9 Tz) (I.bP.fresh (D9 Tz));have Kp:∀b,b≠X.env.locals->b∉X.fs->b∉Ac X.stack:=λ b h1 h2 hb=>(C7.mp (I.pL b hb)).elim h1 h2;have Xi:∀b∈fp,b∉Ac X.stack:=λ b hb=>Kp b (f b hb).2.1 (f b hb).2.2.1;have clt:∀x c,cl.lookup x=some c->c≠D:=λ x c e=>(Wk x c e).elim (fD.2.2.2.2.1 x c) λ z q=>bi (p8 JB (q▸z)) (C5 _);have loop:∀s3:am,s3={s with heap:=h1}->
   codeAny (model X.prog X.w) X.A (.compLoop (.ListComp elt [⟨tg,iter,ifs,0⟩] scope pos) 0 (.ref it) (.ref D) (compEnvC scope cl C X.env)) (R (.ref D) C) s3:=by
  rintro s3 rfl;have IY0:io (bj X scope cl bW fr C fp s H) [] (eY bW.length fr σ) H {s with heap:=h1}:=
   J9 B L0 I (by rw[Tz];exact JB) f (λ b hb=>hDs b (FE b hb)) rfl I.bare old Ti
  refine qS (λ n s'=>∃(i:Nat)(dL:List V)(av:List al)(H':Hp),io (bj X scope cl bW fr C fp s H) [] (eY bW.length fr σ) H' s'/\tn i s'.heap/\(∀b∈fp,H' b=none)/\H' D=none/\
   s'.heap.PlainList D av.toArray/\li dL av/\W i n dL H') ?_ m0 ⟨0,[],[],H,IY0,Y9,λ b hb=>(f b hb).1,fD.1,Xt,.nil,w0⟩
  rintro n s3 ⟨i,dL,av,H3,I3,Qt,TF,hD3,⟨nl,DV⟩,UP,w3⟩;obtain⟨hz,h⟩:=turn i n dL H3 w3;have Z5:io (bj X scope cl bW fr C fp s H) [(D,{cls:=.type "list",data:=.seq av.toArray nl})] (eY bW.length fr σ) H3 s3:=I3.cE λ p hp=>by
   have e:p=(D,{cls:=.type "list",data:=.seq av.toArray nl}):=by simpa using hp
   subst e;exact⟨DV,hD3,OC,Kp D fD.2.1 fD.2.2.1,λ v e=>by cases e⟩
  have fY:∀{H':Hp},(∀b∈fp,H' b=none)->∀b∈fp,gp (bj X scope cl bW fr C fp s H) [(D,{cls:=.type "list",data:=.seq av.toArray nl})] H' b:=λ hn b hb=>
   ⟨hn b hb,(below b (FE b hb)).1,Xi b hb,.inl hb,λ x c e=>(Wk x c e).elim ((f b hb).2.2.2.2.1 x c) λ z q=>bi (p9 (FE b hb) (D7 JB (G2 (q▸z)))) (C5 _),λ p hp=>by
    have e:p=(D,{cls:=.type "list",data:=.seq av.toArray nl}):=by simpa[bj]using hp
    subst e;exact J4 (below b (FE b hb)).2⟩
  rcases h with⟨stop,q⟩|⟨go,N,hN,step⟩
  ·refine cq (T.done (bj X scope cl bW fr C fp s H) rfl rfl rfl hc i _ s3 _ H3 _ Z5 (fY TF) Qt stop) λ r s4 ⟨hr,I4⟩=>?_;subst hr;have pD:=I4.pin (D,{cls:=.type "list",data:=.seq av.toArray nl}) (by simp);have IX:io X ce σ H3 s4:=I.Uk (ch:=fp) I4.os I4.base I4.bP I4.bare λ b hb=>⟨(f b hb).2.2.2.1,(f b hb).2.1,(f b hb).2.2.2.2.1,(f b hb).2.2.2.2.2⟩;obtain⟨m4,hn4,_⟩:=I4.loc;exact fin D C s4 H3 dL av (G3 _) JB OC IX I4.free pD.2.1 ⟨m4,hn4⟩ ⟨nl,pD.1⟩ UP hz q
  ·refine cq (T.item (bj X scope cl bW fr C fp s H) rfl rfl rfl hc i _ s3 _ H3 _ Z5 (fY TF) Qt go) λ r s4 ⟨u,hr,h4⟩=>?_;subst hr;refine cq h4 λ _ s5 ⟨x,H5,I5,r5,y5,GR,XD⟩=>?_;have Yh:=I5.pinned (fY XD) (T.obj _ _ GR);refine toF hE (hg _ _ _ _ _ _ s5 _ H5 x u _ Yh r5 (gk x _ H5 _ (step x H5 y5))) λ _ s6 ⟨σ6,H6,I6,q6,Wm,k6⟩=>?_;refine toF hE (ht _ _ _ _ _ _ s6 σ6 H6 _ I6 q6) λ ok s7 ⟨H7,I7,q7⟩=>?_;have wk:∀{H':Hp} {s':am} {pl:List (be×Obj)},io (bj X scope cl bW fr C fp s H) pl σ6 H' s'->io (bj X scope cl bW fr C fp s H) pl (eY bW.length fr σ) H' s':=λ J=>
    J.weak Wm.symm λ k v e=>by
     by_cases hk:bW.length<=k
     ·rw[k6 k hk];exact e
     ·unfold eY at e;rw[b9 (by simpa using hk),e9,J6 ()]at e;cases e
   cases ok with
   |false=>simp only[o8,J1]at q7 ⊢;obtain⟨m',hm,w7⟩:=hN _ _ q7;have pD:=I7.pin (D,{cls:=.type "list",data:=.seq av.toArray nl}) (by simp);refine⟨m',hm,i+1,dL,av,H7,wk (I7.cE (pins':=[]) λ p hp=>bi hp (by simp)),T.keep _ _ _ GR λ b hb o e=>(I7.pin (b,o) (j2 _ (j2 _ (dD hb e)))).1,λ b hb=>?_,pD.2.1,⟨nl,pD.1⟩,UP,w7⟩;obtain⟨o,e,d⟩:=T.obj _ _ GR b hb;exact(I7.pin (b,o) (j2 _ (j2 _ (dD hb e)))).2.1
   |true=>
    simp only[J5]at q7 ⊢;refine toF hE (he _ _ _ _ _ _ s7 σ6 H7 _ I7 q7) λ uy s8 ⟨y,H8,I8,r8,n8⟩=>?_;obtain⟨m',hm,w8⟩:=hN _ _ n8;have pD:=I8.pin (D,{cls:=.type "list",data:=.seq av.toArray nl}) (by simp);have hits:av.toArray.size<=sizeLine:=by have:=UP.length;simp only[y6];lia
    refine wpAny_list_append_plain (hsz:=hits) (show s8.heap.PlainList D av.toArray from⟨nl,pD.1⟩) λ h9 hl9 Zp=>?_;have I9:io (bj X scope cl bW fr C fp s H) [] σ6 H8 {s8 with heap:=h9,toks:=s8.toks}:=
     (I8.cE (pins':=[]) λ p hp=>bi hp (by simp)).turned (it:=D) (λ b o hb e=>Zp.extBut b o hb e) pD.2.1 OC (.inr (D9 Tz)) clt λ p hp=>bi hp (by simp[bj])
    refine⟨m',hm,i+1,dL++[y],av++[uy],H8,wk I9,T.keep _ _ _ GR λ b hb o e=>Zp.extBut b o (below b (FE b hb)).2 (I8.pin (b,o) (j2 _ (j2 _ (dD hb e)))).1,λ b hb=>?_,pD.2.1,?_,UP.append (.cons r8 .nil),w8⟩
    ·obtain⟨o,e,d⟩:=T.obj _ _ GR b hb;exact(I8.pin (b,o) (j2 _ (j2 _ (dD hb e)))).2.1
    ·have e:(av++[uy]).toArray=av.toArray.push uy:=by simp
     rw[e];exact hl9
 exact codeAny_compStart_list (loop _ rfl) (T.self _ 0 _ _ _ Y9 (loop _ rfl))
def jf(B:gB X scope fr)(hc:X.calm=true)(hE:∀e s,X.xe e s->False)(hi:PI X tg iter wi)(hg:∀cl C fp s H,PG (bj X scope cl bW fr C fp s H) tg g)(gk:iR bW.length g)(ht:∀cl C fp s H,PY (bj X scope cl bW fr C fp s H) ifs tt)(he:∀cl C fp s H,PE (bj X scope cl bW fr C fp s H) elt te)(hs:FN X iter:=by intro _;rfl):PE X (.ListComp elt [⟨tg,iter,ifs,0⟩] scope pos) (mh wi g tt te bW.length fr):=by intro ce s σ H Q I h;rw[eval_ListComp];have Xo:=fK (scope:=scope) (env:=X.env) λ n hn=>I.ok.has n (B.has n hn);refine wpAny_comprehension_free (use:=none) rfl hs Xo B.kind B.names (J0 (hi ce s σ H _ I h) (λ xv s1 h1=>J0 h1 (λ UX s2 h2=>?_) λ _ _ e=>e) λ _ _ e=>e);obtain⟨it,fp,tn,J,H2,rfl,I2,T,Qu,f2,W,⟨m0,w0⟩,turn⟩:=h2;refine oW (R:=λ dL C=>compPost (model X.prog X.w) X.A X.xe none (EP X ce σ Q) dL C) (Qe:=λ dL H=>∀p,H p=none->Q (.ref p) (lm H p (.lst dL))) B hc hE hg gk ht he I2 T Qu f2 W m0 w0 turn ?_;intro D C s1 H1 dL av hD hC OC I1 nC nD ⟨m,hn⟩ hl rv hz q;refine⟨m,hn,λ h' vM=>?_⟩;have fC:=I2.iH (b:=C) (H':=H1) hC nC;have fD:=I2.iH (b:=D) (H':=H1) hD nD;have I3:io X ce σ H1 {s1 with heap:=h',toks:=s1.toks}:=I1.turned (it:=C) (λ b o hb e=>vM.extBut b o hb e) nC fC.2.1 fC.2.2.2.1 fC.2.2.2.2.1 fC.2.2.2.2.2;obtain⟨k,e⟩:=hl.extBut vM.extBut OC;exact⟨.ref D,lm H1 D (.lst dL),I3.oq nD ⟨hz,av,k,rv,e⟩ fD.2.1 (D7 I2.sz hD) fD.2.2.2.2.1 fD.2.2.2.2.2,rfl,q D nD⟩
def vh{py Bt:Pos}(hN:X.N.Nodup)(Xd:X.N[i]?=some y)(hy:Loc X.env.scope y)(B:gB X scope fr)(hc:X.calm=true)(hE:∀e s,X.xe e s->False)(hi:PI X tg iter wi)(hg:∀cl C fp s H,PG (bj X scope cl bW fr C fp s H) tg g)(gk:iR bW.length g)(ht:∀cl C fp s H,PY (bj X scope cl bW fr C fp s H) ifs tt)(he:∀cl C fp s H,PE (bj X scope cl bW fr C fp s H) elt te)(WU:swapsWith (.ListComp elt [⟨tg,iter,ifs,0⟩] scope pos) (some (.Name y py)) Bt.line X.env=pure true:=by rfl)(hf:Lu X y:=by first|exact .inl rfl|exact .inr rfl|assumption)(hs:FN X iter:=by intro _;rfl):PS X (.Assign [.Name y py] (.ListComp elt [⟨tg,iter,ifs,0⟩] scope pos) Bt) (GQ (mh wi g tt te bW.length fr) (cB i)):=by
 intro ce s σ H D0 I h;rw[exec_Assign_Name_used _ _ _ _ WU];have Xo:=fK (scope:=scope) (env:=X.env) λ n hn=>I.ok.has n (B.has n hn);refine G8 (wpAny_standAt (G8 ?_));show wpAny _ X.A (do let _ <- comprehension (.ListComp elt [⟨tg,iter,ifs,0⟩] scope pos) scope X.env _ (newList []) false (eval iter X.env) (some (assign (.Name y py) X.env))) _ _ s;refine G8 (J0 (wpAny_comprehension_free (use:=some (assign (.Name y py) X.env)) (Q:=λ _ s'=>SP X ce D0 .next s') rfl hs Xo B.kind B.names
  (J0 (hi ce s σ H _ I h) (λ xv s1 h1=>J0 h1 (λ UX s2 h2=>?_) λ _ _ e=>e) λ _ _ e=>e)) (λ _ s' hq=>G9 (G9 hq)) λ _ _ e=>e)
 obtain⟨it,fp,tn,J,H2,rfl,I2,T,Qu,f2,W,⟨m0,w0⟩,turn⟩:=h2;refine oW (R:=λ dL C=>compPost (model X.prog X.w) X.A X.xe (some (assign (.Name y py) X.env)) (λ _ s'=>SP X ce D0 .next s') dL C) (Qe:=λ dL H=>∀p,H p=none->cB i (.ref p) σ (lm H p (.lst dL)) D0.nx) B hc hE hg gk ht he I2 T Qu f2 W m0 w0 turn ?_;intro D C s1 H1 dL av hD hC OC I1 nC nD ⟨m,hn⟩ hl rv hz q;have fC:=I2.iH (b:=C) (H':=H1) hC nC;have fD:=I2.iH (b:=D) (H':=H1) hD nD;obtain⟨k,e⟩:=hl;have I3:io X ce σ (lm H1 D (.lst dL)) s1:=I1.oq nD ⟨hz,av,k,rv,e⟩ fD.2.1 (D7 I2.sz hD) fD.2.2.2.2.1 fD.2.2.2.2.2;show wpAny _ X.A (assign (.Name y py) X.env (.ref D)) _ _ s1;refine wpAny_assign_Name (ou I3 hN Xd hy (show lc (.ref D) (.ref D)from rfl) (λ s2 J2 ⟨a,hsb,ha⟩=>?_) hf);have aC:C≠a:=by
  rcases ha with z|z
  ·rw[z];exact fC.2.1
  ·exact J4 (fC.2.2.2.2.1 _ _ z)
 refine⟨m,hn.sameBut hsb aC,λ h' vM=>?_⟩;have nC':(lm H1 D (.lst dL)) C=none:=by rw[aX (J4 OC)];exact nC
 have I4:io X ce (σ.set i (some (.ref D))) (lm H1 D (.lst dL)) {s2 with heap:=h',toks:=s2.toks}:=J2.turned (it:=C) (λ b o hb e=>vM.extBut b o hb e) nC' fC.2.1 fC.2.2.2.1 fC.2.2.2.2.1 fC.2.2.2.2.2;exact⟨_,_,I4,q D nD⟩
end
def fI(x:Str)(lo hi:Option Int):Str:=⟨((x.cps.toList.drop (HT.bY x.length 0 lo)).take (HT.bY x.length x.length hi-HT.bY x.length 0 lo)).toArray⟩
def yC(x:Str)(lo hi:Option Int):(fI x lo hi).length<=x.length:=by show((x.cps.toList.drop (HT.bY x.length 0 lo)).take (HT.bY x.length x.length hi-HT.bY x.length 0 lo)).toArray.size<=x.cps.size;rw[y6,A3,length_drop,l6];lia
def Bq(lo hi:Option Int)(n:Nat):Builtin.Str.strSliceIndices lo hi 1 n=sliceRange ((HT.bY n 0 lo:Nat):Int) ((HT.bY n n hi:Nat):Int) 1:=by obtain⟨h1,h2,h3⟩:=iX lo hi n;rw[<- h1,<- h2];rfl
set_option tactic.hygienic true in
def zf(x:Str)(lo hi:Option Int):Txt.slice x lo hi=fI x lo hi:=by
 have e:((Builtin.Str.strSliceIndices lo hi 1 x.length).filterMap (x.cps[·]?)).toArray=(fI x lo hi).cps:=by rw[Bq,sliceRange_one,pick_run];rfl
 unfold Txt.slice;split
 ·rename_i h;have hl:(Builtin.Str.strSliceIndices lo hi 1 x.length).length=x.length:=by simpa using h
  rw[Bq,sliceRange_one,B4,y3]at hl;have b1:=HT.uY x.length 0 (G5 _) lo;have b2:=HT.uY x.length x.length (G3 _) hi;have hlen:x.cps.toList.length=x.length:=by simp[Str.length]
  unfold fI;by_cases h0:x.length=0
  ·have:x.cps.toList=[]:=i4.mp ();rw[this];cases x with
   |mk c=>simp at this;subst this;simp
  ·have ea:HT.bY x.length 0 lo=0:=()
   have eb:HT.bY x.length x.length hi=x.length:=()
   rw[ea,eb,drop_zero,Nat.sub_zero,i5 ()]
 ·exact J3 Str.mk e
def V0:V->Option Int->Option Int->Hp->VK->Prop:=λ x lo hi H Q=>∃z,x=.str z/\z.length<=sizeLine/\Q (.str (fI z lo hi)) H
def vJ{h:Heap}{sl:be}{vl vu:al}{lo hi:Option Int}(hs:h.IsSliceOf sl vl vu .none)(pl:IsPart vl lo)(pu:IsPart vu hi):∃l u:Option (Int×Tok),h.IsSlice sl l u none/\l.map (·.1)=lo/\u.map (·.1)=hi:=by
 cases pl with
 |none=>
  cases pu with
  |none=>exact⟨none,none,hs,rfl,rfl⟩
  |int i t=>exact⟨none,some (i,t),hs,rfl,rfl⟩
 |int i t=>
  cases pu with
  |none=>exact⟨some (i,t),none,hs,rfl,rfl⟩
  |int j u=>exact⟨some (i,t),some (j,u),hs,rfl,rfl⟩
def L1:yO X V0:=by intro ce s σ H x v vl vu lo hi sl Q I rx hs pl pu h;obtain⟨z,rfl,hz,q⟩:=h;obtain⟨t,rfl⟩:=rx;obtain⟨l,u,Jq,rfl,rfl⟩:=vJ hs pl pu;refine⟨"str",_,PySem.F.slot_str_getitem.lookup,typeIs_str _ _ _,wpAny_getItem_str_slice (l:=l) (u:=u) (st:=none) Jq rfl ?_⟩;rw[<- zf]at q;exact post_val_or_str ⟨D7 (Txt.slice_le z _ _) hz,λ t' k=>⟨.str (Txt.slice z (l.map (·.1)) (u.map (·.1))),H,I.tok k,⟨_,rfl⟩,q⟩⟩
def zx:eN X (compareOp .LtE) (λ x y H Q=>∃i j,x=.str i/\y=.str j/\Q (.bl (!decide (j.cps.toList<i.cps.toList))) H):=by intro ce s σ H x y v u Q I rx ry h;obtain⟨i,j,rfl,rfl,q⟩:=h;obtain⟨t,rfl⟩:=rx;obtain⟨t',rfl⟩:=ry;exact PySem.P.le_str ⟨.bl (!decide (j.cps.toList<i.cps.toList)),H,I,rfl,q⟩
def uT:∀{us:List al},li (ys.map V.str) us->StrsAre us ys:=by
 induction ys with
 |nil=>intro us r;rw[map_nil]at r;cases r;exact .nil
 |cons n ns ih=>
  intro us r;rw[C6]at r;cases r with
  |cons r1 r2=>obtain⟨t,e⟩:=r1;subst e;exact .cons n t (ih r2)
def rJoin(K:J8):V->List V->Hp->VK->Prop:=λ x vs H Q=>∃(z:Str)(p:be)(ys:List Str),x=.str z/\vs=[.ref p]/\dv K H p (ys.map V.str)/\(ys.map (·.length)).sum+ys.length*z.length<=16777216/\Q (.str (Txt.join z ys)) H
def IT:Ux X "str.join" (rJoin X.K):=by intro ce s σ H x xs v us Q I rx r h;obtain⟨z,p,ys,rfl,rfl,hq,hz,q⟩:=h;obtain⟨t,rfl⟩:=rx;obtain⟨u,rfl,r1⟩:=li.one r;cases r1;obtain⟨av,rv,pl,_⟩:=I.list hq;exact join_list pl.isList (by simpa using uT rv) hz λ t' k=>⟨.str (Txt.join z ys),H,I.tok k,⟨_,rfl⟩,q⟩
def Rz:R2:=λ x y H Q=>∃z n,x=.str z/\y=.int n/\MulOk z n/\Q (.str (Txt.mul z n)) H
def vn:eN X (binaryOp .Mult) Rz:=by intro ce s σ H x y v u Q I rx ry h;obtain⟨z,n,rfl,rfl,bP,q⟩:=h;obtain⟨t,rfl⟩:=rx;obtain⟨t',rfl⟩:=ry;exact SB.mul bP λ t' k=>⟨.str (Txt.mul z n),H,I.tok k,⟨_,rfl⟩,q⟩
def uh(hc:X.calm=true):cI X (.builtin "all") (λ xs H Q=>∃(p:be)(bs:List Bool),xs=[.ref p]/\dv X.K H p (bs.map V.bl)/\Q (.bl (bs.all id)) H):=by
 intro ce s σ H xs us Q I r h;obtain⟨p,bs,rfl,hq,q⟩:=h;obtain⟨u,rfl,r1⟩:=vals1 r;cases r1;obtain⟨av,rv,pl,hz⟩:=I.list hq;refine call_all_walk (y2 pl.isList ?_);have fg:p≠s.heap.objs.size:=by obtain⟨o,n,e,_⟩:=pl;exact D3 (D4 e)
 have hlen:av.length=bs.length:=by rw[<- rv.length,B4]
 refine⟨s.heap.objs.size,_,_,_,_,_,λ i=>(bs[i]?).getD false,rfl,Walks.list (A:=X.A.in1) (show X.A.in1.handled=none from I.ok.hd hc) s.heap.objs.size p fg av.toArray,⟨⟨_,l7 _ rfl,rfl,rfl⟩,pl.isList.at λ o e=>i7 _ e⟩,?_,λ h' tk hk=>?_⟩
 ·intro i v s' Q' E' hP hQ;have Ed:av[i]?=some v:=by simpa using hP
  have hi:i<bs.length:=by rw[<- hlen];exact(c5.mp Ed).1
  have hb:(bs.map V.bl)[i]?=some (V.bl bs[i]):=by simp[hi]
  obtain⟨u,hu,ru⟩:=rv.get hb;rw[Ed]at hu;cases hu;have e:v=Value.bool bs[i]:=ru;subst e;have:(bs[i]?).getD false=bs[i]:=by simp[hi]
  dsimp only at hQ;rw[this]at hQ;exact y1 hQ
 ·refine⟨.bl (bs.all id),H,I.kept (t':=tk) λ b o e=>hk b o (by simpa using D3 (D4 e)) (i7 _ e),?_,q⟩;show Value.bool _=Value.bool _;congr 1;rw[y6,hlen];rw[A4];simp only[List.all_eq_true,bv,id];constructor
  ·intro h b hb;obtain⟨i,hi,rfl⟩:=mem_iff_getElem.mp hb;have:=h i hi;simpa[hi]using this
  ·intro h i hi;simpa[hi]using h bs[i] (getElem_mem hi)
def P0(x:Str):It:=⟨λ i _=>i<x.cps.size,λ i H v H'=>H'=H/\∃c,x.cps[i]?=some c/\v=.str ⟨#[c]⟩,λ i _=>i=x.cps.size⟩
def rK(it:be)(x:Str)(t:Tok)(ty:String)(Of:["enumerate","zip","dict_itemiterator","dict_reverseitemiterator","odict_iterator","itertools.zip_longest","itertools.pairwise"].contains ty=false)(W:∀A':Around,A'.handled=none->Walks P w A' it [it] [it] x.cps.size (SignAt x) (λ i h=>h.IsStrIter it ty x t i))(self:∀(A:Around)(i:Nat)(s:am)(Q:al->am->Prop)(E:al->am->Prop),s.heap.IsStrIter it ty x t i->Q (.ref it) s->wpAny (model P w) A (pyIter (.ref it)) Q E s):Turn P w K tg (P0 x) [it] it (λ i h=>h.IsStrIter it ty x t i) where
 mem:=by simp
 obj:=λ i h st b hb=>by
  have e:b=it:=by simpa using hb
  subst e;obtain⟨o,e,c,d⟩:=st;exact⟨o,e,λ v z=>by rw[d]at z;cases z⟩
 keep:=λ i h h' st k=>by obtain⟨o,e,c,d⟩:=st;exact⟨o,k it (by simp) o e,c,d⟩
 item:=by intro X hP hw hK hc i ce s σ H E I hf st hg;subst hP hw hK;obtain⟨f0,f1,f2,f3,f4,f5⟩:=hf it (by simp);refine(W X.A (I.ok.hd hc)).item i s _ _ hg st λ v h' tk hv uD kk=>?_;obtain⟨c,u,hx,rfl⟩:=hv;have I1:io X ce σ H {s with heap:=h',toks:=tk}:=I.turned (λ b o hb e=>kk b o (by simpa using hb) e) f0 f1 f3 f4 f5;obtain⟨o,e,cc,d⟩:=id uD;exact⟨_,rfl,yj (s:={s with heap:=h',toks:=tk}) e cc d Of ⟨.str ⟨#[c]⟩,H,I1,⟨u,rfl⟩,⟨rfl,c,hx,rfl⟩,uD,λ b hb=>(hf b hb).1⟩⟩
 done:=by intro X hP hw hK hc i ce s σ H E I hf st hg;subst hP hw hK;obtain⟨f0,f1,f2,f3,f4,f5⟩:=hf it (by simp);have hg:i=x.cps.size:=hg;subst hg;exact(W X.A (I.ok.hd hc)).done s _ _ st λ h' tk kk=>⟨rfl,I.turned (λ b o hb e=>kk b o (by simpa using hb) e) f0 f1 f3 f4 f5⟩
 self:=self
def wN.imp{r r':R2}(h:wN X r)(k:∀x y H Q,r' x y H Q->r x y H Q):wN X r':=λ value slice ce s σ H x y v u Q I rx ry q=>h value slice ce s σ H x y v u Q I rx ry (k x y H Q q)
def yO.imp{r r':V->Option Int->Option Int->Hp->VK->Prop}(h:yO X r)(k:∀x lo hi H Q,r' x lo hi H Q->r x lo hi H Q):yO X r':=
 λ ce s σ H x v vl vu lo hi sl Q I rx hs pl pu q=>h ce s σ H x v vl vu lo hi sl Q I rx hs pl pu (k x lo hi H Q q)
def aIx(K:J8):R2:=λ x y H Q=>match x,y with
 | .ref p,.int i=>∃xs v,(dv K H p xs\/fj K H p xs)/\fi xs i=some v/\Q v H
 | .str z,.int i=>z.length<=sizeLine/\∃c,fi z.cps.toList i=some c/\Q (.str ⟨#[c]⟩) H
 |_,_=>False
def aS:wN X (aIx X.K):=N_.imp λ x y H Q q=>by
 cases x<;>cases y<;>first
  |exact False.elim q
  |(obtain⟨xs,v,h|h,e,q⟩:=q
    ·exact .inl ⟨_,xs,_,v,rfl,rfl,h,e,q⟩
    ·exact .inr (.inl ⟨_,xs,_,v,rfl,rfl,h,e,q⟩))
  |(obtain⟨hz,c,e,q⟩:=q
    exact .inr (.inr ⟨_,_,c,rfl,rfl,hz,e,q⟩))
def aSl(K:J8):V->Option Int->Option Int->Hp->VK->Prop:=λ x lo hi H Q=>match x with
 | .str z=>z.length<=sizeLine/\Q (.str (fI z lo hi)) H
 | .ref a=>Rx K (.ref a) lo hi H Q\/Rw K (.ref a) lo hi H Q
 |_=>False
def pO:yO X (aSl X.K):=(L1.or (GX.or LZ)).imp λ x lo hi H Q q=>by cases x<;>first|exact False.elim q|exact .inl ⟨_,rfl,q⟩|exact .inr q
structure iu(P:Program)(w:World)(K:J8)(mg:Str->Option al)(base:Heap)(k:Nat)(x:Str)(ps:List Str)(sp:Sp):Prop where
 ex:∃(f:be)(fd:FuncData),bg P w K mg base cM k f fd ps sp/\mg x=some (.ref f)/\PySem.W.keepIn K (.ref f)=true/\Binds K fd ps []
def iu.of{x:Str}{sp:Sp}(F:dh K x qual st f fd)(G:bg P w K mg base cM k f fd ps sp)(hm:mg x=some (.ref f))(b:Binds K fd ps []):iu P w K mg base k x ps sp:=⟨f,fd,G,hm,F.kp,b⟩
def tD(sp:Sp)(t:TA):TE:=λ σ H Q=>t σ H λ vs H1=>sp vs H1 Q E0
section
variable {x:Str}{p:Pos}{t:TA}{j:Nat}{sp:Sp}
def Na(d:iu X.prog X.w X.K X.mg X.base k x ps sp)(hr:cR k X.A)(hg:Gl X x)(ha:PA X (e::es) t)(tf:nV x:=by decide)(he:ux X e es:=by rfl)(gS:Kg X pos es:=by rfl):PE X (.Call (.Name x p) (e::es) [] pos) (tD sp t):=by
 obtain⟨f,fd,G,hm,kp,b⟩:=d.ex;intro ce s σ H Q I h;have h':Kn sp [] E0 t σ H Q:=by
  show t σ H λ vs H1=>sp (vs++[]) H1 Q E0;have e:(λ(vs:List V) (H1:Hp)=>sp (vs++[]) H1 Q E0)=λ vs H1=>sp vs H1 Q E0:=by funext vs H1;rw[A5]
  rw[e];exact h
 exact Ij (E:=E0) G hr hg hm kp b .nil RQ ha tf he gS ce s σ H Q I h'
end
def ui(X:Cx)(scope:Scope)(fr:List Nat):Bool:=
 (scope.kind==.function)&&(scope.names.all λ y=>(y.2 != .cell||scope.names.lookup y.1==some .cell)&&(y.2 != .local||scope.names.lookup y.1==some .local)&&(y.2 != .free||X.env.kindOf y.1==some .cell||X.env.kindOf y.1==some .free))&&
 (fr.all λ j=>decide (j<X.N.length)&&scope.names.lookup (X.N.getD j "")==some .free)
def wH(h:ui X scope fr=true):gB X scope fr:=by
 unfold ui at h;rw[A2,A2]at h;obtain⟨⟨h1,h2⟩,h3⟩:=h;rw[List.all_eq_true]at h2 h3;refine⟨by simpa using h1,λ y hy hl=>?_,λ y hy hl=>?_,λ n hn=>?_,λ j hj=>?_⟩
 ·have:=h2 y hy;simp only[A2]at this;have:=this.1.1;rw[hl]at this;simpa using this
 ·have:=h2 y hy;simp only[A2]at this;have:=this.1.2;rw[hl]at this;simpa using this
 ·have:=h2 _ hn;simp only[A2]at this;have:=this.2;simpa using this
 ·have:=h3 j hj;rw[A2]at this;exact⟨by simpa using this.1,by simpa using this.2⟩
def WB(K:J8)(tl:TE):TI:=λ σ H R=>tl σ H λ x H1=>match x with
 | .str z=>R (P0 z) H1
 | .ref a=>(∃xs,dv K H1 a xs/\R (Vq K a) H1)\/(∃xs,fj K H1 a xs/\R (Yf K a) H1)
 |_=>False
def MR{l:Expr}{tl:TE}(hl:PE X l tl):PI X tg l (WB X.K tl):=by
 intro ce s σ H R I h;have rC:PE X l (λ σ' H' Q=>Q=Q/\tl σ' H' Q):=λ ce s σ H Q I q=>hl ce s σ H Q I q.2;refine cq (hl ce s σ H _ I h) λ v s1 ⟨x,H1,I1,r1,q1⟩=>?_;have fp:∀b∈[s1.heap.objs.size],gp X ce H1 b:=λ b hb=>by
  have e:b=s1.heap.objs.size:=by simpa using hb
  subst e;exact I1.iH (G3 _) (I1.bP.fresh (G3 _))
 cases x with
 |str z=>
  have q:R (P0 z) H1:=q1;obtain⟨t,rfl⟩:=r1;cases ha:z.cps.all (·<128)
  ·exact wpAny_pyIter_wide ha ⟨s1.heap.objs.size,[s1.heap.objs.size],_,P0 z,H1,rfl,I1.kept (t':=s1.toks) λ b o e=>i7 _ e,rK _ z t "str_iterator" (by decide) (λ A' hA=>Walks.strWide hA _ z t) (λ _ _ _ _ _ st h=>wpAny_pyIter_striter_wide st h),⟨_,l7 _ rfl,rfl,rfl⟩,fp,q⟩
  ·exact wpAny_pyIter_ascii ha ⟨s1.heap.objs.size,[s1.heap.objs.size],_,P0 z,H1,rfl,I1.kept (t':=s1.toks) λ b o e=>i7 _ e,rK _ z t "str_ascii_iterator" (by decide) (λ A' hA=>Walks.strAscii hA _ z t) (λ _ _ _ _ _ st h=>wpAny_pyIter_striter_ascii st h),⟨_,l7 _ rfl,rfl,rfl⟩,fp,q⟩
 |ref a=>
  cases(show v=Value.ref a from r1);rcases q1 with⟨xs,hq,q⟩|⟨xs,hq,q⟩
  ·obtain⟨av,rv,p,hz⟩:=I1.list hq;exact y2 p.isList ⟨s1.heap.objs.size,[s1.heap.objs.size],_,_,H1,rfl,I1.kept (t':=s1.toks) λ b o e=>i7 _ e,yY a _,⟨_,l7 _ rfl,rfl,rfl⟩,fp,q⟩
  ·obtain⟨av,rv,p,hz⟩:=I1.tuple hq;exact wpAny_pyIter_tuple (show s1.heap.IsTuple a av.toArray from p) ⟨s1.heap.objs.size,[s1.heap.objs.size],_,_,H1,rfl,I1.kept (t':=s1.toks) λ b o e=>i7 _ e,uQ a _,⟨_,l7 _ rfl,rfl,rfl⟩,fp,q⟩
 |_=>exact False.elim q1
inductive IK where
 |i (n:Int)
 |t (ks:List IK)
noncomputable instance:DecidableEq IK:=λ a b=>Classical.propDecidable (a=b)
mutual
def IK.dep:IK->Nat
 | .i _=>0
 | .t ks=>IK.jy ks+1
def IK.jy:List IK->Nat
 |[]=>0
 |k::ks=>max k.dep (IK.jy ks)
end
mutual
def DP:IK->Int
 | .i n=>hashInt n
 | .t ks=>reduceHash (Builtin.Tuple.tupleHashOf (qB ks))
def qB:List IK->List Int
 |[]=>[]
 |k::ks=>DP k::qB ks
end
mutual
def AM:IK->Nat
 | .i _=>1
 | .t ks=>gR ks+1
def gR:List IK->Nat
 |[]=>0
 |k::ks=>AM k+gR ks
end
def b2i(b:Bool):Int:=if b then 1 else 0
mutual
def dk(h:Heap):IK->al->Prop
 | .i n,v=>(∃t,v=.int n t)\/∃b:Bool,v=.bool b/\n=b2i b
 | .t ks,v=>∃(a:be)(o:Obj)(av:List al)(n:Nat),v=.ref a/\h.get? a=some o/\o.cls=.type "tuple"/\o.data=.seq av.toArray n/\cu h ks av
def cu(h:Heap):List IK->List al->Prop
 |[],vs=>vs=[]
 |k::ks,vs=>∃v r,vs=v::r/\dk h k v/\cu h ks r
end
mutual
def uG:IK->PyData->Prop
 | .i n,d=>d=.int n\/∃b:Bool,d=.bool b/\n=b2i b
 | .t ks,d=>∃ds,d=.tuple ds/\gQ ks ds
def gQ:List IK->List PyData->Prop
 |[],ds=>ds=[]
 |k::ks,ds=>∃d r,ds=d::r/\uG k d/\gQ ks r
end
theorem sW:∀ks:List IK,qB ks=ks.map DP
 |[]=>by unfold qB;rfl
 |k::ks=>by unfold qB;rw[sW ks];rfl
theorem sV:∀(ks ls:List IK),gR (ks++ls)=gR ks+gR ls
 |[],ls=>by rw[nil_append];unfold gR;split<;>lia
 |k::ks,ls=>by rw[cons_append];have:=sV ks ls;show AM k+gR (ks++ls)=AM k+gR ks+gR ls;lia
def DN(k:IK):gR [k]=AM k:=by show AM k+gR []=AM k;unfold gR;lia
def DO:gR []=0:=by unfold gR;rfl
theorem jw:∀{ks:List IK} {k:IK},k∈ks->k.dep<=IK.jy ks
 |k0::ks,k,h=>by
  show k.dep<=max k0.dep (IK.jy ks);rcases C7.mp h with rfl|h
  ·exact Nat.le_max_left _ _
  ·exact D7 (jw h) (Nat.le_max_right _ _)
def oM{Q:Int->am->Prop}(h:Q (hashInt (b2i b)) {s with toks:=s.toks+1}):wpAny (model prog w) A (pyHash (.bool b)) Q E s:=by have hT:s.TypeIs (.bool b) "bool":=rfl;have hr:=rawHash_range (b2i b);unfold pyHash;have hv:[Value.bool b].any Value.onHeap=false:=rfl;refine G8 ?_;rw[cRoomFor,J7 (by rw[hv];exact n0)];refine G9 ?_;refine G8 (B8 hT F.slot_bool_hash.lookup ?_);show wpAny _ _ (if(some (Value.builtin "int.__hash__")==some Value.none)=true then _ else _) Q E s;rw[J7 (by rw[beq_builtin_none];exact n0)];refine G8 (B8 hT F.slot_bool_hash.lookup ?_);show wpAny _ _ (callSpecialIfBoundUnlessNone? (.bool b) "__hash__" _>>=_) Q E s;refine G8 (wpAny_callSpecialIfBoundUnlessNone?_slot hT F.slot_bool_hash (A0 F.slot_bool_hash hT entry_int_hash (show wpAny _ _ (do ret (<- mkInt (rawHash (b2i b)))) _ _ s from wpAny_ret_mkInt ?_) (args_int_hash _)));show wpAny _ _ (if(decide (-(2:Int)^63<=rawHash (b2i b))&&decide (rawHash (b2i b)<2^63))=true then _ else _) Q E _;rw[J6 (by rw[B9 hr.1,B9 hr.2];rfl)];exact G9 h
def Jn:∀(n:Nat)(k:IK),k.dep<=n->∀{A:Around} {E:al->am->Prop} {s:am} {v:al} {Q:Int->am->Prop},A.units+k.dep<cLine->dk s.heap k v->Q (DP k) {s with toks:=s.toks+AM k}->wpAny (model prog w) A (pyHash v) Q E s:=by
 intro n
 induction n with
 |zero=>
  intro k hk A E s v Q hu hi h;cases k with
  |i m=>
   unfold dk at hi;unfold DP AM at h;rcases hi with⟨t,rfl⟩|⟨b,rfl,rfl⟩
   ·exact wpAny_pyHash_int h
   ·exact oM h
  |t ks=>unfold IK.dep at hk;lia
 |succ n ih=>
  intro k hk A E s v Q hu hi h;cases k with
  |i m=>
   unfold dk at hi;unfold DP AM at h;rcases hi with⟨t,rfl⟩|⟨b,rfl,rfl⟩
   ·exact wpAny_pyHash_int h
   ·exact oM h
  |t ks=>
   unfold dk at hi;obtain⟨a,o,av,m,rfl,ho,hc,hd,hits⟩:=hi;have mS:IK.jy ks<=n:=by unfold IK.dep at hk;lia
   have U2:A.units+(IK.jy ks+1)<cLine:=by unfold IK.dep at hu;exact hu
   have hT:s.TypeIs (.ref a) "tuple":=⟨o,ho,hc⟩;unfold pyHash;(first|unfold pyHashByItsType|skip);(first|refine G8 (wpAny_cRoomFor_or (.inr (show A.units<cLine by lia)) ?_)|skip);refine G8 (B8 hT F.slot_tuple_hash.lookup ?_);show wpAny _ _ (if(some (Value.builtin "tuple.__hash__")==some Value.none)=true then _ else _) Q E s;rw[J7 (by rw[beq_builtin_none];exact n0)];refine G8 (B8 hT F.slot_tuple_hash.lookup ?_);show wpAny _ _ (callSpecialIfBoundUnlessNone? (.ref a) "__hash__" _>>=_) Q E s;refine G8 (wpAny_callSpecialIfBoundUnlessNone?_slot hT F.slot_tuple_hash (A0 F.slot_tuple_hash hT F.entry_tuple_hash ?_ (F.args_tuple_hash_1 _)));show wpAny _ _ (Builtin.Tuple.tupleItemsOf (.ref a)>>=_) _ _ s;refine G8 (wpAny_tupleItemsOf ho hd (G8 ?_));rw[<- u9];refine wpAny_forIn_list _ (λ rest (b:Array Int) s'=>∃done left,ks=done++left/\cu s.heap left rest/\b.toList=done.map DP/\s'={s with toks:=s.toks+gR done}) _ ?_ ?_ _ _ ⟨[],ks,rfl,hits,rfl,by rw[DO];rfl⟩
   ·rintro x rest b s' ⟨done,left,rfl,hl,hb,rfl⟩;cases left with
    |nil=>unfold cu at hl;cases hl
    |cons k1 left=>
     unfold cu at hl;obtain⟨v,r,e,h1,h2⟩:=hl;cases e;have hm:=jw (ks:=done++k1::left) (k:=k1) (by simp);refine G8 (ih k1 () (A:=A.in1) (show A.units+1+_<cLine by lia) h1 ?_);have fin:∃d2 l2,done++k1::left=d2++l2/\cu s.heap l2 rest/\(b.push (DP k1)).toList=d2.map DP/\({s with toks:=s.toks+gR done+AM k1}:am)={s with toks:=s.toks+gR d2}:=
      ⟨done++[k1],left,by simp,h2,by simp[hb],by rw[sV,DN,Nat.add_assoc]⟩
     first|exact G9 fin|exact G8 (G9 (G9 fin))
   ·rintro b s' ⟨done,left,rfl,hl,hb,rfl⟩;cases left with
    |cons k1 left=>unfold cu at hl;obtain⟨v,r,e,_⟩:=hl;cases e
    |nil=>
     rw[A5]at h;show wpAny _ _ (retInt (Builtin.Tuple.tupleHashOf b.toList)) _ _ _;rw[hb,<- sW];refine wpAny_ret_mkInt ?_;show wpAny _ _ (if(decide (-(2:Int)^63<=Builtin.Tuple.tupleHashOf (qB done))&&decide (Builtin.Tuple.tupleHashOf (qB done)<2^63))=true then _ else _) Q E _;unfold DP AM reduceHash at h;by_cases hr:(decide (-(2:Int)^63<=Builtin.Tuple.tupleHashOf (qB done))&&decide (Builtin.Tuple.tupleHashOf (qB done)<2^63))=true
     ·rw[J6 hr]at h ⊢;exact G9 (by simpa[Nat.add_assoc]using h)
     ·rw[J7 hr]at h ⊢;exact G8 (H0 (G9 (by simpa[Nat.add_assoc]using h)))
mutual
theorem mO{h:Heap}:∀(k:IK){v:al},dk h k v->∃d as,uG k d/\Reads h v d as
 | .i n,v,x=>by
  unfold dk at x;unfold uG;rcases x with⟨t,rfl⟩|⟨b,rfl,rfl⟩
  ·exact⟨_,_,.inl rfl,Reads.int n t⟩
  ·exact⟨_,_,.inr ⟨b,rfl,rfl⟩,Reads.bool b⟩
 | .t ks,v,x=>by unfold dk at x;obtain⟨a,o,av,n,rfl,ho,hc,hd,q⟩:=x;obtain⟨ds,as,p,r⟩:=oJ ks q;unfold uG;exact⟨_,_,⟨ds,rfl,p⟩,reads_tuple_at ho hc hd (by simpa using r)⟩
theorem oJ{h:Heap}:∀(ks:List IK){vs:List al},cu h ks vs->∃ds as,gQ ks ds/\ReadsAll h vs ds as
 |[],vs,x=>by unfold cu at x;subst x;unfold gQ;exact⟨_,_,rfl,ReadsAll.nil⟩
 |k::ks,vs,x=>by unfold cu at x;obtain⟨v,r,rfl,h1,h2⟩:=x;obtain⟨d,as,p,a⟩:=mO k h1;obtain⟨ds,bs,q,b⟩:=oJ ks h2;unfold gQ;exact⟨_,_,⟨d,ds,rfl,p,q⟩,ReadsAll.cons a b⟩
end
mutual
theorem vK:∀(k:IK){d:PyData},uG k d->d.canLay0=true
 | .i n,d,x=>by unfold uG at x;rcases x with rfl|⟨b,rfl,_⟩<;>simp[PyData.canLay0]
 | .t ks,d,x=>by unfold uG at x;obtain⟨ds,rfl,q⟩:=x;simp only[PyData.canLay0];exact yc ks q
theorem yc:∀(ks:List IK){ds:List PyData},gQ ks ds->PyData.canLayAll0 ds=true
 |[],ds,x=>by unfold gQ at x;subst x;simp[PyData.canLayAll0]
 |k::ks,ds,x=>by unfold gQ at x;obtain⟨d,r,rfl,p,q⟩:=x;simp only[PyData.canLayAll0];rw[vK k p,yc ks q];rfl
end
mutual
theorem vL:∀(k:IK){d:PyData},uG k d->d.depth=k.dep
 | .i n,d,x=>by unfold uG at x;unfold IK.dep;rcases x with rfl|⟨b,rfl,_⟩<;>simp[PyData.depth]
 | .t ks,d,x=>by unfold uG at x;obtain⟨ds,rfl,q⟩:=x;unfold IK.dep;simp only[PyData.depth];rw[ye ks q]
theorem ye:∀(ks:List IK){ds:List PyData},gQ ks ds->PyData.depthAll ds=IK.jy ks
 |[],ds,x=>by unfold gQ at x;subst x;unfold IK.jy;simp[PyData.depthAll]
 |k::ks,ds,x=>by unfold gQ at x;obtain⟨d,r,rfl,p,q⟩:=x;unfold IK.jy;simp only[PyData.depthAll];rw[vL k p,ye ks q]
end
def Jb{n m:Int}{d e:PyData}(x:d=.int n\/∃b:Bool,d=.bool b/\n=b2i b)(y:e=.int m\/∃b:Bool,e=.bool b/\m=b2i b):PyData.eqv d e=true↔n=m:=by
 rcases x with rfl|⟨b,rfl,rfl⟩<;>rcases y with rfl|⟨c,rfl,rfl⟩
 ·simp[PyData.eqv]
 ·simp[PyData.eqv,b2i]
 ·simp[PyData.eqv,b2i]
 ·cases b<;>cases c<;>simp[PyData.eqv,b2i]
mutual
theorem KZ:∀(a b:IK){d e:PyData},uG a d->uG b e->(PyData.eqv d e=true↔a=b)
 | .i n,.i m,d,e,x,y=>by unfold uG at x y;rw[Jb x y];simp
 | .i n,.t ks,d,e,x,y=>by unfold uG at x y;obtain⟨ds,rfl,_⟩:=y;rcases x with rfl|⟨b,rfl,_⟩<;>simp[PyData.eqv]
 | .t ks,.i n,d,e,x,y=>by unfold uG at x y;obtain⟨ds,rfl,_⟩:=x;rcases y with rfl|⟨b,rfl,_⟩<;>simp[PyData.eqv]
 | .t ks,.t ls,d,e,x,y=>by unfold uG at x y;obtain⟨ds,rfl,p⟩:=x;obtain⟨es,rfl,q⟩:=y;simp only[PyData.eqv,IK.t.injEq];exact DH ks ls p q
theorem DH:∀(as bs:List IK){ds es:List PyData},gQ as ds->gQ bs es->(PyData.eqvAll ds es=true↔as=bs)
 |[],[],ds,es,x,y=>by unfold gQ at x y;subst x;subst y;simp[PyData.eqvAll]
 |[],b::bs,ds,es,x,y=>by unfold gQ at x y;obtain⟨d,r,rfl,_⟩:=y;subst x;simp[PyData.eqvAll]
 |a::as,[],ds,es,x,y=>by unfold gQ at x y;obtain⟨d,r,rfl,_⟩:=x;subst y;simp[PyData.eqvAll]
 |a::as,b::bs,ds,es,x,y=>by unfold gQ at x y;obtain⟨d,r,rfl,p1,p2⟩:=x;obtain⟨e,r2,rfl,q1,q2⟩:=y;simp only[PyData.eqvAll,A2,List.cons.injEq];rw[KZ a b p1 q1,DH as bs p2 q2]
end
mutual
theorem DL{h:Heap}:∀(x y:IK){v:al},dk h x v->dk h y v->x=y
 | .i n,.i m,v,a,b=>by
  unfold dk at a b;rcases a with⟨t,rfl⟩|⟨c,rfl,rfl⟩<;>rcases b with⟨u,e⟩|⟨d,e,f⟩<;>cases e
  ·rfl
  ·rw[f]
 | .i n,.t ks,v,a,b=>by unfold dk at a b;obtain⟨_,_,_,_,e,_⟩:=b;rcases a with⟨t,rfl⟩|⟨c,rfl,rfl⟩<;>cases e
 | .t ks,.i n,v,a,b=>by unfold dk at a b;obtain⟨_,_,_,_,e,_⟩:=a;rcases b with⟨t,rfl⟩|⟨c,rfl,rfl⟩<;>cases e
 | .t ks,.t ls,v,a,b=>by unfold dk at a b;obtain⟨a1,o1,i1,n1,rfl,g1,_,d1,q1⟩:=a;obtain⟨a2,o2,i2,n2,e,g2,_,d2,q2⟩:=b;cases e;rw[g1]at g2;cases g2;rw[d1]at d2;cases d2;rw[yf ks ls q1 q2]
theorem yf{h:Heap}:∀(xs ys:List IK){vs:List al},cu h xs vs->cu h ys vs->xs=ys
 |[],[],vs,_,_=>rfl
 |[],y::ys,vs,a,b=>by unfold cu at a b;subst a;obtain⟨_,_,e,_⟩:=b;cases e
 |x::xs,[],vs,a,b=>by unfold cu at a b;subst b;obtain⟨_,_,e,_⟩:=a;cases e
 |x::xs,y::ys,vs,a,b=>by unfold cu at a b;obtain⟨v,r,rfl,a1,a2⟩:=a;obtain⟨v2,r2,e,b1,b2⟩:=b;cases e;rw[DL x y a1 b1,yf xs ys a2 b2]
end
def Oc{h:Heap}{k:IK}{v:al}(x:dk h k v){d:be}{es:Array DictEntry}(ho:h.get? d=some o)(hd:o.data=.dict es ep)(hs:Heap.SameBut d h h'):dk h' k v:=by
 have gen:∀(n:Nat)(k:IK),k.dep<=n->∀v,dk h k v->dk h' k v:=by
  intro n
  induction n with
  |zero=>
   intro k hk v x;cases k with
   |i m=>unfold dk at x ⊢;exact x
   |t ks=>unfold IK.dep at hk;lia
  |succ n ih=>
   intro k hk v x;cases k with
   |i m=>unfold dk at x ⊢;exact x
   |t ks=>
    unfold dk at x ⊢;obtain⟨a,o',av,m,e,kL,hc,ie,r⟩:=x;have fg:a≠d:=λ z=>by subst z;rw[ho]at kL;cases kL;rw[hd]at ie;cases ie
    refine⟨a,o',av,m,e,(hs.2 a fg).trans kL,hc,ie,?_⟩;have mS:IK.jy ks<=n:=by unfold IK.dep at hk;lia
    have all:∀(ls:List IK)(vs:List al),(∀l∈ls,l.dep<=n)->cu h ls vs->cu h' ls vs:=by
     intro ls
     induction ls with
     |nil=>intro vs _ y;unfold cu at y ⊢;exact y
     |cons l ls ihl=>intro vs hl y;unfold cu at y ⊢;obtain⟨v,r,e,h1,h2⟩:=y;exact⟨v,r,e,ih l (hl l (l9 ..)) v h1,ihl r (λ z hz=>hl z (j9 _ hz)) h2⟩
    exact all ks av (λ l hl=>D7 (jw hl) mS) r
 exact gen k.dep k (G3 _) v x
def DK:∀(n:Nat)(k:IK),k.dep<=n->∀{A:Around} {E:al->am->Prop} {s:am} {v:al} {Q:Bool->am->Prop},dk s.heap k v->Q true s->wpAny (model prog w) A (eqIsQuiet n v) Q E s:=by
 intro n
 induction n with
 |zero=>
  intro k hk A E s v Q hi h;cases k with
  |i m=>unfold dk at hi;rcases hi with⟨t,rfl⟩|⟨b,rfl,_⟩<;>rw[eqIsQuiet_byValue _ rfl]<;>exact G9 h
  |t ks=>unfold IK.dep at hk;lia
 |succ n ih=>
  intro k hk A E s v Q hi h;cases k with
  |i m=>unfold dk at hi;rcases hi with⟨t,rfl⟩|⟨b,rfl,_⟩<;>rw[eqIsQuiet_byValue _ rfl]<;>exact G9 h
  |t ks=>
   unfold dk at hi;obtain⟨a,o,av,m,rfl,ho,hc,hd,hits⟩:=hi;have mS:IK.jy ks<=n:=by unfold IK.dep at hk;lia
   have hT:s.TypeIs (.ref a) "tuple":=⟨o,ho,hc⟩;unfold eqIsQuiet;refine G8 (B8 hT F.slot_tuple_eq.lookup ?_);show wpAny _ _ (isInstance (.ref a) (.type "tuple")>>=_) _ _ s;refine G8 (wpAny_isInstance hT isSubtype_tuple_tuple ?_);simp only[Bool.not_true,o8,J1];refine G8 (C0 ho hd (G8 ?_));show wpAny _ _ (forIn av.toArray _ _) _ _ s;rw[<- u9];refine wpAny_forIn_list _ (λ rest r s'=>r.1=none/\s'=s/\∃left,(∀l∈left,l∈ks)/\cu s.heap left rest) _ ?_ ?_ _ _ ⟨rfl,rfl,ks,λ l hl=>hl,hits⟩
   ·rintro x rest r s' ⟨hr,rfl,left,mR,hl⟩;cases left with
    |nil=>unfold cu at hl;cases hl
    |cons k1 left=>unfold cu at hl;obtain⟨v,r',e,h1,h2⟩:=hl;cases e;refine G8 (ih k1 (D7 (jw (mR k1 (l9 ..))) mS) h1 ?_);simp only[Bool.not_true,o8,J1];exact G9 ⟨rfl,rfl,left,λ l hl=>mR l (j9 _ hl),h2⟩
   ·rintro⟨r1,r2⟩ s' ⟨hr,rfl,_⟩;simp only at hr;subst hr;exact G9 h
def me(prog:Program)(w:World):HeapKind prog w IK where
 is:=λ h k a=>k.dep<=5/\dk h k (.ref a)
 hash:=DP
 draws:=AM
 room:=λ A=>A.units+8<cLine
 inj:=λ hx hy=>DL _ _ hx.2 hy.2
 keeps:=λ x ho hd hs=>⟨x.1,Oc x.2 ho hd hs⟩
 pyHash:=λ hu hk h=>Jn 5 _ hk.1 (by have:=hk.1;lia) hk.2 h
 eqBool:=λ{A E s x y a b Q} hu hx hy h=>by
  obtain⟨dx,as,px,ra⟩:=mO x hx.2;obtain⟨dy,bs,py,rb⟩:=mO y hy.2;refine SeqAt.eqAt_reads dx dy A s _ _ _ _ ra rb (vK x px) (vK y py) ?_ prog w E Q ?_
  ·rw[vL x px,vL y py];have:=hx.1;have:=Nat.min_le_left x.dep y.dep;lia
  ·have e:PyData.eqv dx dy=decide (x=y):=by rw[A4,w9];exact KZ x y px py
   rw[e];exact h
 quiet:=λ hk h=>DK 8 _ (D7 hk.1 (by decide)) hk.2 h
section
variable {κ:Type}[DecidableEq κ]
def iC(ar:List (κ×V))(k:κ):Option V:=(ar.find? λ kv=>decide (kv.1=k)).map (·.2)
def putK(ar:List (κ×V))(k:κ)(v:V):List (κ×V):=
 if(ar.any λ kv=>decide (kv.1=k))=true then ar.map (λ kv=>if kv.1=k then(kv.1,v)else kv)else ar++[(k,v)]
def lX{p:κ×V}{r:List (κ×V)}{k:κ}(e:p.1=k):iC (p::r) k=some p.2:=by simp[iC,A6,e]
def lY{p:κ×V}{r:List (κ×V)}{k:κ}(e:¬p.1=k):iC (p::r) k=iC r k:=by simp[iC,A6,e]
theorem lZ(k:κ):∀ar:List (κ×V),(ar.any λ kv=>decide (kv.1=k))=(iC ar k).isSome
 |[]=>rfl
 |p::r=>by
  rw[any_cons];by_cases e:p.1=k
  ·simp only[lX e,B9 e,Bool.true_or,Option.isSome_some]
  ·rw[lY e,A7 e,Bool.false_or];exact lZ k r
def gP(ar:List (κ×V))(k:κ)(v:V):(putK ar k v).length<=ar.length+1:=by
 unfold putK;split
 ·rw[B4];lia
 ·rw[n9,z0,length_nil];lia
def jD.eu{o:Option V}{u:Option al}(r:jD o u):o.isSome=u.isSome:=by
 cases o with
 |none=>cases u with
  |none=>rfl
  |some _=>exact(show False from r).elim
 |some _=>cases u with
  |none=>exact(show False from r).elim
  |some _=>rfl
def KV.val{ar:List (κ×V)}{vs:List (κ×al)}(r:KV ar vs)(k:κ):jD (iC ar k) (valueAt vs k):=by
 unfold KV at r
 induction r with
 |nil=>exact True.intro
 |@cons p q ps qs h t ih=>
  obtain⟨h1,h2⟩:=h;by_cases e:p.1=k
  ·have e':q.1=k:=h1.symm.trans e;have b:valueAt (q::qs) k=some q.2:=by simp[valueAt,A6,e']
   rw[lX e,b];exact h2
  ·have e':¬q.1=k:=λ z=>e (h1.trans z);have b:valueAt (q::qs) k=valueAt qs k:=by simp[valueAt,A6,e']
   rw[lY e,b];exact ih
theorem KV.any{ar:List (κ×V)}{vs:List (κ×al)}(r:KV ar vs)(k:κ):(ar.any λ kv=>decide (kv.1=k))=vs.any λ kv=>decide (kv.1=k):=by
 unfold KV at r
 induction r with
 |nil=>rfl
 |cons h t ih=>rw[any_cons,any_cons,ih,h.1]
def KV.BO{ar:List (κ×V)}{vs:List (κ×al)}(r:KV ar vs)(k:κ){y:V}(ry:lc y u):KV (ar.map λ kv=>if kv.1=k then(kv.1,y)else kv) (vs.map λ kv=>if kv.1=k then(kv.1,u)else kv):=by
 unfold KV at r ⊢
 induction r with
 |nil=>exact .nil
 |@cons p q ps qs h t ih=>
  rw[C6,C6];refine .cons ?_ ih;obtain⟨h1,h2⟩:=h;by_cases e:p.1=k
  ·rw[J6 e,J6 (h1.symm.trans e)];exact⟨h1,ry⟩
  ·rw[J7 e,J7 (λ z=>e (h1.trans z))];exact⟨h1,h2⟩
def KV.put{ar:List (κ×V)}{vs:List (κ×al)}(r:KV ar vs)(k:κ){y:V}(ry:lc y u):KV (putK ar k y) (stored vs k u):=by
 unfold putK stored;rw[r.any k];by_cases e:(vs.any λ kv=>decide (kv.1=k))=true
 ·rw[J6 e,J6 e];exact r.BO k ry
 ·rw[J7 e,J7 e];exact Paired.snoc r ⟨rfl,ry⟩
theorem KV.length{ar:List (κ×V)}{vs:List (κ×al)}(r:KV ar vs):ar.length=vs.length:=C4 r
end
def oG{k:Key}(r:lc (kV k) u):(bE P w).is k u=true:=by
 cases k with
 |inl i=>obtain⟨t,e⟩:=(show ∃t,u=Value.int i t from r);subst e;exact kI P w i t
 |inr x=>obtain⟨t,e⟩:=(show ∃t,u=Value.str x t from r);subst e;exact sH P w x t
theorem oH:∀{ks:List Key} {us:List al},li (ks.map kV) us->ItemsAre (bE P w) ks us
 |[],_,r=>by rw[map_nil]at r;cases r;exact .nil
 |k::ks,_,r=>by
  rw[C6]at r;cases r with
  |cons h t=>exact .cons (oG h) (oH t)
abbrev KT(H:Hp):List (List Key×V)->List (List Key×be×al)->Prop:=Paired λ p q=>p.1=q.1/\H q.2.1=some (.tup (p.1.map kV))/\lc p.2 q.2.2
def KT.val{xs:List (List Key×be×al)}(r:KT H ar xs)(k:List Key):jD (iC ar k) ((atKey xs k).map (·.2)):=by
 induction r with
 |nil=>exact True.intro
 |@cons p q ps qs h t ih=>
  obtain⟨h1,_,h2⟩:=h;by_cases e:p.1=k
  ·have e':q.1=k:=h1.symm.trans e;have b:atKey (q::qs) k=some q.2:=by simp[atKey,A6,e']
   rw[lX e,b];exact h2
  ·have e':¬q.1=k:=λ z=>e (h1.trans z);have b:atKey (q::qs) k=atKey qs k:=by simp[atKey,A6,e']
   rw[lY e,b];exact ih
def KT.BO{xs:List (List Key×be×al)}(r:KT H ar xs)(k:List Key){y:V}(ry:lc y u):KT H (ar.map λ kv=>if kv.1=k then(kv.1,y)else kv) (xs.map (putAt k u)):=by
 induction r with
 |nil=>exact .nil
 |@cons p q ps qs h t ih=>
  rw[C6,C6];refine .cons ?_ ih;obtain⟨h1,h2,h3⟩:=h;unfold putAt;by_cases e:p.1=k
  ·rw[J6 e,J6 (h1.symm.trans e)];exact⟨h1,h2,ry⟩
  ·rw[J7 e,J7 (λ z=>e (h1.trans z))];exact⟨h1,h2,h3⟩
def KT.put{xs:List (List Key×be×al)}(r:KT H ar xs)(k:List Key){b:be}{y:V}(hb:H b=some (.tup (k.map kV)))(ry:lc y u):KT H (putK ar k y) (storedH xs k b u):=by
 have e:(ar.any λ kv=>decide (kv.1=k))=(atKey xs k).isSome:=by rw[lZ,(r.val k).eu,y4]
 unfold putK storedH;rw[e];by_cases q:(atKey xs k).isSome=true
 ·rw[J6 q,J6 q];exact r.BO k ry
 ·rw[J7 q,J7 q];exact Paired.snoc r ⟨rfl,hb,ry⟩
def KT.keeps{xs:List (List Key×be×al)}(r:KT H ar xs)(ht:∀b ys,H b=some (.tup ys)->H' b=some (.tup ys)):KT H' ar xs:=
 Paired.bR r λ _ _ z=>⟨z.1,ht _ _ z.2.1,z.2.2⟩
section
variable {h:Heap}
def KG{u:HO}(ok:iU P w H h)(e:Rd H a u):bK P w H h a u:=e.ok ok
def oR{ar:List (Key×V)}(ok:iU P w H h)(e:Rd H a (.dK ar)):ar.length<=sizeLine/\(a==sysModules)=false/\∃vs,KV ar vs/\h.DictOf (bE P w) a vs:=
 show bK P w H h a (.dK ar)from KG ok e
def TU{ar:List (Key×V)}(ok:iU P w H h)(e:H a=some (.dK ar)):ar.length<=sizeLine/\(a==sysModules)=false/\∃vs,KV ar vs/\h.DictOf (bE P w) a vs:=oR ok (.inl e)
def mK{ks:List Key}(ok:iU P w H h)(e:H a=some (.tup (ks.map kV))):(tupleKind (bE P w)).is h ks a:=by obtain⟨_,av,r,o,h1,h2,n,h3⟩:=(show bK P w H h a (.tup (ks.map kV))from ok a _ e);exact⟨o,av.toArray,n,h1,h2,h3,by simpa using oH r⟩
def tI(ok:iU P w H h)(e:Rd H a (.dT ar)):ar.length<=sizeLine/\(a==sysModules)=false/\
  ∃xs,KT H ar xs/\h.DictOfH (tupleKind (bE P w)) a xs:=by
 obtain⟨z,y,xs,r,o,es,ep,h1,h2,h3,h4,h5⟩:=(show bK P w H h a (.dT ar)from KG ok e);refine⟨z,y,xs,r,o,es,ep,h1,h2,h3,h4,λ x hx=>?_,h5⟩;have all:∀{l:List (List Key×V)} {m:List (List Key×be×al)},KT H l m->∀x∈m,(tupleKind (bE P w)).is h x.1 x.2.1:=by
  intro l m q
  induction q with
  |nil=>intro x hx;exact nomatch hx
  |@cons p q ps qs hq t ih=>
   intro x hx;rcases C7.mp hx with e|hx
   ·subst e;exact mK ok (by rw[<- hq.1];exact hq.2.1)
   ·exact ih x hx
 exact all r x hx
def TR(ok:iU P w H h)(e:H a=some (.dT ar)):ar.length<=sizeLine/\(a==sysModules)=false/\
  ∃xs,KT H ar xs/\h.DictOfH (tupleKind (bE P w)) a xs:=tI ok (.inl e)
end
def nY(H:Hp)(a:be)(y:V)(r:Option V):Prop:=
 (∃ar k,Rd H a (.dK ar)/\y=kV k/\r=iC ar k)\/∃ar k b,Rd H a (.dT ar)/\y=.ref b/\H b=some (.tup (k.map kV))/\r=iC ar k
def Fp(H:Hp)(a:be)(y v:V)(H':Hp):Prop:=
 (∃ar k,H a=some (.dK ar)/\y=kV k/\ar.length<sizeLine/\H'=lm H a (.dK (putK ar k v)))\/
 ∃ar k b,H a=some (.dT ar)/\y=.ref b/\H b=some (.tup (k.map kV))/\ar.length<sizeLine/\H'=lm H a (.dT (putK ar k v))
def nY.k9{ar:List (Key×V)}{k:Key}(e:H a=some (.dK ar)):nY H a (kV k) (iC ar k):=.inl ⟨ar,k,.inl e,rfl,rfl⟩
def Fp.k9{ar:List (Key×V)}{k:Key}(e:H a=some (.dK ar))(hl:ar.length<sizeLine):Fp H a (kV k) v (lm H a (.dK (putK ar k v))):=.inl ⟨ar,k,e,rfl,hl,rfl⟩
section
variable {y:V}{r:al}{o:Option V}
def io.big(I:io X ce σ H s):sysModules<s.heap.objs.size:=by have h:mainGlobals<s.heap.objs.size:=(I.mod.glob.keeps I.bk).lt;exact Nat.lt_trans (by decide) h
def Aj(hu:A.units+1<cLine)(I:io X ce σ H s)(g:nY H a y (some v))(ry:lc y u)(h:∀w' s',io X ce σ H s'->lc v w'->Q w' s'):wpAny (model X.prog X.w) A (getItem (.ref a) u) Q E s:=by
 rcases g with⟨ar,k,e,ey,l⟩|⟨ar,k,b,e,ey,eb,l⟩
 ·subst ey;obtain⟨z,hd,vs,rel,dd⟩:=oR I.bP e;obtain⟨w',hw,vc⟩:=jD.some_of (v:=v) (o:=valueAt vs k) (by rw[l];exact rel.val k);exact wpAny_getItem_of (oG ry) dd.mapOf hw (h w' _ (I.tok _) vc)
 ·subst ey;cases(show u=Value.ref b from ry);obtain⟨z,hd,xs,rel,dd⟩:=tI I.bP e;obtain⟨w',hw,vc⟩:=jD.some_of (v:=v) (o:=(atKey xs k).map (·.2)) (by rw[l];exact rel.val k);obtain⟨p,hp,nF⟩:=bn.mp hw;refine wpAny_getItem_heap (u7 hu) (mK I.bP eb) dd hp ?_;rw[nF];exact h w' _ (I.tok _) vc
def XJ(hu:A.units+1<cLine)(I:io X ce σ H s)(g:nY H a y o)(ry:lc y u)(h:∀s',io X ce σ H s'->Q (.bool o.isSome) s'):wpAny (model X.prog X.w) A (compareOp .In u (.ref a)) Q E s:=by
 rcases g with⟨ar,k,e,ey,l⟩|⟨ar,k,b,e,ey,eb,l⟩
 ·subst ey;obtain⟨z,hd,vs,rel,dd⟩:=oR I.bP e;refine wpAny_in_of (oG ry) hd dd.mapOf ?_;rw[<- (rel.val k).eu,<- l];exact h _ (I.tok _)
 ·subst ey;cases(show u=Value.ref b from ry);obtain⟨z,hd,xs,rel,dd⟩:=tI I.bP e;refine wpAny_in_heap (u7 hu) (mK I.bP eb) hd dd ?_;have q:=(rel.val k).eu;rw[y4]at q;rw[<- q,<- l];exact h _ (I.tok _)
def JM(hu:A.units+1<cLine)(I:io X ce σ H s)(g:nY H a y o)(ry:lc y u)(h:∀s',io X ce σ H s'->Q (.bool (!o.isSome)) s'):wpAny (model X.prog X.w) A (compareOp .NotIn u (.ref a)) Q E s:=by
 rcases g with⟨ar,k,e,ey,l⟩|⟨ar,k,b,e,ey,eb,l⟩
 ·subst ey;obtain⟨z,hd,vs,rel,dd⟩:=oR I.bP e;refine wpAny_notIn_of (oG ry) hd dd.mapOf ?_;rw[<- (rel.val k).eu,<- l];exact h _ (I.tok _)
 ·subst ey;cases(show u=Value.ref b from ry);obtain⟨z,hd,xs,rel,dd⟩:=tI I.bP e;refine wpAny_notIn_heap (u7 hu) (mK I.bP eb) hd dd ?_;have q:=(rel.val k).eu;rw[y4]at q;rw[<- q,<- l];exact h _ (I.tok _)
def qN{ob:HO}(I:io X ce σ H s)(mu:Uw (H a))(hs:Heap.SameBut a s.heap h')(he:∃q,h'.get? a=some q)(new:bK X.prog X.w (lm H a ob) h' a ob):io X ce σ (lm H a ob) {s with heap:=h',toks:=t'}:=
 I.write (x:=a) (e:=a) mu (.inl rfl) (λ b q hb z=>(hs.2 b hb).trans z) he new
def Ey{ar:List (Key×V)}{vs:List (Key×al)}(z:ar.length<=sizeLine)(hd:(a==sysModules)=false)(rel:KV ar vs)(dd:h'.DictOf (bE P w) a vs):bK P w H' h' a (.dK ar):=⟨z,hd,vs,rel,dd⟩
def Ae{Q:Unit->am->Prop}(hu:A.units+1<cLine)(I:io X ce σ H s)(g:Fp H a y v H')(ry:lc y u)(rv:lc v r)(h:∀s',io X ce σ H' s'->Q .unit s'):wpAny (model X.prog X.w) A (setItem (.ref a) u r) Q E s:=by
 rcases g with⟨ar,k,e,ey,l,eH⟩|⟨ar,k,b,e,ey,eb,l,eH⟩
 ·subst ey eH;obtain⟨z,hd,vs,rel,dd⟩:=TU I.bP e;have hz:vs.length<=sizeLine:=by rw[<- rel.length];exact z
  have hl:(putK ar k v).length<=sizeLine:=by have:=gP ar k v;lia
  refine wpAny_setItem_pairs (hsz:=hz) (oG ry) dd λ h' PR hs=>h _ ?_;have he:∃q,h'.get? a=some q:=let⟨q,_,_,hq,_⟩:=PR;⟨q,hq⟩
  exact qN I (by rw[e];exact True.intro) hs he (Ey hl hd (rel.put k rv) PR)
 ·subst ey eH;cases(show u=Value.ref b from ry);obtain⟨z,hd,xs,rel,dd⟩:=TR I.bP e;have hz:xs.length<=sizeLine:=by rw[<- C4 rel];exact z
  have hl:(putK ar k v).length<=sizeLine:=by have:=gP ar k v;lia
  refine wpAny_setItem_heap (hsz:=hz) (u7 hu) (mK I.bP eb) dd λ h' PR hs=>h _ ?_;obtain⟨q,es,ep,hq,h2,h3,h4,_,h5⟩:=PR;refine qN I (by rw[e];exact True.intro) hs ⟨q,hq⟩ ⟨hl,hd,_,(rel.put k eb rv).keeps λ c ys ec=>?_,q,es,ep,hq,h2,h3,h4,h5⟩;rw[aX (bA ec e (λ z=>nomatch z))];exact ec
end
section
variable {ar:List (Key×V)}{k:Key}
def TY(I:io X ce σ H s)(e:Rd H a (.dK ar))(h:∀t s',io X ce σ H s'->Q (.int ar.length t) s'):wpAny (model X.prog X.w) A (call (.builtin "len") [.ref a]) Q E s:=by obtain⟨z,hd,vs,rel,dd⟩:=oR I.bP e;refine call_len_dict hd dd (by rw[<- rel.length];rw[G4]at z;lia) ?_;rw[<- rel.length];exact h _ _ (I.tok _)
end
def tJ{y:V}{o:Option V}(I:io X ce σ H s)(g:nY H a y o):s.TypeIs (.ref a) "dict":=by
 rcases g with⟨ar,k,e,_,_⟩|⟨ar,k,b,e,_,_,_⟩
 ·obtain⟨_,_,vs,_,dd⟩:=oR I.bP e;exact dd.typeIs
 ·obtain⟨_,_,xs,_,dd⟩:=tI I.bP e;exact dd.typeIs
def Ez(h:Heap)(hb:sysModules<h.objs.size):bK P w H (h.push {cls:=.type "dict",data:=.dict #[]}) h.objs.size (.dK []):=
 ⟨G5 _,beq_eq_false_iff_ne.mpr (J4 (D3 hb)),[],.nil,Heap.DictOf.new h⟩
def LR:TE:=λ _ H Q=>∀p,H p=none->Q (.ref p) (lm H p (.dK []))
def CH:PE X (.Dict [] [] pos) LR:=λ ce s σ H Q I h=>
 wpAny_Dict_empty ⟨.ref s.heap.objs.size,_,I.laid (a:=s.heap.objs.size) (o:=.dK []) (t':=s.toks) (λ _ _ q=>i7 _ q) (G3 _) (Ez s.heap I.big),rfl,h _ (I.bP.fresh (G3 _))⟩
mutual
def ic(K:J8)(H:Hp):IK->V->Prop
 | .i n,v=>v=.int n\/∃b:Bool,v=.bl b/\n=b2i b
 | .t ks,v=>∃p xs,v=.ref p/\fj K H p xs/\kJ K H ks xs
def kJ(K:J8)(H:Hp):List IK->List V->Prop
 |[],xs=>xs=[]
 |k::ks,xs=>∃x r,xs=x::r/\ic K H k x/\kJ K H ks r
end
mutual
theorem oE(I:io X ce σ H s):∀(k:IK){v:V}{u:al},ic X.K H k v->lc v u->dk s.heap k u
 | .i n,v,u,h,r=>by
  unfold ic at h;unfold dk;rcases h with rfl|⟨b,rfl,rfl⟩
  ·exact .inl r
  ·exact .inr ⟨b,r,rfl⟩
 | .t ks,v,u,h,r=>by unfold ic at h;obtain⟨p,xs,rfl,hq,hk⟩:=h;cases(show u=Value.ref p from r);obtain⟨av,rv,⟨o,ho,hc,n,hd⟩,_⟩:=I.tuple hq;unfold dk;exact⟨p,o,av,n,rfl,ho,hc,hd,xV I ks hk rv⟩
theorem xV(I:io X ce σ H s):∀(ks:List IK){xs:List V}{us:List al},kJ X.K H ks xs->li xs us->cu s.heap ks us
 |[],xs,us,h,r=>by unfold kJ at h;subst h;cases r;unfold cu;rfl
 |k::ks,xs,us,h,r=>by
  unfold kJ at h;obtain⟨x,Vx,rfl,h1,h2⟩:=h;cases r with
  |cons r1 r2=>unfold cu;exact⟨_,_,rfl,oE I k h1 r1,xV I ks h2 r2⟩
end
abbrev eh:=IK×be×V
def TN(x:IK×be×al):DictEntry:=⟨DP x.1,.ref x.2.1,x.2.2⟩
abbrev AB:List eh->List (IK×be×al)->Prop:=Paired λ p q=>p.1=q.1/\p.2.1=q.2.1/\lc p.2.2 q.2.2
def XI(a:be)(ar:List eh)(h:Heap):Prop:=ar.length<=sizeLine/\(a==sysModules)=false/\∃xs,AB ar xs/\∃o es ep,h.get? a=some o/\o.ExactDict/\o.data=.dict es ep/\es.toList=xs.map TN/\(xs.map (·.1)).Nodup
def uK(a:be)(ar:List eh):HO:=.ext (XI a ar)
def Ex{h:Heap}{ar:List eh}(x:XI a ar h):bK P w H h a (uK a ar):=by obtain⟨z,y,xs,r,o,es,ep,e,c⟩:=id x;exact⟨x,⟨o,e⟩,λ h1 h2 ⟨z,y,xs,r,o,es,ep,e,c⟩ q=>⟨z,y,xs,r,o,es,ep,q o e,c⟩⟩
noncomputable def iW(ar:List eh)(k:IK):Option V:=(ar.find? λ p=>decide (p.1=k)).map (·.2.2)
noncomputable def nL(ar:List eh)(k:IK)(p:be)(v:V):List eh:=if(iW ar k).isSome=true then ar.map (λ x=>if x.1=k then(x.1,x.2.1,v)else x)else ar++[(k,p,v)]
def Cp(ar:List eh)(k:IK)(p:be)(v:V):(nL ar k p v).length<=ar.length+1:=by
 unfold nL;split
 ·simp
 ·simp
def AB.val{ar:List eh}{xs:List (IK×be×al)}(r:AB ar xs)(k:IK):jD (iW ar k) ((atKey xs k).map (·.2)):=by
 induction r with
 |nil=>exact True.intro
 |@cons p q ps qs h t ih=>
  obtain⟨h1,_,h2⟩:=h;unfold iW atKey at ih ⊢;by_cases e:p.1=k
  ·have e':q.1=k:=h1.symm.trans e;simp only[A6,B9 e,B9 e',Option.map_some];exact h2
  ·have e':¬q.1=k:=λ z=>e (h1.trans z);simp only[A6,A7 e,A7 e'];exact ih
def AB.BO{ar:List eh}{xs:List (IK×be×al)}(r:AB ar xs)(k:IK){y:V}(ry:lc y u):AB (ar.map λ x=>if x.1=k then(x.1,x.2.1,y)else x) (xs.map (putAt k u)):=by
 induction r with
 |nil=>exact .nil
 |@cons p q ps qs h t ih=>
  rw[C6,C6];refine .cons ?_ ih;obtain⟨h1,h2,h3⟩:=h;unfold putAt;by_cases e:p.1=k
  ·rw[J6 e,J6 (h1.symm.trans e)];exact⟨h1,h2,ry⟩
  ·rw[J7 e,J7 (λ z=>e (h1.trans z))];exact⟨h1,h2,h3⟩
def qz{o:Option V}{u:Option al}(r:jD o u):o.isSome=u.isSome:=r.eu
def AB.put{ar:List eh}{xs:List (IK×be×al)}(r:AB ar xs)(k:IK){b:be}{y:V}(ry:lc y u):AB (nL ar k b y) (storedH xs k b u):=by
 have e:(iW ar k).isSome=(atKey xs k).isSome:=by rw[qz (r.val k),y4]
 unfold nL storedH;rw[e];by_cases q:(atKey xs k).isSome=true
 ·rw[J6 q,J6 q];exact r.BO k ry
 ·rw[J7 q,J7 q];exact Paired.snoc r ⟨rfl,rfl,ry⟩
structure nX(K:J8)(H:Hp)(a:be)(ar:List eh):Prop where
 at_:H a=some (uK a ar)
 key:∀p∈ar,p.1.dep<=5/\ic K H p.1 (.ref p.2.1)
section
variable {b:be}{ar:List eh}{k:IK}{r:al}
def nX.of(I:io X ce σ H s)(d:nX X.K H a ar):ar.length<=sizeLine/\(a==sysModules)=false/\∃xs,AB ar xs/\s.heap.DictOfH (me X.prog X.w) a xs:=by
 obtain⟨⟨z,y,xs,rel,o,es,ep,h1,h2,h3,h4,h5⟩,_,_⟩:=(show bK X.prog X.w H s.heap a (uK a ar)from I.bP a _ d.at_);refine⟨z,y,xs,rel,o,es,ep,h1,h2,h3,h4,?_,h5⟩;have all:∀{l:List eh} {m:List (IK×be×al)},AB l m->(∀p∈l,p.1.dep<=5/\ic X.K H p.1 (.ref p.2.1))->∀x∈m,(me X.prog X.w).is s.heap x.1 x.2.1:=by
  intro l m q
  induction q with
  |nil=>intro _ x hx;cases hx
  |@cons p q ps qs hq t ih=>
   intro hl x hx;rcases C7.mp hx with rfl|hx
   ·obtain⟨c1,c2⟩:=hl p (l9 ..);rw[hq.1,hq.2.1]at c2;rw[hq.1]at c1;exact⟨c1,oE I _ c2 rfl⟩
   ·exact ih (λ p hp=>hl p (j9 _ hp)) x hx
 exact all rel d.key
def i_(hu:A.units+64<cLine):(me X.prog X.w).room A.in1:=(show A.units+1+8<cLine by lia)
def zb(hu:A.units+64<cLine)(I:io X ce σ H s)(d:nX X.K H a ar)(hk:k.dep<=5)(yh:ic X.K H k (.ref b))(g:iW ar k=some v)(h:∀w' s',io X ce σ H s'->lc v w'->Q w' s'):wpAny (model X.prog X.w) A (getItem (.ref a) (.ref b)) Q E s:=by obtain⟨z,hd,xs,rel,dd⟩:=d.of I;obtain⟨w',hw,vc⟩:=jD.some_of (v:=v) (o:=(atKey xs k).map (·.2)) (by rw[<- g];exact rel.val k);obtain⟨p,hp,nF⟩:=bn.mp hw;refine wpAny_getItem_heap (i_ hu) ⟨hk,oE I k yh rfl⟩ dd hp ?_;rw[nF];exact h w' _ (I.tok _) vc
def VG(hu:A.units+64<cLine)(I:io X ce σ H s)(d:nX X.K H a ar)(hk:k.dep<=5)(yh:ic X.K H k (.ref b))(h:∀s',io X ce σ H s'->Q (.bool (iW ar k).isSome) s'):wpAny (model X.prog X.w) A (compareOp .In (.ref b) (.ref a)) Q E s:=by obtain⟨z,hd,xs,rel,dd⟩:=d.of I;refine wpAny_in_heap (i_ hu) ⟨hk,oE I k yh rfl⟩ hd dd ?_;have q:=qz (rel.val k);rw[y4]at q;rw[<- q];exact h _ (I.tok _)
def GO(hu:A.units+64<cLine)(I:io X ce σ H s)(d:nX X.K H a ar)(hk:k.dep<=5)(yh:ic X.K H k (.ref b))(h:∀s',io X ce σ H s'->Q (.bool (!(iW ar k).isSome)) s'):wpAny (model X.prog X.w) A (compareOp .NotIn (.ref b) (.ref a)) Q E s:=by obtain⟨z,hd,xs,rel,dd⟩:=d.of I;refine wpAny_notIn_heap (i_ hu) ⟨hk,oE I k yh rfl⟩ hd dd ?_;have q:=qz (rel.val k);rw[y4]at q;rw[<- q];exact h _ (I.tok _)
def za{Q:Unit->am->Prop}(hu:A.units+64<cLine)(I:io X ce σ H s)(d:nX X.K H a ar)(hk:k.dep<=5)(yh:ic X.K H k (.ref b))(hl:ar.length<sizeLine)(rv:lc v r)(h:∀s',io X ce σ (lm H a (uK a (nL ar k b v))) s'->Q .unit s'):wpAny (model X.prog X.w) A (setItem (.ref a) (.ref b) r) Q E s:=by
 obtain⟨z,hd,xs,rel,dd⟩:=d.of I;have hz:xs.length<=sizeLine:=by rw[<- C4 rel];exact z
 have rC:(nL ar k b v).length<=sizeLine:=by have:=Cp ar k b v;lia
 refine wpAny_setItem_heap (hsz:=hz) (i_ hu) ⟨hk,oE I k yh rfl⟩ dd λ h' PR hs=>h _ ?_;obtain⟨q,es,ep,hq,h2,h3,h4,_,h5⟩:=PR;exact qN I (by rw[d.at_];exact True.intro) hs ⟨q,hq⟩ (Ex ⟨rC,hd,_,rel.put k rv,q,es,ep,hq,h2,h3,h4,h5⟩)
end
def JJ(h:Heap)(hb:sysModules<h.objs.size):XI h.objs.size [] (h.push {cls:=.type "dict",data:=.dict #[]}):=
 ⟨G5 _,beq_eq_false_iff_ne.mpr (J4 (D3 hb)),[],.nil,_,#[],0,l7 _ rfl,⟨rfl,rfl,rfl⟩,rfl,rfl,nodup_nil⟩
def LS:TE:=λ _ H Q=>∀p,H p=none->Q (.ref p) (lm H p (uK p []))
def CI:PE X (.Dict [] [] pos) LS:=λ ce s σ H Q I h=>
 wpAny_Dict_empty ⟨.ref s.heap.objs.size,_,I.laid (a:=s.heap.objs.size) (o:=uK s.heap.objs.size []) (t':=s.toks) (λ _ _ q=>i7 _ q) (G3 _) (Ex (JJ s.heap I.big)),rfl,h _ (I.bP.fresh (G3 _))⟩
def MB{d:be}(hd:(d==sysModules)=false):MeetsIn prog w (Builtin.«dict.__len__» ⟨[.ref d],[]⟩) (λ _ R s=>∃o es ep,s.heap.get? d=some o/\o.data=.dict es ep/\R (.ok (.ret (.int es.size s.toks))) {s with toks:=s.toks+1}):=
 .of_wp λ A R s ⟨o,es,ep,ho,Ox,h⟩=>by show wpAny _ _ (dictSize d>>=_) _ _ s;unfold dictSize;refine G8 (G8 (wpAny_dictEntries ho Ox (G9 ?_)));show wpAny _ _ (Builtin.Dict.pendingCount d>>=_) _ _ s;refine G8 (wpAny_pendingCount_other hd (wpAny_ret_mkInt ?_));rw[Nat.add_zero];exact h
def uf{d:be}{es:Array DictEntry}(hd:(d==sysModules)=false)(ho:s.heap.get? d=some o)(hc:o.cls=.type "dict")(Ox:o.data=.dict es ep)(hz:es.size<=sizeLine)(h:∀t n,Q (.int es.size t) {s with toks:=n}):wpAny (model prog w) A (call (.builtin "len") [.ref d]) Q E s:=by
 have hT:s.TypeIs (.ref d) "dict":=⟨o,ho,hc⟩;have Jq:sizeLine=16777216:=by decide
 have Tq:((es.size:Nat):Int)<2^63:=()
 refine Calls.call_function_entry kind_len plain_len entry_len (args_len1 _) ?_;unfold Builtin.«len»;refine G8 (m:=oneArg "len" _) (G9 ?_);refine G8 (m:=callSpecial? (.ref d) (aU "__len__")) (g9 (name:=aU "__len__") hT F.slot_dict_len (call_meetsIn F.slot_dict_len hT F.entry_dict_len (F.args_dict_len_1 _) (MB hd) ⟨o,es,ep,ho,Ox,?_⟩));show wpAny _ _ _ _ _ {s with toks:=s.toks+1};refine G8 (C3 (G9 (G8 (G7 ?_))));show wpAny _ _ (if((es.size:Nat):Int)<0 then _ else _) _ _ _;rw[J7 ()];show wpAny _ _ (if((es.size:Nat):Int) ≥ 2^63 then _ else _) _ _ _;rw[J7 ()];exact G8 (wpAny_mkInt (G9 ⟨_,rfl,h _ _⟩))
section
variable {ar:List eh}
def Qi(I:io X ce σ H s)(e:H a=some (uK a ar))(h:∀t s',io X ce σ H s'->Q (.int ar.length t) s'):wpAny (model X.prog X.w) A (call (.builtin "len") [.ref a]) Q E s:=by
 obtain⟨⟨z,y,xs,rel,o,es,ep,h1,h2,h3,h4,h5⟩,_,_⟩:=(show bK X.prog X.w H s.heap a (uK a ar)from I.bP a _ e);have e1:es.size=ar.length:=by rw[<- l6,h4,B4];exact(C4 rel).symm
 refine uf y h1 h2.1 h3 (by rw[e1];exact z) λ t n=>?_;rw[e1];exact h t _ (I.tok _)
end
structure Vn where
 name:Str
 qual:Str
 params:Arguments
 body:FuncBody
 scope:Scope
 pm:al
abbrev Wr(L:Vn)(cl:List (Str×be))(c:be)(doc Ug:al):FuncData:={name:=L.name,qualname:=L.qual,params:=L.params,body:=L.body,scope:=L.scope,globals:=mainGlobals,closure:=cl,defaults:=.none,kwdefaults:=.none,doc:=doc,pyModule:=L.pm,annotations:=none,code:=.ref c,closureTuple:=Ug,builtins:=builtinsNs}
abbrev Wq(L:Vn)(cl:List (Str×be))(c:be)(doc Ug:al):Obj:={cls:=.type "function",data:=.func (Wr L cl c doc Ug)}
abbrev Wo(f:be)(L:Vn)(c:be)(cl:List (Str×be)):Heap->Prop:=λ h=>∃doc Ug,h.get? f=some (Wq L cl c doc Ug)
abbrev Uh(c:be)(q:Str):Heap->Prop:=λ h=>h.CodeRec (.ref c) q
abbrev XS(c:be)(v:V):Heap->Prop:=λ h=>∃u,lc v u/\h.IsCell c (some u)
abbrev XT(o:Obj)(c:be)(v:V):HO:=.gG o (.gG o (.ext (XS c v)))
def VF(cs:List (Pos×be)):List al:=cs.flatMap λ p=>[rawInt p.1.line,rawInt p.1.col,.ref p.2]
def Us(H:Hp)(P:be)(q:Str):Prop:=∃cs:List (Pos×be),H P=some (.AH (VF cs).toArray)/\∀p∈cs,∃o,H p.2=some (.gG o (.ext (Uh p.2 q)))
def Us.grow{P:be}{q:Str}(t:Us H P q)(k:∀b o u,H b=some (.gG o u)->H' b=some (.gG o u))(e:H' P=H P):Us H' P q:=by obtain⟨cs,h1,h2⟩:=t;exact⟨cs,e.trans h1,λ p hp=>let⟨o,z⟩:=h2 p hp;⟨o,k _ _ _ z⟩⟩
end L2
namespace L3
open PySem.Spec L2
inductive D where
 |bh|bl (b:Bool)|int (i:Int)|str (x:Str)|ty (n:String)|ref (a:be)
 |tup (xs:List D)
 |fl (xs:List D)
def FO(K:J8)(H:Hp)(p:be)(xs:List V):Prop:=
 (∃o,H p=some (.gG o (.lst xs)))\/∃(o:Obj)(av:Array al)(n:Nat),K.lookup p=some o/\o.cls=.type "list"/\o.dict=none/\o.data=.seq av n/\av.size<=sizeLine/\li xs av.toList
def FO.sq(h:FO K H p xs):dv K H p xs:=by
 rcases h with h|h
 ·exact .inl (.inr h)
 ·exact .inr h
mutual
def kt(K:J8)(H:Hp):D->V->Prop
 | .bh,v=>v=.bh
 | .bl b,v=>v=.bl b
 | .int i,v=>v=.int i
 | .str x,v=>v=.str x
 | .ty n,v=>v=.ty n
 | .ref a,v=>v=.ref a
 | .tup ds,v=>∃p xs,v=.ref p/\fj K H p xs/\aE K H ds xs
 | .fl ds,v=>∃p xs,v=.ref p/\FO K H p xs/\aE K H ds xs
def aE(K:J8)(H:Hp):List D->List V->Prop
 |[],xs=>xs=[]
 |d::ds,xs=>∃x r,xs=x::r/\kt K H d x/\aE K H ds r
end
structure ay(H H':Hp):Prop where
 tup:∀b xs,H b=some (.tup xs)->H' b=some (.tup xs)
 gG:∀b o u,H b=some (.gG o u)->H' b=some (.gG o u)
def ay.refl(H:Hp):ay H H:=⟨λ _ _ h=>h,λ _ _ _ h=>h⟩
def ay.trans{H2:Hp}(a:ay H H1)(b:ay H1 H2):ay H H2:=⟨λ c xs h=>b.tup c xs (a.tup c xs h),λ c o u h=>b.gG c o u (a.gG c o u h)⟩
def ay.laid{o:HO}(h:H p=none):ay H (lm H p o):=
 ⟨λ b xs e=>by rw[aX (cn e h)];exact e,λ b ob u e=>by rw[aX (cn e h)];exact e⟩
theorem ay.lst{H:Hp}{p:be}{xs:List V}{o:HO}(h:H p=some (.lst xs)):ay H (lm H p o):=
 ⟨λ b ys e=>by rw[aX (bA e h (by intro z;cases z))];exact e,λ b ob u e=>by rw[aX (bA e h (by intro z;cases z))];exact e⟩
def ay.mut{u o:HO}(h:H p=some u)(n1:∀xs,u≠.tup xs)(n2:∀ob w,u≠.gG ob w):ay H (lm H p o):=
 ⟨λ b ys e=>by rw[aX (λ z=>by subst z;rw[h]at e;exact n1 ys (B0 e))];exact e,λ b ob w e=>by rw[aX (λ z=>by subst z;rw[h]at e;exact n2 ob w (B0 e))];exact e⟩
structure Fi(H H':Hp):Prop where
 tup:∀b xs,H b=some (.tup xs)->H' b=some (.tup xs)
 ft:∀b o xs,H b=some (.gG o (.tup xs))->H' b=some (.gG o (.tup xs))
 fl:∀b o xs,H b=some (.gG o (.lst xs))->H' b=some (.gG o (.lst xs))
def ay.sub(t:ay H H'):Fi H H':=⟨t.tup,λ b o _=>t.gG b o _,λ b o _=>t.gG b o _⟩
def xc(t:Fi H H')(h:fj K H p xs):fj K H' p xs:=by
 rcases h with(h|⟨o,h⟩)|h
 ·exact .inl (.inl (t.tup _ _ h))
 ·exact .inl (.inr ⟨o,t.ft _ _ _ h⟩)
 ·exact .inr h
def yk(t:Fi H H')(h:FO K H p xs):FO K H' p xs:=by
 rcases h with⟨o,h⟩|h
 ·exact .inl ⟨o,t.fl _ _ _ h⟩
 ·exact .inr h
def Bs(t:ay H H')(h:fj K H p xs):fj K H' p xs:=xc t.sub h
def El(t:ay H H')(h:FO K H p xs):FO K H' p xs:=yk t.sub h
mutual
theorem kt.mon{K:J8}{H H':Hp}(t:Fi H H'):∀(d:D){v:V},kt K H d v->kt K H' d v
 | .bh,v,h=>by unfold kt at h ⊢;exact h
 | .bl b,v,h=>by unfold kt at h ⊢;exact h
 | .int i,v,h=>by unfold kt at h ⊢;exact h
 | .str x,v,h=>by unfold kt at h ⊢;exact h
 | .ty n,v,h=>by unfold kt at h ⊢;exact h
 | .ref a,v,h=>by unfold kt at h ⊢;exact h
 | .tup ds,v,h=>by unfold kt at h ⊢;obtain⟨p,xs,e,q,r⟩:=h;exact⟨p,xs,e,xc t q,aE.mon t ds r⟩
 | .fl ds,v,h=>by unfold kt at h ⊢;obtain⟨p,xs,e,q,r⟩:=h;exact⟨p,xs,e,yk t q,aE.mon t ds r⟩
theorem aE.mon{K:J8}{H H':Hp}(t:Fi H H'):∀(ds:List D){xs:List V},aE K H ds xs->aE K H' ds xs
 |[],xs,h=>by unfold aE at h ⊢;exact h
 |d::ds,xs,h=>by unfold aE at h ⊢;obtain⟨x,r,e,a,b⟩:=h;exact⟨x,r,e,kt.mon t d a,aE.mon t ds b⟩
end
def kt.mono(t:ay H H')(d:D)(h:kt K H d v):kt K H' d v:=kt.mon t.sub d h
def aE.mono(t:ay H H')(ds:List D)(h:aE K H ds xs):aE K H' ds xs:=aE.mon t.sub ds h
def dm:kt K H .bh v↔v=.bh:=by unfold kt;exact Iff.rfl
def aL:kt K H (.bl b) v↔v=.bl b:=by unfold kt;exact Iff.rfl
def aw{i:Int}:kt K H (.int i) v↔v=.int i:=by unfold kt;exact Iff.rfl
def aJ{x:Str}:kt K H (.str x) v↔v=.str x:=by unfold kt;exact Iff.rfl
def vY{n:String}:kt K H (.ty n) v↔v=.ty n:=by unfold kt;exact Iff.rfl
def aH:kt K H (.ref a) v↔v=.ref a:=by unfold kt;exact Iff.rfl
def aP{ds:List D}:kt K H (.tup ds) v↔∃p xs,v=.ref p/\fj K H p xs/\aE K H ds xs:=by rw[kt]
def iJ{ds:List D}:kt K H (.fl ds) v↔∃p xs,v=.ref p/\FO K H p xs/\aE K H ds xs:=by rw[kt]
def au:aE K H [] xs↔xs=[]:=by unfold aE;exact Iff.rfl
def af{d:D}{ds:List D}:aE K H (d::ds) xs↔∃x r,xs=x::r/\kt K H d x/\aE K H ds r:=by rw[aE]
theorem aE.length:∀{ds:List D} {xs:List V},aE K H ds xs->xs.length=ds.length
 |[],xs,h=>by rw[au]at h;subst h;rfl
 |d::ds,xs,h=>by rw[af]at h;obtain⟨x,r,rfl,_,q⟩:=h;rw[z0,z0,q.length]
theorem aE.get:∀{ds:List D} {xs:List V} {i:Nat} {d:D},aE K H ds xs->ds[i]?=some d->∃x,xs[i]?=some x/\kt K H d x
 |[],xs,i,d,h,e=>by simp at e
 |d0::ds,xs,i,d,h,e=>by
  rw[af]at h;obtain⟨x,r,rfl,a,q⟩:=h;cases i with
  |zero=>simp at e;subst e;exact⟨x,rfl,a⟩
  |succ i=>obtain⟨y,h1,h2⟩:=aE.get q (by simpa using e);exact⟨y,by simpa using h1,h2⟩
theorem aE.mU:∀{ds:List D} {xs:List V} {i:Nat} {x:V},aE K H ds xs->xs[i]?=some x->∃d,ds[i]?=some d/\kt K H d x
 |[],xs,i,x,h,e=>by rw[au]at h;subst h;simp at e
 |d0::ds,xs,i,x,h,e=>by
  rw[af]at h;obtain⟨y,r,rfl,a,q⟩:=h;cases i with
  |zero=>simp at e;subst e;exact⟨d0,rfl,a⟩
  |succ i=>obtain⟨d,h1,h2⟩:=aE.mU q (by simpa using e);exact⟨d,by simpa using h1,h2⟩
theorem aE.append:∀{ds es:List D} {xs ys:List V},aE K H ds xs->aE K H es ys->aE K H (ds++es) (xs++ys)
 |[],es,xs,ys,h,q=>by rw[au]at h;subst h;exact q
 |d::ds,es,xs,ys,h,q=>by rw[af]at h;obtain⟨x,r,rfl,a,b⟩:=h;rw[cons_append,cons_append,af];exact⟨x,_,rfl,a,b.append q⟩
def aE.one{d:D}(h:kt K H d v):aE K H [d] [v]:=by rw[af];exact⟨v,[],rfl,h,by rw[au]⟩
theorem aE.take:∀{ds:List D} {xs:List V} (n:Nat),aE K H ds xs->aE K H (ds.take n) (xs.take n)
 |ds,xs,0,h=>by simp[au]
 |[],xs,n+1,h=>by rw[au]at h;subst h;simp[au]
 |d::ds,xs,n+1,h=>by rw[af]at h;obtain⟨x,r,rfl,a,b⟩:=h;rw[take_succ_cons,take_succ_cons,af];exact⟨x,_,rfl,a,b.take n⟩
theorem aE.drop:∀{ds:List D} {xs:List V} (n:Nat),aE K H ds xs->aE K H (ds.drop n) (xs.drop n)
 |ds,xs,0,h=>h
 |[],xs,n+1,h=>by rw[au]at h;subst h;simp[au]
 |d::ds,xs,n+1,h=>by rw[af]at h;obtain⟨x,r,rfl,a,b⟩:=h;exact b.drop n
theorem aE.set{d:D}{x:V}(hd:kt K H d x):∀{ds:List D} {xs:List V} (n:Nat),aE K H ds xs->aE K H (ds.set n d) (xs.set n x)
 |[],xs,n,h=>by rw[au]at h;subst h;simp[au]
 |d0::ds,xs,0,h=>by rw[af]at h;obtain⟨y,r,rfl,a,b⟩:=h;rw[set_cons_zero,set_cons_zero,af];exact⟨x,_,rfl,hd,b⟩
 |d0::ds,xs,n+1,h=>by rw[af]at h;obtain⟨y,r,rfl,a,b⟩:=h;rw[set_cons_succ,set_cons_succ,af];exact⟨y,_,rfl,a,b.set hd n⟩
theorem j_:∀(ns:List Int),aE K H (ns.map D.int) (ns.map V.int)
 |[]=>by simp[au]
 |n::ns=>by rw[C6,C6,af];exact⟨_,_,rfl,aw.mpr rfl,j_ ns⟩
theorem nk:∀{bs:List Bool} {xs:List V},aE K H (bs.map D.bl) xs->xs=bs.map V.bl
 |[],xs,h=>by rw[map_nil,au]at h;exact h
 |b::bs,xs,h=>by rw[C6,af]at h;obtain⟨x,r,rfl,a,q⟩:=h;rw[aL]at a;rw[a,nk q];rfl
theorem oS:∀{ys:List Str} {xs:List V},aE K H (ys.map D.str) xs->xs=ys.map V.str
 |[],xs,h=>by rw[map_nil,au]at h;exact h
 |b::bs,xs,h=>by rw[C6,af]at h;obtain⟨x,r,rfl,a,q⟩:=h;rw[aJ]at a;rw[a,oS q];rfl
def jm:Key->D
 | .inl i=>.int i
 | .inr x=>.str x
mutual
def mP:IK->D
 | .i n=>.int n
 | .t ks=>.tup (jV ks)
def jV:List IK->List D
 |[]=>[]
 |k::ks=>mP k::jV ks
end
mutual
theorem nq{K:J8}{H:Hp}:∀(k:IK){v:V},kt K H (mP k) v->ic K H k v
 | .i n,v,h=>by unfold mP at h;unfold ic;exact .inl (aw.mp h)
 | .t ks,v,h=>by unfold mP at h;obtain⟨p,xs,rfl,hq,hx⟩:=aP.mp h;unfold ic;exact⟨p,xs,rfl,hq,tK ks hx⟩
theorem tK{K:J8}{H:Hp}:∀(ks:List IK){xs:List V},aE K H (jV ks) xs->kJ K H ks xs
 |[],xs,h=>by unfold jV at h;unfold kJ;exact au.mp h
 |k::ks,xs,h=>by unfold jV at h;obtain⟨x,r,rfl,h1,h2⟩:=af.mp h;unfold kJ;exact⟨x,r,rfl,nq k h1,tK ks h2⟩
end
mutual
theorem qC:∀{a b:IK},mP a=mP b->a=b
 | .i n,.i m,h=>by unfold mP at h;cases h;rfl
 | .i n,.t ks,h=>by unfold mP at h;cases h
 | .t ks,.i n,h=>by unfold mP at h;cases h
 | .t ks,.t ls,h=>by unfold mP at h;rw[sX (D.tup.inj h)]
theorem sX:∀{as bs:List IK},jV as=jV bs->as=bs
 |[],[],_=>rfl
 |[],b::bs,h=>by unfold jV at h;cases h
 |a::as,[],h=>by unfold jV at h;cases h
 |a::as,b::bs,h=>by
  unfold jV at h;injection h with h1 h2
  rw[qC h1,sX h2]
end
def sS{a b:Key}(h:jm a=jm b):a=b:=by
 cases a with
 |inl i=>cases b with
  |inl j=>have e:D.int i=D.int j:=h;cases e;rfl
  |inr y=>have e:D.int i=D.str y:=h;cases e
 |inr x=>cases b with
  |inl j=>have e:D.str x=D.int j:=h;cases e
  |inr y=>have e:D.str x=D.str y:=h;cases e;rfl
def lM{k:Key}(h:kt K H (jm k) v):v=kV k:=by
 cases k with
 |inl i=>exact aw.mp h
 |inr x=>exact aJ.mp h
inductive XM where
 |lam (L:Vn) (cl:List (Str×be))|XU (d:D)|AH (q:Str)
  |XW (ar:List (List Bool×D))
inductive MO where
 |lst (ds:List D)
 |zw (x:XM)
  |du (t:Bool) (ar:List (D×D))
abbrev Fq(K:J8)(H:Hp):List (D×D)->List (Key×V)->Prop:=Paired λ p q=>p.1=jm q.1/\kt K H p.2 q.2
abbrev AE(K:J8)(H:Hp):List (D×D)->List eh->Prop:=Paired λ p q=>p.1=mP q.1/\q.1.dep<=5/\kt K H p.1 (.ref q.2.1)/\kt K H p.2 q.2.2
def bIK(bs:List Bool):IK:=.t (bs.map λ b=>.i (b2i b))
def blT(bs:List Bool):D:=.tup (bs.map D.bl)
abbrev Vu(K:J8)(H:Hp):List (List Bool×D)->List eh->Prop:=Paired λ p q=>q.1=bIK p.1/\kt K H (blT p.1) (.ref q.2.1)/\kt K H p.2 q.2.2
theorem Vu.mono(t:ay H H'){ar:List (List Bool×D)}{xs:List eh}(h:Vu K H ar xs):Vu K H' ar xs:=Paired.bR h λ p q z=>⟨z.1,kt.mono t _ z.2.1,kt.mono t _ z.2.2⟩
theorem Fq.mono(t:ay H H'){ar:List (D×D)}{xs:List (Key×V)}(h:Fq K H ar xs):Fq K H' ar xs:=Paired.bR h λ p q z=>⟨z.1,kt.mono t _ z.2⟩
theorem AE.mono(t:ay H H'){ar:List (D×D)}{xs:List eh}(h:AE K H ar xs):AE K H' ar xs:=Paired.bR h λ p q z=>⟨z.1,z.2.1,kt.mono t _ z.2.2.1,kt.mono t _ z.2.2.2⟩
abbrev Mem:=be->Option MO
def ak(M:Mem)(a:be)(o:MO):Mem:=λ b=>if b=a then some o else M b
def ai{M:Mem}{o:MO}:ak M a o a=some o:=by unfold ak;rw[J6 rfl]
def aG{M:Mem}{b:be}{o:MO}(h:b≠a):ak M a o b=M b:=by unfold ak;rw[J7 h]
def fz{M:Mem}{o u:MO}:ak (ak M a o) a u=ak M a u:=by funext b;unfold ak;split<;>rfl
def wK(K:J8)(H:Hp)(a:be):MO->Prop
 | .lst ds=>∃xs,H a=some (.lst xs)/\aE K H ds xs
 | .du false ar=>∃xs,H a=some (.dK xs)/\Fq K H ar xs
 | .du true ar=>∃xs,H a=some (uK a xs)/\AE K H ar xs
 | .zw (.lam L cl)=>∃c,(∃o,H a=some (.gG o (.ext (Wo a L c cl))))/\∃o,H c=some (.gG o (.ext (Uh c L.qual)))
 | .zw (.XU d)=>∃o v,H a=some (XT o a v)/\kt K H d v
 | .zw (.AH q)=>Us H a q
 | .zw (.XW ar)=>∃xs,H a=some (uK a xs)/\Vu K H ar xs
def lf(K:J8)(H:Hp)(M:Mem):Prop:=∀a o,M a=some o->wK K H a o
def wK.there{o:MO}(h:wK K H a o):∃u,H a=some u:=by
 cases o with
 |zw x=>
  cases x with
  |lam L cl=>obtain⟨_,⟨o,h⟩,_⟩:=h;exact⟨_,h⟩
  |XU d=>obtain⟨o,v,h,_⟩:=h;exact⟨_,h⟩
  |AH q=>obtain⟨cs,h,_⟩:=h;exact⟨_,h⟩
  |XW ar=>obtain⟨xs,h,_⟩:=h;exact⟨_,h⟩
 |lst ds=>obtain⟨xs,h,_⟩:=h;exact⟨_,h⟩
 |du t ar=>
  cases t with
  |false=>obtain⟨xs,h,_⟩:=h;exact⟨_,h⟩
  |true=>obtain⟨xs,h,_⟩:=h;exact⟨_,h⟩
theorem wK.mono{o:MO}(h:wK K H a o)(t:ay H H')(e:H' a=H a):wK K H' a o:=by
 cases o with
 |zw x=>
  cases x with
  |lam L cl=>obtain⟨c,⟨o,h⟩,o',h'⟩:=h;exact⟨c,⟨o,e.trans h⟩,o',t.gG _ _ _ h'⟩
  |XU d=>obtain⟨o,v,h,q⟩:=h;exact⟨o,v,e.trans h,kt.mono t d q⟩
  |AH q=>exact Us.grow h t.gG e
  |XW ar=>obtain⟨xs,h,q⟩:=h;exact⟨xs,e.trans h,q.mono t⟩
 |lst ds=>obtain⟨xs,h,q⟩:=h;exact⟨xs,e.trans h,aE.mono t ds q⟩
 |du b ar=>
  cases b with
  |false=>obtain⟨xs,h,q⟩:=h;exact⟨xs,e.trans h,q.mono t⟩
  |true=>obtain⟨xs,h,q⟩:=h;exact⟨xs,e.trans h,q.mono t⟩
def lf.free{M:Mem}(h:lf K H M)(n:H p=none):M p=none:=by
 cases e:M p with
 |none=>rfl
 |some o=>obtain⟨u,q⟩:=(h p o e).there;rw[n]at q;cases q
theorem lf.laid{M:Mem}(h:lf K H M){o:HO}(n:H p=none):lf K (lm H p o) M:=λ a u e=>by obtain⟨w,q⟩:=(h a u e).there;exact(h a u e).mono (ay.laid n) (aX (cn q n))
def lf.put{M:Mem}(h:lf K H M){o:HO}{u:MO}(t:ay H (lm H p o))(new:wK K (lm H p o) p u):lf K (lm H p o) (ak M p u):=λ a w e=>by
 by_cases ha:a=p
 ·subst ha;rw[ai]at e;cases e;exact new
 ·rw[aG ha]at e;exact(h a w e).mono t (aX ha)
def fP(M M':Mem):Prop:=∀a o,M a=some o->M' a=some o
def fP.refl(M:Mem):fP M M:=λ _ _ h=>h
def fP.put{M M':Mem}{o:MO}(h:fP M M')(n:M p=none):fP M (ak M' p o):=λ a u e=>by rw[aG (λ z=>by subst z;rw[n]at e;cases e)];exact h a u e
def lf.sub{M M':Mem}(h:lf K H M')(s:fP M M'):lf K H M:=λ a o e=>h a o (s a o e)
abbrev cH:=List (Option D)
structure cD(K:J8)(H:Hp)(δ:cH)(σ:St):Prop where
 len:δ.length=σ.length
 get:∀(i:Nat)(d:D),δ[i]?=some (some d)->∃v,σ[i]?=some (some v)/\kt K H d v
theorem cD.mono{δ:cH}(h:cD K H δ σ)(t:ay H H'):cD K H' δ σ:=
 ⟨h.len,λ i d e=>let⟨v,q,r⟩:=h.get i d e;⟨v,q,kt.mono t d r⟩⟩
theorem cD.set{δ:cH}(h:cD K H δ σ){d:D}(r:kt K H d v):cD K H (δ.set i (some d)) (σ.set i (some v)):=by
 refine⟨by rw[length_set,length_set];exact h.len,λ j e hj=>?_⟩;by_cases s_:i=j
 ·subst s_;have hi:i < δ.length:=by have:=(c5.mp hj).1;simpa using this
  rw[getElem?_set_self hi]at hj;cases hj;exact⟨v,by rw[getElem?_set_self (by rw[<- h.len];exact hi)],r⟩
 ·rw[k9 s_]at hj;obtain⟨u,q,w⟩:=h.get j e hj;exact⟨u,by rw[k9 s_];exact q,w⟩
abbrev bI:=D->Mem->Prop
abbrev bT:=cH->Mem->bI->Prop
abbrev eB:=cH->Mem->(Bool->Mem->Prop)->Prop
abbrev ij:=cH->Mem->(List D->Mem->Prop)->Prop
structure ir where
 nx:cH->Mem->Prop
 rt:bI
 bk:cH->Mem->Prop:=λ _ _=>False
 ct:cH->Mem->Prop:=λ _ _=>False
abbrev iq:=ir->cH->Mem->Prop
def iS(K:J8)(H:Hp)(Q2:bI)(Q:VK):Prop:=∀v H' d M',kt K H' d v->lf K H' M'->ay H H'->Q2 d M'->Q v H'
def uB(K:J8)(H:Hp)(Q2:Bool->Mem->Prop)(Q:Bool->Hp->Prop):Prop:=∀b H' M',lf K H' M'->ay H H'->Q2 b M'->Q b H'
def UC(K:J8)(H:Hp)(Q2:List D->Mem->Prop)(Q:List V->Hp->Prop):Prop:=∀vs H' ds M',aE K H' ds vs->lf K H' M'->ay H H'->Q2 ds M'->Q vs H'
def kX(K:J8)(H:Hp)(N2:cH->Mem->Prop)(N:St->Hp->Prop):Prop:=∀σ' H' δ' M',cD K H' δ' σ'->lf K H' M'->ay H H'->N2 δ' M'->N σ' H'
structure yR(K:J8)(H:Hp)(D2:ir)(E:Ends):Prop where
 nx:kX K H D2.nx E.nx
 rt:iS K H D2.rt E.rt
 bk:kX K H D2.bk E.bk
 ct:kX K H D2.ct E.ct
def iS.mono{Q2:bI}{Q:VK}(c:iS K H Q2 Q)(t:ay H H1):iS K H1 Q2 Q:=λ v H' d M' a b e q=>c v H' d M' a b (t.trans e) q
def uB.mono{Q2:Bool->Mem->Prop}{Q:Bool->Hp->Prop}(c:uB K H Q2 Q)(t:ay H H1):uB K H1 Q2 Q:=λ v H' M' b e q=>c v H' M' b (t.trans e) q
def kX.mono{N2:cH->Mem->Prop}{N:St->Hp->Prop}(c:kX K H N2 N)(t:ay H H1):kX K H1 N2 N:=λ v H' d M' a b e q=>c v H' d M' a b (t.trans e) q
theorem yR.mono{D2:ir}{E:Ends}(c:yR K H D2 E)(t:ay H H1):yR K H1 D2 E:=⟨c.nx.mono t,c.rt.mono t,c.bk.mono t,c.ct.mono t⟩
def up(K:J8)(t:bT):TE:=λ σ H Q=>∃δ M Q2,cD K H δ σ/\lf K H M/\t δ M Q2/\iS K H Q2 Q
def wY(K:J8)(t:eB):TT:=λ σ H Q=>∃δ M Q2,cD K H δ σ/\lf K H M/\t δ M Q2/\uB K H Q2 Q
def Yo(K:J8)(t:ij):TA:=λ σ H Q=>∃δ M Q2,cD K H δ σ/\lf K H M/\t δ M Q2/\UC K H Q2 Q
def VA(K:J8)(t:iq):TS:=λ E σ H=>∃δ M D2,cD K H δ σ/\lf K H M/\t D2 δ M/\yR K H D2 E
abbrev QE(X:Cx)(e:Expr)(t:bT):Prop:=PE X e (up X.K t)
structure WE(X:Cx)(e:Expr)(t:bT):Prop where
 h:QE X e t
abbrev QT(X:Cx)(e:Expr)(t:eB):Prop:=PT X e (wY X.K t)
structure WT(X:Cx)(e:Expr)(t:eB):Prop where
 h:QT X e t
abbrev QW(X:Cx)(e:Expr)(t:eB):Prop:=PW X e (wY X.K t)
structure WW(X:Cx)(e:Expr)(t:eB):Prop where
 h:QW X e t
abbrev QA(X:Cx)(es:List Expr)(t:ij):Prop:=PA X es (Yo X.K t)
structure WA(X:Cx)(e:List Expr)(t:ij):Prop where
 h:QA X e t
abbrev QS(X:Cx)(st:Stmt)(t:iq):Prop:=PS X st (VA X.K t)
structure WS(X:Cx)(e:Stmt)(t:iq):Prop where
 h:QS X e t
abbrev ZY(X:Cx)(Ko:List Stmt)(t:iq):Prop:=uA X Ko (VA X.K t)
structure FJ(X:Cx)(e:List Stmt)(t:iq):Prop where
 h:ZY X e t
theorem WW.pt{t:eB}(w:WW X e t):WT X e t:=⟨w.h.pt⟩
def bN{t t':TE}(h:PE X e t)(k:∀σ H Q,t' σ H Q->t σ H Q):PE X e t':=λ ce s σ H Q I q=>h ce s σ H Q I (k σ H Q q)
def xA{t t':TT}(h:PT X e t)(k:∀σ H Q,t' σ H Q->t σ H Q):PT X e t':=λ ce s σ H Q I q=>h ce s σ H Q I (k σ H Q q)
def KJ{t t':TT}(h:PW X e t)(k:∀σ H Q,t' σ H Q->t σ H Q):PW X e t':=λ wh ce s σ H Q I q=>h wh ce s σ H Q I (k σ H Q q)
def CK{t t':TA}(h:PA X es t)(k:∀σ H Q,t' σ H Q->t σ H Q):PA X es t':=λ pos ce s σ H Q I q=>h pos ce s σ H Q I (k σ H Q q)
def jd{t t':TS}(h:PS X st t)(k:∀E σ H,t' E σ H->t E σ H):PS X st t':=λ ce s σ H E I q=>h ce s σ H E I (k E σ H q)
def vg{t t':TS}(h:uA X Ko t)(k:∀E σ H,t' E σ H->t E σ H):uA X Ko t':=λ ce s σ H E I q=>h ce s σ H E I (k E σ H q)
end L3
variable {ds:List L3.D}{M M' M1:L3.Mem}{d:L3.D}{te:L3.bT}{Qe:List L3.D->L3.Mem->Prop}{tt:L3.eB}{δ:L3.cH}{r2:List L3.D->L3.Mem->L3.bI->Prop}{N:L3.cH->L3.Mem->Prop}{ta t:L3.ij}{tb:L3.iq}{QB:Bool->L3.Mem->Prop}
namespace L3
open PySem.Spec L2
abbrev fq:=D->D->Mem->bI->Prop
def Fj(K:J8)(r:R2)(r2:fq):Prop:=∀x y d e H M Q2 Q,kt K H d x->kt K H e y->lf K H M->r2 d e M Q2->iS K H Q2 Q->r x y H Q
def X'(K:J8)(r:V->Hp->VK->Prop)(r2:D->Mem->bI->Prop):Prop:=∀x d H M Q2 Q,kt K H d x->lf K H M->r2 d M Q2->iS K H Q2 Q->r x H Q
def O8(K:J8)(r:List V->Hp->VK->Prop)(r2:List D->Mem->bI->Prop):Prop:=∀xs ds H M Q2 Q,aE K H ds xs->lf K H M->r2 ds M Q2->iS K H Q2 Q->r xs H Q
def Ya(K:J8)(r:V->List V->Hp->VK->Prop)(r2:D->List D->Mem->bI->Prop):Prop:=∀x xs d ds H M Q2 Q,kt K H d x->aE K H ds xs->lf K H M->r2 d ds M Q2->iS K H Q2 Q->r x xs H Q
def Ut(K:J8)(r:V->Option Int->Option Int->Hp->VK->Prop)(r2:D->Option Int->Option Int->Mem->bI->Prop):Prop:=∀x d lo hi H M Q2 Q,kt K H d x->lf K H M->r2 d lo hi M Q2->iS K H Q2 Q->r x lo hi H Q
def fm(X:Cx)(f:al->al->Sem al)(r2:fq):Prop:=∃r,eN X f r/\Fj X.K r r2
def ZW(X:Cx)(f:al->Sem al)(r2:D->Mem->bI->Prop):Prop:=∃r,Vj X f r/\X' X.K r r2
def Vo(X:Cx)(r2:fq):Prop:=∃r,wN X r/\Fj X.K r r2
def Vl(X:Cx)(r2:D->Option Int->Option Int->Mem->bI->Prop):Prop:=∃r,yO X r/\Ut X.K r r2
def de(X:Cx)(f:al)(r2:List D->Mem->bI->Prop):Prop:=∃r,cI X f r/\O8 X.K r r2
def Pa(X:Cx)(id:String)(r2:D->List D->Mem->bI->Prop):Prop:=∃r,Ux X id r/\Ya X.K r r2
section
variable {a b c:Expr}{ta tb tc:bT}
def GZ(i:Nat):bT:=λ δ M Q=>match δ[i]? with
 |some (some d)=>Q d M
 |_=>False
def sC(d:D):bT:=λ _ M Q=>Q d M
def aj(i:Nat){x:Str}(hN:X.N[i]?=some x:=by rfl)(hv:X_ X.env.scope x:=by first|exact Or.inl rfl|exact Or.inr (Or.inl rfl)|exact Or.inr (Or.inr rfl))(hd:nV x:=by decide)(Ec:Z3 x:=by decide):WE X (.Name x pos) (GZ i):=⟨bN (MU hN hv hd Ec) λ σ H Q ⟨δ,M,Q2,hs,hm,q,k⟩=>by
 unfold GZ at q;cases e:δ[i]? with
 |none=>rw[e]at q;exact q.elim
 |some o=>
  cases o with
  |none=>rw[e]at q;exact q.elim
  |some d=>
   rw[e]at q;obtain⟨v,h1,h2⟩:=hs.get i d e;exact⟨v,h1,k v H d M h2 hm (ay.refl H) q⟩⟩
def ag{i j:_}:WE X (.Constant (.int i) j pos) (sC (.int i)):=⟨bN CD λ σ H Q ⟨δ,M,Q2,hs,hm,q,k⟩=>k _ H (.int i) M (aw.mpr rfl) hm (ay.refl H) q⟩
def kY{i j:_}:WE X (.Constant (.bool i) j pos) (sC (.bl i)):=⟨bN RP λ σ H Q ⟨δ,M,Q2,hs,hm,q,k⟩=>k _ H (.bl i) M (aL.mpr rfl) hm (ay.refl H) q⟩
def KH{i j:_}:QE X (.Constant (.str i) j pos) (sC (.str i)):=bN MW λ σ H Q ⟨δ,M,Q2,hs,hm,q,k⟩=>k _ H (.str i) M (aJ.mpr rfl) hm (ay.refl H) q
def fw{j:_}:WE X (.Constant .none j pos) (sC .bh):=⟨bN MZ λ σ H Q ⟨δ,M,Q2,hs,hm,q,k⟩=>k _ H .bh M (dm.mpr rfl) hm (ay.refl H) q⟩
structure fQ(K:J8)(mg:Str->Option al)(x:Str)(d:D):Prop where
 ex:∃u v,mg x=some u/\lc v u/\∀H,kt K H d v
def gH{x:Str}(G:fQ X.K X.mg x d)(hg:Gl X x:=by rfl)(hd:nV x:=by decide):WE X (.Name x pos) (sC d):=by refine⟨?_⟩;obtain⟨u,v,hm,r,hD⟩:=G.ex;exact bN (xD hg hm r hd) λ σ H Q ⟨δ,M,Q2,hs,hm,q,k⟩=>k _ H d M (hD H) hm (ay.refl H) q
def iz{x:Str}{n:String}(hm:X.mg x=none)(hg:Gl X x:=by rfl)(hv:bootBuiltins x=some (.type n):=by decide+kernel)(hn:x≠"__name__":=by decide)(hd:nV x:=by decide):WE X (.Name x pos) (sC (.ty n)):=⟨bN (Ik (v:=.ty n) hg hm hv rfl hn hd) λ σ H Q ⟨δ,M,Q2,hs,hm,q,k⟩=>k _ H (.ty n) M (vY.mpr rfl) hm (ay.refl H) q⟩
def Pn(r2:fq)(ta tb:bT):bT:=λ δ M Q=>ta δ M λ d M1=>tb δ M1 λ e M2=>r2 d e M2 Q
def lH{r:R2}{r2:fq}(hr:Fj K r r2):∀σ H Q,up K (Pn r2 ta tb) σ H Q->Qk r (up K ta) (up K tb) σ H Q:=by rintro σ H Q ⟨δ,M,Q2,hs,hm,q,k⟩;refine⟨δ,M,_,hs,hm,q,λ x H1 d M1 hd bV t1 q1=>?_⟩;refine⟨δ,M1,_,hs.mono t1,bV,q1,λ y H2 e M2 he jG t2 q2=>?_⟩;exact hr x y d e H2 M2 Q2 Q (kt.mono t2 d hd) he jG q2 (k.mono (t1.trans t2))
def bu{op:Operator}{r2:fq}(o:fm X (binaryOp op) r2)(ha:WE X a ta)(hb:WE X b tb):WE X (.BinOp a op b pos) (Pn r2 ta tb):=by replace ha:=ha.h;replace hb:=hb.h;refine⟨?_⟩;obtain⟨r,ho,hr⟩:=o;exact bN (RN ho ha hb) (lH hr)
def Y_(r2:D->Mem->bI->Prop)(ta:bT):bT:=λ δ M Q=>ta δ M λ d M1=>r2 d M1 Q
def rH{op:UnaryOp}{r2:D->Mem->bI->Prop}(o:ZW X (unaryOp op) r2)(ha:WE X a ta):WE X (.UnaryOp op a pos) (Y_ r2 ta):=by replace ha:=ha.h;refine⟨?_⟩;obtain⟨r,ho,hr⟩:=o;refine bN (RL ho ha) ?_;rintro σ H Q ⟨δ,M,Q2,hs,hm,q,k⟩;exact⟨δ,M,_,hs,hm,q,λ x H1 d M1 hd bV t1 q1=>hr x d H1 M1 Q2 Q hd bV q1 (k.mono t1)⟩
def dw{op:CmpOp}{r2:fq}(o:fm X (compareOp op) r2)(ha:WE X a ta)(hb:WE X b tb)(hm:behindInMarks op b=false:=by first|rfl|exact NM _):WE X (.Compare a [op] [b] pos) (Pn r2 ta tb):=by replace ha:=ha.h;replace hb:=hb.h;refine⟨?_⟩;obtain⟨r,ho,hr⟩:=o;exact bN (Ii ho ha hb hm) (lH hr)
def xk(t:bT):eB:=λ δ M Q=>t δ M λ d M1=>match d with
 | .bl k=>Q k M1
 |_=>False
def jO{Q2:Bool->Mem->Prop}{Q:Bool->Hp->Prop}(k:uB K H Q2 Q):iS K H (λ d M1=>match d with| .bl k=>Q2 k M1|_=>False) (λ x H'=>∃k,x=.bl k/\Q k H'):=λ v H' d M' hd hm t q=>by
 cases d with
 |bl b=>exact⟨b,aL.mp hd,k b H' M' hm t q⟩
 |_=>exact q.elim
def aI{op:CmpOp}{r2:fq}(o:fm X (compareOp op) r2)(ha:WE X a ta)(hb:WE X b tb)(hm:behindInMarks op b=false:=by first|rfl|exact NM _):WT X (.Compare a [op] [b] pos) (xk (Pn r2 ta tb)):=by replace ha:=ha.h;replace hb:=hb.h;refine⟨?_⟩;obtain⟨r,ho,hr⟩:=o;refine xA (HW ho ha hb hm) ?_;rintro σ H Q ⟨δ,M,Q2,hs,hm,q,k⟩;exact lH hr σ H _ ⟨δ,M,_,hs,hm,q,jO k⟩
def u_(r r':fq)(ta tb tc:bT):bT:=λ δ M Q=>ta δ M λ d M1=>tb δ M1 λ e M2=>r d e M2 λ z M3=>match z with
 | .bl k=>if k=true then tc δ M3 λ w M4=>r' e w M4 Q else Q (.bl false) M3
 |_=>False
def wt{r r':R2}{r2 Pp:fq}(hr:Fj K r r2)(WX:Fj K r' Pp):∀σ H Q,up K (u_ r2 Pp ta tb tc) σ H Q->Bn r r' (up K ta) (up K tb) (up K tc) σ H Q:=by
 rintro σ H Q ⟨δ,M,Q2,hs,hm,q,k⟩;refine⟨δ,M,_,hs,hm,q,λ x H1 d M1 hd bV t1 q1=>?_⟩;refine⟨δ,M1,_,hs.mono t1,bV,q1,λ y H2 e M2 he jG t2 q2=>?_⟩;refine hr x y d e H2 M2 _ _ (kt.mono t2 d hd) he jG q2 λ v H3 z M3 hz sY t3 q3=>?_;cases z with
 |bl b=>
  refine⟨b,aL.mp hz,?_⟩;have q3:if b=true then tc δ M3 λ w M4=>Pp e w M4 Q2 else Q2 (.bl false) M3:=q3
  cases b with
  |true=>rw[J6 rfl]at q3 ⊢;exact⟨δ,M3,_,hs.mono (t1.trans (t2.trans t3)),sY,q3,λ w' H4 w M4 hw U' t4 q4=>WX y w' e w H4 M4 Q2 Q (kt.mono (t3.trans t4) e he) hw U' q4 (k.mono (t1.trans (t2.trans (t3.trans t4))))⟩
  |false=>rw[J7 n0]at q3 ⊢;exact k _ H3 (.bl false) M3 (aL.mpr rfl) sY (t1.trans (t2.trans t3)) q3
 |_=>exact q3.elim
def lT{op Nu:CmpOp}{r2 Pp:fq}(o:fm X (compareOp op) r2)(o':fm X (compareOp Nu) Pp)(ha:WE X a ta)(hb:WE X b tb)(hc:WE X c tc)(hm:lastMarks [op,Nu] [b,c]=false:=by with_unfolding_all rfl):WT X (.Compare a [op,Nu] [b,c] pos) (xk (u_ r2 Pp ta tb tc)):=by replace ha:=ha.h;replace hb:=hb.h;replace hc:=hc.h;refine⟨?_⟩;obtain⟨r,ho,hr⟩:=o;obtain⟨r',kL,WX⟩:=o';refine xA (Cr ho kL ha hb hc hm) ?_;rintro σ H Q ⟨δ,M,Q2,hs,hm,q,k⟩;exact wt hr WX σ H _ ⟨δ,M,_,hs,hm,q,jO k⟩
def cJ(h:WE X e ta)(he:IsT X e:=by intro _;rfl):WT X e (xk ta):=by replace h:=h.h;refine⟨?_⟩;refine xA (MG h he) ?_;rintro σ H Q ⟨δ,M,Q2,hs,hm,q,k⟩;exact⟨δ,M,_,hs,hm,q,jO k⟩
variable {tA tB:eB}
def Rh(t u:eB):eB:=λ δ M Q=>t δ M λ c M1=>if c=true then u δ M1 Q else Q false M1
def Zc(t u:eB):eB:=λ δ M Q=>t δ M λ c M1=>if c=true then Q true M1 else u δ M1 Q
def Q_(t:eB):eB:=λ δ M Q=>t δ M λ c M1=>Q (!c) M1
def dH(ha:WT X a tA):WW X (.BoolOp .And [a] pos) tA:=⟨have ha:=ha.h;HS ha⟩
def ix(ha:WT X a tA):WW X (.BoolOp .Or [a] pos) tA:=⟨have ha:=ha.h;ME ha⟩
def dB(ha:WT X a tA)(hb:WW X (.BoolOp .And (b::rest) pos) tB):WW X (.BoolOp .And (a::b::rest) pos) (Rh tA tB):=⟨have ha:=ha.h;have hb:=hb.h;KJ (MF ha hb) λ σ H Q ⟨δ,M,Q2,hs,hm,q,k⟩=>by
 refine⟨δ,M,_,hs,hm,q,λ c H1 M1 bV t1 q1=>?_⟩;cases c with
 |true=>rw[J6 rfl]at q1 ⊢;exact⟨δ,M1,Q2,hs.mono t1,bV,q1,k.mono t1⟩
 |false=>
  rw[J7 n0]at q1 ⊢;exact k _ _ _ bV t1 q1⟩
def lS(ha:WT X a tA)(hb:WW X (.BoolOp .Or (b::rest) pos) tB):WW X (.BoolOp .Or (a::b::rest) pos) (Zc tA tB):=⟨have ha:=ha.h;have hb:=hb.h;KJ (RH ha hb) λ σ H Q ⟨δ,M,Q2,hs,hm,q,k⟩=>by
 refine⟨δ,M,_,hs,hm,q,λ c H1 M1 bV t1 q1=>?_⟩;cases c with
 |true=>rw[J6 rfl]at q1 ⊢;exact k _ _ _ bV t1 q1
 |false=>
  rw[J7 n0]at q1 ⊢;exact⟨δ,M1,Q2,hs.mono t1,bV,q1,k.mono t1⟩⟩
def jK(ha:WT X a tA):WT X (.UnaryOp .Not a pos) (Q_ tA):=⟨have ha:=ha.h;xA (MH ha) λ σ H Q ⟨δ,M,Q2,hs,hm,q,k⟩=>⟨δ,M,_,hs,hm,q,λ c H1 M1 bV t1 q1=>k _ _ _ bV t1 q1⟩⟩
def KC(ta tb:bT):bT:=λ δ M Q=>ta δ M λ d M1=>match d with
 | .bl c=>if c=true then tb δ M1 Q else Q (.bl false) M1
 |_=>False
def Q9(ta tb:bT):bT:=λ δ M Q=>ta δ M λ d M1=>match d with
 | .bl c=>if c=true then Q (.bl true) M1 else tb δ M1 Q
 |_=>False
def Ku(ta:bT):bT:=λ δ M Q=>ta δ M λ d M1=>match d with
 | .bl c=>Q (.bl (!c)) M1
 |_=>False
def ik{op:_}(h:WE X a ta):WE X (.BoolOp op [a] pos) ta:=⟨have h:=h.h;MX h⟩
def w_and(ha:WE X a ta)(hb:WE X (.BoolOp .And (b::rest) pos) tb):WE X (.BoolOp .And (a::b::rest) pos) (KC ta tb):=⟨have ha:=ha.h;have hb:=hb.h;bN (Nb ha hb) λ σ H Q ⟨δ,M,Q2,hs,hm,q,k⟩=>by
 refine⟨δ,M,_,hs,hm,q,λ x H1 d M1 hd bV t1 q1=>?_⟩;cases d with
 |bl c=>
  refine⟨c,aL.mp hd,?_⟩;have q1:if c=true then tb δ M1 Q2 else Q2 (.bl false) M1:=q1
  cases c with
  |true=>rw[J6 rfl]at q1 ⊢;exact⟨δ,M1,Q2,hs.mono t1,bV,q1,k.mono t1⟩
  |false=>rw[J7 n0]at q1 ⊢;exact k _ _ _ _ (aL.mpr rfl) bV t1 q1
 |_=>exact q1.elim⟩
def w_or(ha:WE X a ta)(hb:WE X (.BoolOp .Or (b::rest) pos) tb):WE X (.BoolOp .Or (a::b::rest) pos) (Q9 ta tb):=⟨have ha:=ha.h;have hb:=hb.h;bN (RM ha hb) λ σ H Q ⟨δ,M,Q2,hs,hm,q,k⟩=>by
 refine⟨δ,M,_,hs,hm,q,λ x H1 d M1 hd bV t1 q1=>?_⟩;cases d with
 |bl c=>
  refine⟨c,aL.mp hd,?_⟩;have q1:if c=true then Q2 (.bl true) M1 else tb δ M1 Q2:=q1
  cases c with
  |true=>rw[J6 rfl]at q1 ⊢;exact k _ _ _ _ (aL.mpr rfl) bV t1 q1
  |false=>rw[J7 n0]at q1 ⊢;exact⟨δ,M1,Q2,hs.mono t1,bV,q1,k.mono t1⟩
 |_=>exact q1.elim⟩
def w_not(ha:WE X a ta):WE X (.UnaryOp .Not a pos) (Ku ta):=⟨have ha:=ha.h;bN (MY ha) λ σ H Q ⟨δ,M,Q2,hs,hm,q,k⟩=>by
 refine⟨δ,M,_,hs,hm,q,λ x H1 d M1 hd bV t1 q1=>?_⟩;cases d with
 |bl c=>exact⟨c,aL.mp hd,k _ _ _ _ (aL.mpr rfl) bV t1 q1⟩
 |_=>exact q1.elim⟩
def Zd(t:eB)(ta tb:bT):bT:=λ δ M Q=>t δ M λ c M1=>if c=true then ta δ M1 Q else tb δ M1 Q
def Vz(hc:WT X c tA)(ha:WE X a ta)(hb:WE X b tb):WE X (.IfExp c a b pos) (Zd tA ta tb):=⟨have hc:=hc.h;have ha:=ha.h;have hb:=hb.h;bN (CF hc ha hb) λ σ H Q ⟨δ,M,Q2,hs,hm,q,k⟩=>by
 refine⟨δ,M,_,hs,hm,q,λ c H1 M1 bV t1 q1=>?_⟩;cases c with
 |true=>rw[J6 rfl]at q1 ⊢;exact⟨δ,M1,Q2,hs.mono t1,bV,q1,k.mono t1⟩
 |false=>
  rw[J7 n0]at q1 ⊢;exact⟨δ,M1,Q2,hs.mono t1,bV,q1,k.mono t1⟩⟩
def zh:ij:=λ _ M Q=>Q [] M
def iZ(ta:bT)(tr:ij):ij:=λ δ M Q=>ta δ M λ d M1=>tr δ M1 λ ds M2=>Q (d::ds) M2
def Cn:QA X [] zh:=CK iF λ σ H Q ⟨δ,M,Q2,hs,hm,q,k⟩=>k [] H [] M (by rw[au]) hm (ay.refl H) q
def xy(ha:QE X e ta)(hr:QA X es t)(hs:ux X e es:=by rfl):QA X (e::es) (iZ ta t):=CK (gf ha hr hs) λ σ H Q ⟨δ,M,Q2,hs,hm,q,k⟩=>by refine⟨δ,M,_,hs,hm,q,λ x H1 d M1 hd bV t1 q1=>?_⟩;refine⟨δ,M1,_,hs.mono t1,bV,q1,λ xs H2 ds M2 Eb jG t2 q2=>?_⟩;exact k (x::xs) H2 (d::ds) M2 (af.mpr ⟨x,xs,rfl,kt.mono t2 d hd,Eb⟩) jG (t1.trans t2) q2
def Q7(t:ij):bT:=λ δ M Q=>t δ M λ ds M1=>ds.length<=sizeLine/\Q (.tup ds) M1
def fU(hp:H p=none)(h:aE K H ds xs):kt K (lm H p (.tup xs)) (.tup ds) (.ref p):=aP.mpr ⟨p,xs,rfl,fj.of bL,aE.mono (ay.laid hp) ds h⟩
def cz{x1:_}(h:WA X es t):WE X (.Tuple es x1 pos) (Q7 t):=⟨have h:=h.h;bN (MV h) λ σ H Q ⟨δ,M,Q2,hs,hm,q,k⟩=>by
 refine⟨δ,M,_,hs,hm,q,λ xs H1 ds M1 hd bV t1 q1=>?_⟩;refine⟨by rw[hd.length];exact q1.1,λ p hp=>?_⟩;exact k _ _ (.tup ds) M1 (fU hp hd) (bV.laid hp) (t1.trans (ay.laid hp)) q1.2⟩
def Ra(t:ij):bT:=λ δ M Q=>t δ M λ ds M1=>ds.length<=sizeLine/\∀p,M1 p=none->Q (.ref p) (ak M1 p (.lst ds))
def cS(hp:H p=none)(h:aE K H ds xs)(hm:lf K H M):lf K (lm H p (.lst xs)) (ak M p (.lst ds)):=
 hm.put (ay.laid hp) ⟨xs,bL,aE.mono (ay.laid hp) ds h⟩
def a_(h:WA X es t):WE X (.List es pos) (Ra t):=⟨have h:=h.h;bN (M_ h) λ σ H Q ⟨δ,M,Q2,hs,hm,q,k⟩=>by
 refine⟨δ,M,_,hs,hm,q,λ xs H1 ds M1 hd bV t1 q1=>?_⟩;refine⟨by rw[hd.length];exact q1.1,λ p hp=>?_⟩;exact k _ _ (.ref p) _ (aH.mpr rfl) (cS hp hd bV) (t1.trans (ay.laid hp)) (q1.2 p (bV.free hp))⟩
def aO{r2:fq}(o:Vo X r2)(ha:WE X a ta)(hb:WE X b tb)(hs:yP b:=by exact λ _ _=>rfl):WE X (.Subscript a b pos) (Pn r2 ta tb):=by replace ha:=ha.h;replace hb:=hb.h;refine⟨?_⟩;obtain⟨r,ho,hr⟩:=o;exact bN (RO ho ha hb hs) (lH hr)
abbrev Kc:=cH->Mem->(Option Int->Mem->Prop)->Prop
def UA(K:J8)(H:Hp)(Q2:Option Int->Mem->Prop)(Q:Option Int->Hp->Prop):Prop:=∀o H' M',lf K H' M'->ay H H'->Q2 o M'->Q o H'
def Z8(K:J8)(t:Kc):TO:=λ σ H Q=>∃δ M Q2,cD K H δ σ/\lf K H M/\t δ M Q2/\UA K H Q2 Q
abbrev QO(X:Cx)(e:Option Expr)(t:Kc):Prop:=PO X e (Z8 X.K t)
structure WO(X:Cx)(e:Option Expr)(t:Kc):Prop where
 h:QO X e t
def KL{e:Option Expr}{t t':TO}(h:PO X e t)(k:∀σ H Q,t' σ H Q->t σ H Q):PO X e t':=λ ce s σ H Q I q=>h ce s σ H Q I (k σ H Q q)
def xp:Kc:=λ _ M Q=>Q none M
def Kt(t:bT):Kc:=λ δ M Q=>t δ M λ d M1=>match d with
 | .int i=>Q (some i) M1
 |_=>False
def fT:WO X none xp:=⟨KL Ib λ σ H Q ⟨δ,M,Q2,hs,hm,q,k⟩=>k _ _ _ hm (ay.refl H) q⟩
def ef(h:WE X e ta):WO X (some e) (Kt ta):=⟨have h:=h.h;KL (Ia h) λ σ H Q ⟨δ,M,Q2,hs,hm,q,k⟩=>by
 refine⟨δ,M,_,hs,hm,q,λ x H1 d M1 hd bV t1 q1=>?_⟩;cases d with
 |int i=>exact⟨i,aw.mp hd,k _ _ _ bV t1 q1⟩
 |_=>exact q1.elim⟩
variable {lo hi:Option Expr}{tl th:Kc}
def Y'(r2:D->Option Int->Option Int->Mem->bI->Prop)(te:bT)(tl th:Kc):bT:=λ δ M Q=>te δ M λ d M1=>tl δ M1 λ l M2=>th δ M2 λ u M3=>r2 d l u M3 Q
def eP{r2:D->Option Int->Option Int->Mem->bI->Prop}(o:Vl X r2)(he:WE X e ta)(hl:WO X lo tl)(hu:WO X hi th):WE X (.Subscript e (.Slice lo hi none p2) pos) (Y' r2 ta tl th):=by replace he:=he.h;replace hl:=hl.h;replace hu:=hu.h;refine⟨?_⟩;obtain⟨r,ho,hr⟩:=o;refine bN (CC ho he hl hu) ?_;rintro σ H Q ⟨δ,M,Q2,hs,hm,q,k⟩;refine⟨δ,M,_,hs,hm,q,λ x H1 d M1 hd bV t1 q1=>?_⟩;refine⟨δ,M1,_,hs.mono t1,bV,q1,λ l H2 M2 jG t2 q2=>?_⟩;refine⟨δ,M2,_,hs.mono (t1.trans t2),jG,q2,λ u H3 M3 sY t3 q3=>?_⟩;exact hr x d l u H3 M3 Q2 Q (kt.mono (t2.trans t3) d hd) sY q3 (k.mono (t1.trans (t2.trans t3)))
def UO(r2:List D->Mem->bI->Prop)(t:ij):bT:=λ δ M Q=>t δ M λ ds M1=>r2 ds M1 Q
variable {x:Str}{p:Pos}{id:String}
def yF(hr:O8 K r r2):∀σ H Q,up K (UO r2 t) σ H Q->UL r (Yo K t) σ H Q:=by rintro σ H Q ⟨δ,M,Q2,hs,hm,q,k⟩;exact⟨δ,M,_,hs,hm,q,λ xs H1 ds M1 hd bV t1 q1=>hr xs ds H1 M1 Q2 Q hd bV q1 (k.mono t1)⟩
def aQ(o:de X (.builtin id) r2)(hm:X.mg x=none)(ha:WA X (e::es) t)(hg:Gl X x:=by rfl)(hv:bootBuiltins x=some (.builtin id):=by decide+kernel)(hn:x≠"__name__":=by decide)(tf:nV x:=by decide)(he:ux X e es:=by rfl)(gS:Kg X pos es:=by rfl):WE X (.Call (.Name x p) (e::es) [] pos) (UO r2 t):=by replace ha:=ha.h;refine⟨?_⟩;obtain⟨r,ho,hr⟩:=o;exact bN (sk ho hg hm hv ha hn tf he gS) (yF hr)
def bS(o:de X (.type T) r2)(hm:X.mg x=none)(ha:WA X (e::es) t)(hg:Gl X x:=by rfl)(hv:bootBuiltins x=some (.type T):=by decide+kernel)(hn:x≠"__name__":=by decide)(tf:nV x:=by decide)(he:ux X e es:=by rfl)(gS:Kg X pos es:=by rfl):WE X (.Call (.Name x p) (e::es) [] pos) (UO r2 t):=by replace ha:=ha.h;refine⟨?_⟩;obtain⟨r,ho,hr⟩:=o;exact bN (oz ho hg hm hv ha hn tf he gS) (yF hr)
end
def Ph(T:String)(d:D)(M:Mem):Prop:=match d with
 | .str _=>T="str"
 | .ref a=>T="list"/\∃ds,M a=some (.lst ds)
 |_=>False
def Ph.v9{x:V}(h:Ph T d M)(r:kt K H d x)(hm:lf K H M):VC K T x H:=by
 cases d with
 |str z=>cases(aJ.mp r);exact h
 |ref a=>cases(aH.mp r);obtain⟨e,ds,q⟩:=h;obtain⟨xs,hx,_⟩:=hm a _ q;exact .inl ⟨e,xs,dv.of hx⟩
 |_=>exact h.elim
section
variable {o:Expr}{to:bT}{id:String}
def Ze(T:String)(r2:D->List D->Mem->bI->Prop)(to:bT)(t:ij):bT:=λ δ M Q=>to δ M λ d M1=>Ph T d M1/\t δ M1 λ ds M2=>r2 d ds M2 Q
def cW{r2:D->List D->Mem->bI->Prop}(pa:PlainAttrs T)(slot:Slot T name id)(Of:Yc id)(hm:Pa X id r2)(ho:WE X o to)(ha:WA X (e::es) t)(tp:Ym X o name:=by rfl)(jX:Z6 X dF e es:=by rfl)(sZ:Yd apos dF:=by rfl)(hs:ux X e es:=by rfl)(vO:Kg X dF es:=by rfl):WE X (.Call (.Attribute o name apos) (e::es) [] dF) (Ze T r2 to t):=by replace ho:=ho.h;replace ha:=ha.h;refine⟨?_⟩;obtain⟨r,h1,hr⟩:=hm;refine bN (KN pa slot Of h1 ho ha tp jX sZ hs vO) ?_;rintro σ H Q ⟨δ,M,Q2,hs,hm,q,k⟩;refine⟨δ,M,_,hs,hm,q,λ x H1 d M1 hd bV t1 q1=>⟨q1.1.v9 hd bV,δ,M1,_,hs.mono t1,bV,q1.2,λ xs H2 ds M2 Eb jG t2 q2=>?_⟩⟩;exact hr x xs d ds H2 M2 Q2 Q (kt.mono t2 d hd) Eb jG q2 (k.mono (t1.trans t2))
end
abbrev cO:=List D->Mem->bI->Prop
def bD(K:J8)(sp:cO):Sp:=λ vs H Q _=>∃ds M Q2,aE K H ds vs/\lf K H M/\sp ds M Q2/\iS K H Q2 Q
def sD(sp:cO)(t:ij):bT:=λ δ M Q=>t δ M λ ds M1=>sp ds M1 Q
abbrev bb(P:Program)(w:World)(K:J8)(mg:Str->Option al)(base:Heap)(k:Nat)(x:Str)(ps:List Str)(sp:cO):Prop:=iu P w K mg base k x ps (bD K sp)
section
variable {x:Str}{p:Pos}{j:Nat}{sp:cO}
def aB(d:bb X.prog X.w X.K X.mg X.base k x ps sp)(ha:WA X (e::es) t)(hr:cR k X.A:=by exact hr.mono (by first|decide|lia))(hg:Gl X x:=by rfl)(tf:nV x:=by decide)(he:ux X e es:=by rfl)(gS:Kg X pos es:=by rfl):WE X (.Call (.Name x p) (e::es) [] pos) (sD sp t):=by replace ha:=ha.h;refine⟨?_⟩;refine bN (Na d hr hg ha tf he gS) ?_;rintro σ H Q ⟨δ,M,Q2,hs,hm,q,k⟩;exact⟨δ,M,_,hs,hm,q,λ xs H1 ds M1 hd bV t1 q1=>⟨ds,M1,Q2,hd,bV,q1,k.mono t1⟩⟩
end
def jQ(N:List Str)(ds:List D):cH:=ds.map some++List.replicate (N.length-ds.length) none
def zc{N:List Str}{vs:List V}(h:aE K H ds vs):cD K H (jQ N ds) (L2.start N vs):=by
 have hl:=h.length;refine⟨by unfold jQ L2.start;simp[hl],λ i d e=>?_⟩;unfold jQ at e;by_cases hi:i<ds.length
 ·rw[b9 (by simpa using hi),w6]at e;cases q:ds[i]? with
  |none=>rw[q]at e;cases e
  |some d'=>
   rw[q]at e;have e:d'=d:=by simpa using e
   subst e;obtain⟨v,hv,r⟩:=h.get q;refine⟨v,?_,r⟩;unfold L2.start;rw[b9 (by simp;lia),w6,hv];rfl
 ·rw[b7 (by simpa using hi),e9]at e;split at e<;>cases e
def fin2(Q:bI):bI:=λ d M'=>∃wL,fP wL M'/\Q d wL
def ao{Q:bI}(q:Q d M):fin2 Q d M:=⟨M,fP.refl M,q⟩
def ok2{x qual:Str}{st:Stmt}{f:be}{fd:FuncData}{N ps:List Str}{k:Nat}{sp:cO}(F:dh K x qual st f fd)(S:jE N ps (bF st))(len:∀ds M Q,sp ds M Q->ds.length=ps.length) (hbody:∀(b_:al)(A:Around)(outer:List Env)(s:am)(H:Hp)(E:XK)(ds:List D)(M:Mem)(Q:bI),cR k (A.deeper (PyProof.Rows.envOfC qual (bF st) s.heap.objs.size f b_))->sp ds M Q->
   ∃t,ZY (tV cM P w K mg base N qual (bF st) f b_ A outer s H E).Pu (cF st) t/\t {nx:=λ _ M'=>fin2 Q .bh M',rt:=fin2 Q} (jQ N ds) M):bg P w K mg base cM (k+1) f fd ps (bD K sp):=by
 refine F.ok S (λ vs H Q E h=>?_) (λ b_ A outer s H vs Q E hr h=>?_)
 ·obtain⟨ds,M,Q2,hd,_,hs,_⟩:=h;rw[hd.length];exact len ds M Q2 hs
 ·obtain⟨ds,M,Q2,hd,hm,hs,kk⟩:=h;obtain⟨t,ht,q⟩:=hbody b_ A outer s H E ds M Q2 hr hs;refine⟨_,ht,jQ N ds,M,_,zc hd,hm,q,⟨?_,?_,?_,?_⟩⟩
  ·exact λ σ' H' δ' M' _ gE t' ⟨wL,s,q⟩=>kk _ H' .bh wL (dm.mpr rfl) (gE.sub s) t' q
  ·exact λ v H' d M' ie gE t' ⟨wL,s,q⟩=>kk v H' d wL ie (gE.sub s) t' q
  ·exact λ σ' H' δ' M' _ gE t' q=>q
  ·exact λ σ' H' δ' M' _ gE t' q=>q
section
variable {rest:List Stmt}{t u:iq}
def Kv:iq:=λ E δ M=>E.nx δ M
def L6(t u:iq):iq:=λ E δ M=>t {E with nx:=u E} δ M
def aK:FJ X [] Kv:=⟨vg HY λ E σ H ⟨δ,M,D2,hs,hm,q,k⟩=>k.nx σ H δ M hs hm (ay.refl H) q⟩
def ae(h:WS X st t):FJ X [st] t:=⟨have h:=h.h;HX h⟩
def aa(h1:WS X st t)(h2:FJ X rest u):FJ X (st::rest) (L6 t u):=⟨have h1:=h1.h;have h2:=h2.h;vg (Cs h1 h2) λ E σ H ⟨δ,M,D2,hs,hm,q,k⟩=>by
 refine⟨δ,M,_,hs,hm,q,⟨λ σ' H' δ' M' vM gE t' q'=>?_,k.rt,k.bk,k.ct⟩⟩;exact⟨δ',M',D2,vM,gE,q',k.mono t'⟩⟩
def L7:iq:=λ _ _ _=>False
def cv:FJ X Ko L7:=⟨vg zr λ E σ H ⟨δ,M,D2,hs,hm,q,k⟩=>q.elim⟩
def Kz(te:bT):iq:=λ E δ M=>te δ M λ _ M1=>E.nx δ M1
def aN(he:WE X e te)(hs:swapsWith e none pos.line X.env=pure false:=by rfl):WS X (.Expr e pos) (Kz te):=⟨have he:=he.h;jd (HZ he hs) λ E σ H ⟨δ,M,D2,hs,hm,q,k⟩=>
 ⟨δ,M,_,hs,hm,q,λ x H1 d M1 hd bV t1 q1=>k.nx σ H1 δ M1 (hs.mono t1) bV t1 q1⟩⟩
def Q8(te:bT):iq:=λ E δ M=>te δ M E.rt
def aD(he:WE X e te):WS X (.Return (some e) pos) (Q8 te):=⟨have he:=he.h;jd (MJ he) λ E σ H ⟨δ,M,D2,hs,hm,q,k⟩=>⟨δ,M,_,hs,hm,q,k.rt⟩⟩
def Rc(c:eB)(t u:iq):iq:=λ E δ M=>c δ M λ b M1=>if b=true then t E δ M1 else u E δ M1
def aY{c:Expr}{a b:List Stmt}{tc:eB}(hc:WT X c tc)(ha:FJ X a t)(hb:FJ X b u):WS X (.If c a b pos) (Rc tc t u):=⟨have hc:=hc.h;have ha:=ha.h;have hb:=hb.h;jd (RI hc ha hb) λ E σ H ⟨δ,M,D2,hs,hm,q,k⟩=>by
 refine⟨δ,M,_,hs,hm,q,λ b H1 M1 bV t1 q1=>?_⟩;cases b with
 |true=>rw[J6 rfl]at q1 ⊢;exact⟨δ,M1,D2,hs.mono t1,bV,q1,k.mono t1⟩
 |false=>
  rw[J7 n0]at q1 ⊢;exact⟨δ,M1,D2,hs.mono t1,bV,q1,k.mono t1⟩⟩
abbrev gm:=D->cH->Mem->(cH->Mem->Prop)->Prop
abbrev rh:=List D->cH->Mem->(cH->Mem->Prop)->Prop
def Kl(K:J8)(t:gm):TG:=λ v σ H Q=>∃d δ M Q2,kt K H d v/\cD K H δ σ/\lf K H M/\t d δ M Q2/\kX K H Q2 Q
def VB(K:J8)(t:rh):yN:=λ vs σ H Q=>∃ds δ M Q2,aE K H ds vs/\cD K H δ σ/\lf K H M/\t ds δ M Q2/\kX K H Q2 Q
abbrev QG(X:Cx)(tg:Expr)(t:gm):Prop:=PG X tg (Kl X.K t)
structure WG(X:Cx)(e:Expr)(t:gm):Prop where
 h:QG X e t
abbrev QGs(X:Cx)(tg:List Expr)(t:rh):Prop:=O9 X tg (VB X.K t)
structure Vi(X:Cx)(e:List Expr)(t:rh):Prop where
 h:QGs X e t
def CB{g g':TG}(h:PG X tg g)(k:∀v σ H Q,g' v σ H Q->g v σ H Q):PG X tg g':=λ ce s σ H v u Q I r q=>h ce s σ H v u Q I r (k v σ H Q q)
def Cz{tg:List Expr}{g g':yN}(h:O9 X tg g)(k:∀v σ H Q,g' v σ H Q->g v σ H Q):O9 X tg g':=λ ce s σ H v u Q I r q=>h ce s σ H v u Q I r (k v σ H Q q)
def im(i:Nat):gm:=λ d δ M Q=>Q (δ.set i (some d)) M
def jT:∀v σ H Q,Kl K (im i) v σ H Q->cB i v σ H Q:=λ v σ H Q ⟨d,δ,M,Q2,hd,hs,hm,q,k⟩=>k _ H _ M (hs.set hd) hm (ay.refl H) q
def aF{x:Str}(i:Nat)(hN:X.N.Nodup:=by exact nd)(hi:X.N[i]?=some x:=by rfl)(hx:Loc X.env.scope x:=by first|exact Or.inl rfl|exact Or.inr rfl)(hf:Lu X x:=by first|exact .inl rfl|exact .inr rfl|assumption):WG X (.Name x pos) (im i):=⟨CB (gc hN hi hx hf) jT⟩
def qI:rh:=λ ds δ M Q=>match ds with
 |[]=>Q δ M
 |_=>False
def cQ(t:gm)(u:rh):rh:=λ ds δ M Q=>match ds with
 |d::r=>t d δ M λ δ' M'=>u r δ' M' Q
 |_=>False
def dj:Vi X [] qI:=⟨Cz pV λ v σ H Q ⟨ds,δ,M,Q2,hd,hs,hm,q,k⟩=>by
 cases ds with
 |nil=>exact⟨au.mp hd,k _ H _ M hs hm (ay.refl H) q⟩
 |cons d r=>exact q.elim⟩
def aR{t:gm}{u:rh}(h1:WG X e t)(h2:Vi X es u)(hs:(assignEach (e::es) X.env).map (·.2)=assign e X.env::(assignEach es X.env).map (·.2):=by rfl):Vi X (e::es) (cQ t u):=⟨have h1:=h1.h;have h2:=h2.h;Cz (fE h1 h2 hs) λ v σ H Q ⟨ds,δ,M,Q2,hd,hs,hm,q,k⟩=>by
 cases ds with
 |nil=>exact q.elim
 |cons d r=>
  obtain⟨x,xs,rfl,hx,Od⟩:=af.mp hd;refine⟨x,xs,rfl,d,δ,M,_,hx,hs,hm,q,λ σ' H' δ' M' vM gE t' q'=>?_⟩;exact⟨r,δ',M',Q2,aE.mono t' r Od,vM,gE,q',k.mono t'⟩⟩
def qH(n:Nat)(t:rh):gm:=λ d δ M Q=>match d with
 | .tup ds=>ds.length=n/\t ds δ M Q
 |_=>False
def eD{t:rh}(h:Vi X es t)(hc:X.calm=true:=by rfl)(hn:(assignEach es X.env).length=n:=by rfl)(rA:(assignEach es X.env).findIdx? (·.1)=none:=by rfl):WG X (.Tuple es k pos) (qH n t):=⟨have h:=h.h;CB (vj hc h hn rA) λ v σ H Q ⟨d,δ,M,Q2,hd,hs,hm,q,k⟩=>by
 cases d with
 |tup ds=>obtain⟨p,xs,rfl,hq,hx⟩:=aP.mp hd;exact⟨p,xs,rfl,hq,by rw[hx.length];exact q.1,ds,δ,M,Q2,hx,hs,hm,q.2,k⟩
 |_=>exact q.elim⟩
abbrev kU:=D->D->D->Mem->(Mem->Prop)->Prop
def UB(K:J8)(H:Hp)(N2:Mem->Prop)(N:Hp->Prop):Prop:=∀H' M',lf K H' M'->ay H H'->N2 M'->N H'
def O6(K:J8)(r:uw)(r2:kU):Prop:=∀o i v d j e H M Q2 Q,kt K H d o->kt K H j i->kt K H e v->lf K H M->r2 d j e M Q2->UB K H Q2 Q->r o i v H Q
def Kd(X:Cx)(r2:kU):Prop:=∃r,nU X r/\O6 X.K r r2
def hSub(to ti:bT)(t:kU):gm:=λ e δ M Q=>to δ M λ d M1=>ti δ M1 λ j M2=>t d j e M2 λ M3=>Q δ M3
def dQ{o i:Expr}{to ti:bT}{t:kU}(ho:WE X o to)(hi:WE X i ti)(hs:Kd X t)(ha:∀v,assign (.Subscript o i pos) X.env v=(do
   let ov <- holding [v] (eval o X.env)
   let iv <- holding [v,ov] (eval i X.env)
   standAt pos
   holding [v,ov,iv] (setItem ov iv v)
   release [v,ov,iv] []):=by intro _;rfl):WG X (.Subscript o i pos) (hSub to ti t):=by
 replace ho:=ho.h;replace hi:=hi.h;refine⟨?_⟩;obtain⟨r,h1,hr⟩:=hs;refine CB (MS ho hi h1 ha) ?_;rintro v σ H Q ⟨e,δ,M,Q2,hd,hs,hm,q,k⟩;refine⟨δ,M,_,hs,hm,q,λ x H1 d M1 hx bV t1 q1=>?_⟩;refine⟨δ,M1,_,hs.mono t1,bV,q1,λ y H2 j M2 hy jG t2 q2=>?_⟩;exact hr x y v d j e H2 M2 _ _ (kt.mono t2 d hx) hy (kt.mono (t1.trans t2) e hd) jG q2 λ H3 M3 sY t3 q3=>k σ H3 δ M3 (hs.mono (t1.trans (t2.trans t3))) sY (t1.trans (t2.trans t3)) q3
def BL(te:bT)(g:gm):iq:=λ E δ M=>te δ M λ d M1=>g d δ M1 E.nx
def ur{g:TG}{g2:gm}(hg:∀v σ H Q,Kl K g2 v σ H Q->g v σ H Q):∀E σ H,VA K (BL te g2) E σ H->GQ (up K te) g E σ H:=by rintro E σ H ⟨δ,M,D2,hs,hm,q,k⟩;exact⟨δ,M,_,hs,hm,q,λ x H1 d M1 hd bV t1 q1=>hg x σ H1 _ ⟨d,δ,M1,_,hd,hs.mono t1,bV,q1,k.nx.mono t1⟩⟩
def dC{g:gm}(he:WE X e te)(hg:WG X tg g)(hs:swapsWithSole [tg] e pos.line X.env=pure false:=by rfl)(hw:swappedStores [tg] e X.env=pure none:=by rfl)(h1:(assignEach [tg] X.env).map (·.2)=[assign tg X.env]:=by rfl):WS X (.Assign [tg] e pos) (BL te g):=⟨have he:=he.h;have hg:=hg.h;jd (ML he hg hs hw h1) (ur λ _ _ _ _ h=>h)⟩
def aA{x:Str}{pos':Pos}(i:Nat)(he:WE X e te)(hN:X.N.Nodup:=by exact nd)(hi:X.N[i]?=some x:=by rfl)(hx:Loc X.env.scope x:=by first|exact Or.inl rfl|exact Or.inr rfl)(hs:swapsWith e (some (.Name x pos')) pos.line X.env=pure false:=by rfl)(hf:Lu X x:=by first|exact .inl rfl|exact .inr rfl|assumption):WS X (.Assign [.Name x pos'] e pos) (BL te (im i)):=⟨have he:=he.h;jd (MI hN hi hx he hs hf) (ur jT)⟩
end
end L3
variable {g:L3.gm}{sp:L3.cO}
namespace L3
open PySem.Spec L2
inductive Src where
 |fix (ds:List D)
 |at(a:be)
 |fn (f:Mem->Option (List D))
def ii(s:Src)(M:Mem):Option (List D):=match s with
 | .fix ds=>some ds
 | .at a=>match M a with
  |some (.lst ds)=>some ds
  |_=>none
 | .fn f=>f M
def nW(K:J8)(H1:Hp)(J:It)(src:Src):Prop:=∀H M ds,ay H1 H->lf K H M->ii src M=some ds->
 (∀i,i<ds.length->J.go i H)/\(∀i,i=ds.length->J.stop i H)/\(∀i x H',i<ds.length->J.FQ i H x H'->ay H H'/\lf K H' M/\∃d,ds[i]?=some d/\kt K H' d x)
abbrev jH:=cH->Mem->(Src->Mem->Prop)->Prop
def Pg(K:J8)(t:jH):TI:=λ σ H R=>∃δ M R2,cD K H δ σ/\lf K H M/\t δ M R2/\∀J H' src M',nW K H' J src->lf K H' M'->ay H H'->R2 src M'->R J H'
abbrev QI(X:Cx)(tg iter:Expr)(t:jH):Prop:=PI X tg iter (Pg X.K t)
structure WI(X:Cx)(tg e:Expr)(t:jH):Prop where
 h:QI X tg e t
def sf{t t':TI}(h:PI X tg iter t)(k:∀σ H R,t' σ H R->t σ H R):PI X tg iter t':=λ ce s σ H R I q=>h ce s σ H R I (k σ H R q)
def dS(z:Str):List D:=z.cps.toList.map λ c=>D.str ⟨#[c]⟩
def fc(lo:Int)(n:Nat):List D:=(List.range n).map λ i=>D.int (lo+(i:Nat))
def bw(lo:Int)(n:Nat):(fc lo n).length=n:=by simp[fc]
def my{lo:Int}(h:i<n):(fc lo n)[i]?=some (.int (lo+(i:Nat))):=by simp[fc,h]
def DD:nW K H1 (P0 z) (.fix (dS z)):=λ H M ds t hm e=>by
 cases e;have hl:(dS z).length=z.cps.size:=by simp[dS]
 refine⟨λ i hi=>by rw[hl]at hi;exact hi,λ i hi=>by rw[hl]at hi;exact hi,λ i x H' hi y=>?_⟩;obtain⟨e,c,hc,rfl⟩:=y;subst e;refine⟨ay.refl _,hm,.str ⟨#[c]⟩,?_,aJ.mpr rfl⟩;simp[dS,hc]
def DC(h:fj K H1 a xs)(hd:aE K H1 ds xs):nW K H1 (Yf K a) (.fix ds):=λ H M es t hm e=>by cases e;have hq:=Bs t h;have hx:=aE.mono t ds hd;have hl:=hx.length;refine⟨λ i hi=>⟨xs,xs[i]'(),hq,by simp[hl,hi]⟩,λ i hi=>⟨xs,hq,()⟩,λ i x H' hi y=>?_⟩;obtain⟨e,y⟩:=y;obtain⟨d,h1,h2⟩:=hx.mU (y xs hq);subst e;exact⟨ay.refl _,hm,d,h1,h2⟩
def DE:nW K H1 (Vq K a) (.at a):=λ H M ds t hm e=>by
 have e:(match M a with|some (.lst ds)=>some ds|_=>none)=some ds:=e;cases q:M a with
 |none=>rw[q]at e;cases e
 |some o=>
  cases o with
  |du b ar=>rw[q]at e;cases e
  |zw x=>rw[q]at e;cases e
  |lst es=>rw[q]at e;have e:es=ds:=B0 e;subst e;obtain⟨xs,hx,hd⟩:=hm a _ q;have hq:dv K H a xs:=dv.of hx;have hl:=hd.length;refine⟨λ i hi=>⟨xs,xs[i]'(),hq,by simp[hl,hi]⟩,λ i hi=>⟨xs,hq,()⟩,λ i x H' hi y=>?_⟩;obtain⟨e,y⟩:=y;obtain⟨d,h1,h2⟩:=hd.mU (y xs hq);subst e;exact⟨ay.refl _,hm,d,h1,h2⟩
def Jj(h:FO K H1 a xs)(hd:aE K H1 ds xs):nW K H1 (Vq K a) (.fix ds):=λ H M es t hm e=>by cases e;have hq:=(El t h).sq;have hx:=aE.mono t ds hd;have hl:=hx.length;refine⟨λ i hi=>⟨xs,xs[i]'(),hq,by simp[hl,hi]⟩,λ i hi=>⟨xs,hq,()⟩,λ i x H' hi y=>?_⟩;obtain⟨e,y⟩:=y;obtain⟨d,h1,h2⟩:=hx.mU (y xs hq);subst e;exact⟨ay.refl _,hm,d,h1,h2⟩
def mM{lo:Int}:nW K H1 (Uz lo n) (.fix (fc lo n)):=λ H M ds t hm e=>by cases e;rw[bw];refine⟨λ i hi=>hi,λ i hi=>D9 hi.symm,λ i x H' hi y=>?_⟩;obtain⟨e,rfl⟩:=y;subst e;exact⟨ay.refl _,hm,_,my hi,aw.mpr rfl⟩
section
variable {l:Expr}{tl:bT}{a b:Expr}{p:Pos}
def S3(tl:bT):jH:=λ δ M R=>tl δ M λ d M1=>match d with
 | .str z=>R (.fix (dS z)) M1
 | .tup ds=>R (.fix ds) M1
 | .fl ds=>R (.fix ds) M1
 | .ref a=>match M1 a with
  |some (.lst _)=>R (.at a) M1
  |_=>False
 |_=>False
def aM(hl:WE X l tl):WI X tg l (S3 tl):=⟨have hl:=hl.h;sf (MR hl) λ σ H R ⟨δ,M,R2,hs,hm,q,k⟩=>by
 refine⟨δ,M,_,hs,hm,q,λ x H1 d M1 hd bV t1 q1=>?_⟩;cases d with
 |str z=>cases(aJ.mp hd);exact k _ H1 _ M1 DD bV t1 q1
 |tup ds=>obtain⟨p,xs,rfl,hq,hx⟩:=aP.mp hd;exact .inr ⟨xs,hq,k _ H1 _ M1 (DC hq hx) bV t1 q1⟩
 |fl ds=>obtain⟨p,xs,rfl,hq,hx⟩:=iJ.mp hd;exact .inl ⟨xs,hq.sq,k _ H1 _ M1 (Jj hq hx) bV t1 q1⟩
 |ref a=>
  cases(aH.mp hd);have q1:(match M1 a with|some (.lst _)=>R2 (.at a) M1|_=>False):=q1;cases e:M1 a with
  |none=>rw[e]at q1;exact q1.elim
  |some o=>
   cases o with
   |du b ar=>rw[e]at q1;exact q1.elim
   |zw x=>rw[e]at q1;exact q1.elim
   |lst es=>rw[e]at q1;obtain⟨xs,hx,_⟩:=bV a _ e;exact .inl ⟨xs,dv.of hx,k _ H1 _ M1 DE bV t1 q1⟩
 |_=>exact q1.elim⟩
def Pb(j:Int):Prop:= -(2^62)<=j/\j<2^62
def cX(h0: -1000000000<=j)(h1:j<=1000000000):Pb j:=by
 constructor
 ·exact Int.le_trans (by decide) h0
 ·exact u6 h1 (by decide)
def KW(ta:ij):jH:=λ δ M R=>ta δ M λ ds M1=>match ds with
 |[.int j]=>Pb j/\R (.fix (fc 0 j.toNat)) M1
 |_=>False
def KU(ta:ij):jH:=λ δ M R=>ta δ M λ ds M1=>match ds with
 |[.int i,.int j]=>Pb i/\Pb j/\R (.fix (fc i (j-i).toNat)) M1
 |_=>False
def fv(hm:X.mg "range"=none)(ha:WA X [a] ta)(hg:Gl X "range":=by rfl)(hs:starEach [a] X.env=[(false,eval a X.env)]:=by rfl):WI X tg (.Call (.Name "range" p) [a] [] pos) (KW ta):=⟨have ha:=ha.h;sf (zv hg hm ha hs) λ σ H R ⟨δ,M,R2,hs,hm,q,k⟩=>by
 refine⟨δ,M,_,hs,hm,q,λ xs H1 ds M1 hd bV t1 q1=>?_⟩;cases ds with
 |nil=>exact q1.elim
 |cons d r=>
  cases r with
  |cons d2 r2=>cases d<;>exact q1.elim
  |nil=>
   cases d with
   |int j=>obtain⟨x,r,rfl,hx,hr⟩:=af.mp hd;cases(au.mp hr);cases(aw.mp hx);obtain⟨⟨b1,b2⟩,q1⟩:=q1;exact⟨j,rfl,b1,b2,k _ H1 _ M1 mM bV t1 q1⟩
   |_=>exact q1.elim⟩
def fu(hm:X.mg "range"=none)(ha:WA X [a,b] ta)(hg:Gl X "range":=by rfl)(hs:starEach [a,b] X.env=[(false,eval a X.env),(false,eval b X.env)]:=by rfl)(iT:starEach [b] X.env=[(false,eval b X.env)]:=by rfl):WI X tg (.Call (.Name "range" p) [a,b] [] pos) (KU ta):=⟨have ha:=ha.h;sf (zu hg hm ha hs iT) λ σ H R ⟨δ,M,R2,hs,hm,q,k⟩=>by
 refine⟨δ,M,_,hs,hm,q,λ xs H1 ds M1 hd bV t1 q1=>?_⟩;cases ds with
 |nil=>exact q1.elim
 |cons d r=>
  cases r with
  |nil=>cases d<;>exact q1.elim
  |cons d2 r2=>
   cases r2 with
   |cons d3 r3=>cases d<;>cases d2<;>exact q1.elim
   |nil=>
    cases d with
    |int i=>
     cases d2 with
     |int j=>obtain⟨x,r,rfl,hx,hr⟩:=af.mp hd;obtain⟨y,r2,rfl,hy,Jr⟩:=af.mp hr;cases(au.mp Jr);cases(aw.mp hx);cases(aw.mp hy);obtain⟨⟨b1,b2⟩,⟨b3,b4⟩,q1⟩:=q1;exact⟨i,j,rfl,⟨b1,b2,b3,b4⟩,k _ H1 _ M1 mM bV t1 q1⟩
     |_=>exact q1.elim
    |_=>cases d2<;>exact q1.elim⟩
end
end L3
variable {R:L3.Src->L3.Mem->Prop}{wi:L3.jH}
namespace L3
open PySem.Spec L2
def Rf(wi:jH)(g:gm)(tb:iq):iq:=λ E δ M=>wi δ M λ src M1=>∃(B:Nat)(W:Nat->cH->Mem->Prop),W 0 δ M1/\∀i δ M,W i δ M->i<=B/\match ii src M with
 |none=>False
 |some ds=>match ds[i]? with
  |none=>i=ds.length/\E.nx δ M
  |some d=>g d δ M λ δ2 M2=>tb {E with nx:=W (i+1),ct:=W (i+1),bk:=E.nx} δ2 M2
def bo(hi:WI X tg iter wi)(hg:WG X tg g)(hb:FJ X body tb)(hp:Vm X:=by first|exact PassesOwn.never|exact EO)(hc:X.calm=true:=by rfl)(hs:FN X iter:=by intro _;rfl):WS X (.For tg iter body [] pos) (Rf wi g tb):=⟨have hi:=hi.h;have hg:=hg.h;have hb:=hb.h;jd (MK hp hc hi hg hb hs) λ E σ H ⟨δ,M,D2,hs,hm,q,k⟩=>by
 refine⟨δ,M,_,hs,hm,q,λ J H1 src M1 ok bV t1 q1=>?_⟩;obtain⟨B,W,w0,turn⟩:=q1;refine⟨λ i m σ' H'=>m=B+1-i/\∃δ' M',cD X.K H' δ' σ'/\lf X.K H' M'/\ay H1 H'/\W i δ' M',⟨B+1,rfl,δ,M1,hs.mono t1,bV,ay.refl _,w0⟩,?_⟩;rintro i m σ' H' ⟨rfl,δ',M',vM,gE,t',w'⟩;obtain⟨hB,h⟩:=turn i δ' M' w';cases ei:ii src M' with
 |none=>rw[ei]at h;exact h.elim
 |some ds=>
  rw[ei]at h;obtain⟨go,stop,FQ⟩:=ok H' M' ds t' gE ei;cases ed:ds[i]? with
  |none=>simp only[ed]at h;exact .inl ⟨stop i h.1,k.nx σ' H' δ' M' vM gE (t1.trans t') h.2⟩
  |some d=>
   simp only[ed]at h;have D':i<ds.length:=(c5.mp ed).1;refine .inr ⟨go i D',λ σ2 H2=>∃δ2 M2,cD X.K H2 δ2 σ2/\lf X.K H2 M2/\ay H1 H2/\W (i+1) δ2 M2,λ σ2 H2 ⟨δ2,M2,a,b,c,w2⟩=>⟨B+1-(i+1),(),rfl,δ2,M2,a,b,c,w2⟩,λ x H2 y=>?_⟩;obtain⟨t2,jG,d',e',ie⟩:=FQ i x H2 D' y;rw[ed]at e';cases e';refine⟨d,δ',M',_,ie,vM.mono t2,jG,h,λ σ3 H3 δ3 M3 U4 sY t3 q3=>?_⟩;refine⟨δ3,M3,_,U4,sY,q3,⟨?_,?_,?_,?_⟩⟩
   ·exact λ σ4 H4 δ4 M4 a b c w4=>⟨δ4,M4,a,b,t'.trans (t2.trans (t3.trans c)),w4⟩
   ·exact k.rt.mono (t1.trans (t'.trans (t2.trans t3)))
   ·exact k.nx.mono (t1.trans (t'.trans (t2.trans t3)))
   ·exact λ σ4 H4 δ4 M4 a b c w4=>⟨δ4,M4,a,b,t'.trans (t2.trans (t3.trans c)),w4⟩⟩
def BG(c:eB)(tb:iq):iq:=λ E δ M=>∃W:Nat->cH->Mem->Prop,(∃m,W m δ M)/\∀m δ M,W m δ M->c δ M λ b M1=>
 if b=true then ∃N:cH->Mem->Prop,(∀δ' M',N δ' M'->∃m',m'<m/\W m' δ' M')/\tb {E with nx:=N,ct:=N,bk:=E.nx} δ M1 else E.nx δ M1
section
variable {c:Expr}{tc:eB}
def Bh(hc:WT X c tc)(hb:FJ X body tb)(hp:Vm X:=by first|exact PassesOwn.never|exact EO):WS X (.While c body [] pos) (BG tc tb):=⟨have hc:=hc.h;have hb:=hb.h;jd (Ct hp hc hb) λ E σ H ⟨δ,M,D2,hs,hm,q,k⟩=>by
 obtain⟨W,⟨m0,w0⟩,turn⟩:=q;refine⟨λ m σ' H'=>∃δ' M',cD X.K H' δ' σ'/\lf X.K H' M'/\ay H H'/\W m δ' M',⟨m0,δ,M,hs,hm,ay.refl _,w0⟩,?_⟩;rintro m σ' H' ⟨δ',M',vM,gE,t',w'⟩;refine⟨δ',M',_,vM,gE,turn m δ' M' w',λ b H1 M1 bV t1 q1=>?_⟩;cases b with
 |false=>simp only[o8,J1]at q1;exact k.nx σ' H1 δ' M1 (vM.mono t1) bV (t'.trans t1) q1
 |true=>
  simp only[J5]at q1;obtain⟨N,hN,q1⟩:=q1;refine⟨λ σ2 H2=>∃δ2 M2,cD X.K H2 δ2 σ2/\lf X.K H2 M2/\ay H H2/\N δ2 M2,λ σ2 H2 ⟨δ2,M2,a,b,c,n2⟩=>?_,?_⟩
  ·obtain⟨m',gE,w2⟩:=hN δ2 M2 n2;exact⟨m',gE,δ2,M2,a,b,c,w2⟩
  ·refine⟨δ',M1,_,vM.mono t1,bV,q1,⟨?_,?_,?_,?_⟩⟩
   ·exact λ σ4 H4 δ4 M4 a b c w4=>⟨δ4,M4,a,b,t'.trans (t1.trans c),w4⟩
   ·exact k.rt.mono (t'.trans t1)
   ·exact k.nx.mono (t'.trans t1)
   ·exact λ σ4 H4 δ4 M4 a b c w4=>⟨δ4,M4,a,b,t'.trans (t1.trans c),w4⟩⟩
end
def iP(n:Nat)(fr:List Nat)(δ:cH):cH:=List.replicate n none++fr.map (λ j=>δ.getD j none)
def JZ{σ:L2.St}(h:cD K H δ σ)(n:Nat)(fr:List Nat):cD K H (iP n fr δ) (eY n fr σ):=by
 refine⟨by simp[iP,eY],λ i d e=>?_⟩;unfold iP at e;by_cases hi:i<n
 ·rw[b9 (by simpa using hi),e9,J6 hi]at e;cases e
 ·rw[b7 (by simpa using hi),j6,w6]at e;cases ej:fr[i-n]? with
  |none=>rw[ej]at e;cases e
  |some j=>
   rw[ej]at e;have e:δ.getD j none=some d:=B0 e;have hj:j < δ.length:=by refine Nat.lt_of_not_le λ z=>?_;rw[b8,j7 z]at e;cases e
   have e':δ[j]?=some (some d):=by rw[b8,c8 hj]at e;rw[c8 hj];exact J3 some e
   obtain⟨v,hv,r⟩:=h.get j d e';refine⟨v,?_,r⟩;unfold eY;rw[b7 (by simpa using hi),j6,w6,ej];simp[b8,hv]
def f'(wi:jH)(g:gm)(tt:eB)(te:bT)(n:Nat)(fr:List Nat):cH->Mem->(List D->Mem->Prop)->Prop:=λ δ M Q=>wi δ M λ src M1=>∃(B:Nat)(W:Nat->List D->Mem->Prop),W 0 [] M1/\∀i dL M,W i dL M->i<=B/\dL.length<=sizeLine/\match ii src M with
 |none=>False
 |some ds=>match ds[i]? with
  |none=>i=ds.length/\Q dL M
  |some d=>g d (iP n fr δ) M λ δ2 M2=>tt δ2 M2 λ b M3=>if b=true then te δ2 M3 λ y M4=>W (i+1) (dL++[y]) M4 else W (i+1) dL M3
def fJ{σ:L2.St}{Q:V->Hp->Prop}{gv:TG}(Vb:∀v σ H Q,Kl K g v σ H Q->gv v σ H Q)(hs:cD K H δ σ)(hm:lf K H M)(q:f' wi g tt te n fr δ M Qe)(k:∀dL xs H' M' p,aE K H' dL xs->lf K H' M'->ay H H'->dL.length<=sizeLine->H' p=none->Qe dL M'->Q (.ref p) (lm H' p (.lst xs))):mh (Pg K wi) gv (wY K tt) (up K te) n fr σ H Q:=by
 refine⟨δ,M,_,hs,hm,q,λ J H1 src M1 ok bV t1 q1=>?_⟩;obtain⟨B,W,w0,turn⟩:=q1;refine⟨λ i m xs H'=>m=B+1-i/\∃dL M',aE K H' dL xs/\lf K H' M'/\ay H1 H'/\W i dL M',⟨B+1,rfl,[],M1,by rw[au],bV,ay.refl _,w0⟩,?_⟩;rintro i m xs H' ⟨rfl,dL,M',ie,gE,t',w'⟩;obtain⟨hB,hz,h⟩:=turn i dL M' w';refine⟨by rw[ie.length];exact hz,?_⟩;cases ei:ii src M' with
 |none=>rw[ei]at h;exact h.elim
 |some ds=>
  rw[ei]at h;obtain⟨go,stop,FQ⟩:=ok H' M' ds t' gE ei;cases ed:ds[i]? with
  |none=>simp only[ed]at h;exact .inl ⟨stop i h.1,λ p hp=>k dL xs H' M' p ie gE (t1.trans t') hz hp h.2⟩
  |some d=>
   simp only[ed]at h;have D':i<ds.length:=(c5.mp ed).1;refine .inr ⟨go i D',λ ys H2=>∃Ka M2,aE K H2 Ka ys/\lf K H2 M2/\ay H1 H2/\W (i+1) Ka M2,λ ys H2 ⟨Ka,M2,a,b,c,w2⟩=>⟨B+1-(i+1),(),rfl,Ka,M2,a,b,c,w2⟩,λ x H2 y=>?_⟩;obtain⟨t2,jG,d',e',Py⟩:=FQ i x H2 D' y;rw[ed]at e';cases e';refine Vb _ _ _ _ ⟨d,iP n fr δ,M',_,Py,JZ (hs.mono (t1.trans (t'.trans t2))) n fr,jG,h,λ σ3 H3 δ3 M3 U4 sY t3 q3=>?_⟩;refine⟨δ3,M3,_,U4,sY,q3,λ b H4 M4 U' t4 q4=>?_⟩;cases b with
   |false=>rw[J7 n0]at q4 ⊢;exact⟨dL,M4,aE.mono (t2.trans (t3.trans t4)) dL ie,U',t'.trans (t2.trans (t3.trans t4)),q4⟩
   |true=>rw[J6 rfl]at q4 ⊢;exact⟨δ3,M4,_,U4.mono t4,U',q4,λ yv H5 y5 M5 hy5 hm5 t5 q5=>⟨dL++[y5],M5,(aE.mono (t2.trans (t3.trans (t4.trans t5))) dL ie).append (aE.one hy5),hm5,t'.trans (t2.trans (t3.trans (t4.trans t5))),q5⟩⟩
section
abbrev ZZ(X:Cx)(ifs:List Expr)(t:eB):Prop:=PY X ifs (wY X.K t)
structure PU(X:Cx)(e:List Expr)(t:eB):Prop where
 h:ZZ X e t
def rQ:eB:=λ _ M Q=>Q true M
def bC:PU X [] rQ:=⟨λ ce s σ H Q I h=>Ie ce s σ H Q I (by
 obtain⟨δ,M,Q2,hs,hm,q,k⟩:=h;exact k _ _ _ hm (ay.refl H) q)⟩
def g_{c:Expr}{t:eB}(h:WT X c t):PU X [c] t:=⟨have h:=h.h;Ic h⟩
def ZX(X:Cx)(scope:Scope)(bW:List Str)(fr:List Nat)(tg:Expr)(g2:gm):Prop:=
 ∃g:TG,(∀cl C fp s H,PG (bj X scope cl bW fr C fp s H) tg g)/\iR bW.length g/\∀v σ H Q,Kl X.K g2 v σ H Q->g v σ H Q
structure Kb(X:Cx)(scope:Scope)(bW:List Str)(fr:List Nat)(tg:Expr)(g:gm):Prop where
 h:ZX X scope bW fr tg g
def Bg{x:Str}{ps:Pos}(h:∀cl C fp s H,PG (bj X scope cl bW fr C fp s H) (.Name x ps) (cB i))(hi:i<bW.length):Kb X scope bW fr (.Name x ps) (im i):=⟨⟨_,h,ib hi,jT⟩⟩
def Fn(g:TG):Prop:=∀x σ H Q Q',(∀σ' H',Q σ' H'->Q' σ' H')->g x σ H Q->g x σ H Q'
def rm(g:yN):Prop:=∀xs σ H Q Q',(∀σ' H',Q σ' H'->Q' σ' H')->g xs σ H Q->g xs σ H Q'
def eg:Fn (cB i):=λ x σ H Q Q' k q=>k _ _ q
def mT:rm qK:=λ xs σ H Q Q' k q=>⟨q.1,k _ _ q.2⟩
def lL{t:TG}{u:yN}(ht:Fn t)(hu:rm u):rm (dz t u):=λ xs σ H Q Q' k ⟨v,r,e,q⟩=>⟨v,r,e,ht v σ H _ _ (λ σ' H' q'=>hu r σ' H' _ _ k q') q⟩
def js{t:TG}{u:yN}(h:iR n t)(k:lQ n u)(ht:Fn t)(hu:rm u):lQ n (dz t u):=λ xs σ H Q ⟨v,r,e,q⟩=>by refine⟨v,r,e,ht v σ H _ _ (λ σ' H' ⟨q',l',k'⟩=>?_) (h v σ H _ q)⟩;refine hu r σ' H' _ _ (λ σ2 H2 ⟨q2,l2,k2⟩=>⟨q2,l2.trans l',λ j hj=>(k2 j hj).trans (k' j hj)⟩) (k r σ' H' _ q')
def Ei{t:yN}(h:lQ m t):iR m (tE K n t):=λ x σ H Q ⟨a,xs,e,hq,hl,q⟩=>⟨a,xs,e,hq,hl,h xs σ H _ q⟩
def y'{j:Nat}:∀v σ H Q,Kl K (qH 2 (cQ (im i) (cQ (im j) qI))) v σ H Q->tE K 2 (dz (cB i) (dz (cB j) qK)) v σ H Q:=λ v σ H Q ⟨d,δ,M,Q2,hd,hs,hm,q,k⟩=>by
 cases d with
 |tup ds=>
  obtain⟨p,xs,rfl,hq,hx⟩:=aP.mp hd;obtain⟨hl,q⟩:=q
  match ds,hl,hx,q with
  |[a,b],hl,hx,q=>obtain⟨x,r,rfl,ha,hx⟩:=af.mp hx;obtain⟨y,r,rfl,hb,hx⟩:=af.mp hx;cases(au.mp hx);exact⟨p,[x,y],rfl,hq,rfl,x,[y],rfl,y,[],rfl,rfl,k _ H _ M ((hs.set ha).set hb) hm (ay.refl H) q⟩
 |_=>exact q.elim
def Bf{j:Nat}{x:Str}{px py pt:Pos}(h:∀cl C fp s H,PG (bj X scope cl bW fr C fp s H) (.Tuple [.Name x px,.Name y py] k pt) (tE X.K 2 (dz (cB i) (dz (cB j) qK))))(hi:i<bW.length)(hj:j<bW.length):Kb X scope bW fr (.Tuple [.Name x px,.Name y py] k pt) (qH 2 (cQ (im i) (cQ (im j) qI))):=⟨⟨_,h,Ei (js (ib hi) (js (ib hj) Ej eg mT) eg (lL eg mT)),y'⟩⟩
def Pd(X:Cx)(scope:Scope)(bW:List Str)(fr:List Nat)(tg iter:Expr)(ifs:List Expr)(elt:Expr)(wi:jH)(g:gm)(tt:eB)(te:bT):Prop:=
 gB X scope fr/\X.calm=true/\(∀e s,X.xe e s->False)/\QI X tg iter wi/\ZX X scope bW fr tg g/\(∀cl C fp s H,ZZ (bj X scope cl bW fr C fp s H) ifs tt)/\(∀cl C fp s H,QE (bj X scope cl bW fr C fp s H) elt te)
structure dq(X:Cx)(scope:Scope)(bW:List Str)(fr:List Nat)(tg iter:Expr)(ifs:List Expr)(elt:Expr)(wi:jH)(g:gm)(tt:eB)(te:bT):Prop where
 b:gB X scope fr
 calm:X.calm=true
 xe:∀e s,X.xe e s->False
 it:WI X tg iter wi
 LM:Kb X scope bW fr tg g
 ifs:∀cl C fp s H,PU (bj X scope cl bW fr C fp s H) ifs tt
 elt:∀cl C fp s H,WE (bj X scope cl bW fr C fp s H) elt te
theorem dq.h(C:dq X scope bW fr tg iter ifs elt wi g tt te):Pd X scope bW fr tg iter ifs elt wi g tt te:=
 ⟨C.b,C.calm,C.xe,C.it.h,C.LM.h,λ cl D fp s H=>(C.ifs cl D fp s H).h,λ cl D fp s H=>(C.elt cl D fp s H).h⟩
def BK(wi:jH)(g:gm)(tt:eB)(te:bT)(n:Nat)(fr:List Nat):bT:=λ δ M Q=>f' wi g tt te n fr δ M λ ds M'=>∀p,M' p=none->Q (.ref p) (ak M' p (.lst ds))
def cV(C:dq X scope bW fr tg iter ifs elt wi g tt te)(hs:FN X iter:=by intro _;rfl):WE X (.ListComp elt [⟨tg,iter,ifs,0⟩] scope pos) (BK wi g tt te bW.length fr):=by replace C:=C.h;refine⟨?_⟩;obtain⟨B,hc,hE,hi,⟨gv,hg,gk,gl⟩,ht,he⟩:=C;refine bN (jf (tt:=wY X.K tt) (te:=up X.K te) B hc hE hi hg gk ht he hs) ?_;rintro σ H Q ⟨δ,M,Q2,hs,hm,q,k⟩;exact fJ gl hs hm q λ dL xs H' M' p hd gE t' hz hp q'=>k _ _ (.ref p) _ (aH.mpr rfl) (cS hp hd gE) (t'.trans (ay.laid hp)) (q' p (gE.free hp))
def lV{py Bt:Pos}(i:Nat)(C:dq X scope bW fr tg iter ifs elt wi g tt te)(hN:X.N.Nodup:=by exact nd)(Xd:X.N[i]?=some y:=by rfl)(hy:Loc X.env.scope y:=by first|exact Or.inl rfl|exact Or.inr rfl)(WU:swapsWith (.ListComp elt [⟨tg,iter,ifs,0⟩] scope pos) (some (.Name y py)) Bt.line X.env=pure true:=by rfl)(hf:Lu X y:=by first|exact .inl rfl|exact .inr rfl|assumption)(hs:FN X iter:=by intro _;rfl):WS X (.Assign [.Name y py] (.ListComp elt [⟨tg,iter,ifs,0⟩] scope pos) Bt) (BL (BK wi g tt te bW.length fr) (im i)):=by replace C:=C.h;refine⟨?_⟩;obtain⟨B,hc,hE,hi,⟨gv,hg,gk,gl⟩,ht,he⟩:=C;refine jd (vh (tt:=wY X.K tt) (te:=up X.K te) hN Xd hy B hc hE hi hg gk ht he WU hf hs) ?_;rintro E σ H ⟨δ,M,D2,hs,hm,q,k⟩;exact fJ gl hs hm q λ dL xs H' M' p hd gE t' hz hp q'=>k.nx _ _ _ _ (((hs.mono t').mono (ay.laid hp)).set (aH.mpr rfl)) (cS hp hd gE) (t'.trans (ay.laid hp)) (q' p (gE.free hp))
def G_(r3:List D->Mem->bI->Prop)(wi:jH)(g:gm)(tt:eB)(te:bT)(n:Nat)(fr:List Nat):bT:=λ δ M Q=>f' wi g tt te n fr δ M λ ds M'=>r3 ds M' Q
def nE(r2:List D->Mem->bI->Prop)(r3:List D->Mem->bI->Prop):Prop:=∀ds M p Q,M p=none->ds.length<=sizeLine->r3 ds M Q->r2 [.ref p] (ak M p (.lst ds)) (fin2 Q)
def tH{Q2:bI}{Q:VK}(k:iS K H Q2 Q):iS K H (fin2 Q2) Q:=λ v H' d M' hd hm t ⟨wL,s,q⟩=>k v H' d wL hd (hm.sub s) t q
variable {x:Str}{p:Pos}{id:String}
def rL{r3:List D->Mem->bI->Prop}{gv:TG}(gl:∀v σ H Q,Kl X.K g v σ H Q->gv v σ H Q)(hr:O8 X.K r r2)(h3:nE r2 r3):∀σ H Q,up X.K (G_ r3 wi g tt te bW.length fr) σ H Q->UL r (Bm (mh (Pg X.K wi) gv (wY X.K tt) (up X.K te) bW.length fr) LO) σ H Q:=by rintro σ H Q ⟨δ,M,Q2,hs,hm,q,k⟩;show mh (Pg X.K wi) gv (wY X.K tt) (up X.K te) bW.length fr σ H (λ x H1=>r [x] H1 Q);refine fJ gl hs hm q λ dL xs H' M' p hd gE t' hz hp q'=>?_;exact hr [.ref p] [.ref p] _ _ (fin2 Q2) Q (aE.one (aH.mpr rfl)) (cS hp hd gE) (h3 dL M' p Q2 (gE.free hp) hz q') (tH (k.mono (t'.trans (ay.laid hp))))
def iA{r3:List D->Mem->bI->Prop}(o:de X (.builtin id) r2)(h3:nE r2 r3)(hm:X.mg x=none)(C:dq X scope bW fr tg iter ifs elt wi g tt te)(hg:Gl X x:=by rfl)(hv:bootBuiltins x=some (.builtin id):=by decide+kernel)(hn:x≠"__name__":=by decide)(tf:nV x:=by decide)(hs:FN X iter:=by intro _;rfl):WE X (.Call (.Name x p) [.ListComp elt [⟨tg,iter,ifs,0⟩] scope dF] [] pos) (G_ r3 wi g tt te bW.length fr):=by replace C:=C.h;refine⟨?_⟩;obtain⟨B,hc,hE,hi,⟨gv,Ot,gk,gl⟩,ht,he⟩:=C;obtain⟨r,ho,hr⟩:=o;exact bN (sk ho hg hm hv (gf (jf (tt:=wY X.K tt) (te:=up X.K te) B hc hE hi Ot gk ht he hs) iF) hn tf) (rL gl hr h3)
def uO{r3:List D->Mem->bI->Prop}(o:de X (.type T) r2)(h3:nE r2 r3)(hm:X.mg x=none)(C:dq X scope bW fr tg iter ifs elt wi g tt te)(hg:Gl X x:=by rfl)(hv:bootBuiltins x=some (.type T):=by decide+kernel)(hn:x≠"__name__":=by decide)(tf:nV x:=by decide)(hs:FN X iter:=by intro _;rfl):WE X (.Call (.Name x p) [.ListComp elt [⟨tg,iter,ifs,0⟩] scope dF] [] pos) (G_ r3 wi g tt te bW.length fr):=by replace C:=C.h;refine⟨?_⟩;obtain⟨B,hc,hE,hi,⟨gv,Ot,gk,gl⟩,ht,he⟩:=C;obtain⟨r,ho,hr⟩:=o;exact bN (oz ho hg hm hv (gf (jf (tt:=wY X.K tt) (te:=up X.K te) B hc hE hi Ot gk ht he hs) iF) hn tf) (rL gl hr h3)
variable {o:Expr}{to:bT}
def Ks(T:String)(r3:D->List D->Mem->bI->Prop)(to:bT)(wi:jH)(g:gm)(tt:eB)(te:bT)(n:Nat)(fr:List Nat):bT:=λ δ M Q=>to δ M λ d M1=>Ph T d M1/\f' wi g tt te n fr δ M1 λ ds M'=>r3 d ds M' Q
def Fh(r2:D->List D->Mem->bI->Prop)(r3:D->List D->Mem->bI->Prop):Prop:=∀d ds M p Q,M p=none->ds.length<=sizeLine->r3 d ds M Q->r2 d [.ref p] (ak M p (.lst ds)) (fin2 Q)
def Lz{r2 r3:D->List D->Mem->bI->Prop}(pa:PlainAttrs T)(slot:Slot T name id)(Of:Yc id)(hm:Pa X id r2)(h3:Fh r2 r3)(ho:WE X o to)(C:dq X scope bW fr tg iter ifs elt wi g tt te)(hs:FN X iter:=by intro _;rfl)(tp:Ym X o name:=by rfl)(jX:((backTo pos (starEach [.ListComp elt [⟨tg,iter,ifs,0⟩] scope dF] X.env)).all (λ x=>!x.1)&&(backToKw pos (keywordEach [] X.env)).all (λ x=>x.1.isSome)
   &&decide (([.ListComp elt [⟨tg,iter,ifs,0⟩] scope dF]:List Expr).length+([]:List Keyword).length+(if([]:List Keyword).isEmpty then 0 else 1)<30))=true:=by rfl) (sZ:Yd apos pos:=by rfl):WE X (.Call (.Attribute o name apos) [.ListComp elt [⟨tg,iter,ifs,0⟩] scope dF] [] pos) (Ks T r3 to wi g tt te bW.length fr):=by
 replace ho:=ho.h;replace C:=C.h;refine⟨?_⟩;obtain⟨B,hc,hE,hi,⟨gv,Ot,gk,gl⟩,ht,he⟩:=C;obtain⟨r,h1,hr⟩:=hm;refine bN (KN pa slot Of h1 ho (gf (jf (tt:=wY X.K tt) (te:=up X.K te) B hc hE hi Ot gk ht he hs) iF) tp jX sZ) ?_;rintro σ H Q ⟨δ,M,Q2,hs,hm,q,k⟩;refine⟨δ,M,_,hs,hm,q,λ x H1 d M1 hd bV t1 q1=>⟨q1.1.v9 hd bV,?_⟩⟩;show mh (Pg X.K wi) gv (wY X.K tt) (up X.K te) bW.length fr σ H1 (λ y H2=>r x [y] H2 Q);refine fJ gl (hs.mono t1) bV q1.2 λ dL xs H' M' p tj gE t' hz hp q'=>?_;exact hr x [.ref p] d [.ref p] _ _ (fin2 Q2) Q (kt.mono (t'.trans (ay.laid hp)) d hd) (aE.one (aH.mpr rfl)) (cS hp tj gE) (h3 d dL M' p Q2 (gE.free hp) hz q') (tH (k.mono (t1.trans (t'.trans (ay.laid hp)))))
end
def dI(C:Int->Int->Prop)(g:Int->Int->D):fq:=λ x y M Q=>match x,y with
 | .int i,.int j=>C i j/\Q (g i j) M
 |_,_=>False
def OU(g:Int->Int->D):fq:=λ x y M Q=>match x,y with
 | .int i,.int j=>Q (g i j) M
 |_,_=>False
def si{f:al->al->Sem al}{g:Int->Int->Int}(h:eN X f (rI C λ i j=>.int (g i j))):fm X f (dI C λ i j=>.int (g i j)):=⟨_,h,λ x y d e H M Q2 Q hd he hm q k=>by
 cases d<;>cases e<;>first
  |exact q.elim
  |(cases(aw.mp hd);cases(aw.mp he);exact⟨_,_,rfl,rfl,q.1,k _ H _ M (aw.mpr rfl) hm (ay.refl H) q.2⟩)⟩
def si0{f:al->al->Sem al}{g:Int->Int->Int}(h:eN X f (Fw λ i j=>.int (g i j))):fm X f (OU λ i j=>.int (g i j)):=⟨_,h,λ x y d e H M Q2 Q hd he hm q k=>by
 cases d<;>cases e<;>first
  |exact q.elim
  |(cases(aw.mp hd);cases(aw.mp he);exact⟨_,_,rfl,rfl,k _ H _ M (aw.mpr rfl) hm (ay.refl H) q⟩)⟩
def VT{f:al->al->Sem al}{g:Int->Int->Bool}(h:eN X f (Fw λ i j=>.bl (g i j))):fm X f (OU λ i j=>.bl (g i j)):=⟨_,h,λ x y d e H M Q2 Q hd he hm q k=>by
 cases d<;>cases e<;>first
  |exact q.elim
  |(cases(aw.mp hd);cases(aw.mp he);exact⟨_,_,rfl,rfl,k _ H _ M (aL.mpr rfl) hm (ay.refl H) q⟩)⟩
def kz:fm X (binaryOp .Sub) (OU λ i j=>.int (i-j)):=si0 Nc
def kB:fm X (binaryOp .Mod) (dI (λ _ j=>0<j) λ i j=>.int (i%j)):=si Ni
def mD:fm X (binaryOp .FloorDiv) (dI Pe λ i j=>.int (i/j)):=si Iv
def Sz:fm X (binaryOp .Pow) (dI UD λ i j=>.int (i^j.toNat)):=si Nf
def V_:fm X (compareOp .Lt) (OU λ i j=>.bl (decide (i<j))):=VT RS
def zD:fm X (compareOp .Gt) (OU λ i j=>.bl (decide (j<i))):=VT RU
def SF:fm X (compareOp .GtE) (OU λ i j=>.bl (decide (j<=i))):=VT RV
def JQ:fq:=λ x y M Q=>match x,y with
 | .int i,.int j=>Q (.int (i+j)) M
 | .str i,.str j=>i.length+j.length<=sizeLine/\Q (.str (i++j)) M
 | .tup xs,.tup ys=>xs≠[]/\xs.length+ys.length<=sizeLine/\Q (.tup (xs++ys)) M
 | .ref a,.ref b=>match M a,M b with
  |some (.lst xs),some (.lst ys)=>xs.length+ys.length<=sizeLine/\∀p,M p=none->Q (.ref p) (ak M p (.lst (xs++ys)))
  |_,_=>False
 |_,_=>False
def SG:fm X (binaryOp .Add) JQ:=⟨_,Nq.or (vo.or (Np.or Iw)),λ x y d e H M Q2 Q hd he hm q k=>by
 cases d with
 |int i=>
  cases e with
  |int j=>cases(aw.mp hd);cases(aw.mp he);exact .inl ⟨_,_,rfl,rfl,k _ H _ M (aw.mpr rfl) hm (ay.refl H) q⟩
  |_=>exact q.elim
 |str i=>
  cases e with
  |str j=>cases(aJ.mp hd);cases(aJ.mp he);exact .inr (.inl ⟨_,_,rfl,rfl,q.1,k _ H _ M (aJ.mpr rfl) hm (ay.refl H) q.2⟩)
  |_=>exact q.elim
 |tup xs=>
  cases e with
  |tup ys=>
   obtain⟨p,vs,rfl,hp,hx⟩:=aP.mp hd;obtain⟨p2,ws,rfl,nF,hy⟩:=aP.mp he;obtain⟨fg,hlen,q⟩:=q;refine .inr (.inr (.inr ⟨p,p2,vs,ws,rfl,rfl,hp,nF,?_,by rw[hx.length,hy.length];exact hlen,?_⟩))
   ·intro z;have:=hx.length;rw[z]at this;exact fg (i4.mp this.symm)
   ·refine⟨λ hz=>?_,λ hz p3 K7=>?_⟩
    ·have hy0:ys=[]:=by have:=hy.length;rw[hz]at this;exact i4.mp this.symm
     subst hy0;rw[A5]at q;exact k _ H _ M (aP.mpr ⟨p,vs,rfl,hp,hx⟩) hm (ay.refl H) q
    ·exact k _ _ _ M (fU K7 (hx.append hy)) (hm.laid K7) (ay.laid K7) q
  |_=>exact q.elim
 |ref a=>
  cases e with
  |ref b=>
   cases(aH.mp hd);cases(aH.mp he);have q:(match M a,M b with|some (.lst xs),some (.lst ys)=>xs.length+ys.length<=sizeLine/\∀p,M p=none->Q2 (.ref p) (ak M p (.lst (xs++ys)))|_,_=>False):=q;cases ea:M a with
   |none=>rw[ea]at q;exact q.elim
   |some oa=>
    cases eb:M b with
    |none=>rw[ea,eb]at q;cases oa<;>exact q.elim
    |some ob=>
     cases oa with
     |du b ar=>rw[ea,eb]at q;exact q.elim
     |zw x=>rw[ea,eb]at q;exact q.elim
     |lst xs=>
      cases ob with
      |du b ar=>rw[ea,eb]at q;exact q.elim
      |zw x=>rw[ea,eb]at q;exact q.elim
      |lst ys=>rw[ea,eb]at q;obtain⟨vs,Zm,Ew⟩:=hm a _ ea;obtain⟨ws,hws,ZS⟩:=hm b _ eb;refine .inr (.inr (.inl ⟨a,b,vs,ws,rfl,rfl,Zm,hws,by rw[Ew.length,ZS.length];exact q.1,λ p hp=>?_⟩));exact k _ _ (.ref p) _ (aH.mpr rfl) (cS hp (Ew.append ZS) hm) (ay.laid hp) (q.2 p (hm.free hp))
  |_=>exact q.elim
 |_=>exact q.elim⟩
def JP:fq:=λ x y M Q=>match x,y with
 | .int i,.int j=>rp i j/\Q (.int (i*j)) M
 | .str z,.int n=>MulOk z n/\Q (.str (Txt.mul z n)) M
 |_,_=>False
def SA:fm X (binaryOp .Mult) JP:=⟨_,Nh.or vn,λ x y d e H M Q2 Q hd he hm q k=>by
 cases d<;>cases e<;>first
  |exact q.elim
  |(cases(aw.mp hd);cases(aw.mp he);exact .inl ⟨_,_,rfl,rfl,q.1,k _ H _ M (aw.mpr rfl) hm (ay.refl H) q.2⟩)
  |(cases(aJ.mp hd);cases(aw.mp he);exact .inr ⟨_,_,rfl,rfl,q.1,k _ H _ M (aJ.mpr rfl) hm (ay.refl H) q.2⟩)⟩
def XN:fq:=λ x y M Q=>match x,y with
 | .int i,.int j=>Q (.bl (decide (i<=j))) M
 | .str i,.str j=>Q (.bl (!decide (j.cps.toList<i.cps.toList))) M
 |_,_=>False
def kZ:fm X (compareOp .LtE) XN:=⟨_,RT.or zx,λ x y d e H M Q2 Q hd he hm q k=>by
 cases d<;>cases e<;>first
  |exact q.elim
  |(cases(aw.mp hd);cases(aw.mp he);exact .inl ⟨_,_,rfl,rfl,k _ H _ M (aL.mpr rfl) hm (ay.refl H) q⟩)
  |(cases(aJ.mp hd);cases(aJ.mp he);exact .inr ⟨_,_,rfl,rfl,k _ H _ M (aL.mpr rfl) hm (ay.refl H) q⟩)⟩
def nc:D->Option V
 | .bh=>some .bh
 | .bl b=>some (.bl b)
 | .int i=>some (.int i)
 | .str x=>some (.str x)
 |_=>none
def oO{x:V}(e:nc d=some v)(h:kt K H d x):x=v:=by
 cases d with
 |bh=>cases e;exact dm.mp h
 |bl b=>cases e;exact aL.mp h
 |int i=>cases e;exact aw.mp h
 |str z=>cases e;exact aJ.mp h
 |ty n=>exact bi e (by intro z;cases z)
 |ref a=>exact bi e (by intro z;cases z)
 |tup xs=>exact bi e (by intro z;cases z)
 |fl xs=>exact bi e (by intro z;cases z)
def m_(e:nc d=some v):gu v=true:=by
 cases d with
 |bh=>cases e;rfl
 |bl b=>cases e;rfl
 |int i=>cases e;rfl
 |str z=>cases e;rfl
 |ty n=>exact bi e (by intro z;cases z)
 |ref a=>exact bi e (by intro z;cases z)
 |tup xs=>exact bi e (by intro z;cases z)
 |fl xs=>exact bi e (by intro z;cases z)
def Lq(neg:Bool):fq:=λ x y M Q=>match x,y with
 | .int i,.int j=>Q (.bl (xor neg (decide (i=j)))) M
 | .bl i,.bl j=>Q (.bl (xor neg (decide (i=j)))) M
 | .str i,.str j=>Q (.bl (xor neg (decide (i=j)))) M
 |_,_=>False
def Wa:fm X (compareOp .Eq) (Lq false):=⟨_,RW,λ x y d e H M Q2 Q hd he hm q k=>by
 cases d<;>cases e<;>first
  |exact q.elim
  |(cases(aw.mp hd);cases(aw.mp he);refine⟨rfl,k _ H _ M (aL.mpr rfl) hm (ay.refl H) ?_⟩;have q:Q2 (.bl (xor false (decide (_=_)))) M:=q;simpa using q)
  |(cases(aL.mp hd);cases(aL.mp he);refine⟨rfl,k _ H _ M (aL.mpr rfl) hm (ay.refl H) ?_⟩;have q:Q2 (.bl (xor false (decide (_=_)))) M:=q;simpa using q)
  |(cases(aJ.mp hd);cases(aJ.mp he);refine⟨rfl,k _ H _ M (aL.mpr rfl) hm (ay.refl H) ?_⟩;have q:Q2 (.bl (xor false (decide (_=_)))) M:=q;simpa using q)⟩
def V9:fm X (compareOp .NotEq) (Lq true):=⟨_,RR,λ x y d e H M Q2 Q hd he hm q k=>by
 cases d<;>cases e<;>first
  |exact q.elim
  |(cases(aw.mp hd);cases(aw.mp he);refine⟨rfl,k _ H _ M (aL.mpr rfl) hm (ay.refl H) ?_⟩;have q:Q2 (.bl (xor true (decide (_=_)))) M:=q;simpa using q)
  |(cases(aL.mp hd);cases(aL.mp he);refine⟨rfl,k _ H _ M (aL.mpr rfl) hm (ay.refl H) ?_⟩;have q:Q2 (.bl (xor true (decide (_=_)))) M:=q;simpa using q)
  |(cases(aJ.mp hd);cases(aJ.mp he);refine⟨rfl,k _ H _ M (aL.mpr rfl) hm (ay.refl H) ?_⟩;have q:Q2 (.bl (xor true (decide (_=_)))) M:=q;simpa using q)⟩
def tU(neg:Bool):fq:=λ x y M Q=>match y with
 | .bh=>match x with
  | .bh=>Q (.bl (!neg)) M
  |_=>Q (.bl neg) M
 |_=>False
def tL{x:V}(h:kt K H d x):decide (x=.bh)=match d with| .bh=>true|_=>false:=by
 cases d with
 |bh=>cases(dm.mp h);rfl
 |bl b=>cases(aL.mp h);rfl
 |int b=>cases(aw.mp h);rfl
 |str b=>cases(aJ.mp h);rfl
 |ty b=>cases(vY.mp h);rfl
 |ref b=>cases(aH.mp h);rfl
 |tup b=>obtain⟨p,xs,rfl,_⟩:=aP.mp h;rfl
 |fl b=>obtain⟨p,xs,rfl,_⟩:=iJ.mp h;rfl
def sy:fm X (compareOp .Is) (tU false):=⟨_,Nk,λ x y d e H M Q2 Q hd he hm q k=>by
 cases e with
 |bh=>refine⟨dm.mp he,?_⟩;rw[tL hd];refine k _ H _ M (aL.mpr rfl) hm (ay.refl H) ?_;cases d<;>exact q
 |_=>exact q.elim⟩
def CU:fm X (compareOp .IsNot) (tU true):=⟨_,Iq,λ x y d e H M Q2 Q hd he hm q k=>by
 cases e with
 |bh=>refine⟨dm.mp he,?_⟩;rw[tL hd];refine k _ H _ M (aL.mpr rfl) hm (ay.refl H) ?_;cases d<;>exact q
 |_=>exact q.elim⟩
def T3:D->Mem->bI->Prop:=λ x M Q=>match x with
 | .int i=>Q (.int (-i)) M
 |_=>False
def ko:ZW X (unaryOp .USub) T3:=⟨_,LF,λ x d H M Q2 Q hd hm q k=>by
 cases d with
 |int i=>exact⟨i,aw.mp hd,k _ H _ M (aw.mpr rfl) hm (ay.refl H) q⟩
 |_=>exact q.elim⟩
def kN:List D->Option (List V)
 |[]=>some []
 |d::r=>match nc d,kN r with
  |some v,some vs=>some (v::vs)
  |_,_=>none
theorem mZ:∀{ds:List D} {xs vs:List V},kN ds=some vs->aE K H ds xs->xs=vs/\vs.all gu=true
 |[],xs,vs,e,h=>by cases e;exact⟨au.mp h,rfl⟩
 |d::r,xs,vs,e,h=>by
  obtain⟨x,ys,rfl,hx,hy⟩:=af.mp h;unfold kN at e;cases e1:nc d with
  |none=>rw[e1]at e;cases e
  |some v=>
   cases e2:kN r with
   |none=>rw[e1,e2]at e;cases e
   |some ws=>rw[e1,e2]at e;cases e;obtain⟨h1,h2⟩:=mZ e2 hy;exact⟨by rw[oO e1 hx,h1],by rw[all_cons,m_ e1,h2];rfl⟩
def inD(x:D)(ds:List D):Option Bool:=match nc x,kN ds with
 |some v,some vs=>some (K3 v vs)
 |_,_=>none
def T':fq:=λ x y M Q=>match y with
 | .str j=>match x with
  | .str i=>Q (.bl (!(Builtin.Str.occurrences j i 0 j.length 1).isEmpty)) M
  |_=>False
 | .tup ds=>match inD x ds with
  |some b=>Q (.bl b) M
  |none=>False
 | .ref a=>match M a with
  |some (.lst ds)=>match inD x ds with
   |some b=>Q (.bl b) M
   |none=>False
  |_=>False
 |_=>False
def DI{x:V}(e:inD d ds=some b)(hd:kt K H d x)(hx:aE K H ds xs):gu x=true/\xs.all gu=true/\K3 x xs=b:=by
 unfold inD at e;cases e1:nc d with
 |none=>rw[e1]at e;cases e
 |some v=>
  cases e2:kN ds with
  |none=>rw[e1,e2]at e;cases e
  |some vs=>rw[e1,e2]at e;have e:K3 v vs=b:=B0 e;obtain⟨rfl,h2⟩:=mZ e2 hx;cases(oO e1 hd);exact⟨m_ e1,h2,e⟩
def V':fm X (compareOp .In) T':=⟨_,zy.or zA,λ x y d e H M Q2 Q hd he hm q k=>by
 cases e with
 |str j=>
  cases(aJ.mp he);cases d with
  |str i=>cases(aJ.mp hd);exact .inl ⟨_,_,rfl,rfl,k _ H _ M (aL.mpr rfl) hm (ay.refl H) q⟩
  |_=>exact q.elim
 |tup ds=>
  obtain⟨p,xs,rfl,hp,hx⟩:=aP.mp he;have q:(match inD d ds with|some b=>Q2 (.bl b) M|none=>False):=q;cases ei:inD d ds with
  |none=>rw[ei]at q;exact q.elim
  |some b=>rw[ei]at q;obtain⟨h1,h2,h3⟩:=DI ei hd hx;refine .inr ⟨p,xs,rfl,.inr hp,h1,h2,?_⟩;simp only[o8,J1];rw[h3];exact k _ H _ M (aL.mpr rfl) hm (ay.refl H) q
 |ref a=>
  cases(aH.mp he);have q:(match M a with|some (.lst ds)=>(match inD d ds with|some b=>Q2 (.bl b) M|none=>False)|_=>False):=q;cases ea:M a with
  |none=>rw[ea]at q;exact q.elim
  |some o=>
   cases o with
   |du b ar=>rw[ea]at q;exact q.elim
   |zw x=>rw[ea]at q;exact q.elim
   |lst ds=>
    rw[ea]at q;obtain⟨xs,hx,dx⟩:=hm a _ ea;cases ei:inD d ds with
    |none=>simp only[ei]at q
    |some b=>simp only[ei]at q;obtain⟨h1,h2,h3⟩:=DI ei hd dx;refine .inr ⟨a,xs,rfl,.inl (dv.of hx),h1,h2,?_⟩;simp only[o8,J1];rw[h3];exact k _ H _ M (aL.mpr rfl) hm (ay.refl H) q
 |_=>exact q.elim⟩
def J_(h:aE K H ds xs){i:Int}(e:fi ds i=some d):∃x,fi xs i=some x/\kt K H d x:=by
 unfold fi at e ⊢;rw[h.length];cases q:sT ds.length i with
 |none=>rw[q]at e;cases e
 |some j=>rw[q]at e;obtain⟨x,h1,h2⟩:=h.get (i:=j) e;exact⟨x,h1,h2⟩
def bc(M:Mem)(a:be):Option (List D):=match M a with
 |some (.lst ds)=>some ds
 |_=>none
def c_(e:bc M a=some ds)(hm:lf K H M):∃xs,H a=some (.lst xs)/\aE K H ds xs:=by
 unfold bc at e;cases q:M a with
 |none=>rw[q]at e;cases e
 |some o=>
  cases o with
  |du b ar=>rw[q]at e;cases e
  |zw x=>rw[q]at e;cases e
  |lst es=>rw[q]at e;cases e;exact hm a _ q
def cK(M:Mem):D->Option (List D)
 | .tup ds=>some ds
 | .fl ds=>some ds
 | .ref a=>bc M a
 |_=>none
def gM(e:cK M d=some ds)(hd:kt K H d v)(hm:lf K H M):∃p xs,v=.ref p/\(dv K H p xs\/fj K H p xs)/\aE K H ds xs:=by
 cases d with
 |tup es=>cases e;obtain⟨p,xs,rfl,h,q⟩:=aP.mp hd;exact⟨p,xs,rfl,.inr h,q⟩
 |fl es=>cases e;obtain⟨p,xs,rfl,h,q⟩:=iJ.mp hd;exact⟨p,xs,rfl,.inl h.sq,q⟩
 |ref a=>cases(aH.mp hd);obtain⟨xs,h,q⟩:=c_ e hm;exact⟨a,xs,rfl,.inl (dv.of h),q⟩
 |_=>cases e
def OS:fq:=λ x y M Q=>match y with
 | .int i=>match x with
  | .str z=>z.length<=sizeLine/\(match fi z.cps.toList i with
   |some c=>Q (.str ⟨#[c]⟩) M
   |none=>False)
  |x=>match cK M x with
   |some ds=>(match fi ds i with
    |some d=>Q d M
    |none=>False)
   |none=>False
 |_=>False
def qu{x:V}{i:Int}{Q2:bI}{Q:VK}(hd:kt K H d x)(hm:lf K H M)(k:iS K H Q2 Q)(q:match cK M d with|some ds=>(match fi ds i with|some d=>Q2 d M|none=>False)|none=>False):∃p xs v,x=.ref p/\(dv K H p xs\/fj K H p xs)/\fi xs i=some v/\Q v H:=by
 cases e:cK M d with
 |none=>rw[e]at q;exact q.elim
 |some ds=>
  rw[e]at q;cases ei:fi ds i with
  |none=>simp only[ei]at q
  |some d'=>simp only[ei]at q;obtain⟨p,xs,rfl,h,hx⟩:=gM e hd hm;obtain⟨v,h1,h2⟩:=J_ hx ei;exact⟨p,xs,v,rfl,h,h1,k v H d' M h2 hm (ay.refl H) q⟩
theorem aS:Vo X OS:=⟨_,L2.aS,λ x y d e H M Q2 Q hd he hm q k=>by
 cases e with
 |int i=>
  cases(aw.mp he);cases d with
  |str z=>
   cases(aJ.mp hd);obtain⟨hz,q⟩:=q;refine⟨hz,?_⟩;cases ei:fi z.cps.toList i with
   |none=>rw[ei]at q;exact q.elim
   |some c=>rw[ei]at q;exact⟨c,rfl,k _ H _ M (aJ.mpr rfl) hm (ay.refl H) q⟩
  |tup ds=>obtain⟨p,xs,v,rfl,h⟩:=qu (d:=.tup ds) (i:=i) hd hm k q;exact⟨xs,v,h⟩
  |fl ds=>obtain⟨p,xs,v,rfl,h⟩:=qu (d:=.fl ds) (i:=i) hd hm k q;exact⟨xs,v,h⟩
  |ref a=>obtain⟨p,xs,v,rfl,h⟩:=qu (d:=.ref a) (i:=i) hd hm k q;exact⟨xs,v,h⟩
  |_=>exact q.elim
 |_=>exact q.elim⟩
def cutD(xs:List D)(lo hi:Option Int):List D:=(xs.drop (HT.bY xs.length 0 lo)).take (HT.bY xs.length xs.length hi-HT.bY xs.length 0 lo)
def tW(h:aE K H ds xs)(lo hi:Option Int):aE K H (cutD ds lo hi) (tX xs lo hi):=by unfold cutD tX;rw[h.length];exact(h.drop _).take _
def ZT:D->Option Int->Option Int->Mem->bI->Prop:=λ x lo hi M Q=>match x with
 | .str z=>z.length<=sizeLine/\Q (.str (fI z lo hi)) M
 | .tup ds=>¬(HT.bY ds.length 0 lo=0/\HT.bY ds.length ds.length hi=ds.length)/\Q (.tup (cutD ds lo hi)) M
 | .ref a=>match bc M a with
  |some ds=>∀p,M p=none->Q (.ref p) (ak M p (.lst (cutD ds lo hi)))
  |none=>False
 |_=>False
theorem pO:Vl X ZT:=⟨_,L2.pO,λ x d lo hi H M Q2 Q hd hm q k=>by
 cases d with
 |str z=>cases(aJ.mp hd);exact⟨q.1,k _ H _ M (aJ.mpr rfl) hm (ay.refl H) q.2⟩
 |tup ds=>obtain⟨p,xs,rfl,h,hx⟩:=aP.mp hd;refine .inr ⟨p,xs,rfl,h,by rw[hx.length];exact q.1,λ p2 nF=>?_⟩;exact k _ _ _ M (fU nF (tW hx lo hi)) (hm.laid nF) (ay.laid nF) q.2
 |ref a=>
  cases(aH.mp hd);have q:(match bc M a with|some ds=>∀p,M p=none->Q2 (.ref p) (ak M p (.lst (cutD ds lo hi)))|none=>False):=q;cases e:bc M a with
  |none=>rw[e]at q;exact q.elim
  |some ds=>rw[e]at q;obtain⟨xs,h,hx⟩:=c_ e hm;exact .inl ⟨a,xs,rfl,dv.of h,λ p hp=>k _ _ (.ref p) _ (aH.mpr rfl) (cS hp (tW hx lo hi) hm) (ay.laid hp) (q p (hm.free hp))⟩
 |_=>exact q.elim⟩
def wm:List D->Mem->bI->Prop:=λ xs M Q=>match xs with
 |[.str z]=>z.length<=sizeLine/\Q (.int z.length) M
 |[x]=>match cK M x with
  |some ds=>Q (.int ds.length) M
  |none=>False
 |_=>False
def fL:de X (.builtin "len") wm:=⟨_,qX.or qY,λ xs ds H M Q2 Q hd hm q k=>by
 cases ds with
 |nil=>exact q.elim
 |cons d r=>
  cases r with
  |cons d2 r2=>cases d<;>exact q.elim
  |nil=>
   obtain⟨x,r,rfl,hx,hr⟩:=af.mp hd;cases(au.mp hr);have seq:(match cK M d with|some ds=>Q2 (.int ds.length) M|none=>False)->∃p ys,[x]=[V.ref p]/\(dv X.K H p ys\/fj X.K H p ys)/\Q (.int ys.length) H:=λ q=>by
    cases e:cK M d with
    |none=>rw[e]at q;exact q.elim
    |some es=>rw[e]at q;obtain⟨p,ys,rfl,h,hy⟩:=gM e hx hm;refine⟨p,ys,rfl,h,?_⟩;rw[hy.length];exact k _ H _ M (aw.mpr rfl) hm (ay.refl H) q
   cases d with
   |str z=>cases(aJ.mp hx);exact .inl ⟨z,rfl,q.1,k _ H _ M (aw.mpr rfl) hm (ay.refl H) q.2⟩
   |tup es=>exact .inr (seq q)
   |fl es=>exact .inr (seq q)
   |ref a=>exact .inr (seq q)
   |_=>exact q.elim⟩
def dList:List D->Mem->bI->Prop:=λ xs M Q=>match xs with
 |[x]=>match cK M x with
  |some ds=>∀p,M p=none->Q (.ref p) (ak M p (.lst ds))
  |none=>False
 |_=>False
def EZ:de X (.type "list") dList:=⟨_,qW,λ xs ds H M Q2 Q hd hm q k=>by
 cases ds with
 |nil=>exact q.elim
 |cons d r=>
  cases r with
  |cons d2 r2=>exact q.elim
  |nil=>
   obtain⟨x,r,rfl,hx,hr⟩:=af.mp hd;cases(au.mp hr);have q:(match cK M d with|some ds=>∀p,M p=none->Q2 (.ref p) (ak M p (.lst ds))|none=>False):=q;cases e:cK M d with
   |none=>rw[e]at q;exact q.elim
   |some es=>
    rw[e]at q;obtain⟨p,ys,rfl,h,hy⟩:=gM e hx hm;exact⟨p,ys,rfl,h,λ l hl=>k _ _ (.ref l) _ (aH.mpr rfl) (cS hl hy hm) (ay.laid hl) (q l (hm.free hl))⟩⟩
def qQ:List D->Mem->bI->Prop:=λ xs M Q=>match xs with
 |[x]=>match cK M x with
  |some ds=>Q (.tup ds) M
  |none=>False
 |_=>False
def gh:de X (.type "tuple") qQ:=⟨_,nS,λ xs ds H M Q2 Q hd hm q k=>by
 cases ds with
 |nil=>exact q.elim
 |cons d r=>
  cases r with
  |cons d2 r2=>exact q.elim
  |nil=>
   obtain⟨x,r,rfl,hx,hr⟩:=af.mp hd;cases(au.mp hr);have q:(match cK M d with|some ds=>Q2 (.tup ds) M|none=>False):=q;cases e:cK M d with
   |none=>rw[e]at q;exact q.elim
   |some es=>
    rw[e]at q;obtain⟨p,ys,rfl,h|h,hy⟩:=gM e hx hm
    ·exact⟨p,ys,rfl,.inl ⟨h,λ l hl=>k _ _ (.tup es) M (fU hl hy) (hm.laid hl) (ay.laid hl) q⟩⟩
    ·exact⟨p,ys,rfl,.inr ⟨h,k _ H (.tup es) M (aP.mpr ⟨p,ys,rfl,h,hy⟩) hm (ay.refl H) q⟩⟩⟩
def jN:nE qQ (λ ds M Q=>Q (.tup ds) M):=λ ds M p Q hp hz q=>by
 show(match cK (ak M p (.lst ds)) (.ref p)with|some es=>fin2 Q (.tup es) (ak M p (.lst ds))|none=>False);have e:cK (ak M p (.lst ds)) (.ref p)=some ds:=by show bc (ak M p (.lst ds)) p=some ds;unfold bc;rw[ai]
 rw[e];exact⟨M,(fP.refl M).put hp,q⟩
def jB:List D->Option (List Bool)
 |[]=>some []
 | .bl b::r=>(jB r).map (b::·)
 |_::_=>none
theorem fM:∀(bs:List Bool),jB (bs.map D.bl)=some bs
 |[]=>rfl
 |b::bs=>by rw[C6];unfold jB;rw[fM bs];rfl
theorem yI:∀{ds:List D} {bs:List Bool},jB ds=some bs->ds=bs.map D.bl
 |[],bs,e=>by cases e;rfl
 |d::r,bs,e=>by
  cases d with
  |bl b=>
   unfold jB at e;cases q:jB r with
   |none=>rw[q]at e;cases e
   |some cs=>rw[q]at e;cases e;rw[yI q];rfl
  |_=>cases e
def Ud:List D->Mem->bI->Prop:=λ xs M Q=>match xs with
 |[.ref a]=>match bc M a with
  |some ds=>match jB ds with
   |some bs=>Q (.bl (bs.all id)) M
   |none=>False
  |none=>False
 |_=>False
def Fd(hc:X.calm=true):de X (.builtin "all") Ud:=⟨_,uh hc,λ xs ds H M Q2 Q hd hm q k=>by
 cases ds with
 |nil=>exact q.elim
 |cons d r=>
  cases r with
  |cons d2 r2=>cases d<;>exact q.elim
  |nil=>
   cases d with
   |ref a=>
    obtain⟨x,r,rfl,hx,hr⟩:=af.mp hd;cases(au.mp hr);cases(aH.mp hx);have q:(match bc M a with|some ds=>(match jB ds with|some bs=>Q2 (.bl (bs.all id)) M|none=>False)|none=>False):=q;cases e:bc M a with
    |none=>rw[e]at q;exact q.elim
    |some es=>
     rw[e]at q;cases eb:jB es with
     |none=>simp only[eb]at q
     |some bs=>simp only[eb]at q;obtain⟨ys,h,hy⟩:=c_ e hm;rw[yI eb]at hy;exact⟨a,bs,rfl,dv.of (by rw[h,nk hy]),k _ H _ M (aL.mpr rfl) hm (ay.refl H) q⟩
   |_=>exact q.elim⟩
def hV:bc (ak M p (.lst ds)) p=some ds:=by unfold bc;rw[ai]
def nB:List D->Mem->bI->Prop:=λ ds M Q=>match jB ds with
 |some bs=>Q (.bl (bs.all id)) M
 |none=>False
def pH:nE Ud nB:=λ ds M p Q hp hz q=>by
 show(match bc (ak M p (.lst ds)) p with|some ds'=>(match jB ds' with|some bs=>fin2 Q (.bl (bs.all id)) (ak M p (.lst ds))|none=>False)|none=>False);rw[hV];unfold nB at q;cases eb:jB ds with
 |none=>rw[eb]at q;exact q.elim
 |some bs=>rw[eb]at q;simp only[eb];exact⟨M,(fP.refl M).put hp,q⟩
def md(M:Mem):D->Option String
 | .bh=>some "NoneType"
 | .bl _=>some "bool"
 | .int _=>some "int"
 | .str _=>some "str"
 | .tup _=>some "tuple"
 | .fl _=>some "list"
 | .ref a=>(bc M a).map λ _=>"list"
 |_=>none
def qy(n T:String):Bool:=n==T||(n=="bool"&&T=="int")
structure gA(K:J8)(T:String):Prop where
 bh:PySem.W.kitOne K (.type "NoneType") (.type T)=some (qy "NoneType" T)
 bl:PySem.W.kitOne K (.type "bool") (.type T)=some (qy "bool" T)
 int:PySem.W.kitOne K (.type "int") (.type T)=some (qy "int" T)
 str:PySem.W.kitOne K (.type "str") (.type T)=some (qy "str" T)
 tup:PySem.W.kitOne K (.type "tuple") (.type T)=some (qy "tuple" T)
 lst:PySem.W.kitOne K (.type "list") (.type T)=some (qy "list" T)
def EY:cI X (.builtin "isinstance") (λ xs H Q=>∃(x:V)(T n:String),xs=[x,.ty T]/\gA X.K T/\
  ((x=.bh/\n="NoneType")\/(∃b,x=.bl b/\n="bool")\/(∃i,x=.int i/\n="int")\/(∃z,x=.str z/\n="str")\/(∃p ys,x=.ref p/\fj X.K H p ys/\n="tuple")\/(∃p ys,x=.ref p/\dv X.K H p ys/\n="list"))/\Q (.bl (qy n T)) H):=by
 intro ce s σ H xs us Q I r h;obtain⟨x,T,n,rfl,ok,hx,q⟩:=h;obtain⟨u,w',rfl,rx,ry⟩:=vals2 r;have e:w'=Value.type T:=ry;subst e;rcases hx with⟨rfl,rfl⟩|⟨b,rfl,rfl⟩|⟨i,rfl,rfl⟩|⟨z,rfl,rfl⟩|⟨p,ys,rfl,hq,rfl⟩|⟨p,ys,rfl,hq,rfl⟩
 ·exact h_ I rx .bh ok.bh λ tk=>⟨.bl _,H,I.tok tk,rfl,q⟩
 ·exact h_ I rx (.bl b) ok.bl λ tk=>⟨.bl _,H,I.tok tk,rfl,q⟩
 ·exact h_ I rx (.int i) ok.int λ tk=>⟨.bl _,H,I.tok tk,rfl,q⟩
 ·exact h_ I rx (.str z) ok.str λ tk=>⟨.bl _,H,I.tok tk,rfl,q⟩
 ·cases(show u=Value.ref p from rx);obtain⟨av,_,⟨o,h1,h2,_⟩,_⟩:=I.tuple hq;exact B3 PySem.W.kitx_tuple I.nN ⟨o,h1,h2⟩ ok.tup (λ z=>nomatch z) λ tk=>⟨.bl _,H,I.tok tk,rfl,q⟩
 ·cases(show u=Value.ref p from rx);obtain⟨av,_,pl,_⟩:=I.list hq;obtain⟨o,h1,h2,_⟩:=pl.isList;exact B3 PySem.W.kitx_list I.nN ⟨o,h1,h2⟩ ok.lst (λ z=>nomatch z) λ tk=>⟨.bl _,H,I.tok tk,rfl,q⟩
def Lo(T:String):List D->Mem->bI->Prop:=λ xs M Q=>match xs with
 |[x,.ty U]=>U=T/\(match md M x with
  |some n=>Q (.bl (qy n T)) M
  |none=>False)
 |_=>False
def eL(ok:gA X.K T):de X (.builtin "isinstance") (Lo T):=⟨_,EY,λ xs ds H M Q2 Q hd hm q k=>by
 cases ds with
 |nil=>exact q.elim
 |cons d r0=>
 cases r0 with
 |nil=>exact q.elim
 |cons d2 r1=>
 cases r1 with
 |cons _ _=>cases d2<;>exact q.elim
 |nil=>
 cases d2 with
 |ty U=>
  obtain⟨x,r,rfl,hx,hr⟩:=af.mp hd;obtain⟨y,r2,rfl,hy,Jr⟩:=af.mp hr;cases(au.mp Jr);cases(vY.mp hy);obtain⟨rfl,q⟩:=q;cases e:md M d with
  |none=>rw[e]at q;exact q.elim
  |some n=>
   rw[e]at q;refine⟨x,U,n,rfl,ok,?_,k _ H _ M (aL.mpr rfl) hm (ay.refl H) q⟩;cases d with
   |bh=>cases e;exact .inl ⟨dm.mp hx,rfl⟩
   |bl b=>cases e;exact .inr (.inl ⟨b,aL.mp hx,rfl⟩)
   |int i=>cases e;exact .inr (.inr (.inl ⟨i,aw.mp hx,rfl⟩))
   |str z=>cases e;exact .inr (.inr (.inr (.inl ⟨z,aJ.mp hx,rfl⟩)))
   |tup es=>cases e;obtain⟨p,ys,rfl,h,_⟩:=aP.mp hx;exact .inr (.inr (.inr (.inr (.inl ⟨p,ys,rfl,h,rfl⟩))))
   |fl es=>cases e;obtain⟨p,ys,rfl,h,_⟩:=iJ.mp hx;exact .inr (.inr (.inr (.inr (.inr ⟨p,ys,rfl,h.sq,rfl⟩))))
   |ref a=>
    cases el:bc M a with
    |none=>have e:(bc M a).map (λ _=>"list")=some n:=e;rw[el]at e;cases e
    |some es=>have e:(bc M a).map (λ _=>"list")=some n:=e;rw[el]at e;cases e;obtain⟨ys,h,_⟩:=c_ el hm;exact .inr (.inr (.inr (.inr (.inr ⟨a,ys,aH.mp hx,dv.of h,rfl⟩))))
   |ty n=>cases e
 |_=>exact q.elim⟩
def eQ:List D->Option (List Str)
 |[]=>some []
 | .str z::r=>(eQ r).map (z::·)
 |_::_=>none
theorem rM:∀{ds:List D} {zs:List Str},eQ ds=some zs->ds=zs.map D.str
 |[],zs,e=>by cases e;rfl
 |d::r,zs,e=>by
  cases d with
  |str z=>
   unfold eQ at e;cases q:eQ r with
   |none=>rw[q]at e;cases e
   |some ys=>rw[q]at e;cases e;rw[rM q];rfl
  |_=>cases e
theorem jP:∀(zs:List Str),eQ (zs.map D.str)=some zs
 |[]=>rfl
 |b::bs=>by rw[C6];unfold eQ;rw[jP bs];rfl
def iN:D->List D->Mem->bI->Prop:=λ x ds M Q=>match x with
 | .str z=>match eQ ds with
  |some ys=>(ys.map (·.length)).sum+ys.length*z.length<=16777216/\Q (.str (Txt.join z ys)) M
  |none=>False
 |_=>False
def EM:D->List D->Mem->bI->Prop:=λ x vs M Q=>match vs with
 |[.ref a]=>match bc M a with
  |some ds=>iN x ds M Q
  |none=>False
 |_=>False
def vE:Pa X "str.join" EM:=⟨_,IT,λ x xs d ds H M Q2 Q hx hd hm q k=>by
 cases ds with
 |nil=>exact q.elim
 |cons d1 r0=>
 cases r0 with
 |cons _ _=>cases d1<;>exact q.elim
 |nil=>
 cases d1 with
 |ref a=>
  obtain⟨y,r,rfl,hy,hr⟩:=af.mp hd;cases(au.mp hr);cases(aH.mp hy);have q:(match bc M a with|some ds=>iN d ds M Q2|none=>False):=q;cases e:bc M a with
  |none=>rw[e]at q;exact q.elim
  |some es=>
   rw[e]at q;cases d with
   |str z=>
    have q:(match eQ es with|some ys=>(ys.map (·.length)).sum+ys.length*z.length<=16777216/\Q2 (.str (Txt.join z ys)) M|none=>False):=q;cases OI:eQ es with
    |none=>rw[OI]at q;exact q.elim
    |some ys=>rw[OI]at q;obtain⟨vs,h,hv⟩:=c_ e hm;rw[rM OI]at hv;exact⟨z,a,ys,aJ.mp hx,rfl,dv.of (by rw[h,oS hv]),q.1,k _ H _ M (aJ.mpr rfl) hm (ay.refl H) q.2⟩
   |_=>exact q.elim
 |_=>exact q.elim⟩
def Bl:Fh EM iN:=λ d ds M p Q hp hz q=>by
 show(match bc (ak M p (.lst ds)) p with|some es=>iN d es (ak M p (.lst ds)) (fin2 Q)|none=>False);rw[hV];cases d with
 |str z=>
  have q:(match eQ ds with|some ys=>(ys.map (·.length)).sum+ys.length*z.length<=16777216/\Q (.str (Txt.join z ys)) M|none=>False):=q;show(match eQ ds with|some ys=>(ys.map (·.length)).sum+ys.length*z.length<=16777216/\fin2 Q (.str (Txt.join z ys)) (ak M p (.lst ds))|none=>False);cases e:eQ ds with
  |none=>rw[e]at q;exact q.elim
  |some ys=>rw[e]at q;exact⟨q.1,M,(fP.refl M).put hp,q.2⟩
 |_=>exact q.elim
def JN:kU:=λ o i v M N=>match o,i with
 | .ref a,.int k=>match bc M a with
  |some ds=>(match sT ds.length k with
   |some j=>N (ak M a (.lst (ds.set j v)))
   |none=>False)
  |none=>False
 |_,_=>False
def kx:Kd X JN:=⟨_,set_list,λ o i v d j e H M Q2 Q hd hj he hm q k=>by
 cases d with
 |ref a=>
  cases j with
  |int n=>
   cases(aH.mp hd);cases(aw.mp hj);have q:(match bc M a with|some ds=>(match sT ds.length n with|some j=>Q2 (ak M a (.lst (ds.set j e)))|none=>False)|none=>False):=q;cases el:bc M a with
   |none=>rw[el]at q;exact q.elim
   |some ds=>
    rw[el]at q;cases ei:sT ds.length n with
    |none=>simp only[ei]at q
    |some m=>simp only[ei]at q;obtain⟨xs,h,hx⟩:=c_ el hm;refine⟨a,xs,n,m,rfl,rfl,h,by rw[hx.length];exact ei,?_⟩;exact k _ _ (hm.put (u:=.lst (ds.set m e)) (ay.lst h) ⟨_,bL,aE.mono (ay.lst h) _ (hx.set he m)⟩) (ay.lst h) q
  |_=>exact q.elim
 |_=>exact q.elim⟩
section
variable {Q:bI}{ta tb tc:bT}{r r':fq}{E:ir}{t u:iq}{c c':eB}{tl:ij}{QL:List D->Mem->Prop}
def BR(h:t {E with nx:=u E} δ M):L6 t u E δ M:=h
def Mt(h:c δ M λ b M1=>if b=true then t E δ M1 else u E δ M1):Rc c t u E δ M:=h
def Hn(h:E.nx δ M):Kv E δ M:=h
def Mf(h:ta δ M E.rt):Q8 ta E δ M:=h
def Cg(h:ta δ M λ d M1=>g d δ M1 E.nx):BL ta g E δ M:=h
def HH(h:ta δ M λ _ M1=>E.nx δ M1):Kz ta E δ M:=h
def eR(h:N (δ.set i (some d)) M):im i d δ M N:=h
def Md{s:kU}(h:ta δ M λ o M1=>tb δ M1 λ j M2=>s o j d M2 λ M3=>N δ M3):hSub ta tb s d δ M N:=h
def Me{k:Int}{v:D}{j:Nat}{N:Mem->Prop}(h:M a=some (.lst ds))(e:sT ds.length k=some j)(q:N (ak M a (.lst (ds.set j v)))):JN (.ref a) (.int k) v M N:=by
 show(match bc M a with|some ds=>(match sT ds.length k with|some j=>N (ak M a (.lst (ds.set j v)))|none=>False)|none=>False);have e1:bc M a=some ds:=by unfold bc;rw[h]
 rw[e1];simp only[e];exact q
def Hf(h:ta δ M λ d M1=>match d with| .bl k=>QB k M1|_=>False):xk ta δ M QB:=h
def Rp(h:ta δ M λ d M1=>tb δ M1 λ e M2=>r d e M2 Q):Pn r ta tb δ M Q:=h
def Rl{s:D->Mem->bI->Prop}(h:ta δ M λ d M1=>s d M1 Q):Y_ s ta δ M Q:=h
def Ma(e:δ[i]?=some (some d))(h:Q d M):GZ i δ M Q:=by unfold GZ;rw[e];exact h
def Rt(h:Q d M):sC d δ M Q:=h
def MA(h:c δ M λ b M1=>if b=true then c' δ M1 QB else QB false M1):Rh c c' δ M QB:=h
def Ro(h:c δ M λ b M1=>if b=true then QB true M1 else c' δ M1 QB):Zc c c' δ M QB:=h
def Mh(h:c δ M λ b M1=>QB (!b) M1):Q_ c δ M QB:=h
def HN(h:ta δ M λ d M1=>match d with| .bl c=>(if c=true then tb δ M1 Q else Q (.bl false) M1)|_=>False):KC ta tb δ M Q:=h
def Mg(h:ta δ M λ d M1=>match d with| .bl c=>(if c=true then Q (.bl true) M1 else tb δ M1 Q)|_=>False):Q9 ta tb δ M Q:=h
def Hm(h:ta δ M λ d M1=>match d with| .bl c=>Q (.bl (!c)) M1|_=>False):Ku ta δ M Q:=h
def Mu(h:c δ M λ b M1=>if b=true then ta δ M1 Q else tb δ M1 Q):Zd c ta tb δ M Q:=h
def Cf(h:ta δ M λ d M1=>tb δ M1 λ e M2=>r d e M2 λ z M3=>match z with| .bl k=>(if k=true then tc δ M3 λ w M4=>r' e w M4 Q else Q (.bl false) M3)|_=>False):u_ r r' ta tb tc δ M Q:=h
def Mi(h:QL [] M):zh δ M QL:=h
def HI(h:ta δ M λ d M1=>tl δ M1 λ ds M2=>QL (d::ds) M2):iZ ta tl δ M QL:=h
def Mb(h:tl δ M λ ds M1=>ds.length<=sizeLine/\Q (.tup ds) M1):Q7 tl δ M Q:=h
def Mo(h:tl δ M λ ds M1=>ds.length<=sizeLine/\∀p,M1 p=none->Q (.ref p) (ak M1 p (.lst ds))):Ra tl δ M Q:=h
def Rr{s:List D->Mem->bI->Prop}(h:tl δ M λ ds M1=>s ds M1 Q):UO s tl δ M Q:=h
def VY(h:tl δ M λ ds M1=>sp ds M1 Q):sD sp tl δ M Q:=h
def Rn{s:D->Option Int->Option Int->Mem->bI->Prop}{l h':Kc}(h:ta δ M λ d M1=>l δ M1 λ i M2=>h' δ M2 λ j M3=>s d i j M3 Q):Y' s ta l h' δ M Q:=h
def zm{QO:Option Int->Mem->Prop}(h:QO none M):xp δ M QO:=h
def Hl{QO:Option Int->Mem->Prop}(h:ta δ M λ d M1=>match d with| .int i=>QO (some i) M1|_=>False):Kt ta δ M QO:=h
def Rv{s:D->List D->Mem->bI->Prop}(h:ta δ M λ d M1=>Ph T d M1/\tl δ M1 λ ds M2=>s d ds M2 Q):Ze T s ta tl δ M Q:=h
def fb(W:cH->Mem->Prop)(h1:∀N:cH->Mem->Prop,(∀δ' M',W δ' M'->N δ' M')->t {E with nx:=N} δ M)(h2:∀δ' M',W δ' M'->u E δ' M'):L6 t u E δ M:=h1 (u E) h2
set_option tactic.hygienic true in
def om{o:MO}(h:M a=some o):ak M a o=M:=by
 funext b;unfold ak;split
 ·rename_i e;rw[e,h]
 ·rfl
def ck{i:Int}(h:M a=some (.lst ds))(e:fi ds i=some d)(q:Q d M):OS (.ref a) (.int i) M Q:=by
 show(match bc M a with|some ds=>(match fi ds i with|some d=>Q d M|none=>False)|none=>False);have e1:bc M a=some ds:=by unfold bc;rw[h]
 rw[e1];simp only[e];exact q
def cL{i:Int}(e:fi ds i=some d)(q:Q d M):OS (.tup ds) (.int i) M Q:=by show(match fi ds i with|some d=>Q d M|none=>False);rw[e];exact q
def ve{i:Int}{x:Nat}(hz:z.length<=sizeLine)(e:fi z.cps.toList i=some x)(q:Q (.str ⟨#[x]⟩) M):OS (.str z) (.int i) M Q:=by refine⟨hz,?_⟩;show(match fi z.cps.toList i with|some c=>Q (.str ⟨#[c]⟩) M|none=>False);rw[e];exact q
def VX{g:Int->Int->D}{i:Int}(h:C i j)(q:Q (g i j) M):dI C g (.int i) (.int j) M Q:=⟨h,q⟩
def Mm{g:Int->Int->D}{i:Int}(h:0<j)(q:Q (g i j) M):dI (λ _ j=>0<j) g (.int i) (.int j) M Q:=⟨h,q⟩
def Mz{g:Int->Int->D}{i:Int}(h:0<j)(h2:j<1073741824)(q:Q (g i j) M):dI Pe g (.int i) (.int j) M Q:=⟨⟨h,h2⟩,q⟩
def EW{i:Int}(h0: -1000000000000<=i)(h1:i<=1000000000000):rp i j:=.inl ⟨Int.lt_of_lt_of_le (by decide) h0,u6 h1 (by decide)⟩
def O0{i:Int}(h0: -1000000000000<=j)(h1:j<=1000000000000):rp i j:=.inr ⟨Int.lt_of_lt_of_le (by decide) h0,u6 h1 (by decide)⟩
def Rq{g:Int->Int->D}{i:Int}(q:Q (g i j) M):OU g (.int i) (.int j) M Q:=q
def HQ{b:be}{xs ys:List D}(ha:M a=some (.lst xs))(hb:M b=some (.lst ys))(h:xs.length+ys.length<=sizeLine)(q:∀p,M p=none->Q (.ref p) (ak M p (.lst (xs++ys)))):JQ (.ref a) (.ref b) M Q:=by show(match M a,M b with|some (.lst xs),some (.lst ys)=>xs.length+ys.length<=sizeLine/\∀p,M p=none->Q (.ref p) (ak M p (.lst (xs++ys)))|_,_=>False);rw[ha,hb];exact⟨h,q⟩
def Ht{i:Int}(h:rp i j)(q:Q (.int (i*j)) M):JP (.int i) (.int j) M Q:=⟨h,q⟩
def Hs{i:Str}(h:MulOk i j)(q:Q (.str (Txt.mul i j)) M):JP (.str i) (.int j) M Q:=⟨h,q⟩
def Mp{i:Int}(q:Q (.bl (decide (i<=j))) M):XN (.int i) (.int j) M Q:=q
def Mx{i:Int}(q:Q (.bl (decide (i=j))) M):Lq false (.int i) (.int j) M Q:=by show Q (.bl (xor false (decide (i=j)))) M;simpa using q
def My{i j:Bool}(q:Q (.bl (decide (i=j))) M):Lq false (.bl i) (.bl j) M Q:=by show Q (.bl (xor false (decide (i=j)))) M;simpa using q
def Mw{i j:Str}(q:Q (.bl (decide (i=j))) M):Lq false (.str i) (.str j) M Q:=by show Q (.bl (xor false (decide (i=j)))) M;simpa using q
def Mk{i:Int}(q:Q (.bl (!decide (i=j))) M):Lq true (.int i) (.int j) M Q:=by show Q (.bl (xor true (decide (i=j)))) M;simpa using q
def Ml{i j:Bool}(q:Q (.bl (!decide (i=j))) M):Lq true (.bl i) (.bl j) M Q:=by show Q (.bl (xor true (decide (i=j)))) M;simpa using q
def Hw(h:M a=some (.lst ds))(q:Q (.int ds.length) M):wm [.ref a] M Q:=by
 show(match bc M a with|some ds=>Q (.int ds.length) M|none=>False);have e1:bc M a=some ds:=by unfold bc;rw[h]
 rw[e1];exact q
def Hv(q:Q (.int ds.length) M):wm [.tup ds] M Q:=q
def xr(h:z.length<=sizeLine)(q:Q (.int z.length) M):wm [.str z] M Q:=⟨h,q⟩
def Mq{x:D}(e:inD x ds=some b)(q:Q (.bl b) M):T' x (.tup ds) M Q:=by show(match inD x ds with|some b=>Q (.bl b) M|none=>False);rw[e];exact q
def Ms{x:D}(h:M a=some (.lst ds))(e:inD x ds=some b)(q:Q (.bl b) M):T' x (.ref a) M Q:=by show(match M a with|some (.lst ds)=>(match inD x ds with|some b=>Q (.bl b) M|none=>False)|_=>False);rw[h];simp only[e];exact q
def Mr{i j:Str}(q:Q (.bl (!(Builtin.Str.occurrences j i 0 j.length 1).isEmpty)) M):T' (.str i) (.str j) M Q:=q
def BV(q:∀p,M p=none->Q (.ref p) (ak M p (.lst ds))):dList [.fl ds] M Q:=q
def Mj{i:Int}(q:Q (.int (-i)) M):T3 (.int i) M Q:=q
def bJ{P:Prop}{inst:Decidable P}{A B:Prop}(h1:P->A)(h2:¬P->B):if @decide P inst=true then A else B:=by
 by_cases h:P
 ·rw[B9 h,J6 rfl];exact h1 h
 ·rw[A7 h,J7 n0];exact h2 h
def lA{P:Prop}{inst:Decidable P}{A B:Prop}(h1:¬P->A)(h2:P->B):if(!@decide P inst)=true then A else B:=by
 by_cases h:P
 ·rw[B9 h,Bool.not_true,J7 n0];exact h2 h
 ·rw[A7 h,Bool.not_false,J6 rfl];exact h1 h
def Hz{A B:Prop}(h:A):if true=true then A else B:=by rw[J6 rfl];exact h
def HA{A B:Prop}(h:B):if false=true then A else B:=by rw[J7 n0];exact h
def eS{A B:Prop}(h1:b=true->A)(h2:b=false->B):if b=true then A else B:=by
 cases b with
 |true=>rw[J6 rfl];exact h1 rfl
 |false=>rw[J7 n0];exact h2 rfl
end
section
variable {δc:cH}{E:ir}
def fh(Pv:Nat->List D->Mem->Prop)(h0:Pv 0 [] M1)(hz:∀i dL M,i<=ds.length->Pv i dL M->dL.length<=sizeLine)(hs:∀i d dL M,ds[i]?=some d->Pv i dL M->g d δc M λ δ2 M2=>tt δ2 M2 λ b M3=>if b=true then te δ2 M3 λ y M4=>Pv (i+1) (dL++[y]) M4 else Pv (i+1) dL M3)(hd:∀dL M,Pv ds.length dL M->Qe dL M):∃(B:Nat)(W:Nat->List D->Mem->Prop),W 0 [] M1/\∀i dL M,W i dL M->i<=B/\dL.length<=sizeLine/\match ii (.fix ds) M with
   |none=>False
   |some ds=>match ds[i]? with
    |none=>i=ds.length/\Qe dL M
    |some d=>g d δc M λ δ2 M2=>tt δ2 M2 λ b M3=>if b=true then te δ2 M3 λ y M4=>W (i+1) (dL++[y]) M4 else W (i+1) dL M3:=by
 refine⟨ds.length,λ i dL M=>if i<=ds.length then Pv i dL M else False,by dsimp only;rw[J6 (G5 _)];exact h0,?_⟩;intro i dL M w;by_cases hi:i<=ds.length
 ·rw[J6 hi]at w;refine⟨hi,hz i dL M hi w,?_⟩;show(match ds[i]? with
    |none=>i=ds.length/\Qe dL M
    |some d=>g d δc M λ δ2 M2=>tt δ2 M2 λ b M3=>if b=true then te δ2 M3 λ y M4=>(if i+1<=ds.length then Pv (i+1) (dL++[y]) M4 else False)else(if i+1<=ds.length then Pv (i+1) dL M3 else False))
  cases e:ds[i]? with
  |none=>have:i=ds.length:=B7 hi (c6.mp e);subst this;exact⟨rfl,hd dL M w⟩
  |some d=>have fR:i+1<=ds.length:=(c5.mp e).1;simp only[J6 fR];exact hs i d dL M e w
 ·rw[J7 hi]at w;exact w.elim
def gU(Pv:Nat->cH->Mem->Prop)(h0:Pv 0 δ M1)(hs:∀i d δ M,ds[i]?=some d->Pv i δ M->g d δ M λ δ2 M2=>tb {E with nx:=Pv (i+1),ct:=Pv (i+1),bk:=E.nx} δ2 M2)(hd:∀δ M,Pv ds.length δ M->E.nx δ M):∃(B:Nat)(W:Nat->cH->Mem->Prop),W 0 δ M1/\∀i δ M,W i δ M->i<=B/\match ii (.fix ds) M with
   |none=>False
   |some ds=>match ds[i]? with
    |none=>i=ds.length/\E.nx δ M
    |some d=>g d δ M λ δ2 M2=>tb {E with nx:=W (i+1),ct:=W (i+1),bk:=E.nx} δ2 M2:=by
 refine⟨ds.length,λ i δ M=>if i<=ds.length then Pv i δ M else False,by dsimp only;rw[J6 (G5 _)];exact h0,?_⟩;intro i δ M w;by_cases hi:i<=ds.length
 ·rw[J6 hi]at w;refine⟨hi,?_⟩;show(match ds[i]? with
    |none=>i=ds.length/\E.nx δ M
    |some d=>g d δ M λ δ2 M2=>tb {E with nx:=(λ δ M=>if i+1<=ds.length then Pv (i+1) δ M else False),ct:=(λ δ M=>if i+1<=ds.length then Pv (i+1) δ M else False),bk:=E.nx} δ2 M2)
  cases e:ds[i]? with
  |none=>have:i=ds.length:=B7 hi (c6.mp e);subst this;exact⟨rfl,hd δ M w⟩
  |some d=>have fR:i+1<=ds.length:=(c5.mp e).1;simp only[J6 fR];exact hs i d δ M e w
 ·rw[J7 hi]at w;exact w.elim
def dA(Pv:Nat->cH->Mem->Prop)(h0:Pv 0 δ M1)(hl:∀i δ M,i<=ds.length->Pv i δ M->M a=some (.lst ds))(hs:∀i d δ M,ds[i]?=some d->Pv i δ M->g d δ M λ δ2 M2=>tb {E with nx:=Pv (i+1),ct:=Pv (i+1),bk:=E.nx} δ2 M2)(hd:∀δ M,Pv ds.length δ M->E.nx δ M):∃(B:Nat)(W:Nat->cH->Mem->Prop),W 0 δ M1/\∀i δ M,W i δ M->i<=B/\match ii (.at a) M with
   |none=>False
   |some ds=>match ds[i]? with
    |none=>i=ds.length/\E.nx δ M
    |some d=>g d δ M λ δ2 M2=>tb {E with nx:=W (i+1),ct:=W (i+1),bk:=E.nx} δ2 M2:=by
 refine⟨ds.length,λ i δ M=>if i<=ds.length then Pv i δ M else False,by dsimp only;rw[J6 (G5 _)];exact h0,?_⟩;intro i δ M w;by_cases hi:i<=ds.length
 ·rw[J6 hi]at w;refine⟨hi,?_⟩;have e0:ii (.at a) M=some ds:=by show(match M a with|some (.lst ds)=>some ds|_=>none)=some ds;rw[hl i δ M hi w]
  rw[e0];show(match ds[i]? with
    |none=>i=ds.length/\E.nx δ M
    |some d=>g d δ M λ δ2 M2=>tb {E with nx:=(λ δ M=>if i+1<=ds.length then Pv (i+1) δ M else False),ct:=(λ δ M=>if i+1<=ds.length then Pv (i+1) δ M else False),bk:=E.nx} δ2 M2)
  cases e:ds[i]? with
  |none=>have:i=ds.length:=B7 hi (c6.mp e);subst this;exact⟨rfl,hd δ M w⟩
  |some d=>have fR:i+1<=ds.length:=(c5.mp e).1;simp only[J6 fR];exact hs i d δ M e w
 ·rw[J7 hi]at w;exact w.elim
end
section
variable {Q:bI}{ta:bT}{E:ir}{tl:ij}
def Mc{r3:List D->Mem->bI->Prop}(h:wi δ M λ src M1=>∃(B:Nat)(W:Nat->List D->Mem->Prop),W 0 [] M1/\∀i dL M,W i dL M->i<=B/\dL.length<=sizeLine/\match ii src M with
   |none=>False
   |some ds=>match ds[i]? with
    |none=>i=ds.length/\r3 dL M Q
    |some d=>g d (iP n fr δ) M λ δ2 M2=>tt δ2 M2 λ b M3=>if b=true then te δ2 M3 λ y M4=>W (i+1) (dL++[y]) M4 else W (i+1) dL M3):G_ r3 wi g tt te n fr δ M Q:=h
def He{r3:D->List D->Mem->bI->Prop}(h:ta δ M λ d M1=>Ph T d M1/\f' wi g tt te n fr δ M1 λ ds M'=>r3 d ds M' Q):Ks T r3 ta wi g tt te n fr δ M Q:=h
def Ce{Qe:List D->Mem->Prop}(h:wi δ M λ src M1=>∃(B:Nat)(W:Nat->List D->Mem->Prop),W 0 [] M1/\∀i dL M,W i dL M->i<=B/\dL.length<=sizeLine/\match ii src M with
   |none=>False
   |some ds=>match ds[i]? with
    |none=>i=ds.length/\Qe dL M
    |some d=>g d (iP n fr δ) M λ δ2 M2=>tt δ2 M2 λ b M3=>if b=true then te δ2 M3 λ y M4=>W (i+1) (dL++[y]) M4 else W (i+1) dL M3):f' wi g tt te n fr δ M Qe:=h
def HJ(h:f' wi g tt te n fr δ M λ ds M'=>∀p,M' p=none->Q (.ref p) (ak M' p (.lst ds))):BK wi g tt te n fr δ M Q:=h
def Mv(h:wi δ M λ src M1=>∃(B:Nat)(W:Nat->cH->Mem->Prop),W 0 δ M1/\∀i δ M,W i δ M->i<=B/\match ii src M with
   |none=>False
   |some ds=>match ds[i]? with
    |none=>i=ds.length/\E.nx δ M
    |some d=>g d δ M λ δ2 M2=>tb {E with nx:=W (i+1),ct:=W (i+1),bk:=E.nx} δ2 M2):Rf wi g tb E δ M:=h
def Hk(h:tl δ M λ ds M1=>match ds with|[.int j]=>Pb j/\R (.fix (fc 0 j.toNat)) M1|_=>False):KW tl δ M R:=h
def L'(h:QB true M):rQ δ M QB:=h
def uo{xs:List α}{d:Int}(h0:0<=d)(h1:d<xs.length):∃c,fi xs d=some c:=by
 have hl:d.toNat<xs.length:=()
 have e:((d.toNat:Nat):Int)=d:=()
 have q:fi xs ((d.toNat:Nat):Int)=some xs[d.toNat]:=cT (by simp[hl]);rw[e]at q;exact⟨_,q⟩
end
def strsOf:List Expr->Option (List Str)
 |[]=>some []
 | .Constant (.str x) _ _::r=>(strsOf r).map (x::·)
 |_::_=>none
def xm(zs:List Str):ij:=λ _ M Q=>Q (zs.map D.str) M
def Hh{Q:List D->Mem->Prop}(h:Q (zs.map D.str) M):xm zs δ M Q:=h
theorem xx:∀{es:List Expr} {zs:List Str},strsOf es=some zs->QA X es (xm zs)
 |[],zs,h=>by cases h;exact Cn
 |e::es,zs,h=>by
  cases e with
  |Constant c j pos=>
   cases c with
   |str x=>
    unfold strsOf at h;cases q:strsOf es with
    |none=>rw[q]at h;cases h
    |some ys=>rw[q]at h;cases h;exact CK (xy (ta:=sC (.str x)) (t:=xm ys) KH (xx q)) λ σ H Q h=>h
   |_=>exact bi h (by unfold strsOf;intro z;cases z)
  |_=>exact bi h (by unfold strsOf;intro z;cases z)
end L3
namespace L4
open PySem.Spec L2 L3
section
variable {a b c:Expr}{ta tb tc:bT}
def aV{i j:_}:WE X (.Constant (.str i) j pos) (sC (.str i)):=⟨KH⟩
variable {tA tB:eB}
def bp:WA X [] zh:=⟨Cn⟩
def aZ(ha:WE X e ta)(hr:WA X es t)(hs:ux X e es:=by rfl):WA X (e::es) (iZ ta t):=⟨xy (ha:=ha.h) (hr:=hr.h) (hs:=hs)⟩
variable {lo hi:Option Expr}{tl th:Kc}
variable {x:Str}{p:Pos}{id:String}
end
section
variable {o:Expr}{to:bT}{id:String}
end
section
variable {x:Str}{p:Pos}{j:Nat}
end
section
variable {rest:List Stmt}{t u:iq}
end
section
variable {l:Expr}{tl:bT}{a b:Expr}{p:Pos}
end
section
variable {c:Expr}{tc:eB}
end
section
variable {x:Str}{p:Pos}{id:String}
variable {o:Expr}{to:bT}
end
def pC(h:strsOf es=some zs):WA X es (xm zs):=⟨xx h⟩
section
variable {x:Str}{px py pt:Pos}
def lW(fr:List Nat)(it:WI X (.Name x px) iter wi)(hi:∀{cl C fp s H},PU (bj X scope cl [x] fr C fp s H) ifs tt)(he:∀{cl C fp s H},WE (bj X scope cl [x] fr C fp s H) elt te)(b:gB X scope fr:=by exact wH (by kernel_rfl))(calm:X.calm=true:=by rfl)(xe:∀e s,X.xe e s->False:=by exact λ _ _ h=>h)(LM:∀cl C fp s H,PG (bj X scope cl [x] fr C fp s H) (.Name x px) (cB 0):=by exact λ _ _ _ _ _=>gc (i:=0) (ca (by kernel_rfl)) rfl (by first|exact Or.inl rfl|exact Or.inr rfl)):dq X scope [x] fr (.Name x px) iter ifs elt wi (im 0) tt te:=
 ⟨b,calm,xe,it,Bg LM (by simp),λ _ _ _ _ _=>hi,λ _ _ _ _ _=>he⟩
def UG(fr:List Nat)(it:WI X (.Tuple [.Name x px,.Name y py] k pt) iter wi)(hi:∀{cl C fp s H},PU (bj X scope cl [x,y] fr C fp s H) ifs tt)(he:∀{cl C fp s H},WE (bj X scope cl [x,y] fr C fp s H) elt te)(b:gB X scope fr:=by exact wH (by kernel_rfl))(calm:X.calm=true:=by rfl)(xe:∀e s,X.xe e s->False:=by exact λ _ _ h=>h)(LM:∀cl C fp s H,PG (bj X scope cl [x,y] fr C fp s H) (.Tuple [.Name x px,.Name y py] k pt) (tE X.K 2 (dz (cB 0) (dz (cB 1) qK))):=by exact λ _ _ _ _ _=>vj rfl (fE (gc (i:=0) (ca (by kernel_rfl)) rfl (by first|exact Or.inl rfl|exact Or.inr rfl)) (fE (gc (i:=1) (ca (by kernel_rfl)) rfl (by first|exact Or.inl rfl|exact Or.inr rfl)) pV))):dq X scope [x,y] fr (.Tuple [.Name x px,.Name y py] k pt) iter ifs elt wi (qH 2 (cQ (im 0) (cQ (im 1) qI))) tt te:=
 ⟨b,calm,xe,it,Bf LM (by simp) (by simp),λ _ _ _ _ _=>hi,λ _ _ _ _ _=>he⟩
end
def dU{x qual:Str}{st:Stmt}{f:be}{fd:FuncData}{ps:List Str}{k:Nat}{sp:cO}(F:dh K x qual st f fd)(N:List Str) (hbody:∀(b_:al)(A:Around)(outer:List Env)(s:am)(H:Hp)(E:XK)(ds:List D)(M:Mem)(Q:bI),N.Nodup->cR k (A.deeper (PyProof.Rows.envOfC qual (bF st) s.heap.objs.size f b_))->sp ds M Q->
   ∃t,FJ (tV cM P w K mg base N qual (bF st) f b_ A outer s H E).Pu (cF st) t/\t {nx:=λ _ M'=>fin2 Q .bh M',rt:=fin2 Q} (jQ N ds) M) (len:∀ds M Q,sp ds M Q->ds.length=ps.length:=by intro ds M Q;walk_at "len") (S:jE N ps (bF st):=by exact⟨rfl,rfl,rfl,by decide+kernel,rfl,by decide+kernel,by decide+kernel⟩):bg P w K mg base cM (k+1) f fd ps (bD K sp):=
 ok2 F S len λ b_ A outer s H E ds M Q hr h=>let⟨t,a,b⟩:=hbody b_ A outer s H E ds M Q S.nd hr h;⟨t,a.h,b⟩
end L4
namespace L5
open PySem.W PyProof.Rows
section
variable (n:Nat)(lt:Nat->Nat->Bool)
def kw{α:Type}:KasT α->(α->Prop)->Prop
 | .ret a,Q=>Q a
 | .ask i j k,Q=>i<n/\j<n/\kw (k (lt i j)) Q
variable {n lt}
theorem hX{β:Type}{f:α->KasT β}{Q:β->Prop}:∀{t:KasT α},kw n lt t (λ a=>kw n lt (f a) Q)->kw n lt (t.bind f) Q
 | .ret a,h=>h
 | .ask i j k,h=>⟨h.1,h.2.1,hX (t:=k (lt i j)) h.2.2⟩
def pg(p:Array Nat)(i:Nat):Nat:=p.getD i 0
def je(p:Array Nat)(i:Nat):pg p i=(p[i]?).getD 0:=by unfold pg;rw[Array.getD_eq_getD_getElem?]
def Pm(n:Nat)(p:Array Nat):Prop:=p.Perm (List.toArray (List.range n))
theorem Pm.size{p:Array Nat}(h:Pm n p):p.size=n:=by have:=Array.Perm.size_eq h;simpa using this
def Pm.below{p:Array Nat}(h:Pm n p)(i:Nat)(hn:0<n):pg p i<n:=by
 rw[je];cases e:p[i]? with
 |none=>exact hn
 |some x=>have hm:x∈p:=Array.mem_of_getElem? e;have:=(Array.Perm.mem_iff h (a:=x)).mp hm;simpa using this
def mB{p:Array Nat}{j:Nat}(hj:j<=p.size)(k:Nat):pg (kas_rev p i j) k=if i<=k/\k<j then pg p (i+j-1-k)else pg p k:=by
 rw[je];unfold kas_rev;rw[getElem?_mirror_all hj k];split
 ·rw[je]
 ·rw[je]
def Pm.rev{p:Array Nat}(h:Pm n p)(i j:Nat):Pm n (kas_rev p i j):=Array.Perm.trans (mirror_perm _ _ _ _) h
def CA{p:Array Nat}{l:Nat}(hk:k<p.size)(hl:l<=k)(j:Nat):pg (bubble p k (k-l)) j=if j=l then pg p k else if l<j/\j<=k then pg p (j-1)else pg p j:=by
 have e0:k-(k-l)=l:=()
 rw[je,getElem?_bubble hk (k-l) () j,e0];by_cases h1:j=l
 ·rw[J6 h1,J6 h1,je]
 ·rw[J7 h1,J7 h1];by_cases h2:l<j/\j<=k
  ·rw[J6 h2,J6 h2,je]
  ·rw[J7 h2,J7 h2,je]
def Pm.bub{p:Array Nat}(h:Pm n p)(k d:Nat):Pm n (bubble p k d):=Array.Perm.trans (bubble_perm _ _ _) h
structure Ord(lt:Nat->Nat->Bool):Prop where
 Av:∀a b,lt a b=true->lt b a=false
 tr:∀a b c,lt a b=false->lt b c=false->lt a c=false
abbrev le(lt:Nat->Nat->Bool)(a b:Nat):Prop:=lt b a=false
def Ord.refl(O:Ord lt)(a:Nat):le lt a a:=by
 show lt a a=false;cases e:lt a a with
 |false=>rfl
 |true=>have:=O.Av a a e;rw[e]at this;cases this
def Ord.trans(O:Ord lt){a b:Nat}(h1:le lt a b)(h2:le lt b c):le lt a c:=O.tr c b a h2 h1
def Up(lt:Nat->Nat->Bool)(p:Array Nat)(m:Nat):Prop:=∀i j,i<=j->j<m->le lt (pg p i) (pg p j)
def Dn(lt:Nat->Nat->Bool)(p:Array Nat)(m:Nat):Prop:=∀i j,i<=j->j<m->le lt (pg p j) (pg p i)
def Ev(lt:Nat->Nat->Bool)(a b:Nat):Prop:=le lt a b/\le lt b a
def Ord.TM(O:Ord lt){a b:Nat}(h:Ev lt a b)(q:Ev lt b c):Ev lt a c:=⟨O.trans h.1 q.1,O.trans q.2 h.2⟩
def Ev.sym{a b:Nat}(h:Ev lt a b):Ev lt b a:=⟨h.2,h.1⟩
def Up.one(O:Ord lt)(p:Array Nat):Up lt p 1:=λ i j h q=>by
 have:i=j:=()
 subst this;exact O.refl _
def Up.next(O:Ord lt){p:Array Nat}(h:Up lt p m)(hm:1<=m)(q:le lt (pg p (m-1)) (pg p m)):Up lt p (m+1):=λ i j s_ hj=>by
 by_cases e:j=m
 ·subst e;by_cases e2:i=j
  ·subst e2;exact O.refl _
  ·exact O.trans (h i (j-1) () ()) q
 ·exact h i j s_ ()
def Dn.next(O:Ord lt){p:Array Nat}(h:Dn lt p m)(hm:1<=m)(q:le lt (pg p m) (pg p (m-1))):Dn lt p (m+1):=λ i j s_ hj=>by
 by_cases e:j=m
 ·subst e;by_cases e2:i=j
  ·subst e2;exact O.refl _
  ·exact O.trans q (h i (j-1) () ())
 ·exact h i j s_ ()
def Dn.ev(O:Ord lt){p p':Array Nat}(h:Dn lt p m)(e:∀k,k<m->Ev lt (pg p' k) (pg p k)):Dn lt p' m:=λ i j s_ hj=>
 O.trans (e j hj).1 (O.trans (h i j s_ hj) (e i ()).2)
def Up.Sy{p:Array Nat}(hm:m<=p.size)(h:Dn lt p m):Up lt (kas_rev p 0 m) m:=λ i j s_ hj=>by rw[mB hm,mB hm,J6 ⟨G5 _,()⟩,J6 ⟨G5 _,hj⟩];exact h _ _ () ()
def vV(O:Ord lt){p:Array Nat}{j:Nat}(hj:j<=p.size)(he:∀k,i<=k->k<j->Ev lt (pg p k) (pg p (j-1)))(k:Nat):Ev lt (pg (kas_rev p i j) k) (pg p k):=by
 rw[mB hj];split
 case isTrue h=>exact O.TM (he _ () ()) (he k h.1 h.2).sym
 case isFalse h=>exact⟨O.refl _,O.refl _⟩
theorem vI(O:Ord lt){p:Array Nat}(hp:Pm n p){Q:Nat->Prop}:∀(f a:Nat),1<=a->a+f<=n->Up lt p a->(∀m,a<=m->m<=a+f->Up lt p m->(m<a+f->lt (pg p m) (pg p (m-1))=true)->Q m)->kw n lt (kas_asc p f a) Q
 |0,a,h1,hn,hu,hq=>hq a (G3 _) (G3 _) hu λ h=>bi h ()
 |f+1,a,h1,hn,hu,hq=>by
  refine⟨hp.below a (),hp.below (a-1) (),?_⟩;show kw n lt (if lt (pg p a) (pg p (a-1))=true then KasT.ret a else kas_asc p f (a+1)) Q;cases e:lt (pg p a) (pg p (a-1))with
  |true=>rw[J6 rfl];exact hq a (G3 _) () hu λ _=>e
  |false=>rw[J7 (by simp)];exact vI O hp f (a+1) () () (hu.next O h1 e) λ m m1 m2 m3 m4=>hq m () () m3 λ q=>m4 ()
theorem lJ(O:Ord lt){Q:Array Nat×Nat×Nat->Prop}(DW:0<n):∀(f:Nat)(p:Array Nat)(m q:Nat),Pm n p->1<=m->m+f<=n->q+1<=m->Dn lt p m->(∀k,m-(q+1)<=k->k<m->Ev lt (pg p k) (pg p (m-1)))-> (∀p' m' q',Pm n p'->m<=m'->m'<=m+f->q'+1<=m'->Dn lt p' m'->(∀k,m'-(q'+1)<=k->k<m'->Ev lt (pg p' k) (pg p' (m'-1)))->Q (p',m',q'))->kw n lt (kas_desc f p m q) Q
 |0,p,m,q,hp,h1,hf,Tf,hd,he,hQ=>hQ p m q hp (G3 _) (G3 _) Tf hd he
 |f+1,p,m,q,hp,h1,hf,Tf,hd,he,hQ=>by
  refine⟨hp.below m DW,hp.below (m-1) DW,?_⟩;show kw n lt (if lt (pg p m) (pg p (m-1))=true then(if q > 0 then kas_desc f (kas_rev p (m-(q+1)) m) (m+1) 0 else kas_desc f p (m+1) 0)else KasT.ask (pg p (m-1)) (pg p m) λ d=>if d=true then KasT.ret (p,m,q)else kas_desc f p (m+1) (q+1)) Q;have hz:=hp.size;cases e:lt (pg p m) (pg p (m-1))with
  |true=>
   rw[J6 rfl];by_cases hq:q > 0
   ·rw[J6 hq];have ev:=vV O (p:=p) (i:=m-(q+1)) (j:=m) () he;have em:pg (kas_rev p (m-(q+1)) m) m=pg p m:=by rw[mB (),J7 ()]
    refine lJ O DW f _ (m+1) 0 (hp.rev _ _) () () () ((hd.ev O λ k _=>ev k).next O h1 ?_) (λ k k1 k2=>?_) λ p' m' q' a b c d g i=>hQ p' m' q' a () () d g i
    ·rw[em];exact O.trans (O.Av _ _ e) (ev (m-1)).2
    ·have:k=m:=()
     subst this;exact⟨O.refl _,O.refl _⟩
   ·rw[J7 hq];refine lJ O DW f _ (m+1) 0 hp () () () (hd.next O h1 (O.Av _ _ e)) (λ k k1 k2=>?_) λ p' m' q' a b c d g i=>hQ p' m' q' a () () d g i;have:k=m:=()
    subst this;exact⟨O.refl _,O.refl _⟩
  |false=>
   rw[J7 (by simp)];refine⟨hp.below (m-1) DW,hp.below m DW,?_⟩;cases e2:lt (pg p (m-1)) (pg p m)with
   |true=>exact hQ p m q hp (G3 _) () Tf hd he
   |false=>
    refine lJ O DW f p (m+1) (q+1) hp () () () (hd.next O h1 e2) (λ k k1 k2=>?_) λ p' m' q' a b c d g i=>hQ p' m' q' a () () d g i;have hE:Ev lt (pg p (m-1)) (pg p m):=⟨e,e2⟩;by_cases ek:k=m
    ·subst ek;exact⟨O.refl _,O.refl _⟩
    ·exact O.TM (he k () ()) hE
def xU(O:Ord lt){p:Array Nat}(hp:Pm n p)(h1:1<=m)(hm:m<=n)(hd:Dn lt p m){Q:Nat×Array Nat->Prop}(hQ:∀m' p',Pm n p'->1<=m'->m'<=n->Up lt p' m'->Q (m',p')):kw n lt (kas_tail3 m n p) Q:=by unfold kas_tail3;refine hX (vI O (hp.rev _ _) (n-m) m h1 () (Up.Sy (by rw[hp.size];exact hm) hd) λ m' a b c _=>?_);exact hQ m' _ (hp.rev _ _) () () c
def sR(O:Ord lt){p:Array Nat}(hp:Pm n p)(h1:1<=m)(hm:m+1<=n)(hd:Dn lt p (m+1)){Q:Nat×Array Nat->Prop}(hQ:∀m' p',Pm n p'->1<=m'->m'<=n->Up lt p' m'->Q (m',p')):kw n lt (kas_descPart m n p) Q:=by
 unfold kas_descPart;refine hX (lJ O () (n-(m+1)) p (m+1) 0 hp () () () hd (λ k k1 k2=>?_) λ p' m' q' a b c d g i=>?_)
 ·have:k=m:=()
  subst this;exact⟨O.refl _,O.refl _⟩
 ·show kw n lt (if q' > 0 then kas_tail3 m' n (kas_rev p' (m'-(q'+1)) m')else kas_tail3 m' n p') Q;by_cases hq:q' > 0
  ·rw[J6 hq];have hz:=a.size;exact xU O (a.rev _ _) () () (g.ev O λ k _=>vV O () i k) hQ
  ·rw[J7 hq];exact xU O a () () g hQ
def Dt(O:Ord lt){p:Array Nat}(hp:Pm n p)(hn:2<=n){Q:Nat×Array Nat->Prop}(hQ:∀m' p',Pm n p'->1<=m'->m'<=n->Up lt p' m'->Q (m',p')):kw n lt (kas_count n p) Q:=by
 unfold kas_count;refine hX (vI O hp (n-1) 1 (G3 _) () (Up.one O p) λ m a b c d=>?_);have hz:=hp.size;by_cases e1:(m==n)=true
 ·rw[J6 e1];exact hQ m p hp a () c
 ·rw[J7 e1];have fg:m≠n:=λ q=>e1 (by rw[q];exact beq_self_eq_true _);have hl:=d ();by_cases e2:m > 1
  ·rw[J6 e2];refine⟨hp.below 0 (),hp.below (m-1) (),?_⟩;show kw n lt (if lt (pg p 0) (pg p (m-1))=true then KasT.ret (m,p)else kas_descPart m n (kas_rev p 0 m)) Q;cases e3:lt (pg p 0) (pg p (m-1))with
   |true=>rw[J6 rfl];exact hQ m p hp a () c
   |false=>
    rw[J7 (by simp)];have vR:∀k,0<=k->k<m->Ev lt (pg p k) (pg p (m-1)):=λ k _ hk=>⟨c k (m-1) () (),O.trans e3 (c 0 k () hk)⟩;have ev:=vV O (p:=p) (i:=0) (j:=m) () vR;have em:pg (kas_rev p 0 m) m=pg p m:=by rw[mB (),J7 ()]
    refine sR O (hp.rev _ _) a () (Dn.next O (λ i j s_ hj=>?_) a ?_) hQ
    ·exact O.trans (ev j).1 (O.trans (O.trans (vR j (G5 _) hj).1 (vR i (G5 _) ()).2) (ev i).2)
    ·rw[em];exact O.trans (O.Av _ _ hl) (ev (m-1)).2
  ·rw[J7 e2];have bV:m=1:=()
   subst bV;refine sR O hp (G3 _) () (Dn.next O (λ i j s_ hj=>?_) (G3 _) (O.Av _ _ hl)) hQ;have:i=j:=()
   subst this;exact O.refl _
theorem mI(O:Ord lt){p:Array Nat}(hp:Pm n p)(hk:k<n){Q:Nat->Prop}(hQ:∀l,l<=k->(∀i,i<l->le lt (pg p i) (pg p k))->(∀i,l<=i->i<k->lt (pg p k) (pg p i)=true)->Q l)(hu:Up lt p k):∀(f l r:Nat),l<=r->r<=k->r-l<=f->(∀i,i<l->le lt (pg p i) (pg p k))->(∀i,r<=i->i<k->lt (pg p k) (pg p i)=true)->kw n lt (kas_place p k f l r) Q
 |0,l,r,h1,h2,h3,h4,h5=>by
  have:r=l:=()
  subst this;exact hQ r h2 h4 h5
 |f+1,l,r,h1,h2,h3,h4,h5=>by
  unfold kas_place;by_cases e:l ≥ r
  ·rw[J6 e];have:r=l:=()
   subst this;exact hQ r h2 h4 h5
  ·rw[J7 e];refine⟨hp.below k (),hp.below _ (),?_⟩;show kw n lt (if lt (pg p k) (pg p ((l+r)/2))=true then kas_place p k f l ((l+r)/2)else kas_place p k f ((l+r)/2+1) r) Q;cases e2:lt (pg p k) (pg p ((l+r)/2))with
   |true=>
    rw[J6 rfl];refine mI O hp hk hQ hu f l _ () () () h4 λ i i1 i2=>?_;cases e3:lt (pg p k) (pg p i)with
    |true=>rfl
    |false=>have:=O.tr _ _ _ e3 (hu ((l+r)/2) i i1 i2);rw[e2]at this;cases this
   |false=>rw[J7 (by simp)];exact mI O hp hk hQ hu f _ r () () () (λ i hi=>O.trans (hu i ((l+r)/2) () ()) e2) h5
theorem Du(O:Ord lt){Q:Array Nat->Prop}(hQ:∀p,Pm n p->Up lt p n->Q p):∀(f:Nat)(p:Array Nat)(k:Nat),Pm n p->k+f=n->Up lt p k->kw n lt (kas_bin f p k) Q
 |0,p,k,hp,hf,hu=>hQ p hp (by rw[<- hf];exact hu)
 |f+1,p,k,hp,hf,hu=>by
  unfold kas_bin;have hz:=hp.size;refine hX (mI O hp () (λ l hl h4 h5=>?_) hu k 0 k (G5 _) (G3 _) () (λ i hi=>bi hi ()) λ i a b=>bi b ());refine Du O hQ f _ (k+1) (hp.bub _ _) () λ i j s_ hj=>?_;rw[CA () hl,CA () hl];by_cases e1:i=l
  ·rw[J6 e1];by_cases e2:j=l
   ·rw[J6 e2];exact O.refl _
   ·rw[J7 e2,J6 ⟨(),()⟩];exact O.Av _ _ (h5 (j-1) () ())
  ·rw[J7 e1];by_cases e2:j=l
   ·rw[J6 e2,J7 ()];exact h4 i ()
   ·rw[J7 e2];by_cases e3:l<i/\i<=k
    ·rw[J6 e3,J6 ⟨(),()⟩];exact hu _ _ () ()
    ·rw[J7 e3];by_cases e4:l<j/\j<=k
     ·rw[J6 e4];exact hu _ _ () ()
     ·rw[J7 e4];exact hu _ _ () ()
def Jf(O:Ord lt)(hn:2<=n){Q:Array Nat->Prop}(hQ:∀p,Pm n p->Up lt p n->Q p):kw n lt (kas_sort n) Q:=by
 unfold kas_sort;refine hX (Dt O (Array.Perm.refl _) hn λ m p hp h1 h2 hu=>?_);show kw n lt (if m<n then kas_bin (n-max m 1) p (max m 1)else KasT.ret p) Q;have hm:max m 1=m:=()
 rw[hm];by_cases e:m<n
 ·rw[J6 e];exact Du O hQ (n-m) p m hp () hu
 ·rw[J7 e];have:m=n:=()
  subst this;exact hQ p hp hu
end
def dG(T:String)(h:Heap)(j l:be)(i:Nat):Prop:=∃o,h.get? j=some o/\o.cls=.type T/\o.data=.fields #[.ref l,.int i 0]
def dG.keep{h:Heap}{j:be}(x:dG T h j l i)(k:∀o,h.get? j=some o->h'.get? j=some o):dG T h' j l i:=let⟨o,a,r⟩:=x;⟨o,k o a,r⟩
structure NK(T:String)(Sq:Heap->be->Array al->Prop):Prop where
 keep:∀{h h':Heap} {l:be} {vs:Array al},Sq h l vs->(∀o,h.get? l=some o->h'.get? l=some o)->Sq h' l vs
 start:∀{prog:Program} {w:World} {A:Around} {E:al->am->Prop} {s:am} {l:be} {vs:Array al} {Q:al->am->Prop},Sq s.heap l vs->
  Q (.ref s.heap.objs.size) {s with heap:=s.heap.push {cls:=.type T,data:=.fields #[.ref l,.int 0 0]}}->wpAny (model prog w) A (pyIter (.ref l)) Q E s
 item:∀{prog:Program} {w:World} {A:Around} {E:al->am->Prop} {s:am} {j l:be} {i:Nat} {vs:Array al} {x:al} {Q:al->am->Prop},dG T s.heap j l i->Sq s.heap l vs->vs[i]?=some x->
  (∀h',dG T h' j l (i+1)->Heap.SameBut j s.heap h'->Q x {s with heap:=h'})->wpAny (model prog w) A (Builtin.SmallTypes.nextOf (.ref j)) Q E s
 stop:∀{prog:Program} {w:World} {A:Around} {E:al->am->Prop} {s:am} {j l:be} {i:Nat} {vs:Array al} {Q:al->am->Prop},A.handled=none->dG T s.heap j l i->Sq s.heap l vs->vs[i]?=none->
  (∀h' e,Heap.ExtBut j s.heap h'->(∃o,h'.get? e=some o/\o.cls=.type "StopIteration")->E (.ref e) {s with heap:=h'})->wpAny (model prog w) A (Builtin.SmallTypes.nextOf (.ref j)) Q E s
def IM:NK "list_iterator" Heap.IsList where
 keep:=λ x k=>x.at k
 start:=λ x q=>y2 x q
 item:=λ a b c d=>wpAny_nextOf_list_item a b c d
 stop:=λ a b c d e=>wpAny_nextOf_list_end a b c d e
def NL{j:be}{vs:Array al}{x:al}(ji:s.heap.IsTupleIter j q i)(jt:s.heap.IsTuple q vs)(jx:vs[i]?=some x)(k:∀h',h'.IsTupleIter j q (i+1)->Heap.SameBut j s.heap h'->Q x {s with heap:=h'}):wpAny (model prog w) A (Builtin.SmallTypes.nextOf (.ref j)) Q E s:=by obtain⟨ob,hb,kc,kd⟩:=id ji;obtain⟨ot,ht,_,nt,dt⟩:=jt;unfold Builtin.SmallTypes.nextOf;refine G8 (g9 (name:=aU "__next__") ji.typeIs b6 (A0 b6 ji.typeIs F.entry_tuple_iterator_next ?_ (F.args_tuple_iterator_next_1 _)));refine G8 (m:=field (.ref j) 0) (G6 hb kd (x:=.ref q) rfl ?_);show wpAny _ _ (if(Value.ref q==Value.none)=true then _ else _) _ _ s;rw[J7 (show(Value.ref q==Value.none)≠true from n0)];refine G8 (m:=field (.ref j) 1) (G6 hb kd (x:=.int i 0) rfl ?_);refine G8 (m:=seqItems? (.ref q)) (C0 ht dt ?_);simp only[x6,jx];refine G8 (wpAny_setField hb kd (by simp) (G9 ⟨x,rfl,G9 (k _ ?_ (l0 ..))⟩));refine⟨_,j0 _ hb (Obj.isFreed_of_fields (u5 kd _)),(Obj.cls_mapFields ..).trans kc,?_⟩;rw[u5 kd];simp[rawInt]
def LW{j:be}{vs:Array al}(hA:A.handled=none)(ji:s.heap.IsTupleIter j q i)(jt:s.heap.IsTuple q vs)(jx:vs[i]?=none)(k:∀h' e,Heap.ExtBut j s.heap h'->(∃o,h'.get? e=some o/\o.cls=.type "StopIteration")->E (.ref e) {s with heap:=h'}):wpAny (model prog w) A (Builtin.SmallTypes.nextOf (.ref j)) Q E s:=by obtain⟨ob,hb,kc,kd⟩:=id ji;obtain⟨ot,ht,_,nt,dt⟩:=jt;unfold Builtin.SmallTypes.nextOf;refine G8 (g9 (name:=aU "__next__") ji.typeIs b6 (A0 b6 ji.typeIs F.entry_tuple_iterator_next ?_ (F.args_tuple_iterator_next_1 _)));refine G8 (m:=field (.ref j) 0) (G6 hb kd (x:=.ref q) rfl ?_);show wpAny _ _ (if(Value.ref q==Value.none)=true then _ else _) _ _ s;rw[J7 (show(Value.ref q==Value.none)≠true from n0)];refine G8 (m:=field (.ref j) 1) (G6 hb kd (x:=.int i 0) rfl ?_);refine G8 (m:=seqItems? (.ref q)) (C0 ht dt ?_);simp only[x6,jx];refine G8 (H0 (G8 (wpAny_setField hb kd (by simp) ?_)));refine G8 (m:=newExc (.type "StopIteration") []) ?_;simp only[newExc,newTuple];refine G8 (x8 (G8 (m:=firstArgMember _ _) (wpAny_of_eq (a:=Value.none) (by first|rfl|(simp only[firstArgMember];rfl)) (x8 ?_ (by size_fits)))) (by size_fits));simp only[raiseNew];refine G8 (wpAny_handled ?_);have hB:A.in1.handled=none:=hA;rw[hB];exact G8 (G9 (wpAny_throw (k _ _ (((l0 ..).extBut.push _).push _) ⟨_,l7 _ rfl,rfl⟩)))
def sG:NK "tuple_iterator" Heap.IsTuple where
 keep:=λ x k=>let⟨o,a,r⟩:=x;⟨o,k o a,r⟩
 start:=λ x q=>wpAny_pyIter_tuple x q
 item:=λ a b c d=>NL a b c d
 stop:=λ a b c d e=>LW a b c d e
structure Za(z u v a b l m:be):Prop where
 uz:u≠z
 vz:v≠z
 az:a≠z
 bz:b≠z
 uv:u≠v
 ua:u≠a
 ub:u≠b
 va:v≠a
 vb:v≠b
 ab:a≠b
 lz:l≠z
 lv:l≠v
 la:l≠a
 lb:l≠b
 mz:m≠z
 mv:m≠v
 ma:m≠a
 mb:m≠b
section
variable {T1 T2:String}{S1 S2:Heap->be->Array al->Prop}
def yT{z u v a b l m:be}{i:Nat}{xs ys:Array al}{x y c d:al}{Q:al->am->Prop}(k1:NK T1 S1)(k2:NK T2 S2)(D:Za z u v a b l m)(hz:IsZip s.heap z u v .none)(hu:IsPair s.heap u (.ref a) (.ref b))(hv:IsPair s.heap v c d)(ha:dG T1 s.heap a l i)(hb:dG T2 s.heap b m i)(hl:S1 s.heap l xs)(hm:S2 s.heap m ys)(hx:xs[i]?=some x)(hy:ys[i]?=some y) (k:∀h',IsZip h' z u v (rawInt s.heap.objs.size)->IsPair h' v x y->dG T1 h' a l (i+1)->dG T2 h' b m (i+1)->IsPair h' s.heap.objs.size x y->h'.objs.size=s.heap.objs.size+1->
   (∀f o,f≠z->f≠v->f≠a->f≠b->s.heap.get? f=some o->h'.get? f=some o)->Q (.ref s.heap.objs.size) {s with heap:=h'}):
  wpAny (model prog w) A (Builtin.«zip.__next__» ⟨[.ref z],[]⟩) (λ fin s'=>∃v,fin=.done (.ret v)/\Q v s') E s:=by
 refine G8 (m:=field (.ref z) 2) (G6 hz rfl (x:=.bool false) rfl ?_);refine G8 (m:=field (.ref z) 3) (G6 hz rfl (x:=.ref u) rfl ?_);refine G8 (C0 hu rfl ?_);refine G8 (m:=Builtin.SmallTypes.ownedTupleIsFree (.ref z)) ?_;unfold Builtin.SmallTypes.ownedTupleIsFree;refine G8 (m:=field (.ref z) 0) (G6 hz rfl (x:=.none) rfl (G9 ?_));simp only[J5];refine G8 (H0 (G8 (G6 hz rfl (x:=.ref v) rfl (G8 (p7 hz (by simp) λ g1 z1 s1=>?_)))));have z1:IsZip g1 z u v .ellipsis:=z1;refine G8 ?_;simp only[zipIdx_cons,zipIdx_nil,forIn_cons,forIn_nil];refine G8 (G8 (wpAny_onRaise (G8 (m:=Builtin.SmallTypes.nextOf (.ref a)) (k1.item (ha.keep λ o e=>s1.extBut _ _ D.az e) (k1.keep hl λ o e=>s1.extBut _ _ D.lz e) hx λ g2 a2 s2=>G9 ?_))));have v2:IsPair g2 v c d:=s2.extBut _ _ D.va (s1.extBut _ _ D.vz hv);refine G8 (C0 v2 rfl (G8 (wpAny_updateSeq_pair v2 λ g3 v3 s3=>G8 (G7 (G9 ?_)))));have v3:IsPair g3 v x d:=v3;have mL:∀f o,f≠z->f≠v->f≠a->s.heap.get? f=some o->g3.get? f=some o:=λ f o n1 n2 n3 e=>s3.extBut _ _ n2 (s2.extBut _ _ n3 (s1.extBut _ _ n1 e));refine G8 (G8 (wpAny_onRaise (G8 (m:=Builtin.SmallTypes.nextOf (.ref b)) (k2.item (hb.keep λ o e=>mL _ _ D.bz D.vb.symm D.ab.symm e) (k2.keep hm λ o e=>mL _ _ D.mz D.mv D.ma e) hy λ g4 b4 s4=>G9 ?_))));have v4:IsPair g4 v x d:=s4.extBut _ _ D.vb v3;refine G8 (C0 v4 rfl (G8 (wpAny_updateSeq_pair v4 λ g5 v5 s5=>G8 (G7 (G9 (G9 ?_))))));have v5:IsPair g5 v x y:=v5;refine G8 (C0 v5 rfl (G8 (wpAny_newTuple ?_)));have ez:g5.objs.size=s.heap.objs.size:=by rw[s5.1,s4.1,s3.1,s2.1,s1.1]
 have SW:∀f o,f≠z->f≠v->f≠a->f≠b->s.heap.get? f=some o->g5.get? f=some o:=λ f o n1 n2 n3 n4 e=>s5.extBut _ _ n2 (s4.extBut _ _ n4 (mL f o n1 n2 n3 e));have z5:IsZip g5 z u v .ellipsis:=s5.extBut _ _ D.vz.symm (s4.extBut _ _ D.bz.symm (s3.extBut _ _ D.vz.symm (s2.extBut _ _ D.az.symm z1)));have a5:dG T1 g5 a l (i+1):=a2.keep λ o e=>s5.extBut _ _ D.va.symm (s4.extBut _ _ D.ab (s3.extBut _ _ D.va.symm e));have b5:dG T2 g5 b m (i+1):=b4.keep λ o e=>s5.extBut _ _ D.vb.symm e;have UU:z<g5.objs.size:=D4 z5;refine G8 (m:=Builtin.SmallTypes.ownedTupleHandOut (.ref z) (.ref g5.objs.size)) ?_;unfold Builtin.SmallTypes.ownedTupleHandOut;have z6:IsZip (g5.push {cls:=.type "tuple",data:=.seq #[x,y]}) z u v .ellipsis:=i7 _ z5;refine G8 (p7 z6 (by simp) λ g7 z7 s7=>p7 (show IsZip g7 z u v (rawInt g5.objs.size)from z7) (by simp) λ g8 z8 s8=>?_);have z8:IsZip g8 z u v (rawInt g5.objs.size):=z8;have go:∀f o,f≠z->g5.get? f=some o->g8.get? f=some o:=λ f o n1 e=>s8.extBut _ _ n1 (s7.extBut _ _ n1 (i7 _ e));have t8:IsPair g8 g5.objs.size x y:=s8.extBut _ _ (G1 UU) (s7.extBut _ _ (G1 UU) (l7 _ rfl));have e8:g8.objs.size=g5.objs.size+1:=by rw[s8.1,s7.1,C1]
 rw[ez]at z8 t8 e8;refine G9 ⟨_,rfl,?_⟩;show Q (.ref g5.objs.size) _;rw[ez];exact k g8 z8 (go _ _ D.vz v5) (a5.keep λ o e=>go _ o D.az e) (b5.keep λ o e=>go _ o D.bz e) t8 e8 λ f o n1 n2 n3 n4 e=>go f o n1 (SW f o n1 n2 n3 n4 e)
def AR{z u v b m:be}{xs ys:Array al}{c d:al}{Q:Fin->am->Prop}(hA:A.handled=none)(k1:NK T1 S1)(k2:NK T2 S2)(D:Za z u v a b l m)(hz:IsZip s.heap z u v .none)(hu:IsPair s.heap u (.ref a) (.ref b))(hv:IsPair s.heap v c d)(ha:dG T1 s.heap a l i)(hb:dG T2 s.heap b m i)(hl:S1 s.heap l xs)(hm:S2 s.heap m ys)(he:xs[i]?=none\/ys[i]?=none)(k:∀h' e,(∀f o,f≠z->f≠v->f≠a->f≠b->s.heap.get? f=some o->h'.get? f=some o)->(∃o,h'.get? e=some o/\o.cls=.type "StopIteration")->E (.ref e) {s with heap:=h'}):wpAny (model prog w) A (Builtin.«zip.__next__» ⟨[.ref z],[]⟩) Q E s:=by
 refine G8 (m:=field (.ref z) 2) (G6 hz rfl (x:=.bool false) rfl ?_);refine G8 (m:=field (.ref z) 3) (G6 hz rfl (x:=.ref u) rfl ?_);refine G8 (C0 hu rfl ?_);refine G8 (m:=Builtin.SmallTypes.ownedTupleIsFree (.ref z)) ?_;unfold Builtin.SmallTypes.ownedTupleIsFree;refine G8 (m:=field (.ref z) 0) (G6 hz rfl (x:=.none) rfl (G9 ?_));simp only[J5];refine G8 (H0 (G8 (G6 hz rfl (x:=.ref v) rfl (G8 (p7 hz (by simp) λ g1 z1 s1=>?_)))));have z1:IsZip g1 z u v .ellipsis:=z1;refine G8 ?_;simp only[zipIdx_cons,zipIdx_nil,forIn_cons,forIn_nil];have FG:=ha.keep (h':=g1) λ o e=>s1.extBut _ _ D.az e;have PD:=k1.keep (h':=g1) hl λ o e=>s1.extBut _ _ D.lz e;refine G8 (G8 (wpAny_onRaise ?_));cases hx:xs[i]? with
 |none=>
  refine G8 (m:=Builtin.SmallTypes.nextOf (.ref a)) (k1.stop hA FG PD hx λ g2 e s2 oe=>?_);obtain⟨ob,Jz,Jy⟩:=oe;have z2:IsZip g2 z u v .ellipsis:=s2 _ _ D.az.symm z1;have ne:e≠z:=λ q=>by subst q;rw[z2]at Jz;cases Jz;simp at Jy
  exact p7 z2 (by simp) λ g3 _ s3=>k g3 e (λ f o n1 _ n3 _ q=>s3.extBut _ _ n1 (s2 _ _ n3 (s1.extBut _ _ n1 q))) ⟨ob,s3.extBut _ _ ne Jz,Jy⟩
 |some x=>
  have hy:ys[i]?=none:=by rcases he with q|q;rw[hx]at q;cases q;exact q
  refine G8 (m:=Builtin.SmallTypes.nextOf (.ref a)) (k1.item FG PD hx λ g2 a2 s2=>G9 ?_);have v2:IsPair g2 v c d:=s2.extBut _ _ D.va (s1.extBut _ _ D.vz hv);refine G8 (C0 v2 rfl (G8 (wpAny_updateSeq_pair v2 λ g3 v3 s3=>G8 (G7 (G9 ?_)))));have mL:∀f o,f≠z->f≠v->f≠a->s.heap.get? f=some o->g3.get? f=some o:=λ f o n1 n2 n3 e=>s3.extBut _ _ n2 (s2.extBut _ _ n3 (s1.extBut _ _ n1 e));refine G8 (G8 (wpAny_onRaise (G8 (m:=Builtin.SmallTypes.nextOf (.ref b)) (k2.stop hA (hb.keep λ o e=>mL _ _ D.bz D.vb.symm D.ab.symm e) (k2.keep hm λ o e=>mL _ _ D.mz D.mv D.ma e) hy λ g4 e s4 oe=>?_))));obtain⟨ob,Jz,Jy⟩:=oe;have z4:IsZip g4 z u v .ellipsis:=s4 _ _ D.bz.symm (s3.extBut _ _ D.vz.symm (s2.extBut _ _ D.az.symm z1));have ne:e≠z:=λ q=>by subst q;rw[z4]at Jz;cases Jz;simp at Jy
  exact p7 z4 (by simp) λ g5 _ s5=>k g5 e (λ f o n1 n2 n3 n4 q=>s5.extBut _ _ n1 (s4 _ _ n4 (mL f o n1 n2 n3 q))) ⟨ob,s5.extBut _ _ ne Jz,Jy⟩
def CZ{z u v a b l m:be}{i:Nat}{xs ys:Array al}{x y c d:al}{Q:Option al->am->Prop}(k1:NK T1 S1)(k2:NK T2 S2)(D:Za z u v a b l m)(hz:IsZip s.heap z u v .none)(hu:IsPair s.heap u (.ref a) (.ref b))(hv:IsPair s.heap v c d)(ha:dG T1 s.heap a l i)(hb:dG T2 s.heap b m i)(hl:S1 s.heap l xs)(hm:S2 s.heap m ys)(hx:xs[i]?=some x)(hy:ys[i]?=some y) (k:∀h',IsZip h' z u v (rawInt s.heap.objs.size)->IsPair h' v x y->dG T1 h' a l (i+1)->dG T2 h' b m (i+1)->IsPair h' s.heap.objs.size x y->h'.objs.size=s.heap.objs.size+1->
   (∀f o,f≠z->f≠v->f≠a->f≠b->s.heap.get? f=some o->h'.get? f=some o)->Q (some (.ref s.heap.objs.size)) {s with heap:=h'}):wpAny (model prog w) A (pyNext (.ref z)) Q E s:=by
 have ty:s.TypeIs (.ref z) "zip":=⟨_,hz,rfl⟩;unfold pyNext;refine G8 (wpAny_attempt (g9 (name:=aU "__next__") ty F.slot_zip_next (A0 F.slot_zip_next ty F.entry_zip_next ?_ (F.args_zip_next_1 _))));exact yT k1 k2 D hz hu hv ha hb hl hm hx hy λ h' a1 a2 a3 a4 a5 a6 a7=>G9 (k h' a1 a2 a3 a4 a5 a6 a7)
def Ds{z u v b m:be}{xs ys:Array al}{c d:al}{Q:Option al->am->Prop}(hA:A.handled=none)(k1:NK T1 S1)(k2:NK T2 S2)(D:Za z u v a b l m)(hz:IsZip s.heap z u v .none)(hu:IsPair s.heap u (.ref a) (.ref b))(hv:IsPair s.heap v c d)(ha:dG T1 s.heap a l i)(hb:dG T2 s.heap b m i)(hl:S1 s.heap l xs)(hm:S2 s.heap m ys)(he:xs[i]?=none\/ys[i]?=none)(k:∀h',(∀f o,f≠z->f≠v->f≠a->f≠b->s.heap.get? f=some o->h'.get? f=some o)->Q none {s with heap:=h'}):wpAny (model prog w) A (pyNext (.ref z)) Q E s:=by have ty:s.TypeIs (.ref z) "zip":=⟨_,hz,rfl⟩;unfold pyNext;refine G8 (wpAny_attempt (g9 (name:=aU "__next__") ty F.slot_zip_next (A0 F.slot_zip_next ty F.entry_zip_next ?_ (F.args_zip_next_1 _))));refine AR hA k1 k2 D hz hu hv ha hb hl hm he λ h' e q oe=>?_;obtain⟨ob,Jz,Jy⟩:=oe;exact G8 (wpAny_isInstance (T:="StopIteration") (b:=true) ⟨ob,Jz,Jy⟩ isSubtype_stop (G9 (k _ q)))
end
abbrev wQ(T:String)(h:Heap)(l:be):Heap:=h.push {cls:=.type T,data:=.fields #[.ref l,.int 0 0]}
abbrev Qa(T1 T2:String)(h:Heap)(l m:be):Heap:=(wQ T2 (wQ T1 h l) m).push {cls:=.type "tuple",data:=.seq #[.ref h.objs.size,.ref (wQ T1 h l).objs.size]}
abbrev P'(T1 T2:String)(h:Heap)(l m:be):Heap:=(Qa T1 T2 h l m).push {cls:=.type "tuple",data:=.seq #[.none,.none]}
abbrev Lv(T1 T2:String)(h:Heap)(l m:be):Heap:=(P' T1 T2 h l m).push {cls:=.type "zip",data:=.fields #[.none,.bool false,.bool false,.ref (wQ T2 (wQ T1 h l) m).objs.size,.ref (Qa T1 T2 h l m).objs.size]}
def yS{T1 T2:String}{S1 S2:Heap->be->Array al->Prop}(k1:NK T1 S1)(k2:NK T2 S2)(l m:be)(xs ys:Array al):Meets (Builtin.«zip.__new__» ⟨[.type "zip",.ref l,.ref m],[]⟩) (λ _ R s=>S1 s.heap l xs/\S2 s.heap m ys/\R (.ok (.ret (.ref (P' T1 T2 s.heap l m).objs.size))) {s with heap:=Lv T1 T2 s.heap l m}):=
 .of_wp λ prog w A R s h=>by
  obtain⟨hp,g,d,tk,os⟩:=s;obtain⟨a1,a2,h⟩:=h;have sz:=sub_zip;have b1:S1 (Shared.heap ⟨hp,g,d,tk,os⟩) l xs:=a1;have b2:S2 (Shared.heap ⟨hp.push {cls:=.type T1,data:=.fields #[.ref l,.int 0 0]},g,d,tk,os⟩) m ys:=k2.keep a2 λ o e=>i7 _ e
  wp_walk using k1.start b1,k2.start b2
  exact⟨_,rfl,h⟩
def NP{prog:Program}{w:World}{A:Around}{E:al->am->Prop}{s:am}{T1 T2:String}{S1 S2:Heap->be->Array al->Prop}(k1:NK T1 S1)(k2:NK T2 S2){l m:be}{xs ys:Array al}{Q:al->am->Prop}(a1:S1 s.heap l xs)(a2:S2 s.heap m ys) (k:∀h',IsZip h' (s.heap.objs.size+4) (s.heap.objs.size+2) (s.heap.objs.size+3) .none->IsPair h' (s.heap.objs.size+2) (.ref s.heap.objs.size) (.ref (s.heap.objs.size+1))->IsPair h' (s.heap.objs.size+3) .none .none->
   dG T1 h' s.heap.objs.size l 0->dG T2 h' (s.heap.objs.size+1) m 0->h'.objs.size=s.heap.objs.size+5->(∀f o,s.heap.get? f=some o->h'.get? f=some o)->Q (.ref (s.heap.objs.size+4)) {s with heap:=h'}):
  wpAny (model prog w) A (call (.type "zip") [.ref l,.ref m]) Q E s:=by
 refine callType_new F.called_zip (by decide) (F.typeCall_zip_2 _ _) (F.newCall_zip_2 _ _) (λ ob=>F.args_object_init_3 ob _ _) F.entry_zip_new (yS k1 k2 l m xs ys) ⟨a1,a2,?_⟩;have e1:(wQ T1 s.heap l).objs.size=s.heap.objs.size+1:=C1 ..;have e2:(wQ T2 (wQ T1 s.heap l) m).objs.size=s.heap.objs.size+2:=by rw[C1,e1]
 have e3:(Qa T1 T2 s.heap l m).objs.size=s.heap.objs.size+3:=by rw[C1,e2]
 have e4:(P' T1 T2 s.heap l m).objs.size=s.heap.objs.size+4:=by rw[C1,e3]
 have e5:(Lv T1 T2 s.heap l m).objs.size=s.heap.objs.size+5:=by rw[C1,e4]
 have up1:∀f o,(P' T1 T2 s.heap l m).get? f=some o->(Lv T1 T2 s.heap l m).get? f=some o:=λ f o e=>i7 _ e;have Yr:∀f o,(Qa T1 T2 s.heap l m).get? f=some o->(Lv T1 T2 s.heap l m).get? f=some o:=λ f o e=>up1 f o (i7 _ e);have Yq:∀f o,(wQ T2 (wQ T1 s.heap l) m).get? f=some o->(Lv T1 T2 s.heap l m).get? f=some o:=λ f o e=>Yr f o (i7 _ e);have Yp:∀f o,(wQ T1 s.heap l).get? f=some o->(Lv T1 T2 s.heap l m).get? f=some o:=λ f o e=>Yq f o (i7 _ e);have g5:(Lv T1 T2 s.heap l m).get? (P' T1 T2 s.heap l m).objs.size=some _:=l7 _ rfl;have g4:=up1 _ _ (l7 (Qa T1 T2 s.heap l m) rfl);have g3:=Yr _ _ (l7 (wQ T2 (wQ T1 s.heap l) m) rfl);have g2:=Yq _ _ (l7 (wQ T1 s.heap l) rfl);have g1:=Yp _ _ (l7 (s.heap) rfl);show _/\_;rw[e2,e3,e4]at g5;rw[e1,e2]at g3;rw[e3]at g4;rw[e1]at g2;rw[e4];exact⟨⟨_,g5,rfl⟩,k _ g5 g3 g4 ⟨_,g1,rfl,rfl⟩ ⟨_,g2,rfl,rfl⟩ e5 λ f o x=>Yp f o (i7 _ x)⟩
end L5
namespace L2
open PySem.Spec PyProof.Rows
open HT (lexLt bZ cw cf cg mx)
open PySem.SeqAt PySem.MeetsSeq PySem.MeetsSeq2 PySem.MeetsSeq3 PySem.SeqRoads2
open PySem.AutoSeq1 (wpAny_loadPart')
def ia(h:IntsAre vs ns)(hi:i<ns.length):∃t,vs[i]?=some (.int ns[i] t):=by
 induction h generalizing i with
 |nil=>simp at hi
 |cons n t h ih=>
  cases i with
  |zero=>exact⟨t,rfl⟩
  |succ i=>obtain⟨t',e⟩:=ih (i:=i) (by simpa using hi);exact⟨t',by simpa using e⟩
def IZ(l b:be)(xs ys:Array al)(n k:Nat)(dd ee:Option be)(sl tl:Array (Option al))(ns ms:List Int)(hi:IntsAre xs.toList ns)(hj:IntsAre ys.toList ms)(f:Nat):∀i:Nat,ns.length-i=f->Meets (Builtin.«list.__eq__.loop» ⟨[.ref l,.ref b,rawInt i,rawInt 0],[]⟩)
   (λ A R s=>s.heap.get? l=some {cls:=.type "list",dict:=dd,data:=.seq xs n,slots:=sl}/\s.heap.get? b=some {cls:=.type "list",dict:=ee,data:=.seq ys k,slots:=tl}/\i<=ns.length/\i<=ms.length/\
    R (.ok (.ret (.bool (lexLt (ns.drop i) (ms.drop i))))) s):=by
 have z1:xs.size=ns.length:=by rw[<- hi.length];simp
 have z2:ys.size=ms.length:=by rw[<- hj.length];simp
 induction f with
 |zero=>
  intro i hf prog w A R s h;obtain⟨hp,g,d,tk,os⟩:=s;obtain⟨hl,hb,i1,i2,h⟩:=h
  wp_walk using A8 hl,A8 hb
  have e1:xs[((i:Nat):Int).toNat]?=none:=by simp;lia
  have d1:ns.drop i=[]:=by simp;lia
  rw[d1]at h;rw[e1];have fin:R (.ok (.ret (.bool (decide (xs.size<ys.size))))) ⟨hp,g,d,tk,os⟩:=by
   have q:lexLt [] (ms.drop i)=decide (xs.size<ys.size):=by
    cases e:ms.drop i with
    |nil=>
     have:ms.length<=i:=by simpa using e
     rw[cw];exact(A7 ()).symm
    |cons c r=>
     have:i<ms.length:=by refine Nat.lt_of_not_le λ z=>?_;rw[drop_eq_nil_of_le z]at e;cases e
     rw[cf];exact(B9 ()).symm
   rw[<- q];exact h
  wp_walk using A8 hl,A8 hb
  exact fin
 |succ f ih=>
  intro i hf prog w A R s h;obtain⟨hp,g,d,tk,os⟩:=s;obtain⟨hl,hb,i1,i2,h⟩:=h;have a1:i<ns.length:=()
  obtain⟨t,e1⟩:=ia hi a1;have e1:xs[((i:Nat):Int).toNat]?=some (.int ns[i] t):=by simpa using e1
  by_cases a2:i<ms.length
  ·obtain⟨u,e2⟩:=ia hj a2;have e2:ys[((i:Nat):Int).toNat]?=some (.int ms[i] u):=by simpa using e2
   rw[c4 a1,c4 a2,bZ]at h
   wp_walk using A8 hl,A8 hb
   rw[e1,e2];refine G8 (EqAt.int_int ns[i] t ms[i] u prog w _ _ ?_);have cc:((i:Int)+1)=((i+1:Nat):Int):=by push_cast;rfl
   by_cases q:ns[i]=ms[i]
   ·rw[J6 q]at h;have qb:(ns[i]==ms[i])=true:=by simp[q]
    rw[qb]
    wp_walk
    rw[cc];exact⟨C8 plain_eq_loop _,B2 entry_eq_loop (by rw[k7 plain_eq_loop _];exact ih (i+1) () prog w A R _ ⟨hl,hb,(),(),h⟩)⟩
   ·rw[J7 q]at h;have qb:(ns[i]==ms[i])=false:=by simp[q]
    rw[qb];have rl:=mx A.in1 ⟨hp,g,d,tk,os⟩ ns[i] t ms[i] u prog w
    wp_walk using A8 hl,A8 hb
    rw[e1,e2]
    wp_walk using rl
    exact h
  ·have e2:ys[((i:Nat):Int).toNat]?=none:=by simp;lia
   have d2:ms.drop i=[]:=by simp;lia
   rw[c4 a1,d2,cg]at h
   wp_walk using A8 hl,A8 hb
   rw[e1,e2]
   wp_walk using A8 hl,A8 hb
   have q:decide (xs.size<ys.size)=false:=A7 ();show R (.ok (.ret (.bool (decide (xs.size<ys.size))))) _;rw[q];exact h
def sO(l b:be)(xs ys:Array al)(n k:Nat)(dd ee:Option be)(sl tl:Array (Option al))(ns ms:List Int)(hi:IntsAre xs.toList ns)(hj:IntsAre ys.toList ms):
  Meets (Builtin.«list.__lt__» ⟨[.ref l,.ref b],[]⟩) (λ A R s=>s.heap.get? l=some {cls:=.type "list",dict:=dd,data:=.seq xs n,slots:=sl}/\s.heap.get? b=some {cls:=.type "list",dict:=ee,data:=.seq ys k,slots:=tl}/\
    R (.ok (.ret (.bool (lexLt ns ms)))) s):=by
 intro prog w A R s h;obtain⟨hp,g,d,tk,os⟩:=s;obtain⟨hl,hb,h⟩:=h;have f3:=AutoSeq1.sub_list_list
 wp_walk using A8 hl,A8 hb
 exact⟨C8 plain_eq_loop _,B2 entry_eq_loop (by rw[k7 plain_eq_loop _];exact IZ l b xs ys n k dd ee sl tl ns ms hi hj _ 0 rfl prog w A R _ ⟨hl,hb,G5 _,G5 _,h⟩)⟩
def Dh{b:be}{xs ys:Array al}{ms:List Int}(hl:s.heap.IsList l xs)(hb:s.heap.IsList b ys)(hi:IntsAre xs.toList ns)(hj:IntsAre ys.toList ms)(hu:A.units<cLine)(h:Q (.bool (lexLt ns ms)) s):wpAny (model prog w) A (compareOp .Lt (.ref l) (.ref b)) Q E s:=by
 obtain⟨⟨c1,dd,da,sl⟩,o1,k1,n,d1⟩:=id hl;obtain⟨⟨c2,ee,db,tl⟩,o2,k2,m,d2⟩:=id hb;simp only at k1 d1 k2 d2;subst k1 d1 k2 d2;exact i9 (op:=.Lt) ⟨_,o1,rfl⟩ ⟨_,o2,rfl⟩ PySem.F.slot_list_lt PySem.F.entry_list_lt (PySem.F.args_list_lt_2 _ _) (sO l b xs ys n m dd ee sl tl ns ms hi hj)
  ⟨o1,o2,show Value.bool (lexLt ns ms)≠Value.notImplemented/\Q (.bool (lexLt ns ms)) s from⟨(λ x=>nomatch x),h⟩⟩ hu
open L5
def Sq(b:Bool)(K:J8)(H:Hp)(a:be)(xs:List V):Prop:=match b with
 |true=>fj K H a xs
 |false=>dv K H a xs
def UH(b:Bool):String:=match b with
 |true=>"tuple_iterator"
 |false=>"list_iterator"
def vP(b:Bool):Heap->be->Array al->Prop:=match b with
 |true=>Heap.IsTuple
 |false=>Heap.IsList
def jh:∀b,NK (UH b) (vP b)
 |true=>sG
 |false=>IM
section
variable {v:be}{ys:List V}
def eE(I:io X ce σ H s):∀{b:Bool},Sq b X.K H a xs->∃av:List al,li xs av/\vP b s.heap a av.toArray
 |true,h=>let⟨av,r,p,_⟩:=I.tuple h;⟨av,r,p⟩
 |false,h=>let⟨av,r,p,_⟩:=I.list h;⟨av,r,p.isList⟩
def uV(I:io X ce σ H s):∀{b:Bool},Sq b X.K H a xs->Sq b X.K H a ys->xs=ys
 |true,h,q=>I.oo h q
 |false,h,q=>I.sN h q
def xq{u:HO}(h:Rd H a u):∃o,H a=some o:=by
 rcases h with h|⟨o,h⟩
 ·exact⟨_,h⟩
 ·exact⟨_,h⟩
def Br:∀{b:Bool} {K:J8},Sq b K H a xs->(∃o,H a=some o)\/∃o,K.lookup a=some o
 |true,K,h=>by
  rcases h with h|⟨o,av,n,hk,_⟩
  ·exact .inl (xq h)
  ·exact .inr ⟨o,hk⟩
 |false,K,h=>by
  rcases h with h|⟨o,av,n,hk,_⟩
  ·exact .inl (xq h)
  ·exact .inr ⟨o,hk⟩
def gL(I:io X ce σ H s)(f:gp X ce H v)(h:Sq b X.K H a xs):a≠v:=λ e=>by
 subst e;rcases Br h with⟨o,q⟩|⟨o,q⟩
 ·rw[f.1]at q;cases q
 ·have q:=I.ok.mod.UW a o q;rcases f.2.2.2.1 with z|z
  ·exact I.ok.zF a o q z
  ·exact bi (p9 (D4 q) (D7 I.ok.FI z)) (C5 _)
def il(I:io X ce σ H s)(k:∀b o,b∉ch->s.heap.get? b=some o->h'.get? b=some o)(hf:∀b∈ch,gp X ce H b):io X ce σ H {s with heap:=h',toks:=t'}:=by
 have SJ:∀b u,H b=some u->b∉ch:=λ b u e z=>by rw[(hf b z).1]at e;cases e
 refine I.step (g':=s.gens) (d':=s.drawn) (ch:=ch) (λ b hb=>?_) (λ b o _ _ hc e _=>k b o hc e) (λ b o _ _ hc e _=>⟨o.slots,k b o hc e⟩) (λ _ _ _ _ n=>n)
  (λ b o hc e=>⟨o,k b o hc e⟩) (λ _ _ e=>e) (λ _ _ _ e=>e) (λ b ps e=>⟨#[],by rw[e];simp⟩) (λ m hm=>?_) (λ b u e=>?_) I.bare
 ·obtain⟨f0,f1,f2,f3,f4,f5⟩:=hf b hb;exact⟨f3,f1,f4,f5⟩
 ·obtain⟨o,es,ep,ho,r⟩:=hm;exact⟨o,es,ep,k _ o (λ z=>(hf _ z).2.1 rfl) ho,r⟩
 ·refine(I.bP b u e).gJ (λ c v hc q=>k c v ?_ q) (λ _ q=>q) λ _ _ q=>q;rcases hc with z|z
  ·rw[z];exact SJ b u e
  ·exact SJ c _ z
end
def Vp(K:J8)(b1 b2:Bool)(l m:be):It:=
 ⟨λ i H=>∃xs ys x y,Sq b1 K H l xs/\Sq b2 K H m ys/\xs[i]?=some x/\ys[i]?=some y,
  λ i H v H'=>∃(p:be)(x y:V),H p=none/\v=.ref p/\H'=lm H p (.tup [x,y])/\(∀xs,Sq b1 K H l xs->xs[i]?=some x)/\∀ys,Sq b2 K H m ys->ys[i]?=some y,
  λ i H=>∃xs ys,Sq b1 K H l xs/\Sq b2 K H m ys/\(xs.length<=i\/ys.length<=i)⟩
structure Zb(z u v a b:be):Prop where
 uz:u≠z
 vz:v≠z
 az:a≠z
 bz:b≠z
 uv:u≠v
 ua:u≠a
 ub:u≠b
 va:v≠a
 vb:v≠b
 ab:a≠b
def Z'(b1 b2:Bool)(z u v a b l m:be)(i:Nat)(h:Heap):Prop:=IsZip h z u v .none/\IsPair h u (.ref a) (.ref b)/\(∃c d,IsPair h v c d)/\dG (UH b1) h a l i/\dG (UH b2) h b m i
def Kh{b1 b2:Bool}{z u v b m:be}{ys:List V}(I:io X ce σ H s)(B:Zb z u v a b)(hf:∀c∈[z,u,v,a,b],gp X ce H c)(hl:Sq b1 X.K H l xs)(hm:Sq b2 X.K H m ys):Za z u v a b l m:=
 ⟨B.uz,B.vz,B.az,B.bz,B.uv,B.ua,B.ub,B.va,B.vb,B.ab,gL I (hf z (by simp)) hl,gL I (hf v (by simp)) hl,gL I (hf a (by simp)) hl,gL I (hf b (by simp)) hl,
  gL I (hf z (by simp)) hm,gL I (hf v (by simp)) hm,gL I (hf a (by simp)) hm,gL I (hf b (by simp)) hm⟩
def Bk{k0}(b1 b2:Bool){z u v b:be}(B:Zb z u v a b)(l m:be):Turn P w K (.Tuple es k0 pos) (Vp K b1 b2 l m) [z,u,v,a,b] z (Z' b1 b2 z u v a b l m) where
 mem:=by simp
 obj:=λ i h st c hc=>by
  obtain⟨hz,hu,⟨x,y,hv⟩,⟨oa,ha,_,da⟩,⟨ob,hb,_,db⟩⟩:=st;rcases C7.mp hc with rfl|hc
  ·exact⟨_,hz,λ v z=>by cases z⟩
  rcases C7.mp hc with rfl|hc
  ·exact⟨_,hu,λ v z=>by cases z⟩
  rcases C7.mp hc with rfl|hc
  ·exact⟨_,hv,λ v z=>by cases z⟩
  rcases C7.mp hc with rfl|hc
  ·exact⟨_,ha,λ v z=>by rw[da]at z;cases z⟩
  rcases C7.mp hc with rfl|hc
  ·exact⟨_,hb,λ v z=>by rw[db]at z;cases z⟩
  ·cases hc
 keep:=λ i h h' st q=>by obtain⟨hz,hu,⟨x,y,hv⟩,ha,hb⟩:=st;exact⟨q z (by simp) _ hz,q u (by simp) _ hu,⟨x,y,q v (by simp) _ hv⟩,ha.keep λ o e=>q a (by simp) o e,hb.keep λ o e=>q b (by simp) o e⟩
 item:=by
  intro X hP hw hK hc i ce s σ H E I hf st hg;subst hP hw hK;obtain⟨xs,ys,x,y,hl,hm,hx,hy⟩:=hg;obtain⟨hz,hu,⟨c,d,hv⟩,ha,hb⟩:=st;obtain⟨Oa,r1,p1⟩:=eE I hl;obtain⟨UY,r2,p2⟩:=eE I hm;obtain⟨u1,e1,q1⟩:=r1.get hx;obtain⟨u2,e2,q2⟩:=r2.get hy;have D:=Kh I B hf hl hm;refine CZ (jh b1) (jh b2) D hz hu hv ha hb p1 p2 (x:=u1) (y:=u2) (by simpa using e1) (by simpa using e2) λ g g1 g2 g3 g4 g5 g6 g7=>?_;have hn:H s.heap.objs.size=none:=I.bP.fresh (G3 _);have zZ:∀c∈[z,v,a,b],gp X ce H c:=λ c hc=>hf c (by simp at hc ⊢;rcases hc with rfl|rfl|rfl|rfl<;>simp);have I1:io X ce σ H {s with heap:=g}:=il (t':=s.toks) I (λ c o hc e=>g7 c o (λ z=>hc (by simp[z])) (λ z=>hc (by simp[z])) (λ z=>hc (by simp[z])) (λ z=>hc (by simp[z])) e) zZ;refine⟨_,rfl,wpAny_letOwnedTupleGo_zip (s:={s with heap:=g}) g1 λ g' z' sb=>?_⟩;have I2:io X ce σ H {s with heap:=g'}:=il (s:={s with heap:=g}) (t':=s.toks) (ch:=[z]) I1 (λ c o hc e=>sb.extBut _ _ (λ z=>hc (by simp[z])) e) (λ c hc=>zZ c (by simp at hc ⊢;exact .inl hc));have fo:=I.iH (H':=H) (G3 s.heap.objs.size) hn;have UU:z<s.heap.objs.size:=D4 hz;have t5:IsPair g' s.heap.objs.size u1 u2:=sb.extBut _ _ (G1 UU) g5;have I3:io X ce σ (lm H s.heap.objs.size (.tup [x,y])) {s with heap:=g'}:=io.oq I2 hn ⟨show 2<=sizeLine by decide,[u1,u2],.cons q1 (.cons q2 .nil),⟨_,t5,rfl,_,rfl⟩⟩ fo.2.1 (D7 I.sz (G3 _)) fo.2.2.2.2.1 fo.2.2.2.2.2;refine⟨.ref s.heap.objs.size,_,I3,rfl,⟨s.heap.objs.size,x,y,hn,rfl,rfl,λ Vx h'=>by rw[uV I h' hl];exact hx,λ ys' h'=>by rw[uV I h' hm];exact hy⟩,?_,λ c hc=>?_⟩
  ·exact⟨z',sb.extBut _ _ B.uz (g7 _ _ B.uz B.uv B.ua B.ub hu),⟨_,_,sb.extBut _ _ B.vz g2⟩,g3.keep λ o e=>sb.extBut _ _ B.az e,g4.keep λ o e=>sb.extBut _ _ B.bz e⟩
  ·have fR:∀c∈[z,u,v,a,b],c<s.heap.objs.size:=λ c hc=>by
    obtain⟨_,qa,_⟩:=ha;obtain⟨_,qb,_⟩:=hb;simp at hc;rcases hc with rfl|rfl|rfl|rfl|rfl
    ·exact D4 hz
    ·exact D4 hu
    ·exact D4 hv
    ·exact D4 qa
    ·exact D4 qb
   rw[aX (D3 (fR c hc))];exact(hf c hc).1
 done:=by
  intro X hP hw hK hc i ce s σ H E I hf st hg;subst hP hw hK;obtain⟨xs,ys,hl,hm,he⟩:=hg;obtain⟨hz,hu,⟨c,d,hv⟩,ha,hb⟩:=st;obtain⟨Oa,r1,p1⟩:=eE I hl;obtain⟨UY,r2,p2⟩:=eE I hm;have D:=Kh I B hf hl hm;have l1:=r1.length;have l2:=r2.length;refine Ds (I.ok.hd hc) (jh b1) (jh b2) D hz hu hv ha hb p1 p2 ?_ λ g g7=>⟨rfl,il (t':=s.toks) (ch:=[z,v,a,b]) I (λ c o hc e=>g7 c o (λ z=>hc (by simp[z])) (λ z=>hc (by simp[z])) (λ z=>hc (by simp[z])) (λ z=>hc (by simp[z])) e) λ c hc=>hf c (by simp at hc ⊢;rcases hc with rfl|rfl|rfl|rfl<;>simp)⟩;rcases he with q|q
  ·exact .inl (by simp;lia)
  ·exact .inr (by simp;lia)
 self:=λ _ _ _ _ _ st h=>wpAny_pyIter_zip st.1 h
section
variable {k0:_}{a b:Expr}{ta:TA}{p:Pos}
def Wz(K:J8)(ta:TA):TI:=λ σ H R=>ta σ H λ vs H1=>∃(b1 b2:Bool)(l m:be),vs=[.ref l,.ref m]/\(∃xs,Sq b1 K H1 l xs)/\(∃ys,Sq b2 K H1 m ys)/\R (Vp K b1 b2 l m) H1
def MQ(hg:Gl X "zip")(hm:X.mg "zip"=none)(ha:PA X [a,b] ta)(hs:starEach [a,b] X.env=[(false,eval a X.env),(false,eval b X.env)]:=by rfl)(iT:starEach [b] X.env=[(false,eval b X.env)]:=by rfl):PI X (.Tuple es k0 jM) (.Call (.Name "zip" p) [a,b] [] pos) (Wz X.K ta):=by
 intro ce s σ H R I h;refine Call_ (eI I hg hm boot_zip (b0 (cq (ha pos ce s σ H _ I h) λ us s1 ⟨vs,H1,I1,r1,q1⟩=>?_) (by show _=_;rw[hs,iT]) (by show _=_;rw[iT];rfl)));obtain⟨b1,b2,l,m,e,⟨xs,hl⟩,⟨ys,hm⟩,q⟩:=q1;subst e;obtain⟨u1,u2,rfl,r,r'⟩:=vals2 r1;cases(show u1=Value.ref l from r);cases(show u2=Value.ref m from r');obtain⟨Oa,r1,p1⟩:=eE I1 hl;obtain⟨UY,r2,p2⟩:=eE I1 hm;refine NP (jh b1) (jh b2) p1 p2 λ g g1 g2 g3 g4 g5 g6 g7=>wpAny_pyIter_zip (s:={s1 with heap:=g}) g1 ?_;have I2:io X ce σ H1 {s1 with heap:=g}:=I1.kept (t':=s1.toks) g7;have fr:∀c,s1.heap.objs.size<=c->gp X ce H1 c:=λ c hc=>I1.iH hc (I1.bP.fresh hc);refine⟨_,[s1.heap.objs.size+4,s1.heap.objs.size+2,s1.heap.objs.size+3,s1.heap.objs.size,s1.heap.objs.size+1],_,_,H1,rfl,I2,Bk b1 b2 ⟨?_,?_,?_,?_,?_,?_,?_,?_,?_,?_⟩ l m,⟨g1,g2,⟨_,_,g3⟩,g4,g5⟩,λ c hc=>fr c ?_,q⟩
 any_goals (show(_:Nat)≠_;lia)
 simp at hc;rcases hc with rfl|rfl|rfl|rfl|rfl<;>lia
end
end L2
namespace L3
open PySem.Spec L2 L5
def jI(ds es:List D):List D:=(ds.zip es).map λ p=>D.tup [p.1,p.2]
def AS(ds es:List D):(jI ds es).length=min ds.length es.length:=by simp[jI]
end L3
namespace L5
open PySem.W PySem.Calls PyProof.Rows
theorem KQ{lt:Nat->Nat->Bool}{κ:SortKind}{ks:List al}{Q:α->am->Prop}(hc:∀i j C,i<n->j<n->C (lt i j) s->wpAny (model prog w) A (keyLt' κ (ks.getD i Value.none) (ks.getD j Value.none)) C (λ _ _=>False) s):∀(t:KasT α),kw n lt t (λ a=>Q a s)->t.kasWp (kas_ask prog w A κ ks) Q s
 | .ret a,h=>h
 | .ask i j k,h=>hc i j _ h.1 h.2.1 (KQ hc (k (lt i j)) h.2.2)
def Out{α:Type}(lt:Nat->Nat->Bool)(vs:List α)(d:α)(out:List α):Prop:=∃p:Array Nat,Pm vs.length p/\Up lt p vs.length/\out=p.toList.map λ i=>vs.getD i d
def Im{lt:Nat->Nat->Bool}(O:Ord lt){vs:List α}(d:α)(h:vs.length<2):Out lt vs d vs:=by
 refine⟨List.toArray (List.range vs.length),Array.Perm.refl _,λ i j s_ hj=>?_,?_⟩
 ·have:i=j:=()
  subst this;exact O.refl _
 ·match vs,h with
  |[],_=>rfl
  |[v],_=>rfl
def xW{kS:be}{e e1:Nat}{ks out:List al}{st:SortSt}{P:PySem.Fin->am->Prop}(hk:s.heap.get? kS=some (seqObj "list" (List.toArray ks) e))(ha:s.heap.get? a=some (seqObj "list" #[] e1))(fg:a≠kS)(hkz:ks.length<64)(hoz:out.length<64)
  (ho:(arrOf st).map (·.2)=List.toArray out) (hf:failedOf st=none)
  (h:∀h' c,h'.get? a=some (seqObj "list" (List.toArray out) c)->(∀b o,b≠a->b≠kS->s.heap.get? b=some o->h'.get? b=some o)->P (.done (.ret .none)) {s with heap:=h'}):wpAny (model prog w) A (ksk_tail a false e1 (.ref kS) st) P E s:=by
 unfold ksk_tail
 try dsimp only
 rw[ho];have s1:=l0 s.heap kS (Obj.mapSeq λ _=>(#[]:Array al));have a1:(s.heap.update kS (Obj.mapSeq λ _=>(#[]:Array al))).get? a=some (seqObj "list" #[] e1):=(s1.2 a fg).trans ha;have s2:=l0 (s.heap.update kS (Obj.mapSeq λ _=>(#[]:Array al))) a (Obj.mapSeq λ _=>List.toArray out);refine G8 (listUpdate_at hk rfl (G8 (G7 (G8 (seqEpoch_at a1 rfl (G8 (listUpdate_at a1 rfl ?_ (G5 _) ?_)))))) (by rw[y6,G4];lia) (G5 _))
 ·rw[hf];simp only[bne_self_eq_false,o8,J1];exact G9 (h _ _ (get?_update_seq a1 λ _=>List.toArray out) λ b o b1 b2 q=>(s2.2 b b1).trans ((s1.2 b b2).trans q))
 ·simp only[o8,J1];rw[y6,G4];lia
def Dw{kS:be}{e e1:Nat}{ks:List al}{κ:SortKind}{lt:Nat->Nat->Bool}{P:PySem.Fin->am->Prop}(O:Ord lt)(hl:ks.length=vs.length)(tq:vs.length<64)(hk:s.heap.get? kS=some (seqObj "list" (List.toArray ks) e))(ha:s.heap.get? a=some (seqObj "list" #[] e1))(fg:a≠kS)
  (DZ:2<=vs.length->∀C:SortKind->am->Prop,C κ s->wpAny (model prog w) A (keyKind' (List.toArray ks)) C E s)
  (hc:2<=vs.length->∀i j C,i<vs.length->j<vs.length->C (lt i j) s->wpAny (model prog w) A (keyLt' κ (ks.getD i Value.none) (ks.getD j Value.none)) C (λ _ _=>False) s)
  (h:∀out h' c,Out lt vs Value.none out->h'.get? a=some (seqObj "list" (List.toArray out) c)->(∀b o,b≠a->b≠kS->s.heap.get? b=some o->h'.get? b=some o)->P (.done (.ret .none)) {s with heap:=h'}):
  wpAny (model prog w) A (ksk_end a false vs.toArray e1 (.ref kS) (List.toArray ks)) P E s:=by
 unfold ksk_end
 try dsimp only
 simp only[o8,J1];by_cases h2:vs.length<2
 ·have z2:vs.toArray.size<2:=by rw[y6];exact h2
  rw[J6 z2,J6 z2];refine G8 (G9 (G8 ?_));rw[StateT.run_pure];refine G9 ?_;refine xW hk ha fg () tq (st:=SortSt.mk' general' ((List.toArray ks).zip vs.toArray) #[] 7 none) ?_ rfl λ h' c a1 a2=>h vs h' c (Im O _ h2) a1 a2;show((List.toArray ks).zip vs.toArray).map (·.2)=_;apply Array.toList_inj.mp;simp;exact map_snd_zip ()
 ·have z2:¬vs.toArray.size<2:=by rw[y6];exact h2
  rw[J7 z2,J7 z2];refine G8 (DZ () _ ?_);refine G8 (J0 (kat_run (Q:=λ uD s'=>s'=s/\∃p:Array Nat,p.size=vs.length/\arrOf uD=p.map (kas_item ((List.toArray ks).zip vs.toArray))/\failedOf uD=none/\Pm vs.length p/\Up lt p vs.length)
   (G:=λ p s'=>s'=s/\Pm vs.length p/\Up lt p vs.length) hl () tq (λ p uD s' a1 a2 a3 a4=>⟨a4.1,p,a1,a2,a3,a4.2⟩) (KQ (hc ()) _ (Jf O () λ p p1 p2=>⟨rfl,p1,p2⟩))) ?_ λ _ _ x=>x)
  rintro⟨⟨⟩,uD⟩ s' ⟨rfl,p,hp,har,hf,p1,p2⟩
  try dsimp only
  refine xW hk ha fg () ?_ (kat_snds hl har) hf λ h' c a1 a2=>h _ h' c ⟨p,p1,p2,rfl⟩ a1 a2;rw[B4,l6,hp];exact tq
theorem xY{kS q:be}{body:al->PUnit->Sem (ForInStep PUnit)}(hb:∀x ks e (s:am),J ks e s->vs[ks.length]?=some x->wpAny (model prog w) A (body x ⟨⟩) (λ r s'=>r=.yield ⟨⟩/\∃k c,J (ks++[k]) c s') E s):∀(r ks:List al)(e:Nat)(s:am),vs.drop ks.length=r->ks.length<=vs.length->J ks e s->
   wpAny (model prog w) A (forIn r PUnit.unit body) (λ _ s'=>∃ks e,ks.length=vs.length/\J ks e s') E s
 |[],ks,e,s,hr,hl,h=>by rw[forIn_nil];exact G9 ⟨ks,e,B7 hl (by simpa using hr),h⟩
 |x::r,ks,e,s,hr,hl,h=>by
  rw[forIn_cons];have fR:ks.length<vs.length:=by refine Nat.lt_of_not_le λ z=>?_;rw[drop_eq_nil_of_le z]at hr;cases hr
  rw[c4 fR]at hr;injection hr with e1 e2
  refine G8 (J0 (hb x ks e s h (by rw[c8 fR,e1])) (λ y s' hy=>?_) λ _ _ z=>z);obtain⟨rfl,k,c,h2⟩:=hy;exact xY (kS:=kS) (q:=q) hb r (ks++[k]) c s' (by rw[n9,j4];exact e2) (by rw[n9,j4];lia) h2
def xX{a kS q:be}{e1:Nat}{P:PySem.Fin->am->Prop}(tq:vs.length<64)(hJ:∀ks e s,J ks e s->s.heap.get? kS=some (seqObj "list" (List.toArray ks) e)/\ks.length<=vs.length)
  (Tt:∀x ks e (s:am),J ks e s->vs[ks.length]?=some x->wpAny (model prog w) A (call (.ref q) [x]) (λ k s'=>s'.heap.get? kS=some (seqObj "list" (List.toArray ks) e)/\∀h' c,h'.get? kS=some (seqObj "list" (List.toArray (ks++[k])) c)->Heap.SameBut kS s'.heap h'->J (ks++[k]) c {s' with heap:=h'}) (λ _ _=>False) s)
  (h0:J [] 0 s) (Xk:∀ks e s,J ks e s->ks.length=vs.length->wpAny (model prog w) A (ksk_end a false vs.toArray e1 (.ref kS) (List.toArray ks)) P E s):wpAny (model prog w) A (ksk_rest a (.ref q) false vs.toArray e1 (.ref kS)) P E s:=by
 unfold ksk_rest;refine G8 (H0 ?_)
 first
  |rw[List.forIn_toArray]
  |(rw[<- u9];simp only[List.toList_toArray])
  |rw[<- u9]
 refine G8 (J0 (xY (kS:=kS) (q:=q) (J:=J) (vs:=vs) (λ x ks e s' hj hx=>?_) vs [] 0 s rfl (G5 _) h0) (λ _ s' hd=>?_) λ _ _ x=>x)
 ·refine G8 (wpAny_attempt (J0 (Tt x ks e s' hj hx) (λ k Ri hk=>?_) λ _ _ hF=>hF.elim));obtain⟨k1,k2⟩:=hk;have hz:=(hJ ks e s' hj).2;have s1:=l0 Ri.heap kS (Obj.mapSeq (·.push k));have ea:(List.toArray ks).push k=List.toArray (ks++[k]):=by simp
  try dsimp only
  refine G8 (listUpdate_at k1 rfl (G9 ⟨rfl,k,_,k2 _ _ (by rw[<- ea];exact get?_update_seq k1 (·.push k)) s1⟩) (by rw[y6,G4];lia) (D7 (D9 (Array.size_push ..)) (by rw[y6,G4];lia)))
 ·obtain⟨ks,e,hl,hj⟩:=hd
  try dsimp only
  exact G8 (listItems_at (hJ ks e s' hj).1 rfl (Xk ks e s' hj hl))
def sortedK{l q:be}{vs:List al}{Q:al->am->Prop}(hl:s.heap.IsList l vs.toArray)(tq:vs.length<64) (h:∀h' e1,h'.get? (s.heap.objs.size+1)=some (seqObj "list" #[] e1)->h'.get? (s.heap.objs.size+3)=some (seqObj "list" #[] 0)->(∀b o,s.heap.get? b=some o->h'.get? b=some o)->
   wpAny (model prog w) A.in1.in1 (ksk_rest (s.heap.objs.size+1) (.ref q) false vs.toArray e1 (.ref (s.heap.objs.size+3))) (λ f s'=>f=.done (.ret .none)/\Q (.ref (s.heap.objs.size+1)) s') E {s with heap:=h'}):
  wpAny (model prog w) A (call (.builtin "sorted") [.ref l] [(aU "key",.ref q)]) Q E s:=by
 refine call_function_entry_kw kind_sorted plain_sorted entry_sorted (ksk_s1 _ _) ?_;unfold Builtin.«sorted»;refine G8 (m:=checkCount "sorted" 1 1 _) (G9 (G8 (collect_list hl (G8 (wpAny_newList ?_ (by rw[G4];lia))) (by rw[G4];lia))));have e1:((s.heap.push (seqObj "list" #[] 0)).update s.heap.objs.size (Obj.mapSeq (·++vs.toArray))).objs.size=s.heap.objs.size+1:=by rw[Heap.size_update,size_push']
 have g1:(((s.heap.push (seqObj "list" #[] 0)).update s.heap.objs.size (Obj.mapSeq (·++vs.toArray))).push (seqObj "list" vs.toArray 0)).get? (s.heap.objs.size+1)=some (seqObj "list" vs.toArray 0):=by rw[<- e1];exact l7 _ rfl
 have k1:∀b o,s.heap.get? b=some o->(((s.heap.push (seqObj "list" #[] 0)).update s.heap.objs.size (Obj.mapSeq (·++vs.toArray))).push (seqObj "list" vs.toArray 0)).get? b=some o:=λ b o q=>by have hb:b<s.heap.objs.size:=D4 q;exact i7 _ (by rw[Heap.get?_update_ne _ _ _ _ (D3 hb)];exact i7 _ q)
 show wpAny _ _ _ _ _ {s with heap:=((s.heap.push (seqObj "list" #[] 0)).update s.heap.objs.size (Obj.mapSeq (·++vs.toArray))).push (seqObj "list" vs.toArray 0)};rw[e1];refine G8 (C3 (wpAny_call_entry_kw slot_list_sort ⟨_,g1,rfl⟩ entry_list_sort ?body (ksk_l1 _ _)))
 case body=>
  show wpAny (model prog w) A.in1.in1 (Builtin.«list.sort» ⟨[.ref (s.heap.objs.size+1)],[(aU "key",.ref q)]⟩) _ _ _;rw[ksk_t1];unfold ksk_tree;generalize hH:((s.heap.push (seqObj "list" #[] 0)).update s.heap.objs.size (Obj.mapSeq (·++vs.toArray))).push (seqObj "list" vs.toArray 0)=H at*;have eH:H.objs.size=s.heap.objs.size+2:=by rw[<- hH,size_push',e1]
  obtain⟨c1,o1⟩:∃c1,(H.update (s.heap.objs.size+1) (Obj.mapSeq λ _=>(#[]:Array al))).get? (s.heap.objs.size+1)=some (seqObj "list" #[] c1):=⟨_,get?_update_seq g1 λ _=>#[]⟩;refine G8 (listItems_at g1 rfl (G8 (listUpdate_at g1 rfl (G8 (seqEpoch_at o1 rfl (G8 (wpAny_newTuple (G8 (wpAny_newList (C3 ?_) (G5 _))) (by show vs.length<=_;rw[G4];lia))))) (by rw[y6,G4];lia) (G5 _))));have e2:(H.update (s.heap.objs.size+1) (Obj.mapSeq λ _=>(#[]:Array al))).objs.size=s.heap.objs.size+2:=by rw[Heap.size_update,eH]
  have e3:((H.update (s.heap.objs.size+1) (Obj.mapSeq λ _=>(#[]:Array al))).push (seqObj "tuple" vs.toArray 0)).objs.size=s.heap.objs.size+3:=by rw[size_push',e2]
  have g3:(((H.update (s.heap.objs.size+1) (Obj.mapSeq λ _=>(#[]:Array al))).push (seqObj "tuple" vs.toArray 0)).push (seqObj "list" #[] 0)).get? (s.heap.objs.size+3)=some (seqObj "list" #[] 0):=by rw[<- e3];exact l7 _ rfl
  show wpAny (model prog w) A.in1.in1 (ksk_rest (s.heap.objs.size+1) (.ref q) false vs.toArray c1 (.ref ((H.update (s.heap.objs.size+1) (Obj.mapSeq λ _=>(#[]:Array al))).push (seqObj "tuple" vs.toArray 0)).objs.size)) _ _ {s with heap:=((H.update (s.heap.objs.size+1) (Obj.mapSeq λ _=>(#[]:Array al))).push (seqObj "tuple" vs.toArray 0)).push (seqObj "list" #[] 0)};rw[e3];refine J0 (h _ c1 (i7 _ (i7 _ o1)) g3 λ b o x=>i7 _ (i7 _ (by
   have hb:b<s.heap.objs.size:=D4 x;rw[Heap.get?_update_ne _ _ _ _ (D3 (y7 hb))];exact k1 b o x))) (λ f s' hf=>?_) λ _ _ x=>x
  obtain⟨rfl,hq⟩:=hf;exact⟨_,rfl,G9 ⟨_,rfl,hq⟩⟩
end L5
namespace L2
open PySem.Spec PyProof.Rows L5 PySem.W
open HT (lexLt bZ cw cf cg)
theorem eF{h:Heap}:∀{vs:List al} {ns:List Int},IntsAre vs ns->ReadsAll h vs (ns.map PyData.int) []
 |_,_,.nil=>ReadsAll.nil
 |_,_,.cons n t r=>ReadsAll.cons (Reads.int n t) (eF r)
abbrev Ky:=Int×List Int
def klt(a b:Ky):Bool:=if a.1=b.1 then lexLt a.2 b.2 else decide (a.1<b.1)
theorem qm:∀a:List Int,lexLt a a=false
 |[]=>rfl
 |x::a=>by rw[bZ,J6 rfl];exact qm a
theorem sP:∀a b:List Int,lexLt a b=true->lexLt b a=false
 |[],[],h=>by cases h
 |[],_::_,_=>rfl
 |_::_,[],h=>by cases h
 |x::a,y::b,h=>by
  rw[bZ]at h ⊢;by_cases e:x=y
  ·rw[J6 e]at h;rw[J6 e.symm];exact sP a b h
  ·rw[J7 e]at h;rw[J7 (J4 e)];have:=ca h;exact A7 ()
set_option tactic.hygienic true in
theorem Dm:∀a b c:List Int,lexLt a b=false->lexLt b c=false->lexLt a c=false
 |_,_::_,[],_,_=>by rename_i a _ _ _ _;cases a<;>rfl
 |[],[],c,_,h=>h
 |_::_,[],[],_,_=>rfl
 |_::_,[],_::_,_,h=>by cases h
 |[],_::_,_::_,h,_=>by cases h
 |x::a,y::b,z::c,h,g=>by
  rw[bZ]at h g ⊢;by_cases e:x=y
  ·rw[J6 e]at h;subst e;by_cases e2:x=z
   ·rw[J6 e2]at g ⊢;exact Dm a b c h g
   ·rw[J7 e2]at g ⊢;exact g
  ·rw[J7 e]at h;have h:=u4 h;by_cases e2:y=z
   ·subst e2;rw[J7 e];exact A7 h
   ·rw[J7 e2]at g;have g:=u4 g;have:x≠z:=()
    rw[J7 this];exact A7 ()
theorem oD:∀a b:List Int,a.length=b.length->lexLt a b=false->lexLt b a=false->a=b
 |[],[],_,_,_=>rfl
 |x::a,y::b,l,h,g=>by
  rw[bZ]at h g;by_cases e:x=y
  ·subst e;rw[J6 rfl]at h g;rw[oD a b (by simpa using l) h g]
  ·rw[J7 e]at h;rw[J7 (J4 e)]at g;have h:=u4 h;have g:=u4 g;lia
def jk(a b:Ky)(h:klt a b=true):klt b a=false:=by
 unfold klt at h ⊢;by_cases e:a.1=b.1
 ·rw[J6 e]at h;rw[J6 e.symm];exact sP _ _ h
 ·rw[J7 e]at h;rw[J7 (J4 e)];have:=ca h;exact A7 ()
def NV(a b c:Ky)(h:klt a b=false)(g:klt b c=false):klt a c=false:=by
 unfold klt at h g ⊢;by_cases e:a.1=b.1
 ·rw[J6 e]at h;by_cases e2:b.1=c.1
  ·rw[J6 e2]at g;rw[J6 (e.trans e2)];exact Dm _ _ _ h g
  ·rw[J7 e2]at g;rw[J7 (by rw[e];exact e2),e];exact g
 ·rw[J7 e]at h;have h:=u4 h;by_cases e2:b.1=c.1
  ·rw[J7 (by rw[<- e2];exact e),<- e2];exact A7 h
  ·rw[J7 e2]at g;have g:=u4 g;have:a.1≠c.1:=()
   rw[J7 this];exact A7 ()
def xZ(key:Nat->Ky):Ord λ i j=>klt (key i) (key j):=⟨λ a b h=>jk _ _ h,λ a b c h g=>NV _ _ _ h g⟩
def gy(K:J8)(b:Bool)(H:Hp)(k:V)(c:Ky):Prop:=∃t m,k=.ref t/\fj K H t [.int c.1,.ref m]/\Sq b K H m (c.2.map V.int)
section
def jl(I:io X ce σ H s){k:V}{c:Ky}(h:gy X.K b H k c)(r:lc k u):∃(t m:be)(o:Obj)(tk:Tok)(n:Nat)(av:List al),u=.ref t/\s.heap.get? t=some o/\o.cls=.type "tuple"/\o.data=.seq #[.int c.1 tk,.ref m] n/\vP b s.heap m av.toArray/\IntsAre av c.2:=by obtain⟨t,m,rfl,h1,h2⟩:=h;cases(show u=Value.ref t from r);obtain⟨av,r1,⟨o,ho,hc,n,hd⟩,_⟩:=I.tuple h1;obtain⟨u1,u2,rfl,⟨tk,rfl⟩,q2⟩:=vals2 r1;cases(show u2=Value.ref m from q2);obtain⟨UY,r2,p2⟩:=eE I h2;exact⟨t,m,o,tk,n,UY,rfl,ho,hc,hd,p2,intsAre_of r2⟩
def ym{m m':be}{xs ys:List al}{ms:List Int}(h1:vP b s.heap m xs.toArray)(h2:vP b s.heap m' ys.toArray)(i1:IntsAre xs ns)(i2:IntsAre ys ms)(hu:A.units+1<cLine):SeqAt.EqAt A s (.ref m) (.ref m') (decide (ns=ms)):=by
 have dp:∀l:List Int,PyData.depthAll (l.map PyData.int)=0:=λ l=>ke_depthAll l;cases b with
 |true=>obtain⟨o,ho,hc,n,hd⟩:=h1;obtain⟨o',kL,uJ,n',ie⟩:=h2;have q:=SeqAt.eqAt_reads (.tuple (ns.map .int)) (.tuple (ms.map .int)) A s (.ref m) (.ref m') _ _ (reads_tuple_at ho hc hd (eF i1)) (reads_tuple_at kL uJ ie (eF i2)) (by simp[PyData.canLay0,ke_canLayAll0]) (by simp[PyData.canLay0,ke_canLayAll0]) (by simp[PyData.depth,dp];lia);rw[show PyData.eqv (.tuple (ns.map .int)) (.tuple (ms.map .int))=decide (ns=ms) by simp only[PyData.eqv];exact ked_eqvAll ns ms]at q;exact q
 |false=>obtain⟨o,ho,hc,n,hd⟩:=h1;obtain⟨o',kL,uJ,n',ie⟩:=h2;have q:=SeqAt.eqAt_reads (.list (ns.map .int)) (.list (ms.map .int)) A s (.ref m) (.ref m') _ _ (reads_list_at ho hc hd (eF i1)) (reads_list_at kL uJ ie (eF i2)) (by simp[PyData.canLay0,ke_canLayAll0]) (by simp[PyData.canLay0,ke_canLayAll0]) (by simp[PyData.depth,dp];lia);rw[show PyData.eqv (.list (ns.map .int)) (.list (ms.map .int))=decide (ns=ms) by simp only[PyData.eqv];exact ked_eqvAll ns ms]at q;exact q
def I_{m m':be}{xs ys:List al}{ms:List Int}(h1:vP b s.heap m xs.toArray)(h2:vP b s.heap m' ys.toArray)(i1:IntsAre xs ns)(i2:IntsAre ys ms)(hu:A.units<cLine)(h:Q (.bool (lexLt ns ms)) s):wpAny (model prog w) A (compareOp .Lt (.ref m) (.ref m')) Q E s:=by
 cases b with
 |true=>exact HT.vF (show IsTup s.heap m xs.toArray from h1) (show IsTup s.heap m' ys.toArray from h2) i1 i2 hu h
 |false=>exact Dh h1 h2 i1 i2 hu h
def Dx(I:io X ce σ H s)(hu:A.units+1<cLine){k k':V}{c c':Ky}{u':al}(h:gy X.K b H k c)(h':gy X.K b H k' c')(r:lc k u)(r':lc k' u'){C:Bool->am->Prop}(hC:C (klt c c') s):wpAny (model X.prog X.w) A (keyLt' (tuples' true) u u') C (λ _ _=>False) s:=by
 obtain⟨t,m,o,tk,n,av,rfl,ho,_,hd,hm,hi⟩:=jl I h r;obtain⟨t',m',o',Fu,n',its',rfl,kL,_,ie,gE,K_⟩:=jl I h' r';refine kat_lt ho hd kL ie (kat_cons (SeqAt.EqAt.int_int c.1 tk c'.1 Fu X.prog X.w _ _ ?_));unfold klt at hC;by_cases e:c.1=c'.1
 ·rw[J6 e]at hC;rw[show(c.1==c'.1)=true by simp[e]];refine kat_yes (kat_cons (ym hm gE hi K_ hu X.prog X.w _ _ ?_));by_cases e2:c.2=c'.2
  ·rw[B9 e2];rw[e2,qm]at hC;exact kat_yes (kat_nil hC)
  ·rw[A7 e2];exact kat_no (kat_one _ _ (I_ hm gE hi K_ () hC))
 ·rw[J7 e]at hC;rw[show(c.1==c'.1)=false by simp[e]];exact kat_no (oneLt_int hC)
theorem mJ(I:io X ce σ H s):∀{ar:List V} {ks:List al} {key:Nat->Ky},li ar ks->(∀i k,ar[i]?=some k->gy X.K b H k (key i))->∃fs,KatTups s.heap ks fs/\fs.length=ks.length/\∀v∈fs,∃i t,v=Value.int i t
 |_,_,_,.nil,_=>⟨[],KatTups.nil,rfl,λ v hv=>by cases hv⟩
 |_,_,key,.cons (a:=k) r rr,h=>by
  obtain⟨fs,h1,h2,h3⟩:=mJ I rr (key:=λ i=>key (i+1)) λ i k hk=>h (i+1) k (by simpa using hk);obtain⟨t,m,o,tk,n,av,rfl,ho,hc,hd,_,_⟩:=jl I (h 0 _ rfl) r;refine⟨.int (key 0).1 tk::fs,KatTups.cons ho hc hd rfl h1,by simp[h2],λ v hv=>?_⟩;rcases C7.mp hv with rfl|hv
  ·exact⟨_,_,rfl⟩
  ·exact h3 v hv
def rJ{ys:List V}(r:li ys av)(p:List Nat):li (p.map λ i=>ys.getD i V.bh) (p.map λ i=>av.getD i Value.none):=by
 induction p with
 |nil=>exact .nil
 |cons i p ih=>
  refine .cons ?_ ih;show lc (ys.getD i V.bh) (av.getD i Value.none);cases e:ys[i]? with
  |none=>have e2:=r.none_of e;rw[b8,b8,e,e2];rfl
  |some y=>obtain⟨u,hu,ru⟩:=r.get e;rw[b8,b8,e,hu];exact ru
variable {sp:Sp}
def qV(F:bg X.prog X.w X.K X.mg X.base cM k q fd ps sp)(hb:Binds X.K fd ps [])(hr:cR (k+2) X.A){ys:List V}{Q:VK}(I:io X ce σ H s)(hl:dv X.K H l ys)(tq:ys.length<64)(R:List V->Hp->Prop)(key:Nat->Ky)(h0:R [] H)(hc:∀ar H v,R ar H->ys[ar.length]?=some v->sp [v] H (λ k H'=>R (ar++[k]) H') E0)(hk:∀ar H,R ar H->ar.length=ys.length->(∀i k,ar[i]?=some k->gy X.K b H k (key i))/\∀p out,H p=none->Out (λ i j=>klt (key i) (key j)) ys V.bh out->Q (.ref p) (lm H p (.lst out))):wpAny (model X.prog X.w) X.A (call (.builtin "sorted") [.ref l] [(aU "key",.ref q)]) (EP X ce σ Q) X.xe s:=by
 obtain⟨av,rv,pl,hz⟩:=I.list hl;have hlen:=rv.length;have hu:=hr.units;have room:cR k X.A.in1.in1:=(hr.in1 (k:=k+1)).in1;refine sortedK pl.isList () λ g e1 gD gK gk=>?_;have f1:=I.iH (H':=λ _=>none) (b:=s.heap.objs.size+1) () rfl;have f3:=I.iH (H':=λ _=>none) (b:=s.heap.objs.size+3) () rfl;have fg:s.heap.objs.size+1≠s.heap.objs.size+3:=()
 refine xX (J:=λ ks e s'=>∃ar H',io X ((s.heap.objs.size+3,seqObj "list" (List.toArray ks) e)::(s.heap.objs.size+1,seqObj "list" #[] e1)::ce) σ H' s'/\li ar ks/\R ar H'/\ks.length<=av.length) () ?_ ?_ ?_ ?_
 ·rintro ks e s' ⟨ar,H',I',rk,hR,rC⟩;exact⟨(I'.pin _ (j2 _ (.head _))).1,rC⟩
 ·rintro x ks e s' ⟨ar,H',I',rk,hR,rC⟩ hx;have lk:=rk.length;obtain⟨y,hy,ry⟩:∃y,ys[ar.length]?=some y/\lc y x:=by
   have hi:ar.length<ys.length:=by have:=(c5.mp hx).1;lia
   obtain⟨u,Oe,ru⟩:=rv.get (c8 hi);rw[lk,hx]at Oe;cases Oe;exact⟨_,c8 hi,ru⟩
  have call:=hc ar H' y hR hy;have r1:li [y] [x]:=.cons ry .nil;have dX:([x]++([]:List al)).length=ps.length:=by have:=F.len _ _ _ _ call;simpa using this
  have en:rn X.prog X.w X.K X.mg X.base X.A.in1.in1 X.stack s' H':=I'.OK.in1.in1;have bt:=hb s' [x] I'.nN dX;rw[A5]at bt;refine wpAny_call (codeAny_mono (F.run X.A.in1.in1 X.stack s' H' ⟨[x],[]⟩ [x] [y] _ E0 room en bt r1 call) λ r s2 hq=>?_);cases r with
  |error e=>exact hq
  |ok fl=>
   cases fl with
   |ret u=>
    obtain⟨kv,H2,I2,ru,Xx⟩:=I'.after hq;have pk:=I2.pin _ (j2 _ (l9 ..));refine⟨pk.1,λ h' c Xg sb=>⟨ar++[kv],H2,?_,rk.append (.cons ru .nil),Xx,?_⟩⟩
    ·have I3:io X ((s.heap.objs.size+1,seqObj "list" #[] e1)::ce) σ H2 s2:=I2.cE λ p hp=>I2.pin p (j2 _ (.tail _ hp));have pd:=I2.pin _ (j2 _ (List.Mem.tail _ (l9 ..)));have fk:gp X ((s.heap.objs.size+1,seqObj "list" #[] e1)::ce) H2 (s.heap.objs.size+3):=⟨pk.2.1,f3.2.1,f3.2.2.1,f3.2.2.2.1,f3.2.2.2.2.1,λ p hp=>by
      rcases B5.mp hp with z|z
      ·exact f3.2.2.2.2.2 p (k5 _ z)
      ·rcases C7.mp z with rfl|z
       ·exact fg
       ·exact f3.2.2.2.2.2 p (j2 _ z)⟩
     have I4:io X ((s.heap.objs.size+1,seqObj "list" #[] e1)::ce) σ H2 {s2 with heap:=h'}:=il (t':=s2.toks) (ch:=[s.heap.objs.size+3]) I3 (λ b o hb e=>(sb.2 b (λ z=>hb (by simp[z]))).trans e) λ b z_=>by
      have:b=s.heap.objs.size+3:=by simpa using z_
      subst this;exact fk
     refine I4.cE λ p hp=>?_;rcases C7.mp hp with rfl|z
     ·exact⟨Xg,pk.2.1,f3.2.1,f3.2.2.1,λ v z=>by cases z⟩
     ·exact I4.pin p (j2 _ z)
    ·have:=(c5.mp hx).1;rw[n9,j4];lia
   |next=>exact hq.elim
   |brk=>exact hq.elim
   |cont=>exact hq.elim
 ·have I5:io X ce σ H {s with heap:=g}:=I.kept (t':=s.toks) gk;have hn:∀b,s.heap.objs.size<=b->H b=none:=λ b hb=>I.bP.fresh hb;refine⟨[],H,I5.cE λ p hp=>?_,.nil,h0,G5 _⟩;rcases C7.mp hp with rfl|z
  ·exact⟨gK,hn _ (),f3.2.1,f3.2.2.1,λ v z=>by cases z⟩
  ·rcases C7.mp z with rfl|z
   ·exact⟨gD,hn _ (),f1.2.1,f1.2.2.1,λ v z=>by cases z⟩
   ·exact I5.pin p (j2 _ z)
 ·rintro ks e s' ⟨ar,H',I',rk,hR,_⟩ rC;have lk:=rk.length;obtain⟨qF,hQ⟩:=hk ar H' hR ();have pk:=I'.pin _ (j2 _ (l9 ..));have pd:=I'.pin _ (j2 _ (List.Mem.tail _ (l9 ..)));have U2:X.A.in1.in1.units+1<cLine:=by have:=room.units;lia
  refine Dw (κ:=tuples' true) (xZ key) rC () pk.1 pd.1 fg (λ h2 C hC=>?_) (λ h2 i j C hi hj hC=>?_) λ out h' c ho hD D_=>⟨rfl,?_⟩
  ·obtain⟨fs,t1,t2,t3⟩:=mJ I' rk qF;refine kat_kind (T:=.type "int") t1 () (λ v hv=>?_) rfl hC;obtain⟨i,t,rfl⟩:=t3 v hv;exact(show Looks _ s'.heap (pure (Value.type "int")) _ from .now)
  ·have gi:∀i,i<av.length->∃k u,ar[i]?=some k/\ks.getD i Value.none=u/\lc k u:=λ i hi=>by
    have K_:i<ar.length:=()
    obtain⟨u,e,r⟩:=rk.get (c8 K_);exact⟨_,u,c8 K_,by rw[b8,e];rfl,r⟩
   obtain⟨k1,u1,a1,a2,a3⟩:=gi i hi;obtain⟨k2,u2,b1,b2,b3⟩:=gi j hj;rw[a2,b2];exact Dx I' U2 (qF i k1 a1) (qF j k2 b1) a3 b3 hC
  ·obtain⟨p,p1,p2,p3⟩:=ho;subst p3;have I6:io X ce σ H' s':=I'.cE λ p hp=>I'.pin p (j2 _ (.tail _ (.tail _ hp)));have I7:io X ce σ H' {s' with heap:=h'}:=il (t':=s'.toks) (ch:=[s.heap.objs.size+1,s.heap.objs.size+3]) I6 (λ b o hb e=>D_ b o (λ z=>hb (by simp[z])) (λ z=>hb (by simp[z])) e) λ b z_=>by
    simp at z_;rcases z_ with rfl|rfl
    ·exact⟨pd.2.1,f1.2⟩
    ·exact⟨pk.2.1,f3.2⟩
   have VV:li (p.toList.map λ i=>ys.getD i V.bh) (p.toList.map λ i=>av.getD i Value.none):=rJ rv _;have S8:(p.toList.map λ i=>ys.getD i V.bh).length<=sizeLine:=by rw[B4,l6,p1.size,G4];lia
   refine⟨.ref (s.heap.objs.size+1),_,io.oq (D:=s.heap.objs.size+1) (o:=.lst (p.toList.map λ i=>ys.getD i V.bh)) I7 pd.2.1 (show _/\∃(av:List al)(n:Nat),li _ av/\_ from⟨S8,_,c,VV,hD⟩) f1.2.1 (D7 I.sz ()) f1.2.2.2.2.1 f1.2.2.2.2.2,rfl,hQ _ _ pd.2.1 ⟨p,by rw[hlen];exact p1,by rw[hlen];exact p2,rfl⟩⟩
end
end L2
namespace L5
def GJ:fillsNumberSlot (.type "tuple") "mul"=pure false:=fillsNumberSlot_seq (id:="tuple.__mul__") (r:=some (.builtin "tuple.__rmul__")) F.slot_tuple_mul.lookup (by decide+kernel) F.slot_tuple_rmul.lookup (by decide+kernel)
def LI:seqRepeat? (.type "tuple")=pure (some (.builtin "tuple.__mul__")):=by unfold seqRepeat?;rw[seqSlot_of (T:="tuple") (name:="__mul__") (id:="tuple.__mul__") F.slot_tuple_mul.lookup (by decide+kernel),seqSlot_of (T:="tuple") (name:="__rmul__") (id:="tuple.__rmul__") F.slot_tuple_rmul.lookup (by decide+kernel)];rfl
def LK(a:Int)(t:Tok)(l:be)(av:Array al)(n:Nat)(dd:Option be)(sl:Array (Option al)):Meets (Builtin.«int.__rmul__» ⟨[.int a t,.ref l],[]⟩) (λ _ R s=>s.heap.get? l=some {cls:=.type "tuple",dict:=dd,data:=.seq av n,slots:=sl}/\R (.ok (.ret Value.notImplemented)) s):=
 .of_wp λ prog w A R s h=>by
  obtain⟨hp,g,d,tk,os⟩:=s;obtain⟨hl,h⟩:=h
  wp_walk
  exact⟨_,rfl,h⟩
def LJ(l:be)(av:Array al)(n:Nat)(dd:Option be)(sl:Array (Option al))(u:Tok):Meets (Builtin.«tuple.__mul__» ⟨[.ref l,.int 1 u],[]⟩) (λ _ R s=>s.heap.get? l=some {cls:=.type "tuple",dict:=dd,data:=.seq av n,slots:=sl}/\R (.ok (.ret (.ref l))) s):=
 .of_wp λ prog w A R s h=>by
  obtain⟨hp,g,d,tk,os⟩:=s;obtain⟨hl,h⟩:=h
  wp_walk
  exact⟨_,rfl,h⟩
def GI(l:be)(av:Array al)(n:Nat)(dd:Option be)(sl:Array (Option al))(x:Int)(u:Tok)(hx:x≠1)(h1: -(2^63)<=x)(h2:x<2^63)(hi:av.isEmpty=false)(hz:av.size*x.toNat<=sizeLine):
  Meets (Builtin.«tuple.__mul__» ⟨[.ref l,.int x u],[]⟩) (λ _ R s=>s.heap.get? l=some {cls:=.type "tuple",dict:=dd,data:=.seq av n,slots:=sl}/\
   R (.ok (.ret (.ref s.heap.objs.size))) {s with heap:=s.heap.push {cls:=.type "tuple",data:=.seq ((List.replicate x.toNat av).foldl (·++·) #[])}}):=
 .of_wp λ prog w A R s h=>by
  obtain⟨hp,g,d,tk,os⟩:=s;obtain⟨hl,h⟩:=h
  wp_walk
  rw[J7 (by simp;lia)]
  wp_walk
  by_cases hx0:x<=0
  ·rw[J6 (by simp[hx0])]
   wp_walk
   have e:x.toNat=0:=()
   rw[e]at h;exact⟨_,rfl,h⟩
  ·rw[J7 (by simp[hi];lia)];have ez:((av.size:Int)*x)=((av.size*x.toNat:Nat):Int):=by rw[Int.natCast_mul,Int.toNat_of_nonneg ()]
   have S8:=hz;rw[G4]at S8;rw[J7 (by rw[ez];lia)]
   wp_walk
   rw[J7 (by unfold Builtin.Tuple.tupleTooMany;rw[ez,w9,G4];lia)];have hsz:(List.foldl (λ x1 x2=>x1++x2) #[] (List.replicate x.toNat av)).size<=sizeLine:=by
    have f0:∀(m:Nat)(dL:Array al),(List.foldl (λ x1 x2=>x1++x2) dL (List.replicate m av)).size=dL.size+m*av.size:=by
     intro m
     induction m with
     |zero=>intro dL;simp
     |succ m ih=>intro dL;rw[l4,foldl_cons,ih,Array.size_append,Nat.succ_mul];lia
    rw[f0,Nat.mul_comm];simpa using hz
   wp_walk
   exact⟨_,rfl,h⟩
end L5
namespace L2
open PySem.Spec PyProof.Rows L5
theorem wZ(ns:List Int):∀n,n<=ns.length->preSum (λ i=>ns.getD i 0) n=(ns.take n).sum
 |0,_=>by simp[preSum]
 |n+1,h=>by
  have hn:n<ns.length:=()
  rw[preSum,wZ ns n (),take_succ_eq_append_getElem hn,sum_append];simp[b8,hn]
def nT(hc:X.calm=true):cI X (.builtin "sum") (λ xs H Q=>∃(b:Bool)(p:be)(ns:List Int),xs=[.ref p]/\Sq b X.K H p (ns.map V.int)/\Q (.int ns.sum) H):=by
 intro ce s σ H xs us Q I r h;obtain⟨b,p,ns,rfl,hq,q⟩:=h;obtain⟨u,rfl,r1⟩:=vals1 r;cases r1;obtain⟨av,rv,pl⟩:=eE I hq;have hi:IntsAre av ns:=intsAre_of rv;have hlen:av.length=ns.length:=by rw[<- rv.length,B4]
 have hA:X.A.in1.handled=none:=I.ok.hd hc;have hv:∀i v,av.toArray[i]?=some v->∃t,v=Value.int (ns.getD i 0) t:=λ i v e=>by
  have e:av[i]?=some v:=by simpa using e
  have h1:i<ns.length:=by rw[<- hlen];exact(c5.mp e).1
  obtain⟨t,e2⟩:=ia hi h1;rw[e]at e2;cases e2;exact⟨t,by simp[b8,h1]⟩
 have ht:preSum (λ i=>ns.getD i 0) av.toArray.size=ns.sum:=by rw[y6,hlen,wZ ns _ (G3 _),z9]
 cases b with
 |false=>
  have pl:s.heap.IsList p av.toArray:=pl;have fg:p≠s.heap.objs.size:=by obtain⟨o,e,_⟩:=pl;exact D3 (D4 e)
  refine call_sum_walkG (y2 pl ⟨s.heap.objs.size,_,_,_,_,_,λ i=>ns.getD i 0,rfl,Walks.list hA s.heap.objs.size p fg av.toArray,⟨⟨_,l7 _ rfl,rfl,rfl⟩,pl.at λ o e=>i7 _ e⟩,?_,hv,λ h' tk t' hk=>?_⟩)
  ·intro b hb;have:s.heap.objs.size<(s.heap.push {cls:=.type "list_iterator",data:=.fields #[.ref p,.int 0 0]}).objs.size:=by rw[C1];lia
   obtain⟨o,e,_⟩:=pl;have h2:=D4 e;simp at hb;rcases hb with rfl|rfl
   ·exact this
   ·exact Nat.lt_trans h2 this
  ·rw[ht];exact⟨.int ns.sum,H,I.kept (t':=tk) λ b o e=>hk b o (by simpa using D3 (D4 e)) (i7 _ e),⟨_,rfl⟩,q⟩
 |true=>
  have pl:s.heap.IsTuple p av.toArray:=pl;have fg:p≠s.heap.objs.size:=by obtain⟨o,e,_⟩:=pl;exact D3 (D4 e)
  refine call_sum_walkG (wpAny_pyIter_tuple pl ⟨s.heap.objs.size,_,_,_,_,_,λ i=>ns.getD i 0,rfl,Walks.tuple hA s.heap.objs.size p fg av.toArray,⟨⟨_,l7 _ rfl,rfl,rfl⟩,sG.keep pl λ o e=>i7 _ e⟩,?_,hv,λ h' tk t' hk=>?_⟩)
  ·intro b hb;have:s.heap.objs.size<(s.heap.push {cls:=.type "tuple_iterator",data:=.fields #[.ref p,.int 0 0]}).objs.size:=by rw[C1];lia
   obtain⟨o,e,_⟩:=pl;have h2:=D4 e;simp at hb;rcases hb with rfl|rfl
   ·exact this
   ·exact Nat.lt_trans h2 this
  ·rw[ht];exact⟨.int ns.sum,H,I.kept (t':=tk) λ b o e=>hk b o (by simpa using D3 (D4 e)) (i7 _ e),⟨_,rfl⟩,q⟩
def Ip:eN X (binaryOp .Mult) (λ x y H Q=>∃l k xs,x=.ref l/\y=.int k/\fj X.K H l xs/\xs≠[]/\-(2^63)<=k/\k<2^63/\xs.length*k.toNat<=sizeLine/\(k=1->Q (.ref l) H)/\(k≠1->∀p,H p=none->Q (.ref p) (lm H p (.tup (List.replicate k.toNat xs).flatten)))):=by
 intro ce s σ H x y v u Q I rx ry h;obtain⟨l,k,xs,rfl,rfl,hH,fg,h1,h2,hz,q1,q2⟩:=h;cases rx;obtain⟨t,rfl⟩:=ry;obtain⟨av,r,⟨⟨c,dd,da,sl⟩,e,hc,n,hd⟩,_⟩:=I.tuple hH;have hl:=r.length;cases(show c=.type "tuple" from hc);cases(show da=.seq av.toArray n from hd);refine wpAny_binaryOp_repeat_ref (T:="tuple") (U:="int") (by decide) ⟨_,e,rfl⟩ (λ s'=>typeIs_int s' k t) GJ F.fills_int_mul F.slot_int_rmul LI F.slot_int_index.lookup
  (H9 F.slot_int_rmul (typeIs_int s k t) F.entry_int_rmul (F.args_int_rmul_2 _ _) (LK k t l av.toArray n dd sl) ⟨e,rfl,⟨_,e,rfl⟩,?_⟩)
 by_cases hk:k=1
 ·subst hk;exact H9 F.slot_tuple_mul ⟨_,e,rfl⟩ F.entry_tuple_mul (F.args_tuple_mul_2 _ _) (LJ l av.toArray n dd sl t) ⟨e,.ref l,H,I,rfl,q1 rfl⟩
 ·refine H9 F.slot_tuple_mul ⟨_,e,rfl⟩ F.entry_tuple_mul (F.args_tuple_mul_2 _ _) (GI l av.toArray n dd sl k t hk h1 h2 ?_ (by rw[y6,<- hl];exact hz)) ⟨e,?_⟩
  ·cases av with
   |nil=>cases r;exact bi rfl fg
   |cons a b=>rfl
  ·have Oo:List.foldl (λ x1 x2=>x1++x2) #[] (List.replicate k.toNat av.toArray)=(List.replicate k.toNat av).flatten.toArray:=by have:=foldl_rep av k.toNat [];rw[nil_append]at this;exact this
   rw[Oo];have fr:=I.fresh;refine⟨.ref s.heap.objs.size,_,I.laid (t':=s.toks) (o:=.tup (List.replicate k.toNat xs).flatten) (λ b o e=>i7 _ e) (G3 _) ⟨?_,_,r.rep k.toNat,⟨_,l7 _ rfl,rfl,_,rfl⟩⟩,rfl,q2 hk _ fr⟩;rw[len_rep,Nat.mul_comm];exact hz
end L2
namespace L3
open PySem.Spec L2 L5 PyProof.Rows
mutual
def toP:D->PyData
 | .bh=>.none
 | .bl b=>.bool b
 | .int i=>.int i
 | .str x=>.str x
 | .ty _=>.none
 | .ref _=>.none
 | .tup ds=>.tuple (toPs ds)
 | .fl ds=>.list (toPs ds)
def toPs:List D->List PyData
 |[]=>[]
 |d::ds=>toP d::toPs ds
end
mutual
def nr:D->Bool
 | .bh=>true
 | .bl _=>true
 | .int _=>true
 | .str _=>true
 | .ty _=>false
 | .ref _=>false
 | .tup ds=>vv ds
 | .fl ds=>vv ds
def vv:List D->Bool
 |[]=>true
 |d::ds=>nr d&&vv ds
end
section
variable {σ:L2.St}
mutual
theorem VZ(I:io X ce σ H s):∀(d:D){x:V}{u:al},nr d=true->kt X.K H d x->lc x u->∃as,Reads s.heap u (toP d) as
 | .bh,x,u,_,h,r=>by cases(dm.mp h);cases r;unfold toP;exact⟨_,Reads.none⟩
 | .bl b,x,u,_,h,r=>by cases(aL.mp h);cases r;unfold toP;exact⟨_,Reads.bool b⟩
 | .int i,x,u,_,h,r=>by cases(aw.mp h);obtain⟨t,rfl⟩:=r;unfold toP;exact⟨_,Reads.int i t⟩
 | .str z,x,u,_,h,r=>by cases(aJ.mp h);obtain⟨t,rfl⟩:=r;unfold toP;exact⟨_,Reads.str z t⟩
 | .ty _,x,u,n,h,r=>by unfold nr at n;cases n
 | .ref _,x,u,n,h,r=>by unfold nr at n;cases n
 | .tup ds,x,u,n,h,r=>by unfold nr at n;obtain⟨p,xs,rfl,hq,hd⟩:=aP.mp h;cases(show u=Value.ref p from r);obtain⟨av,rv,⟨o,ho,hc,m,tj⟩,_⟩:=I.tuple hq;obtain⟨as,ra⟩:=zq I ds n hd rv;unfold toP;exact⟨_,reads_tuple_at ho hc tj ra⟩
 | .fl ds,x,u,n,h,r=>by unfold nr at n;obtain⟨p,xs,rfl,hq,hd⟩:=iJ.mp h;cases(show u=Value.ref p from r);obtain⟨av,rv,pl,_⟩:=I.list hq.sq;obtain⟨o,ho,hc,m,tj⟩:=pl.isList;obtain⟨as,ra⟩:=zq I ds n hd rv;unfold toP;exact⟨_,reads_list_at ho hc tj ra⟩
theorem zq(I:io X ce σ H s):∀(ds:List D){xs:List V}{us:List al},vv ds=true->aE X.K H ds xs->li xs us->∃as,ReadsAll s.heap us (toPs ds) as
 |[],xs,us,_,h,r=>by cases(au.mp h);cases r;unfold toPs;exact⟨_,ReadsAll.nil⟩
 |d::ds,xs,us,n,h,r=>by
  unfold vv at n;rw[A2]at n;obtain⟨x,Vx,rfl,h1,h2⟩:=af.mp h;cases r with
  |cons r1 r2=>obtain⟨as,a⟩:=VZ I d n.1 h1 r1;obtain⟨bs,b⟩:=zq I ds n.2 h2 r2;unfold toPs;exact⟨_,ReadsAll.cons a b⟩
end
end
def PV(K:J8)(H:Hp)(x:V)(a:PyData):Prop:=(∃d,nr d=true/\kt K H d x/\toP d=a)\/∃p ds xs,x=.ref p/\dv K H p xs/\aE K H ds xs/\vv ds=true/\a=.list (toPs ds)
def rZ(M:Mem)(d:D):Option PyData:=match d with
 | .ref a=>match M a with
  |some (.lst ds)=>if vv ds=true then some (.list (toPs ds))else none
  |_=>none
 |d=>if nr d=true then some (toP d)else none
def lC{x:V}{a:PyData}(e:rZ M d=some a)(h:kt K H d x)(hm:lf K H M):PV K H x a:=by
 cases d with
 |ref p=>
  cases(aH.mp h);unfold rZ at e;cases q:M p with
  |none=>simp[q]at e
  |some o=>
   cases o with
   |du b ar=>simp[q]at e
   |zw x=>simp[q]at e
   |lst ds=>
    simp only[q]at e;by_cases n:vv ds=true
    ·rw[J6 n]at e;cases e;obtain⟨xs,hx,hd⟩:=hm p _ q;exact .inr ⟨p,ds,xs,rfl,dv.of hx,hd,n,rfl⟩
    ·rw[J7 n]at e;cases e
 |bh=>exact .inl ⟨_,rfl,h,by simpa[rZ,nr]using e⟩
 |bl _=>exact .inl ⟨_,rfl,h,by simpa[rZ,nr]using e⟩
 |int _=>exact .inl ⟨_,rfl,h,by simpa[rZ,nr]using e⟩
 |str _=>exact .inl ⟨_,rfl,h,by simpa[rZ,nr]using e⟩
 |ty _=>simp[rZ,nr]at e
 |tup ds=>
  by_cases n:vv ds=true
  ·exact .inl ⟨.tup ds,by unfold nr;exact n,h,by simpa[rZ,nr,n]using e⟩
  ·simp[rZ,nr,n]at e
 |fl ds=>
  by_cases n:vv ds=true
  ·exact .inl ⟨.fl ds,by unfold nr;exact n,h,by simpa[rZ,nr,n]using e⟩
  ·simp[rZ,nr,n]at e
def hU{σ:L2.St}(I:io X ce σ H s){x:V}{a:PyData}(h:PV X.K H x a)(r:lc x u):∃as,Reads s.heap u a as:=by
 rcases h with⟨d,n,hd,rfl⟩|⟨p,ds,xs,rfl,hq,hd,n,rfl⟩
 ·exact VZ I d n hd r
 ·cases(show u=Value.ref p from r);obtain⟨av,rv,pl,_⟩:=I.list hq;obtain⟨o,ho,hc,m,tj⟩:=pl.isList;obtain⟨as,ra⟩:=zq I ds n hd rv;exact⟨_,reads_list_at ho hc tj ra⟩
def XO(neg:Bool):fq:=λ x y M Q=>∃a b,rZ M x=some a/\rZ M y=some b/\SeqAt.shaped a=true/\SeqAt.shaped b=true/\Q (.bl (if neg then !PyData.eqv a b else PyData.eqv a b)) M
def Nn(hu:gj X):eN X (compareOp .Eq) (λ x y H Q=>∃a b,PV X.K H x a/\PV X.K H y b/\SeqAt.shaped a=true/\SeqAt.shaped b=true/\Q (.bl (PyData.eqv a b)) H):=by intro ce s σ H x y v u Q I rx ry h;obtain⟨a,b,ha,hb,sa,sb,q⟩:=h;obtain⟨as,ra⟩:=hU I ha rx;obtain⟨bs,rb⟩:=hU I hb ry;exact eq_dataH ra rb sa sb hu ⟨.bl (PyData.eqv a b),H,I,rfl,q⟩
def Ng(hu:gj X):eN X (compareOp .NotEq) (λ x y H Q=>∃a b,PV X.K H x a/\PV X.K H y b/\SeqAt.shaped a=true/\SeqAt.shaped b=true/\Q (.bl (!PyData.eqv a b)) H):=by intro ce s σ H x y v u Q I rx ry h;obtain⟨a,b,ha,hb,sa,sb,q⟩:=h;obtain⟨as,ra⟩:=hU I ha rx;obtain⟨bs,rb⟩:=hU I hb ry;exact ne_dataH ra rb sa sb hu ⟨.bl (!PyData.eqv a b),H,I,rfl,q⟩
theorem fm.or{f:al->al->Sem al}{r r':fq}(h:fm X f r)(h':fm X f r'):fm X f (λ x y M Q=>r x y M Q\/r' x y M Q):=by
 obtain⟨a,h1,h2⟩:=h;obtain⟨b,g1,g2⟩:=h';refine⟨_,h1.or g1,λ x y d e H M Q2 Q hd he hm q k=>?_⟩;rcases q with q|q
 ·exact .inl (h2 x y d e H M Q2 Q hd he hm q k)
 ·exact .inr (g2 x y d e H M Q2 Q hd he hm q k)
def nR(neg:Bool):fq:=λ x y M Q=>Lq neg x y M Q\/XO neg x y M Q
def bU(hu:gj X):fm X (compareOp .Eq) (nR false):=Wa.or ⟨_,Nn hu,λ x y d e H M Q2 Q hd he hm q k=>by
 obtain⟨a,b,ha,hb,sa,sb,q⟩:=q;exact⟨a,b,lC ha hd hm,lC hb he hm,sa,sb,k _ H _ M (aL.mpr rfl) hm (ay.refl H) q⟩⟩
def oA(hu:gj X):fm X (compareOp .NotEq) (nR true):=V9.or ⟨_,Ng hu,λ x y d e H M Q2 Q hd he hm q k=>by
 obtain⟨a,b,ha,hb,sa,sb,q⟩:=q;exact⟨a,b,lC ha hd hm,lC hb he hm,sa,sb,k _ H _ M (aL.mpr rfl) hm (ay.refl H) q⟩⟩
def yB:D->List D->Mem->bI->Prop:=λ x vs M Q=>∃p ds y,x=.ref p/\vs=[y]/\M p=some (.lst ds)/\ds.length<sizeLine/\Q .bh (ak M p (.lst (ds++[y])))
def bB:Pa X "list.append" yB:=⟨xw,zK,λ x xs d ds H M Q2 Q hx hd hm q k=>by
 obtain⟨p,es,y,rfl,rfl,hM,hz,q⟩:=q;cases(aH.mp hx);obtain⟨v,r,rfl,hv,hr⟩:=af.mp hd;cases(au.mp hr);obtain⟨zs,h1,h2⟩:=hm p _ hM;have t:=ay.lst (o:=.lst (zs++[v])) h1;refine⟨p,zs,v,rfl,rfl,h1,by rw[h2.length];exact hz,k _ _ .bh _ (dm.mpr rfl) (hm.put (u:=.lst (es++[y])) t ⟨_,bL,?_⟩) t q⟩;exact(aE.mono t es h2).append (aE.one (kt.mono t y hv))⟩
theorem cY:∀{ns:List Int} {xs:List V},aE K H (ns.map D.int) xs->xs=ns.map V.int
 |[],xs,h=>by rw[map_nil,au]at h;exact h
 |b::bs,xs,h=>by rw[C6,af]at h;obtain⟨x,r,rfl,a,q⟩:=h;rw[aw]at a;rw[a,cY q];rfl
def OQ:List D->Mem->bI->Prop:=λ xs M Q=>∃(x:D)(ds:List D)(ns:List Int),xs=[x]/\cK M x=some ds/\ds=ns.map D.int/\Q (.int ns.sum) M
def yH(hc:X.calm=true):de X (.builtin "sum") OQ:=⟨_,nT hc,λ xs ds H M Q2 Q hd hm q k=>by
 obtain⟨x,es,ns,rfl,e,rfl,q⟩:=q;obtain⟨v,r,rfl,hv,hr⟩:=af.mp hd;cases(au.mp hr);obtain⟨p,ys,rfl,h,hy⟩:=gM e hv hm;rw[cY hy]at h;rcases h with h|h
 ·exact⟨false,p,ns,rfl,h,k _ H _ M (aw.mpr rfl) hm (ay.refl H) q⟩
 ·exact⟨true,p,ns,rfl,h,k _ H _ M (aw.mpr rfl) hm (ay.refl H) q⟩⟩
def T5:List D->Mem->bI->Prop:=λ xs M Q=>∃i j,xs=[.int i,.int j]/\Q (.int (if j<i then j else i)) M
def Um(hc:X.calm=true):de X (.builtin "min") T5:=⟨_,Ap hc,λ xs ds H M Q2 Q hd hm q k=>by
 obtain⟨i,j,rfl,q⟩:=q;obtain⟨v,r,rfl,hv,hr⟩:=af.mp hd;obtain⟨v2,r2,rfl,hv2,Jr⟩:=af.mp hr;cases(au.mp Jr);cases(aw.mp hv);cases(aw.mp hv2);exact⟨i,j,rfl,k _ H _ M (aw.mpr rfl) hm (ay.refl H) q⟩⟩
def T4:fq:=λ x y M Q=>∃ds k,x=.tup ds/\y=.int k/\ds≠[]/\-(2^63)<=k/\k<2^63/\ds.length*k.toNat<=sizeLine/\Q (.tup (List.replicate k.toNat ds).flatten) M
theorem nj(h:aE K H ds xs):∀k:Nat,aE K H (List.replicate k ds).flatten (List.replicate k xs).flatten
 |0=>by simp[au]
 |k+1=>by rw[l4,l4,x9,x9];exact h.append (nj h k)
def yz:fq:=λ x y M Q=>JP x y M Q\/T4 x y M Q
def NI:fm X (binaryOp .Mult) yz:=SA.or ⟨_,Ip,λ x y d e H M Q2 Q hd he hm q k=>by
 obtain⟨ds,n,rfl,rfl,fg,h1,h2,hz,q⟩:=q;obtain⟨p,xs,rfl,hq,hx⟩:=aP.mp hd;cases(aw.mp he);refine⟨p,n,xs,rfl,rfl,hq,λ z=>?_,h1,h2,by rw[hx.length];exact hz,λ e1=>?_,λ _ l hl=>?_⟩
 ·have:=hx.length;rw[z]at this;exact fg (i4.mp this.symm)
 ·subst e1;rw[show(1:Int).toNat=1 from rfl,show(List.replicate 1 ds).flatten=ds by simp]at q;exact k _ H _ M (aP.mpr ⟨p,xs,rfl,hq,hx⟩) hm (ay.refl H) q
 ·exact k _ _ (.tup _) M (fU hl (nj hx _)) (hm.laid hl) (ay.laid hl) q⟩
end L3
namespace L2
open PySem.Spec PyProof.Rows L5
section
variable {te:TE}{p fp kp:Pos}{f:Str}{sp:Sp}
def vf(K:J8)(sp:Sp)(x:V)(H:Hp)(Q:VK):Prop:=∃(l:be)(ys:List V)(b:Bool)(R:List V->Hp->Prop)(key:Nat->Ky),x=.ref l/\dv K H l ys/\ys.length<64/\R [] H/\
 (∀ar H v,R ar H->ys[ar.length]?=some v->sp [v] H (λ k H'=>R (ar++[k]) H') E0)/\
 ∀ar H,R ar H->ar.length=ys.length->(∀i k,ar[i]?=some k->gy K b H k (key i))/\∀p out,H p=none->Out (λ i j=>klt (key i) (key j)) ys V.bh out->Q (.ref p) (lm H p (.lst out))
def vk(d:iu X.prog X.w X.K X.mg X.base k f ps sp)(hr:cR (k+2) X.A)(hg:Gl X "sorted")(hm:X.mg "sorted"=none)(Ou:Gl X f)(he:PE X e te)(zY:nV f:=by decide)(hs:starEach [e] X.env=[(false,eval e X.env)]:=by rfl)(nO:backTo pos (starEach [e] X.env)=(false,eval e X.env)::backTo pos (starEach [] X.env):=by rfl)(iT:(backTo pos (starEach [e] X.env)).any (·.1)=false:=by rfl):PE X (.Call (.Name "sorted" p) [e] [⟨some "key",.Name f fp,kp⟩] pos) (λ σ H Q=>te σ H λ x H1=>vf X.K sp x H1 Q):=by
 intro ce s σ H Q I h;obtain⟨q,fd,G,W8,kp,bd⟩:=d.ex;refine r9 (eI I hg hm PyProof.Rows.boot_sorted ?_ (by decide) (by decide));refine PyProof.Rows.callWith_kw (cq ((gf he iF (by show _=_;rw[hs];rfl)) pos ce s σ H (λ vs H1=>match vs with|[x]=>vf X.K sp x H1 Q|_=>False) I h) λ us s1 ⟨vs,H1,I1,r1,q1⟩=>?_) nO iT;cases vs with
 |nil=>exact q1.elim
 |cons x vs=>
  cases vs with
  |cons _ _=>exact q1.elim
  |nil=>
  have q1:vf X.K sp x H1 Q:=q1;refine cq ((xC (xD (v:=.ref q) Ou W8 rfl zY) Cw) pos ce s1 σ H1 (λ vs H2=>vs=[.ref q]/\H2=H1) I1 ⟨rfl,rfl⟩) λ ws s2 ⟨zs,H2,I2,rz,e2,e3⟩=>?_;subst e2 e3;obtain⟨u,rfl,ru⟩:=vals1 r1;obtain⟨v,rfl,rv⟩:=vals1 rz;obtain⟨l,ys,b,R,key,rfl,hl,tq,h0,hc,hk⟩:=q1;cases(show u=Value.ref l from ru);cases(show v=Value.ref q from rv);exact qV G bd hr I2 hl tq R key h0 hc hk
end
end L2
namespace L3
open PySem.Spec L2 L5
def AA(b:Bool)(M:Mem)(k:D)(c:Ky):Prop:=match b with
 |true=>k=.tup [.int c.1,.tup (c.2.map D.int)]
 |false=>∃m,k=.tup [.int c.1,.ref m]/\M m=some (.lst (c.2.map D.int))
def AA.v9{k:D}{c:Ky}(h:AA b M k c)(r:kt K H k v)(hm:lf K H M):gy K b H v c:=by
 cases b with
 |true=>cases(show k=_ from h);obtain⟨p,xs,rfl,hq,hd⟩:=aP.mp r;obtain⟨x1,r1,rfl,h1,hd⟩:=af.mp hd;obtain⟨x2,r2,rfl,h2,hd⟩:=af.mp hd;cases(au.mp hd);cases(aw.mp h1);obtain⟨p2,ys,rfl,uI,hd2⟩:=aP.mp h2;rw[cY hd2]at uI;exact⟨p,p2,rfl,hq,uI⟩
 |false=>obtain⟨m,rfl,hM⟩:=h;obtain⟨p,xs,rfl,hq,hd⟩:=aP.mp r;obtain⟨x1,r1,rfl,h1,hd⟩:=af.mp hd;obtain⟨x2,r2,rfl,h2,hd⟩:=af.mp hd;cases(au.mp hd);cases(aw.mp h1);cases(aH.mp h2);obtain⟨ys,hy,hd2⟩:=hm m _ hM;rw[cY hd2]at hy;exact⟨p,m,rfl,hq,dv.of hy⟩
theorem jZ(h:aE K H ds xs):∀p:List Nat,aE K H (p.map λ i=>ds.getD i D.bh) (p.map λ i=>xs.getD i V.bh)
 |[]=>by simp[au]
 |i::p=>by
  rw[C6,C6,af];refine⟨_,_,rfl,?_,jZ h p⟩;cases e:ds[i]? with
  |none=>
   have e2:xs[i]?=none:=by have:=h.length;have:=c6.mp e;exact j7 ()
   rw[b8,b8,e,e2];exact dm.mpr rfl
  |some d=>obtain⟨x,e2,hx⟩:=h.get e;rw[b8,b8,e,e2];exact hx
def EJ(sp:cO)(d:D)(M:Mem)(Q:bI):Prop:=∃(l:be)(es:List D)(b:Bool)(R:List D->Mem->Prop)(key:Nat->Ky),d=.ref l/\M l=some (.lst es)/\es.length<64/\R [] M/\
 (∀dE M e,R dE M->es[dE.length]?=some e->sp [e] M (λ k M'=>R (dE++[k]) M'))/\
 ∀dE M,R dE M->dE.length=es.length->(∀i k,dE[i]?=some k->AA b M k (key i))/\∀p out,M p=none->Out (λ i j=>klt (key i) (key j)) es D.bh out->Q (.ref p) (ak M p (.lst out))
def BH(sp:cO)(te:bT):bT:=λ δ M Q=>te δ M λ d M1=>EJ sp d M1 Q
section
variable {p fp kp:Pos}{f:Str}
def yX(d:bb X.prog X.w X.K X.mg X.base k f ps sp)(hr:cR (k+2) X.A)(hg:Gl X "sorted")(hm:X.mg "sorted"=none)(Ou:Gl X f)(he:WE X e te)(zY:nV f:=by decide)(hs:starEach [e] X.env=[(false,eval e X.env)]:=by rfl)(nO:backTo pos (starEach [e] X.env)=(false,eval e X.env)::backTo pos (starEach [] X.env):=by rfl)(iT:(backTo pos (starEach [e] X.env)).any (·.1)=false:=by rfl):WE X (.Call (.Name "sorted" p) [e] [⟨some "key",.Name f fp,kp⟩] pos) (BH sp te):=by
 replace he:=he.h;refine⟨?_⟩;refine bN (vk d hr hg hm Ou he zY hs nO iT) ?_;rintro σ H Q ⟨δ,M,Q2,hs,hm,q,k⟩;refine⟨δ,M,_,hs,hm,q,λ x H1 d M1 hd bV t1 q1=>?_⟩;obtain⟨l,es,b,R,key,rfl,hM,tq,h0,hc,hk⟩:=q1;cases(aH.mp hd);obtain⟨ys,hy,nG⟩:=bV l _ hM;have hlen:=nG.length;refine⟨l,ys,b,λ ar H'=>∃dE M',aE X.K H' dE ar/\lf X.K H' M'/\ay H1 H'/\R dE M',key,rfl,dv.of hy,(),⟨[],M1,by rw[au],bV,ay.refl _,h0⟩,?_,?_⟩
 ·rintro ar H2 v ⟨dE,M2,h1,h2,t2,hR⟩ hv;have Jw:=h1.length;obtain⟨e,e1,e2⟩:=(aE.mono t2 es nG).mU hv;refine⟨[e],M2,_,aE.one e2,h2,hc dE M2 e hR (by rw[<- Jw];exact e1),λ w H3 d3 M3 rD sY t3 q3=>?_⟩;exact⟨dE++[d3],M3,(aE.mono t3 dE h1).append (aE.one rD),sY,t2.trans t3,q3⟩
 ·rintro ar H2 ⟨dE,M2,h1,h2,t2,hR⟩ hl;have Jw:=h1.length;obtain⟨a1,a2⟩:=hk dE M2 hR ();refine⟨λ i w hw=>?_,λ p out hp ho=>?_⟩
  ·obtain⟨d3,e3,rD⟩:=h1.mU hw;exact(a1 i d3 e3).v9 rD h2
  ·obtain⟨π,p1,p2,rfl⟩:=ho;rw[hlen]at p1 p2;refine k _ _ (.ref p) _ (aH.mpr rfl) (cS hp (jZ (aE.mono t2 es nG) π.toList) h2) (t1.trans (t2.trans (ay.laid hp))) (a2 p _ (h2.free hp) ⟨π,p1,p2,rfl⟩)
end
def Hi{Q:bI}(h:te δ M λ d M1=>EJ sp d M1 Q):BH sp te δ M Q:=h
end L3
namespace L4
open PySem.Spec L2 L3 L5
section
variable {p fp kp:Pos}{f:Str}
end
end L4
namespace L3
open PySem.Spec L2 L5
section
variable {Q:bI}
def HF{i:Int}(q:Q (.bl (decide (i=j))) M):nR false (.int i) (.int j) M Q:=.inl (Mx q)
def HG{i j:Bool}(q:Q (.bl (decide (i=j))) M):nR false (.bl i) (.bl j) M Q:=.inl (My q)
def HE{i j:Str}(q:Q (.bl (decide (i=j))) M):nR false (.str i) (.str j) M Q:=.inl (Mw q)
def Ho{i:Int}(q:Q (.bl (!decide (i=j))) M):nR true (.int i) (.int j) M Q:=.inl (Mk q)
def Hq{i j:Bool}(q:Q (.bl (!decide (i=j))) M):nR true (.bl i) (.bl j) M Q:=.inl (Ml q)
def BU{i:Int}(h:rp i j)(q:Q (.int (i*j)) M):yz (.int i) (.int j) M Q:=.inl (Ht h q)
def BS{i:Str}(h:MulOk i j)(q:Q (.str (Txt.mul i j)) M):yz (.str i) (.int j) M Q:=.inl (Hs h q)
def Mn{i:Int}(q:Q (.int (if j<i then j else i)) M):T5 [.int i,.int j] M Q:=⟨i,j,rfl,q⟩
def pQ(q:Q (.int ns.sum) M):OQ [.tup (ns.map D.int)] M Q:=⟨_,_,ns,rfl,rfl,rfl,q⟩
def cx{y:D}(h:M p=some (.lst ds))(hz:ds.length<sizeLine)(q:Q .bh (ak M p (.lst (ds++[y])))):yB (.ref p) [y] M Q:=⟨p,ds,y,rfl,rfl,h,hz,q⟩
abbrev row(ns:List Int):D:=.tup (ns.map D.int)
def Hd{j:Nat}{a b:D}(h:N ((δ.set i (some a)).set j (some b)) M):qH 2 (cQ (im i) (cQ (im j) qI)) (.tup [a,b]) δ M N:=⟨rfl,h⟩
def BZ{A B:Prop}(h:B):if(!true)=true then A else B:=by rw[Bool.not_true,J7 n0];exact h
def B_{A B:Prop}(h:A):if(!false)=true then A else B:=by rw[Bool.not_false,J6 rfl];exact h
def BP{c:eB}{tb:iq}{E:ir}{δ:cH}(h:∃W:Nat->cH->Mem->Prop,(∃m,W m δ M)/\∀m δ M,W m δ M->c δ M λ b M1=>
  if b=true then ∃N:cH->Mem->Prop,(∀δ' M',N δ' M'->∃m',m'<m/\W m' δ' M')/\tb {E with nx:=N,ct:=N,bk:=E.nx} δ M1 else E.nx δ M1):BG c tb E δ M:=h
def eX{δc:cH}(Pv:Nat->List D->Mem->Prop)(h0:Pv 0 [] M1)(hl:∀i dL M,i<=ds.length->Pv i dL M->M a=some (.lst ds))(hz:∀i dL M,i<=ds.length->Pv i dL M->dL.length<=sizeLine)(hs:∀i d dL M,ds[i]?=some d->Pv i dL M->g d δc M λ δ2 M2=>tt δ2 M2 λ b M3=>if b=true then te δ2 M3 λ y M4=>Pv (i+1) (dL++[y]) M4 else Pv (i+1) dL M3)(hd:∀dL M,Pv ds.length dL M->Qe dL M):∃(B:Nat)(W:Nat->List D->Mem->Prop),W 0 [] M1/\∀i dL M,W i dL M->i<=B/\dL.length<=sizeLine/\match ii (.at a) M with
   |none=>False
   |some ds=>match ds[i]? with
    |none=>i=ds.length/\Qe dL M
    |some d=>g d δc M λ δ2 M2=>tt δ2 M2 λ b M3=>if b=true then te δ2 M3 λ y M4=>W (i+1) (dL++[y]) M4 else W (i+1) dL M3:=by
 refine⟨ds.length,λ i dL M=>if i<=ds.length then Pv i dL M else False,by dsimp only;rw[J6 (G5 _)];exact h0,?_⟩;intro i dL M w;by_cases hi:i<=ds.length
 ·rw[J6 hi]at w;refine⟨hi,hz i dL M hi w,?_⟩;have e0:ii (.at a) M=some ds:=by show(match M a with|some (.lst ds)=>some ds|_=>none)=some ds;rw[hl i dL M hi w]
  rw[e0];show(match ds[i]? with
    |none=>i=ds.length/\Qe dL M
    |some d=>g d δc M λ δ2 M2=>tt δ2 M2 λ b M3=>if b=true then te δ2 M3 λ y M4=>(if i+1<=ds.length then Pv (i+1) (dL++[y]) M4 else False)else(if i+1<=ds.length then Pv (i+1) dL M3 else False))
  cases e:ds[i]? with
  |none=>have:i=ds.length:=B7 hi (c6.mp e);subst this;exact⟨rfl,hd dL M w⟩
  |some d=>have fR:i+1<=ds.length:=(c5.mp e).1;simp only[J6 fR];exact hs i d dL M e w
 ·rw[J7 hi]at w;exact w.elim
end
end L3
namespace L5
def qk:typeLookup (.type "list") "keys"=pure none:=by rw[typeLookup_type,builtinLookup_eq_fast];kernel_rfl
def xN{xs:Array al}{Q:Option al->am->Prop}(hx:s.heap.get? a=some {cls:=.type "list",dict:=none,data:=.seq xs k,slots:=sl})(hA:A.handled=none)(h:∀h' tk,(∀b o,s.heap.get? b=some o->h'.get? b=some o)->Q none {s with heap:=h',toks:=tk}):wpAny (model prog w) A (getAttr? (.ref a) "keys") Q E s:=by
 obtain⟨hp,g,d,tk,os⟩:=s;have ty:∀Fu,(⟨hp,g,d,Fu,os⟩:am).TypeIs (.ref a) "list":=λ _=>⟨_,hx,rfl⟩;have f1:=sub_AttributeError;have f3:=F.slot_list_getattribute.lookup;have f4:=F.slot_list_getattribute.bind (.ref a);have f5:=am_list_getattr_none;unfold getAttr? getAttrBy? getAttrBy
 repeat(any_goals (first|assumption|exact ty _|((with_reducible show wpAny _ _ (call (Value.builtin "list.__getattribute__") _ _) _ _ _);refine H9 F.slot_list_getattribute (ty _) am_entry_list_getattribute (F.args_list_getattribute_2 _ _) (meets_getattribute_miss_list a xs k sl _ _ qk (by decide+kernel) (by decide+kernel)) ⟨hx,hA,λ h' Fu e Py=>?_⟩)|wp_step))
 obtain⟨t',u',he⟩:=Py.there;show wpAny _ _ (getattributeRaised _ _ _ _ _ _ _) _ _ _;unfold getattributeRaised
 repeat(any_goals (first|assumption|wp_step))
 exact h _ _ Py.keeps
def jv:entryFor table "dict.update.loop"=some Builtin.«dict.update.loop»:=entryFor_of_tree (by kernel_rfl)
def eU:plainId "dict.update.loop"=true:=by decide+kernel
section
variable {R:Result->am->Prop}
abbrev TK(prog:Program)(w:World):HeapKind prog w (List L2.Key):=tupleKind (L2.bE prog w)
abbrev Ent:=List L2.Key×be×al
def uS{h:Heap}{k:List L2.Key}(x:(TK prog w).is h k a):∃o,h.get? a=some o/\o.cls=.type "tuple":=let⟨o,av,n,h1,h2,h3,h4⟩:=x;⟨o,h1,h2⟩
def pI{h:Heap}{k:List L2.Key}(x:(TK prog w).is h k a)(q:∀o,h.get? a=some o->h'.get? a=some o):(TK prog w).is h' k a:=let⟨o,av,n,h1,h2,h3,h4⟩:=x;⟨o,av,n,q o h1,h2,h3,h4⟩
structure km(prog:Program)(w:World)(h:Heap)(u:al)(p:Ent):Prop where
 ex:∃t,u=.ref t/\h.IsTuple t #[.ref p.2.1,p.2.2]
 key:(TK prog w).is h p.1 p.2.1
def fO(h h':Heap):Prop:=∀b o,o.cls=.type "tuple"->h.get? b=some o->h'.get? b=some o
def km.gJ{h:Heap}{p:Ent}(x:km prog w h u p)(q:fO h h'):km prog w h' u p:=by obtain⟨⟨t,rfl,o,ho,hc,n,hd⟩,key⟩:=x;obtain⟨oa,h1,h2⟩:=uS key;exact⟨⟨t,rfl,o,q t o hc ho,hc,n,hd⟩,pI key λ o' e=>by rw[h1]at e;cases e;exact q _ _ h2 h1⟩
def putAll(xs:List Ent)(ps:List Ent):List Ent:=ps.foldl (λ xs p=>storedH xs p.1 p.2.1 p.2.2) xs
def kr(xs:List Ent)(p:Ent):(storedH xs p.1 p.2.1 p.2.2).length<=xs.length+1:=by
 unfold storedH;split
 ·simp
 ·simp
def vm(hu:A.in1.units<cLine)(hA:A.handled=none)(d it l:be)(Ow:d≠it)(Xb:l≠it)(Xc:l≠d)(av:List al)(ps:List Ent)(hlen:av.length=ps.length)(DX:ps.length<=1000):∀(k i:Nat)(s:am)(xs:List Ent),ps.length-i=k->i<=ps.length->xs.length<=i->s.heap.IsListIter it l i->s.heap.IsList l av.toArray->s.heap.DictOfH (TK prog w) d xs->
   (∀(j:Nat)(u:al)(p:Ent),av[j]?=some u->ps[j]?=some p->km prog w s.heap u p)->
   (∀h' tk,(∀b o,b≠d->b≠it->s.heap.get? b=some o->h'.get? b=some o)->h'.DictOfH (TK prog w) d (putAll xs (ps.drop i))->R (.ok (.ret .none)) {s with heap:=h',toks:=tk})->
   codeAny (model prog w) A (.builtin "dict.update.loop" ⟨[.ref d,.ref it,rawInt i,.none],[]⟩) R s:=by
 intro k
 induction k with
 |zero=>
  intro i s xs hk hi Od hit hl hd hp hR;have e:i=ps.length:=()
  subst e;refine B2 jv ?_;rw[k7 eU _];refine G8 (m:=pyNext (.ref it)) (wpAny_pyNext_list_end (show A.in1.handled=none from hA) hit hl (by simp;lia) λ h' eb=>?_);refine G8 (m:=Builtin.Dict.addKeywords d []) (G9 (G9 ?_));refine hR h' s.toks (λ b o _ n2 q=>eb b o n2 q) ?_;rw[drop_length];obtain⟨o,es,ep,ho,r1,r2,r3,r4,r5⟩:=hd;refine⟨o,es,ep,eb d o Ow ho,r1,r2,r3,λ x hx=>?_,r5⟩;obtain⟨oa,h1,h2⟩:=uS (r4 x hx);refine pI (r4 x hx) λ o' e=>eb _ _ (λ z=>?_) e;rw[z]at h1;obtain⟨oi,g1,g2,_⟩:=hit;rw[g1]at h1;cases h1;rw[g2]at h2;exact bi h2 (by decide)
 |succ k ih=>
  intro i s xs hk hi Od hit hl hd hp hR;have fR:i<ps.length:=()
  have e1:av[i]?=some av[i]:=c8 ();have e2:ps[i]?=some ps[i]:=c8 fR;refine B2 jv ?_;rw[k7 eU _];refine G8 (m:=pyNext (.ref it)) (wpAny_pyNext_list_item hit hl (x:=av[i]) (by simpa using e1) λ g1 Wx s1=>?_);have Pj:fO s.heap g1:=λ b o hc e=>s1.extBut _ _ (λ z=>by
   rw[z]at e;obtain⟨oi,q1,q2,_⟩:=hit;rw[q1]at e;cases e;rw[hc]at q2;exact bi q2 (by decide)) e
  obtain⟨⟨t,et,⟨ct,dt,da,st⟩,ho,hc,n,tj⟩,key⟩:=(hp i _ _ e1 e2).gJ Pj;cases(show ct=.type "tuple" from hc);cases(show da=_ from tj);have PD:g1.IsList l av.toArray:=hl.at λ o e=>s1.extBut _ _ Xb e;have Tr:g1.DictOfH (TK prog w) d xs:=by obtain⟨o,es,ep,ho,r1,r2,r3,r4,r5⟩:=hd;refine⟨o,es,ep,s1.extBut _ _ Ow ho,r1,r2,r3,λ x hx=>?_,r5⟩;obtain⟨oa,h1,h2⟩:=uS (r4 x hx);exact pI (r4 x hx) λ o' e=>by rw[h1]at e;cases e;exact Pj _ _ h2 h1
  rw[et];refine G8 (C3 (G8 (C2 ?_)));unfold Builtin.Dict.pairItems;refine G8 (G0 (T:="tuple") ⟨_,ho,rfl⟩ ?_);rw[J6 (by decide)];refine G8 (C0 ho rfl (G9 ?_));show wpAny _ A.in1 (holding [Value.ref ps[i].2.1,ps[i].2.2] (dictSet d (.ref ps[i].2.1) ps[i].2.2)) _ _ _;refine C3 (wpAny_dictSet_heap (s:={s with heap:=g1}) (knd:=TK prog w) hu key Tr (λ g2 d2 s2=>?_) (D7 (show xs.length<=1000 by lia) (by decide)));refine G9 ⟨C8 eU _,?_⟩;have od:∃o,g1.get? d=some o/\o.cls=.type "dict":=by obtain⟨o,es,ep,ho,r1,_⟩:=Tr;exact⟨o,ho,r1.1⟩
  have VE:fO g1 g2:=λ b o hc e=>s2.extBut _ _ (λ z=>by
   rw[z]at e;obtain⟨oi,q1,q2⟩:=od;rw[q1]at e;cases e;rw[hc]at q2;exact bi q2 (by decide)) e
  have Xq:((i:Int)+1)=((i+1:Nat):Int):=by push_cast;rfl
  show codeAny (model prog w) A (.builtin "dict.update.loop" ⟨[.ref d,.ref it,rawInt ((i:Int)+1),.none],[]⟩) R _;rw[Xq];refine ih (i+1) _ (storedH xs ps[i].1 ps[i].2.1 ps[i].2.2) () fR ?_ (Wx.at λ o e=>s2.extBut _ _ (J4 Ow) e) (PD.at λ o e=>s2.extBut _ _ Xc e) d2 (λ j u p h1 h2=>((hp j u p h1 h2).gJ Pj).gJ VE) λ h' tk oK ie=>?_
  ·have:=kr xs ps[i];lia
  ·refine hR h' tk (λ b o n1 n2 e=>oK b o n1 n2 (s2.extBut _ _ n1 (s1.extBut _ _ n2 e))) ?_;rw[c4 fR];exact ie
end
open PySem.W PySem.Calls PyProof.Rows
def IV{ps:List Ent}(hu:A.units+2<cLine)(hA:A.handled=none)(hl:s.heap.IsList l av.toArray)(gS:∃o,s.heap.get? l=some o/\o.dict=none)(hlen:av.length=ps.length)(DX:ps.length<=1000)(hp:∀(j:Nat)(u:al)(p:Ent),av[j]?=some u->ps[j]?=some p->km prog w s.heap u p)(h:∀h' tk,(∀b o,s.heap.get? b=some o->h'.get? b=some o)->h'.DictOfH (TK prog w) s.heap.objs.size (putAll [] ps)->s.heap.objs.size<h'.objs.size->Q (.ref s.heap.objs.size) {s with heap:=h',toks:=tk}):wpAny (model prog w) A (call (.type "dict") [.ref l]) Q E s:=by
 refine callType_codes (Q₁:=λ obj s₁=>obj=.ref s.heap.objs.size/\s₁={s with heap:=s.heap.push {cls:=.type "dict",data:=.dict #[]}}) F.kt_called_dict (F.kt_typeCall_dict_1 _) F.entry_dict_init (kt_code_dict_new _ ⟨rfl,rfl⟩) ?_;rintro obj s1 ⟨rfl,rfl⟩;have new:(s.heap.push {cls:=.type "dict",data:=.dict #[]}).DictOfH (TK prog w) s.heap.objs.size []:=Heap.DictOfH.new s.heap;refine⟨new.typeIs,F.args_dict_init_2 _ _,?_⟩;unfold Builtin.«dict.__init__»;refine G8 ?_;unfold Builtin.Dict.selfAndRest;refine G8 (wpAny_notOrdered_dict new.typeIs ?_);refine G9 (a:=(s.heap.objs.size,[Value.ref l])) ?_;obtain⟨ob,Tg,Xl⟩:=gS;obtain⟨⟨c,dd,da,sl⟩,ho,hc,n,tj⟩:=id hl;rw[ho]at Tg;cases Tg;cases(show c=.type "list" from hc);cases(show da=.seq av.toArray n from tj);cases(show dd=none from Xl);have Th:(s.heap.push {cls:=.type "dict",data:=.dict #[]}).get? l=some {cls:=.type "list",dict:=none,data:=.seq av.toArray n,slots:=sl}:=i7 _ ho;show wpAny _ _ (Builtin.Dict.updateFrom "dict.__init__" s.heap.objs.size (.ref l) [] .none) _ _ _;unfold Builtin.Dict.updateFrom;refine G8 (G0 (T:="list") ⟨_,Th,rfl⟩ ?_);rw[J6 (by decide)];refine G8 (xN (s:={s with heap:=s.heap.push {cls:=.type "dict",data:=.dict #[]}}) Th (show A.in1.handled=none from hA) λ g tk gk=>?_);rw[J6 (by rfl)];have k0:∀b o,s.heap.get? b=some o->g.get? b=some o:=λ b o e=>gk b o (i7 _ e);have Tn:g.IsList l av.toArray:=hl.at λ o e=>k0 l o e;have dg:g.DictOfH (TK prog w) s.heap.objs.size []:=by obtain⟨o,es,ep,h1,r⟩:=new;exact⟨o,es,ep,gk _ _ h1,r.1,r.2.1,r.2.2.1,λ x hx=>bi hx (by simp),r.2.2.2.2⟩
 have OM:s.heap.objs.size<g.objs.size:=by obtain⟨o,es,ep,h1,_⟩:=dg;exact D4 h1
 refine G8 (H0 (G8 (y2 (s:={s with heap:=g,toks:=tk}) Tn ?_)));refine G9 ⟨C8 eU _,?_⟩;have up:∀b o,g.get? b=some o->(g.push {cls:=.type "list_iterator",data:=.fields #[.ref l,.int 0 0]}).get? b=some o:=λ b o e=>i7 _ e;have fg:l≠s.heap.objs.size:=D3 (D4 ho);have fR:l<g.objs.size:=Nat.lt_trans (D4 ho) OM;refine vm (prog:=prog) (w:=w) (A:=A.in1) (by show A.units+1+1<cLine;lia) (show A.in1.handled=none from hA) s.heap.objs.size g.objs.size l (D3 OM) (D3 fR) fg av ps hlen DX _ 0 {s with heap:=g.push {cls:=.type "list_iterator",data:=.fields #[.ref l,.int 0 0]},toks:=tk} [] rfl (G5 _) (G3 _) ⟨_,l7 _ rfl,rfl,rfl⟩ (Tn.at λ o e=>up l o e) ?_ ?_ ?_
 ·obtain⟨o,es,ep,h1,r⟩:=dg;exact⟨o,es,ep,up _ _ h1,r.1,r.2.1,r.2.2.1,λ x hx=>bi hx (by simp),r.2.2.2.2⟩
 ·intro j u p e1 e2;exact(hp j u p e1 e2).gJ λ b o _ e=>up b o (k0 b o e)
 ·intro h' Fu oK ie;have Oq:s.heap.objs.size<h'.objs.size:=by obtain⟨o,es,ep,h1,_⟩:=ie;exact D4 h1
  refine⟨rfl,h h' Fu (λ b o e=>oK b o (D3 (D4 e)) (D3 (Nat.lt_trans (D4 e) OM)) (up b o (k0 b o e))) ie Oq⟩
def Raw(g:Heap)(d:be)(es:Array DictEntry)(ep:Nat):Prop:=∃b,g.get? d=some b/\b.ExactDict/\b.data=.dict es ep
def Raw.to{g g':Heap}{d:be}{es:Array DictEntry}(x:Raw g d es ep)(q:∀b,g.get? d=some b->g'.get? d=some b):Raw g' d es ep:=let⟨b,h1,h2⟩:=x;⟨b,q b h1,h2⟩
def Raw.ty{d:be}{es:Array DictEntry}(x:Raw s.heap d es ep):s.TypeIs (.ref d) "dict":=let⟨b,h1,h2,_⟩:=x;⟨b,h1,h2.1⟩
def Raw.lt{g:Heap}{d:be}{es:Array DictEntry}(x:Raw g d es ep):d<g.objs.size:=let⟨b,h1,_⟩:=x;D4 h1
def Cm{d:be}{es:Array DictEntry}(nd:(d==sysModules)=false)(x:Raw s.heap d es ep)(fin:Q (.ref s.heap.objs.size) {s with heap:=s.heap.push {cls:=.type "dict_keyiterator",data:=.fields #[.ref d,.int 0 0,.int es.size 0,.int ep 0]}}):wpAny (model prog w) A (pyIter (.ref d)) Q E s:=by obtain⟨b,hb,xb,db⟩:=id x;refine wpAny_pyIter_slot x.ty F.slot_dict_iter (A0 F.slot_dict_iter x.ty F.entry_dict_iter ?_ (F.args_dict_iter_1 _));unfold Builtin.«dict.__iter__»;refine G8 ?_;unfold Builtin.Dict.dictSlotNone;refine G8 (wpAny_notOrdered_dict x.ty ?_);refine G9 (a:=Value.ref d) ?_;show wpAny (model prog w) _ (Builtin.Dict.showsAll d>>=_) _ _ s;unfold Builtin.Dict.showsAll;rw[J7 (by simp[nd])];refine G8 (G9 (G8 (wpAny_dictEntries hb db (G8 (wpAny_dictEpoch hb db ?_)))));refine G8 (x8 (G9 ⟨_,rfl,"dict_keyiterator",_,⟨_,l7 _ rfl,rfl⟩,a9.lookup,?_⟩));simpa[rawInt]using fin
def rX{it d:be}{es:Array DictEntry}{Q:Option al->am->Prop}(ki:s.heap.IsKeyIter it d i n ep)(x:Raw s.heap d es ep)(en:n=es.size)(hi:∀e:DictEntry,es[i]?=some e->∀g,g.IsKeyIter it d (i+1) n ep->Heap.SameBut it s.heap g->Q (some e.key) {s with heap:=g})(hn:A.handled=none)(he:es[i]?=none->∀g,Heap.ExtBut it s.heap g->Q none {s with heap:=g}):wpAny (model prog w) A (pyNext (.ref it)) Q E s:=by
 subst en;obtain⟨oi,gi,ci,di⟩:=id ki;obtain⟨b,hb,xb,db⟩:=id x;unfold pyNext;refine G8 (wpAny_attempt (g9 (name:=aU "__next__") ki.typeIs a9
  (A0 a9 ki.typeIs F.entry_dict_keyiterator_next ?_ (F.args_dict_keyiterator_next_1 _))))
 refine G8 (G9 (G8 (G8 ?_)))
 first|refine G8 (a8 ki.typeIs (G9 ?_))|refine G8 (wpAny_typeNameOf_keyiter ki.typeIs (G9 ?_))
 refine G8 (wpAny_fieldsOf gi di ?_);have own:Builtin.Dict_items.ownsTuple "dict_keyiterator"=false:=rfl;simp only[own,J1,o8];show wpAny (model prog w) _ (if(Value.ref d==Value.none)=true then _ else _) _ _ s;rw[J7 (by exact n0)];refine G8 (G9 (G8 (wpAny_dictEntries hb db ?_)));rw[J7 (by simp)];refine G8 (G9 (G8 (wpAny_dictEpoch hb db ?_)));rw[J7 (by simp)];refine G9 ?_;have nn:¬((i:Int)<0):=()
 by_cases lt:i<es.size
 ·simp only[nn,J1,x6,c3 lt];refine G8 ?_
  first|refine G8 (a8 ki.typeIs (G9 ?_))|refine G8 (wpAny_typeNameOf_keyiter ki.typeIs (G9 ?_))
  refine G8 (wpAny_isOneOf_keyiter ki.typeIs ?_);show wpAny (model prog w) _ (setField (.ref it) 1 (rawInt ((i:Int)+1))>>=_) _ _ s;refine G8 (wpAny_setField gi di (by simp) ?_);have k2:(s.heap.update it (Obj.mapFields (·.setIfInBounds 1 (rawInt ((i:Int)+1))))).IsKeyIter it d (i+1) es.size ep:=
   ⟨_,j0 _ gi (Obj.isFreed_of_fields (u5 di _)),(Obj.cls_mapFields ..).trans ci,by rw[u5 di];simp[rawInt]⟩
  refine G8 (C3 (G8 (wpAny_isOneOf_keyiter (s:={s with heap:=s.heap.update it (Obj.mapFields (·.setIfInBounds 1 (rawInt ((i:Int)+1))))}) k2.typeIs ?_)));show wpAny (model prog w) _ (pure es[i].key) _ _ _;exact G9 (G9 ⟨_,rfl,G9 (hi _ (c3 lt) _ k2 (l0 ..))⟩)
 ·have ge:es.size<=i:=y9 lt;simp only[nn,J1,x6,i6 ge];refine G8 ?_
  first|refine G8 (a8 ki.typeIs (G9 ?_))|refine G8 (wpAny_typeNameOf_keyiter ki.typeIs (G9 ?_))
  show wpAny (model prog w) _ (setField (.ref it) 0 .none>>=_) _ _ s;refine G8 (wpAny_setField gi di (by simp) ?_);show wpAny (model prog w) _ (newExc (.type "StopIteration") []>>=_) _ _ _;refine G8 ?_;simp only[newTuple,newExc];refine G8 (x8 ?_ (by size_fits));refine G8 (m:=firstArgMember _ _) (wpAny_of_eq (a:=Value.none) (by first|rfl|(simp only[firstArgMember];rfl)) (x8 ?_ (by size_fits)));simp only[raiseNew];refine G8 (wpAny_handled ?_);rw[show A.in1.handled=none from hn];refine G8 (G9 (wpAny_throw ?_));refine G8 (wpAny_isInstance (b:=true) (T:="StopIteration") ⟨_,l7 _ rfl,rfl⟩ isSubtype_stop ?_);exact G9 (he (i6 ge) _ (((l0 ..).extBut.push _).push _))
def Ck(hn:A.handled=none)(I d:be)(ne:d≠I)(es:Array DictEntry)(ep:Nat):Walks prog w A I [I,d] [I] es.size (λ i v=>∃e,es[i]?=some e/\v=e.key) (λ i g=>g.IsKeyIter I d i es.size ep/\Raw g d es ep) where
 sub:=λ b m=>by simp at m;simp[m]
 frame:=λ _ _ _ st k=>⟨st.1.at λ o e=>k I (by simp) o e,st.2.to λ o e=>k d (by simp) o e⟩
 item:=λ i s Q E lt st fin=>rX st.1 st.2 rfl (λ e ee g k2 sb=>fin e.key g s.toks ⟨e,ee,rfl⟩ ⟨k2,st.2.to λ o q=>sb.extBut d o ne q⟩ λ b o m q=>sb.extBut b o (λ z=>m (by simp[z])) q) hn λ e=>bi e (by rw[c3 lt];exact λ z=>nomatch z)
 done:=λ s Q E st fin=>rX st.1 st.2 rfl (λ e ee=>bi ee (by rw[i6 (G3 _)];exact λ z=>nomatch z)) hn λ _ g sb=>fin g s.toks λ b o m q=>sb b o (λ z=>m (by simp[z])) q
 self:=λ _ _ _ _ st fin=>wpAny_pyIter_keyiter st.1 fin
def xt{d:be}{es:Array DictEntry}(nd:(d==sysModules)=false):KdlSrc prog w "dict" d d es.size (λ i v=>∃e,es[i]?=some e/\v=e.key) (λ g=>Raw g d es ep) where
 type:=λ _ x=>x.ty
 there:=λ _ x=>⟨x.lt,x.lt⟩
 keep:=λ _ _ x k=>x.to λ o e=>k d (.inl rfl) o e
 notList:=by decide
 notTuple:=by decide
 hint:=λ _ _ _ _ x q=>kdl_hint_dict x.ty q
 iter:=λ _ _ hn x=>⟨_,_,(λ _ _ q=>Cm nd x q),Ck hn _ d (D3 x.lt) es ep,⟨⟨_,l7 _ rfl,rfl,rfl⟩,x.to λ o e=>i7 _ e⟩⟩
def oy{es:Array DictEntry}{dL:Array al}(it:ItemsOf (λ i v=>∃e,es[i]?=some e/\v=e.key) dL es.size):dL.toList=es.toList.map (·.key):=by
 apply ext_getElem?;intro i;by_cases lt:i<dL.size
 ·have le:i<es.size:=by rw[<- it.1];exact lt
  obtain⟨e,e1,e2⟩:=it.2 i dL[i] (c3 lt);rw[j5,c3 lt,w6,j5,e1,e2];rfl
 ·have le:¬i<es.size:=by rw[<- it.1];exact lt
  rw[j5,i6 (y9 lt),w6,j5,i6 (y9 le)];rfl
def tZ{d:be}{es:Array DictEntry}{R:List al->am->Prop}(nd:(d==sysModules)=false)(hn:A.handled=none)(x:Raw s.heap d es ep)(hz:es.size<=sizeLine)(h:∀g tk,(∀b o,s.heap.get? b=some o->g.get? b=some o)->R (es.toList.map (·.key)) {s with heap:=g,toks:=tk}):wpAny (model prog w) A (collect (.ref d)) R E s:=by refine kdu_collect (xt nd) hn x hz λ g tk dL k it=>?_;have e:=oy it;rw[e];exact h g tk k
def GV{d q:be}{es:Array DictEntry}{ep:Nat}{Q:al->am->Prop}(nd:(d==sysModules)=false)(hn:A.handled=none)(x:Raw s.heap d es ep)(tq:es.size<64) (h:∀(Dd kS:be)(g0 g:Heap)(tk e1:Nat),(∀b o,s.heap.get? b=some o->g0.get? b=some o)->Dd≠kS->g0.objs.size<=Dd->g0.objs.size<=kS->g.get? Dd=some (seqObj "list" #[] e1)->g.get? kS=some (seqObj "list" #[] 0)->(∀b o,s.heap.get? b=some o->g.get? b=some o)->
   wpAny (model prog w) A.in1.in1 (ksk_rest Dd (.ref q) false (es.toList.map (·.key)).toArray e1 (.ref kS)) (λ f s'=>f=.done (.ret .none)/\Q (.ref Dd) s') E {s with heap:=g,toks:=tk}):
  wpAny (model prog w) A (call (.builtin "sorted") [.ref d] [(aU "key",.ref q)]) Q E s:=by
 refine call_function_entry_kw kind_sorted plain_sorted entry_sorted (ksk_s1 _ _) ?_;unfold Builtin.«sorted»;have hlen:(es.toList.map (·.key)).length=es.size:=by simp
 refine G8 (m:=checkCount "sorted" 1 1 _) (G9 (G8 (tZ nd (show A.in1.handled=none from hn) x (by rw[G4];lia) λ g tk gk=>G8 (wpAny_newList ?_ (by rw[hlen,G4];lia)))));generalize Zm:es.toList.map (·.key)=vs at*;have W7:g.objs.size≠g.objs.size+2:=()
 have g1:(g.push (seqObj "list" vs.toArray 0)).get? g.objs.size=some (seqObj "list" vs.toArray 0):=l7 _ rfl;refine G8 (C3 (wpAny_call_entry_kw slot_list_sort ⟨_,g1,rfl⟩ entry_list_sort ?body (ksk_l1 _ _)))
 case body=>
  show wpAny (model prog w) A.in1.in1 (Builtin.«list.sort» ⟨[.ref g.objs.size],[(aU "key",.ref q)]⟩) _ _ _;rw[ksk_t1];unfold ksk_tree;generalize hH:g.push (seqObj "list" vs.toArray 0)=H at*;have eH:H.objs.size=g.objs.size+1:=by rw[<- hH,size_push']
  obtain⟨c1,o1⟩:∃c1,(H.update g.objs.size (Obj.mapSeq λ _=>(#[]:Array al))).get? g.objs.size=some (seqObj "list" #[] c1):=⟨_,get?_update_seq g1 λ _=>#[]⟩;refine G8 (listItems_at g1 rfl (G8 (listUpdate_at g1 rfl (G8 (seqEpoch_at o1 rfl (G8 (wpAny_newTuple (G8 (wpAny_newList (C3 ?_) (G5 _))) (by show vs.length<=_;rw[G4];lia))))) (by rw[y6,G4];lia) (G5 _))));have e2:(H.update g.objs.size (Obj.mapSeq λ _=>(#[]:Array al))).objs.size=g.objs.size+1:=by rw[Heap.size_update,eH]
  have e3:((H.update g.objs.size (Obj.mapSeq λ _=>(#[]:Array al))).push (seqObj "tuple" vs.toArray 0)).objs.size=g.objs.size+2:=by rw[size_push',e2]
  have g3:(((H.update g.objs.size (Obj.mapSeq λ _=>(#[]:Array al))).push (seqObj "tuple" vs.toArray 0)).push (seqObj "list" #[] 0)).get? (g.objs.size+2)=some (seqObj "list" #[] 0):=by rw[<- e3];exact l7 _ rfl
  show wpAny (model prog w) A.in1.in1 (ksk_rest g.objs.size (.ref q) false vs.toArray c1 (.ref ((H.update g.objs.size (Obj.mapSeq λ _=>(#[]:Array al))).push (seqObj "tuple" vs.toArray 0)).objs.size)) _ _ {s with heap:=((H.update g.objs.size (Obj.mapSeq λ _=>(#[]:Array al))).push (seqObj "tuple" vs.toArray 0)).push (seqObj "list" #[] 0),toks:=tk};rw[e3];refine J0 (h g.objs.size (g.objs.size+2) g _ tk c1 gk W7 (G3 _) (Nat.le_add_right _ _) (i7 _ (i7 _ o1)) g3 λ b o y=>i7 _ (i7 _ (by
   have hb:b<g.objs.size:=D4 (gk b o y);rw[Heap.get?_update_ne _ _ _ _ (D3 hb),<- hH];exact i7 _ (gk b o y)))) (λ f s' hf=>?_) λ _ _ z=>z
  obtain⟨rfl,hq⟩:=hf;exact⟨_,rfl,G9 ⟨_,rfl,hq⟩⟩
end L5
namespace L2
open PySem.Spec PyProof.Rows L5 PySem.W
section
variable {sp:Sp}
def Goes(X:Cx)(q l:be)(av:List al)(s:am):Prop:=∀(Q:al->am->Prop),
 (∀(Dd kS:be)(g0 g:Heap)(tk e1:Nat),(∀b o,s.heap.get? b=some o->g0.get? b=some o)->Dd≠kS->g0.objs.size<=Dd->g0.objs.size<=kS->g.get? Dd=some (seqObj "list" #[] e1)->g.get? kS=some (seqObj "list" #[] 0)->(∀b o,s.heap.get? b=some o->g.get? b=some o)->
  wpAny (model X.prog X.w) X.A.in1.in1 (ksk_rest Dd (.ref q) false av.toArray e1 (.ref kS)) (λ f s'=>f=.done (.ret .none)/\Q (.ref Dd) s') X.xe {s with heap:=g,toks:=tk})->
 wpAny (model X.prog X.w) X.A (call (.builtin "sorted") [.ref l] [(aU "key",.ref q)]) Q X.xe s
def wC(F:bg X.prog X.w X.K X.mg X.base cM k q fd ps sp)(hb:Binds X.K fd ps [])(hr:cR (k+2) X.A){ys:List V}{Q:VK}(I:io X ce σ H s)(rv:li ys av)(go:Goes X q l av s)(tq:ys.length<64)(R:List V->Hp->Prop)(key:Nat->Ky)(h0:R [] H)(hc:∀ar H v,R ar H->ys[ar.length]?=some v->sp [v] H (λ k H'=>R (ar++[k]) H') E0)(hk:∀ar H,R ar H->ar.length=ys.length->(∀i k,ar[i]?=some k->gy X.K b H k (key i))/\∀p out,H p=none->Out (λ i j=>klt (key i) (key j)) ys V.bh out->Q (.ref p) (lm H p (.lst out))):wpAny (model X.prog X.w) X.A (call (.builtin "sorted") [.ref l] [(aU "key",.ref q)]) (EP X ce σ Q) X.xe s:=by
 have hlen:=rv.length;have hu:=hr.units;have room:cR k X.A.in1.in1:=(hr.in1 (k:=k+1)).in1;refine go _ λ Dd kS g0 g tk e1 gk0 fg lD lK gD gK gk=>?_;have I0:io X ce σ H {s with heap:=g0,toks:=tk}:=I.kept (t':=tk) gk0;have f1:=I0.iH (H':=λ _=>none) (b:=Dd) lD rfl;have f3:=I0.iH (H':=λ _=>none) (b:=kS) lK rfl;refine xX (J:=λ ks e s'=>∃ar H',io X ((kS,seqObj "list" (List.toArray ks) e)::(Dd,seqObj "list" #[] e1)::ce) σ H' s'/\li ar ks/\R ar H'/\ks.length<=av.length) () ?_ ?_ ?_ ?_
 ·rintro ks e s' ⟨ar,H',I',rk,hR,rC⟩;exact⟨(I'.pin _ (j2 _ (.head _))).1,rC⟩
 ·rintro x ks e s' ⟨ar,H',I',rk,hR,rC⟩ hx;have lk:=rk.length;obtain⟨y,hy,ry⟩:∃y,ys[ar.length]?=some y/\lc y x:=by
   have hi:ar.length<ys.length:=by have:=(c5.mp hx).1;lia
   obtain⟨u,Oe,ru⟩:=rv.get (c8 hi);rw[lk,hx]at Oe;cases Oe;exact⟨_,c8 hi,ru⟩
  have call:=hc ar H' y hR hy;have r1:li [y] [x]:=.cons ry .nil;have dX:([x]++([]:List al)).length=ps.length:=by have:=F.len _ _ _ _ call;simpa using this
  have en:rn X.prog X.w X.K X.mg X.base X.A.in1.in1 X.stack s' H':=I'.OK.in1.in1;have bt:=hb s' [x] I'.nN dX;rw[A5]at bt;refine wpAny_call (codeAny_mono (F.run X.A.in1.in1 X.stack s' H' ⟨[x],[]⟩ [x] [y] _ E0 room en bt r1 call) λ r s2 hq=>?_);cases r with
  |error e=>exact hq
  |ok fl=>
   cases fl with
   |ret u=>
    obtain⟨kv,H2,I2,ru,Xx⟩:=I'.after hq;have pk:=I2.pin _ (j2 _ (l9 ..));refine⟨pk.1,λ h' c Xg sb=>⟨ar++[kv],H2,?_,rk.append (.cons ru .nil),Xx,?_⟩⟩
    ·have I3:io X ((Dd,seqObj "list" #[] e1)::ce) σ H2 s2:=I2.cE λ p hp=>I2.pin p (j2 _ (.tail _ hp));have pd:=I2.pin _ (j2 _ (List.Mem.tail _ (l9 ..)));have fk:gp X ((Dd,seqObj "list" #[] e1)::ce) H2 (kS):=⟨pk.2.1,f3.2.1,f3.2.2.1,f3.2.2.2.1,f3.2.2.2.2.1,λ p hp=>by
      rcases B5.mp hp with z|z
      ·exact f3.2.2.2.2.2 p (k5 _ z)
      ·rcases C7.mp z with rfl|z
       ·exact fg
       ·exact f3.2.2.2.2.2 p (j2 _ z)⟩
     have I4:io X ((Dd,seqObj "list" #[] e1)::ce) σ H2 {s2 with heap:=h'}:=il (t':=s2.toks) (ch:=[kS]) I3 (λ b o hb e=>(sb.2 b (λ z=>hb (by simp[z]))).trans e) λ b z_=>by
      have:b=kS:=by simpa using z_
      subst this;exact fk
     refine I4.cE λ p hp=>?_;rcases C7.mp hp with rfl|z
     ·exact⟨Xg,pk.2.1,f3.2.1,f3.2.2.1,λ v z=>by cases z⟩
     ·exact I4.pin p (j2 _ z)
    ·have:=(c5.mp hx).1;rw[n9,j4];lia
   |next=>exact hq.elim
   |brk=>exact hq.elim
   |cont=>exact hq.elim
 ·have I5:io X ce σ H {s with heap:=g,toks:=tk}:=I.kept (t':=tk) gk;have hn:∀b,g0.objs.size<=b->H b=none:=λ b hb=>I0.bP.fresh hb;refine⟨[],H,I5.cE λ p hp=>?_,.nil,h0,G5 _⟩;rcases C7.mp hp with rfl|z
  ·exact⟨gK,hn _ lK,f3.2.1,f3.2.2.1,λ v z=>by cases z⟩
  ·rcases C7.mp z with rfl|z
   ·exact⟨gD,hn _ lD,f1.2.1,f1.2.2.1,λ v z=>by cases z⟩
   ·exact I5.pin p (j2 _ z)
 ·rintro ks e s' ⟨ar,H',I',rk,hR,_⟩ rC;have lk:=rk.length;obtain⟨qF,hQ⟩:=hk ar H' hR ();have pk:=I'.pin _ (j2 _ (l9 ..));have pd:=I'.pin _ (j2 _ (List.Mem.tail _ (l9 ..)));have U2:X.A.in1.in1.units+1<cLine:=by have:=room.units;lia
  refine Dw (κ:=tuples' true) (xZ key) rC () pk.1 pd.1 fg (λ h2 C hC=>?_) (λ h2 i j C hi hj hC=>?_) λ out h' c ho hD D_=>⟨rfl,?_⟩
  ·obtain⟨fs,t1,t2,t3⟩:=mJ I' rk qF;refine kat_kind (T:=.type "int") t1 () (λ v hv=>?_) rfl hC;obtain⟨i,t,rfl⟩:=t3 v hv;exact(show Looks _ s'.heap (pure (Value.type "int")) _ from .now)
  ·have gi:∀i,i<av.length->∃k u,ar[i]?=some k/\ks.getD i Value.none=u/\lc k u:=λ i hi=>by
    have K_:i<ar.length:=()
    obtain⟨u,e,r⟩:=rk.get (c8 K_);exact⟨_,u,c8 K_,by rw[b8,e];rfl,r⟩
   obtain⟨k1,u1,a1,a2,a3⟩:=gi i hi;obtain⟨k2,u2,b1,b2,b3⟩:=gi j hj;rw[a2,b2];exact Dx I' U2 (qF i k1 a1) (qF j k2 b1) a3 b3 hC
  ·obtain⟨p,p1,p2,p3⟩:=ho;subst p3;have I6:io X ce σ H' s':=I'.cE λ p hp=>I'.pin p (j2 _ (.tail _ (.tail _ hp)));have I7:io X ce σ H' {s' with heap:=h'}:=il (t':=s'.toks) (ch:=[Dd,kS]) I6 (λ b o hb e=>D_ b o (λ z=>hb (by simp[z])) (λ z=>hb (by simp[z])) e) λ b z_=>by
    simp at z_;rcases z_ with rfl|rfl
    ·exact⟨pd.2.1,f1.2⟩
    ·exact⟨pk.2.1,f3.2⟩
   have VV:li (p.toList.map λ i=>ys.getD i V.bh) (p.toList.map λ i=>av.getD i Value.none):=rJ rv _;have S8:(p.toList.map λ i=>ys.getD i V.bh).length<=sizeLine:=by rw[B4,l6,p1.size,G4];lia
   refine⟨.ref (Dd),_,io.oq (D:=Dd) (o:=.lst (p.toList.map λ i=>ys.getD i V.bh)) I7 pd.2.1 (show _/\∃(av:List al)(n:Nat),li _ av/\_ from⟨S8,_,c,VV,hD⟩) f1.2.1 (D7 I0.sz lD) f1.2.2.2.2.1 f1.2.2.2.2.2,rfl,hQ _ _ pd.2.1 ⟨p,by rw[hlen];exact p1,by rw[hlen];exact p2,rfl⟩⟩
end
end L2
namespace L5
section
variable {β γ:Type}[DecidableEq α][DecidableEq γ]
def jo(dL:List (α×β))(p:α×β):List (α×β):=if p.1∈dL.map (·.1)then dL else dL++[p]
def eK(ps:List (α×β)):List (α×β):=ps.foldl jo []
def jq(dL:List γ)(r:γ):List γ:=if r∈dL then dL else dL++[r]
def once(rs:List γ):List γ:=rs.foldl jq []
def zL{dL:List (α×β)}{p q:α×β}(h:q∈jo dL p):q∈dL\/q=p:=by
 unfold jo at h;split at h
 ·exact .inl h
 ·simpa using h
theorem sL:∀(ps dL:List (α×β))(q:α×β),q∈ps.foldl jo dL->q∈dL\/q∈ps
 |[],_,_,h=>.inl h
 |p::ps,dL,q,h=>by
  rcases sL ps _ q h with h|h
  ·rcases zL h with h|h
   ·exact .inl h
   ·exact .inr (by simp[h])
  ·exact .inr (by simp[h])
def vB{ps:List (α×β)}{q:α×β}(h:q∈eK ps):q∈ps:=by
 rcases sL ps [] q h with h|h
 ·cases h
 ·exact h
theorem oN(F:γ->α)(inj:∀a b,F a=F b->a=b):∀(ps dL:List (α×β))(rs ac:List γ),dL.map (·.1)=ac.map F->ps.map (·.1)=rs.map F->(ps.foldl jo dL).map (·.1)=(rs.foldl jq ac).map F
 |[],_,[],_,h,_=>h
 |[],_,_::_,_,_,e=>by simp at e
 |_::_,_,[],_,_,e=>by simp at e
 |p::ps,dL,r::rs,ac,h,e=>by
  simp only[C6,List.cons.injEq]at e;refine oN F inj ps _ rs _ ?_ e.2;have iff:p.1∈dL.map (·.1)↔r∈ac:=by
   rw[h,e.1,D5];constructor
   ·rintro⟨a,ha,hb⟩;rw[<- inj _ _ hb];exact ha
   ·exact λ ha=>⟨r,ha,rfl⟩
  unfold jo jq;by_cases m:r∈ac
  ·rw[J6 m,J6 (iff.mpr m)];exact h
  ·rw[J7 m,J7 (λ z=>m (iff.mp z))];simp[h,e.1]
def tG(F:γ->α)(inj:∀a b,F a=F b->a=b){ps:List (α×β)}{rs:List γ}(e:ps.map (·.1)=rs.map F):(eK ps).map (·.1)=(once rs).map F:=oN F inj ps [] rs [] rfl e
theorem oC:∀(rs dL:List γ)(q:γ),q∈rs.foldl jq dL->q∈dL\/q∈rs
 |[],_,_,h=>.inl h
 |p::ps,dL,q,h=>by
  rcases oC ps _ q h with h|h
  ·unfold jq at h;split at h
   ·exact .inl h
   ·rcases B5.mp h with h|h
    ·exact .inl h
    ·exact .inr (by simp at h;simp[h])
  ·exact .inr (by simp[h])
def sJ{rs:List γ}{q:γ}(h:q∈once rs):q∈rs:=by
 rcases oC rs [] q h with h|h
 ·cases h
 ·exact h
end
def ka(x:Ent):List L2.Key×be:=(x.1,x.2.1)
def N7(k:List L2.Key)(v:al)(x:Ent):ka (putAt k v x)=ka x:=by unfold putAt ka;split<;>rfl
def Ff(xs:List Ent)(k:List L2.Key):(atKey xs k).isSome=true↔k∈(xs.map ka).map (·.1):=by
 unfold atKey;rw[y4,find?_isSome];constructor
 ·rintro⟨x,hx,e⟩;refine D5.mpr ⟨ka x,D5.mpr ⟨x,hx,rfl⟩,ca e⟩
 ·intro h;obtain⟨p,hp,e⟩:=D5.mp h;obtain⟨x,hx,rfl⟩:=D5.mp hp;exact⟨x,hx,B9 e⟩
def zS(xs:List Ent)(p:Ent):(storedH xs p.1 p.2.1 p.2.2).map ka=jo (xs.map ka) (ka p):=by
 unfold storedH jo;by_cases h:(atKey xs p.1).isSome=true
 ·rw[J6 h,J6 (show(ka p).1∈_ from(Ff xs p.1).mp h),D6];exact l8 λ x _=>N7 _ _ x
 ·rw[J7 h,J7 (show ¬(ka p).1∈(xs.map ka).map (·.1)from λ z=>h ((Ff xs p.1).mpr z)),B6];rfl
theorem Dy:∀(ps xs:List Ent),(putAll xs ps).map ka=(ps.map ka).foldl jo (xs.map ka)
 |[],_=>rfl
 |p::ps,xs=>by show(putAll (storedH xs p.1 p.2.1 p.2.2) ps).map ka=_;rw[Dy ps,zS];rfl
theorem xT:∀(ps xs:List Ent),(putAll xs ps).length<=xs.length+ps.length
 |[],_=>by simp[putAll]
 |p::ps,xs=>by have h:=xT ps (storedH xs p.1 p.2.1 p.2.2);have h2:=kr xs p;have e:putAll xs (p::ps)=putAll (storedH xs p.1 p.2.1 p.2.2) ps:=rfl;rw[e,z0];lia
end L5
namespace L2
open PySem.Spec PyProof.Rows L5 PySem.W
def iQ(K:J8)(H:Hp):List V->List (List Key×be)->Prop
 |[],[]=>True
 |y::ys,p::ps=>(∃(t:be)(v:V)(r:List Int),y=.ref t/\fj K H t [.ref p.2,v]/\p.1=r.map Sum.inl/\fj K H p.2 (r.map V.int))/\iQ K H ys ps
 |_,_=>False
theorem iQ.row:∀{ys:List V} {ps:List (List Key×be)},iQ K H ys ps->∀p∈ps,∃r:List Int,p.1=r.map Sum.inl/\fj K H p.2 (r.map V.int)
 |[],[],_,_,m=>by cases m
 |[],_::_,h,_,_=>h.elim
 |_::_,[],h,_,_=>h.elim
 |y::ys,q::ps,⟨⟨t,v,r,_,_,h1,h2⟩,h⟩,p,m=>by
  rcases C7.mp m with rfl|m
  ·exact⟨r,h1,h2⟩
  ·exact iQ.row h p m
theorem mN:∀{av:List al} {r:List Int},li (r.map V.int) av->ItemsAre (bE prog w) (r.map Sum.inl) av
 |av,[],h=>by cases h;exact .nil
 |av,i::r,h=>by
  cases h with
  |cons h1 h2=>obtain⟨t,rfl⟩:=h1;exact .cons (kI prog w i t) (mN h2)
theorem mC(I:io X ce σ H s):∀{ys:List V} {kp:List (List Key×be)} {av:List al},iQ X.K H ys kp->li ys av->∃ps:List Ent,ps.map ka=kp/\av.length=ps.length/\∀(j:Nat)(u:al)(p:Ent),av[j]?=some u->ps[j]?=some p->km X.prog X.w s.heap u p
 |[],[],_,_,.nil=>⟨[],rfl,rfl,λ j u p h=>by simp at h⟩
 |[],_::_,_,h,_=>h.elim
 |_::_,[],_,h,_=>h.elim
 |y::ys,q::kp,_,h0,.cons (b:=u0) e0 er=>by
  obtain⟨⟨t,v,r,rfl,h1,h2,h3⟩,h⟩:=h0;obtain⟨ps,p1,p2,p3⟩:=mC I h er;cases(show u0=Value.ref t from e0);obtain⟨i2,r2,⟨o,ho,hc,n,hd⟩,_⟩:=I.tuple h1;obtain⟨u1,u2,rfl,q1,q2⟩:=vals2 r2;cases(show u1=Value.ref q.2 from q1);obtain⟨i3,r3,⟨o3,ho3,hc3,n3,rD⟩,_⟩:=I.tuple h3;refine⟨(q.1,q.2,u2)::ps,by simp[ka,p1],by simp[p2],λ j u p e1 e2=>?_⟩;cases j with
  |zero=>simp at e1 e2;subst e1 e2;refine⟨⟨t,rfl,o,ho,hc,n,hd⟩,o3,i3.toArray,n3,ho3,hc3,rD,?_⟩;rw[h2];exact mN r3
  |succ j=>exact p3 j u p (by simpa using e1) (by simpa using e2)
section
variable {te:TE}{p gC fp kp:Pos}{f:Str}{sp:Sp}
def pT(K:J8)(sp:Sp)(x:V)(H:Hp)(Q:VK):Prop:=∃(l:be)(ys zs:List V)(kp:List (List Key×be))(b:Bool)(R:List V->Hp->Prop)(key:Nat->Ky),x=.ref l/\dv K H l ys/\ys.length<64/\iQ K H ys kp/\zs=(eK kp).map (λ p=>V.ref p.2)/\R [] H/\
 (∀ar H v,R ar H->zs[ar.length]?=some v->sp [v] H (λ k H'=>R (ar++[k]) H') E0)/\
 ∀ar H,R ar H->ar.length=zs.length->(∀i k,ar[i]?=some k->gy K b H k (key i))/\∀p out,H p=none->Out (λ i j=>klt (key i) (key j)) zs V.bh out->Q (.ref p) (lm H p (.lst out))
theorem oh:∀as:List be,li (as.map V.ref) (as.map Value.ref)
 |[]=>.nil
 |a::as=>.cons rfl (oh as)
def sj(d:iu X.prog X.w X.K X.mg X.base k f ps sp)(hr:cR (k+2) X.A)(hg:Gl X "sorted")(hm:X.mg "sorted"=none)(Xh:Gl X "dict")(W9:X.mg "dict"=none)(Ou:Gl X f)(he:PE X e te)(zY:nV f:=by decide)(hs:starEach [.Call (.Name "dict" p2) [e] [] gC] X.env=[(false,eval (.Call (.Name "dict" p2) [e] [] gC) X.env)]:=by rfl)(nO:backTo pos (starEach [.Call (.Name "dict" p2) [e] [] gC] X.env)=(false,eval (.Call (.Name "dict" p2) [e] [] gC) X.env)::backTo pos (starEach [] X.env):=by rfl)(iT:(backTo pos (starEach [.Call (.Name "dict" p2) [e] [] gC] X.env)).any (·.1)=false:=by rfl)(ht:starEach [e] X.env=[(false,eval e X.env)]:=by rfl)(Tc:ux X e []:=by rfl)(WR:(backTo gC (starEach [] X.env)).any (·.1)=false:=by rfl):PE X (.Call (.Name "sorted" p) [.Call (.Name "dict" p2) [e] [] gC] [⟨some "key",.Name f fp,kp⟩] pos) (λ σ H Q=>te σ H λ x H1=>pT X.K sp x H1 Q):=by
 intro ce s σ H Q I h;obtain⟨q,fd,G,W8,kq,bd⟩:=d.ex;refine r9 (eI I hg hm PyProof.Rows.boot_sorted ?_ (by decide) (by decide));refine PyProof.Rows.callWith_kw ?_ nO iT;rw[hs];show wpAny _ _ (spliced ((false,eval (.Call (.Name "dict" p2) [e] [] gC) X.env)::[])) _ _ s;refine Calls.spliced_cons (r9 (eI I Xh W9 PyProof.Rows.boot_dict ?_ (by decide) (by decide)));refine b0 (cq ((gf he iF (by show _=_;rw[ht];rfl)) gC ce s σ H (λ vs H1=>match vs with|[x]=>pT X.K sp x H1 Q|_=>False) I h) λ us s1 ⟨vs,H1,I1,r1,q1⟩=>?_) Tc WR;cases vs with
 |nil=>exact q1.elim
 |cons x vs=>
  cases vs with
  |cons _ _=>exact q1.elim
  |nil=>
  have q1:pT X.K sp x H1 Q:=q1;obtain⟨u,rfl,ru⟩:=vals1 r1;obtain⟨l,ys,zs,Fy,b,R,key,rfl,hl,tq,hp,rfl,h0,hc,hk⟩:=q1;cases(show u=Value.ref l from ru);obtain⟨av,rv,pl,hz⟩:=I1.list hl;have hlen:=rv.length;obtain⟨es,e1,e2,e3⟩:=mC I1 hp rv;have hu:=hr.un;have ol:∃o,s1.heap.get? l=some o/\o.dict=none:=by obtain⟨o,n,a1,a2,a3,a4⟩:=pl;exact⟨o,a1,a3⟩
  have two:(s1.heap.objs.size==sysModules)=false:=by
   obtain⟨o,n,a1,a2,a3,a4⟩:=pl;obtain⟨m,⟨o',b1,b2,b3,b4,_⟩,_⟩:=I1.loc;have ne:l≠X.env.locals:=λ z=>by rw[z,b3]at a1;cases a1;rw[a4]at b4;cases b4
   have l1:l<s1.heap.objs.size:=D4 a1;have l2:X.env.locals<s1.heap.objs.size:=D4 b3;refine beq_eq_false_iff_ne.mpr λ z=>?_;have z:s1.heap.objs.size=1:=z;have:∀a b:Nat,a≠b->a<1->b<1->False:=λ a b _ _ _=>by lia
   exact this l X.env.locals ne (z▸l1) (z▸l2)
  refine IV () hr.hd pl.isList ol e2 () e3 λ g tk gk gd gz=>?_;have I2:io X ce σ H1 {s1 with heap:=g,toks:=tk}:=I1.kept (t':=tk) gk;refine Calls.spliced_nil ?_;show wpAny _ _ (evalAll ((do let v <- eval (.Name f fp) X.env;standAt pos;pure v)::[])) _ _ _;refine wpAny_evalAll_cons (G8 (qr I2 Ou W8 (G8 (wpAny_standAt (G9 (wpAny_evalAll_nil ?_)))) zY));obtain⟨o,TV,ep,o1,o2,o3,o4,o5,o6⟩:=gd;have ek:(putAll [] es).map ka=eK Fy:=by rw[Dy,e1];rfl
  have ev:TV.toList.map (·.key)=((eK Fy).map (·.2)).map Value.ref:=by rw[o4,<- ek,D6,D6,D6];rfl
  have hsz:TV.size<64:=by
   have a:=xT es [];have b:TV.toList.length=(putAll [] es).length:=by rw[o4,B4]
   rw[l6]at b;simp at a;lia
  have ez:(eK Fy).map (λ p=>V.ref p.2)=((eK Fy).map (·.2)).map V.ref:=by rw[D6];rfl
  have lz:((eK Fy).map (λ p=>V.ref p.2)).length<64:=by
   have b:(eK Fy).length=TV.size:=by have:=J3 List.length ev;simpa using this.symm
   rw[B4,b];exact hsz
  have go:Goes X q s1.heap.objs.size (((eK Fy).map (·.2)).map Value.ref) {s1 with heap:=g,toks:=tk}:=by intro Q' hQ;refine GV (s:={s1 with heap:=g,toks:=tk}) two hr.hd (⟨o,o1,o2,o3⟩:Raw g _ TV ep) hsz λ Dd kS g0 g' Fu TQ a1 a2 a3 a4 a5 a6 a7=>?_;rw[ev];exact hQ Dd kS g0 g' Fu TQ a1 a2 a3 a4 a5 a6 a7
  exact wC G bd hr I2 (by rw[ez];exact oh _) go lz R key h0 hc hk
end
end L2
namespace L3
open PySem.Spec L2 L5
def zi(r:List Int):D:=.tup (r.map D.int)
def pairD(r:List Int):D:=.tup [zi r,.bl true]
theorem qA:∀a b:List Int,(a.map Sum.inl:List Key)=b.map Sum.inl->a=b
 |[],[],_=>rfl
 |[],_::_,h=>by cases h
 |_::_,[],h=>by cases h
 |x::a,y::b,h=>by simp only[C6,List.cons.injEq,Sum.inl.injEq]at h;rw[h.1,qA a b h.2]
theorem sr:∀{cr:List (List Int)} {ys:List V},aE K H (cr.map pairD) ys->∃kp,iQ K H ys kp/\kp.map (·.1)=cr.map λ r=>(r.map Sum.inl:List Key)
 |[],ys,h=>by cases(au.mp h);exact⟨[],trivial,rfl⟩
 |r::cr,ys,h=>by obtain⟨y,ys,rfl,h1,h2⟩:=af.mp h;obtain⟨kp,a1,a2⟩:=sr h2;obtain⟨t,xs,rfl,hq,hd⟩:=aP.mp h1;obtain⟨x1,r1,rfl,b1,hd⟩:=af.mp hd;obtain⟨x2,r2,rfl,b2,hd⟩:=af.mp hd;cases(au.mp hd);obtain⟨m,zs,rfl,uI,hd2⟩:=aP.mp b1;rw[cY hd2]at uI;exact⟨((r.map Sum.inl:List Key),m)::kp,⟨⟨t,x2,r,rfl,hq,rfl,uI⟩,a1⟩,by simp[a2]⟩
theorem kQ:∀{fs:List (List Key×be)} {rs:List (List Int)},(∀p∈fs,∃r:List Int,p.1=r.map Sum.inl/\fj K H p.2 (r.map V.int))->fs.map (·.1)=rs.map (λ r=>(r.map Sum.inl:List Key))->aE K H (rs.map zi) (fs.map λ p=>V.ref p.2)
 |[],[],_,_=>by simp[au]
 |[],_::_,_,h=>by cases h
 |_::_,[],_,h=>by cases h
 |p::fs,r::rs,h,e=>by simp only[C6,List.cons.injEq]at e;obtain⟨r',e1,e2⟩:=h p (by simp);have er:r'=r:=qA _ _ (e1.symm.trans e.1);subst er;rw[C6,C6,af];refine⟨_,_,rfl,aP.mpr ⟨p.2,_,rfl,e2,j_ r'⟩,kQ (λ q m=>h q (by simp[m])) e.2⟩
def qR(sp:cO)(d:D)(M:Mem)(Q:bI):Prop:=∃(l:be)(cr:List (List Int))(b:Bool)(R:List D->Mem->Prop)(key:Nat->Ky),d=.ref l/\M l=some (.lst (cr.map pairD))/\cr.length<64/\R [] M/\
 (∀dE M e,R dE M->((once cr).map zi)[dE.length]?=some e->sp [e] M (λ k M'=>R (dE++[k]) M'))/\
 ∀dE M,R dE M->dE.length=(once cr).length->(∀i k,dE[i]?=some k->AA b M k (key i))/\∀p out,M p=none->Out (λ i j=>klt (key i) (key j)) ((once cr).map zi) D.bh out->Q (.ref p) (ak M p (.lst out))
def xo(sp:cO)(te:bT):bT:=λ δ M Q=>te δ M λ d M1=>qR sp d M1 Q
section
variable {p gC fp kp:Pos}{f:Str}
def uP(d:bb X.prog X.w X.K X.mg X.base k f ps sp)(hr:cR (k+2) X.A)(hg:Gl X "sorted")(hm:X.mg "sorted"=none)(Xh:Gl X "dict")(W9:X.mg "dict"=none)(Ou:Gl X f)(he:WE X e te)(zY:nV f:=by decide)(hs:starEach [.Call (.Name "dict" p2) [e] [] gC] X.env=[(false,eval (.Call (.Name "dict" p2) [e] [] gC) X.env)]:=by rfl)(nO:backTo pos (starEach [.Call (.Name "dict" p2) [e] [] gC] X.env)=(false,eval (.Call (.Name "dict" p2) [e] [] gC) X.env)::backTo pos (starEach [] X.env):=by rfl)(iT:(backTo pos (starEach [.Call (.Name "dict" p2) [e] [] gC] X.env)).any (·.1)=false:=by rfl)(ht:starEach [e] X.env=[(false,eval e X.env)]:=by rfl)(Tc:ux X e []:=by rfl)(WR:(backTo gC (starEach [] X.env)).any (·.1)=false:=by rfl):WE X (.Call (.Name "sorted" p) [.Call (.Name "dict" p2) [e] [] gC] [⟨some "key",.Name f fp,kp⟩] pos) (xo sp te):=by
 replace he:=he.h;refine⟨?_⟩;refine bN (sj d hr hg hm Xh W9 Ou he zY hs nO iT ht Tc WR) ?_;rintro σ H Q ⟨δ,M,Q2,hs,hm,q,k⟩;refine⟨δ,M,_,hs,hm,q,λ x H1 d M1 hd bV t1 q1=>?_⟩;obtain⟨l,cr,b,R,key,rfl,hM,tq,h0,hc,hk⟩:=q1;cases(aH.mp hd);obtain⟨ys,hy,nG⟩:=bV l _ hM;have hlen:=nG.length;rw[B4]at hlen;obtain⟨Fy,p1,p2⟩:=sr nG;have hd2:aE X.K H1 ((once cr).map zi) ((eK Fy).map λ p=>V.ref p.2):=kQ (λ p m=>p1.row p (vB m)) (tG _ qA p2);have W':=hd2.length;rw[B4 (f:=zi)]at W';refine⟨l,ys,_,Fy,b,λ ar H'=>∃dE M',aE X.K H' dE ar/\lf X.K H' M'/\ay H1 H'/\R dE M',key,rfl,dv.of hy,(),p1,rfl,⟨[],M1,by rw[au],bV,ay.refl _,h0⟩,?_,?_⟩
 ·rintro ar H2 v ⟨dE,M2,h1,h2,t2,hR⟩ hv;have Jw:=h1.length;obtain⟨e,e1,e2⟩:=(aE.mono t2 _ hd2).mU hv;refine⟨[e],M2,_,aE.one e2,h2,hc dE M2 e hR (by rw[<- Jw];exact e1),λ w H3 d3 M3 rD sY t3 q3=>?_⟩;exact⟨dE++[d3],M3,(aE.mono t3 dE h1).append (aE.one rD),sY,t2.trans t3,q3⟩
 ·rintro ar H2 ⟨dE,M2,h1,h2,t2,hR⟩ hl;have Jw:=h1.length;obtain⟨a1,a2⟩:=hk dE M2 hR ();refine⟨λ i w hw=>?_,λ p out hp ho=>?_⟩
  ·obtain⟨d3,e3,rD⟩:=h1.mU hw;exact(a1 i d3 e3).v9 rD h2
  ·obtain⟨π,p1,p2,rfl⟩:=ho;rw[W']at p1 p2;refine k _ _ (.ref p) _ (aH.mpr rfl) (cS hp (jZ (aE.mono t2 _ hd2) π.toList) h2) (t1.trans (t2.trans (ay.laid hp))) (a2 p _ (h2.free hp) ⟨π,by rw[B4];exact p1,by rw[B4];exact p2,rfl⟩)
end
def BQ{Q:bI}(h:te δ M λ d M1=>qR sp d M1 Q):xo sp te δ M Q:=h
end L3
namespace L4
open PySem.Spec L2 L3 L5
section
variable {p gC fp kp:Pos}{f:Str}
end
end L4
namespace L5
open PySem.AutoSeq1 (wpAny_loadPart')
abbrev Vh(T:String)(h:Heap)(l:be):Heap:=h.push {cls:=.type T,data:=.fields #[.ref l,.int 0 0]}
abbrev XH(T:String)(h:Heap)(l:be):Heap:=(Vh T h l).push {cls:=.type "enumerate",data:=.fields #[.none,.bool false,.ref h.objs.size,rawInt 0,.none,.none]}
set_option tactic.hygienic true in
def vW(k:NK T S)(l:be)(vs:Array al):Meets (Builtin.«enumerate.__new__» ⟨[.type "enumerate",.ref l],[]⟩) (λ _ R s=>S s.heap l vs/\R (.ok (.ret (.ref (Vh T s.heap l).objs.size))) {s with heap:=XH T s.heap l}):=
 .of_wp λ prog w A R s h=>by
  obtain⟨hp,g,d,tk,os⟩:=s;obtain⟨a1,h⟩:=h;have se:=sub_enumerate;have aT:S (Shared.heap ⟨hp,g,d,tk,os⟩) l vs:=a1
  wp_walk using k.start aT
  refine wpAny_stack_any λ st=>G9 ?_;split
  ·rename_i c _ _ _ _ _;cases(c==Value.type "enumerate")
   all_goals
    wp_walk using k.start aT
    exact⟨_,rfl,h⟩
  ·wp_walk using k.start aT
   exact⟨_,rfl,h⟩
def IU(kk:NK T S){vs:Array al}(a1:S s.heap l vs)(k:∀h',IsEnum h' (s.heap.objs.size+1) s.heap.objs.size 0 .none->dG T h' s.heap.objs.size l 0->(∀f o,s.heap.get? f=some o->h'.get? f=some o)->Q (.ref (s.heap.objs.size+1)) {s with heap:=h'}):wpAny (model prog w) A (call (.type "enumerate") [.ref l]) Q E s:=by refine callType_new F.called_enumerate (by decide) (F.typeCall_enumerate_1 _) (F.newCall_enumerate_1 _) (λ ob=>F.args_object_init_2 ob _) F.entry_enumerate_new (vW kk l vs) ⟨a1,?_⟩;have e1:(Vh T s.heap l).objs.size=s.heap.objs.size+1:=C1 ..;have g2:(XH T s.heap l).get? (Vh T s.heap l).objs.size=some _:=l7 _ rfl;have g1:(XH T s.heap l).get? s.heap.objs.size=some _:=i7 _ (l7 s.heap rfl);rw[e1]at g2;show _/\_;rw[e1];exact⟨⟨_,g2,rfl⟩,k _ g2 ⟨_,g1,rfl,rfl⟩ λ f o x=>i7 _ (i7 _ x)⟩
def CY(k:NK T S)(hA:A.handled=none)(j l:be)(ne:l≠j)(vs:Array al):Draws prog w A j [j,l] vs.size (λ i v=>vs[i]?=some v) (λ i h=>dG T h j l i/\S h l vs) where
 live:=λ _ _ st=>let⟨⟨o,ho,_⟩,_⟩:=st;⟨o,ho⟩
 frame:=λ _ _ _ st q=>let⟨⟨o,ho,r⟩,su⟩:=st;⟨⟨o,q j (by simp) o ho,r⟩,k.keep su λ o e=>q l (by simp) o e⟩
 item:=λ i s Q E hi st kk=>k.item st.1 st.2 (c3 hi) λ h' a b=>kk _ h' s.toks (c3 hi) ⟨a,k.keep st.2 λ o e=>b.extBut _ _ ne e⟩ b
 done:=λ s Q E st kk=>k.stop hA st.1 st.2 (i6 (G3 _)) kk
end L5
namespace L2
open PySem.Spec PyProof.Rows L5
def Vr(K:J8)(b:Bool)(l:be):It:=
 ⟨λ i H=>∃xs x,Sq b K H l xs/\xs[i]?=some x,
  λ i H v H'=>∃(p:be)(x:V),H p=none/\v=.ref p/\H'=lm H p (.tup [.int i,x])/\∀xs,Sq b K H l xs->xs[i]?=some x,
  λ i H=>∃xs,Sq b K H l xs/\xs.length<=i⟩
def tnE(b:Bool)(e j l:be)(i:Nat)(h:Heap):Prop:=(∃old,IsEnum h e j i old)/\dG (UH b) h j l i
def yZ{k0}{e j:be}(b:Bool)(B:e≠j)(l:be):Turn P w K (.Tuple es k0 pos) (Vr K b l) [e,j] e (tnE b e j l) where
 mem:=by simp
 obj:=λ i h st c hc=>by
  obtain⟨⟨old,he⟩,⟨oa,ha,_,da⟩⟩:=st;rcases C7.mp hc with rfl|hc
  ·exact⟨_,he,λ v z=>by cases z⟩
  rcases C7.mp hc with rfl|hc
  ·exact⟨_,ha,λ v z=>by rw[da]at z;cases z⟩
  ·cases hc
 keep:=λ i h h' st q=>by obtain⟨⟨old,he⟩,⟨oa,ha,r⟩⟩:=st;exact⟨⟨old,q e (by simp) _ he⟩,⟨oa,q j (by simp) _ ha,r⟩⟩
 item:=by
  intro X hP hw hK hc i ce s σ H E I hf st hg;subst hP hw hK;obtain⟨xs,x,hl,hx⟩:=hg;obtain⟨⟨old,he⟩,hj⟩:=st;obtain⟨Oa,r1,p1⟩:=eE I hl;obtain⟨u1,e1,q1⟩:=r1.get hx;have lj:l≠j:=gL I (hf j (by simp)) hl;have le:l≠e:=gL I (hf e (by simp)) hl;have hi:i<Oa.toArray.size:=by have:=(c5.mp e1).1;simpa using this
  refine wpAny_pyNext_enum_itemD (CY (jh b) (A:=X.A.in1) (I.ok.hd hc) j l lj Oa.toArray) he ⟨hj,p1⟩ hi B (by simp;exact⟨B,J4 le⟩) λ y g tk g1 g2 g3 g4 g5 g6=>?_;have ey:y=u1:=by rw[getElem?_toArray,e1]at g1;cases g1;rfl
  subst ey;have hn:H s.heap.objs.size=none:=I.bP.fresh (G3 _);have I1:io X ce σ H {s with heap:=g,toks:=tk+1}:=il (t':=tk+1) I (ch:=[e,j]) (λ c o hc e=>g6 c o (λ z=>hc (by simp[z])) (λ z=>hc (by simp[z])) e) hf;refine⟨_,rfl,wpAny_letOwnedTupleGo_enum (s:={s with heap:=g,toks:=tk+1}) g2 λ g' e' sb=>?_⟩;have I2:io X ce σ H {s with heap:=g',toks:=tk+1}:=il (s:={s with heap:=g,toks:=tk+1}) (t':=tk+1) (ch:=[e]) I1 (λ c o hc q=>sb.extBut _ _ (λ z=>hc (by simp[z])) q) (λ c hc=>hf c (by simp at hc ⊢;exact .inl hc));have fo:=I.iH (H':=H) (G3 s.heap.objs.size) hn;have Zl:e<s.heap.objs.size:=D4 he;have ltj:j<s.heap.objs.size:=let⟨_,q,_⟩:=hj;D4 q
  have t5:=sb.extBut _ _ (G1 Zl) g4;have I3:io X ce σ (lm H s.heap.objs.size (.tup [.int i,x])) {s with heap:=g',toks:=tk+1}:=io.oq I2 hn ⟨show 2<=sizeLine by decide,[.int i tk,y],.cons ⟨tk,rfl⟩ (.cons q1 .nil),⟨_,t5,rfl,_,rfl⟩⟩ fo.2.1 (D7 I.sz (G3 _)) fo.2.2.2.2.1 fo.2.2.2.2.2;refine⟨.ref s.heap.objs.size,_,I3,rfl,⟨s.heap.objs.size,x,hn,rfl,rfl,λ Vx h'=>by rw[uV I h' hl];exact hx⟩,⟨⟨_,by simpa using e'⟩,?_⟩,λ c hc=>?_⟩
  ·obtain⟨o,ho,r⟩:=g3.1;exact⟨o,sb.extBut _ _ (J4 B) ho,r⟩
  ·have fR:c<s.heap.objs.size:=by
    simp at hc;rcases hc with rfl|rfl
    ·exact Zl
    ·exact ltj
   rw[aX (D3 fR)];exact(hf c hc).1
 done:=by intro X hP hw hK hc i ce s σ H E I hf st hg;subst hP hw hK;obtain⟨xs,hl,hx⟩:=hg;obtain⟨⟨old,he⟩,hj⟩:=st;obtain⟨Oa,r1,p1⟩:=eE I hl;have l1:=r1.length;have lj:l≠j:=gL I (hf j (by simp)) hl;have hT:s.TypeIs (.ref e) "enumerate":=⟨_,he,rfl⟩;unfold pyNext;refine G8 (wpAny_attempt (g9 (name:=aU "__next__") hT F.slot_enumerate_next (A0 F.slot_enumerate_next hT F.entry_enumerate_next ?_ (F.args_enumerate_next_1 _))));refine G8 (m:=field (.ref e) 2) (G6 he rfl (x:=.ref j) rfl ?_);refine G8 ((jh b).stop (A:=X.A.in1) (I.ok.hd hc) hj p1 (i6 (by simp;lia)) λ g c g1 g2=>?_);obtain⟨o,ho,uJ⟩:=g2;refine G8 (wpAny_isInstance (T:="StopIteration") (b:=true) ⟨o,ho,uJ⟩ isSubtype_stop (G9 ⟨rfl,?_⟩));exact il (t':=s.toks) (ch:=[j]) I (λ b o hb q=>g1 b o (λ z=>hb (by simp[z])) q) λ b hb=>hf b (by simp at hb ⊢;exact .inr hb)
 self:=λ _ _ _ _ _ st h=>wpAny_pyIter_enum st.1.choose_spec h
section
variable {k0:_}{a:Expr}{ta:TA}{p:Pos}
def S7(K:J8)(ta:TA):TI:=λ σ H R=>ta σ H λ vs H1=>∃(b:Bool)(l:be),vs=[.ref l]/\(∃xs,Sq b K H1 l xs)/\R (Vr K b l) H1
def Ig(hg:Gl X "enumerate")(hm:X.mg "enumerate"=none)(ha:PA X [a] ta)(hs:starEach [a] X.env=[(false,eval a X.env)]:=by rfl)(iT:starEach [] X.env=[]:=by rfl):PI X (.Tuple es k0 jM) (.Call (.Name "enumerate" p) [a] [] pos) (S7 X.K ta):=by
 intro ce s σ H R I h;refine Call_ (eI I hg hm boot_enumerate (b0 (cq (ha pos ce s σ H _ I h) λ us s1 ⟨vs,H1,I1,r1,q1⟩=>?_) (by show _=_;rw[hs,iT]) (by show _=_;rw[iT];rfl)));obtain⟨b,l,e,⟨xs,hl⟩,q⟩:=q1;subst e;obtain⟨u1,rfl,r⟩:=vals1 r1;cases(show u1=Value.ref l from r);obtain⟨Oa,r1,p1⟩:=eE I1 hl;refine IU (jh b) p1 λ g g1 g2 g7=>wpAny_pyIter_enum (s:={s1 with heap:=g}) g1 ?_;have I2:io X ce σ H1 {s1 with heap:=g}:=I1.kept (t':=s1.toks) g7;have fr:∀c,s1.heap.objs.size<=c->gp X ce H1 c:=λ c hc=>I1.iH hc (I1.bP.fresh hc);have ne:s1.heap.objs.size+1≠s1.heap.objs.size:=()
 refine⟨_,[s1.heap.objs.size+1,s1.heap.objs.size],_,_,H1,rfl,I2,yZ b ne l,⟨⟨_,g1⟩,g2⟩,λ c hc=>fr c ?_,q⟩;simp at hc;rcases hc with rfl|rfl<;>lia
end
end L2
namespace L3
open PySem.Spec L2 L5
def dZ(ds:List D):List D:=(List.range ds.length).map λ(i:Nat)=>D.tup [.int (i:Int),ds.getD i D.bh]
def Ad(ds:List D):(dZ ds).length=ds.length:=by simp[dZ]
def kindB:D->Bool
 | .tup _=>true
 |_=>false
def f_{x:V}(e:cK M d=some ds)(h:kt K H d x)(hm:lf K H M):∃p xs,x=.ref p/\Sq (kindB d) K H p xs/\aE K H ds xs:=by
 cases d with
 |tup es=>cases(show some es=some ds from e);obtain⟨p,xs,rfl,h1,h2⟩:=aP.mp h;exact⟨p,xs,rfl,h1,h2⟩
 |fl es=>cases(show some es=some ds from e);obtain⟨p,xs,rfl,h1,h2⟩:=iJ.mp h;exact⟨p,xs,rfl,h1.sq,h2⟩
 |ref a=>cases(aH.mp h);obtain⟨xs,h1,h2⟩:=c_ (show bc M a=some ds from e) hm;exact⟨a,xs,rfl,dv.of h1,h2⟩
 |_=>cases e
def nh(x:D)(M:Mem):Option (List D):=(cK M x).map dZ
def zU{x:D}(hx:kt K H1 x (.ref a)):nW K H1 (Vr K (kindB x) a) (.fn (nh x)):=λ H M fs t hm e=>by
 have e:(cK M x).map dZ=some fs:=e;cases e1:cK M x with
 |none=>rw[e1]at e;cases e
 |some ds=>rw[e1]at e;cases e;obtain⟨p,xs,e3,q1,x1⟩:=f_ e1 (kt.mono t x hx) hm;cases e3;have l1:=x1.length;rw[Ad];refine⟨λ i hi=>⟨xs,xs[i]'(),q1,by simp⟩,λ i hi=>⟨xs,q1,()⟩,λ i v H' hi y=>?_⟩;obtain⟨p,v,hp,rfl,rfl,hx⟩:=y;obtain⟨d,d1,d2⟩:=x1.mU (hx xs q1);refine⟨ay.laid hp,hm.laid hp,.tup [.int i,d],?_,fU hp (af.mpr ⟨.int i,[v],rfl,aw.mpr rfl,aE.one d2⟩)⟩;obtain⟨z1,w1⟩:=c5.mp d1;simp[dZ,z1,w1]
def KY(ta:ij):jH:=λ δ M R=>ta δ M λ ds M1=>match ds with
 |[.tup xs]=>R (.fix (dZ xs)) M1
 |[x]=>(∃zs,cK M1 x=some zs)/\R (.fn (nh x)) M1
 |_=>False
section
variable {k0:_}{a:Expr}{p:Pos}
def pB(hm:X.mg "enumerate"=none)(ha:WA X [a] ta)(hg:Gl X "enumerate":=by rfl)(hs:starEach [a] X.env=[(false,eval a X.env)]:=by rfl)(iT:starEach [] X.env=[]:=by rfl):WI X (.Tuple es k0 jM) (.Call (.Name "enumerate" p) [a] [] pos) (KY ta):=⟨have ha:=ha.h;sf (Ig hg hm ha hs iT) λ σ H R ⟨δ,M,R2,hs,hm,q,k⟩=>by
 refine⟨δ,M,_,hs,hm,q,λ xs H1 ds M1 hd bV t1 q1=>?_⟩;have go:∀x,ds=[x]->(∃zs,cK M1 x=some zs)->(∀J,nW X.K H1 J (.fn (nh x))->R J H1)->∃(b:Bool)(l:be),xs=[.ref l]/\(∃xs,Sq b X.K H1 l xs)/\R (Vr X.K b l) H1:=by rintro x rfl ⟨zs,hz⟩ hR;obtain⟨vx,r,rfl,hx,hr⟩:=af.mp hd;cases(au.mp hr);obtain⟨p,vs,rfl,q1,_⟩:=f_ hz hx bV;exact⟨_,p,rfl,⟨vs,q1⟩,hR _ (zU hx)⟩
 match ds,q1 with
 |[x],q1=>
  by_cases ht:∃xs,x=.tup xs
  ·obtain⟨xs,rfl⟩:=ht;exact go _ rfl ⟨_,rfl⟩ λ J hJ=>k J H1 (.fix (dZ xs)) M1 (λ H M ds t hm e=>hJ H M ds t hm e) bV t1 q1
  ·have q2:(∃zs,cK M1 x=some zs)/\R2 (.fn (nh x)) M1:=by cases x<;>first|exact q1|exact bi ⟨_,rfl⟩ ht
   exact go x rfl q2.1 λ J hJ=>k J H1 _ M1 hJ bV t1 q2.2
 |[],q1=>exact q1.elim
 |x::y::r,q1=>cases x<;>exact q1.elim⟩
end
end L3
namespace L4
open PySem.Spec L2 L3 L5
section
variable {k0:_}{a:Expr}{p:Pos}
end
end L4
namespace L2
open PySem.Spec PyProof.Rows
def Iy:eN X (binaryOp .Add) (λ x y H Q=>∃a b ys,x=.ref a/\y=.ref b/\fj X.K H a []/\fj X.K H b ys/\Q (.ref b) H):=by intro ce s σ H x y v u Q I rx ry h;obtain⟨a,b,ys,rfl,rfl,ha,hb,q⟩:=h;cases rx;cases ry;obtain⟨i1,r1,p1,_⟩:=I.tuple ha;obtain⟨i2,r2,p2,_⟩:=I.tuple hb;cases r1;obtain⟨⟨c1,d1,a1,l1⟩,o1,k1,n1,e1⟩:=id p1;obtain⟨⟨c2,d2,a2,l2⟩,o2,k2,n2,e2⟩:=id p2;cases(show c1=.type "tuple" from k1);cases(show a1=_ from e1);cases(show c2=.type "tuple" from k2);cases(show a2=_ from e2);exact concat_meets ⟨_,o1,rfl⟩ ⟨_,o2,rfl⟩ noFill_tuple_add seq_tuple_add PySem.F.slot_tuple_add PySem.F.entry_tuple_add (PySem.F.args_tuple_add_2 _ _) (tuple_addW0 a b #[] i2.toArray n1 n2 d1 d2 l1 l2 rfl) ⟨o1,o2,⟨.ref b,H,I,rfl,q⟩⟩
end L2
namespace L3
open PySem.Spec L2
def oU:fq:=λ x y M Q=>JQ x y M Q\/∃ys,x=.tup []/\y=.tup ys/\Q (.tup ys) M
def bx:fm X (binaryOp .Add) oU:=by
 obtain⟨r,h1,h2⟩:=(SG:fm X (binaryOp .Add) JQ);refine⟨_,h1.or Iy,λ x y d e H M Q2 Q hd he hm q k=>?_⟩;rcases q with q|⟨ys,rfl,rfl,q⟩
 ·exact .inl (h2 x y d e H M Q2 Q hd he hm q k)
 ·obtain⟨p,vs,rfl,hp,hx⟩:=aP.mp hd;obtain⟨p2,ws,rfl,nF,hy⟩:=aP.mp he;cases(au.mp hx);exact .inr ⟨p,p2,ws,rfl,rfl,hp,nF,k _ H _ M (aP.mpr ⟨p2,ws,rfl,nF,hy⟩) hm (ay.refl H) q⟩
def yA:D->List D->Mem->bI->Prop:=λ x vs M Q=>∃p q ds es,x=.ref p/\vs=[.ref q]/\M p=some (.lst ds)/\M q=some (.lst es)/\ds.length+es.length<=sizeLine/\Q .bh (ak M p (.lst (ds++es)))
def fF:Pa X "list.extend" yA:=⟨xu,zJ,λ x xs d ds H M Q2 Q hx hd hm q k=>by
 obtain⟨p,p2,es,fs,rfl,rfl,hM,Tx,hz,q⟩:=q;cases(aH.mp hx);obtain⟨v,r,rfl,hv,hr⟩:=af.mp hd;cases(au.mp hr);cases(aH.mp hv);obtain⟨zs,h1,h2⟩:=hm p _ hM;obtain⟨ys,g1,g2⟩:=hm p2 _ Tx;have t:=ay.lst (o:=.lst (zs++ys)) h1;refine⟨p,p2,zs,ys,rfl,rfl,h1,g1,by rw[h2.length,g2.length];exact hz,k _ _ .bh _ (dm.mpr rfl) (hm.put (u:=.lst (es++fs)) t ⟨_,bL,?_⟩) t q⟩;exact(aE.mono t es h2).append (aE.mono t fs g2)⟩
section
variable {Q:bI}
def jS{es:List D}(h:M p=some (.lst ds))(g:M q=some (.lst es))(hz:ds.length+es.length<=sizeLine)(k:Q .bh (ak M p (.lst (ds++es)))):yA (.ref p) [.ref q] M Q:=⟨p,q,ds,es,rfl,rfl,h,g,hz,k⟩
def Cj{i:Int}(q:Q (.int (i+j)) M):oU (.int i) (.int j) M Q:=.inl q
def dN{i j:Str}(h:i.length+j.length<=sizeLine)(q:Q (.str (i++j)) M):oU (.str i) (.str j) M Q:=.inl ⟨h,q⟩
def jc{b:be}{xs ys:List D}(ha:M a=some (.lst xs))(hb:M b=some (.lst ys))(h:xs.length+ys.length<=sizeLine)(q:∀p,M p=none->Q (.ref p) (ak M p (.lst (xs++ys)))):oU (.ref a) (.ref b) M Q:=.inl (HQ ha hb h q)
def Ci{xs ys:List D}(h:xs.length+ys.length<=sizeLine)(q:Q (.tup (xs++ys)) M):oU (.tup xs) (.tup ys) M Q:=by
 cases xs with
 |nil=>exact .inr ⟨ys,rfl,rfl,q⟩
 |cons x xs=>exact .inl ⟨by simp,h,q⟩
end
section
variable {δc:cH}
def Qr(h:n<=10000):n<=sizeLine:=D7 h (by decide)
def O1{β:Type}{xs:List α}{enc:α->D}(vX:β->D)(I:List β->Mem->Prop)(hn:xs.length<=10000)(h0:I [] M1)(hs:∀(i:Nat)(x:α)(ys:List β)(M:Mem)(N:D->Mem->Prop),xs[i]?=some x->ys.length=i->I ys M->(∀b M',I (ys++[b]) M'->N (vX b) M')->g (enc x) δc M λ δ2 M2=>te δ2 M2 N)(hd:∀ys M,ys.length=xs.length->I ys M->Qe (ys.map vX) M):∃(B:Nat)(W:Nat->List D->Mem->Prop),W 0 [] M1/\∀i dL M,W i dL M->i<=B/\dL.length<=sizeLine/\match ii (.fix (xs.map enc)) M with
   |none=>False
   |some ds=>match ds[i]? with
    |none=>i=ds.length/\Qe dL M
    |some d=>g d δc M λ δ2 M2=>rQ δ2 M2 λ b M3=>if b=true then te δ2 M3 λ y M4=>W (i+1) (dL++[y]) M4 else W (i+1) dL M3:=by
 refine fh (λ i dL M=>∃ys:List β,dL=ys.map vX/\ys.length=i/\I ys M) ⟨[],rfl,rfl,h0⟩ (λ i dL M hi h=>?_) (λ i d dL M hd h=>?_) (λ dL M h=>?_)
 ·obtain⟨ys,rfl,h1,_⟩:=h;rw[B4]at hi ⊢;exact Qr ()
 ·obtain⟨ys,rfl,h1,h2⟩:=h;rw[w6]at hd;cases e:xs[i]? with
  |none=>rw[e]at hd;cases hd
  |some x=>rw[e]at hd;cases hd;refine hs i x ys M _ e h1 h2 λ b M' hb=>⟨ys++[b],by rw[B6];rfl,by simp[h1],hb⟩
 ·obtain⟨ys,rfl,h1,h2⟩:=h;rw[B4]at h1;exact hd ys M h1 h2
def uc{β:Type}{xs:List α}(enc:α->D)(vX:β->D)(I:List β->Mem->Prop)(hn:xs.length<=10000)(h0:I [] M1)(hl:∀ys M,I ys M->M a=some (.lst (xs.map enc)))(hs:∀(i:Nat)(x:α)(ys:List β)(M:Mem)(N:D->Mem->Prop),xs[i]?=some x->ys.length=i->I ys M->(∀b M',I (ys++[b]) M'->N (vX b) M')->g (enc x) δc M λ δ2 M2=>te δ2 M2 N)(hd:∀ys M,ys.length=xs.length->I ys M->Qe (ys.map vX) M):∃(B:Nat)(W:Nat->List D->Mem->Prop),W 0 [] M1/\∀i dL M,W i dL M->i<=B/\dL.length<=sizeLine/\match ii (.at a) M with
   |none=>False
   |some ds=>match ds[i]? with
    |none=>i=ds.length/\Qe dL M
    |some d=>g d δc M λ δ2 M2=>rQ δ2 M2 λ b M3=>if b=true then te δ2 M3 λ y M4=>W (i+1) (dL++[y]) M4 else W (i+1) dL M3:=by
 refine eX (ds:=xs.map enc) (λ i dL M=>∃ys:List β,dL=ys.map vX/\ys.length=i/\I ys M) ⟨[],rfl,rfl,h0⟩ (λ i dL M hi h=>?_) (λ i dL M hi h=>?_) (λ i d dL M hd h=>?_) (λ dL M h=>?_)
 ·obtain⟨ys,rfl,h1,h2⟩:=h;exact hl ys M h2
 ·obtain⟨ys,rfl,h1,_⟩:=h;rw[B4]at hi ⊢;exact Qr ()
 ·obtain⟨ys,rfl,h1,h2⟩:=h;rw[w6]at hd;cases e:xs[i]? with
  |none=>rw[e]at hd;cases hd
  |some x=>rw[e]at hd;cases hd;refine hs i x ys M _ e h1 h2 λ b M' hb=>⟨ys++[b],by rw[B6];rfl,by simp[h1],hb⟩
 ·obtain⟨ys,rfl,h1,h2⟩:=h;rw[B4]at h1;exact hd ys M h1 h2
def take_one{l:List α}{a:α}(h:l[i]?=some a):l.take (i+1)=l.take i++[a]:=by rw[take_add_one,h];rfl
def lO{xs:List α}{enc:α->D}(out:α->D)(hn:xs.length<=10000)(hs:∀(i:Nat)(x:α)(N:D->Mem->Prop),xs[i]?=some x->N (out x) M1->g (enc x) δc M1 λ δ2 M2=>te δ2 M2 N)(hd:Qe (xs.map out) M1):∃(B:Nat)(W:Nat->List D->Mem->Prop),W 0 [] M1/\∀i dL M,W i dL M->i<=B/\dL.length<=sizeLine/\match ii (.fix (xs.map enc)) M with
   |none=>False
   |some ds=>match ds[i]? with
    |none=>i=ds.length/\Qe dL M
    |some d=>g d δc M λ δ2 M2=>rQ δ2 M2 λ b M3=>if b=true then te δ2 M3 λ y M4=>W (i+1) (dL++[y]) M4 else W (i+1) dL M3:=by
 refine O1 (β:=α) out (λ ys M=>M=M1/\ys=xs.take ys.length) hn ⟨rfl,rfl⟩ (λ i x ys M N hx hy h k=>?_) (λ ys M hy h=>?_)
 ·obtain⟨rfl,h⟩:=h;refine hs i x N hx (k x M ⟨rfl,?_⟩);rw[n9,j4,take_one (a:=x) (by rw[hy];exact hx),<- h]
 ·obtain⟨rfl,h⟩:=h;rw[hy,z9]at h;rw[h];exact hd
def kh{xs:List α}(enc out:α->D)(hn:xs.length<=10000)(hl:M1 a=some (.lst (xs.map enc)))(hs:∀(i:Nat)(x:α)(N:D->Mem->Prop),xs[i]?=some x->N (out x) M1->g (enc x) δc M1 λ δ2 M2=>te δ2 M2 N)(hd:Qe (xs.map out) M1):∃(B:Nat)(W:Nat->List D->Mem->Prop),W 0 [] M1/\∀i dL M,W i dL M->i<=B/\dL.length<=sizeLine/\match ii (.at a) M with
   |none=>False
   |some ds=>match ds[i]? with
    |none=>i=ds.length/\Qe dL M
    |some d=>g d δc M λ δ2 M2=>rQ δ2 M2 λ b M3=>if b=true then te δ2 M3 λ y M4=>W (i+1) (dL++[y]) M4 else W (i+1) dL M3:=by
 refine uc (β:=α) enc out (λ ys M=>M=M1/\ys=xs.take ys.length) hn ⟨rfl,rfl⟩ (λ ys M h=>by rw[h.1];exact hl) (λ i x ys M N hx hy h k=>?_) (λ ys M hy h=>?_)
 ·obtain⟨rfl,h⟩:=h;refine hs i x N hx (k x M ⟨rfl,?_⟩);rw[n9,j4,take_one (a:=x) (by rw[hy];exact hx),<- h]
 ·obtain⟨rfl,h⟩:=h;rw[hy,z9]at h;rw[h];exact hd
def JU{xs:List α}{enc:α->D}(p:α->Bool)(out:α->D)(hn:xs.length<=10000)(hs:∀(i:Nat)(x:α)(N1:D->Mem->Prop)(N2:Mem->Prop),xs[i]?=some x->(p x=true->N1 (out x) M1)->(p x=false->N2 M1)->g (enc x) δc M1 λ δ2 M2=>tt δ2 M2 λ b M3=>if b=true then te δ2 M3 N1 else N2 M3)(hd:Qe ((xs.filter p).map out) M1):∃(B:Nat)(W:Nat->List D->Mem->Prop),W 0 [] M1/\∀i dL M,W i dL M->i<=B/\dL.length<=sizeLine/\match ii (.fix (xs.map enc)) M with
   |none=>False
   |some ds=>match ds[i]? with
    |none=>i=ds.length/\Qe dL M
    |some d=>g d δc M λ δ2 M2=>tt δ2 M2 λ b M3=>if b=true then te δ2 M3 λ y M4=>W (i+1) (dL++[y]) M4 else W (i+1) dL M3:=by
 refine fh (λ i dL M=>M=M1/\dL=((xs.take i).filter p).map out) ⟨rfl,by simp⟩ (λ i dL M hi h=>?_) (λ i d dL M he h=>?_) (λ dL M h=>?_)
 ·obtain⟨_,rfl⟩:=h;rw[B4];refine D7 (length_filter_le _ _) ?_;rw[A3];exact Qr ()
 ·obtain⟨rfl,rfl⟩:=h;rw[w6]at he;cases e:xs[i]? with
  |none=>rw[e]at he;cases he
  |some x=>
   rw[e]at he;cases he;refine hs i x _ _ e (λ hp=>⟨rfl,?_⟩) (λ hp=>⟨rfl,?_⟩)
   ·rw[take_one e,u3,B6];simp[hp]
   ·rw[take_one e,u3,B6];simp[hp]
 ·obtain⟨rfl,rfl⟩:=h;rw[B4,z9];exact hd
def An{xs:List α}(enc:α->D)(p:α->Bool)(out:α->D)(hn:xs.length<=10000)(hl:M1 a=some (.lst (xs.map enc)))(hs:∀(i:Nat)(x:α)(N1:D->Mem->Prop)(N2:Mem->Prop),xs[i]?=some x->(p x=true->N1 (out x) M1)->(p x=false->N2 M1)->g (enc x) δc M1 λ δ2 M2=>tt δ2 M2 λ b M3=>if b=true then te δ2 M3 N1 else N2 M3)(hd:Qe ((xs.filter p).map out) M1):∃(B:Nat)(W:Nat->List D->Mem->Prop),W 0 [] M1/\∀i dL M,W i dL M->i<=B/\dL.length<=sizeLine/\match ii (.at a) M with
   |none=>False
   |some ds=>match ds[i]? with
    |none=>i=ds.length/\Qe dL M
    |some d=>g d δc M λ δ2 M2=>tt δ2 M2 λ b M3=>if b=true then te δ2 M3 λ y M4=>W (i+1) (dL++[y]) M4 else W (i+1) dL M3:=by
 refine eX (ds:=xs.map enc) (λ i dL M=>M=M1/\dL=((xs.take i).filter p).map out) ⟨rfl,by simp⟩ (λ i dL M hi h=>by rw[h.1];exact hl) (λ i dL M hi h=>?_) (λ i d dL M he h=>?_) (λ dL M h=>?_)
 ·obtain⟨_,rfl⟩:=h;rw[B4];refine D7 (length_filter_le _ _) ?_;rw[A3];exact Qr ()
 ·obtain⟨rfl,rfl⟩:=h;rw[w6]at he;cases e:xs[i]? with
  |none=>rw[e]at he;cases he
  |some x=>
   rw[e]at he;cases he;refine hs i x _ _ e (λ hp=>⟨rfl,?_⟩) (λ hp=>⟨rfl,?_⟩)
   ·rw[take_one e,u3,B6];simp[hp]
   ·rw[take_one e,u3,B6];simp[hp]
 ·obtain⟨rfl,rfl⟩:=h;rw[B4,z9];exact hd
end
def gW(xs:List α)(enc:α->D):dZ (xs.map enc)=xs.zipIdx.map λ p=>D.tup [.int (p.2:Int),enc p.1]:=by
 refine ext_getElem? λ i=>?_;unfold dZ;rw[w6,w6,getElem?_zipIdx,B4];by_cases h:i<xs.length
 ·rw[getElem?_range h,c8 h];simp[h]
 ·rw[j7 (by simpa using h),j7 (by simpa using h)];rfl
def J'(R:Src->Mem->Prop)(d:D)(M1:Mem):Prop:=match d with
 | .str z=>R (.fix (dS z)) M1
 | .tup ds=>R (.fix ds) M1
 | .fl ds=>R (.fix ds) M1
 | .ref a=>(match M1 a with
  |some (.lst _)=>R (.at a) M1
  |_=>False)
 |_=>False
def HK{ta:bT}(h:ta δ M (J' R)):S3 ta δ M R:=h
def HL(h:R (.fix ds) M):J' R (.tup ds) M:=h
def HM(h:R (.fix (dS z)) M):J' R (.str z) M:=h
def bM(hM:M a=some (.lst ds))(h:R (.at a) M):J' R (.ref a) M:=by show(match M a with|some (.lst _)=>R (.at a) M|_=>False);rw[hM];exact h
end L3
namespace KK
open L3 L4 L5
open L2 hiding aS pO
def Lh(c:be)(p b sd ct:Int):List D:=[.ref c,.int p,.int b,.int sd,.int ct]
structure Flow(M:Mem)(f c:be):Prop where
 ex:∃(ns:List Int)(p b sd ct:Int),M f=some (.lst (Lh c p b sd ct))/\M c=some (.lst (ns.map D.int))/\c≠f/\0<=p/\0<=b/\0<=sd/\sd<2147483647
def pN:cO:=λ ds M Q=>∃(f c:be)(n:Int),ds=[.ref f,.int n]/\Flow M f c/\0<n/\n<1073741824/\∀(d:Int)(o:MO),0<=d->d<n->Flow (ak M f o) f c->Q (.int d) (ak M f o)
structure Fl(f c:be)(M M':Mem):Prop where
 dY:Flow M' f c
 mv:∀b o,b≠f->M b=some o->M' b=some o
def Fl.trans{c:be}{M2:Mem}(a:Fl f c M M1)(b:Fl f c M1 M2):Fl f c M M2:=⟨b.dY,λ c o h e=>b.mv c o h (a.mv c o h e)⟩
def Fl.pick{c:be}{o:MO}(h:Flow (ak M f o) f c):Fl f c M (ak M f o):=⟨h,λ b o' hb e=>by rw[aG hb];exact e⟩
def Flow.there{c:be}(h:Flow M f c):∃o,M f=some o:=by obtain⟨ns,p,b,sd,ct,h,_⟩:=h;exact⟨_,h⟩
def Flow.LL{c:be}(h:Flow M f c):∃o,M c=some o:=by obtain⟨ns,p,b,sd,ct,_,h,_⟩:=h;exact⟨_,h⟩
def Flow.put{c:be}{o:MO}(h:Flow M f c)(n:M q=none):Flow (ak M q o) f c:=by obtain⟨ns,p,b,sd,ct,h1,h2,h3⟩:=h;exact⟨ns,p,b,sd,ct,by rw[aG (λ z=>by rw[z,n]at h1;cases h1)];exact h1,by rw[aG (λ z=>by rw[z,n]at h2;cases h2)];exact h2,h3⟩
theorem Fl.put{c:be}{o:MO}(h:Flow M f c)(n:M q=none):Fl f c M (ak M q o):=⟨h.put n,λ b o' hb e=>by rw[aG (λ z=>by rw[z,n]at e;cases e)];exact e⟩
def Flow.ne{c:be}(h:Flow M f c)(n:M q=none):q≠f/\q≠c:=by
 constructor
 ·intro z;subst z;obtain⟨o,e⟩:=h.there;rw[n]at e;cases e
 ·intro z;subst z;obtain⟨o,e⟩:=h.LL;rw[n]at e;cases e
def Fl.own{c:be}{o:MO}(h:Fl f c M M')(h0:Flow M f c)(n:M q=none):Fl f c M (ak M' q o):=by obtain⟨n1,n2⟩:=h0.ne n;obtain⟨ns,p,b,sd,ct,h1,h2,h3⟩:=h.dY;refine⟨⟨ns,p,b,sd,ct,by rw[aG (J4 n1)];exact h1,by rw[aG (J4 n2)];exact h2,h3⟩,λ b o' hb e=>?_⟩;rw[aG (λ z=>by rw[z,n]at e;cases e)];exact h.mv b o' hb e
def small(h:n<=10000):n<=sizeLine:=D7 h (by decide)
def len_app(x y:Str):(x++y).length=x.length+y.length:=by show(x.cps++y.cps).size=x.cps.size+y.cps.size;simp
def um{d:Int}(h0:0<=d)(h1:d<zs.length):∃z,z∈zs/\fi (zs.map D.str) d=some (.str z):=by
 have hl:d.toNat<zs.length:=()
 have e:((d.toNat:Nat):Int)=d:=()
 have q:fi (zs.map D.str) ((d.toNat:Nat):Int)=some (.str zs[d.toNat]):=cT (by simp[hl]);rw[e]at q;exact⟨_,getElem_mem hl,q⟩
def cZ{lo:Int}(h:(fc lo n)[i]?=some d):i<n/\d=.int (lo+(i:Nat)):=by
 have hi:i<n:=by have:=(c5.mp h).1;rwa [bw]at this
 rw[my hi]at h;exact⟨hi,(B0 h).symm⟩
def take_snoc{l:List α}{a:α}(h:l[i]?=some a):l.take (i+1)=l.take i++[a]:=by rw[take_add_one,h];rfl
def lg(as:List Int):L2.Ky:=(as.sum,as.map λ a=>0-a)
def BB:cO:=λ ds M Q=>∃as:List Int,ds=[row as]/\as.length<=1000/\Q (.tup [.int as.sum,row (as.map λ a=>0-a)]) M
def hG{Q:bI}(h:M p=some (.lst ds))(q:Q (.tup ds) M):qQ [.ref p] M Q:=by show(match bc M p with|some ds=>Q (.tup ds) M|none=>False);unfold bc;rw[h];exact q
def back{v:D}{Q:bI}(h:∀b o,M b=some o->M1 b=some o)(q:Q v M):fin2 Q v M1:=⟨M,λ a o e=>h a o e,q⟩
def Df(h:∀b o,M b=some o->M' b=some o)(n:M' q=none)(x:MO):∀b o,M b=some o->ak M' q x b=some o:=λ b o e=>by rw[aG (λ z=>by rw[<- z,h b o e]at n;cases n)];exact h b o e
abbrev eO:=Str×List (List Int)
def kM(h:eO):D:=.tup [.str h.1,.tup (h.2.map row)]
def mV(g:List eO):D:=.tup (g.map kM)
theorem mY:∀zs:List Str,kN (zs.map D.str)=some (zs.map V.str)
 |[]=>rfl
 |z::zs=>by rw[C6];show(match nc (D.str z),kN (zs.map D.str)with|some v,some vs=>some (v::vs)|_,_=>none)=_;rw[mY zs];rfl
theorem sU(z:Str):∀zs:List Str,K3 (.str z) (zs.map V.str)=zs.contains z
 |[]=>rfl
 |y::ys=>by have ih:=sU z ys;unfold K3 at ih ⊢;rw[C6,any_cons,ih,contains_cons];congr 1;show(y==z)=(z==y);rw[A4,beq_iff_eq,beq_iff_eq];exact eq_comm
def cj(z:Str)(zs:List Str):inD (.str z) (zs.map D.str)=some (zs.contains z):=by unfold inD;rw[mY];show some (K3 (.str z) (zs.map V.str))=_;rw[sU]
def vA(c:Nat):MulOk ⟨#[c]⟩ 1:=⟨by decide,λ _ h=>(by have z:true=false:=h;cases z),λ _ h=>(by have z:true=false:=h;cases z)⟩
def uj:List Nat:=(aU "zyxwvutsrqponmlkjihgfedcba").cps.toList
def lp(j:Nat):Str:=Txt.mul ⟨#[uj.getD j 0]⟩ 1
def wB:((List.range 26).map lp).Nodup:=by decide+kernel
theorem sE:∀{l zs:List Str},l.Nodup->(∀x∈l,x∈zs)->l.length<=zs.length
 |[],zs,_,_=>G5 _
 |a::l,zs,hn,hs=>by rw[nodup_cons]at hn;have ha:a∈zs:=hs a (l9 ..);have h1:=sE (l:=l) (zs:=zs.erase a) hn.2 λ x hx=>(mem_erase_of_ne (λ z=>hn.1 (by rw[<- z];exact hx))).mpr (hs x (j9 _ hx));rw[length_erase_of_mem ha]at h1;have:=length_pos_of_mem ha;rw[z0];lia
def EX{sp:Nat}(h26:sp<=26)(h:∀j,j<sp->lp j∈zs):sp<=zs.length:=by
 have e:((List.range sp).map lp).Nodup:=by
  refine List.Sublist.nodup (List.Sublist.map lp ?_) wB;have:List.range sp=(List.range 26).take sp:=by rw[take_range,Nat.min_eq_left h26]
  rw[this];exact take_sublist _ _
 have:=sE e (zs:=zs) λ x hx=>by obtain⟨j,hj,rfl⟩:=D5.mp hx;exact h j (by simpa using hj)
 simpa using this
def bQ{Q:bI}{n:String}(e:md M d=some n)(hb:qy n T=b)(q:Q (.bl b) M):Lo T [d,.ty T] M Q:=⟨rfl,by rw[e];subst hb;exact q⟩
def gb{Q:bI}(h:md M d≠some "NoneType")(q:Q (.bl false) M):tU false d .bh M Q:=by
 cases d with
 |bh=>exact bi rfl h
 |_=>exact q
def yL(h:i<ds.length):fi ds (0+(i:Int))=some ds[i]:=by rw[Int.zero_add];refine cT ?_;simp[h]
theorem yM:∀n:Nat,((List.replicate n true).all id)=true
 |0=>rfl
 |n+1=>by rw[l4,all_cons,yM n];rfl
def jp(M M':Mem):Prop:=∀b o,M b=some o->M' b=some o
def jp.own(h:jp M M'){x:MO}(n:M q=none):jp M (ak M' q x):=λ b o e=>by rw[aG (λ z=>by rw[z,n]at e;cases e)];exact h b o e
end KK
namespace HT
open PySem.Spec PyProof.Rows
def ig{t sl:be}{ii:Array al}{vl vu:al}{lo hi:Option Int}(ht:IsTup s.heap t ii)(hs:s.heap.IsSliceOf sl vl vu .none)(pl:IsPart vl lo)(pu:IsPart vu hi)(hw:bY ii.size 0 lo=0/\bY ii.size ii.size hi=ii.size)(h:Q (.ref t) s):wpAny (model prog w) A (getItem (.ref t) (.ref sl)) Q E s:=by
 obtain⟨os,Om,Vc,Eb⟩:=id hs;have Xw:s.TypeIs (.ref sl) "slice":=⟨os,Om,Vc⟩;unfold getItem
 try with_reducible refine C3 ?_
 first|refine G8 (G9 ?_)|skip
 refine G8 (wpAny_sequenceKey ht.typeIs (by decide) ?_);refine G8 (g9 (name:=aU "__getitem__") ht.typeIs a0
  (A0 a0 ht.typeIs entry_tuple_getitem ?_ (args_tuple_getitem _ _)))
 show wpAny _ _ (Builtin.Tuple.tupleItemsOf (.ref t)>>=_) _ _ s;refine G8 (tupleItemsOf_ ht ?_);refine G8 (G0 Xw ?_);rw[J6 (by decide)];refine G8 (fB hs pl pu ?_);have WK:(((bY ii.size 0 lo:Nat):Int)==0&&(1:Int)==1&&(bY ii.size ii.size hi-bY ii.size 0 lo)==ii.size)=true:=by rw[hw.1,hw.2];simp
 show wpAny _ _ (if(((bY ii.size 0 lo:Nat):Int)==0&&(1:Int)==1&&(bY ii.size ii.size hi-bY ii.size 0 lo)==ii.size)=true then _ else _) _ _ s;rw[J6 WK];unfold Builtin.Tuple.tupleIsExact;refine G8 (G8 (G0 ht.typeIs (G9 ?_)));rw[J6 (by decide)];exact G8 (H0 (G9 ⟨_,rfl,G9 h⟩))
end HT
namespace L2
open PySem.Spec PyProof.Rows
def GW:yO X (λ x lo hi H Q=>∃a xs,x=.ref a/\fj X.K H a xs/\(HT.bY xs.length 0 lo=0/\HT.bY xs.length xs.length hi=xs.length)/\Q (.ref a) H):=by
 intro ce s σ H x v vl vu lo hi sl Q I rx hs pl pu h;obtain⟨a,xs,rfl,hx,hw,q⟩:=h;cases rx;obtain⟨av,r,ht,hz⟩:=I.tuple hx;have hlen:av.toArray.size=xs.length:=by rw[y6];exact r.length.symm
 exact⟨"tuple",_,a0.lookup,ht.typeIs,HT.ig ht hs pl pu (by rw[hlen];exact hw) ⟨.ref a,H,I,rfl,q⟩⟩
end L2
namespace L3
open PySem.Spec L2
def Am:D->Option Int->Option Int->Mem->bI->Prop:=λ x lo hi M Q=>match x with
 | .str z=>z.length<=sizeLine/\Q (.str (fI z lo hi)) M
 | .tup ds=>Q (.tup (cutD ds lo hi)) M
 | .ref a=>match bc M a with
  |some ds=>∀p,M p=none->Q (.ref p) (ak M p (.lst (cutD ds lo hi)))
  |none=>False
 |_=>False
def ku:Vl X Am:=by
 obtain⟨r,h1,h2⟩:=(pO:Vl X ZT);refine⟨_,h1.or GW,λ x d lo hi H M Q2 Q hd hm q k=>?_⟩;cases d with
 |tup ds=>
  by_cases hw:HT.bY ds.length 0 lo=0/\HT.bY ds.length ds.length hi=ds.length
  ·have q:Q2 (.tup (cutD ds lo hi)) M:=q;have e:cutD ds lo hi=ds:=by unfold cutD;rw[hw.1,hw.2];simp
   rw[e]at q;obtain⟨p,xs,rfl,h,hx⟩:=aP.mp hd;exact .inr ⟨p,xs,rfl,h,by rw[hx.length];exact hw,k _ H _ M (aP.mpr ⟨p,xs,rfl,h,hx⟩) hm (ay.refl H) q⟩
  ·exact .inl (h2 x (.tup ds) lo hi H M Q2 Q hd hm ⟨hw,q⟩ k)
 |str z=>exact .inl (h2 x (.str z) lo hi H M Q2 Q hd hm q k)
 |ref a=>exact .inl (h2 x (.ref a) lo hi H M Q2 Q hd hm q k)
 |_=>exact q.elim
section
variable {Q:bI}
def JR{i:Int}(h0:0<=i):cutD ds none (some i)=ds.take i.toNat:=by
 unfold cutD;have e:HT.bY ds.length ds.length (some i)=min i.toNat ds.length:=by show(if i<0 then(i+(ds.length:Int)).toNat else min i.toNat ds.length)=_;rw[J7 ()]
 rw[e];show(ds.drop 0).take (min i.toNat ds.length-0)=_;rw[drop_zero,Nat.sub_zero,take_eq_take_iff];lia
def oV{i:Int}(h0:0<=i):cutD ds (some i) none=ds.drop i.toNat:=by
 unfold cutD;have e:HT.bY ds.length 0 (some i)=min i.toNat ds.length:=by show(if i<0 then(i+(ds.length:Int)).toNat else min i.toNat ds.length)=_;rw[J7 ()]
 rw[e];show(ds.drop (min i.toNat ds.length)).take (ds.length-min i.toNat ds.length)=_;rw[i5 (by rw[length_drop];lia)];by_cases h:i.toNat<=ds.length
 ·rw[Nat.min_eq_left h]
 ·rw[Nat.min_eq_right (),drop_length,drop_of_length_le ()]
def vd{i:Int}(h0:0<=i)(q:Q (.tup (ds.drop i.toNat)) M):Am (.tup ds) (some i) none M Q:=by show Q (.tup (cutD ds (some i) none)) M;rw[oV h0];exact q
def pR{lo hi:Option Int}(h:z.length<=sizeLine)(q:Q (.str (fI z lo hi)) M):Am (.str z) lo hi M Q:=⟨h,q⟩
def lx{lo hi:Option Int}(h:M a=some (.lst ds))(q:∀p,M p=none->Q (.ref p) (ak M p (.lst (cutD ds lo hi)))):Am (.ref a) lo hi M Q:=by show(match bc M a with|some ds=>∀p,M p=none->Q (.ref p) (ak M p (.lst (cutD ds lo hi)))|none=>False);unfold bc;rw[h];exact q
def zj{i:Int}(h:M a=some (.lst ds))(h0:0<=i)(q:∀p,M p=none->Q (.ref p) (ak M p (.lst (ds.take i.toNat)))):Am (.ref a) none (some i) M Q:=by refine lx h ?_;rw[JR h0];exact q
def rR{i:Int}(h:M a=some (.lst ds))(h0:0<=i)(q:∀p,M p=none->Q (.ref p) (ak M p (.lst (ds.drop i.toNat)))):Am (.ref a) (some i) none M Q:=by refine lx h ?_;rw[oV h0];exact q
end
open L5
section
variable {δc:cH}{E:ir}
def vT{src:Src}(Pv:Nat->cH->Mem->Prop)(h0:Pv 0 δ M1)(hl:∀i δ M,i<=ds.length->Pv i δ M->ii src M=some ds)(hs:∀i d δ M,ds[i]?=some d->Pv i δ M->g d δ M λ δ2 M2=>tb {E with nx:=Pv (i+1),ct:=Pv (i+1),bk:=E.nx} δ2 M2)(hd:∀δ M,Pv ds.length δ M->E.nx δ M):∃(B:Nat)(W:Nat->cH->Mem->Prop),W 0 δ M1/\∀i δ M,W i δ M->i<=B/\match ii src M with
   |none=>False
   |some ds=>match ds[i]? with
    |none=>i=ds.length/\E.nx δ M
    |some d=>g d δ M λ δ2 M2=>tb {E with nx:=W (i+1),ct:=W (i+1),bk:=E.nx} δ2 M2:=by
 refine⟨ds.length,λ i δ M=>if i<=ds.length then Pv i δ M else False,by dsimp only;rw[J6 (G5 _)];exact h0,?_⟩;intro i δ M w;by_cases hi:i<=ds.length
 ·rw[J6 hi]at w;refine⟨hi,?_⟩;rw[hl i δ M hi w];show(match ds[i]? with
    |none=>i=ds.length/\E.nx δ M
    |some d=>g d δ M λ δ2 M2=>tb {E with nx:=(λ δ M=>if i+1<=ds.length then Pv (i+1) δ M else False),ct:=(λ δ M=>if i+1<=ds.length then Pv (i+1) δ M else False),bk:=E.nx} δ2 M2)
  cases e:ds[i]? with
  |none=>have:i=ds.length:=B7 hi (c6.mp e);subst this;exact⟨rfl,hd δ M w⟩
  |some d=>have fR:i+1<=ds.length:=(c5.mp e).1;simp only[J6 fR];exact hs i d δ M e w
 ·rw[J7 hi]at w;exact w.elim
end
def iw(x y:D)(M:Mem):Option (List D):=match cK M x,cK M y with
 |some xs,some ys=>some (jI xs ys)
 |_,_=>none
def KS(ta:ij):jH:=λ δ M R=>ta δ M λ ds M1=>match ds with
 |[.tup xs,.tup ys]=>R (.fix (jI xs ys)) M1
 |[x,y]=>(∃zs,iw x y M1=some zs)/\R (.fn (iw x y)) M1
 |_=>False
def nZ{x y:D}{zs:List D}(h:iw x y M=some zs):∃xs ys,cK M x=some xs/\cK M y=some ys/\zs=jI xs ys:=by
 unfold iw at h;cases e1:cK M x with
 |none=>rw[e1]at h;cases h
 |some xs=>
  cases e2:cK M y with
  |none=>rw[e1,e2]at h;cases h
  |some ys=>rw[e1,e2]at h;cases h;exact⟨xs,ys,rfl,rfl,rfl⟩
def zT{b:be}{x y:D}(hx:kt K H1 x (.ref a))(hy:kt K H1 y (.ref b)):nW K H1 (Vp K (kindB x) (kindB y) a b) (.fn (iw x y)):=λ H M zs t hm e=>by obtain⟨ds,es,e1,e2,rfl⟩:=nZ (show iw x y M=some zs from e);obtain⟨p,xs,e3,q1,x1⟩:=f_ e1 (kt.mono t x hx) hm;cases e3;obtain⟨p,ys,e3,q2,x2⟩:=f_ e2 (kt.mono t y hy) hm;cases e3;have l1:=x1.length;have l2:=x2.length;rw[AS];refine⟨λ i hi=>⟨xs,ys,xs[i]'(),ys[i]'(),q1,q2,by simp,by simp⟩,λ i hi=>⟨xs,ys,q1,q2,()⟩,λ i v H' hi z=>?_⟩;obtain⟨p,vx,vy,hp,rfl,rfl,Py,hy'⟩:=z;obtain⟨d,d1,d2⟩:=x1.mU (Py xs q1);obtain⟨e,e1,e2⟩:=x2.mU (hy' ys q2);refine⟨ay.laid hp,hm.laid hp,.tup [d,e],?_,fU hp (af.mpr ⟨vx,[vy],rfl,d2,aE.one e2⟩)⟩;obtain⟨z1,w1⟩:=c5.mp d1;obtain⟨z2,w2⟩:=c5.mp e1;simp[jI,hi,w1,w2,z1,z2]
section
variable {k0:_}{a b:Expr}{p:Pos}
def GA(hm:X.mg "zip"=none)(ha:WA X [a,b] ta)(hg:Gl X "zip":=by rfl)(hs:starEach [a,b] X.env=[(false,eval a X.env),(false,eval b X.env)]:=by rfl)(iT:starEach [b] X.env=[(false,eval b X.env)]:=by rfl):WI X (.Tuple es k0 jM) (.Call (.Name "zip" p) [a,b] [] pos) (KS ta):=⟨have ha:=ha.h;sf (MQ hg hm ha hs iT) λ σ H R ⟨δ,M,R2,hs,hm,q,k⟩=>by
 refine⟨δ,M,_,hs,hm,q,λ xs H1 ds M1 hd bV t1 q1=>?_⟩;have go:∀x y,ds=[x,y]->(∃zs,iw x y M1=some zs)->(∀J,nW X.K H1 J (.fn (iw x y))->R J H1)->∃(b1 b2:Bool)(l m:be),xs=[.ref l,.ref m]/\(∃xs,Sq b1 X.K H1 l xs)/\(∃ys,Sq b2 X.K H1 m ys)/\R (Vp X.K b1 b2 l m) H1:=by rintro x y rfl ⟨zs,hz⟩ hR;obtain⟨vx,r,rfl,hx,hr⟩:=af.mp hd;obtain⟨vy,r,rfl,hy,hr⟩:=af.mp hr;cases(au.mp hr);obtain⟨xs,ys,e1,e2,_⟩:=nZ hz;obtain⟨p,vs,rfl,q1,_⟩:=f_ e1 hx bV;obtain⟨p2,ws,rfl,q2,_⟩:=f_ e2 hy bV;exact⟨_,_,p,p2,rfl,⟨vs,q1⟩,⟨ws,q2⟩,hR _ (zT hx hy)⟩
 match ds,q1 with
 |[x,y],q1=>
  by_cases ht:∃xs ys,x=.tup xs/\y=.tup ys
  ·obtain⟨xs,ys,rfl,rfl⟩:=ht;refine go _ _ rfl ⟨_,rfl⟩ λ J hJ=>k J H1 (.fix (jI xs ys)) M1 (λ H M ds t hm e=>hJ H M ds t hm e) bV t1 q1
  ·have q2:(∃zs,iw x y M1=some zs)/\R2 (.fn (iw x y)) M1:=by cases x<;>first|exact q1|(cases y<;>first|exact q1|exact bi ⟨_,_,rfl,rfl⟩ ht)
   exact go x y rfl q2.1 λ J hJ=>k J H1 _ M1 hJ bV t1 q2.2
 |[],q1=>exact q1.elim
 |[x],q1=>cases x<;>exact q1.elim
 |x::y::z::r,q1=>cases x<;>first|exact q1.elim|(cases y<;>exact q1.elim)⟩
end
end L3
namespace L4
open PySem.Spec L2 L3 L5
section
variable {k0:_}{a b:Expr}{p:Pos}
end
end L4
namespace L3
open PySem.Spec L2 L5 PyProof.Rows
def Pl:Nat->D->Prop
 |0,d=>d=.bh\/(∃i,d=.int i)\/∃x,d=.str x/\PyData.strOk x=true
 |k+1,d=>d=.bh\/(∃i,d=.int i)\/(∃x,d=.str x/\PyData.strOk x=true)\/∃ds,d=.tup ds/\∀e∈ds,Pl k e
def MP(k:Nat):Pl k .bh:=by
 cases k with
 |zero=>exact .inl rfl
 |succ k=>exact .inl rfl
def iE(k:Nat){x:Str}(h:PyData.strOk x=true):Pl k (.str x):=by
 cases k with
 |zero=>exact .inr (.inr ⟨x,rfl,h⟩)
 |succ k=>exact .inr (.inr (.inl ⟨x,rfl,h⟩))
structure Z0(k:Nat)(d:D):Prop where
 nr:nr d=true
 lay:(toP d).canLay0=true
 dep:(toP d).depth<=k
structure Yb(k:Nat)(ds:List D):Prop where
 nr:vv ds=true
 lay:PyData.canLayAll0 (toPs ds)=true
 dep:PyData.depthAll (toPs ds)<=k
theorem lG:∀{ds:List D},(∀e∈ds,Z0 k e)->Yb k ds
 |[],_=>⟨by unfold vv;rfl,by unfold toPs;simp[PyData.canLayAll0],by unfold toPs;simp[PyData.depthAll]⟩
 |d::ds,h=>by
  have h1:=h d (l9 ..);have h2:=lG (ds:=ds) λ e he=>h e (j9 _ he);refine⟨?_,?_,?_⟩
  ·unfold vv;rw[h1.nr,h2.nr];rfl
  ·unfold toPs;simp only[PyData.canLayAll0];rw[h1.lay,h2.lay];rfl
  ·unfold toPs;simp only[PyData.depthAll];exact Nat.max_le.mpr ⟨h1.dep,h2.dep⟩
theorem Pl.f9:∀{k:Nat} {d:D},Pl k d->Z0 k d
 |0,d,h=>by
  rcases h with rfl|⟨i,rfl⟩|⟨x,rfl,hx⟩
  ·exact⟨by unfold L3.nr;rfl,by unfold toP;simp[PyData.canLay0],by unfold toP;simp[PyData.depth]⟩
  ·exact⟨by unfold L3.nr;rfl,by unfold toP;simp[PyData.canLay0],by unfold toP;simp[PyData.depth]⟩
  ·exact⟨by unfold L3.nr;rfl,by unfold toP;simp[PyData.canLay0,hx],by unfold toP;simp[PyData.depth]⟩
 |k+1,d,h=>by
  rcases h with rfl|⟨i,rfl⟩|⟨x,rfl,hx⟩|⟨ds,rfl,h⟩
  ·exact⟨by unfold L3.nr;rfl,by unfold toP;simp[PyData.canLay0],by unfold toP;simp[PyData.depth]⟩
  ·exact⟨by unfold L3.nr;rfl,by unfold toP;simp[PyData.canLay0],by unfold toP;simp[PyData.depth]⟩
  ·exact⟨by unfold L3.nr;rfl,by unfold toP;simp[PyData.canLay0,hx],by unfold toP;simp[PyData.depth]⟩
  ·have q:=lG λ e he=>Pl.f9 (h e he);refine⟨?_,?_,?_⟩
   ·unfold L3.nr;exact q.nr
   ·unfold toP;simp only[PyData.canLay0];exact q.lay
   ·unfold toP;simp only[PyData.depth];have:=q.dep;lia
theorem ng(ih:∀x y:D,Pl k x->Pl k y->(PyData.eqv (toP x) (toP y)=true↔x=y)):∀{ds es:List D},(∀e∈ds,Pl k e)->(∀e∈es,Pl k e)->(PyData.eqvAll (toPs ds) (toPs es)=true↔ds=es)
 |[],[],_,_=>by unfold toPs;simp[PyData.eqvAll]
 |[],e::es,_,_=>by unfold toPs;simp[PyData.eqvAll]
 |d::ds,[],_,_=>by unfold toPs;simp[PyData.eqvAll]
 |d::ds,e::es,h1,h2=>by have a:=ih d e (h1 d (l9 ..)) (h2 e (l9 ..));have b:=ng ih (ds:=ds) (es:=es) (λ x hx=>h1 x (j9 _ hx)) (λ x hx=>h2 x (j9 _ hx));unfold toPs;simp only[PyData.eqvAll,A2,a,b,List.cons.injEq]
theorem qM:∀{k:Nat} (x y:D),Pl k x->Pl k y->(PyData.eqv (toP x) (toP y)=true↔x=y)
 |0,x,y,hx,hy=>by rcases hx with rfl|⟨i,rfl⟩|⟨z,rfl,_⟩<;>rcases hy with rfl|⟨j,rfl⟩|⟨w,rfl,_⟩<;>simp[toP,PyData.eqv]
 |k+1,x,y,hx,hy=>by
  rcases hx with rfl|⟨i,rfl⟩|⟨z,rfl,_⟩|⟨ds,rfl,hd⟩<;>rcases hy with rfl|⟨j,rfl⟩|⟨w,rfl,_⟩|⟨es,rfl,he⟩<;>first
   |(simp[toP,PyData.eqv];done)
   |(have:=ng (λ x y=>qM (k:=k) x y) hd he
     unfold toP;simp only[PyData.eqv,D.tup.injEq];exact this)
def Er{x y:D}(hx:Pl k x)(hy:Pl k y)(hb:b=true↔x=y):PyData.eqv (toP x) (toP y)=b:=by rw[A4];exact(qM x y hx hy).trans hb.symm
def ow(h:Pl k d)(hk:k<=60):SeqAt.shaped (toP d)=true:=by have f:=h.f9;unfold SeqAt.shaped;rw[f.lay,B9 (by have:=f.dep;lia)];rfl
def fZ(h:∀e∈ds,Pl k e)(hk:k<=60):SeqAt.shaped (.list (toPs ds))=true:=by
 have f:=lG λ e he=>(h e he).f9;have h1:(PyData.list (toPs ds)).canLay0=true:=by simp only[PyData.canLay0];exact f.lay
 have h2:(PyData.list (toPs ds)).depth<=64:=by simp only[PyData.depth];have:=f.dep;lia
 unfold SeqAt.shaped;rw[h1,B9 h2];rfl
def Co(h:Pl k d):rZ M d=some (toP d):=by
 have f:=h.f9.nr;cases d with
 |ref a=>unfold nr at f;cases f
 |_=>unfold rZ;dsimp only;rw[J6 f]
section
variable {Q:bI}
def ly{x y:D}(hx:Pl k x)(hy:Pl k y)(hk:k<=60)(hb:b=true↔x=y)(q:Q (.bl (!b)) M):nR true x y M Q:=by refine .inr ⟨_,_,Co hx,Co hy,ow hx hk,ow hy hk,?_⟩;rw[Er hx hy hb];exact q
def lE(hM:M p=some (.lst ds))(h:∀e∈ds,Pl k e):rZ M (.ref p)=some (.list (toPs ds)):=by have f:=lG λ e he=>(h e he).f9;unfold rZ;simp only[hM];rw[J6 f.nr]
def oP{es:List D}(h1:∀e∈ds,Pl k e)(h2:∀e∈es,Pl k e)(hb:b=true↔ds=es):PyData.eqv (.list (toPs ds)) (.list (toPs es))=b:=by rw[A4];have:=ng (λ x y=>qM (k:=k) x y) h1 h2;simp only[PyData.eqv];exact this.trans hb.symm
def lB{p2:be}{es:List D}(hM:M p=some (.lst ds))(Tx:M p2=some (.lst es))(h1:∀e∈ds,Pl k e)(h2:∀e∈es,Pl k e)(hk:k<=60)(hb:b=true↔ds=es)(q:Q (.bl b) M):nR false (.ref p) (.ref p2) M Q:=by refine .inr ⟨_,_,lE hM h1,lE Tx h2,fZ h1 hk,fZ h2 hk,?_⟩;rw[oP h1 h2 hb];exact q
def Hr{p2:be}{es:List D}(hM:M p=some (.lst ds))(Tx:M p2=some (.lst es))(h1:∀e∈ds,Pl k e)(h2:∀e∈es,Pl k e)(hk:k<=60)(hb:b=true↔ds=es)(q:Q (.bl (!b)) M):nR true (.ref p) (.ref p2) M Q:=by refine .inr ⟨_,_,lE hM h1,lE Tx h2,fZ h1 hk,fZ h2 hk,?_⟩;rw[oP h1 h2 hb];exact q
end
def oB{v:al}{y:PyData}{bs:List be}(ry:Reads s.heap v y bs)(cy:y.canLay0=true)(hu:A.units+y.depth<cLine):∀{ds:List D} {us:List al} {as:List be},ReadsAll s.heap us (toPs ds) as->PyData.canLayAll0 (toPs ds)=true->
  ∃e:al->Bool,(∀u∈us,SeqAt.EqAt A s u v (e u))/\us.map e=ds.map λ d=>PyData.eqv (toP d) y:=by
 intro ds us as ra cl;refine⟨λ u=>PyData.eqv (SeqAt.readOf s.heap u) y,λ u Oe=>?_,?_⟩
 ·obtain⟨d,bs',rd,cd,_⟩:=SeqAt.readsAll_mem _ _ _ cl ra u Oe;have e:=SeqAt.readOf_eq cd rd;dsimp only;rw[e];exact SeqAt.eqAt_reads d y A s u v _ _ rd ry cd cy ()
 ·have e:=SeqAt.readsAll_map _ _ _ cl ra;have f:∀(us:List al)(ds:List D),us.map (SeqAt.readOf s.heap)=toPs ds->us.map (λ u=>PyData.eqv (SeqAt.readOf s.heap u) y)=ds.map λ d=>PyData.eqv (toP d) y:=by
   intro us
   induction us with
   |nil=>
    intro ds q;cases ds with
    |nil=>rfl
    |cons d r=>unfold toPs at q;cases q
   |cons u us ih=>
    intro ds q;cases ds with
    |nil=>unfold toPs at q;cases q
    |cons d r=>
     unfold toPs at q;rw[C6]at q;injection q with q1 q2
     rw[C6,C6,ih r q2,q1]
  exact f us ds e
structure Yg(K:J8)(H:Hp)(b:Bool)(p:be)(xs:List V)(ds:List D)(x:V)(d:D):Prop where
 sq:Sq b K H p xs
 TX:aE K H ds xs
 dat:kt K H d x
 ns:vv ds=true
 n:nr d=true
 Je:PyData.canLayAll0 (toPs ds)=true
 lay:(toP d).canLay0=true
 dep:(toP d).depth<62
theorem any_map(us:List α)(e:α->Bool)(bs:List Bool)(h:us.map e=bs):us.any e=bs.any id:=by rw[<- h,List.any_map];rfl
def Nl(neg:Bool)(hu:gj X):eN X (compareOp (if neg then .NotIn else .In)) (λ x y H Q=>∃(b:Bool)(p:be)(xs:List V)(ds:List D)(d:D),y=.ref p/\Yg X.K H b p xs ds x d/\Q (.bl (if neg then !ds.any (λ e=>PyData.eqv (toP e) (toP d))else ds.any λ e=>PyData.eqv (toP e) (toP d))) H):=by
 intro ce s σ H x y v u Q I rx ry h;obtain⟨b,p,xs,ds,d,rfl,ok,q⟩:=h;cases ry;obtain⟨bs,rb⟩:=VZ I d ok.n ok.dat rx;have hd:=ok.dep;cases b with
 |false=>
  obtain⟨av,r,pl,hz⟩:=I.list ok.sq;obtain⟨as,ra⟩:=zq I ds ok.ns ok.TX r;obtain⟨e,e1,e2⟩:=oB (A:=X.A.in1) rb ok.lay (by show X.A.units+1+_ < _;lia) ra ok.Je;have e3:av.toArray.any e=ds.any λ e=>PyData.eqv (toP e) (toP d):=by rw[show av.toArray.any e=av.any e by simp,any_map _ _ _ e2,List.any_map];rfl
  cases neg with
  |false=>exact SeqAt.in_listAt e pl.isList (λ w hw=>e1 w (by simpa using hw)) ⟨.bl _,H,I,rfl,by rw[e3];exact q⟩
  |true=>exact SeqAt.notIn_listAt e pl.isList (λ w hw=>e1 w (by simpa using hw)) ⟨.bl _,H,I,rfl,by rw[e3];exact q⟩
 |true=>
  obtain⟨av,r,pl,hz⟩:=I.tuple ok.sq;obtain⟨as,ra⟩:=zq I ds ok.ns ok.TX r;obtain⟨e,e1,e2⟩:=oB (A:=X.A.in1) rb ok.lay (by show X.A.units+1+_ < _;lia) ra ok.Je;have e3:av.toArray.any e=ds.any λ e=>PyData.eqv (toP e) (toP d):=by rw[show av.toArray.any e=av.any e by simp,any_map _ _ _ e2,List.any_map];rfl
  cases neg with
  |false=>exact SeqAt.in_tupleAt e pl (λ w hw=>e1 w (by simpa using hw)) ⟨.bl _,H,I,rfl,by rw[e3];exact q⟩
  |true=>exact SeqAt.notIn_tupleAt e pl (λ w hw=>e1 w (by simpa using hw)) ⟨.bl _,H,I,rfl,by rw[e3];exact q⟩
end L3
namespace L2
open PySem.Spec PyProof.Rows L5
def ug(hc:X.calm=true):cI X (.builtin "any") (λ xs H Q=>∃(p:be)(bs:List Bool),xs=[.ref p]/\dv X.K H p (bs.map V.bl)/\Q (.bl (bs.any id)) H):=by
 intro ce s σ H xs us Q I r h;obtain⟨p,bs,rfl,hq,q⟩:=h;obtain⟨u,rfl,r1⟩:=vals1 r;cases r1;obtain⟨av,rv,pl,hz⟩:=I.list hq;refine call_any_walk (y2 pl.isList ?_);have fg:p≠s.heap.objs.size:=by obtain⟨o,n,e,_⟩:=pl;exact D3 (D4 e)
 have hlen:av.length=bs.length:=by rw[<- rv.length,B4]
 refine⟨s.heap.objs.size,_,_,_,_,_,λ i=>(bs[i]?).getD false,rfl,Walks.list (A:=X.A.in1) (show X.A.in1.handled=none from I.ok.hd hc) s.heap.objs.size p fg av.toArray,⟨⟨_,l7 _ rfl,rfl,rfl⟩,pl.isList.at λ o e=>i7 _ e⟩,?_,λ h' tk hk=>?_⟩
 ·intro i v s' Q' E' hP hQ;have Ed:av[i]?=some v:=by simpa using hP
  have hi:i<bs.length:=by rw[<- hlen];exact(c5.mp Ed).1
  have hb:(bs.map V.bl)[i]?=some (V.bl bs[i]):=by simp[hi]
  obtain⟨u,hu,ru⟩:=rv.get hb;rw[Ed]at hu;cases hu;have e:v=Value.bool bs[i]:=ru;subst e;have:(bs[i]?).getD false=bs[i]:=by simp[hi]
  dsimp only at hQ;rw[this]at hQ;exact y1 hQ
 ·refine⟨.bl (bs.any id),H,I.kept (t':=tk) λ b o e=>hk b o (by simpa using D3 (D4 e)) (i7 _ e),?_,q⟩;show Value.bool _=Value.bool _;congr 1;rw[y6,hlen];rw[A4];simp only[List.any_eq_true,bv,id];constructor
  ·rintro⟨i,hi,h⟩;exact⟨bs[i],getElem_mem hi,by simpa[hi]using h⟩
  ·rintro⟨b,hb,h⟩;obtain⟨i,hi,rfl⟩:=mem_iff_getElem.mp hb;exact⟨i,hi,by simpa[hi]using h⟩
end L2
namespace L3
open PySem.Spec L2 L5 PyProof.Rows
def Uc:List D->Mem->bI->Prop:=λ xs M Q=>∃(a:be)(bs:List Bool),xs=[.ref a]/\bc M a=some (bs.map D.bl)/\Q (.bl (bs.any id)) M
def Fc(hc:X.calm=true):de X (.builtin "any") Uc:=⟨_,ug hc,λ xs ds H M Q2 Q hd hm q k=>by
 obtain⟨a,bs,rfl,hM,q⟩:=q;obtain⟨x,r,rfl,hx,hr⟩:=af.mp hd;cases(au.mp hr);cases(aH.mp hx);obtain⟨ys,h,hy⟩:=c_ hM hm;exact⟨a,bs,rfl,dv.of (by rw[h,nk hy]),k _ H _ M (aL.mpr rfl) hm (ay.refl H) q⟩⟩
def Lr:List D->Mem->bI->Prop:=λ ds M Q=>∃bs:List Bool,ds=bs.map D.bl/\Q (.bl (bs.any id)) M
def pG:nE Uc Lr:=λ ds M p Q hp hz q=>by obtain⟨bs,rfl,q⟩:=q;exact⟨p,bs,rfl,hV,M,(fP.refl M).put hp,q⟩
def Ll:List D->Mem->bI->Prop:=λ ds M Q=>∃ns:List Int,ds=ns.map D.int/\Q (.int ns.sum) M
def GH:nE OQ Ll:=λ ds M p Q hp hz q=>by obtain⟨ns,rfl,q⟩:=q;exact⟨.ref p,_,ns,rfl,hV,rfl,M,(fP.refl M).put hp,q⟩
def Lp:List D->Mem->bI->Prop:=λ xs M Q=>(∃b,xs=[.bl b]/\Q (.int (if b then 1 else 0)) M)\/∃i,xs=[.int i]/\Q (.int i) M
def wG:de X (.type "int") Lp:=⟨_,As,λ xs ds H M Q2 Q hd hm q k=>by
 rcases q with⟨b,rfl,q⟩|⟨b,rfl,q⟩
 ·obtain⟨v,r,rfl,hv,hr⟩:=af.mp hd;cases(au.mp hr);cases(aL.mp hv);exact .inr ⟨b,rfl,k _ H _ M (aw.mpr rfl) hm (ay.refl H) q⟩
 ·obtain⟨v,r,rfl,hv,hr⟩:=af.mp hd;cases(au.mp hr);cases(aw.mp hv);exact .inl ⟨b,rfl,k _ H _ M (aw.mpr rfl) hm (ay.refl H) q⟩⟩
def TZ:fq:=λ x y M Q=>∃l k ds,x=.ref l/\y=.int k/\M l=some (.lst ds)/\-(2^63)<=k/\k<2^63/\ds.length*k.toNat<=sizeLine/\∀p,M p=none->Q (.ref p) (ak M p (.lst (List.replicate k.toNat ds).flatten))
def oT:fq:=λ x y M Q=>yz x y M Q\/TZ x y M Q
def fe:fm X (binaryOp .Mult) oT:=NI.or ⟨_,Nd,λ x y d e H M Q2 Q hd he hm q k=>by
 obtain⟨l,n,ds,rfl,rfl,hM,h1,h2,hz,q⟩:=q;cases(aH.mp hd);cases(aw.mp he);obtain⟨xs,hx,ZE⟩:=hm l _ hM;exact⟨l,n,xs,rfl,rfl,hx,h1,h2,by rw[ZE.length];exact hz,λ p hp=>k _ _ (.ref p) _ (aH.mpr rfl) (cS hp (nj ZE n.toNat) hm) (ay.laid hp) (q p (hm.free hp))⟩⟩
structure InD(M:Mem)(x y:D)(ds:List D):Prop where
 sq:cK M y=some ds
 ns:vv ds=true
 n:nr x=true
 Je:PyData.canLayAll0 (toPs ds)=true
 lay:(toP x).canLay0=true
 dep:(toP x).depth<62
def OT(neg:Bool):fq:=λ x y M Q=>∃ds,InD M x y ds/\Q (.bl (if neg then !ds.any (λ e=>PyData.eqv (toP e) (toP x))else ds.any λ e=>PyData.eqv (toP e) (toP x))) M
def KO(neg:Bool)(hu:gj X):fm X (compareOp (if neg then .NotIn else .In)) (OT neg):=⟨_,Nl neg hu,λ x y d e H M Q2 Q hd he hm q k=>by
 obtain⟨ds,ok,q⟩:=q;obtain⟨p,xs,rfl,q1,x1⟩:=f_ ok.sq he hm;exact⟨_,p,xs,ds,d,rfl,⟨q1,x1,hd,ok.ns,ok.n,ok.Je,ok.lay,ok.dep⟩,k _ H _ M (aL.mpr rfl) hm (ay.refl H) q⟩⟩
def EN:fq:=λ x y M Q=>T' x y M Q\/OT false x y M Q
def kH(hu:gj X):fm X (compareOp .In) EN:=V'.or (KO false hu)
def yw:fq:=λ x y M Q=>∃i j,x=.str i/\y=.str j/\Q (.bl (!(!(Builtin.Str.occurrences j i 0 j.length 1).isEmpty))) M
def CQ:fm X (compareOp .NotIn) yw:=⟨_,pW,λ x y d e H M Q2 Q hd he hm q k=>by
 obtain⟨i,j,rfl,rfl,q⟩:=q;cases(aJ.mp hd);cases(aJ.mp he);exact⟨i,j,rfl,rfl,k _ H _ M (aL.mpr rfl) hm (ay.refl H) q⟩⟩
def yy:fq:=λ x y M Q=>yw x y M Q\/OT true x y M Q
def CT(hu:gj X):fm X (compareOp .NotIn) yy:=CQ.or (KO true hu)
def y_{j l:Nat}:∀v σ H Q,Kl K (qH 3 (cQ (im i) (cQ (im j) (cQ (im l) qI)))) v σ H Q->tE K 3 (dz (cB i) (dz (cB j) (dz (cB l) qK))) v σ H Q:=λ v σ H Q ⟨d,δ,M,Q2,hd,hs,hm,q,k⟩=>by
 cases d with
 |tup ds=>
  obtain⟨p,xs,rfl,hq,hx⟩:=aP.mp hd;obtain⟨hl,q⟩:=q
  match ds,hl,hx,q with
  |[a,b,c],hl,hx,q=>obtain⟨x,r,rfl,ha,hx⟩:=af.mp hx;obtain⟨y,r,rfl,hb,hx⟩:=af.mp hx;obtain⟨z,r,rfl,hc,hx⟩:=af.mp hx;cases(au.mp hx);exact⟨p,[x,y,z],rfl,hq,rfl,x,[y,z],rfl,y,[z],rfl,z,[],rfl,rfl,k _ H _ M (((hs.set ha).set hb).set hc) hm (ay.refl H) q⟩
 |_=>exact q.elim
def Be{j l:Nat}{x:Str}{px py pz pt:Pos}(h:∀cl C fp s H,PG (bj X scope cl bW fr C fp s H) (.Tuple [.Name x px,.Name y py,.Name z pz] k pt) (tE X.K 3 (dz (cB i) (dz (cB j) (dz (cB l) qK)))))(hi:i<bW.length)(hj:j<bW.length)(hl:l<bW.length):Kb X scope bW fr (.Tuple [.Name x px,.Name y py,.Name z pz] k pt) (qH 3 (cQ (im i) (cQ (im j) (cQ (im l) qI)))):=⟨⟨_,h,Ei (js (ib hi) (js (ib hj) (js (ib hl) Ej eg mT) eg (lL eg mT)) eg (lL eg (lL eg mT))),y_⟩⟩
end L3
namespace L4
open PySem.Spec L2 L3 L5
def Yn{x:Str}{px py pz pt:Pos}(fr:List Nat)(it:WI X (.Tuple [.Name x px,.Name y py,.Name z pz] k pt) iter wi)(hi:∀{cl C fp s H},PU (bj X scope cl [x,y,z] fr C fp s H) ifs tt)(he:∀{cl C fp s H},WE (bj X scope cl [x,y,z] fr C fp s H) elt te)(b:gB X scope fr:=by exact wH (by kernel_rfl))(calm:X.calm=true:=by rfl)(xe:∀e s,X.xe e s->False:=by exact λ _ _ h=>h)(LM:∀cl C fp s H,PG (bj X scope cl [x,y,z] fr C fp s H) (.Tuple [.Name x px,.Name y py,.Name z pz] k pt) (tE X.K 3 (dz (cB 0) (dz (cB 1) (dz (cB 2) qK)))):=by exact λ _ _ _ _ _=>vj rfl (fE (gc (i:=0) (ca (by kernel_rfl)) rfl (by first|exact Or.inl rfl|exact Or.inr rfl)) (fE (gc (i:=1) (ca (by kernel_rfl)) rfl (by first|exact Or.inl rfl|exact Or.inr rfl)) (fE (gc (i:=2) (ca (by kernel_rfl)) rfl (by first|exact Or.inl rfl|exact Or.inr rfl)) pV)))):dq X scope [x,y,z] fr (.Tuple [.Name x px,.Name y py,.Name z pz] k pt) iter ifs elt wi (qH 3 (cQ (im 0) (cQ (im 1) (cQ (im 2) qI)))) tt te:=
 ⟨b,calm,xe,it,Be LM (by simp) (by simp) (by simp),λ _ _ _ _ _=>hi,λ _ _ _ _ _=>he⟩
end L4
namespace L3
open PySem.Spec L2 L5 PyProof.Rows
section
variable {Q:bI}
def Hc{j l:Nat}{a b c:D}(h:N (((δ.set i (some a)).set j (some b)).set l (some c)) M):qH 3 (cQ (im i) (cQ (im j) (cQ (im l) qI))) (.tup [a,b,c]) δ M N:=⟨rfl,h⟩
def Hg(q:Q (.int ns.sum) M):Ll (ns.map D.int) M Q:=⟨ns,rfl,q⟩
def B'(q:Q (.int (if b then 1 else 0)) M):Lp [.bl b] M Q:=.inl ⟨b,rfl,q⟩
def mw{i:Int}(h:rp i j)(q:Q (.int (i*j)) M):oT (.int i) (.int j) M Q:=.inl (BU h q)
def rS{i:Str}(h:MulOk i j)(q:Q (.str (Txt.mul i j)) M):oT (.str i) (.int j) M Q:=.inl (BS h q)
def rT{k:Int}(hM:M p=some (.lst [d]))(h0:0<=k)(h1:k<=10000)(q:∀p,M p=none->Q (.ref p) (ak M p (.lst (List.replicate k.toNat d)))):oT (.ref p) (.int k) M Q:=by
 refine .inr ⟨p,k,[d],rfl,rfl,hM,Int.le_trans (by decide) h0,u6 h1 (by decide),?_,?_⟩
 ·have:[d].length*k.toNat<=10000:=by simp;lia
  exact Qr this
 ·have e:(List.replicate k.toNat [d]).flatten=List.replicate k.toNat d:=by
   generalize k.toNat=n
   induction n with
   |zero=>rfl
   |succ n ih=>rw[l4,x9,ih,l4];rfl
  rw[e];exact q
def HD{i j:Str}(q:Q (.bl (!(Builtin.Str.occurrences j i 0 j.length 1).isEmpty)) M):EN (.str i) (.str j) M Q:=.inl (Mr q)
def jb{x:D}(e:inD x ds=some b)(q:Q (.bl b) M):EN x (.tup ds) M Q:=.inl (Mq e q)
def eT{x:D}(h:M a=some (.lst ds))(e:inD x ds=some b)(q:Q (.bl b) M):EN x (.ref a) M Q:=.inl (Ms h e q)
def iY(h:M a=some (.lst ds)):cK M (.ref a)=some ds:=by show bc M a=some ds;unfold bc;rw[h]
end
end L3
namespace L5
open PyProof.Rows
abbrev OO(d:al):List (Str×al):=[(aU "default",d)]
def Aw(a d:al):argsOk "max" ⟨[a],OO d⟩:=by unfold argsOk;kernel_rfl
section
variable {R:Result->am->Prop}{I:be}{wr:List be}{P:Nat->al->Prop}{St:Nat->Heap->Prop}{d:al}
def p_:(toString "max"++toString ".loop":String)="max.loop":=by decide
abbrev q_(xs:Array al)(c:Nat):Obj:={cls:=.type "list",dict:=none,data:=.seq xs c,slots:=#[]}
def Dg(W:Walks prog w A.in1 I fp wr n P St){S:be}(PL:S∉wr){vb:al}(rA:St n s.heap)(hS:s.heap.get? S=some (q_ #[vb,vb] c))(hR:∀h' tk,(∀b o,b∉wr->b≠S->s.heap.get? b=some o->h'.get? b=some o)->R (.ok (.ret vb)) {s with heap:=h',toks:=tk}):codeAny (model prog w) A (.builtin "max.loop" ⟨[.ref I,.none,.ref S],OO d⟩) R s:=by refine B2 F.entry_max_loop ?_;rw[k7 A1 _];show wpAny _ A.in1 (seqItems? (.ref S)>>=_) _ _ s;refine G8 (C0 hS rfl ?_);show wpAny _ A.in1 (tryCatch (pyNext (.ref I)) _>>=_) _ _ s;refine G8 (C2 (W.done s _ _ rA λ h' tk hk=>?_));have Lc:=hk S _ PL hS;show wpAny _ A.in1 (updateSeq S (λ _=>#[])>>=_) _ _ _;refine G8 (wpAny_updateSeq Lc rfl (G8 (G7 (G9 ?_))));exact hR _ tk λ b o AN JA e=>(i8 _ _ (J4 JA)).trans (hk b o AN e)
def zM(W:Walks prog w A.in1 I fp wr n P St)(bt:Nat->Nat->Bool)(Oy:CmpOf prog w A.in1 .Gt P bt)(S:be)(PM:S∉fp):∀(k j:Nat)(s:am)(vb:al)(c:Nat),n-(j+1)=k->j+1<=n->St (j+1) s.heap->P (argBest bt j) vb->s.heap.get? S=some (q_ #[vb,vb] c)->
  (∀v h' tk,P (argBest bt (n-1)) v->(∀b o,b∉wr->b≠S->s.heap.get? b=some o->h'.get? b=some o)->R (.ok (.ret v)) {s with heap:=h',toks:=tk})->
  codeAny (model prog w) A (.builtin "max.loop" ⟨[.ref I,.none,.ref S],OO d⟩) R s:=by
 have PL:S∉wr:=λ h=>PM (W.sub _ h);intro k
 induction k with
 |zero=>
  intro j s vb c hk hj rA Vd hS hR;have e:j+1=n:=()
  exact Dg W PL (e▸rA) hS λ h' tk q=>hR vb h' tk (by rw[<- e];exact Vd) q
 |succ k ih=>
  intro j s vb c hk hj rA Vd hS hR;have fR:j+1<n:=()
  refine B2 F.entry_max_loop ?_;rw[k7 A1 _];show wpAny _ A.in1 (seqItems? (.ref S)>>=_) _ _ s;refine G8 (C0 hS rfl ?_);show wpAny _ A.in1 (tryCatch (pyNext (.ref I)) _>>=_) _ _ s;refine G8 (C2 (W.item (j+1) s _ _ fR rA λ v h' tk hP Jo oK=>?_));have Lc:=oK S _ PL hS;show wpAny _ A.in1 (tryCatch (holding [v,v] (richCompare .Gt v vb>>=_)) _>>=_) _ _ _;refine G8 (C2 (C3 (G8 (Oy (j+1) (argBest bt j) v vb _ _ _ hP Vd (G8 (C3 (y1 (G8 (G7 (G9 ?_))))))))));cases hb:bt (j+1) (argBest bt j)with
  |true=>simp only[J5];refine G8 (wpAny_updateSeq Lc rfl (G8 (G7 ?_)));rw[p_];refine G9 ⟨C8 A1 _,ih (j+1) _ v _ () fR (W.frame _ _ _ Jo λ b Xr o e=>(i8 _ _ (λ h:S=b=>PM (by rw[h];exact Xr))).trans e) (by simp only[argBest,hb,J5];exact hP) (j0 _ Lc rfl) λ v' h2 t2 Ed To=>?_⟩;exact hR v' h2 t2 Ed λ b o AN JA e=>To b o AN JA ((i8 _ _ (J4 JA)).trans (oK b o AN e))
  |false=>simp only[o8,J1];refine G8 (G7 ?_);rw[p_];exact G9 ⟨C8 A1 _,ih (j+1) _ vb c () fR Jo (by simp only[argBest,hb,o8,J1];exact Vd) Lc λ v' h2 t2 Ed To=>hR v' h2 t2 Ed λ b o AN JA e=>To b o AN JA (oK b o AN e)⟩
def vC(W:Walks prog w A.in1 I fp wr n P St)(bt:Nat->Nat->Bool)(Oy:CmpOf prog w A.in1 .Gt P bt)(S:be)(PM:S∉fp)(rA:St 0 s.heap)(hS:s.heap.get? S=some (q_ #[] c))(h0:n=0->∀h' tk,(∀b o,b∉wr->b≠S->s.heap.get? b=some o->h'.get? b=some o)->R (.ok (.ret d)) {s with heap:=h',toks:=tk})(hR:0<n->∀v h' tk,P (argBest bt (n-1)) v->(∀b o,b∉wr->b≠S->s.heap.get? b=some o->h'.get? b=some o)->R (.ok (.ret v)) {s with heap:=h',toks:=tk}):codeAny (model prog w) A (.builtin "max.loop" ⟨[.ref I,.none,.ref S],OO d⟩) R s:=by
 have PL:S∉wr:=λ h=>PM (W.sub _ h);refine B2 F.entry_max_loop ?_;rw[k7 A1 _];show wpAny _ A.in1 (seqItems? (.ref S)>>=_) _ _ s;refine G8 (C0 hS rfl ?_);show wpAny _ A.in1 (tryCatch (pyNext (.ref I)) _>>=_) _ _ s;by_cases hn:0<n
 ·refine G8 (C2 (W.item 0 s _ _ hn rA λ v h' tk hP Jo oK=>?_));have Lc:=oK S _ PL hS;show wpAny _ A.in1 (updateSeq S (λ _=>#[v,v])>>=_) _ _ _;refine G8 (wpAny_updateSeq Lc rfl ?_);rw[p_];refine G9 ⟨C8 A1 _,zM W bt Oy S PM _ 0 _ v _ rfl hn (W.frame _ _ _ Jo λ b Xr o e=>(i8 _ _ (λ h:S=b=>PM (by rw[h];exact Xr))).trans e) hP (j0 _ Lc rfl) λ v' h2 t2 Ed To=>?_⟩;exact hR hn v' h2 t2 Ed λ b o AN JA e=>To b o AN JA ((i8 _ _ (J4 JA)).trans (oK b o AN e))
 ·have e:n=0:=()
  refine G8 (C2 (W.done s _ _ (e▸rA) λ h' tk hk=>?_));exact G8 (H0 (G9 (h0 e h' tk λ b o AN _ q=>hk b o AN q)))
end
def Au(d:al):Builtin.Builtins.bindParams "max" ["key","default"] 0 ⟨[],OO d⟩=pure [none,some d]:=by kernel_rfl
def qU{id:String}{b:Builtin}{args:List al}{kw:List (Str×al)}{Q:al->am->Prop}(hk:builtinKind id=none)(hp:plainId id=true)(hb:entryFor table id=some b)(ha:argsOk id ⟨args,kw⟩) (hc:wpAny (model prog w) A.in1 (b ⟨args,kw⟩) (λ fin s'=>match fin with
   | .done f=>(match(Except.ok f:Result)with| .ok (.ret v)=>Q v s'| .ok _=>False| .error e=>E e s')
   | .again c'=>c'.quiet=true/\codeAny (model prog w) A c' (λ r s'=>match r with| .ok (.ret v)=>Q v s'| .ok _=>False| .error e=>E e s') s') E s):wpAny (model prog w) A (call (.builtin id) args kw) Q E s:=by
 refine wpAny_call (codeAny_call_builtin hp hb ?_);simp only[checkBuiltinCall,hk];cases WV:Manifest.signature? id with
 |none=>exact G9 hc
 |some sig=>have ha':Bind.checkArgs id sig ⟨args,kw⟩=pure .unit:=by{simpa only[argsOk,WV]using ha};simp only[ha'];exact G9 hc
def Aq(hA:A.in1.handled=none){d:al}(hl:s.heap.IsList l av.toArray)(hi:IntsAre av ns)(h0:ns=[]->∀h' tk,(∀b o,s.heap.get? b=some o->h'.get? b=some o)->Q d {s with heap:=h',toks:=tk})(hR:∀m t h' tk,m∈ns->(∀x∈ns,x<=m)->(∀b o,s.heap.get? b=some o->h'.get? b=some o)->Q (.int m t) {s with heap:=h',toks:=tk}):wpAny (model prog w) A (call (.builtin "max") [.ref l] (OO d)) Q E s:=by
 have fR:l<s.heap.objs.size:=by obtain⟨o,e,_⟩:=hl;exact D4 e
 have fg:l≠s.heap.objs.size:=D3 fR;have hlen:av.length=ns.length:=hi.length;refine qU F.kind_max F.plain_max F.entry_max (Aw _ _) ?_;show wpAny _ A.in1 (Builtin.Builtins.bindParams "max" ["key","default"] 0 ⟨[],OO d⟩>>=_) _ _ s;refine G8 (wpAny_of_eq (Au d) (G8 (G9 ?_)));refine G8 (y2 hl (G8 (x8 ?_)));rw[p_];have Tb:∀i v,av.toArray[i]?=some v->∃t,v=Value.int (ns.getD i 0) t:=λ i v e=>by
  have e:av[i]?=some v:=by simpa using e
  have h1:i<ns.length:=by rw[<- hlen];exact(c5.mp e).1
  obtain⟨t,e2⟩:=L2.ia hi h1;rw[e]at e2;cases e2;exact⟨t,by simp[b8,h1]⟩
 have sz:(s.heap.push {cls:=.type "list_iterator",data:=.fields #[.ref l,.int 0 0]}).objs.size=s.heap.objs.size+1:=C1 ..;have W:=Walks.list (prog:=prog) (w:=w) hA s.heap.objs.size l fg av.toArray;refine G9 ⟨C8 A1 _,vC (d:=d) W (λ i j=>decide (ns.getD i 0 > ns.getD j 0)) (CmpOf.ints_gt _ Tb) _ ?_ ?_ (l7 _ rfl) ?_ ?_⟩
 ·show(s.heap.push {cls:=.type "list_iterator",data:=.fields #[.ref l,.int 0 0]}).objs.size∉_;rw[sz];simp only[C7,not_mem_nil,or_false,not_or];exact⟨Nat.succ_ne_self _,G1 (y7 fR)⟩
 ·refine W.frame _ _ _ ⟨⟨_,l7 _ rfl,rfl,rfl⟩,hl.at λ o e=>i7 _ e⟩ λ b _ o e=>i7 _ e
 ·intro hn h' tk hk;have e:ns=[]:=i4.mp (by rw[<- hlen];simpa using hn);refine h0 e h' tk λ b o q=>hk b o ?_ ?_ (i7 _ (i7 _ q))
  ·simpa using D3 (D4 q)
  ·have:=D4 q;show b≠(s.heap.push _).objs.size;rw[sz];exact D3 (y7 (D4 q))
 ·intro hn v h' tk hP hk;have hn:0<av.length:=by simpa using hn
  obtain⟨b1,b2⟩:=argBest_gt (λ i=>ns.getD i 0) (av.length-1);obtain⟨t,rfl⟩:=Tb _ _ hP;have hm:argBest (λ i j=>decide (ns.getD i 0 > ns.getD j 0)) (av.toArray.size-1)<ns.length:=by simp only[y6];lia
  refine hR _ t h' tk ?_ ?_ λ b o q=>hk b o ?_ ?_ (i7 _ (i7 _ q))
  ·rw[b8,c8 hm];exact getElem_mem _
  ·intro x hx;obtain⟨j,hj,rfl⟩:=mem_iff_getElem.mp hx;have:=b2 j ();simp only[y6];simpa[b8,hj]using this
  ·simpa using D3 (D4 q)
  ·have:=D4 q;show b≠(s.heap.push _).objs.size;rw[sz];exact D3 (y7 (D4 q))
end L5
namespace L2
open PySem.Spec PyProof.Rows L5
def k_(d:Int):List Int->Int
 |[]=>d
 |n::ns=>ns.foldl max n
theorem foldl_max:∀(ns:List Int)(n:Int),n<=ns.foldl max n/\(∀x∈ns,x<=ns.foldl max n)/\(ns.foldl max n=n\/ns.foldl max n∈ns)
 |[],n=>⟨Int.le_refl _,(λ x h=>by cases h),.inl rfl⟩
 |m::ns,n=>by
  obtain⟨h1,h2,h3⟩:=foldl_max ns (max n m);rw[foldl_cons];refine⟨(),λ x hx=>?_,?_⟩
  ·rcases C7.mp hx with rfl|hx
   ·lia
   ·exact h2 x hx
  ·rcases h3 with h3|h3
   ·by_cases e:n<=m
    ·exact .inr (by rw[h3];simp[Int.max_eq_right e])
    ·exact .inl (by rw[h3];lia)
   ·exact .inr (j9 _ h3)
def IW{d:Int}{m:Int}(h1:m∈ns)(h2:∀x∈ns,x<=m):k_ d ns=m:=by
 cases ns with
 |nil=>cases h1
 |cons n ns=>
  obtain⟨g1,g2,g3⟩:=foldl_max ns n;show ns.foldl max n=m;refine Int.le_antisymm ?_ ?_
  ·rcases g3 with g3|g3
   ·rw[g3];exact h2 n (l9 ..)
   ·exact h2 _ (j9 _ g3)
  ·rcases C7.mp h1 with rfl|h1
   ·exact g1
   ·exact g2 m h1
section
variable {c:Expr}{te tc:TE}{p kp:Pos}
def Ih(hc:X.calm=true)(hg:Gl X "max")(hm:X.mg "max"=none)(he:PE X e te)(hd:PE X c tc)(hs:starEach [e] X.env=[(false,eval e X.env)]:=by rfl)(nO:backTo pos (starEach [e] X.env)=(false,eval e X.env)::backTo pos (starEach [] X.env):=by rfl)(iT:(backTo pos (starEach [e] X.env)).any (·.1)=false:=by rfl):PE X (.Call (.Name "max" p) [e] [⟨some "default",c,kp⟩] pos) (λ σ H Q=>te σ H λ x H1=>tc σ H1 λ y H2=>∃(l:be)(ns:List Int)(d:Int),x=.ref l/\y=.int d/\dv X.K H2 l (ns.map V.int)/\Q (.int (k_ d ns)) H2):=by
 intro ce s σ H Q I h;refine r9 (eI I hg hm PyProof.Rows.boot_max ?_ (by decide) (by decide));refine PyProof.Rows.callWith_kw (cq ((gf he iF (by show _=_;rw[hs];rfl)) pos ce s σ H (λ vs H1=>match vs with|[x]=>tc σ H1 (λ y H2=>∃(l:be)(ns:List Int)(d:Int),x=.ref l/\y=.int d/\dv X.K H2 l (ns.map V.int)/\Q (.int (k_ d ns)) H2)|_=>False) I h) λ us s1 ⟨vs,H1,I1,r1,q1⟩=>?_) nO iT;cases vs with
 |nil=>exact q1.elim
 |cons x vs=>
  cases vs with
  |cons _ _=>exact q1.elim
  |nil=>
  refine cq ((xC hd Cw) pos ce s1 σ H1 (λ vs H2=>match vs with|[y]=>∃(l:be)(ns:List Int)(d:Int),x=.ref l/\y=.int d/\dv X.K H2 l (ns.map V.int)/\Q (.int (k_ d ns)) H2|_=>False) I1 q1) λ ws s2 ⟨zs,H2,I2,rz,e2⟩=>?_;cases zs with
  |nil=>exact e2.elim
  |cons y zs=>
   cases zs with
   |cons _ _=>exact e2.elim
   |nil=>
   obtain⟨l,ns,d,rfl,rfl,hl,q⟩:=e2;obtain⟨u,rfl,ru⟩:=vals1 r1;obtain⟨v,rfl,t,rfl⟩:=vals1 rz;cases(show u=Value.ref l from ru);obtain⟨av,rv,pl,hz⟩:=I2.list hl;refine Aq (I2.ok.hd hc) pl.isList (intsAre_of rv) (λ e h' tk hk=>?_) (λ m t h' tk m1 m2 hk=>?_)
   ·subst e;exact⟨.int d,H2,I2.kept (t':=tk) hk,⟨_,rfl⟩,q⟩
   ·rw[IW m1 m2]at q;exact⟨.int m,H2,I2.kept (t':=tk) hk,⟨_,rfl⟩,q⟩
end
end L2
namespace L3
open PySem.Spec L2 L5 PyProof.Rows
def Kw(k:Int)(wi:jH)(g:gm)(tt:eB)(te:bT)(n:Nat)(fr:List Nat):bT:=λ δ M Q=>f' wi g tt te n fr δ M λ ds M'=>∃ns:List Int,ds=ns.map D.int/\Q (.int (k_ k ns)) M'
section
variable {p kp S4:Pos}{k:Int}{j:_}
def LA(hc:X.calm=true)(hg:Gl X "max")(hm:X.mg "max"=none)(C:dq X scope bW fr tg iter ifs elt wi g tt te)(hs:FN X iter:=by intro _;rfl)(Og:starEach [.ListComp elt [⟨tg,iter,ifs,0⟩] scope dF] X.env=[(false,eval (.ListComp elt [⟨tg,iter,ifs,0⟩] scope dF) X.env)]:=by rfl)(nO:backTo pos (starEach [.ListComp elt [⟨tg,iter,ifs,0⟩] scope dF] X.env)=(false,eval (.ListComp elt [⟨tg,iter,ifs,0⟩] scope dF) X.env)::backTo pos (starEach [] X.env):=by rfl)(iT:(backTo pos (starEach [.ListComp elt [⟨tg,iter,ifs,0⟩] scope dF] X.env)).any (·.1)=false:=by rfl):WE X (.Call (.Name "max" p) [.ListComp elt [⟨tg,iter,ifs,0⟩] scope dF] [⟨some "default",.Constant (.int k) j S4,kp⟩] pos) (Kw k wi g tt te bW.length fr):=by replace C:=C.h;refine⟨?_⟩;obtain⟨B,uJ,hE,hi,⟨gv,Ot,gk,gl⟩,ht,he⟩:=C;refine bN (Ih hc hg hm (jf (tt:=wY X.K tt) (te:=up X.K te) B uJ hE hi Ot gk ht he hs) CD Og nO iT) ?_;rintro σ H Q ⟨δ,M,Q2,hs,hm,q,kk⟩;show mh (Pg X.K wi) gv (wY X.K tt) (up X.K te) bW.length fr σ H _;refine fJ gl hs hm q λ dL xs H' M' p tj gE t' hz hp q'=>?_;obtain⟨ns,rfl,q'⟩:=q';rw[cY tj];exact⟨p,ns,k,rfl,rfl,dv.of bL,kk _ _ (.int _) M' (aw.mpr rfl) (gE.laid hp) (t'.trans (ay.laid hp)) q'⟩
end
section
variable {Q:bI}{k:Int}
def Hu(h:f' wi g tt te n fr δ M λ ds M'=>∃ns:List Int,ds=ns.map D.int/\Q (.int (k_ k ns)) M'):Kw k wi g tt te n fr δ M Q:=h
end
end L3
namespace L4
open PySem.Spec L2 L3 L5
section
variable {p kp S4:Pos}{k:Int}{j:_}
end
end L4
namespace L3
open PySem.Spec L2 L5 PyProof.Rows
def Hj{tl:ij}(h:tl δ M λ ds M1=>match ds with|[.int i,.int j]=>Pb i/\Pb j/\R (.fix (fc i (j-i).toNat)) M1|_=>False):KU tl δ M R:=h
def Eu(R:Src->Mem->Prop)(ds:List D)(M1:Mem):Prop:=match ds with
 |[.tup xs]=>R (.fix (dZ xs)) M1
 |[x]=>(∃zs,cK M1 x=some zs)/\R (.fn (nh x)) M1
 |_=>False
def Cb(h:ta δ M (Eu R)):KY ta δ M R:=h
def Cc{xs:List D}(h:R (.fix (dZ xs)) M):Eu R [.tup xs] M:=h
def Cd{xs:List D}(hM:M a=some (.lst xs))(h:R (.fn (nh (.ref a))) M):Eu R [.ref a] M:=⟨⟨xs,iY hM⟩,h⟩
def oQ{xs:List D}(hM:M a=some (.lst xs)):ii (.fn (nh (.ref a))) M=some (dZ xs):=by show(cK M (.ref a)).map dZ=_;rw[iY hM];rfl
def Vv(R:Src->Mem->Prop)(ds:List D)(M1:Mem):Prop:=match ds with
 |[.tup xs,.tup ys]=>R (.fix (jI xs ys)) M1
 |[x,y]=>(∃zs,iw x y M1=some zs)/\R (.fn (iw x y)) M1
 |_=>False
def Hb(h:ta δ M (Vv R)):KS ta δ M R:=h
end L3
namespace L2
open PySem.Spec PyProof.Rows
def V2(K:J8)(x y:V)(H:Hp)(Q:Bool->Prop):Prop:=(∃a o,y=.ref a/\nY H a x o/\Q o.isSome)\/∃a b ar k,y=.ref a/\x=.ref b/\nX K H a ar/\k.dep<=5/\ic K H k (.ref b)/\Q (iW ar k).isSome
def Iu(neg:Bool)(hu:gj X):eN X (compareOp (if neg then .NotIn else .In)) (λ x y H Q=>V2 X.K x y H λ b=>Q (.bl (if neg then !b else b)) H):=by
 intro ce s σ H x y v u Q I rx ry h;rcases h with⟨a,o,rfl,g,q⟩|⟨a,b,ar,k,rfl,rfl,d,hk,yh,q⟩
 ·cases(show u=Value.ref a from ry);cases neg with
  |false=>exact XJ () I g rx λ s3 I3=>⟨.bl o.isSome,H,I3,rfl,q⟩
  |true=>exact JM () I g rx λ s3 I3=>⟨.bl (!o.isSome),H,I3,rfl,q⟩
 ·cases(show u=Value.ref a from ry);cases(show v=Value.ref b from rx);cases neg with
  |false=>exact VG hu I d hk yh λ s3 I3=>⟨.bl (iW ar k).isSome,H,I3,rfl,q⟩
  |true=>exact GO hu I d hk yh λ s3 I3=>⟨.bl (!(iW ar k).isSome),H,I3,rfl,q⟩
def RF(K:J8)(x y:V)(H:Hp)(Q:VK):Prop:=(∃a v,x=.ref a/\nY H a y (some v)/\Q v H)\/∃a b ar k v,x=.ref a/\y=.ref b/\nX K H a ar/\k.dep<=5/\ic K H k (.ref b)/\iW ar k=some v/\Q v H
def N'(hu:gj X):wN X (λ x y H Q=>RF X.K x y H Q):=by
 intro value slice ce s σ H x y v u Q I rx ry h hs;rcases h with⟨a,w,rfl,g,q⟩|⟨a,b,ar,k,w,rfl,rfl,d,hk,yh,g,q⟩
 ·cases(show v=Value.ref a from rx);refine tail_any (ops:=[.ref a,u]) (tJ I g) PySem.F.slot_dict_getitem.lookup ?_ hs;exact Aj () I g ry λ w' s3 I3 vc=>⟨w,H,I3,vc,q⟩
 ·cases(show v=Value.ref a from rx);cases(show u=Value.ref b from ry);obtain⟨_,_,xs,_,dd⟩:=d.of I;refine tail_any (ops:=[.ref a,.ref b]) dd.typeIs PySem.F.slot_dict_getitem.lookup ?_ hs;exact zb hu I d hk yh g λ w' s3 I3 vc=>⟨w,H,I3,vc,q⟩
def RE(K:J8):uw:=λ o i v H Q=>(∃a H',o=.ref a/\Fp H a i v H'/\Q H')\/∃a b ar k,o=.ref a/\i=.ref b/\nX K H a ar/\k.dep<=5/\ic K H k (.ref b)/\ar.length<sizeLine/\Q (lm H a (uK a (nL ar k b v)))
def GY(hu:gj X):nU X (RE X.K):=by
 intro ce s σ H o i v ov iv u Q I ro ri rv h;rcases h with⟨a,H',rfl,g,q⟩|⟨a,b,ar,k,rfl,rfl,d,hk,yh,hl,q⟩
 ·cases(show ov=Value.ref a from ro);exact Ae () I g ri rv λ s3 I3=>⟨H',I3,q⟩
 ·cases(show ov=Value.ref a from ro);cases(show iv=Value.ref b from ri);exact za hu I d hk yh hl rv λ s3 I3=>⟨_,I3,q⟩
def wD:cI X (.builtin "len") (λ xs H Q=>∃a,xs=[.ref a]/\((∃ar,H a=some (.dK ar)/\Q (.int ar.length) H)\/∃ar,H a=some (uK a ar)/\Q (.int ar.length) H)):=by
 intro ce s σ H xs us Q I r h;obtain⟨a,rfl,h⟩:=h;obtain⟨u,rfl,ru⟩:=vals1 r;cases(show u=Value.ref a from ru);rcases h with⟨ar,e,q⟩|⟨ar,e,q⟩
 ·exact TY I (.inl e) λ t s' I'=>⟨.int ar.length,H,I',⟨t,rfl⟩,q⟩
 ·exact Qi I e λ t s' I'=>⟨.int ar.length,H,I',⟨t,rfl⟩,q⟩
end L2
namespace L3
open PySem.Spec L2 L5 PyProof.Rows
noncomputable instance acA:DecidableEq D:=λ a b=>Classical.propDecidable (a=b)
noncomputable def cA(ar:List (D×D))(k:D):Option D:=(ar.find? λ p=>decide (p.1=k)).map (·.2)
noncomputable def putD(ar:List (D×D))(k v:D):List (D×D):=if(cA ar k).isSome=true then ar.map (λ p=>if p.1=k then(p.1,v)else p)else ar++[(k,v)]
def kW(t:Bool)(x:D):Prop:=match t with
 |false=>∃k:Key,x=jm k
 |true=>∃ks:List IK,x=mP (.t ks)/\(IK.t ks).dep<=5
def AF(K:J8)(H:Hp):Option D->Option V->Prop
 |none,none=>True
 |some d,some v=>kt K H d v
 |_,_=>False
def Fq.look{ar:List (D×D)}{xs:List (Key×V)}(h:Fq K H ar xs)(k:Key):AF K H (cA ar (jm k)) (iC xs k):=by
 induction h with
 |nil=>exact True.intro
 |@cons p q ps qs DU t ih=>
  obtain⟨h1,h2⟩:=DU;unfold cA iC at ih ⊢;by_cases e:q.1=k
  ·have e':p.1=jm k:=by rw[h1,e]
   simp only[A6,B9 e,B9 e',Option.map_some];exact h2
  ·have e':¬p.1=jm k:=λ z=>e (sS (h1.symm.trans z));simp only[A6,A7 e,A7 e'];exact ih
def AE.look{ar:List (D×D)}{xs:List eh}(h:AE K H ar xs)(k:IK):AF K H (cA ar (mP k)) (iW xs k):=by
 induction h with
 |nil=>exact True.intro
 |@cons p q ps qs DU t ih=>
  obtain⟨h1,_,_,h2⟩:=DU;unfold cA iW at ih ⊢;by_cases e:q.1=k
  ·have e':p.1=mP k:=by rw[h1,e]
   simp only[A6,B9 e,B9 e',Option.map_some];exact h2
  ·have e':¬p.1=mP k:=λ z=>e (qC (h1.symm.trans z));simp only[A6,A7 e,A7 e'];exact ih
theorem AF.isSome{o:Option D}{u:Option V}(h:AF K H o u):o.isSome=u.isSome:=by
 cases o with
 |none=>cases u with
  |none=>rfl
  |some _=>exact(show False from h).elim
 |some _=>cases u with
  |none=>exact(show False from h).elim
  |some _=>rfl
def AF.some_of{u:Option V}(h:AF K H (some d) u):∃v,u=some v/\kt K H d v:=by
 cases u with
 |none=>exact(show False from h).elim
 |some v=>exact⟨v,rfl,h⟩
def AE.keys{ar:List (D×D)}{xs:List eh}(h:AE K H ar xs)(e:H a=some (uK a xs)):nX K H a xs:=by
 refine⟨e,?_⟩;clear e
 induction h with
 |nil=>intro p hp;cases hp
 |@cons p q ps qs DU t ih=>
  intro x hx;rcases C7.mp hx with rfl|hx
  ·obtain⟨h1,h2,h3,_⟩:=DU;rw[h1]at h3;exact⟨h2,nq _ h3⟩
  ·exact ih x hx
def Cq(xs:List (Key×V))(k:Key)(v:V):putK xs k v=if(iC xs k).isSome=true then xs.map (λ kv=>if kv.1=k then(kv.1,v)else kv)else xs++[(k,v)]:=by unfold putK;rw[lZ]
def Fq.put{ar:List (D×D)}{xs:List (Key×V)}(h:Fq K H ar xs)(k:Key)(hd:kt K H d v):Fq K H (putD ar (jm k) d) (putK xs k v):=by
 rw[Cq];unfold putD;rw[(h.look k).isSome];by_cases e:(iC xs k).isSome=true
 ·rw[J6 e,J6 e];clear e
  induction h with
  |nil=>exact .nil
  |@cons p q ps qs DU t ih=>
   rw[C6,C6];refine .cons ?_ ih;obtain⟨h1,h2⟩:=DU;by_cases e:q.1=k
   ·rw[J6 e,J6 (by rw[h1,e])];exact⟨h1,hd⟩
   ·rw[J7 e,J7 (λ z=>e (sS (h1.symm.trans z)))];exact⟨h1,h2⟩
 ·rw[J7 e,J7 e];exact Paired.snoc h ⟨rfl,hd⟩
def AE.put{ar:List (D×D)}{xs:List eh}(h:AE K H ar xs)(k:IK){b:be}(hk:k.dep<=5)(hb:kt K H (mP k) (.ref b))(hd:kt K H d v):AE K H (putD ar (mP k) d) (nL xs k b v):=by
 unfold putD nL;rw[(h.look k).isSome];by_cases e:(iW xs k).isSome=true
 ·rw[J6 e,J6 e];clear e
  induction h with
  |nil=>exact .nil
  |@cons p q ps qs DU t ih=>
   rw[C6,C6];refine .cons ?_ ih;obtain⟨h1,h2,h3,h4⟩:=DU;by_cases e:q.1=k
   ·rw[J6 e,J6 (by rw[h1,e])];exact⟨h1,h2,h3,hd⟩
   ·rw[J7 e,J7 (λ z=>e (qC (h1.symm.trans z)))];exact⟨h1,h2,h3,h4⟩
 ·rw[J7 e,J7 e];exact Paired.snoc h ⟨rfl,hk,hb,hd⟩
def OW(neg:Bool):fq:=λ x y M Q=>∃a t ar,y=.ref a/\M a=some (.du t ar)/\kW t x/\Q (.bl (if neg then !(cA ar x).isSome else(cA ar x).isSome)) M
def pF{ks:List IK}(h:kt K H (mP (.t ks)) v):∃b,v=.ref b:=by unfold mP at h;obtain⟨p,xs,rfl,_⟩:=aP.mp h;exact⟨p,rfl⟩
def CV(neg:Bool)(hu:gj X):fm X (compareOp (if neg then .NotIn else .In)) (OW neg):=⟨_,Iu neg hu,λ x y d e H M Q2 Q hd he hm q k=>by
 obtain⟨a,t,ar,rfl,hM,ok,q⟩:=q;cases(aH.mp he);have hr:=hm a _ hM;cases t with
 |false=>obtain⟨xs,hx,rel⟩:=hr;obtain⟨kk,rfl⟩:=ok;rw[lM hd];refine .inl ⟨a,_,rfl,nY.k9 hx,k _ H _ M (aL.mpr rfl) hm (ay.refl H) ?_⟩;rw[<- (rel.look kk).isSome];exact q
 |true=>
  obtain⟨xs,hx,rel⟩:=hr;obtain⟨ks,rfl,mS⟩:=ok;obtain⟨b,rfl⟩:=pF hd;refine .inr ⟨a,b,xs,_,rfl,rfl,rel.keys hx,mS,nq _ hd,k _ H _ M (aL.mpr rfl) hm (ay.refl H) ?_⟩;rw[<- (rel.look _).isSome];exact q⟩
def T_:fq:=λ x y M Q=>EN x y M Q\/OW false x y M Q
def kG(hu:gj X):fm X (compareOp .In) T_:=(kH hu).or (CV false hu)
def yx:fq:=λ x y M Q=>yy x y M Q\/OW true x y M Q
def CS(hu:gj X):fm X (compareOp .NotIn) yx:=(CT hu).or (CV true hu)
def Ub:fq:=λ x y M Q=>∃a t ar d,x=.ref a/\M a=some (.du t ar)/\kW t y/\cA ar y=some d/\Q d M
def OR:fq:=λ x y M Q=>OS x y M Q\/Ub x y M Q
def cG(hu:gj X):Vo X OR:=by
 obtain⟨r,h1,h2⟩:=(L3.aS:Vo X OS);refine⟨_,h1.or (N' hu),λ x y d e H M Q2 Q hd he hm q k=>?_⟩;rcases q with q|⟨a,t,ar,w,rfl,hM,ok,hl,q⟩
 ·exact .inl (h2 x y d e H M Q2 Q hd he hm q k)
 ·cases(aH.mp hd);have hr:=hm a _ hM;cases t with
  |false=>obtain⟨xs,hx,rel⟩:=hr;obtain⟨kk,rfl⟩:=ok;have hv:=rel.look kk;rw[hl]at hv;obtain⟨v,e1,e2⟩:=hv.some_of;rw[lM he];exact .inr (.inl ⟨a,v,rfl,by rw[<- e1];exact nY.k9 hx,k _ H _ M e2 hm (ay.refl H) q⟩)
  |true=>obtain⟨xs,hx,rel⟩:=hr;obtain⟨ks,rfl,mS⟩:=ok;have hv:=rel.look (.t ks);rw[hl]at hv;obtain⟨v,e1,e2⟩:=hv.some_of;obtain⟨b,rfl⟩:=pF he;exact .inr (.inr ⟨a,b,xs,_,v,rfl,rfl,rel.keys hx,mS,nq _ he,e1,k _ H _ M e2 hm (ay.refl H) q⟩)
def Ua:kU:=λ o i v M N=>∃a t ar,o=.ref a/\M a=some (.du t ar)/\kW t i/\ar.length<sizeLine/\N (ak M a (.du t (putD ar i v)))
def Ln:kU:=λ o i v M N=>JN o i v M N\/Ua o i v M N
def nU.or{t u:uw}(h:nU X t)(g:nU X u):nU X (λ o i v H Q=>t o i v H Q\/u o i v H Q):=by
 intro ce s σ H o i v ov iv uu Q I ro ri rv q;rcases q with q|q
 ·exact h ce s σ H o i v ov iv uu Q I ro ri rv q
 ·exact g ce s σ H o i v ov iv uu Q I ro ri rv q
def mn(hu:gj X):Kd X Ln:=by
 obtain⟨r,h1,h2⟩:=(kx:Kd X JN);refine⟨_,nU.or h1 (GY hu),λ o i v d j e H M Q2 Q hd hj he hm q k=>?_⟩;rcases q with q|⟨a,t,ar,rfl,hM,ok,hl,q⟩
 ·exact .inl (h2 o i v d j e H M Q2 Q hd hj he hm q k)
 ·cases(aH.mp hd);have hr:=hm a _ hM;cases t with
  |false=>obtain⟨xs,hx,rel⟩:=hr;obtain⟨kk,rfl⟩:=ok;rw[lM hj];have t:=ay.mut (o:=.dK (putK xs kk v)) hx (λ _ z=>by cases z) (λ _ _ z=>by cases z);refine .inr (.inl ⟨a,_,rfl,Fp.k9 hx (by rw[<- C4 rel];exact hl),k _ _ (hm.put (u:=.du false (putD ar (jm kk) e)) t ⟨_,bL,(rel.put kk he).mono t⟩) t q⟩)
  |true=>obtain⟨xs,hx,rel⟩:=hr;obtain⟨ks,rfl,mS⟩:=ok;obtain⟨b,rfl⟩:=pF hj;have t:=ay.mut (o:=uK a (nL xs (.t ks) b v)) hx (λ _ z=>by cases z) (λ _ _ z=>by cases z);refine .inr (.inr ⟨a,b,xs,_,rfl,rfl,rel.keys hx,mS,nq _ hj,by rw[<- C4 rel];exact hl,k _ _ (hm.put (u:=.du true (putD ar (mP (.t ks)) e)) t ⟨_,bL,(rel.put (.t ks) mS hj he).mono t⟩) t q⟩)
def EL:List D->Mem->bI->Prop:=λ xs M Q=>wm xs M Q\/∃a t ar,xs=[.ref a]/\M a=some (.du t ar)/\Q (.int (ar.length:Nat)) M
def E_:de X (.builtin "len") EL:=by
 obtain⟨r,h1,h2⟩:=(L3.fL:de X (.builtin "len") wm);refine⟨_,h1.or wD,λ xs ds H M Q2 Q hd hm q k=>?_⟩;rcases q with q|⟨a,t,ar,rfl,hM,q⟩
 ·exact .inl (h2 xs ds H M Q2 Q hd hm q k)
 ·obtain⟨x,r,rfl,hx,hr⟩:=af.mp hd;cases(au.mp hr);cases(aH.mp hx);have hr:=hm a _ hM;cases t with
  |false=>obtain⟨xs,hx,rel⟩:=hr;exact .inr ⟨a,rfl,.inl ⟨xs,hx,by rw[<- C4 rel];exact k _ H _ M (aw.mpr rfl) hm (ay.refl H) q⟩⟩
  |true=>obtain⟨xs,hx,rel⟩:=hr;exact .inr ⟨a,rfl,.inr ⟨xs,hx,by rw[<- C4 rel];exact k _ H _ M (aw.mpr rfl) hm (ay.refl H) q⟩⟩
def Rg(t:Bool):bT:=λ _ M Q=>∀p,M p=none->Q (.ref p) (ak M p (.du t []))
def iB(t:Bool):WE X (.Dict [] [] pos) (Rg t):=by
 refine⟨?_⟩;cases t with
 |false=>refine bN CH λ σ H Q ⟨δ,M,Q2,hs,hm,q,k⟩ p hp=>?_;exact k _ _ (.ref p) _ (aH.mpr rfl) (hm.put (u:=.du false []) (ay.laid hp) ⟨[],bL,.nil⟩) (ay.laid hp) (q p (hm.free hp))
 |true=>refine bN CI λ σ H Q ⟨δ,M,Q2,hs,hm,q,k⟩ p hp=>?_;exact k _ _ (.ref p) _ (aH.mpr rfl) (hm.put (u:=.du true []) (ay.laid hp) ⟨[],bL,.nil⟩) (ay.laid hp) (q p (hm.free hp))
end L3
namespace L4
open PySem.Spec L2 L3 L5
end L4
namespace L2
open PySem.Spec PySem.W PyProof.Rows L5
def AB.vals{ar:List eh}{xs:List (IK×be×al)}(r:AB ar xs):li (ar.map λ p=>V.ref p.2.1) ((xs.map TN).map (·.key)):=by
 induction r with
 |nil=>exact .nil
 |@cons p q ps qs h t ih=>refine .cons ?_ ih;show Value.ref q.2.1=Value.ref p.2.1;rw[h.2.1]
def ue(hh:X.A.handled=none):cI X (.type "list") (λ xs H Q=>∃a ar,xs=[.ref a]/\H a=some (uK a ar)/\∀l,H l=none->Q (.ref l) (lm H l (.lst (ar.map λ p=>V.ref p.2.1)))):=by
 intro ce s σ H xs us Q I r h;obtain⟨a,ar,rfl,e,q⟩:=h;obtain⟨u,rfl,rx⟩:=vals1 r;cases(show u=Value.ref a from rx);obtain⟨⟨z,y,xs,rel,o,es,ep,h1,h2,h3,h4,h5⟩,_,_⟩:=(show bK X.prog X.w H s.heap a (uK a ar)from I.bP a _ e);have e1:es.size=ar.length:=by rw[<- l6,h4,B4];exact(C4 rel).symm
 refine kdl_call (xt y) hh (⟨o,h1,h2,h3⟩:Raw s.heap a es ep) (by rw[e1];exact z) λ h' tk dL c' kp hD it=>?_;have ea:=oy it;rw[h4]at ea;exact⟨.ref s.heap.objs.size,_,I.laid (t':=tk) kp (G3 _) (show bK X.prog X.w _ h' _ (.lst _)from⟨by rw[B4];exact z,dL.toList,c',by rw[ea];exact rel.vals,by rw[Array.toArray_toList];exact hD⟩),rfl,q _ (I.bP.fresh (G3 _))⟩
end L2
namespace L3
open PySem.Spec L2 L5 PyProof.Rows
def AE.ks{ar:List (D×D)}{xs:List eh}(h:AE K H ar xs):aE K H (ar.map (·.1)) (xs.map λ p=>V.ref p.2.1):=by
 induction h with
 |nil=>exact au.mpr rfl
 |@cons p q ps qs DU t ih=>exact af.mpr ⟨_,_,rfl,DU.2.2.1,ih⟩
def EK:List D->Mem->bI->Prop:=λ xs M Q=>dList xs M Q\/∃a ar,xs=[.ref a]/\M a=some (.du true ar)/\∀p,M p=none->Q (.ref p) (ak M p (.lst (ar.map (·.1))))
def JX(hh:X.A.handled=none):de X (.type "list") EK:=by
 obtain⟨r,h1,h2⟩:=(L3.EZ:de X (.type "list") dList);refine⟨_,h1.or (ue hh),λ xs ds H M Q2 Q hd hm q k=>?_⟩;rcases q with q|⟨a,ar,rfl,hM,q⟩
 ·exact .inl (h2 xs ds H M Q2 Q hd hm q k)
 ·obtain⟨x,r,rfl,hx,hr⟩:=af.mp hd;cases(au.mp hr);cases(aH.mp hx);obtain⟨xs,hx,rel⟩:=hm a _ hM;exact .inr ⟨a,xs,rfl,hx,λ l hl=>k _ _ (.ref l) _ (aH.mpr rfl) (hm.put (u:=.lst _) (ay.laid hl) ⟨_,bL,aE.mono (ay.laid hl) _ rel.ks⟩) (ay.laid hl) (q l (hm.free hl))⟩
section
variable {Q:bI}{ar:List (D×D)}{x y v:D}{t:Bool}{N:Mem->Prop}{xs:List D}
def Ca(h:M a=some (.du t ar))(hk:kW t x)(q:Q (.bl (cA ar x).isSome) M):T_ x (.ref a) M Q:=.inr ⟨a,t,ar,rfl,h,hk,q⟩
def zk(h:M a=some (.du t ar))(hk:kW t x)(q:Q (.bl (!(cA ar x).isSome)) M):yx x (.ref a) M Q:=.inr ⟨a,t,ar,rfl,h,hk,q⟩
def cm(h:OS x y M Q):OR x y M Q:=.inl h
def jR(h:M a=some (.du t ar))(hk:kW t x)(e:cA ar x=some d)(q:Q d M):OR (.ref a) x M Q:=.inr ⟨a,t,ar,d,rfl,h,hk,e,q⟩
def i'(h:M a=some (.du t ar))(hk:kW t x)(hl:ar.length<sizeLine)(q:N (ak M a (.du t (putD ar x v)))):Ln (.ref a) x v M N:=.inr ⟨a,t,ar,rfl,h,hk,hl,q⟩
def Hx(h:M a=some (.du t ar))(q:Q (.int (ar.length:Nat)) M):EL [.ref a] M Q:=.inr ⟨a,t,ar,rfl,h,q⟩
def BX(h:wm xs M Q):EL xs M Q:=.inl h
def BW(h:M a=some (.du true ar))(q:∀p,M p=none->Q (.ref p) (ak M p (.lst (ar.map (·.1))))):EK [.ref a] M Q:=.inr ⟨a,ar,rfl,h,q⟩
end
end L3
namespace KK
open L3 L4 L5
open L2 hiding aS pO
abbrev Row:=List Int
def Ha{a b:Row}(h:row a=row b):a=b:=by
 have h:a.map D.int=b.map D.int:=by injection h
 exact(List.map_inj_right (λ x y e=>by injection e)).mp h
theorem DJ:∀r:Row,jV (r.map IK.i)=r.map D.int
 |[]=>by unfold jV;rfl
 |x::r=>by rw[C6,C6];show mP (IK.i x)::jV (r.map IK.i)=_;rw[DJ r];unfold mP;rfl
theorem DM:∀r:Row,IK.jy (r.map IK.i)=0
 |[]=>by unfold IK.jy;rfl
 |x::r=>by rw[C6];show max (IK.dep (IK.i x)) (IK.jy (r.map IK.i))=0;rw[DM r];unfold IK.dep;rfl
def Jh(r:Row):kW true (row r):=by
 refine⟨r.map IK.i,?_,?_⟩
 ·unfold mP row;rw[DJ]
 ·unfold IK.dep;rw[DM];decide
def yu(ar:List (Row×D)):List (D×D):=ar.map λ p=>(row p.1,p.2)
def Di(ar:List (Row×D))(x:Row):cA (yu ar) (row x)=(ar.find? λ p=>p.1==x).map (·.2):=by
 unfold cA yu;rw[find?_map,Option.map_map];have e:((λ p:D×D=>decide (p.1=row x))∘λ p:Row×D=>(row p.1,p.2))=λ p:Row×D=>p.1==x:=by funext p;show decide (row p.1=row x)=(p.1==x);rw[A4,w9,beq_iff_eq];exact⟨Ha,λ h=>by rw[h]⟩
 rw[e];rfl
def xR(ar:List (Row×D))(x:Row):(cA (yu ar) (row x)).isSome=decide (x∈ar.map (·.1)):=by
 rw[Di,y4,A4,w9,find?_isSome,D5];constructor
 ·rintro⟨p,h1,h2⟩;exact⟨p,h1,by simpa using h2⟩
 ·rintro⟨p,h1,h2⟩;exact⟨p,h1,by simpa using h2⟩
def HV{ar:List (Row×D)}{x:Row}(v:D)(h:x∉ar.map (·.1)):putD (yu ar) (row x) v=yu (ar++[(x,v)]):=by unfold putD;rw[xR,J7 (by simpa using h)];simp[yu]
def HU{ar:List (Row×D)}{x:Row}(v:D)(h:x∈ar.map (·.1))(hv:∀p∈ar,p.2=v):putD (yu ar) (row x) v=yu ar:=by unfold putD;rw[xR,J6 (by simpa using h)];unfold yu;rw[D6];refine l8 λ p hp=>?_;show(if row p.1=row x then(row p.1,v)else(row p.1,p.2))=_;rw[hv p hp];split<;>rfl
def JL(ar:List (Row×D)):(yu ar).length=ar.length:=by simp[yu]
def ED(ar:List (Row×D)):(yu ar).map (·.1)=(ar.map (·.1)).map row:=by simp[yu]
def yes(rs:List Row):List (Row×D):=rs.map λ r=>(r,.bl true)
def lR(rs:List Row):(yes rs).map (·.1)=rs:=by simp[yes,Function.comp_def]
def AU(rs:List Row)(x:Row):yes rs++[(x,.bl true)]=yes (rs++[x]):=by simp[yes]
def FR{rs:List Row}:∀p∈yes rs,p.2=.bl true:=λ p hp=>by obtain⟨r,_,rfl⟩:=D5.mp hp;rfl
def Pf(a b:Row):Prop:=klt (lg b) (lg a)=false
def sx{rs:List Row}{outD:List D}(h:Out (λ i j=>klt (lg (rs.getD i [])) (lg (rs.getD j []))) (rs.map row) D.bh outD):∃out:List Row,outD=out.map row/\out.Perm rs/\out.Pairwise Pf:=by
 obtain⟨p,p1,p2,rfl⟩:=h;rw[B4]at p1 p2;have Jv:∀i∈p.toList,i<rs.length:=λ i hi=>by have:=(Array.Perm.mem_iff p1 (a:=i)).mp (by simpa using hi);simpa using this
 refine⟨p.toList.map λ i=>rs.getD i [],?_,?_,?_⟩
 ·rw[D6];refine l8 λ i hi=>?_;have:=Jv i hi;simp[b8,this]
 ·have q:p.toList.Perm (List.range rs.length):=by have:=Array.perm_iff_toList_perm.mp p1;simpa using this
  have q2:=q.map λ i=>rs.getD i [];have e:(List.range rs.length).map (λ i=>rs.getD i [])=rs:=by
   apply ext_getElem?;intro i;by_cases hi:i<rs.length
   ·simp[hi,b8]
   ·simp[hi]
  rw[e]at q2;exact q2
 ·rw[pairwise_map,pairwise_iff_getElem];intro i j hi hj s_;have hz:=p1.size;have Va:j<rs.length:=by rw[<- hz];simpa using hj
  have:=p2 i j (G2 s_) Va;have g:∀k (hk:k<p.toList.length),pg p k=p.toList[k]:=λ k hk=>by
   rw[je];have oK:k<p.size:=by simpa using hk
   simp[oK]
  rw[g i hi,g j hj]at this;exact this
def jp.free(h:jp M M')(hp:M' p=none):M p=none:=by
 cases e:M p with
 |none=>rfl
 |some o=>rw[h p o e]at hp;cases hp
def jp.trans{M2:Mem}(h:jp M M1)(g:jp M1 M2):jp M M2:=λ b o e=>g b o (h b o e)
def jp.new(h:jp M M')(hp:M' p=none)(x:MO):jp M (ak M' p x):=Df h hp x
def bA{x:MO}(h:M p=some x)(g:M q=none):p≠q:=λ z=>by subst z;rw[h]at g;cases g
def Rm{ds:List α}{X:Prop}(h:ds.length<=16)(q:X):ds.length<=sizeLine/\X:=⟨D7 h (by decide),q⟩
def ja{Q:bI}(q:Q (.bl true) M):tU false .bh .bh M Q:=q
def JF(h:∀ds M Q,¬sp ds M Q):bg P w K mg base cM k f fd ps (bD K sp):=
 ⟨λ _ _ _ _ ⟨ds,M,Q,_,_,q,_⟩=>bi q (h ds M Q),λ _ _ _ _ _ _ _ _ _ _ _ _ _ ⟨ds,M,Q,_,_,q,_⟩=>bi q (h ds M Q)⟩
def Ye:D->Prop
 | .bh=>True| .bl _=>True| .int _=>True| .str _=>True|_=>False
end KK
namespace L2
open PySem.Spec PyProof.Rows
open HT (lexLt bZ cw cf cg)
section
open PySem.SeqAt PySem.MeetsSeq PySem.MeetsSeq2 PySem.MeetsSeq3 PySem.SeqRoads2
open PySem.AutoSeq1 (wpAny_loadPart')
def rW(A:Around)(s:am)(a:Int)(t:Tok)(c:Int)(u:Tok)(prog:Program)(w:World)(E:al->am->Prop)(Q:al->am->Prop)(h:Q (.bool (decide (a<=c))) s):wpAny (model prog w) A (richCompare .LtE (.int a t) (.int c u)) Q E s:=
 (PyProof.Rows.le_int h:wpAny (model prog w) A (compareOp .LtE (.int a t) (.int c u)) Q E s)
def Jc(l b:be)(xs ys:Array al)(n k:Nat)(dd ee:Option be)(sl tl:Array (Option al))(ns ms:List Int)(hi:IntsAre xs.toList ns)(hj:IntsAre ys.toList ms)(f:Nat):∀i:Nat,ns.length-i=f->Meets (Builtin.«list.__eq__.loop» ⟨[.ref l,.ref b,rawInt i,rawInt 1],[]⟩)
   (λ A R s=>s.heap.get? l=some {cls:=.type "list",dict:=dd,data:=.seq xs n,slots:=sl}/\s.heap.get? b=some {cls:=.type "list",dict:=ee,data:=.seq ys k,slots:=tl}/\i<=ns.length/\i<=ms.length/\
    R (.ok (.ret (.bool (!lexLt (ms.drop i) (ns.drop i))))) s):=by
 have z1:xs.size=ns.length:=by rw[<- hi.length];simp
 have z2:ys.size=ms.length:=by rw[<- hj.length];simp
 induction f with
 |zero=>
  intro i hf prog w A R s h;obtain⟨hp,g,d,tk,os⟩:=s;obtain⟨hl,hb,i1,i2,h⟩:=h
  wp_walk using A8 hl,A8 hb
  have e1:xs[((i:Nat):Int).toNat]?=none:=by simp;lia
  have d1:ns.drop i=[]:=by simp;lia
  rw[d1]at h;rw[e1];have fin:R (.ok (.ret (.bool (decide (xs.size<=ys.size))))) ⟨hp,g,d,tk,os⟩:=by
   have q:(!lexLt (ms.drop i) [])=decide (xs.size<=ys.size):=by
    rw[B9 (show xs.size<=ys.size by lia)];cases e:ms.drop i with
    |nil=>rw[cw];rfl
    |cons c r=>rw[cg];rfl
   rw[<- q];exact h
  wp_walk using A8 hl,A8 hb
  exact fin
 |succ f ih=>
  intro i hf prog w A R s h;obtain⟨hp,g,d,tk,os⟩:=s;obtain⟨hl,hb,i1,i2,h⟩:=h;have a1:i<ns.length:=()
  obtain⟨t,e1⟩:=ia hi a1;have e1:xs[((i:Nat):Int).toNat]?=some (.int ns[i] t):=by simpa using e1
  by_cases a2:i<ms.length
  ·obtain⟨u,e2⟩:=ia hj a2;have e2:ys[((i:Nat):Int).toNat]?=some (.int ms[i] u):=by simpa using e2
   rw[c4 a1,c4 a2,bZ]at h
   wp_walk using A8 hl,A8 hb
   rw[e1,e2];refine G8 (EqAt.int_int ns[i] t ms[i] u prog w _ _ ?_);have cc:((i:Int)+1)=((i+1:Nat):Int):=by push_cast;rfl
   by_cases q:ns[i]=ms[i]
   ·rw[J6 q.symm]at h;have qb:(ns[i]==ms[i])=true:=by simp[q]
    rw[qb]
    wp_walk
    rw[cc];exact⟨C8 plain_eq_loop _,B2 entry_eq_loop (by rw[k7 plain_eq_loop _];exact ih (i+1) () prog w A R _ ⟨hl,hb,(),(),h⟩)⟩
   ·rw[J7 (J4 q)]at h;have qb:(ns[i]==ms[i])=false:=by simp[q]
    rw[qb];have rl:=rW A.in1 ⟨hp,g,d,tk,os⟩ ns[i] t ms[i] u prog w
    wp_walk using A8 hl,A8 hb
    rw[e1,e2]
    wp_walk using rl
    have qq:(!decide (ms[i]<ns[i]))=decide (ns[i]<=ms[i]):=by
     by_cases z:ns[i]<=ms[i]
     ·rw[B9 z,A7 ()];rfl
     ·rw[A7 z,B9 ()];rfl
    rw[<- qq];exact h
  ·have e2:ys[((i:Nat):Int).toNat]?=none:=by simp;lia
   have d2:ms.drop i=[]:=by simp;lia
   rw[c4 a1,d2,cf]at h
   wp_walk using A8 hl,A8 hb
   rw[e1,e2]
   wp_walk using A8 hl,A8 hb
   have q:decide (xs.size<=ys.size)=false:=A7 ();show R (.ok (.ret (.bool (decide (xs.size<=ys.size))))) _;rw[q];exact h
def mH(l b:be)(xs ys:Array al)(n k:Nat)(dd ee:Option be)(sl tl:Array (Option al))(ns ms:List Int)(hi:IntsAre xs.toList ns)(hj:IntsAre ys.toList ms):
  Meets (Builtin.«list.__le__» ⟨[.ref l,.ref b],[]⟩) (λ A R s=>s.heap.get? l=some {cls:=.type "list",dict:=dd,data:=.seq xs n,slots:=sl}/\s.heap.get? b=some {cls:=.type "list",dict:=ee,data:=.seq ys k,slots:=tl}/\
    R (.ok (.ret (.bool (!lexLt ms ns)))) s):=by
 intro prog w A R s h;obtain⟨hp,g,d,tk,os⟩:=s;obtain⟨hl,hb,h⟩:=h;have f3:=AutoSeq1.sub_list_list
 wp_walk using A8 hl,A8 hb
 exact⟨C8 plain_eq_loop _,B2 entry_eq_loop (by rw[k7 plain_eq_loop _];exact Jc l b xs ys n k dd ee sl tl ns ms hi hj _ 0 rfl prog w A R _ ⟨hl,hb,G5 _,G5 _,h⟩)⟩
def Dq{b:be}{xs ys:Array al}{ms:List Int}(hl:s.heap.IsList l xs)(hb:s.heap.IsList b ys)(hi:IntsAre xs.toList ns)(hj:IntsAre ys.toList ms)(hu:A.units<cLine)(h:Q (.bool (!lexLt ms ns)) s):wpAny (model prog w) A (compareOp .LtE (.ref l) (.ref b)) Q E s:=by
 obtain⟨⟨c1,dd,da,sl⟩,o1,k1,n,d1⟩:=id hl;obtain⟨⟨c2,ee,db,tl⟩,o2,k2,m,d2⟩:=id hb;simp only at k1 d1 k2 d2;subst k1 d1 k2 d2;exact i9 (op:=.LtE) ⟨_,o1,rfl⟩ ⟨_,o2,rfl⟩ PySem.F.slot_list_le PySem.F.entry_list_le (PySem.F.args_list_le_2 _ _) (mH l b xs ys n m dd ee sl tl ns ms hi hj)
  ⟨o1,o2,show Value.bool (!lexLt ms ns)≠Value.notImplemented/\Q (.bool (!lexLt ms ns)) s from⟨(λ x=>nomatch x),h⟩⟩ hu
def N6{b m m':be}{i j:Int}{t u:Tok}{ms:List Int}{xs ys:List al}{n k:Nat}{dd ee:Option be}{sl tl:Array (Option al)}(i1:IntsAre xs ns)(i2:IntsAre ys ms):Meets (Builtin.«tuple.__le__» ⟨[.ref l,.ref b],[]⟩)
   (λ A R s=>s.heap.get? l=some {cls:=.type "tuple",dict:=dd,data:=.seq #[.int i t,.ref m] n,slots:=sl}/\s.heap.get? b=some {cls:=.type "tuple",dict:=ee,data:=.seq #[.int j u,.ref m'] k,slots:=tl}/\s.heap.IsList m xs.toArray/\s.heap.IsList m' ys.toArray/\A.units+2<cLine/\
    R (.ok (.ret (.bool (!klt (j,ms) (i,ns))))) s):=
 .of_wp λ prog w A R s h=>by
  obtain⟨hp,g,d,tk,os⟩:=s;obtain⟨hl,hb,h1,h2,hu,h⟩:=h;have f2:=AutoSeq1.sub_tuple_tuple;have q1:=EqAt.int_int (A:=A.in1) (s:=⟨hp,g,d,tk,os⟩) i t j u prog w;have q2:=ym (A:=A.in1) (s:=⟨hp,g,d,tk,os⟩) (b:=false) h1 h2 i1 i2 (by show A.in1.units+1<cLine;exact p8 (by exact G3 _) hu) prog w;unfold klt at h;dsimp only at h;by_cases e:i=j
  ·rw[J6 e.symm]at h;rw[show(i==j)=true by simp[e]]at q1;by_cases e2:ns=ms
   ·rw[B9 e2]at q2;rw[e2,qm]at h
    wp_walk using A8 hl,A8 hb,q1,q2
    exact⟨_,rfl,h⟩
   ·rw[A7 e2]at q2;have q3:∀(E:al->am->Prop)(Q:al->am->Prop),Q (.bool (!lexLt ms ns)) ⟨hp,g,d,tk,os⟩->wpAny (model prog w) A.in1 (richCompare .LtE (.ref m) (.ref m')) Q E ⟨hp,g,d,tk,os⟩:=λ E Q z=>Dq (A:=A.in1) h1 h2 i1 i2 (by show A.units+1<cLine;lia) z
    wp_walk using A8 hl,A8 hb,q1,q2,q3
    exact⟨_,rfl,h⟩
  ·rw[J7 (J4 e)]at h;rw[show(i==j)=false by simp[e]]at q1;have q3:=rW A.in1 ⟨hp,g,d,tk,os⟩ i t j u prog w;have qq:(!decide (j<i))=decide (i<=j):=by
    by_cases z:i<=j
    ·rw[B9 z,A7 ()];rfl
    ·rw[A7 z,B9 ()];rfl
   rw[qq]at h
   wp_walk using A8 hl,A8 hb,q1,q3
   exact⟨_,rfl,h⟩
def Jd{b m m':be}{i:Int}{t u:Tok}{ms:List Int}{xs ys:List al}{o':Obj}(ho:s.heap.get? l=some o)(hc:o.cls=.type "tuple")(hd:o.data=.seq #[.int i t,.ref m] n)(kL:s.heap.get? b=some o')(uJ:o'.cls=.type "tuple")(ie:o'.data=.seq #[.int j u,.ref m'] k)(h1:s.heap.IsList m xs.toArray)(h2:s.heap.IsList m' ys.toArray)(i1:IntsAre xs ns)(i2:IntsAre ys ms)(hu:A.units+2<cLine)(h:Q (.bool (!klt (j,ms) (i,ns))) s):wpAny (model prog w) A (compareOp .LtE (.ref l) (.ref b)) Q E s:=by
 obtain⟨c1,dd,da,sl⟩:=o;obtain⟨c2,ee,db,tl⟩:=o';dsimp only at hc hd uJ ie;subst hc hd uJ ie;exact i9 (op:=.LtE) ⟨_,ho,rfl⟩ ⟨_,kL,rfl⟩ PySem.F.slot_tuple_le PySem.F.entry_tuple_le (PySem.F.args_tuple_le_2 _ _) (N6 i1 i2)
  ⟨ho,kL,h1,h2,by show A.units+2<cLine;exact hu,show Value.bool (!klt (j,ms) (i,ns))≠Value.notImplemented/\Q (.bool (!klt (j,ms) (i,ns))) s from⟨(λ x=>nomatch x),h⟩⟩ ()
end
end L2
namespace L3
open PySem.Spec PyProof.Rows L2
def Nj(hu:gj X):eN X (compareOp .LtE) (λ x y H Q=>∃c c2,gy X.K false H x c/\gy X.K false H y c2/\Q (.bl (!klt c2 c)) H):=by intro ce s σ H x y v u Q I rx ry ⟨c,c2,h1,h2,q⟩;obtain⟨t,m,o,tk,n,av,rfl,ho,hc,hd,hm,hi⟩:=jl I h1 rx;obtain⟨t2,m2,o2,tk2,n2,qx,rfl,Ju,Oz,hd2,jG,hi2⟩:=jl I h2 ry;exact Jd ho hc hd Ju Oz hd2 hm jG hi hi2 () ⟨.bl (!klt c2 c),H,I,rfl,q⟩
def T6:fq:=λ x y M Q=>∃(i j:Int)(m m2:be)(ns ms:List Int),x=.tup [.int i,.ref m]/\y=.tup [.int j,.ref m2]/\M m=some (.lst (ns.map D.int))/\M m2=some (.lst (ms.map D.int))/\Q (.bl (!klt (j,ms) (i,ns))) M
def x_{i:Int}{m:be}{x:V}(hm:lf K H M)(hd:kt K H (.tup [.int i,.ref m]) x)(h:M m=some (.lst (ns.map D.int))):gy K false H x (i,ns):=by obtain⟨p,xs,rfl,hs,Eb⟩:=aP.mp hd;obtain⟨a,r,rfl,ha,hr⟩:=af.mp Eb;obtain⟨b,r2,rfl,hb,Jr⟩:=af.mp hr;cases(au.mp Jr);cases(aw.mp ha);cases(aH.mp hb);obtain⟨ys,hy,hdy⟩:=hm m _ h;rw[cY hdy]at hy;exact⟨p,m,rfl,hs,.inl (.inl hy)⟩
def SD(hu:gj X):fm X (compareOp .LtE) T6:=⟨_,Nj hu,λ x y d e H M Q2 Q hd he hm q k=>by
 obtain⟨i,j,m,m2,ns,ms,rfl,rfl,h1,h2,q⟩:=q;exact⟨_,_,x_ hm hd h1,x_ hm he h2,k _ H _ M (aL.mpr rfl) hm (ay.refl H) q⟩⟩
def T7:fq:=λ x y M Q=>XN x y M Q\/T6 x y M Q
def SE(hu:gj X):fm X (compareOp .LtE) T7:=kZ.or (SD hu)
def Ir:eN X (compareOp .IsNot) (λ x y H Q=>∃a b,x=.bl a/\y=.bl b/\Q (.bl (!decide (a=b))) H):=by intro ce s σ H x y v u Q I rx ry ⟨a,b,e1,e2,q⟩;subst e1 e2;cases rx;cases ry;exact G9 (ba I q (by cases a<;>cases b<;>rfl))
def T8(neg:Bool):fq:=λ x y M Q=>∃a b,x=.bl a/\y=.bl b/\Q (.bl (xor neg (decide (a=b)))) M
def NJ:fm X (compareOp .IsNot) (T8 true):=⟨_,Ir,λ x y d e H M Q2 Q hd he hm q k=>by
 obtain⟨a,b,rfl,rfl,q⟩:=q;exact⟨a,b,aL.mp hd,aL.mp he,k _ H _ M (aL.mpr rfl) hm (ay.refl H) (by simpa using q)⟩⟩
def HC{a:Bool}{Q:bI}(q:Q (.bl (!decide (a=b))) M):T8 true (.bl a) (.bl b) M Q:=⟨a,b,rfl,rfl,by simpa using q⟩
def Hy{i:Int}{m m2:be}{ms:List Int}{Q:bI}(h1:M m=some (.lst (ns.map D.int)))(h2:M m2=some (.lst (ms.map D.int)))(q:Q (.bl (!klt (j,ms) (i,ns))) M):T7 (.tup [.int i,.ref m]) (.tup [.int j,.ref m2]) M Q:=.inr ⟨i,j,m,m2,ns,ms,rfl,rfl,h1,h2,q⟩
def fX:List al->Option (List Str)
 |[]=>some []
 | .str x _::r=>(fX r).map (x::·)
 |_::_=>none
theorem mi:∀{us:List al} {zs:List Str},fX us=some zs->li (zs.map V.str) us
 |[],zs,h=>by cases h;exact .nil
 |u::us,zs,h=>by
  cases u with
  |str x t=>
   unfold fX at h;cases q:fX us with
   |none=>rw[q]at h;cases h
   |some ys=>rw[q]at h;cases h;exact .cons ⟨t,rfl⟩ (mi q)
  |_=>exact bi h (by unfold fX;intro z;cases z)
theorem jz:∀zs:List Str,aE K H (zs.map D.str) (zs.map V.str)
 |[]=>by simp[au]
 |z::zs=>by rw[C6,C6,af];exact⟨_,_,rfl,aJ.mpr rfl,jz zs⟩
def Eh{x:Str}{d:Option be}{av:Array al}(h:mg x=some (.ref a))(l:K.lookup a=some ⟨.type "tuple",d,.seq av n,sl⟩)(v:fX av.toList=some zs)(z:av.size<=sizeLine):fQ K mg x (.tup (zs.map D.str)):=
 ⟨.ref a,.ref a,h,rfl,λ H=>aP.mpr ⟨a,zs.map V.str,rfl,.inr ⟨_,av,n,l,rfl,rfl,z,mi v⟩,jz zs⟩⟩
end L3
namespace KK
open L3 L4 L5
open L2 hiding aS pO
def jp.rfl:jp M M:=λ _ _ e=>e
def xj:cO:=λ ds M Q=>∃ns:List Int,ds=[.fl (ns.map D.int)]/\∀f c M',Flow M' f c->jp M M'->Q (.ref f) M'
end KK
namespace L2
open PySem.Spec PySem.W PySem.Calls PyProof.Rows
section
open Builtin Builtin.Str in
def zd{x:Str}{t u:Tok}(hy:(y.length==0)=false)(hsz:x.length+2<=sizeLine)(h:∀(l:List (Str×Tok))(k:Nat),l.map (·.1)=Txt.split x y->Q (.ref s.heap.objs.size) {s with heap:=s.heap.push {cls:=.type "list",data:=.seq (strValues l).toArray},toks:=k}):wpAny (model prog w) A (call (.builtin "str.split") [.str x t,.str y u]) Q E s:=by
 have hn:(partsBetween x (occurrences x y 0 x.length (x.length+1)) y.length).length<=sizeLine:=by have e1:=StrLaws.occ_length_le x y 0 x.length (x.length+1);rw[length_partsBetween];lia
 cases h1:(decide (x.length<y.length)||decide (strKind x<strKind y))
 ·cases hf:(occurrences x y 0 x.length (x.length+1)).isEmpty
  ·refine H9 F.slot_str_split (typeIs_str _ _ _) F.entry_str_split (F.args_str_split_2 _ _) (meets_str_split_sep x y t u h1 hy hf () hn) ?_;show wants Q E _ {s with toks:=_,heap:=s.heap.push {cls:=.type "list",data:=.seq (strsFrom s.toks (partsBetween x (occurrences x y 0 x.length (x.length+1)) y.length)).toArray}};rw[strsFrom_eq];exact h (numbered s.toks _) _ ((numbered_texts _ _).trans ((J7 (ne_true_of_eq_false h1)).trans (J7 (ne_true_of_eq_false hf))).symm)
  ·exact H9 F.slot_str_split (typeIs_str _ _ _) F.entry_str_split (F.args_str_split_2 _ _) (meets_str_split_not_found x y t u h1 hy hf)
    (h [(x,t)] s.toks ((J7 (ne_true_of_eq_false h1)).trans (J6 hf)).symm)
 ·exact H9 F.slot_str_split (typeIs_str _ _ _) F.entry_str_split (F.args_str_split_2 _ _) (meets_str_split_cannot_occur x y t u h1)
   (h [(x,t)] s.toks (J6 h1).symm)
theorem og:∀(l:List (Str×Tok)),li ((l.map (·.1)).map V.str) (strValues l)
 |[]=>.nil
 |p::l=>.cons ⟨p.2,rfl⟩ (og l)
end
def MC:V->List V->Hp->VK->Prop:=λ x vs H Q=>∃z y,x=.str z/\vs=[.str y]/\y.length≠0/\z.length<=100000/\(Txt.split z y).length<=sizeLine/\∀p,H p=none->Q (.ref p) (lm H p (.lst ((Txt.split z y).map V.str)))
def C':Ux X "str.split" MC:=by intro ce s σ H x xs v us Q I rx r h;obtain⟨z,y,rfl,rfl,hy,hz,hl,q⟩:=h;obtain⟨t,rfl⟩:=rx;obtain⟨u,rfl,r1⟩:=li.one r;obtain⟨t',rfl⟩:=r1;refine zd (by simpa using hy) (by rw[G4];lia) λ l k e=>?_;refine⟨.ref s.heap.objs.size,_,I.laid (t':=k) (λ b o e=>i7 _ e) (G3 _) (show bK X.prog X.w _ _ _ (.lst ((Txt.split z y).map V.str))from⟨by rw[B4];exact hl,strValues l,0,by rw[<- e];exact og l,l7 _ rfl⟩),rfl,q _ (I.bP.fresh (G3 _))⟩
def Ao:cI X (.type "str") (λ xs H Q=>∃i:Int,xs=[.int i]/\i.natAbs.log2<1920/\Q (.str (Str.ofString (toString i))) H):=by intro ce s σ H xs us Q I r ⟨i,e,hi,q⟩;subst e;obtain⟨u,rfl,t,rfl⟩:=vals1 r;exact PySem.P.str_of_int hi ⟨.str (Str.ofString (toString i)),H,I.tok _,⟨_,rfl⟩,q⟩
def Ar:cI X (.type "int") (λ xs H Q=>∃(z:Str)(n:Int),xs=[.str z]/\PySem.intText? z=some n/\z.length<=640/\Q (.int n) H):=by intro ce s σ H xs us Q I r ⟨z,n,e,hn,hl,q⟩;subst e;obtain⟨u,rfl,t,rfl⟩:=vals1 r;exact KIN.call_text hn hl ⟨.int n,H,I.tok _,⟨_,rfl⟩,q⟩
end L2
namespace L3
open PySem.Spec PyProof.Rows L2 L5
section
def EI:D->List D->Mem->bI->Prop:=λ x ds M Q=>∃z y,x=.str z/\ds=[.str y]/\y.length≠0/\z.length<=100000/\(Txt.split z y).length<=sizeLine/\∀p,M p=none->Q (.ref p) (ak M p (.lst ((Txt.split z y).map D.str)))
theorem ni:∀(zs:List Str),aE K H (zs.map D.str) (zs.map V.str)
 |[]=>au.mpr rfl
 |z::zs=>af.mpr ⟨_,_,rfl,aJ.mpr rfl,ni zs⟩
def m_split:Pa X "str.split" EI:=⟨_,C',λ x xs d ds H M Q2 Q hx hd hm q k=>by
 obtain⟨z,y,rfl,rfl,hy,hz,hl,q⟩:=q;obtain⟨v,r,rfl,hv,hr⟩:=af.mp hd;cases(au.mp hr);refine⟨z,y,aJ.mp hx,by rw[aJ.mp hv],hy,hz,hl,λ p hp=>?_⟩;exact k _ _ (.ref p) _ (aH.mpr rfl) (cS hp (ni _) hm) (ay.laid hp) (q p (hm.free hp))⟩
def Lm:List D->Mem->bI->Prop:=λ xs M Q=>∃i:Int,xs=[.int i]/\i.natAbs.log2<1920/\Q (.str (Str.ofString (toString i))) M
def kj:de X (.type "str") Lm:=⟨_,Ao,λ xs ds H M Q2 Q hd hm q k=>by
 obtain⟨i,rfl,hi,q⟩:=q;obtain⟨v,r,rfl,hv,hr⟩:=af.mp hd;cases(au.mp hr);cases(aw.mp hv);exact⟨i,rfl,hi,k _ H _ M (aJ.mpr rfl) hm (ay.refl H) q⟩⟩
def T9:List D->Mem->bI->Prop:=λ xs M Q=>∃(z:Str)(n:Int),xs=[.str z]/\PySem.intText? z=some n/\z.length<=640/\Q (.int n) M
def Fb:de X (.type "int") T9:=⟨_,Ar,λ xs ds H M Q2 Q hd hm q k=>by
 obtain⟨z,n,rfl,hn,hl,q⟩:=q;obtain⟨v,r,rfl,hv,hr⟩:=af.mp hd;cases(au.mp hr);exact⟨z,n,by rw[aJ.mp hv],hn,hl,k _ H _ M (aw.mpr rfl) hm (ay.refl H) q⟩⟩
variable {a b c:Expr}{ta tb tc:bT}{p1 p3:Pos}
end
end L3
namespace KK
open PySem.Builtin PySem.Builtin.Str
abbrev sg(x:Str):List Nat:=x.cps.toList
def one(c:Nat):Str:=⟨#[c]⟩
def uW(c:Nat):List Nat->List (List Nat)
 |[]=>[[]]
 |a::l=>if a=c then[]::uW c l else match uW c l with
  |p::ps=>(a::p)::ps
  |[]=>[[a]]
def uE(c:Nat):Nat->List Nat->List Nat
 |_,[]=>[]
 |i,a::l=>if a=c then i::uE c (i+1) l else uE c (i+1) l
theorem CJ(c:Nat):∀(i:Nat)(l:List Nat),uE c (i+1) l=(uE c i l).map (·+1)
 |i,[]=>rfl
 |i,a::l=>by unfold uE;rw[CJ c (i+1) l];split<;>rfl
def ext(l:List Nat)(i j:Nat):List Nat:=(l.take j).drop i
def Uo(l:List Nat)(Ue:List Nat):List (List Nat):=((0::Ue.map (·+1)).zip (Ue++[l.length])).map λ p=>ext l p.1 p.2
theorem qZ(c:Nat):∀l,Uo l (uE c 0 l)=uW c l
 |[]=>rfl
 |a::l=>by
  have ih:=qZ c l;unfold uW;rw[<- ih];show Uo (a::l) (if a=c then 0::uE c 1 l else uE c 1 l)=_;rw[CJ c 0 l];generalize uE c 0 l=cs;have sh:∀(A B:List Nat),((A.map (·+1)).zip (B.map (·+1))).map (λ p=>ext (a::l) p.1 p.2)=(A.zip B).map λ p=>ext l p.1 p.2:=λ A B=>by rw[zip_map,D6];rfl
  by_cases e:a=c
  ·rw[J6 e,J6 e];unfold Uo;have s1:(0::(0::cs.map (·+1)).map (·+1)).zip (0::cs.map (·+1)++[(a::l).length])=(0,0)::((0::cs.map (·+1)).map (·+1)).zip ((cs++[l.length]).map (·+1)):=by rw[B6];rfl
   rw[s1,C6,sh];rfl
  ·rw[J7 e,J7 e];unfold Uo;cases cs with
   |nil=>show[ext (a::l) 0 (l.length+1)]=_;simp[ext]
   |cons b cs=>
    have s2:(0::((b::cs).map (·+1)).map (·+1)).zip ((b::cs).map (·+1)++[(a::l).length])=(0,b+1)::(((b::cs).map (·+1)).map (·+1)).zip ((cs++[l.length]).map (·+1)):=by rw[B6];rfl
    rw[s2,C6,sh];have s3:ext (a::l) 0 (b+1)=a::ext l 0 b:=by simp[ext]
    show ext (a::l) 0 (b+1)::_=_;rw[s3];rfl
def JG(x:Str)(i j:Nat):sg (strSub x i j)=ext (sg x) i j:=by
 unfold strSub ext sg;rw[Array.toList_extract,extract_eq_take_drop,take_drop];by_cases h:i<=j
 ·rw[show i+(j-i)=j by lia]
 ·rw[drop_eq_nil_of_le (by rw[A3];lia),drop_eq_nil_of_le (by rw[A3];lia)]
theorem lI(x:Str)(c limit:Nat):∀(l:List Nat)(i:Nat)(f:Array Nat)(free:Nat),(sg x).drop i=l->i+l.length=x.length->free<=i->(forIn (List.range' i (l.length+1)) (f,free) (StrLaws.occBody x (one c) x.length limit)).run.fst.toList=f.toList++(uE c i l).take (limit-f.size)
 |[],i,f,free,hl,hi,hf=>by
  have n:¬(((f.size<limit/\free<=i)/\i+(one c).length<=x.length)/\subAt x (one c) i=true):=λ z=>by have:i+1<=x.length:=z.1.2;simp at hi;lia
  show(forIn [i] (f,free) (StrLaws.occBody x (one c) x.length limit)).run.fst.toList=_;rw[forIn_cons];unfold StrLaws.occBody;rw[J7 n];simp[uE]
 |a::l,i,f,free,hl,hi,hf=>by
  rw[z0]at hi;show(forIn (i::List.range' (i+1) (l.length+1)) (f,free) (StrLaws.occBody x (one c) x.length limit)).run.fst.toList=_;rw[forIn_cons];have rC:(sg x).drop (i+1)=l:=by
   have:=J3 (List.drop 1) hl
   rwa [drop_drop]at this
  have at':subAt x (one c) i=true↔a=c:=by unfold subAt;rw[beq_iff_eq,<- Array.toList_inj,Array.toList_extract,extract_eq_take_drop];show List.take (i+1-i) ((sg x).drop i)=[c]↔_;rw[hl,show i+1-i=1 by lia];simp
  unfold uE;by_cases e:a=c
  ·rw[J6 e];by_cases g:f.size<limit
   ·have y:((f.size<limit/\free<=i)/\i+(one c).length<=x.length)/\subAt x (one c) i=true:=⟨⟨⟨g,hf⟩,by show i+1<=x.length;lia⟩,at'.mpr e⟩;have h:=lI x c limit l (i+1) (f.push i) (i+1) rC () (G3 _);have s:StrLaws.occBody x (one c) x.length limit i (f,free)=pure (ForInStep.yield (f.push i,i+1)):=by unfold StrLaws.occBody;rw[J6 y];rfl
    rw[s];refine h.trans ?_;rw[Array.toList_push,Array.size_push,y0,show limit-f.size=(limit-(f.size+1))+1 by lia,take_succ_cons];rfl
   ·have h:=lI x c limit l (i+1) f free rC () ();have s:StrLaws.occBody x (one c) x.length limit i (f,free)=pure (ForInStep.yield (f,free)):=by unfold StrLaws.occBody;rw[J7 λ z=>g z.1.1.1]
    rw[s];refine h.trans ?_;rw[show limit-f.size=0 by lia,take_zero,take_zero]
  ·rw[J7 e];have h:=lI x c limit l (i+1) f free rC () ();have s:StrLaws.occBody x (one c) x.length limit i (f,free)=pure (ForInStep.yield (f,free)):=by unfold StrLaws.occBody;rw[J7 λ z=>e (at'.mp z.2)]
   rw[s];exact h
def NH(x:Str)(c limit:Nat):occurrences x (one c) 0 x.length limit=(uE c 0 (sg x)).take limit:=by rw[StrLaws.occ_eq];have:=lI x c limit (sg x) 0 #[] 0 rfl (by rw[D8];exact l6) (G3 _);rw[show(sg x).length=x.length from l6]at this;rw[Nat.sub_zero,this];rfl
theorem xE(c:Nat):∀(i:Nat)(l:List Nat),(uE c i l).length<=l.length
 |i,[]=>G3 _
 |i,a::l=>by have:=xE c (i+1) l;unfold uE;split<;>simp<;>lia
theorem Bv:∀{l:List Nat},c∉l->uW c l=[l]
 |[],_=>rfl
 |a::l,h=>by unfold uW;rw[J7 λ e=>h (by rw[e];exact l9),Bv λ z=>h (j9 _ z)]
theorem xf:∀{l:List Nat} (m:List Nat),c∉l->uW c (l++c::m)=l::uW c m
 |[],m,_=>by show(if c=c then[]::uW c m else _)=_;rw[J6 rfl]
 |a::l,m,h=>by
  show(if a=c then[]::uW c (l++c::m)else match uW c (l++c::m)with
   |p::ps=>(a::p)::ps
   |[]=>[[a]])=_
  rw[J7 λ e=>h (by rw[e];exact l9),xf m λ z=>h (j9 _ z)]
def mk(l:List Nat):Str:=⟨l.toArray⟩
def KP(x:Str):mk (sg x)=x:=rfl
def BE{x:Str}(h:sg x=sg y):x=y:=by rw[<- KP x,h];rfl
def mm(x:Str):(sg x).length=x.length:=l6
def BF(x y:Str):sg (x++y)=sg x++sg y:=by show(x.cps++y.cps).toList=_;rw[Array.toList_append]
set_option tactic.hygienic true in
def Bu(x:Str)(hc:c<256):Txt.split x (one c)=(uW c (sg x)).map mk:=by
 have k:Builtin.Str.strKind (one c)=1:=by unfold Builtin.Str.strKind one;simp[hc]
 have k2:1<=Builtin.Str.strKind x:=by
  unfold Builtin.Str.strKind;split
  ·exact G3 _
  ·split<;>decide
 have nx:uE c 0 (sg x)=[]->[x]=(uW c (sg x)).map mk:=λ e=>by rw[<- qZ,e];show[x]=[mk (ext (sg x) 0 (sg x).length)];unfold ext;rw[z9];rfl
 unfold Txt.split;split
 ·rename_i h;rw[k,Bool.or_eq_true,w9,w9]at h;rcases h with h|h
  ·have:x.length=0:=Nat.lt_one_iff.mp h;rw[<- mm]at this;rw[i4.mp this];exact J3 (λ z=>[z]) (BE (i4.mp this))
  ·lia
 ·rw[NH,i5 (Nat.le_succ_of_le (D7 (xE ..) (D9 (mm x))))];split
  ·rename_i h;exact nx (isEmpty_iff.mp h)
  ·rw[<- qZ];unfold partsBetween Uo;rw[D6,mm];refine l8 λ p _=>?_;exact BE (JG x p.1 p.2)
def jn(c:Nat):List (List Nat)->List Nat
 |[]=>[]
 |[x]=>x
 |x::y::r=>x++c::jn c (y::r)
def hZ(c:Nat):∀ws:List Str,sg (Txt.join (one c) ws)=jn c (ws.map sg):=by
 intro ws;show sg (glued (one c) ws)=_;rw[StrLaws.glued_eq_join]
 induction ws with
 |nil=>rfl
 |cons x r ih=>
  cases r with
  |nil=>rfl
  |cons y r=>show sg (x++one c++Str.join (one c) (y::r))=sg x++c::jn c (sg y::r.map sg);rw[BF,BF,ih,y0];rfl
theorem Bw:∀{ws:List (List Nat)},ws≠[]->(∀x∈ws,c∉x)->uW c (jn c ws)=ws
 |[],h,_=>bi rfl h
 |[x],_,h=>Bv (h x (by simp))
 |x::y::r,_,h=>by show uW c (x++c::jn c (y::r))=_;rw[xf _ (h x (by simp)),Bw (by simp) λ z hz=>h z (by simp_all)]
def mj(hc:c<256){ws:List Str}(h:ws≠[])(hn:∀x∈ws,c∉sg x):Txt.split (Txt.join (one c) ws) (one c)=ws:=by rw[Bu _ hc,hZ,Bw (by simpa using h) (by simpa using hn),D6];exact(l8 λ x _=>KP x).trans (List.map_id _)
end KK
namespace L4
open PySem.Spec L2 L3
section
variable {a b c:Expr}{ta tb tc:bT}
def br(ha:WE X a ta)(hs:ux X a []:=by rfl):WA X [a] (iZ ta zh):=aZ ha bp hs
def cb(ha:WE X a ta)(hb:WE X b tb)(hs:starEach [a,b] X.env=(false,eval a X.env)::starEach [b] X.env:=by rfl)(iT:ux X b []:=by rfl):WA X [a,b] (iZ ta (iZ tb zh)):=aZ ha (br hb iT) hs
def GC(ha:WE X a ta)(hb:WE X b tb)(hc:WE X c tc)(hs:starEach [a,b,c] X.env=(false,eval a X.env)::starEach [b,c] X.env:=by rfl)(nO:starEach [b,c] X.env=(false,eval b X.env)::starEach [c] X.env:=by rfl)(iT:ux X c []:=by rfl):WA X [a,b,c] (iZ ta (iZ tb (iZ tc zh))):=aZ ha (cb hb hc nO iT) hs
end
open L5
section
variable {E:ir}
abbrev Hid(g:gm)(tb:iq)(ds:List D)(Pv:Nat->cH->Mem->Prop):Prop:=∀(N:ir)(i:Nat)(d:D)(δ:cH)(M:Mem),(∀δ M,Pv (i+1) δ M->N.nx δ M)->ds[i]?=some d->Pv i δ M->g d δ M λ δ2 M2=>tb N δ2 M2
def jr{Pv:Nat->cH->Mem->Prop}(h:Hid g tb ds Pv):∀i d δ M,ds[i]?=some d->Pv i δ M->g d δ M λ δ2 M2=>tb {E with nx:=Pv (i+1),ct:=Pv (i+1),bk:=E.nx} δ2 M2:=λ i d δ M a b=>h _ i d δ M (λ _ _ z=>z) a b
end
end L4
namespace KK
open L3 L4 L5
section
variable (a b c d e f g h i j k l m n:Option D)
def Qh:cH:=[a,b,c,d,e]
def Qg:cH:=[a,b,c,d,e,f]
def GG:cH:=[a,b,c,d,e,f,g,h]
def LH:cH:=[a,b,c,d,e,f,g,h,i,j]
end
end KK
namespace L5
section
variable {R:Result->am->Prop}
structure pj(prog:Program)(w:World)(h:Heap)(u:al)(p:L2.Key×al):Prop where
 ex:∃t kv,u=.ref t/\h.IsTuple t #[kv,p.2]/\(L2.bE prog w).is p.1 kv=true
def pj.gJ{h:Heap}{p:L2.Key×al}(x:pj prog w h u p)(q:fO h h'):pj prog w h' u p:=by obtain⟨t,kv,rfl,⟨o,ho,hc,n,hd⟩,key⟩:=x;exact⟨t,kv,rfl,⟨o,q t o hc ho,hc,n,hd⟩,key⟩
def lF(xs ps:List (L2.Key×al)):List (L2.Key×al):=ps.foldl (λ xs p=>stored xs p.1 p.2) xs
def uU(xs:List (L2.Key×al))(p:L2.Key×al):(stored xs p.1 p.2).length<=xs.length+1:=by
 unfold stored;split
 ·simp
 ·simp
def sv(hA:A.handled=none)(d it l:be)(Ow:d≠it)(Xb:l≠it)(Xc:l≠d)(av:List al)(ps:List (L2.Key×al))(hlen:av.length=ps.length)(DX:ps.length<=1000):∀(k i:Nat)(s:am)(xs:List (L2.Key×al)),ps.length-i=k->i<=ps.length->xs.length<=i->s.heap.IsListIter it l i->s.heap.IsList l av.toArray->s.heap.DictOf (L2.bE prog w) d xs->
   (∀(j:Nat)(u:al)(p:L2.Key×al),av[j]?=some u->ps[j]?=some p->pj prog w s.heap u p)->
   (∀h' tk,(∀b o,b≠d->b≠it->s.heap.get? b=some o->h'.get? b=some o)->h'.DictOf (L2.bE prog w) d (lF xs (ps.drop i))->R (.ok (.ret .none)) {s with heap:=h',toks:=tk})->
   codeAny (model prog w) A (.builtin "dict.update.loop" ⟨[.ref d,.ref it,rawInt i,.none],[]⟩) R s:=by
 intro k
 induction k with
 |zero=>
  intro i s xs hk hi Od hit hl hd hp hR;have e:i=ps.length:=()
  subst e;refine B2 jv ?_;rw[k7 eU _];refine G8 (m:=pyNext (.ref it)) (wpAny_pyNext_list_end (show A.in1.handled=none from hA) hit hl (by simp;lia) λ h' eb=>?_);refine G8 (m:=Builtin.Dict.addKeywords d []) (G9 (G9 ?_));refine hR h' s.toks (λ b o _ n2 q=>eb b o n2 q) ?_;rw[drop_length];exact hd.extBut eb Ow
 |succ k ih=>
  intro i s xs hk hi Od hit hl hd hp hR;have fR:i<ps.length:=()
  have e1:av[i]?=some av[i]:=c8 ();have e2:ps[i]?=some ps[i]:=c8 fR;refine B2 jv ?_;rw[k7 eU _];refine G8 (m:=pyNext (.ref it)) (wpAny_pyNext_list_item hit hl (x:=av[i]) (by simpa using e1) λ g1 Wx s1=>?_);have Pj:fO s.heap g1:=λ b o hc e=>s1.extBut _ _ (λ z=>by
   rw[z]at e;obtain⟨oi,q1,q2,_⟩:=hit;rw[q1]at e;cases e;rw[hc]at q2;exact bi q2 (by decide)) e
  obtain⟨t,kv,et,⟨⟨ct,dt,da,st⟩,ho,hc,n,tj⟩,key⟩:=(hp i _ _ e1 e2).gJ Pj;cases(show ct=.type "tuple" from hc);cases(show da=_ from tj);have PD:g1.IsList l av.toArray:=hl.at λ o e=>s1.extBut _ _ Xb e;have Tr:g1.DictOf (L2.bE prog w) d xs:=hd.extBut s1.extBut Ow;rw[et];refine G8 (C3 (G8 (C2 ?_)));unfold Builtin.Dict.pairItems;refine G8 (G0 (T:="tuple") ⟨_,ho,rfl⟩ ?_);rw[J6 (by decide)];refine G8 (C0 ho rfl (G9 ?_));show wpAny _ A.in1 (holding [kv,ps[i].2] (dictSet d kv ps[i].2)) _ _ _;refine C3 (wpAny_dictSet_pairs (s:={s with heap:=g1}) (knd:=L2.bE prog w) key Tr (λ g2 d2 s2=>?_) (D7 (show xs.length<=1000 by lia) (by decide)));refine G9 ⟨C8 eU _,?_⟩;have od:∃o,g1.get? d=some o/\o.cls=.type "dict":=by obtain⟨o,es,ep,ho,r1,_⟩:=Tr;exact⟨o,ho,r1.1⟩
  have VE:fO g1 g2:=λ b o hc e=>s2.extBut _ _ (λ z=>by
   rw[z]at e;obtain⟨oi,q1,q2⟩:=od;rw[q1]at e;cases e;rw[hc]at q2;exact bi q2 (by decide)) e
  have Xq:((i:Int)+1)=((i+1:Nat):Int):=by push_cast;rfl
  show codeAny (model prog w) A (.builtin "dict.update.loop" ⟨[.ref d,.ref it,rawInt ((i:Int)+1),.none],[]⟩) R _;rw[Xq];refine ih (i+1) _ (stored xs ps[i].1 ps[i].2) () fR ?_ (Wx.at λ o e=>s2.extBut _ _ (J4 Ow) e) (PD.at λ o e=>s2.extBut _ _ Xc e) d2 (λ j u p h1 h2=>((hp j u p h1 h2).gJ Pj).gJ VE) λ h' tk oK ie=>?_
  ·have:=uU xs ps[i];lia
  ·refine hR h' tk (λ b o n1 n2 e=>oK b o n1 n2 (s2.extBut _ _ n1 (s1.extBut _ _ n2 e))) ?_;rw[c4 fR];exact ie
end
section
open PySem.W PySem.Calls PyProof.Rows
def De{ps:List (L2.Key×al)}(hA:A.handled=none)(hl:s.heap.IsList l av.toArray)(gS:∃o,s.heap.get? l=some o/\o.dict=none)(hlen:av.length=ps.length)(DX:ps.length<=1000)(hp:∀(j:Nat)(u:al)(p:L2.Key×al),av[j]?=some u->ps[j]?=some p->pj prog w s.heap u p)(h:∀h' tk,(∀b o,s.heap.get? b=some o->h'.get? b=some o)->h'.DictOf (L2.bE prog w) s.heap.objs.size (lF [] ps)->s.heap.objs.size<h'.objs.size->Q (.ref s.heap.objs.size) {s with heap:=h',toks:=tk}):wpAny (model prog w) A (call (.type "dict") [.ref l]) Q E s:=by
 refine callType_codes (Q₁:=λ obj s₁=>obj=.ref s.heap.objs.size/\s₁={s with heap:=s.heap.push {cls:=.type "dict",data:=.dict #[]}}) F.kt_called_dict (F.kt_typeCall_dict_1 _) F.entry_dict_init (kt_code_dict_new _ ⟨rfl,rfl⟩) ?_;rintro obj s1 ⟨rfl,rfl⟩;have new:(s.heap.push {cls:=.type "dict",data:=.dict #[]}).DictOf (L2.bE prog w) s.heap.objs.size []:=Heap.DictOf.new s.heap;refine⟨new.typeIs,F.args_dict_init_2 _ _,?_⟩;unfold Builtin.«dict.__init__»;refine G8 ?_;unfold Builtin.Dict.selfAndRest;refine G8 (wpAny_notOrdered_dict new.typeIs ?_);refine G9 (a:=(s.heap.objs.size,[Value.ref l])) ?_;obtain⟨ob,Tg,Xl⟩:=gS;obtain⟨⟨c,dd,da,sl⟩,ho,hc,n,tj⟩:=id hl;rw[ho]at Tg;cases Tg;cases(show c=.type "list" from hc);cases(show da=.seq av.toArray n from tj);cases(show dd=none from Xl);have Th:(s.heap.push {cls:=.type "dict",data:=.dict #[]}).get? l=some {cls:=.type "list",dict:=none,data:=.seq av.toArray n,slots:=sl}:=i7 _ ho;show wpAny _ _ (Builtin.Dict.updateFrom "dict.__init__" s.heap.objs.size (.ref l) [] .none) _ _ _;unfold Builtin.Dict.updateFrom;refine G8 (G0 (T:="list") ⟨_,Th,rfl⟩ ?_);rw[J6 (by decide)];refine G8 (xN (s:={s with heap:=s.heap.push {cls:=.type "dict",data:=.dict #[]}}) Th (show A.in1.handled=none from hA) λ g tk gk=>?_);rw[J6 (by rfl)];have k0:∀b o,s.heap.get? b=some o->g.get? b=some o:=λ b o e=>gk b o (i7 _ e);have Tn:g.IsList l av.toArray:=hl.at λ o e=>k0 l o e;have dg:g.DictOf (L2.bE prog w) s.heap.objs.size []:=by obtain⟨o,es,ep,h1,r⟩:=new;exact⟨o,es,ep,gk _ _ h1,r⟩
 have OM:s.heap.objs.size<g.objs.size:=by obtain⟨o,es,ep,h1,_⟩:=dg;exact D4 h1
 refine G8 (H0 (G8 (y2 (s:={s with heap:=g,toks:=tk}) Tn ?_)));refine G9 ⟨C8 eU _,?_⟩;have up:∀b o,g.get? b=some o->(g.push {cls:=.type "list_iterator",data:=.fields #[.ref l,.int 0 0]}).get? b=some o:=λ b o e=>i7 _ e;have fg:l≠s.heap.objs.size:=D3 (D4 ho);have fR:l<g.objs.size:=Nat.lt_trans (D4 ho) OM;refine sv (prog:=prog) (w:=w) (A:=A.in1) (show A.in1.handled=none from hA) s.heap.objs.size g.objs.size l (D3 OM) (D3 fR) fg av ps hlen DX _ 0 {s with heap:=g.push {cls:=.type "list_iterator",data:=.fields #[.ref l,.int 0 0]},toks:=tk} [] rfl (G5 _) (G3 _) ⟨_,l7 _ rfl,rfl,rfl⟩ (Tn.at λ o e=>up l o e) (dg.push _) ?_ ?_
 ·intro j u p e1 e2;exact(hp j u p e1 e2).gJ λ b o _ e=>up b o (k0 b o e)
 ·intro h' Fu oK ie;have Oq:s.heap.objs.size<h'.objs.size:=by obtain⟨o,es,ep,h1,_⟩:=ie;exact D4 h1
  refine⟨rfl,h h' Fu (λ b o e=>oK b o (D3 (D4 e)) (D3 (Nat.lt_trans (D4 e) OM)) (up b o (k0 b o e))) ie Oq⟩
end
end L5
namespace L2
open PySem.Spec PyProof.Rows L5 PySem.W
def rj(K:J8)(H:Hp):List V->List (Key×V)->Prop
 |[],[]=>True
 |y::ys,p::ps=>(∃t:be,y=.ref t/\fj K H t [kV p.1,p.2])/\rj K H ys ps
 |_,_=>False
theorem ky(I:io X ce σ H s):∀{ys:List V} {kp:List (Key×V)} {av:List al},rj X.K H ys kp->li ys av->∃ps:List (Key×al),KV kp ps/\av.length=ps.length/\ps.length=kp.length/\∀(j:Nat)(u:al)(p:Key×al),av[j]?=some u->ps[j]?=some p->pj X.prog X.w s.heap u p
 |[],[],_,_,.nil=>⟨[],.nil,rfl,rfl,λ j u p h=>by simp at h⟩
 |[],_::_,_,h,_=>h.elim
 |_::_,[],_,h,_=>h.elim
 |y::ys,q::kp,_,h0,.cons (b:=u0) e0 er=>by
  obtain⟨⟨t,rfl,h1⟩,h⟩:=h0;obtain⟨ps,p1,p2,p3,p4⟩:=ky I h er;cases(show u0=Value.ref t from e0);obtain⟨i2,r2,⟨o,ho,hc,n,hd⟩,_⟩:=I.tuple h1;obtain⟨u1,u2,rfl,q1,q2⟩:=vals2 r2;refine⟨(q.1,u2)::ps,.cons ⟨rfl,q2⟩ p1,by simp[p2],by simp[p3],λ j u p e1 e2=>?_⟩;cases j with
  |zero=>simp at e1 e2;subst e1 e2;exact⟨t,u1,rfl,⟨o,ho,hc,n,hd⟩,oG q1⟩
  |succ j=>exact p4 j u p (by simpa using e1) (by simpa using e2)
theorem Dv:∀{kp:List (Key×V)} {ps:List (Key×al)} {a:List (Key×V)} {b:List (Key×al)},KV kp ps->KV a b->KV (kp.foldl (λ a p=>putK a p.1 p.2) a) (lF b ps)
 |[],_,a,b,.nil,h=>h
 |p::kp,_,a,b,.cons (b:=q) e r,h=>by obtain⟨e1,e2⟩:=e;show KV (kp.foldl _ (putK a p.1 p.2)) (lF (stored b q.1 q.2) _);refine Dv r ?_;rw[<- e1];exact KV.put h p.1 e2
theorem r_:∀(kp a:List (Key×V)),(kp.foldl (λ a p=>putK a p.1 p.2) a).length<=a.length+kp.length
 |[],a=>by simp
 |p::kp,a=>by have h:=r_ kp (putK a p.1 p.2);have h2:=gP a p.1 p.2;rw[foldl_cons,z0];lia
def MD(K:J8):List V->Hp->VK->Prop:=λ xs H Q=>∃(l:be)(ys:List V)(kp:List (Key×V)),xs=[.ref l]/\dv K H l ys/\rj K H ys kp/\kp.length<=1000/\∀p,H p=none->Q (.ref p) (lm H p (.dK (kp.foldl (λ a p=>putK a p.1 p.2) [])))
def wF(hA:X.A.handled=none):cI X (.type "dict") (MD X.K):=by
 intro ce s σ H xs us Q I r ⟨l,ys,kp,e,hl,hp,hz,q⟩;subst e;obtain⟨u,rfl,ru⟩:=vals1 r;cases(show u=Value.ref l from ru);obtain⟨av,rv,pl,_⟩:=I.list hl;obtain⟨ps,p1,p2,p3,p4⟩:=ky I hp rv;have ol:∃o,s.heap.get? l=some o/\o.dict=none:=by obtain⟨o,n,a1,a2,a3,a4⟩:=pl;exact⟨o,a1,a3⟩
 refine De hA pl.isList ol p2 () p4 λ h' tk k dd lt=>?_;refine⟨.ref s.heap.objs.size,_,I.laid (a:=s.heap.objs.size) (o:=.dK (kp.foldl (λ a p=>putK a p.1 p.2) [])) (h':=h') (t':=tk) k (G3 _) (Ey (by have:=r_ kp [];rw[G4];simp at this;lia) (beq_eq_false_iff_ne.mpr (J4 (D3 I.big))) (Dv p1 .nil) dd),rfl,q _ (I.bP.fresh (G3 _))⟩
section
variable {a b:Expr}{ta tb:TE}{p1 p3:Pos}
def LQ(ta tb:TE):TE:=λ σ H Q=>ta σ H λ x H1=>∃v:Str,x=.str v/\v.length<=10000/\tb σ H1 λ y H2=>∃i:Int,y=.int i/\i.natAbs.log2<1920/\(Str.ofString (toString i)).length<=10000/\Q (.str (v++Str.ofString (toString i))) H2
def empty_app(v:Str):Str.empty++v=v:=by show Str.mk (#[]++v.cps)=v;simp
def CG(ha:PE X a ta)(hb:PE X b tb):PE X (.JoinedStr [.FormattedValue a (-1) none p1,.FormattedValue b (-1) none p3] pos) (LQ ta tb):=by
 intro ce s σ H Q I h;have la:∀x y:Str,(x++y).length=x.length+y.length:=λ x y=>strLen_append x y;refine JoinedStr_many (joinParts_cons (FormattedValue_plain (cq (ha ce s σ H _ I h) λ u s1 ⟨x,H1,I1,r1,v,e,hv,q1⟩=>?_)));subst e;obtain⟨t,rfl⟩:=r1;refine formatField_str (λ t' tk=>⟨?_,?_⟩) (by rw[G4];lia)
 ·show(Str.empty++v).length<=sizeLine;rw[empty_app,G4];lia
 rw[empty_app];have I1:=I1.tok tk;refine joinParts_cons (FormattedValue_plain (cq (hb ce _ σ H1 _ I1 q1) λ u s2 ⟨y,H2,I2,r2,i,e,hi,l1,q2⟩=>?_));subst e;obtain⟨t2,rfl⟩:=r2;refine formatField_int_small hi ⟨?_,?_⟩
 ·show(v++Str.ofString (toString i)).length<=sizeLine;rw[la,G4];lia
 have I2:=I2.tok (s2.toks+1+1);refine joinParts_nil ?_ (by show(v++Str.ofString (toString i)).length<=sizeLine;rw[la,G4];lia);exact⟨.str (v++Str.ofString (toString i)),H2,I2.tok _,⟨_,rfl⟩,q2⟩
def HR:V->List V->Hp->VK->Prop:=λ x vs H Q=>∃z y,x=.str z/\vs=[.str y]/\z.length<=100000/\Q (.str (Txt.rstripChars z y)) H
def zI:Ux X "str.rstrip" HR:=by intro ce s σ H x xs v us Q I rx r h;obtain⟨z,y,rfl,rfl,hl,q⟩:=h;obtain⟨t,rfl⟩:=rx;obtain⟨u,rfl,r1⟩:=li.one r;obtain⟨t',rfl⟩:=r1;exact SC.rstripChars (λ t' k=>⟨.str (Txt.rstripChars z y),H,I.tok _,⟨_,rfl⟩,q⟩) (by rw[G4];lia)
end
end L2
namespace L3
open PySem.Spec PyProof.Rows L2 L5
section
noncomputable def EC(ar:List (Key×D)):List (D×D):=ar.foldl (λ a p=>putD a (jm p.1) p.2) []
def V6(p:Key×D):D:=.tup [jm p.1,p.2]
noncomputable def OV:List D->Mem->bI->Prop:=λ ds M Q=>∃(l:be)(ar:List (Key×D)),ds=[.ref l]/\M l=some (.lst (ar.map V6))/\ar.length<=1000/\∀p,M p=none->Q (.ref p) (ak M p (.du false (EC ar)))
theorem Cu:∀{ar:List (Key×D)} {ys:List V},aE K H (ar.map V6) ys->∃kp:List (Key×V),rj K H ys kp/\kp.length=ar.length/\Paired (λ(p:Key×D) (q:Key×V)=>p.1=q.1/\kt K H p.2 q.2) ar kp
 |[],ys,h=>by cases(au.mp h);exact⟨[],trivial,rfl,.nil⟩
 |p::ar,ys,h=>by obtain⟨y,ys,rfl,h1,h2⟩:=af.mp h;obtain⟨kp,a1,a2,a3⟩:=Cu h2;obtain⟨t,xs,rfl,hq,hd⟩:=aP.mp h1;obtain⟨x1,r1,rfl,b1,hd⟩:=af.mp hd;obtain⟨x2,r2,rfl,b2,hd⟩:=af.mp hd;cases(au.mp hd);rw[lM b1]at hq;exact⟨(p.1,x2)::kp,⟨⟨t,rfl,hq⟩,a1⟩,by simp[a2],.cons ⟨rfl,b2⟩ a3⟩
theorem yo:∀{ar:List (Key×D)} {kp:List (Key×V)} {a:List (D×D)} {b:List (Key×V)},Paired (λ(p:Key×D) (q:Key×V)=>p.1=q.1/\kt K H p.2 q.2) ar kp->Fq K H a b->Fq K H (ar.foldl (λ a p=>putD a (jm p.1) p.2) a) (kp.foldl (λ a p=>putK a p.1 p.2) b)
 |[],_,a,b,.nil,h=>h
 |p::ar,_,a,b,.cons (b:=q) ⟨e1,e2⟩ r,h=>by rw[foldl_cons,foldl_cons];refine yo r ?_;rw[e1];exact h.put q.1 e2
def JY(hA:X.A.handled=none):de X (.type "dict") OV:=⟨_,wF hA,λ xs ds H M Q2 Q hd hm q k=>by
 obtain⟨l,ar,rfl,hM,hz,q⟩:=q;obtain⟨v,r,rfl,hv,hr⟩:=af.mp hd;cases(au.mp hr);cases(aH.mp hv);obtain⟨ys,hy,nG⟩:=hm l _ hM;obtain⟨kp,p1,p2,p3⟩:=Cu nG;refine⟨l,ys,kp,rfl,dv.of hy,p1,(),λ p hp=>?_⟩;exact k _ _ (.ref p) _ (aH.mpr rfl) (hm.put (u:=.du false (EC ar)) (ay.laid hp) ⟨_,bL,(yo p3 .nil).mono (ay.laid hp)⟩) (ay.laid hp) (q p (hm.free hp))⟩
variable {a b:Expr}{ta tb:bT}{p1 p3:Pos}
def L8(ta tb:bT):bT:=λ δ M Q=>ta δ M λ x M1=>∃v:Str,x=.str v/\v.length<=10000/\tb δ M1 λ y M2=>∃i:Int,y=.int i/\i.natAbs.log2<1920/\(Str.ofString (toString i)).length<=10000/\Q (.str (v++Str.ofString (toString i))) M2
def GD(ha:WE X a ta)(hb:WE X b tb):WE X (.JoinedStr [.FormattedValue a (-1) none p1,.FormattedValue b (-1) none p3] pos) (L8 ta tb):=by replace ha:=ha.h;replace hb:=hb.h;refine⟨?_⟩;refine bN (CG ha hb) ?_;rintro σ H Q ⟨δ,M,Q2,hs,hm,q,k⟩;refine⟨δ,M,_,hs,hm,q,λ x H1 d M1 hd bV t1 ⟨v,e,hv,q1⟩=>?_⟩;subst e;refine⟨v,aJ.mp hd,hv,δ,M1,_,hs.mono t1,bV,q1,λ y H2 d2 M2 hd2 jG t2 ⟨i,e,hi,l1,q2⟩=>?_⟩;subst e;exact⟨i,aw.mp hd2,hi,l1,k _ _ _ _ (aJ.mpr rfl) jG (t1.trans t2) q2⟩
def JO:D->List D->Mem->bI->Prop:=λ x ds M Q=>∃z y,x=.str z/\ds=[.str y]/\z.length<=100000/\Q (.str (Txt.rstripChars z y)) M
def m_rstrip:Pa X "str.rstrip" JO:=⟨_,zI,λ x xs d ds H M Q2 Q hx hd hm q k=>by
 obtain⟨z,y,rfl,rfl,hl,q⟩:=q;obtain⟨v,r,rfl,hv,hr⟩:=af.mp hd;cases(au.mp hr);exact⟨z,y,aJ.mp hx,by rw[aJ.mp hv],hl,k _ H _ M (aJ.mpr rfl) hm (ay.refl H) q⟩⟩
end
end L3
namespace L4
open L2 L3
end L4
namespace L2
open PySem.Spec PyProof.Rows
def RD(K:J8):V->V->Hp->VK->Prop:=λ x y H Q=>∃p xs i v,x=.ref p/\y=.int i/\dv K H p xs/\0<=i/\xs[i.toNat]?=some v/\Q v H
def Ek:Uu X (RD X.K):=by intro ce s σ H x y v u Q I rx ry h;obtain⟨p,xs,i,z,rfl,rfl,hq,h0,he,q⟩:=h;cases rx;obtain⟨t,rfl⟩:=ry;obtain⟨av,r,pl,hz⟩:=I.list hq;obtain⟨w,ew,vc⟩:=r.get he;have hl:=r.length;have hn:=iG;have lt:=(c5.mp he).1;exact wpAny_getItem_list pl.isList h0 () (by simpa using ew) ⟨z,H,I,vc,q⟩
end L2
namespace L3
open PySem.Spec PyProof.Rows L2
section
variable {o i:Expr}{to ti:bT}
def KA(to ti te:bT):iq:=λ En δ M=>to δ M λ o M1=>ti δ M1 λ i M2=>∃(a:be)(n:Nat)(ds:List D)(x:Int),o=.ref a/\i=.int n/\M2 a=some (.lst ds)/\ds[n]?=some (.int x)/\te δ M2 λ y M3=>∃z:Int,y=.int z/\M3 a=some (.lst ds)/\En.nx δ (ak M3 a (.lst (ds.set n (.int (x+z)))))
def Gy(ho:WE X o to)(hi:WE X i ti)(he:WE X e te)(ha:∀ov iv new,augStore i ov iv new=(do holding [new,ov,iv] (setItem ov iv new);release [new,ov,iv] [];pure .next):=by intros;rfl):WS X (.AugAssign (.Subscript o i jM) .Add e pos) (KA to ti te):=by replace ho:=ho.h;replace hi:=hi.h;replace he:=he.h;refine⟨?_⟩;refine jd (H_ ho hi Ek he Ob set_list ha) λ D σ H ⟨δ,M,D2,hs,hm,q,kk⟩=>?_;refine⟨δ,M,_,hs,hm,q,λ ov H1 od M1 hod bV t1 q1=>⟨δ,M1,_,hs.mono t1,bV,q1,λ iv H2 id M2 jr jG t2 q2=>?_⟩⟩;obtain⟨a,n,ds,x,rfl,rfl,hM,hx,q2⟩:=q2;cases(aH.mp hod);cases(aw.mp jr);obtain⟨xs,Od,hd⟩:=jG a _ hM;obtain⟨v,ev,rv⟩:=hd.get hx;cases(aw.mp rv);refine⟨a,xs,n,_,rfl,rfl,dv.of Od,(),by rw[x6];exact ev,δ,M2,_,hs.mono (t1.trans t2),jG,q2,λ yv H3 yd M3 S9 sY t3 ⟨z,e3,hM3,q3⟩=>?_⟩;subst e3;cases(aw.mp S9);obtain⟨Vw,S_,rD⟩:=sY a _ hM3;have lt:=(c5.mp hx).1;refine⟨_,_,rfl,rfl,a,Vw,n,n,rfl,rfl,S_,by rw[rD.length];unfold sT;simp only[x6];first|(rw[J6 ()];done)|(simp;lia),?_⟩;show D.nx σ (lm H3 a (.lst (Vw.set n (.int (x+z)))));have tw:ay H3 (lm H3 a (.lst (Vw.set n (.int (x+z))))):=ay.lst S_;have tt:=t1.trans (t2.trans (t3.trans tw));exact kk.nx _ _ _ _ (hs.mono tt) (sY.put (u:=.lst (ds.set n (.int (x+z)))) tw ⟨_,bL,aE.mono tw _ (rD.set (aw.mpr rfl) n)⟩) tt q3
end
end L3
namespace L4
open PySem.Spec L2 L3
end L4
namespace KK
open L3 L4 L5
open L2 hiding aS pO
local macro_rules|`(tactic|walk_at "mem")=>`(tactic|first|assumption|exact ai|(rw[aG (by assumption)];assumption)|(rw[aG (by assumption),aG (by assumption)];assumption)|(rw[aG (by assumption)];exact ai))
local macro_rules|`(tactic|walk_at "rd1")=>`(tactic|first|(with_reducible first|refine BR ?_|refine Mt ?_|refine Hn ?_|refine Mf ?_|refine Cg ?_|refine HH ?_|refine eR ?_|refine Md ?_|refine Hf ?_|refine Rp ?_|refine Rl ?_)|((with_reducible refine' Ma ?k1 ?_);(case k1=>rfl))|(with_reducible first|refine Rt ?_|refine MA ?_|refine Ro ?_|refine Mh ?_|refine HN ?_|refine Mg ?_|refine Hm ?_|refine Mu ?_|refine Cf ?_|refine Mi ?_|refine HI ?_|refine Mb ?_|refine Mo ?_|refine Mc ?_|refine He ?_|refine HJ ?_|refine Ce ?_|refine Mv ?_|refine Hk ?_|refine HK ?_|refine HL ?_|refine HM ?_)|((with_reducible refine' bM ?k1 ?_);(case k1=>walk_at "mem"))|(with_reducible first|refine L' ?_|refine Hh ?_|refine Rr ?_|refine VY ?_|refine Rn ?_|refine zm ?_|refine Hl ?_|refine Rv ?_)|((with_reducible refine Mm ?k1 ?_);(case k1=>first|assumption|decide))|((with_reducible refine Mz ?k1 ?k2 ?_);(case k1=>first|assumption|decide);(case k2=>first|assumption|decide|lia))|((with_reducible refine mw ?k1 ?_);(case k1=>exact O0 (by decide) (by decide)))|(with_reducible first|refine Hb ?_|refine Hc ?_|refine B' ?_|refine Hu ?_|refine Hj ?_|refine HD ?_|refine Rq ?_|refine Cj ?_|refine Cb ?_|refine Cc ?_)|((with_reducible refine' Cd ?k1 ?_);(case k1=>walk_at "mem"))|(with_reducible first|refine BQ ?_|refine Mp ?_|refine HF ?_|refine HG ?_|refine HE ?_|refine Ho ?_|refine Hq ?_|refine Hd ?_|refine Hi ?_|refine Mn ?_|refine Mj ?_|refine Hv ?_)|((with_reducible refine' ck ?k1 ?k2 ?_);(case k1=>walk_at "mem");(case k2=>rfl))|((with_reducible refine' cL ?k2 ?_);(case k2=>rfl))|((with_reducible refine' Hw ?k1 ?_);(case k1=>walk_at "mem"))|((with_reducible refine' Me ?k1 ?k2 ?_);(case k1=>walk_at "mem");(case k2=>rfl))|(with_reducible first|refine xr ?_|refine HC ?_|refine BZ ?_|refine B_ ?_|refine Hz ?_|refine HA ?_))
local macro_rules|`(tactic|walk_at "rd")=>`(tactic|repeat(walk_at "rd1"))
local macro_rules|`(tactic|symm)=>`(tactic|walk_at "rd")
local macro_rules|`(tactic|walk_at "rx")=>`(tactic|repeat(first|walk_at "rd1"|((with_reducible refine' Rm ?k1 ?_);(case k1=>exact j8 rfl))))
local macro_rules|`(tactic|rfl')=>`(tactic|walk_at "rx")
local macro_rules|`(tactic|walk_at "len")=>`(tactic|first|(rintro⟨e,_⟩;subst e;rfl)|(rintro⟨_,h⟩;revert h;walk_at "len"))
abbrev C_:List Str:=[aU "rows",aU "tow",aU "takes",aU "nones",aU "ones",aU "twos",aU "ass",aU "heaps",aU "on",aU "t",aU "ro",aU "a"]
def top(i:Nat):Stmt:=PySem.Challenge.pw_lastloser_k07_rules_read.main.body.getD i (.Pass ⟨0,0,0,0⟩)
structure dP(K:J8)(mg:Str->Option al):Prop where
 ValueError:mg "ValueError"=none
 all:mg "all"=none
 any:mg "any"=none
 bool:mg "bool"=none
 dict:mg "dict"=none
 enumerate:mg "enumerate"=none
 int:mg "int"=none
 isinstance:mg "isinstance"=none
 len:mg "len"=none
 list:mg "list"=none
 max:mg "max"=none
 min:mg "min"=none
 range:mg "range"=none
 sorted:mg "sorted"=none
 str:mg "str"=none
 sum:mg "sum"=none
 tuple:mg "tuple"=none
 zip:mg "zip"=none
 mQ:gA K "bool"
 DR:gA K "int"
 DQ:gA K "list"
 K4:gA K "str"
 qD:gA K "tuple"
 Aa:fQ K mg "LETTERS" (.str (aU "abcdefghijklmnopqrstuvwxyz"))
 Ab:fQ K mg "FIGURES" (.tup ([aU "1",aU "2",aU "3",aU "4",aU "5",aU "6",aU "7",aU "8",aU "9"].map D.str))
 JE:fQ K mg "TAKEN" (.tup ([aU "row",aU "to",aU "take",aU "none",aU "one",aU "two",aU "as",aU "heap"].map D.str))
 mX:fQ K mg "LONGEST_WORD" (.int 5)
 TC:fQ K mg "DIGITS" (.str (aU "0123456789"))
 FH:fQ K mg "MOST_DIGITS" (.int 31)
 OD:fQ K mg "WAYS" (.tup ([aU "none",aU "one",aU "two"].map D.str))
 qJ:fQ K mg "MOST_HEAPS" (.int 12)
 mW:fQ K mg "MOST_OPTIONS" (.int 60)
 jY:fQ K mg "MOST_IN_OPTION" (.int 4)
def rO:cO:=λ ds M Q=>∃ns:List Int,ds=[.fl (ns.map D.int)]/\∀M',Q (.bl true) M'
def IG(F:dh K "_law_pick" "_law_pick" (top 68) f fd)(T:dP K mg):bg P w K mg base cM 1 f fd ["_law_flow_here","_law_many"] (bD K pN):=by
 refine dU F ["_law_flow_here","_law_many","_law_cell","_law_digit"] (λ b_ A outer s H E ds M Q nd hr h=>?_)
 ·obtain⟨a,c,n,rfl,⟨ns,p,b,sd,ct,hf,hc,fg,hp,hb,Og,nO⟩,DW,Zy,k⟩:=h;refine⟨_,(aa (aY (dB (aI (bU hr.units) (aO aS (aj 0) ag) ag) (dH (aI V_ (aO aS (aj 0) ag) (aQ fL T.len (br (aO aS (aj 0) ag)))))).pt
 (aa (aA 2 (aO aS (aO aS (aj 0) ag) (aO aS (aj 0) ag)))
 (aa (dC (bu bx (aO aS (aj 0) ag) ag) (dQ (aj 0) ag kx))
 (ae (aY (aI SF (aj 2) (bu Sz ag ag))
 (ae (dC (aj 2) (dQ (aj 0) ag kx)))
 (ae (dC (bu kB (bu bx (bu bx (bu fe (aO aS (aj 0) ag) ag) (bu kB (aj 2) ag)) ag) ag) (dQ (aj 0) ag kx)))))))
 aK)
 (aa (aY (aI zD (aO aS (aj 0) ag) ag)
 (aa (aA 3 (bu kB (aO aS (aj 0) ag) (aj 1)))
 (aa (dC (bu mD (aO aS (aj 0) ag) (aj 1)) (dQ (aj 0) ag kx))
 (ae (aD (aj 3)))))
 aK)
 (aa (dC (bu bx (aO aS (aj 0) ag) ag) (dQ (aj 0) ag kx))
 (aa (dC (bu kB (bu bx (bu bx (bu fe (aO aS (aj 0) ag) ag) ag) (aO aS (aj 0) ag)) ag) (dQ (aj 0) ag kx))
 (ae (aD (bu kB (bu mD (bu kB (bu fe (bu bx (bu kB (aO aS (aj 0) ag) ag) ag) (bu bx (bu mD (aO aS (aj 0) ag) ag) ag)) ag) ag) (aj 1)))))))),?_⟩
  refine fb (λ δ' M'=>∃(p b sd ct:Int)(v:Option D),δ'=[some (.ref a),some (.int n),v,none]/\M'=ak M a (.lst (Lh c p b sd ct))/\0<=p/\0<=b/\0<=sd/\sd<2147483647) (λ N hN=>?_) ?_
  ·symm;refine bJ (λ Tv=>?_) (λ Tv=>?_)
   ·symm;refine bJ (λ gS=>?_) (λ gS=>?_)
    ·obtain⟨x,hx⟩:∃x:Int,fi (ns.map D.int) p=some (.int x):=by
      have hl:p.toNat<ns.length:=by rw[B4]at gS;lia
      refine⟨ns[p.toNat],?_⟩;have e:((p.toNat:Nat):Int)=p:=()
      have q:fi (ns.map D.int) ((p.toNat:Nat):Int)=some (.int ns[p.toNat]):=cT (by simp[hl]);rw[e]at q;exact q
     symm;refine ck hc hx ?_;symm;refine VX ⟨by decide,by decide,by decide⟩ ?_;symm;refine bJ (λ OA=>?_) (λ OA=>?_)
     ·symm;rw[fz];refine hN _ _ ⟨p+1,x,sd,ct,_,rfl,rfl,(),?_,Og,nO⟩;have OA:(10:Int)^(18:Int).toNat<=x:=OA;have e:(10:Int)^(18:Int).toNat=1000000000000000000:=by decide
      lia
     ·symm;rw[fz];refine hN _ _ ⟨p+1,b,_,ct,_,rfl,rfl,(),hb,A9 _ (by decide),p6 _ (by decide)⟩
    ·symm;exact hN _ _ ⟨p,b,sd,ct,none,rfl,(om hf).symm,hp,hb,Og,nO⟩
   ·symm;exact hN _ _ ⟨p,b,sd,ct,none,rfl,(om hf).symm,hp,hb,Og,nO⟩
  ·rintro δ' M' ⟨p,b,sd,ct,v,rfl,rfl,hp,hb,Og,nO⟩;symm;refine bJ (λ Tv=>?_) (λ Tv=>?_)
   ·symm;rw[fz];refine ao (k _ _ (A9 _ ()) (p6 _ DW) ⟨ns,p,_,sd,ct,ai,by rw[aG fg];exact hc,fg,hp,Int.ediv_nonneg hb (),Og,nO⟩)
   ·symm;refine mw (EW ?_ ?_) ?_
    ·have:=A9 ((sd*48271+12820163+(ct+1))%2147483647) (show(65521:Int)≠0 by decide);lia
    ·have:=p6 ((sd*48271+12820163+(ct+1))%2147483647) (show(0:Int)<65521 by decide);lia
    symm;rw[fz,fz];exact ao (k _ _ (A9 _ ()) (p6 _ DW) ⟨ns,p,b,_,_,ai,by rw[aG fg];exact hc,fg,hp,hb,A9 _ (by decide),p6 _ (by decide)⟩)
def IJ(F:dh K "_law_flow" "_law_flow" (top 67) f fd)(T:dP K mg):bg P w K mg base cM 1 f fd ["_law_script"] (bD K xj):=by
 refine dU F ["_law_script"] (λ b_ A outer s H E ds M Q nd hr h=>?_)
 ·obtain⟨ns,rfl,k⟩:=h;refine⟨_,(ae (aD (a_ (aZ (bS EZ T.list (br (aj 0))) (aZ ag (aZ ag (aZ ag (aZ ag bp)))))))),?_⟩;symm;refine BV λ c hcn=>?_;symm;refine⟨small (by show 5<=10000;decide),λ fl PF=>?_⟩;have fg:c≠fl:=λ z=>by subst z;rw[ai]at PF;cases PF
  exact ao (k fl c _ ⟨ns,0,0,1,0,ai,by rw[aG fg];exact ai,fg,by decide,by decide,by decide,by decide⟩ (jp.new (jp.new jp.rfl hcn _) PF _))
def eZ:List Str:=[aU "row",aU "to",aU "take",aU "none",aU "one",aU "two",aU "as",aU "heap"]
def mF:List Str:=C_
structure Lw(z:Str):Prop where
 pos:1<=z.length
 len:z.length<=5
 low:∀c∈z.cps.toList,97<=c/\c<=122
structure Wd(z:Str):Prop extends Lw z where
 free:z∉eZ
def Nm(z:Str):Prop:=Wd z\/∃(w:Str)(c:Nat),Wd w/\49<=c/\c<=57/\z=w++⟨#[c]⟩
def SM(z:Str):Bool:=decide (1<=z.length)&&decide (z.length<=5)&&z.cps.toList.all λ c=>decide (97<=c)&&decide (c<=122)
def xP(h:SM z=true):Lw z:=by unfold SM at h;simp only[A2,w9,List.all_eq_true]at h;exact⟨h.1.1,h.1.2,h.2⟩
def IQ:∀z∈mF,SM z=true:=by decide+kernel
def GL:∀z∈eZ,SM (fI z none (some 4)++aU "q")=true/\fI z none (some 4)++aU "q"∉eZ/\z.length<=4:=by decide+kernel
theorem Nm.len(h:Nm z):1<=z.length/\z.length<=6:=by
 rcases h with h|⟨w,c,h,_,_,rfl⟩
 ·exact⟨h.pos,Nat.le_succ_of_le h.len⟩
 ·have e:(w++⟨#[c]⟩:Str).length=w.length+1:=by rw[len_app];rfl
  rw[e];have:=h.len;lia
def jA(x y:Str):(x++y).cps.toList=x.cps.toList++y.cps.toList:=by show(x.cps++y.cps).toList=_;simp
def Nm.ok(h:Nm z):PyData.strOk z=true:=by
 have:∀c∈z.cps.toList,c<0x110000:=by
  rcases h with h|⟨w,c,h,_,_,rfl⟩
  ·exact λ c hc=>p8 (h.low c hc).2 (by decide)
  ·intro d hd;rw[jA]at hd;rcases B5.mp hd with z|z
   ·exact p8 (h.low d z).2 (by decide)
   ·have:d=c:=by simpa using z
    lia
 unfold PyData.strOk;rw[<- Array.all_toList,List.all_eq_true];exact λ c hc=>B9 (this c hc)
def join_ones:∀cs:List Nat,Txt.join (aU "") (cs.map λ c=>(⟨#[c]⟩:Str))=⟨cs.toArray⟩:=by
 intro cs;show Builtin.Str.glued (aU "") _=_;rw[StrLaws.glued_eq_join,show aU ""=⟨#[]⟩ by decide+kernel]
 induction cs with
 |nil=>rfl
 |cons c cs ih=>rw[C6,PyProof.Rows.join_nil_cons,ih];show Str.mk (#[c]++cs.toArray)=_;congr 1;simp
def Fm(dL:List D)(i:Nat):Prop:=∃cs:List Nat,dL=(cs.map λ c=>(⟨#[c]⟩:Str)).map D.str/\cs.length=i/\∀c∈cs,97<=c/\c<=122
def Fm.snoc{dL:List D}(h:Fm dL i)(hc:97<=c/\c<=122):Fm (dL++[.str ⟨#[c]⟩]) (i+1):=by
 obtain⟨cs,rfl,h1,h2⟩:=h;refine⟨cs++[c],by simp,by simp[h1],λ d hd=>?_⟩;rcases B5.mp hd with z|z
 ·exact h2 d z
 ·rw[r6.mp z];exact hc
def Dz{dL:List D}(h:Fm dL n)(h1:1<=n)(hn:n<=5){Q:bI}(q:∀z:Str,Lw z->Q (.str z) M):iN (.str (aU "")) dL M Q:=by
 obtain⟨cs,rfl,h2,h3⟩:=h;show(match eQ ((cs.map λ c=>(⟨#[c]⟩:Str)).map D.str)with|some ys=>(ys.map (·.length)).sum+ys.length*(aU "").length<=16777216/\Q (.str (Txt.join (aU "") ys)) M|none=>False);rw[jP];have e0:(aU "").length=0:=by decide+kernel
 have e1:(((cs.map λ c=>(⟨#[c]⟩:Str))).map (·.length)).sum=cs.length:=by
  clear h2 h3
  induction cs with
  |nil=>rfl
  |cons c cs ih=>simp only[C6,D1,z0]at*;rw[ih];show 1+cs.length=_;lia
 refine⟨by rw[e0,e1];lia,?_⟩;rw[join_ones];have el:(⟨cs.toArray⟩:Str).length=cs.length:=by show cs.toArray.size=_;simp
 exact q _ ⟨by rw[el];lia,by rw[el];lia,λ c hc=>h3 c (by simpa using hc)⟩
def yK{xs:List α}{d:Int}{c:α}(h:fi xs d=some c):c∈xs:=by
 unfold fi at h;cases e:sT xs.length d with
 |none=>rw[e]at h;cases h
 |some j=>rw[e]at h;exact k4 h
def NR{d:Int}(h:fi (aU "abcdefghijklmnopqrstuvwxyz").cps.toList d=some c):97<=c/\c<=122:=by
 have all:∀c∈(aU "abcdefghijklmnopqrstuvwxyz").cps.toList,97<=c/\c<=122:=by decide+kernel
 exact all c (yK h)
def Eo{d:Int}(h:fi (aU "123456789").cps.toList d=some c):49<=c/\c<=57:=by
 have all:∀c∈(aU "123456789").cps.toList,49<=c/\c<=57:=by decide+kernel
 exact all c (yK h)
def QN:cO:=λ ds M Q=>∃f c,ds=[.ref f]/\Flow M f c/\∀(z:Str)(M':Mem),Nm z->Fl f c M M'->Q (.str z) M'
def II(F:dh K "_law_name" "_law_name" (top 70) f fd)(T:dP K mg)(aW:bb P w K mg base 1 "_law_pick" ["_law_flow_here","_law_many"] pN):bg P w K mg base cM 2 f fd ["_law_flow_here"] (bD K QN):=by
 refine dU F ["_law_flow_here","_law_letters","_law_near","_law_name_here"] (λ b_ A outer s H E ds M Q nd hr h=>?_)
 ·obtain⟨a,cc,rfl,hF,k⟩:=h;refine⟨_,(aa (aA 1 aV)
 (aa (aA 2 (a_ (pC (zs:=C_) (by kernel_rfl))))
 (aa (aA 3 (Lz PySem.F.plainAttrs_str PySem.F.slot_str_join PySem.F.type_str_join vE Bl aV (lW [1,0] (fv T.range (br (bu bx ag (aB aW (cb (aj 0) ag))))) bC (aO aS (aj 1) (aB aW (cb (aj 2) ag))))))
 (aa (aY (aI (bU hr.units) (aB aW (cb (aj 0) ag)) ag)
 (ae (aA 3 (aO aS (aj 2) (aB aW (cb (aj 0) ag)))))
 aK)
 (aa (aY (aI (kH hr.units) (aj 3) (cz (pC (zs:=[aU "row",aU "to",aU "take",aU "none",aU "one",aU "two",aU "as",aU "heap"]) (by kernel_rfl))))
 (ae (aA 3 (bu bx (eP ku (aj 3) fT (ef ag)) aV)))
 aK)
 (ae (aD (bu bx (aj 3) (aO aS (a_ (GC aV aV (aO aS aV (aB aW (cb (aj 0) ag))))) (aB aW (cb (aj 0) ag))))))))))),?_⟩
  symm;refine⟨by decide,λ q hq=>?_⟩;have WY:q≠a:=λ z=>by obtain⟨o,e⟩:=hF.there;rw[<- z,hq]at e;cases e
  have F0:Fl a cc M (ak M q (.lst (mF.map D.str))):=Fl.put hF hq;have Ve:(ak M q (.lst (mF.map D.str))) q=some (.lst (mF.map D.str)):=ai;have eM:ak M q (.lst (mF.map D.str))=ak M q (.lst (C_.map D.str)):=rfl;rw[<- eM];clear eM;generalize ak M q (.lst (mF.map D.str))=M1 at F0 Ve ⊢;symm;refine⟨rfl,?_⟩;symm;refine⟨a,cc,5,rfl,F0.dY,by decide,by decide,λ m o h0 h1 Vf=>?_⟩;have F1:Fl a cc M1 _:=Fl.pick Vf;symm;refine⟨cX () (),?_⟩;refine fh (λ i dL M'=>Fm dL i/\Fl a cc M1 M') ⟨⟨[],rfl,rfl,λ c z=>by cases z⟩,F1⟩ (λ i dL M' hi h=>?_) (λ i d' dL M' hd h=>?_) (λ dL M' h=>?_)
  ·obtain⟨⟨cs,rfl,h2,_⟩,_⟩:=h;rw[bw]at hi;rw[B4,B4];exact small ()
  ·symm;refine⟨a,cc,26,rfl,h.2.dY,by decide,by decide,λ d2 o2 h2 h3 hF2=>?_⟩;obtain⟨c,hc⟩:=uo (xs:=(aU "abcdefghijklmnopqrstuvwxyz").cps.toList) h2 (by
    have e:(aU "abcdefghijklmnopqrstuvwxyz").cps.toList.length=26:=by decide+kernel
    rw[e];exact h3)
   refine ve (by decide+kernel) hc ?_;exact⟨h.1.snoc (NR hc),h.2.trans (Fl.pick hF2)⟩
  ·obtain⟨XB,XA⟩:=h;rw[bw]at XB;refine Dz XB () () λ z hz=>?_;have F2:=F0.trans XA;have Ve:=XA.mv q _ WY Ve;clear XB XA
   with_reducible refine eR ?_
   with_reducible refine fb (λ δ' M2=>∃z:Str,δ'=[some (.ref a),some (.str (aU "abcdefghijklmnopqrstuvwxyz")),some (.ref q),some (.str z)]/\Lw z/\Fl a cc M M2) (λ N hN=>?_) ?_
   ·symm;refine⟨a,cc,6,rfl,F2.dY,by decide,by decide,λ d3 o3 h4 h5 Ee=>?_⟩;symm;refine bJ (λ _=>?_) (λ _=>?_)
    ·symm;refine⟨a,cc,12,rfl,Ee,by decide,by decide,λ d4 o4 h6 h7 AO=>?_⟩;obtain⟨y,hy,S9⟩:=um (zs:=mF) h6 (by show d4<12;exact h7);refine ck (by rw[aG WY,aG WY];exact Ve) S9 ?_;symm;exact hN _ _ ⟨y,rfl,xP (IQ y hy),(F2.trans (Fl.pick Ee)).trans (Fl.pick AO)⟩
    ·symm;exact hN _ _ ⟨z,rfl,hz,F2.trans (Fl.pick Ee)⟩
   ·rintro δ' M2 ⟨z,rfl,hz,F2⟩
    with_reducible refine fb (λ δ' M3=>∃z:Str,δ'=[some (.ref a),some (.str (aU "abcdefghijklmnopqrstuvwxyz")),some (.ref q),some (.str z)]/\Wd z/\Fl a cc M M3) (λ N hN=>?_) ?_
    ·symm;refine⟨by decide,?_⟩;refine jb (cj z eZ) ?_;refine eS (λ gF=>?_) (λ gF=>?_)
     ·have gF:z∈eZ:=by simpa using gF
      obtain⟨t1,t2,t3⟩:=GL z gF;symm;refine pR (small ()) ?_;symm;have hl:=(xP t1).len;refine dN (small (by rw[len_app]at hl;lia)) ?_;symm;exact hN _ _ ⟨_,rfl,⟨xP t1,t2⟩,F2⟩
     ·have gF:z∉eZ:=by simpa using gF
      symm;exact hN _ _ ⟨z,rfl,⟨hz,gF⟩,F2⟩
    ·rintro δ' M3 ⟨z,rfl,hz,F3⟩;symm;refine⟨a,cc,9,rfl,F3.dY,by decide,by decide,λ d5 o5 h8 h9 vS=>?_⟩;obtain⟨c,hc⟩:=uo (xs:=(aU "123456789").cps.toList) h8 (by
      have e:(aU "123456789").cps.toList.length=9:=by decide+kernel
      rw[e];exact h9)
     refine ve (by decide+kernel) hc ?_;symm;refine⟨small (by show 3<=10000;decide),λ q2 uI=>?_⟩;have F5:=F3.trans (Fl.pick vS);have W0:q2≠a:=λ z=>by subst z;obtain⟨o,e⟩:=vS.there;rw[uI]at e;cases e
     symm;refine⟨a,cc,3,rfl,vS.put uI,by decide,by decide,λ d6 o6 h10 h11 hF6=>?_⟩;obtain⟨y,hy,S9⟩:=um (zs:=[aU "",aU "",⟨#[c]⟩]) h10 (by show d6<3;exact h11);have hl:=hz.len;have em:z++aU ""=z:=by rw[show aU ""=⟨#[]⟩ by decide+kernel];show Str.mk (z.cps++#[])=z;simp
     have WJ:Nm (z++y)/\y.length<=1:=by
      have e:(aU "").length=0:=by decide+kernel
      simp only[C7,not_mem_nil,or_false]at hy;rcases hy with rfl|rfl|rfl
      ·exact⟨by rw[em];exact .inl hz,()⟩
      ·exact⟨by rw[em];exact .inl hz,()⟩
      ·exact⟨.inr ⟨z,c,hz,(Eo hc).1,(Eo hc).2,rfl⟩,by show 1<=1;decide⟩
     have hy1:=WJ.2;refine ck (by rw[aG W0];exact ai) S9 ?_;refine dN (small ()) ?_;exact ao (k _ _ WJ.1 ((F5.trans (Fl.put vS uI)).trans (Fl.pick hF6)))
def NC(F:dh K "_law_key" "_law_key" (top 71) f fd)(T:dP K mg):bg P w K mg base cM 1 f fd ["_law_counts"] (bD K BB):=by
 refine dU F ["_law_counts"] (λ b_ A outer s H E ds M Q nd hr h=>?_)
 ·obtain⟨as,rfl,hz,k⟩:=h;refine⟨_,(ae (aD (cz (cb (aQ (yH rfl) T.sum (br (aj 0))) (uO gh jN T.tuple (lW [] (aM (aj 0)) bC (bu kz ag (aj 0)))))))),?_⟩;symm;refine pQ ?_;symm;refine fh (λ i dL M'=>M'=M/\dL=((as.map λ a=>0-a).take i).map D.int) ⟨rfl,by simp⟩ (λ i dL M' hi h=>?_) (λ i d dL M' hd h=>?_) (λ dL M' h=>?_)
  ·obtain⟨_,rfl⟩:=h;rw[B4,A3];rw[B4]at hi;exact small ()
  ·obtain⟨rfl,rfl⟩:=h;rw[w6]at hd;cases e:as[i]? with
   |none=>rw[e]at hd;cases hd
   |some a=>rw[e]at hd;cases hd;symm;refine⟨rfl,?_⟩;rw[take_snoc (a:=0-a) (by simp[e]),B6];rfl
  ·obtain⟨rfl,rfl⟩:=h;symm;refine⟨by show 2<=sizeLine;decide,ao ?_⟩;have e:(as.map λ a=>0-a).take (as.map D.int).length=as.map λ a=>0-a:=by rw[B4];exact i5 (by simp)
   rw[e];exact k
def Up(os:List Row):Prop:=os.Pairwise λ a b=>klt (lg a) (lg b)=true
def CN{γ:Type}[DecidableEq γ]{rs:List γ}{q:γ}(h:q∈rs):q∈once rs:=by
 have:∀(rs dL:List γ),(q∈dL\/q∈rs)->q∈rs.foldl jq dL:=by
  intro rs
  induction rs with
  |nil=>intro dL h;exact h.elim id λ z=>by cases z
  |cons r rs ih=>
   intro dL h;refine ih _ ?_;unfold jq;rcases h with h|h
   ·split
    ·exact .inl h
    ·exact .inl (k5 _ h)
   ·rcases C7.mp h with rfl|h
    ·split
     ·next z=>exact .inl z
     ·exact .inl (by simp)
    ·exact .inr h
 exact this rs [] (.inr h)
set_option tactic.hygienic true in
def vw(rs:List Row):(once rs).Nodup:=by
 have:∀(rs dL:List Row),dL.Nodup->(rs.foldl jq dL).Nodup:=by
  intro rs
  induction rs with
  |nil=>intro dL h;exact h
  |cons r rs ih=>
   intro dL h;refine ih _ ?_;unfold jq;split
   ·exact h
   ·rename_i z;exact nodup_append.mpr ⟨h,by simp,λ a ha b hb e=>z ((e.trans (r6.mp hb))▸ha)⟩
 exact this rs [] .nil
def Jg{a b:Row}(hl:a.length=b.length)(h1:klt (lg a) (lg b)=false)(h2:klt (lg b) (lg a)=false):a=b:=by
 unfold klt lg at h1 h2;dsimp only at h1 h2;by_cases e:a.sum=b.sum
 ·rw[J6 e]at h1;rw[J6 e.symm]at h2;have z:=oD _ _ (by simp[hl]) h1 h2;exact(List.map_inj_right (λ x y h=>by lia)).mp z
 ·rw[J7 e]at h1;rw[J7 (J4 e)]at h2;have h1:=u4 h1;have h2:=u4 h2;lia
def Kk{os:List Row}(h1:os.Nodup)(h2:os.Pairwise Pf)(hl:∀r∈os,r.length=n):Up os:=by
 refine(h1.and h2).imp_of_mem λ{a b} ha hb ⟨ne,bf⟩=>?_;cases e:klt (lg a) (lg b)with
 |true=>rfl
 |false=>exact bi (Jg ((hl a ha).trans (hl b hb).symm) e bf) ne
def rP:cO:=λ ds M Q=>∃(x:D)(rs:List (List Int)),ds=[x]/\(x=.tup (rs.map row)\/∃l,x=.ref l/\M l=some (.lst (rs.map row)))/\rs.length<64/\(∀r∈rs,r.length<=1000)/\∀out:List (List Int),(∀r,r∈out↔r∈rs)->out.Nodup->out.Pairwise Pf->Q (.tup (out.map row)) M
def CP(F:dh K "_law_in_order" "_law_in_order" (top 72) f fd)(T:dP K mg)(Ag:bb P w K mg base 1 "_law_key" ["_law_counts"] BB):bg P w K mg base cM 4 f fd ["_law_sums"] (bD K rP):=by
 refine dU F ["_law_sums"] (λ b_ A outer s H E ds M Q nd hr h=>?_)
 ·obtain⟨x,rs,rfl,hx,tq,hz,k⟩:=h;refine⟨_,(ae (aD (bS gh T.tuple (br (uP Ag (hr.mono (by decide)) (by rfl) T.sorted (by rfl) T.dict (by rfl) (cV (lW [] (aM (aj 0)) bC (cz (cb (aj 0) kY))))))))),?_⟩;have go:∀(N:bI),(∀(p:be)(out:List (List Int))(M':Mem),(∀b o,M b=some o->M' b=some o)->M' p=some (.lst (out.map row))->(∀r,r∈out↔r∈rs)->out.Nodup->out.Pairwise Pf->N (.ref p) M')->∀p,M p=none->qR BB (.ref p) (ak M p (.lst (rs.map pairD))) N:=by
   intro N hN p hp;have h0:=Df (λ b o e=>e) hp (.lst (rs.map pairD));refine⟨p,rs,true,λ dE M'=>M'=ak M p (.lst (rs.map pairD))/\dE.length<=(once rs).length/\∀i k,dE[i]?=some k->AA true M' k (lg ((once rs).getD i [])),λ i=>lg ((once rs).getD i []),rfl,ai,tq,⟨rfl,G5 _,λ i k e=>by simp at e⟩,?_,?_⟩
   ·rintro dE M' e ⟨rfl,h2,h3⟩ he;rw[w6]at he;cases er:(once rs)[dE.length]? with
    |none=>rw[er]at he;cases he
    |some r=>
     rw[er]at he;cases he;have fR:dE.length<(once rs).length:=(c5.mp er).1;refine⟨r,rfl,hz r (sJ (k4 er)),rfl,?_,λ i k e=>?_⟩
     ·rw[n9,j4];lia
     ·by_cases hi:i<dE.length
      ·rw[b9 hi]at e;exact h3 i k e
      ·rw[b7 ()]at e;have Xf:i-dE.length=0:=by have:=(c5.mp e).1;simp at this;lia
       rw[Xf]at e;have e:D.tup [.int r.sum,row (r.map λ a=>0-a)]=k:=by simpa using e
       have Xe:i=dE.length:=()
       subst Xe;show k=.tup [.int (lg ((once rs).getD dE.length [])).1,.tup ((lg ((once rs).getD dE.length [])).2.map D.int)];rw[<- e,b8,er];rfl
   ·rintro dE M' ⟨rfl,h2,h3⟩ hl;refine⟨h3,λ p2 outD nF ho=>?_⟩;obtain⟨out,rfl,o1,o2⟩:=sx (rs:=once rs) ho;exact hN p2 out _ (Df h0 nF _) ai (λ r=>⟨λ hr=>sJ (o1.mem_iff.mp hr),λ hr=>o1.mem_iff.mpr (CN hr)⟩) (o1.nodup_iff.mpr (vw rs)) o2
  have fin:∀(p:be)(out:List (List Int))(M':Mem),(∀b o,M b=some o->M' b=some o)->M' p=some (.lst (out.map row))->(∀r,r∈out↔r∈rs)->out.Nodup->out.Pairwise Pf->qQ [.ref p] M' (fin2 Q):=λ p out M' h1 h2 h3 h5 h6=>hG h2 (back h1 (k out h3 h5 h6));rcases hx with rfl|⟨l,rfl,hl⟩
  ·symm;refine fh (λ i dL M'=>M'=M/\dL=(rs.take i).map pairD) ⟨rfl,by simp⟩ (λ i dL M' hi h=>?_) (λ i d dL M' hd h=>?_) (λ dL M' h=>?_)
   ·obtain⟨_,rfl⟩:=h;rw[B4,A3];exact small ()
   ·obtain⟨rfl,rfl⟩:=h;rw[w6]at hd;cases e:rs[i]? with
    |none=>rw[e]at hd;cases hd
    |some r=>rw[e]at hd;cases hd;symm;refine⟨by show 2<=sizeLine;decide,rfl,?_⟩;rw[take_snoc e,B6];rfl
   ·obtain⟨rfl,rfl⟩:=h;rw[B4,z9];intro p hp;exact go _ fin p hp
  ·symm;refine eX (ds:=rs.map row) (λ i dL M'=>M'=M/\dL=(rs.take i).map pairD) ⟨rfl,by simp⟩ (λ i dL M' hi h=>?_) (λ i dL M' hi h=>?_) (λ i d dL M' hd h=>?_) (λ dL M' h=>?_)
   ·obtain⟨rfl,_⟩:=h;exact hl
   ·obtain⟨_,rfl⟩:=h;rw[B4,A3];exact small ()
   ·obtain⟨rfl,rfl⟩:=h;rw[w6]at hd;cases e:rs[i]? with
    |none=>rw[e]at hd;cases hd
    |some r=>rw[e]at hd;cases hd;symm;refine⟨by show 2<=sizeLine;decide,rfl,?_⟩;rw[take_snoc e,B6];rfl
   ·obtain⟨rfl,rfl⟩:=h;rw[B4,z9];intro p hp;exact go _ fin p hp
def Dp:Nat->D->Prop
 |0,_=>False
 |k+1,x=>Ye x\/∃ds,x=.tup ds/\ds.length<=10000/\∀d∈ds,Dp k d
def BC(k:Nat):cO:=λ ds M Q=>∃x,ds=[x,x]/\Dp k x/\Q (.bl true) M
def GU:∀ds M Q,¬BC 0 ds M Q:=λ ds M Q ⟨_,_,h,_⟩=>h
def OL(k:Nat){r:List Int}(h:r.length<=10000):Dp (k+2) (row r):=.inr ⟨_,rfl,by rw[B4];exact h,λ d hd=>by
 obtain⟨x,_,rfl⟩:=D5.mp hd;exact .inl True.intro⟩
def NG(F:dh K "_law_alike" "_law_alike" (top 69) f fd)(T:dP K mg)(hm0:mg "_law_alike"=some (.ref f))(Tv:Binds K fd ["_law_found","_law_due"] []):∀k,bg P w K mg base cM (k+1) f fd ["_law_found","_law_due"] (bD K (BC k)):=by
 intro k
 induction k with
 |zero=>exact JF GU
 |succ k ih=>
 have gY:=iu.of F ih hm0 Tv;rw[show k+1+1=k+1+1 by lia];clear ih;refine dU F ["_law_found","_law_due"] (λ b_ A outer s H E ds M Q nd hr h=>?_)
 ·obtain⟨x,rfl,hs,k⟩:=h;refine⟨_,(aa (aY (aI sy (aj 1) fw)
 (ae (aD (dw sy (aj 0) fw)))
 aK)
 (aa (aY (lS (cJ (aQ (eL T.mQ) T.isinstance (cb (aj 1) (iz (n:="bool") T.bool)))) (ix (cJ (aQ (eL T.mQ) T.isinstance (cb (aj 0) (iz (n:="bool") T.bool)))))).pt
 (ae (aD (w_and (aQ (eL T.mQ) T.isinstance (cb (aj 1) (iz (n:="bool") T.bool))) (w_and (aQ (eL T.mQ) T.isinstance (cb (aj 0) (iz (n:="bool") T.bool))) (ik (dw (bU hr.units) (aj 0) (aj 1)))))))
 aK)
 (aa (aY (cJ (aQ (eL T.DR) T.isinstance (cb (aj 1) (iz (n:="int") T.int))))
 (ae (aD (w_and (aQ (eL T.DR) T.isinstance (cb (aj 0) (iz (n:="int") T.int))) (ik (dw (bU hr.units) (aj 0) (aj 1))))))
 aK)
 (aa (aY (cJ (aQ (eL T.K4) T.isinstance (cb (aj 1) (iz (n:="str") T.str))))
 (ae (aD (w_and (aQ (eL T.K4) T.isinstance (cb (aj 0) (iz (n:="str") T.str))) (ik (dw (bU hr.units) (aj 0) (aj 1))))))
 aK)
 (aa (aY (lS (aI (oA hr.units) (aQ (eL T.qD) T.isinstance (cb (aj 1) (iz (n:="tuple") T.tuple))) (aQ (eL T.qD) T.isinstance (cb (aj 0) (iz (n:="tuple") T.tuple)))) (ix (aI (oA hr.units) (aQ (eL T.DQ) T.isinstance (cb (aj 1) (iz (n:="list") T.list))) (aQ (eL T.DQ) T.isinstance (cb (aj 0) (iz (n:="list") T.list)))))).pt
 (ae (aD kY))
 aK)
 (ae (aD (w_and (dw (bU hr.units) (aQ fL T.len (br (aj 0))) (aQ fL T.len (br (aj 1)))) (ik (iA (Fd rfl) pH T.all (lW [0,1] (fv T.range (br (aQ fL T.len (br (aj 1))))) bC (aB gY (cb (aO aS (aj 1) (aj 0)) (aO aS (aj 2) (aj 0))))))))))))))),?_⟩
  rcases hs with hx|⟨ds,rfl,hz,hs⟩
  ·cases x with
   |bh=>rfl';refine ja ?_;rfl';refine ja ?_;rfl';exact ao k
   |bl b=>rfl';refine gb (by simp[md]) ?_;rfl';refine bQ (n:="bool") rfl (b:=true) (by decide) ?_;rfl';refine bQ (n:="bool") rfl (b:=true) (by decide) ?_;rfl';refine bQ (n:="bool") rfl (b:=true) (by decide) ?_;rfl';rw[B9 (rfl:b=b)];exact ao k
   |int i=>rfl';refine gb (by simp[md]) ?_;rfl';refine bQ (n:="int") rfl (b:=false) (by decide) ?_;rfl';refine bQ (n:="int") rfl (b:=false) (by decide) ?_;rfl';refine bQ (n:="int") rfl (b:=true) (by decide) ?_;rfl';refine bQ (n:="int") rfl (b:=true) (by decide) ?_;rfl';rw[B9 (rfl:i=i)];exact ao k
   |str z=>rfl';refine gb (by simp[md]) ?_;rfl';refine bQ (n:="str") rfl (b:=false) (by decide) ?_;rfl';refine bQ (n:="str") rfl (b:=false) (by decide) ?_;rfl';refine bQ (n:="str") rfl (b:=false) (by decide) ?_;rfl';refine bQ (n:="str") rfl (b:=true) (by decide) ?_;rfl';refine bQ (n:="str") rfl (b:=true) (by decide) ?_;rfl';rw[B9 (rfl:z=z)];exact ao k
   |_=>cases hx
  ·rfl';refine gb (by simp[md]) ?_;rfl';refine bQ (n:="tuple") rfl (b:=false) (by decide) ?_;rfl';refine bQ (n:="tuple") rfl (b:=false) (by decide) ?_;rfl';refine bQ (n:="tuple") rfl (b:=false) (by decide) ?_;rfl';refine bQ (n:="tuple") rfl (b:=false) (by decide) ?_;rfl';refine bQ (n:="tuple") rfl (b:=true) (by decide) ?_;rfl';refine bQ (n:="tuple") rfl (b:=true) (by decide) ?_;rfl';refine lA (λ h=>bi rfl h) (λ _=>?_);rfl';refine bQ (n:="tuple") rfl (b:=false) (by decide) ?_;rfl';refine bQ (n:="tuple") rfl (b:=false) (by decide) ?_;rfl';refine lA (λ h=>bi rfl h) (λ _=>?_);rfl';refine bJ (λ _=>?_) (λ hl=>bi rfl hl);rfl';refine⟨cX () (),?_⟩;rw[x6];refine fh (λ i dL M'=>M'=M/\dL=(List.replicate i true).map D.bl) ⟨rfl,rfl⟩ (λ i dL M' hi h=>?_) (λ i d dL M' hd h=>?_) (λ dL M' h=>?_)
   ·obtain⟨_,rfl⟩:=h;rw[bw]at hi;simp only[B4,j6];exact small ()
   ·obtain⟨rfl,rfl⟩:=h;obtain⟨hi,rfl⟩:=cZ hd;rfl';refine cL (yL hi) ?_;rfl';refine cL (yL hi) ?_;refine⟨_,rfl,hs _ (getElem_mem hi),rfl,?_⟩;rw[replicate_succ',B6];rfl
   ·obtain⟨rfl,rfl⟩:=h;unfold nB;rw[fM];show fin2 Q (.bl ((List.replicate _ true).all id)) _;rw[yM];exact ao k
structure cN where
 n:Nat
 a:Bool
 b:Bool
 c:Bool
 o:Str
structure Ru where
 w:Str
 n:Nat
 ts:List cN
def zN:Str:=aU "none"
def z1:Str:=aU "one"
def z2:Str:=aU "two"
def zE:Str:=aU ""
def rq:Str:=aU "as"
def cp:Str:=aU "row"
def AG:Str:=aU "to"
def bH:Str:=aU "take"
def cN.ws(t:cN):List Str:=(if t.a then[zN]else[])++(if t.b then[z1]else[])++if t.c then[z2]else[]
structure jC(zs:List Str)(t:cN):Prop where
 lo:1<=t.n
 hi:t.n<=9
 some:(t.a||t.b||t.c)=true
 src:t.o=zE\/t.o∈zs
structure wJ(zs:List Str)(r:Ru):Prop where
 wd:Wd r.w
 lo:1<=r.n
 hi:r.n<=9
 qL:r.ts.length<=7
 ok:∀t∈r.ts,jC zs t
def cU(rs:List Ru):List Str:=rs.map Ru.w
structure cC(rs:List Ru):Prop where
 nd:(cU rs).Nodup
 sum:(rs.map Ru.n).sum<=12
 qL:rs.length<=3
 ok:∀r∈rs,wJ (cU rs) r
def sI(v:Int):Str:=Str.ofString (toString v)
def nm(z:Str)(k:Nat):Str:=z++sI (k:Int)
def so(w:Str)(t:cN):Str:=if t.o=zE then w else t.o
set_option tactic.hygienic true in
def BD{rs:List Ru}{r:Ru}{t:cN}(h:cC rs)(hr:r∈rs)(ht:t∈r.ts):so r.w t∈cU rs:=by
 unfold so;split
 ·exact List.mem_map_of_mem hr
 ·rename_i z;exact((h.ok r hr).ok t ht).src.resolve_left z
def fA(rs:List Ru)(z:Str):Nat:=((rs.find? λ r=>decide (r.w=z)).map Ru.n).getD 0
def Qs{rs:List Ru}(eG:(cU rs).Nodup){r:Ru}(hr:r∈rs):fA rs r.w=r.n:=by
 unfold fA
 induction rs with
 |nil=>cases hr
 |cons x xs ih=>
  have Pw:x.w∉cU xs/\(cU xs).Nodup:=nodup_cons.mp eG;rw[A6];rcases C7.mp hr with rfl|h
  ·rw[B9 rfl];rfl
  ·have:¬x.w=r.w:=λ e=>Pw.1 (e▸List.mem_map_of_mem h);rw[A7 this];exact ih Pw.2 h
def lvl(rs:List Ru)(k:Nat):List (Ru×Nat):=(rs.filter λ r=>decide (k<=r.n)).map λ r=>(r,k)
def cP(rs:List Ru)(n:Nat):List (Ru×Nat):=(List.range n).flatMap λ k=>lvl rs (k+1)
def dX(rs:List Ru):List (Ru×Nat):=cP rs 9
def eJ(rs:List Ru)(n:Nat):cP rs (n+1)=cP rs n++lvl rs (n+1):=by unfold cP;rw[range_succ,flatMap_append];simp
def jW{rs:List Ru}{p:Ru×Nat}:p∈cP rs n↔p.1∈rs/\1<=p.2/\p.2<=p.1.n/\p.2<=n:=by
 unfold cP lvl;rw[mem_flatMap];constructor
 ·rintro⟨k,hk,h⟩;obtain⟨r,hr,rfl⟩:=D5.mp h;have h2:=mem_filter.mp hr;have:=ca h2.2;have:=bv.mp hk;exact⟨h2.1,(),(),by dsimp only;lia⟩
 ·rintro⟨h1,h2,h3,h4⟩;refine⟨p.2-1,bv.mpr (),D5.mpr ⟨p.1,mem_filter.mpr ⟨h1,B9 ()⟩,?_⟩⟩;rw[Nat.sub_add_cancel h2]
def vN{rs:List Ru}(h:∀r∈rs,r.n<=n)(hm:n<=m):cP rs m=cP rs n:=by
 induction m with
 |zero=>obtain rfl:n=0:=();rfl
 |succ m ih=>
  by_cases e:n=m+1
  ·rw[e]
  ·rw[eJ,ih ()];have:lvl rs (m+1)=[]:=by unfold lvl;rw[map_eq_nil_iff,filter_eq_nil_iff];intro r hr;have:=h r hr;simp only[w9];lia
   rw[this,A5]
def fG(rs:List Ru)(n:Nat):(cP rs n).length=(rs.map λ r=>min r.n n).sum:=by
 induction n with
 |zero=>
  have:∀rs:List Ru,(rs.map λ r=>min r.n 0).sum=0:=λ rs=>by
   induction rs with
   |nil=>rfl
   |cons x xs ih=>rw[C6,D1,ih];simp
  rw[this];rfl
 |succ n ih=>
  rw[eJ,n9,ih];unfold lvl;rw[B4];clear ih
  induction rs with
  |nil=>rfl
  |cons x xs ih=>
   rw[C6,C6,D1,D1,filter_cons];by_cases e:n+1<=x.n
   ·rw[J6 (B9 e),z0];have:min x.n n=n:=()
    have:min x.n (n+1)=n+1:=()
    lia
   ·rw[J7 (by simp;lia)];have:min x.n (n+1)=min x.n n:=()
    lia
def eV{rs:List Ru}(h:cC rs):(dX rs).length<=12:=by
 have e:(rs.map λ r=>min r.n 9)=rs.map Ru.n:=l8 λ r hr=>by have:=(h.ok r hr).hi;lia
 unfold dX;rw[fG,e];exact h.sum
def jF(p:Ru×Nat):Str:=nm p.1.w p.2
def ip(rs:List Ru):List Str:=(dX rs).map jF
def uZ:∀k:Nat,k<=9->sI (k:Int)=⟨#[48+k]⟩/\(k:Int).natAbs.log2<1920:=by decide+kernel
def qd(hk:k<=9):(nm z k).cps.toList=z.cps.toList++[48+k]:=by unfold nm;rw[jA,(uZ k hk).1]
def fV{x:Str}(h:x.cps.toList=y.cps.toList):x=y:=by cases x;cases y;congr 1;exact Array.toList_inj.mp h
def qc{j:Nat}(hk:k<=9)(hj:j<=9)(h:nm z k=nm y j):z=y/\k=j:=by
 have e:(nm z k).cps.toList=(nm y j).cps.toList:=J3 (λ s:Str=>s.cps.toList) h;rw[qd hk,qd hj]at e;obtain⟨e1,e2⟩:=append_inj' e rfl;have:48+k=48+j:=by simpa using e2
 exact⟨fV e1,()⟩
def CW(hk:k<=9):(nm z k).length=z.length+1:=by have e:=J3 List.length (qd (z:=z) hk);rw[n9]at e;simpa[Str.length]using e
def dW{rs:List Ru}(h:cC rs){p:Ru×Nat}(hp:p∈dX rs):p.1∈rs/\1<=p.2/\p.2<=p.1.n/\p.2<=9:=jW.mp hp
def Oi{rs:List Ru}(eG:rs.Nodup):(dX rs).Nodup:=by
 unfold dX cP;rw[List.Nodup,pairwise_flatMap];refine⟨λ k hk=>?_,?_⟩
 ·unfold lvl;exact pairwise_map.mpr ((List.Pairwise.filter _ eG).imp λ n e=>n (Prod.mk.inj e).1)
 ·refine nodup_range.imp λ{a b} n x hx y hy e=>?_;unfold lvl at hx hy;obtain⟨r,_,rfl⟩:=D5.mp hx;obtain⟨q,_,rfl⟩:=D5.mp hy;have:=(Prod.mk.inj e).2;lia
def Rj{rs:List Ru}(h:cC rs):rs.Nodup:=(pairwise_map.mp h.nd).imp λ n e=>n (J3 _ e)
def mE{rs:List Ru}(h:cC rs):(ip rs).Nodup:=by
 unfold ip;refine pairwise_map.mpr ((Oi (Rj h)).imp_of_mem λ{p q} hp hq n e=>?_);have ap:=dW h hp;have aq:=dW h hq;obtain⟨e1,e2⟩:=qc ap.2.2.2 aq.2.2.2 e;refine n (Prod.ext ?_ e2);have eG:=h.nd;unfold cU at eG;obtain⟨i,hi⟩:=mem_iff_getElem?.mp ap.1;obtain⟨j,hj⟩:=mem_iff_getElem?.mp aq.1;have a1:(rs.map Ru.w)[i]?=some p.1.w:=by rw[w6,hi];rfl
 have a2:(rs.map Ru.w)[j]?=some q.1.w:=by rw[w6,hj];rfl
 have:=(getElem?_inj (by have:=(c5.mp a1).1;exact this) eG).mp (a1.trans ((J3 some e1).trans a2.symm));subst this;exact B0 (hi.symm.trans hj)
def NO{rs:List Ru}(h:cC rs)(hz:z∈cU rs)(h1:1<=k)(hk:k<=fA rs z):nm z k∈ip rs:=by obtain⟨r,hr,rfl⟩:=D5.mp hz;rw[Qs h.nd hr]at hk;exact D5.mpr ⟨(r,k),jW.mpr ⟨hr,h1,hk,D7 hk (h.ok r hr).hi⟩,rfl⟩
def Fx(s:Nat)(z:Str)(k:Nat)(t:cN):List (List (Str×Int)):=(if t.a&&decide (k=t.n)then[[]]else[])++(if t.b&&decide (t.n<k/\k-t.n<=s)then[[(nm z (k-t.n),1)]]else[])++
 if t.c then((List.range ((k-t.n)/2)).filter λ j=>decide (k-t.n-(j+1)<=s)).map λ j=>[(nm z (j+1),1),(nm z (k-t.n-(j+1)),1)]else[]
def xK(s:Nat)(z:Str)(k:Nat)(t:cN):List (List Str):=(if t.a&&decide (k=t.n)then[[]]else[])++(if t.b&&decide (t.n<k/\k-t.n<=s)then[[nm z (k-t.n)]]else[])++
 if t.c then((List.range (k-t.n-1)).filter λ j=>decide (j+1<=s/\k-t.n-(j+1)<=s)).map λ j=>[nm z (j+1),nm z (k-t.n-(j+1))]else[]
def Io(rs:List Ru)(p:Ru×Nat):List (List (Str×Int)):=p.1.ts.flatMap λ t=>Fx (fA rs (so p.1.w t)) (so p.1.w t) p.2 t
def xI(rs:List Ru)(p:Ru×Nat):List (List Str):=p.1.ts.flatMap λ t=>xK (fA rs (so p.1.w t)) (so p.1.w t) p.2 t
def oX(ts:List (Str×Int))(z:Str):Int:=((ts.filter λ t=>decide (t.1=z)).map (·.2)).sum
def gx(own:List Str)(ts:List (Str×Int)):Row:=own.map (oX ts)
def mf(zs:List Str):List (Str×Int):=zs.map λ z=>(z,1)
def ET(own:List Str)(x y:Str×Int):gx own [x,y]=gx own [y,x]:=by unfold gx;refine l8 λ z _=>?_;unfold oX;by_cases h1:x.1=z<;>by_cases h2:y.1=z<;>simp[h1,h2]<;>lia
def xJ(own:List Str)(s:Nat)(z:Str)(k:Nat)(t:cN)(r:Row):r∈(Fx s z k t).map (gx own)↔r∈(xK s z k t).map λ q=>gx own (mf q):=by
 unfold Fx xK;rw[B6,B6,B6,B6,B5,B5,B5,B5];have ea:((if(t.a&&decide (k=t.n))=true then[[]]else[]):List (List (Str×Int))).map (gx own)=((if(t.a&&decide (k=t.n))=true then[[]]else[]):List (List Str)).map λ q=>gx own (mf q):=by split<;>rfl
 have eb:((if(t.b&&decide (t.n<k/\k-t.n<=s))=true then[[(nm z (k-t.n),1)]]else[]):List (List (Str×Int))).map (gx own)=((if(t.b&&decide (t.n<k/\k-t.n<=s))=true then[[nm z (k-t.n)]]else[]):List (List Str)).map λ q=>gx own (mf q):=by split<;>rfl
 rw[ea,eb];refine or_congr Iff.rfl ?_;cases t.c with
 |false=>exact Iff.rfl
 |true=>
  rw[J6 rfl,J6 rfl,D6,D6];constructor
  ·intro h;obtain⟨j,hj,rfl⟩:=D5.mp h;obtain⟨h1,h2⟩:=mem_filter.mp hj;have h1:=bv.mp h1;have h2:=ca h2;exact D5.mpr ⟨j,mem_filter.mpr ⟨bv.mpr (),B9 ()⟩,rfl⟩
  ·intro h;obtain⟨j,hj,rfl⟩:=D5.mp h;obtain⟨h1,h2⟩:=mem_filter.mp hj;have h1:=bv.mp h1;have h2:=ca h2;by_cases hh:j<(k-t.n)/2
   ·exact D5.mpr ⟨j,mem_filter.mpr ⟨bv.mpr hh,B9 ()⟩,rfl⟩
   ·refine D5.mpr ⟨k-t.n-(j+1)-1,mem_filter.mpr ⟨bv.mpr (),B9 ()⟩,?_⟩;have e1:k-t.n-(j+1)-1+1=k-t.n-(j+1):=()
    have e2:k-t.n-(k-t.n-(j+1))=j+1:=()
    show gx own [(nm z (k-t.n-(j+1)-1+1),1),(nm z (k-t.n-(k-t.n-(j+1)-1+1)),1)]=gx own [(nm z (j+1),1),(nm z (k-t.n-(j+1)),1)];rw[e1,e2,ET]
def L9(rs:List Ru)(p:Ru×Nat):List Row:=(Io rs p).map (gx (ip rs))
def VU(rs:List Ru)(p:Ru×Nat):List Row:=(xI rs p).map λ q=>gx (ip rs) (mf q)
def G'(rs:List Ru)(p:Ru×Nat)(r:Row):r∈L9 rs p↔r∈VU rs p:=by unfold L9 VU Io xI;rw[map_flatMap,map_flatMap,mem_flatMap,mem_flatMap];exact⟨λ⟨t,ht,h⟩=>⟨t,ht,(xJ _ _ _ _ _ _).mp h⟩,λ⟨t,ht,h⟩=>⟨t,ht,(xJ _ _ _ _ _ _).mpr h⟩⟩
theorem dJ{β:Type}(f:α->List β)(n:Nat):∀l:List α,(∀x∈l,(f x).length<=n)->(l.flatMap f).length<=l.length*n
 |[],_=>by simp
 |x::l,h=>by have h1:=h x l9;have h2:=dJ f n l λ y hy=>h y (j9 _ hy);rw[flatMap_cons,n9,z0,Nat.succ_mul];lia
def pX{s:Nat}{t:cN}(hk:k<=9)(ht:1<=t.n):(Fx s z k t).length<=6:=by
 unfold Fx;rw[n9,n9];have h1:((if(t.a&&decide (k=t.n))=true then[[]]else[]):List (List (Str×Int))).length<=1:=by split<;>decide
 have h2:((if(t.b&&decide (t.n<k/\k-t.n<=s))=true then[[(nm z (k-t.n),1)]]else[]):List (List (Str×Int))).length<=1:=by split<;>exact j8 rfl
 have h3:((if t.c=true then((List.range ((k-t.n)/2)).filter λ j=>decide (k-t.n-(j+1)<=s)).map λ j=>[(nm z (j+1),(1:Int)),(nm z (k-t.n-(j+1)),1)]else[]):List (List (Str×Int))).length<=4:=by
  split
  ·rw[B4];refine D7 (length_filter_le _ _) ?_;rw[y3];lia
  ·exact G5 _
 lia
def pY{s:Nat}{t:cN}(hk:k<=9)(ht:1<=t.n):(xK s z k t).length<=9:=by
 unfold xK;rw[n9,n9];have h1:((if(t.a&&decide (k=t.n))=true then[[]]else[]):List (List Str)).length<=1:=by split<;>decide
 have h2:((if(t.b&&decide (t.n<k/\k-t.n<=s))=true then[[nm z (k-t.n)]]else[]):List (List Str)).length<=1:=by split<;>exact j8 rfl
 have h3:((if t.c=true then((List.range (k-t.n-1)).filter λ j=>decide (j+1<=s/\k-t.n-(j+1)<=s)).map λ j=>[nm z (j+1),nm z (k-t.n-(j+1))]else[]):List (List Str)).length<=7:=by
  split
  ·rw[B4];refine D7 (length_filter_le _ _) ?_;rw[y3];lia
  ·exact G5 _
 lia
def xG{rs:List Ru}(h:cC rs){p:Ru×Nat}(hp:p∈dX rs):(Io rs p).length<=42:=by have a:=dW h hp;have ro:=h.ok _ a.1;unfold Io;have:=dJ (λ t=>Fx (fA rs (so p.1.w t)) (so p.1.w t) p.2 t) 6 p.1.ts λ t ht=>pX a.2.2.2 (ro.ok t ht).lo;have:=ro.qL;lia
set_option tactic.hygienic true in
def CL{rs:List Ru}(h:cC rs){p:Ru×Nat}(hp:p∈dX rs)(ht:ts∈Io rs p):ts.length<=2/\∀x∈ts,x.2=1/\∃z j,x.1=nm z j/\z∈cU rs/\1<=j/\j<p.2/\j<=fA rs z:=by
 have a:=dW h hp;obtain⟨t,ht,uH⟩:=mem_flatMap.mp ht;have gF:=BD h a.1 ht;have hn:=((h.ok _ a.1).ok t ht).lo;unfold Fx at uH;rcases B5.mp uH with uH|uH
 ·rcases B5.mp uH with uH|uH
  ·split at uH
   ·rw[r6.mp uH];exact⟨G5 _,λ x hx=>by cases hx⟩
   ·cases uH
  ·split at uH
   ·rename_i g;have g:=ca (Bool.and_eq_true_iff.mp g).2;rw[r6.mp uH];exact⟨Nat.le_succ 1,λ x hx=>by rw[r6.mp hx];exact⟨rfl,_,_,rfl,gF,(),(),g.2⟩⟩
   ·cases uH
 ·split at uH
  ·obtain⟨j,hj,rfl⟩:=D5.mp uH;obtain⟨h1,h2⟩:=mem_filter.mp hj;have h1:=bv.mp h1;have h2:=ca h2;refine⟨G3 2,λ x hx=>?_⟩;rcases C7.mp hx with e|e
   ·rw[e];exact⟨rfl,_,_,rfl,gF,(),(),()⟩
   ·rw[r6.mp e];exact⟨rfl,_,_,rfl,gF,(),(),()⟩
  ·cases uH
def LD{a b:List Row}(ha:Up a)(hb:Up b)(h:∀r,r∈a↔r∈b):a=b:=by
 have eG:∀{l:List Row},Up l->l.Nodup:=λ hl=>hl.imp λ{x y} q e=>by subst e;exact bi (jk _ _ q) (by rw[q];decide)
 exact List.Perm.eq_of_pairwise (λ x y _ _ h1 h2=>bi (jk _ _ h1) (by rw[h2];decide)) ha hb ((perm_ext_iff_of_nodup (eG ha) (eG hb)).mpr h)
def lN(own:List Str)(ts:List (Str×Int)):(gx own ts).length=own.length:=by unfold gx;rw[B4]
def t_(x:Str×Int)(ts:List (Str×Int))(z:Str):oX (x::ts) z=(if x.1=z then x.2 else 0)+oX ts z:=by
 unfold oX;rw[filter_cons];by_cases h:x.1=z
 ·rw[J6 (B9 h),J6 h,C6,D1]
 ·rw[J7 (by simp[h]),J7 h,Int.zero_add]
def Ui(h:∀x∈ts,x.2=1)(z:Str):0<=oX ts z/\oX ts z<=ts.length:=by
 induction ts with
 |nil=>exact⟨Int.le_refl _,Int.le_refl _⟩
 |cons x ts ih=>have h1:=h x l9;obtain⟨a,b⟩:=ih λ y hy=>h y (j9 _ hy);rw[t_,z0];split<;>lia
def OZ(h:∀x∈ts,x.1≠z):oX ts z=0:=by
 unfold oX;have:ts.filter (λ t=>decide (t.1=z))=[]:=filter_eq_nil_iff.mpr λ x hx=>by simp[h x hx]
 rw[this];rfl
theorem sum_add(f g:Str->Int):∀l:List Str,(l.map λ z=>f z+g z).sum=(l.map f).sum+(l.map g).sum
 |[]=>rfl
 |x::l=>by rw[C6,C6,C6,D1,D1,D1,sum_add f g l];lia
theorem w_{v:Int}(hv:0<=v)(x:Str):∀{own:List Str},own.Nodup->0<=(own.map λ z=>if x=z then v else 0).sum/\(own.map λ z=>if x=z then v else 0).sum<=v/\(x∉own->(own.map λ z=>if x=z then v else 0).sum=0)
 |[],_=>⟨Int.le_refl _,hv,λ _=>rfl⟩
 |y::l,eG=>by
  rw[nodup_cons]at eG;obtain⟨a,b,c⟩:=w_ hv x eG.2;rw[C6,D1];by_cases e:x=y
  ·subst e;rw[J6 rfl,c eG.1];exact⟨(),(),λ h=>bi l9 h⟩
  ·rw[J7 e,Int.zero_add];exact⟨a,b,λ h=>c λ m=>h (j9 _ m)⟩
theorem yD{own:List Str}(eG:own.Nodup):∀{ts:List (Str×Int)},(∀x∈ts,x.2=1)->(gx own ts).sum<=ts.length
 |[],_=>by
  unfold gx;have:∀l:List Str,(l.map (oX [])).sum=0:=λ l=>by
   induction l with
   |nil=>rfl
   |cons x l ih=>rw[C6,D1,ih];rfl
  rw[this];exact Int.le_refl _
 |x::ts,h=>by
  have h1:=h x l9;have ih:=yD eG λ y hy=>h y (j9 _ hy);have e:gx own (x::ts)=own.map λ z=>(if x.1=z then x.2 else 0)+oX ts z:=by unfold gx;exact l8 λ z _=>t_ x ts z
  have o:=(w_ (v:=x.2) () x.1 eG).2.1;unfold gx at ih;rw[e,sum_add,z0];lia
def qE(rs:List Ru)(n:Nat):(cP rs n).Pairwise λ p q=>p.2<=q.2:=by
 induction n with
 |zero=>exact .nil
 |succ n ih=>
  rw[eJ,pairwise_append];have lv:∀q∈lvl rs (n+1),q.2=n+1:=λ q hq=>by obtain⟨r,_,rfl⟩:=D5.mp hq;rfl
  refine⟨ih,List.Pairwise.imp_of_mem (R:=λ _ _=>True) (λ{a b} ha hb _=>by rw[lv a ha,lv b hb];exact G3 _) (pairwise_of_forall λ _ _=>trivial),λ p hp q hq=>?_⟩;have:=(jW.mp hp).2.2.2;rw[lv q hq];lia
def DT{rs:List Ru}(_h:cC rs){j:Nat}(s_:i<=j){p q:Ru×Nat}(hp:(dX rs)[i]?=some p)(hq:(dX rs)[j]?=some q):p.2<=q.2:=by
 by_cases e:i=j
 ·subst e;rw[hp]at hq;rw[B0 hq];exact G3 _
 ·obtain⟨i1,e1⟩:=c5.mp hp;obtain⟨j1,e2⟩:=c5.mp hq;have:=pairwise_iff_getElem.mp (qE rs 9) i j i1 j1 ();unfold dX at e1 e2;rw[e1,e2]at this;exact this
def BM{rs:List Ru}(h:cC rs){p:Ru×Nat}(hp:(dX rs)[i]?=some p){r:Row}(hr:r∈L9 rs p):r.length=(ip rs).length/\(∀x∈r,0<=x)/\(∀j,i<=j->r.getD j 0=0)/\r.sum<=2:=by
 obtain⟨ts,ht,rfl⟩:=D5.mp hr;have hm:=k4 hp;obtain⟨h2,ho⟩:=CL h hm ht;have h1:∀x∈ts,x.2=1:=λ x hx=>(ho x hx).1;refine⟨lN _ _,λ x hx=>?_,λ j hj=>?_,by have:=yD (mE h) h1;lia⟩
 ·obtain⟨z,_,rfl⟩:=D5.mp hx;exact(Ui h1 z).1
 ·unfold gx;rw[b8,w6];cases e:(ip rs)[j]? with
  |none=>rfl
  |some y=>
   show oX ts y=0;refine OZ λ x hx q=>?_;obtain⟨_,z,k,e1,hz,k1,k2,k3⟩:=ho x hx;unfold ip at e;rw[w6]at e;cases e4:(dX rs)[j]? with
   |none=>rw[e4]at e;cases e
   |some p2=>rw[e4]at e;have e:jF p2=y:=B0 e;have a2:=dW h (k4 e4);have a1:=dW h hm;rw[e1,<- e]at q;obtain⟨_,e5⟩:=qc () a2.2.2.2 q;have le:=DT h hj hp e4;lia
def yG:∀j∈List.range 26,SM (lp j)=true/\lp j∉eZ:=by decide+kernel
def JW{j:Nat}(h:j<26):Wd (lp j):=⟨xP (yG j (bv.mpr h)).1,(yG j (bv.mpr h)).2⟩
def iI:Str:=aU "123456789"
def yp:iI.cps=#[49,50,51,52,53,54,55,56,57]:=by decide+kernel
set_option tactic.hygienic true in
def strip_eq(z:Str):Txt.rstripChars z iI=⟨(z.cps.toList.take (z.length-(z.cps.toList.reverse.takeWhile iI.cps.contains).length)).toArray⟩:=by
 unfold Txt.rstripChars Txt.stripBy;split
 ·rename_i h;unfold stripSame stripLo stripHi at h;simp only[o8,J1,A2,beq_iff_eq,J5,drop_zero]at h;refine fV ?_;have hl:z.cps.toList.length=z.length:=by simp[Str.length]
  show z.cps.toList=_;rw[show(⟨(z.cps.toList.take (z.length-(z.cps.toList.reverse.takeWhile iI.cps.contains).length)).toArray⟩:Str).cps.toList=z.cps.toList.take (z.length-(z.cps.toList.reverse.takeWhile iI.cps.contains).length)from rfl,h.2,<- hl,z9]
 ·unfold stripped stripLo stripHi;simp only[o8,J1,J5,drop_zero];refine fV ?_;rw[StrLaws.strSub_toList];rfl
def ON(h:97<=c):iI.cps.contains c=false:=by rw[yp];simp;lia
def JK(h:49<=c/\c<=57):iI.cps.contains c=true:=by rw[yp];simp;lia
def Bp(h:Nm z):Wd (Txt.rstripChars z iI):=by
 have go:∀{w:Str} (l:List Nat),Wd w->(∀c∈l,49<=c/\c<=57)->((w.cps.toList++l).reverse.takeWhile iI.cps.contains).length=l.length:=by
  intro w l hw hl;have hr:∀c∈l.reverse,iI.cps.contains c=true:=λ c hc=>JK (hl c (mem_reverse.mp hc));rw[reverse_append,takeWhile_append_of_pos hr,n9,length_reverse];have:w.cps.toList.reverse.takeWhile iI.cps.contains=[]:=by
   cases e:w.cps.toList.reverse with
   |nil=>rfl
   |cons c cs=>have hc:c∈w.cps.toList:=mem_reverse.mp (by rw[e];exact l9);rw[takeWhile_cons,ON (hw.low c hc).1];rfl
  rw[this];rfl
 rcases h with h|⟨w,c,hw,h1,h2,rfl⟩
 ·have e:=go [] h (λ c hc=>by cases hc);rw[A5]at e;have:Txt.rstripChars z iI=z:=by
   rw[strip_eq,e];refine fV ?_;show z.cps.toList.take (z.length-0)=_;have hl:z.cps.toList.length=z.length:=by simp[Str.length]
   rw[Nat.sub_zero,<- hl,z9]
  rw[this];exact h
 ·have e:=go [c] hw (λ d hd=>by rw[r6.mp hd];exact⟨h1,h2⟩);have ea:(w++⟨#[c]⟩:Str).cps.toList=w.cps.toList++[c]:=jA _ _;have:Txt.rstripChars (w++⟨#[c]⟩) iI=w:=by
   rw[strip_eq,ea,e];refine fV ?_;have hl:(w++⟨#[c]⟩:Str).length=w.cps.toList.length+1:=by rw[len_app];show w.length+1=_;simp[Str.length]
   show(w.cps.toList++[c]).take _=_;rw[hl,show w.cps.toList.length+1 - [c].length=w.cps.toList.length by simp,take_left]
  rw[this];exact hw
def xg:cO:=λ ds M Q=>∃(f c:be)(n:Nat),ds=[.ref f,.int n]/\Flow M f c/\n<=3/\∀(p:be)(zs:List Str)(M':Mem),zs.length=n->M p=none->M' p=some (.lst (zs.map D.str))->Fl f c M M'->(∀z∈zs,Wd z)->zs.Nodup->Q (.ref p) M'
abbrev lr(A:be->Prop)(M:Mem)(d:D)(t:cN):Prop:=∃q,d=.tup [.int (t.n:Nat),.ref q,.str t.o]/\A q/\M q=some (.lst (t.ws.map D.str))
abbrev FK(A:be->Prop)(M:Mem)(d:D)(r:Ru):Prop:=∃q ds,d=.tup [.str r.w,.int (r.n:Nat),.ref q]/\A q/\M q=some (.lst ds)/\Paired (lr A M) ds r.ts
def FL(A:be->Prop)(M:Mem)(p:be)(rs:List Ru):Prop:=∃ds,A p/\M p=some (.lst ds)/\Paired (FK A M) ds rs
def lr.mono{A B:be->Prop}(h:∀q o,A q->M q=some o->B q/\M' q=some o){t:cN}(x:lr A M d t):lr B M' d t:=by obtain⟨q,e,a,m⟩:=x;exact⟨q,e,(h q _ a m).1,(h q _ a m).2⟩
theorem FK.mono{A B:be->Prop}(h:∀q o,A q->M q=some o->B q/\M' q=some o){r:Ru}(x:FK A M d r):FK B M' d r:=by obtain⟨q,ds,e,a,m,p⟩:=x;exact⟨q,ds,e,(h q _ a m).1,(h q _ a m).2,L2.Paired.bR p λ _ _ y=>lr.mono h y⟩
theorem FL.mono{A B:be->Prop}(h:∀q o,A q->M q=some o->B q/\M' q=some o){rs:List Ru}(x:FL A M p rs):FL B M' p rs:=by obtain⟨ds,a,m,z⟩:=x;exact⟨ds,(h p _ a m).1,(h p _ a m).2,L2.Paired.bR z λ _ _ y=>FK.mono h y⟩
def FL.ext{A:be->Prop}{rs:List Ru}(x:FL A M p rs)(e:jp M M'):FL A M' p rs:=x.mono λ _ _ a m=>⟨a,e _ _ m⟩
def Kj:List Str:=[zN,z1,z2]
def Bx:cO:=λ ds M Q=>∃(f c p:be)(zs:List Str),ds=[.ref f,.ref p]/\Flow M f c/\p≠f/\M p=some (.lst (zs.map D.str))/\zs≠[]/\zs.length<=3/\∀(t:cN)(d:D)(M':Mem),jC zs t->lr (·≠f) M' d t->Fl f c M M'->Q d M'
def xh:cO:=λ ds M Q=>∃(f c:be),ds=[.ref f,.int 12]/\Flow M f c/\∀(p:be)(rs:List Ru)(M':Mem),cC rs->FL (·≠f) M' p rs->Fl f c M M'->Q (.ref p) M'
def nw{N:Mem}{o:MO}(hp:M p=none)(e:ak M p o=N):jp M N/\N p=some o:=by subst e;exact⟨jp.new jp.rfl hp o,ai⟩
def Fl.x{c:be}{N:Mem}(F:Fl f c M M')(e:jp M' N):Fl f c M N:=by obtain⟨ns,p,b,sd,ct,hf,hc,r⟩:=F.dY;exact⟨⟨ns,p,b,sd,ct,e _ _ hf,e _ _ hc,r⟩,λ q o h i=>e _ _ (F.mv q o h i)⟩
def Fl.new{c:be}(F:Fl f c M M')(hp:M' p=none)(o:MO):Fl f c M (ak M' p o):=F.trans (Fl.put F.dY hp)
def Fl.pk{c:be}{o:MO}(F:Fl f c M M')(h:Flow (ak M' f o) f c):Fl f c M (ak M' f o):=F.trans (Fl.pick h)
def Fl.uF{c:be}(F:Fl f c M M')(hp:M' p=none):p≠f:=(F.dY.ne hp).1
def Fl.free{c:be}(F:Fl f c M M')(hp:M' p=none):M p=none:=by
 cases e:M p with
 |none=>rfl
 |some o=>have:=F.mv p o (F.uF hp) e;rw[hp]at this;cases this
def wy(a b c:Bool):List Str:=(cN.mk 0 a b c zE).ws
def Bc:∀a b c:Bool,wy a b c=[]↔(a||b||c)=false:=by decide+kernel
def Ki:∀a b c:Bool,∀z∈wy a b c,PyData.strOk z=true:=by decide+kernel
def Bd:∀a b c:Bool,(wy a b c).length<=3:=by decide+kernel
def Bb(t:cN):t.ws=wy t.a t.b t.c:=rfl
def R3(F:dh K "_law_words" "_law_words" (top 73) f fd)(T:dP K mg)(wb:bb P w K mg base 2 "_law_name" ["_law_flow_here"] QN):bg P w K mg base cM 3 f fd ["_law_flow_here","_law_many"] (bD K xg):=by
 refine dU F ["_law_flow_here","_law_many","_law_words_here","_law_k","_law_word","_law_spare"] (λ b_ A outer s H E ds M Q nd hr h=>?_)
 ·obtain⟨a,cc,n,rfl,hF,hz,k⟩:=h;refine⟨_,(aa (aA 2 (a_ bp))
 (aa (bo (fv T.range (br (aj 1))) (aF 3)
 (aa (aA 4 (cW PySem.F.plainAttrs_str PySem.F.slot_str_rstrip PySem.F.type_str_rstrip m_rstrip (aB wb (br (aj 0))) (br aV)))
 (aa (aA 5 ag)
 (aa (Bh (aI (kH hr.units) (aj 4) (aj 2))
 (aa (aA 4 (bu fe (aO aS aV (bu kB (aj 5) ag)) (bu bx ag (bu mD (aj 5) ag))))
 (ae (aA 5 (bu bx (aj 5) ag)))))
 (ae (aN (cW e7 c7 c9 bB (aj 2) (br (aj 4)))))))))
 (ae (aD (aj 2))))),?_⟩
  rfl';intro p hp;have Ol:=(hF.ne hp).1;rfl';refine⟨cX () (),?_⟩;rw[x6];refine gU (λ i δ M'=>∃(v1 v2 v3:Option D)(zs:List Str),δ=Qg (some (.ref a)) (some (.int n)) (some (.ref p)) v1 v2 v3/\zs.length=i/\M' p=some (.lst (zs.map D.str))/\Fl a cc M M'/\(∀z∈zs,Wd z)/\zs.Nodup) ⟨none,none,none,[],rfl,rfl,ai,Fl.put hF hp,λ z h=>(by cases h),.nil⟩ (jr λ NX i d δ M' df hd h=>?_) (λ δ M' h=>?_)
  ·obtain⟨v1,v2,v3,zs,rfl,h2,h3,F1,jF,FD⟩:=h;obtain⟨hi,rfl⟩:=cZ hd;rfl';refine⟨a,cc,rfl,F1.dY,λ z M1 WD F2=>?_⟩;have F3:=F1.trans F2;have h3:=F2.mv p _ Ol h3;have WC:=WD.len;rfl';refine⟨rfl,?_⟩;rfl';refine⟨z,iI,rfl,rfl,(),?_⟩;have U1:=Bp WD;generalize Txt.rstripChars z iI=w at*;clear WD WC;rfl';refine BP ⟨λ m δ M'=>M'=M1/\∃(z:Str)(sp:Nat),δ=Qg (some (.ref a)) (some (.int n)) (some (.ref p)) (some (.int (0+(i:Nat)))) (some (.str z)) (some (.int sp))/\m=zs.length+2-sp/\sp<=zs.length+1/\Wd z/\(0<sp->z=lp (sp-1))/\∀j,j+1<sp->lp j∈zs,⟨_,rfl,w,0,rfl,rfl,G5 _,U1,λ q=>bi q (),λ j q=>bi q ()⟩,?_⟩;rintro m δ M' ⟨rfl,z,sp,rfl,rfl,DS,hzn,hz1,hz2⟩;rfl';refine eT h3 (cj z zs) ?_;refine eS (λ gF=>?_) (λ gF=>?_)
   ·have gF:z∈zs:=by simpa using gF
    have all:∀j,j<sp->lp j∈zs:=λ j hj=>by
     by_cases e:j+1<sp
     ·exact hz2 j e
     ·have:j=sp-1:=()
      rw[this,<- hz1 ()];exact gF
    have Jq:sp<=zs.length:=EX () all;refine⟨λ δ' M2=>M2=M'/\δ'=Qg (some (.ref a)) (some (.int n)) (some (.ref p)) (some (.int (0+(i:Nat)))) (some (.str (lp sp))) (some (.int ((sp+1:Nat):Int))),?_,?_⟩
    ·rintro δ' M2 ⟨rfl,rfl⟩;exact⟨zs.length+2-(sp+1),(),rfl,lp sp,sp+1,rfl,rfl,(),JW (),λ _=>rfl,λ j hj=>all j ()⟩
    ·rfl';have em:(sp:Int)%26=(sp:Int):=Int.emod_eq_of_lt () ();have ed:(sp:Int)/26=0:=Int.ediv_eq_zero_of_lt () ();have bl:uj.length=26:=by decide+kernel
     have hc:fi (aU "zyxwvutsrqponmlkjihgfedcba").cps.toList ((sp:Int)%26)=some (uj.getD sp 0):=by
      rw[em];refine cT ?_;show uj[sp]?=_;rw[b8];have:sp<uj.length:=()
      simp[this]
     refine ve (by decide+kernel) hc ?_;rfl';rw[ed];refine rS (vA _) ?_;rfl';exact⟨rfl,rfl⟩
   ·rfl';refine⟨⟨rfl,_,h3⟩,?_⟩;rfl';refine cx h3 (by rw[B4];exact p8 (show zs.length<=12 by lia) (by decide)) ?_;rfl';exact df _ _ ⟨_,_,_,zs++[z],rfl,by simp[h2],by rw[ai,B6];rfl,F3.own hF hp,(λ y hy=>by
     rcases B5.mp hy with q|q
     ·exact jF y q
     ·rw[r6.mp q];exact hzn),nodup_append.mpr ⟨FD,by simp,λ x hx y hy e=>(by simpa using gF:z∉zs) ((e.trans (r6.mp hy))▸hx)⟩⟩
  ·obtain⟨v1,v2,v3,zs,rfl,h2,h3,F1,jF,FD⟩:=h;rw[bw]at h2;rfl';exact ao (k p zs _ h2 hp h3 F1 jF FD)
def R7(F:dh K "_law_take" "_law_take" (top 74) f fd)(T:dP K mg)(aW:bb P w K mg base 1 "_law_pick" ["_law_flow_here","_law_many"] pN):bg P w K mg base cM 2 f fd ["_law_flow_here","_law_words_here"] (bD K Bx):=by
 refine dU F ["_law_flow_here","_law_words_here","_law_ways","_law_other"] (λ b_ A outer s H E ds M Q nd hr h=>?_)
 ·obtain⟨a,cc,p,zs,rfl,hF,Ol,hp,WH,hz3,k⟩:=h;refine⟨_,(aa (lV 2 (lW [0] (aM (a_ (pC (zs:=[aU "none",aU "one",aU "two"]) (by kernel_rfl)))) (g_ (aI (bU hr.units) (aB aW (cb (aj 1) ag)) ag)) (aj 0)))
 (aa (aY (aI (bU hr.units) (aj 2) (a_ bp))
 (ae (aA 2 (aO aS (a_ (aZ (a_ (br aV)) (aZ (a_ (br aV)) (aZ (a_ (br aV)) (aZ (a_ (cb aV aV)) bp))))) (aB aW (cb (aj 0) ag)))))
 aK)
 (aa (aA 3 (aO aS (bu bx (aj 1) (bu fe (a_ (br aV)) (aQ fL T.len (br (aj 1))))) (aB aW (cb (aj 0) (bu fe ag (aQ fL T.len (br (aj 1))))))))
 (ae (aD (cz (GC (bu bx ag (aB aW (cb (aj 0) (aO aS (a_ (GC ag ag ag)) (aB aW (cb (aj 0) ag)))))) (aj 2) (aj 3)))))))),?_⟩
  rfl';intro q hq;have F1:Fl a cc M (ak M q (.lst (Kj.map D.str))):=Fl.put hF hq;have q1:ak M q (.lst (Kj.map D.str)) q=some (.lst (Kj.map D.str)):=ai;have qa:=(hF.ne hq).1;rw[show[aU "none",aU "one",aU "two"]=Kj from rfl];generalize ak M q (.lst (Kj.map D.str))=M1 at*;refine bM q1 ?_;refine eX (ds:=Kj.map D.str) (λ i dL M'=>Fl a cc M1 M'/\∃x y z:Bool,dL=(wy x y z).map D.str/\(i<=0->x=false)/\(i<=1->y=false)/\(i<=2->z=false)) ⟨⟨F1.dY,λ _ _ _ e=>e⟩,false,false,false,rfl,λ _=>rfl,λ _=>rfl,λ _=>rfl⟩ (λ i dL M' hi h=>h.1.mv q _ qa q1) (λ i dL M' hi h=>?_) (λ i d dL M' hd h=>?_) (λ dL M' h=>?_)
  ·obtain⟨_,x,y,z,rfl,_⟩:=h;have:=Bd x y z;rw[B4];exact small ()
  ·obtain⟨F2,x,y,z,rfl,h0,h1,h2⟩:=h;rfl';refine⟨a,cc,2,rfl,F2.dY,by decide,by decide,λ m o m0 m1 Ee=>?_⟩;have F3:=F2.trans (Fl.pick Ee);rfl'
   match i,hd with
   |0,hd=>
    cases hd;obtain rfl:=h0 (G3 _);obtain rfl:=h1 ();obtain rfl:=h2 ();refine eS (λ _=>?_) (λ _=>?_)
    ·rfl';exact⟨F3,true,false,false,rfl,λ z=>by lia,λ _=>rfl,λ _=>rfl⟩
    ·exact⟨F3,false,false,false,rfl,λ z=>by lia,λ _=>rfl,λ _=>rfl⟩
   |1,hd=>
    cases hd;obtain rfl:=h1 ();obtain rfl:=h2 ();refine eS (λ _=>?_) (λ _=>?_)
    ·rfl';exact⟨F3,x,true,false,by cases x<;>rfl,λ z=>by lia,λ z=>by lia,λ _=>rfl⟩
    ·exact⟨F3,x,false,false,rfl,λ z=>by lia,λ z=>by lia,λ _=>rfl⟩
   |2,hd=>
    cases hd;obtain rfl:=h2 ();refine eS (λ _=>?_) (λ _=>?_)
    ·rfl';exact⟨F3,x,y,true,by cases x<;>cases y<;>rfl,λ z=>by lia,λ z=>by lia,λ z=>by lia⟩
    ·exact⟨F3,x,y,false,rfl,λ z=>by lia,λ z=>by lia,λ z=>by lia⟩
   |i+3,hd=>cases hd
  obtain⟨F2,x,y,z,rfl,_⟩:=h;intro v hv;have F2:=F1.trans F2;have va:=F2.uF hv;have F3:=F2.new hv (.lst ((wy x y z).map D.str));have v1:ak M' v (.lst ((wy x y z).map D.str)) v=some (.lst ((wy x y z).map D.str)):=ai;generalize ak M' v (.lst ((wy x y z).map D.str))=M2 at*;clear F1 F2 q1
  with_reducible refine eR ?_
  with_reducible refine fb (λ δ' M3=>∃(v:be)(x y z:Bool),δ'=[some (.ref a),some (.ref p),some (.ref v),none]/\v≠a/\M3 v=some (.lst ((wy x y z).map D.str))/\(x||y||z)=true/\Fl a cc M M3) (λ N hN=>?_) ?_
  ·rfl';intro e he;have F4:=F3.new he (.lst []);have v4:ak M2 e (.lst []) v=some (.lst ((wy x y z).map D.str)):=by rw[aG (bA v1 he)];exact v1
   have e4:ak M2 e (.lst []) e=some (.lst []):=ai;generalize ak M2 e (.lst [])=M4 at*;refine lB (k:=0) (b:=decide (wy x y z=[])) v4 e4 (λ d hd=>?_) (λ d hd=>by cases hd) (by decide) (by simp) ?_
   ·obtain⟨w,hw,rfl⟩:=D5.mp hd;exact iE 0 (Ki x y z w hw)
   rfl';refine bJ (λ h0=>?_) (λ h0=>?_)
   ·rfl';intro p1 FC;have n1:=F4.uF FC;generalize hM:ak M4 p1 _=M5 at*;obtain⟨X,g1⟩:=nw FC hM;clear hM;have F5:=F4.x X;rfl';intro p2 nF;have n2:=F5.uF nF;generalize hM:ak M5 p2 _=M6 at*;obtain⟨X,g2⟩:=nw nF hM;have g1:=X _ _ g1;clear hM;have F6:=F5.x X;rfl';intro p3 K7;have n3:=F6.uF K7;generalize hM:ak M6 p3 _=M7 at*;obtain⟨X,g3⟩:=nw K7 hM;have g1:=X _ _ g1;have g2:=X _ _ g2;clear hM;have F7:=F6.x X;rfl';intro p4 FA;have n4:=F7.uF FA;generalize hM:ak M7 p4 _=M8 at*;obtain⟨X,g4⟩:=nw FA hM;have g1:=X _ _ g1;have g2:=X _ _ g2;have g3:=X _ _ g3;clear hM;have F8:=F7.x X;rfl';intro p5 U9;have n5:=F8.uF U9;generalize hM:ak M8 p5 _=M9 at*;obtain⟨X,g5⟩:=nw U9 hM;have g1:=X _ _ g1;have g2:=X _ _ g2;have g3:=X _ _ g3;have g4:=X _ _ g4;clear hM;have F9:=F8.x X;rfl';refine⟨a,cc,4,rfl,F9.dY,by decide,by decide,λ m o m0 m1 Ee=>?_⟩;have Fo:=F9.pk Ee;have P:=Fl.pick Ee;have g5:=P.mv _ _ n5 g5;have g1:=P.mv _ _ n1 g1;have g2:=P.mv _ _ n2 g2;have g3:=P.mv _ _ n3 g3;have g4:=P.mv _ _ n4 g4;obtain⟨j,rfl⟩:∃j:Nat,m=(j:Int):=⟨m.toNat,()⟩
    match j,m1 with
    |0,_=>refine ck g5 (d:=.ref p1) rfl ?_;rfl';exact hN _ _ ⟨p1,true,false,false,rfl,n1,g1,rfl,Fo⟩
    |1,_=>refine ck g5 (d:=.ref p2) rfl ?_;rfl';exact hN _ _ ⟨p2,false,true,false,rfl,n2,g2,rfl,Fo⟩
    |2,_=>refine ck g5 (d:=.ref p3) rfl ?_;rfl';exact hN _ _ ⟨p3,false,false,true,rfl,n3,g3,rfl,Fo⟩
    |3,_=>refine ck g5 (d:=.ref p4) rfl ?_;rfl';exact hN _ _ ⟨p4,true,true,false,rfl,n4,g4,rfl,Fo⟩
    |j+4,h=>exact bi h ()
   ·rfl';refine hN _ _ ⟨v,x,y,z,rfl,va,v4,?_,F4⟩;cases h:(x||y||z)with
    |true=>rfl
    |false=>exact bi ((Bc x y z).mpr h) h0
  rintro δ' M3 ⟨v,x,y,z,rfl,va,v1,WL,F3⟩;have p1:=F3.mv _ _ Ol hp;rfl';have W':1<=zs.length:=length_pos_iff.mpr WH;intro e he;generalize hM:ak M3 e _=M4 at*;obtain⟨X,g1⟩:=nw he hM;clear hM;have F4:=F3.x X;have v1:=X _ _ v1;have p1:=X _ _ p1;rfl';rw[B4];refine rT g1 () () λ e2 Jy=>?_;rw[x6];generalize hM:ak M4 e2 _=M5 at*;obtain⟨X,g2⟩:=nw Jy hM;clear hM;have F5:=F4.x X;have v1:=X _ _ v1;have p1:=X _ _ p1;refine jc p1 g2 (small (by rw[B4,j6];lia)) λ e3 ZD=>?_;have n3:=F5.uF ZD;generalize hM:ak M5 e3 _=M6 at*;obtain⟨X,g3⟩:=nw ZD hM;clear hM;have F6:=F5.x X;have v1:=X _ _ v1;have p1:=X _ _ p1;rfl';refine mw (EW () ()) ?_;rw[B4];refine⟨a,cc,_,rfl,F6.dY,(),(),λ m o m0 m1 Ee=>?_⟩;have F7:=F6.pk Ee;have P:=Fl.pick Ee;have v1:=P.mv _ _ va v1;have g3:=P.mv _ _ n3 g3;obtain⟨j,rfl⟩:∃j:Nat,m=(j:Int):=⟨m.toNat,()⟩;obtain⟨w,hw,hwz⟩:∃w,(zs.map D.str++List.replicate zs.length (.str zE))[j]?=some (.str w)/\(w=zE\/w∈zs):=by
   by_cases hj:j<zs.length
   ·exact⟨zs[j],by rw[b9 (by rw[B4];exact hj),w6,c8 hj];rfl,.inr (getElem_mem hj)⟩
   ·exact⟨zE,by rw[b7 (by rw[B4];lia),B4,e9,J6 ()],.inl rfl⟩
  refine ck g3 (cT hw) ?_;clear g3 g2 g1 p1 hw;generalize ak M6 a o=M7 at*;rfl';intro e he;have ne:=F7.uF he;generalize hM:ak M7 e _=M8 at*;obtain⟨X,g1⟩:=nw he hM;clear hM;have F8:=F7.x X;have v1:=X _ _ v1;rfl';refine⟨a,cc,3,rfl,F8.dY,by decide,by decide,λ m2 o2 q0 q1 AO=>?_⟩;have F9:=F8.pk AO;have P:=Fl.pick AO;have v1:=P.mv _ _ va v1;have g1:=P.mv _ _ ne g1;obtain⟨c,hc,h1,h9⟩:∃c:Int,fi [D.int 2,D.int 4,D.int 9] m2=some (.int c)/\1<=c/\c<=9:=by
   obtain⟨j,rfl⟩:∃j:Nat,m2=(j:Int):=⟨m2.toNat,()⟩
   match j,q1 with
   |0,_=>exact⟨2,rfl,by decide,by decide⟩
   |1,_=>exact⟨4,rfl,by decide,by decide⟩
   |2,_=>exact⟨9,rfl,by decide,by decide⟩
   |j+3,h=>exact bi h ()
  refine ck g1 hc ?_;generalize ak M8 a o2=M9 at*;rfl';refine⟨a,cc,c,rfl,F9.dY,(),(),λ m3 o3 r0 r1 vS=>?_⟩;have Fo:=F9.pk vS;have v1:=(Fl.pick vS).mv _ _ va v1;rfl';obtain⟨j3,rfl⟩:∃j:Nat,m3=(j:Int):=⟨m3.toNat,()⟩;refine ao (k ⟨1+j3,x,y,z,w⟩ _ _ ⟨by show 1<=1+j3;lia,by show 1+j3<=9;lia,WL,hwz⟩ ⟨v,?_,va,v1⟩ Fo);rw[Int.natCast_add];rfl
def Sa(F:dh K "_law_rules" "_law_rules" (top 75) f fd)(T:dP K mg)(aW:bb P w K mg base 1 "_law_pick" ["_law_flow_here","_law_many"] pN)(tR:bb P w K mg base 3 "_law_words" ["_law_flow_here","_law_many"] xg)(v_:bb P w K mg base 2 "_law_take" ["_law_flow_here","_law_words_here"] Bx):bg P w K mg base cM 4 f fd ["_law_flow_here","_law_most"] (bD K xh):=by
 refine dU F ["_law_flow_here","_law_most","_law_words_here","_law_rules_here","_law_left","_law_word","_law_most_takes","_law_size"] (λ b_ A outer s H E ds M Q nd hr h=>?_)
 ·obtain⟨a,cc,rfl,hF,k⟩:=h;refine⟨_,(aa (aA 2 (aB tR (cb (aj 0) (aB aW (cb (aj 0) ag)))))
 (aa (aA 3 (a_ bp))
 (aa (aA 4 (aj 1))
 (aa (bo (aM (aj 2)) (aF 5)
 (aa (aA 7 (aQ (Um rfl) T.min (cb (aj 4) (bu bx ag (aB aW (cb (aj 0) (aO aS (a_ (cb ag ag)) (aB aW (cb (aj 0) ag)))))))))
 (aa (aY (aI zD (aj 7) ag)
 (ae (aN (cW e7 c7 c9 bB (aj 3) (br (cz (cb (aj 5) (aj 7)))))))
 aK)
 (ae (aA 4 (bu kz (aj 4) (aj 7)))))))
 (aa (aA 2 (cV (lW [] (aM (aj 3)) bC (aO aS (aj 0) ag))))
 (aa (aA 6 (aO aS (a_ (aZ ag (aZ ag (aZ ag (aZ ag bp))))) (aB aW (cb (aj 0) ag))))
 (ae (aD (cV (lW [0,6,2] (aM (aj 3)) bC (bu bx (aj 0) (cz (br (cV (lW [1,3] (fv T.range (br (aB aW (cb (aj 1) (aj 2))))) bC (aB v_ (cb (aj 1) (aj 2)))))))))))))))))),?_⟩
  rfl';refine⟨a,cc,4,rfl,hF,by decide,by decide,λ m o m0 m1 Vf=>?_⟩;have F1:=Fl.pick Vf;obtain⟨n,rfl⟩:∃j:Nat,m=(j:Int):=⟨m.toNat,()⟩;rfl';refine⟨a,cc,n,rfl,F1.dY,(),λ pw zs M2 WC U7 V5 F2 U1 FD=>?_⟩;have wa:pw≠a:=F1.uF U7;have F2:=F1.trans F2;rfl';intro p hp;have pa:p≠a:=F2.uF hp;have hpM:=F2.free hp;generalize hM:ak M2 p _=M3 at*;obtain⟨X,g1⟩:=nw hp hM;clear hM;have AI:=X _ _ V5;have pwp:pw≠p:=bA V5 hp;have F3:=F2.x X;clear F1 F2 Vf;rfl';refine dA (ds:=zs.map D.str) (λ i δ M'=>∃(v5 v6:Option D)(ps:List (Str×Nat)),δ=GG (some (.ref a)) (some (.int 12)) (some (.ref pw)) (some (.ref p)) (some (.int ((12-(ps.map (·.2)).sum:Nat):Int))) v5 none v6/\M' p=some (.lst (ps.map λ x=>D.tup [.str x.1,.int (x.2:Nat)]))/\M' pw=some (.lst (zs.map D.str))/\(ps.map (·.2)).sum<=12/\(ps.map (·.1)).Sublist (zs.take i)/\(∀x∈ps,1<=x.2/\x.2<=9)/\Fl a cc M M') ⟨none,none,[],rfl,g1,AI,G5 _,by simp,(λ x h=>by cases h),F3⟩ (λ i δ M' _ h=>?_) (jr λ NX i d δ M' df hd h=>?_) (λ δ M' h=>?_)
  ·obtain⟨_,_,_,_,_,h,_⟩:=h;exact h
  ·obtain⟨v5,v6,ps,rfl,g1,AI,Td,mR,dX,F3⟩:=h;rw[w6]at hd;cases e3:zs[i]? with
   |none=>rw[e3]at hd;cases hd
   |some z=>
    rw[e3]at hd;cases hd;rfl';intro e he;have ne:=F3.uF he;generalize hM:ak M' e _=M4 at*;obtain⟨X,g2⟩:=nw he hM;clear hM;have g1:=X _ _ g1;have AI:=X _ _ AI;have F4:=F3.x X;rfl';refine⟨a,cc,2,rfl,F4.dY,by decide,by decide,λ m2 o2 q0 q1 AO=>?_⟩;have F5:=F4.pk AO;have P:=Fl.pick AO;have g1:=P.mv _ _ pa g1;have AI:=P.mv _ _ wa AI;have g2:=P.mv _ _ ne g2;obtain⟨c,hc,h1,h9⟩:∃c:Int,fi [D.int 3,D.int 9] m2=some (.int c)/\1<=c/\c<=9:=by
     obtain⟨j,rfl⟩:∃j:Nat,m2=(j:Int):=⟨m2.toNat,()⟩
     match j,q1 with
     |0,_=>exact⟨3,rfl,by decide,by decide⟩
     |1,_=>exact⟨9,rfl,by decide,by decide⟩
     |j+2,h=>exact bi h ()
    refine ck g2 hc ?_;generalize ak M4 a o2=M5 at*;rfl';refine⟨a,cc,c,rfl,F5.dY,(),(),λ m3 o3 r0 r1 vS=>?_⟩;have F6:=F5.pk vS;have P:=Fl.pick vS;have g1:=P.mv _ _ pa g1;have AI:=P.mv _ _ wa AI;generalize ak M5 a o3=M6 at*;clear P vS AO F5 F4 F3 g2;obtain⟨j3,rfl⟩:∃j:Nat,m3=(j:Int):=⟨m3.toNat,()⟩;rfl';generalize hsz:(ps.map (·.2)).sum=sm at*;obtain⟨sz,esz,nO⟩:∃sz:Nat,(if 1+(j3:Int)<((12-sm:Nat):Int)then 1+(j3:Int)else((12-sm:Nat):Int))=(sz:Int)/\sz<=12-sm/\sz<=9:=by
     split
     ·exact⟨1+j3,(),(),()⟩
     ·exact⟨12-sm,rfl,(),()⟩
    rw[esz];refine bJ (λ h0=>?_) (λ h0=>?_)
    ·rfl';refine⟨⟨rfl,_,g1⟩,?_⟩;rfl';have gS:ps.length<=12:=by
      have:∀ps:List (Str×Nat),(∀x∈ps,1<=x.2/\x.2<=9)->ps.length<=(ps.map (·.2)).sum:=λ ps=>by
       induction ps with
       |nil=>intro _;exact G3 _
       |cons x ps ih=>intro h;have:=ih λ y hy=>h y (j9 _ hy);have:=(h x l9).1;rw[C6,D1,z0];lia
      have:=this ps dX;lia
     refine cx g1 (by rw[B4];exact p8 (show _<=12 by lia) (by decide)) ?_;rfl';refine df _ _ ⟨some (.str z),some (.int (sz:Nat)),ps++[(z,sz)],?_,?_,?_,?_,?_,?_,?_⟩
     ·have:((12-((ps++[(z,sz)]).map (·.2)).sum:Nat):Int)=((12-sm:Nat):Int)-(sz:Int):=by rw[B6,sum_append,hsz];simp;lia
      rw[this];rfl
     ·rw[ai,B6];rfl
     ·rw[aG pwp];exact AI
     ·rw[B6,sum_append,hsz];simp;lia
     ·rw[B6,take_add_one,e3];exact mR.append (List.Sublist.refl _)
     ·intro x hx;rcases B5.mp hx with h|h
      ·exact dX x h
      ·rw[r6.mp h];exact⟨by show 1<=sz;lia,nO.2⟩
     ·exact F6.own hF hpM
    ·rfl';refine df _ _ ⟨some (.str z),some (.int (sz:Nat)),ps,?_,g1,AI,(),?_,dX,F6⟩
     ·have:sz=0:=()
      subst this;have:((12-(ps.map (·.2)).sum:Nat):Int)=((12-sm:Nat):Int)-((0:Nat):Int):=by rw[hsz];lia
      rw[this];rfl
     ·rw[take_add_one];exact mR.trans (sublist_append_left _ _)
  obtain⟨v5,v6,ps,rfl,g1,AI,Td,mR,dX,F3⟩:=h;rw[B4,z9]at mR;have Fz:(ps.map (·.1)).Nodup:=mR.nodup FD;have hpd:∀x∈ps,Wd x.1:=λ x hx=>U1 _ (mR.subset (List.mem_map_of_mem hx));have gS:ps.length<=3:=by have:=mR.length_le;rw[B4]at this;lia
  clear mR FD U1;rfl';refine kh (λ x:Str×Nat=>D.tup [.str x.1,.int (x.2:Nat)]) (λ x=>.str x.1) () g1 (λ i x N hx hN=>?_) ?_
  ·rfl';exact hN
  intro w hw;have wa:w≠a:=F3.uF hw;generalize hM:ak M' w _=M4 at*;obtain⟨X,gw⟩:=nw hw hM;clear hM;have g1:=X _ _ g1;have F4:=F3.x X;rfl';intro e he;have ne:=F4.uF he;generalize hM:ak M4 e _=M5 at*;obtain⟨X,g2⟩:=nw he hM;clear hM;have g1:=X _ _ g1;have gw:=X _ _ gw;have F5:=F4.x X;rfl';refine⟨a,cc,4,rfl,F5.dY,by decide,by decide,λ m2 o2 q0 q1 AO=>?_⟩;have F6:=F5.pk AO;have P:=Fl.pick AO;have g1:=P.mv _ _ pa g1;have gw:=P.mv _ _ wa gw;have g2:=P.mv _ _ ne g2;obtain⟨c,hc,h1,h9⟩:∃c:Int,fi [D.int 4,D.int 4,D.int 4,D.int 8] m2=some (.int c)/\1<=c/\c<=8:=by
   obtain⟨j,rfl⟩:∃j:Nat,m2=(j:Int):=⟨m2.toNat,()⟩
   match j,q1 with
   |0,_=>exact⟨4,rfl,by decide,by decide⟩
   |1,_=>exact⟨4,rfl,by decide,by decide⟩
   |2,_=>exact⟨4,rfl,by decide,by decide⟩
   |3,_=>exact⟨8,rfl,by decide,by decide⟩
   |j+4,h=>exact bi h ()
  refine ck g2 hc ?_;generalize ak M5 a o2=M6 at*;clear P AO F5 F4 F3 g2 X AI V5;rfl';refine uc (β:=D) (λ x:Str×Nat=>D.tup [.str x.1,.int (x.2:Nat)]) id (λ ys M'=>Fl a cc M6 M'/\∃Fv:List Ru,Fv.map (λ r=>(r.w,r.n))=ps.take ys.length/\Paired (FK (·≠a) M') ys Fv/\∀r∈Fv,r.ts.length<=7/\∀t∈r.ts,jC (ps.map (·.1)) t) () ⟨⟨F6.dY,λ _ _ _ e=>e⟩,[],rfl,.nil,λ r h=>by cases h⟩ (λ ys M' h=>h.1.mv _ _ pa g1) (λ i x ys M' N hx hy h hN=>?_) (λ ys M' hy h=>?_)
  ·obtain⟨F7,Fv,e1,e2,e3⟩:=h;have ZN:=F7.mv _ _ wa gw;rfl';refine⟨a,cc,c,rfl,F7.dY,(),(),λ m3 o3 r0 r1 vS=>?_⟩;have F8:=F7.pk vS;have P:=Fl.pick vS;have gw8:=P.mv _ _ wa ZN;have e2:Paired (FK (·≠a) (ak M' a o3)) ys Fv:=L2.Paired.bR e2 λ _ _ y=>FK.mono (λ q o h g=>⟨h,P.mv _ _ h g⟩) y;generalize ak M' a o3=M8 at*;clear P vS F7 ZN;obtain⟨j3,rfl⟩:∃j:Nat,m3=(j:Int):=⟨m3.toNat,()⟩;rfl';refine⟨cX () (),?_⟩;rw[x6];refine fh (λ i dL M'=>Fl a cc M8 M'/\∃ts:List cN,ts.length=i/\Paired (lr (·≠a) M') dL ts/\∀t∈ts,jC (ps.map (·.1)) t) ⟨⟨F8.dY,λ _ _ _ e=>e⟩,[],rfl,.nil,λ t h=>by cases h⟩ (λ i dL M' hi h=>?_) (λ i d dL M' hd h=>?_) (λ dL M' h=>?_)
   ·obtain⟨_,ts,h1,h2,_⟩:=h;rw[bw]at hi;rw[h2.length,h1];exact small ()
   ·obtain⟨F9,ts,t1,t2,t3⟩:=h;rfl';refine⟨a,cc,w,ps.map (·.1),rfl,F9.dY,wa,by rw[D6];exact F9.mv _ _ wa gw8,?_,by rw[B4];exact gS,λ t d M9 tok tm Fo=>?_⟩
    ·intro z;rw[map_eq_nil_iff]at z;subst z;cases hx
    ·exact⟨F9.trans Fo,ts++[t],by rw[n9,t1];rfl,(L2.Paired.bR t2 λ _ _ y=>lr.mono (λ q o h g=>⟨h,Fo.mv _ _ h g⟩) y).snoc tm,λ t' ht=>by
      rcases B5.mp ht with h|h
      ·exact t3 t' h
      ·rw[r6.mp h];exact tok⟩
   ·obtain⟨F9,ts,t1,t2,t3⟩:=h;rw[bw]at t1;intro q hq;have qa:q≠a:=F9.uF hq;generalize hM:ak M' q _=M9 at*;obtain⟨X,gq⟩:=nw hq hM;clear hM;have Fo:=(F8.trans F9).x X;rfl';refine Ci (small (by show 2+1<=10000;decide)) ?_;refine hN _ _ ⟨Fo,Fv++[⟨x.1,x.2,ts⟩],?_,?_,?_⟩
    ·rw[B6,e1,n9,hy];show _=ps.take (i+1);rw[take_one (a:=x) hx];rfl
    ·refine(L2.Paired.bR e2 λ _ _ y=>FK.mono (λ q o h g=>⟨h,X _ _ (F9.mv _ _ h g)⟩) y).snoc ⟨q,dL,rfl,qa,gq,L2.Paired.bR t2 λ _ _ y=>lr.mono (λ q o h g=>⟨h,X _ _ g⟩) y⟩
    ·intro r hr;rcases B5.mp hr with h|h
     ·exact e3 r h
     ·rw[r6.mp h];exact⟨by show ts.length<=7;lia,t3⟩
  ·obtain⟨F7,Fv,e1,e2,e3⟩:=h;rw[hy,z9]at e1;rw[List.map_id];intro q hq;have qa:q≠a:=F7.uF hq;generalize hM:ak M' q _=M9 at*;obtain⟨X,gq⟩:=nw hq hM;clear hM;have ew:cU Fv=ps.map (·.1):=by rw[<- e1,D6];rfl
   have en:Fv.map Ru.n=ps.map (·.2):=by rw[<- e1,D6];rfl
   rfl';refine ao (k q Fv _ ⟨by rw[ew];exact Fz,by rw[en];exact Td,?_,λ r hr=>?_⟩ ⟨ys,qa,gq,L2.Paired.bR e2 λ _ _ y=>FK.mono (λ q o h g=>⟨h,X _ _ g⟩) y⟩ ((F6.trans F7).x X))
   ·have:=J3 List.length e1;rw[B4]at this;lia
   ·have hm:(r.w,r.n)∈ps:=by rw[<- e1];exact List.mem_map_of_mem (f:=λ r:Ru=>(r.w,r.n)) hr
    obtain⟨a1,a2⟩:=dX _ hm;rw[ew];exact⟨hpd _ hm,a1,a2,(e3 r hr).1,(e3 r hr).2⟩
def Gz(r:Ru):List Str:=[cp,r.w,AG,sI (r.n:Nat)]
def uN(t:cN):List Str:=[bH,sI (t.n:Nat)]++t.ws++if t.o=zE then[]else[rq,t.o]
def xS(r:Ru):Str:=Txt.join (one 32) (Gz r)
def NS(t:cN):Str:=Txt.join (one 32) (uN t)
def gO(rs:List Ru):List Str:=rs.flatMap λ r=>xS r::r.ts.map NS
def pM:aU " "=one 32/\aU "\n"=one 10:=by decide+kernel
def jU:∀z∈[zN,z1,z2,zE,rq,cp,AG,bH],z.length<=5/\32∉sg z/\10∉sg z/\PyData.strOk z=true:=by decide+kernel
def mq:∀k:Nat,k<=9->(sI (k:Int)).length=1/\32∉sg (sI (k:Int))/\10∉sg (sI (k:Int))/\PyData.strOk (sI (k:Int))=true:=by decide+kernel
structure PX(z:Str):Prop where
 len:z.length<=6
 Wf:32∉sg z
 Wg:10∉sg z
 ok:PyData.strOk z=true
def iy(h:Wd z):PX z:=by have a:∀c∈sg z,97<=c:=λ c hc=>(h.low c hc).1;exact⟨Nat.le_succ_of_le h.len,λ m=>by have:=a 32 m;lia,λ m=>by have:=a 10 m;lia,Nm.ok (.inl h)⟩
def jj(h:z∈[zN,z1,z2,zE,rq,cp,AG,bH]):PX z:=by obtain⟨a,b,c,d⟩:=jU z h;exact⟨(),b,c,d⟩
def BJ(h:k<=9):PX (sI (k:Int)):=by obtain⟨a,b,c,d⟩:=mq k h;exact⟨(),b,c,d⟩
def Ly{r:Ru}(h:wJ zs r):∀w∈Gz r,PX w:=by
 intro w hw;simp only[Gz,C7,not_mem_nil,or_false]at hw;rcases hw with rfl|rfl|rfl|rfl
 ·exact jj (by simp)
 ·exact iy h.wd
 ·exact jj (by simp)
 ·exact BJ h.hi
def Lx{t:cN}{w:Str}(h:w∈t.ws):w∈[zN,z1,z2]:=by
 unfold cN.ws at h;rcases B5.mp h with h|h
 ·rcases B5.mp h with h|h
  ·split at h
   ·simp[r6.mp h]
   ·cases h
  ·split at h
   ·simp[r6.mp h]
   ·cases h
 ·split at h
  ·simp[r6.mp h]
  ·cases h
def Bi(t:cN):t.ws.length<=3:=Bd t.a t.b t.c
set_option tactic.hygienic true in
def Bj{t:cN}(hz:∀z∈zs,Wd z)(h:jC zs t):∀w∈uN t,PX w:=by
 intro w hw;unfold uN at hw;rcases B5.mp hw with hw|hw
 ·rcases B5.mp hw with hw|hw
  ·simp only[C7,not_mem_nil,or_false]at hw;rcases hw with rfl|rfl
   ·exact jj (by simp)
   ·exact BJ h.hi
  ·refine jj ?_;have:=Lx hw;simp only[C7,not_mem_nil,or_false]at this ⊢;rcases this with h|h|h<;>simp[h]
 ·split at hw
  ·cases hw
  ·rename_i g;simp only[C7,not_mem_nil,or_false]at hw;rcases hw with rfl|rfl
   ·exact jj (by simp)
   ·exact iy (hz _ (h.src.resolve_left g))
def wW(t:cN):(uN t).length<=7:=by have:=Bi t;unfold uN;rw[n9,n9];split<;>simp<;>lia
def S0(a b c d:Str):Txt.join (one 32) [a,b,c,d]=a++one 32++b++one 32++c++one 32++d:=by refine fV ?_;have:=hZ 32 [a,b,c,d];unfold sg at this;rw[this];simp only[jA,C6,map_nil,jn,y0];rfl
def LU{ws:List Str}(h:∀w∈ws,w.length<=n):(ws.map (·.length)).sum<=ws.length*n:=by
 induction ws with
 |nil=>simp
 |cons w ws ih=>have h1:=h w l9;have h2:=ih λ x hx=>h x (j9 _ hx);rw[C6,D1,z0,Nat.succ_mul];lia
def BY{Q:bI}(e:y=one c)(h1:∀w∈ys,w.length<=1000)(h2:ys.length<=100)(q:Q (.str (Txt.join (one c) ys)) M):iN (.str y) (ys.map D.str) M Q:=by
 subst e;show(match eQ (ys.map D.str)with
  |some ys=>(ys.map (·.length)).sum+ys.length*(one c).length<=16777216/\Q (.str (Txt.join (one c) ys)) M
  |none=>False)
 rw[jP];have:=LU h1;have e:(one c).length=1:=rfl;exact⟨by rw[e];lia,q⟩
def rV{Q:bI}(e:y=one c)(h:M a=some (.lst (ys.map D.str)))(h1:∀w∈ys,w.length<=1000)(h2:ys.length<=100)(q:Q (.str (Txt.join (one c) ys)) M):EM (.str y) [.ref a] M Q:=by
 show(match bc M a with
  |some ds=>iN (.str y) ds M Q
  |none=>False)
 unfold bc;rw[h];exact BY e h1 h2 q
def ox{ws:List Str}{Q:bI}(e:y=one c)(hs:Txt.split z (one c)=ws)(h1:z.length<=100000)(h2:ws.length<=1000)(q:∀p,M p=none->Q (.ref p) (ak M p (.lst (ws.map D.str)))):EI (.str z) [.str y] M Q:=by subst e hs;exact⟨_,_,rfl,rfl,(show(1:Nat)≠0 by decide),h1,small (),q⟩
theorem DA{x:Nat}:∀{ws:List (List Nat)},x∈jn c ws->x=c\/∃w∈ws,x∈w
 |[],h=>by cases h
 |[w],h=>.inr ⟨w,by simp,h⟩
 |w::v::ws,h=>by
  have h:x∈w++c::jn c (v::ws):=h;rcases B5.mp h with e|e
  ·exact .inr ⟨w,by simp,e⟩
  ·rcases C7.mp e with e|e
   ·exact .inl e
   ·rcases DA e with e|⟨u,hu,e⟩
    ·exact .inl e
    ·exact .inr ⟨u,by simp[C7.mp hu],e⟩
theorem DB{c:Nat}:∀{ws:List (List Nat)},(∀w∈ws,w.length<=n)->(jn c ws).length<=ws.length*(n+1)
 |[],_=>by simp[jn]
 |[w],h=>by have:=h w (by simp);show w.length<=1*(n+1);lia
 |w::v::ws,h=>by have h1:=h w (by simp);have h2:=DB (c:=c) (ws:=v::ws) λ u hu=>h u (j9 _ hu);show(w++c::jn c (v::ws)).length<=_;rw[n9,z0,z0 (a:=w),Nat.succ_mul];lia
def ya{ws:List Str}(h:∀w∈ws,w.length<=n):(Txt.join (one c) ws).length<=ws.length*(n+1):=by
 rw[<- mm,hZ];have:=DB (c:=c) (n:=n) (ws:=ws.map sg) λ u hu=>by obtain⟨w,hw,rfl⟩:=D5.mp hu;rw[mm];exact h w hw
 rwa [B4]at this
structure wM(ws:List Str):Prop where
 ne:ws≠[]
 qL:ws.length<=7
 V7:∀w∈ws,PX w
def vH{ws:List Str}(h:wM ws):(Txt.join (one 32) ws).length<=49:=by have:=ya (c:=32) (n:=6) (ws:=ws) λ w hw=>(h.V7 w hw).len;have:=h.qL;lia
def SQ{ws:List Str}(h:wM ws):10∉sg (Txt.join (one 32) ws):=λ m=>by
 rw[hZ]at m;rcases DA m with e|⟨w,hw,e⟩
 ·cases e
 ·obtain⟨z,hz,rfl⟩:=D5.mp hw;exact(h.V7 z hz).Wg e
def Dj{ws:List Str}(h:wM ws):Txt.split (Txt.join (one 32) ws) (one 32)=ws:=mj (by decide) h.ne λ w hw=>(h.V7 w hw).Wf
def Dl{r:Ru}(h:wJ zs r):wM (Gz r):=⟨by simp[Gz],by show 4<=7;decide,Ly h⟩
def Dk{t:cN}(hz:∀z∈zs,Wd z)(h:jC zs t):wM (uN t):=⟨by simp[uN],wW t,Bj hz h⟩
def lU{rs:List Ru}(h:cC rs):∀z∈cU rs,Wd z:=λ z hz=>by obtain⟨r,hr,rfl⟩:=D5.mp hz;exact(h.ok r hr).wd
def vG{rs:List Ru}(h:cC rs){l:Str}(hl:l∈gO rs):∃ws,wM ws/\l=Txt.join (one 32) ws:=by
 obtain⟨r,hr,hl⟩:=mem_flatMap.mp hl;rcases C7.mp hl with e|e
 ·exact⟨_,Dl (h.ok r hr),e⟩
 ·obtain⟨t,ht,rfl⟩:=D5.mp e;exact⟨_,Dk (lU h) ((h.ok r hr).ok t ht),rfl⟩
def qj{rs:List Ru}(h:cC rs):(gO rs).length<=24:=by
 have:=dJ (λ r:Ru=>xS r::r.ts.map NS) 8 rs λ r hr=>by have:=(h.ok r hr).qL;rw[z0,B4];lia
 have:=h.qL;unfold gO;lia
def xi:cO:=λ ds M Q=>∃(A:be->Prop)(p:be)(rs:List Ru),ds=[.ref p]/\cC rs/\FL A M p rs/\∀q M',M q=none->jp M M'->M' q=some (.lst ((gO rs).map D.str))->Q (.ref q) M'
theorem Paired.get{β:Type}{F:α->β->Prop}:∀{l:List α} {r:List β},Paired F l r->∀{i:Nat} {a:α},l[i]?=some a->∃b,r[i]?=some b/\F a b
 |_,_,.nil,i,a,h=>by simp at h
 |_,_,.cons h t,0,a,e=>by simp at e;subst e;exact⟨_,rfl,h⟩
 |_,_,.cons h t,i+1,a,e=>by obtain⟨b,e1,e2⟩:=Paired.get t (i:=i) (a:=a) (by simpa using e);exact⟨b,by simpa using e1,e2⟩
def Sk(F:dh K "_law_rule_lines" "_law_rule_lines" (top 79) f fd)(T:dP K mg):bg P w K mg base cM 1 f fd ["_law_rules_here"] (bD K xi):=by
 refine dU F ["_law_rules_here","_law_lines","_law_word","_law_size","_law_takes","_law_many","_law_ways","_law_other"] (λ b_ A outer s H E ds M Q nd hr h=>?_)
 ·obtain⟨A,p,rs,rfl,hR,hM,k⟩:=h;refine⟨_,(aa (aA 1 (a_ bp))
 (aa (bo (aM (aj 0)) (eD (n:=3) (aR (aF 2) (aR (aF 3) (aR (aF 4) dj))))
 (aa (aN (cW e7 c7 c9 bB (aj 1) (br (bu bx (bu bx (bu bx aV (aj 2)) aV) (bS kj T.str (br (aj 3)))))))
 (ae (bo (aM (aj 4)) (eD (n:=3) (aR (aF 5) (aR (aF 6) (aR (aF 7) dj))))
 (ae (aN (cW e7 c7 c9 bB (aj 1) (br (cW PySem.F.plainAttrs_str PySem.F.slot_str_join PySem.F.type_str_join vE aV (br (bu bx (bu bx (a_ (cb aV (bS kj T.str (br (aj 5))))) (aj 6)) (bu fe (a_ (cb aV (aj 7))) (bS wG T.int (br (dw (oA hr.units) (aj 7) aV)))))))))))))))
 (ae (aD (aj 1))))),?_⟩
  obtain⟨ds,_,hp,hd⟩:=hM;rfl';intro q hq;have q1:ak M q (.lst []) q=some (.lst ((gO (rs.take 0)).map D.str)):=ai;have E1:=jp.new jp.rfl hq (.lst []);generalize ak M q (.lst [])=M1 at*;have aal:=hR.qL;rfl';refine bM (E1 _ _ hp) ?_;refine dA (ds:=ds) (λ i δ M'=>∃v2 v3 v4 v5 v6 v7:Option D,δ=GG (some (.ref p)) (some (.ref q)) v2 v3 v4 v5 v6 v7/\M' q=some (.lst ((gO (rs.take i)).map D.str))/\jp M M') ⟨_,_,_,_,_,_,rfl,q1,E1⟩ (λ i δ M' _ h=>?_) (jr λ NX i d δ M' df hd2 h=>?_) (λ δ M' h=>?_)
  ·obtain⟨_,_,_,_,_,_,_,_,h⟩:=h;exact h _ _ hp
  ·obtain⟨v2,v3,v4,v5,v6,v7,rfl,q2,E2⟩:=h;obtain⟨r,hr,qt,td,rfl,_,Oh,K5⟩:=Paired.get hd hd2;have U5:=k4 hr;have ro:=hR.ok r U5;have hw:=iy ro.wd;have hn:=uZ r.n ro.hi;have hll:(gO (rs.take i)).length<=24:=by
    have:=dJ (λ r:Ru=>xS r::r.ts.map NS) 8 (rs.take i) λ r hr=>by have:=(hR.ok r (k8 hr)).qL;rw[z0,B4];lia
    have:(rs.take i).length<=rs.length:=by rw[A3];lia
    unfold gO;lia
   rfl';refine⟨⟨rfl,_,q2⟩,?_⟩;rfl';have S':=hw.len;have l1:(aU "row ").length=4:=by decide+kernel
   have l2:(aU " to ").length=4:=by decide+kernel
   refine dN (small ()) ?_;rfl';refine dN (small (by rw[len_app];lia)) ?_;rfl';refine⟨_,rfl,hn.2,?_⟩;refine dN (small (by rw[len_app,len_app];have:=(mq r.n ro.hi).1;unfold sI at this;lia)) ?_;have eln:aU "row "++r.w++aU " to "++Str.ofString (toString (r.n:Int))=xS r:=by
    unfold xS Gz;rw[S0];refine fV ?_;have a1:(aU "row ").cps.toList=cp.cps.toList++(one 32).cps.toList:=by decide+kernel
    have a2:(aU " to ").cps.toList=(one 32).cps.toList++(AG.cps.toList++(one 32).cps.toList):=by decide+kernel
    simp only[jA,a1,a2,y0];rfl
   rw[eln];rfl';refine cx q2 (by rw[B4];exact p8 (show _<=24 by lia) (by decide)) ?_;have E3:jp M (ak M' q (.lst ((gO (rs.take i)).map D.str++[.str (xS r)]))):=E2.own hq;have q3:ak M' q (.lst ((gO (rs.take i)).map D.str++[.str (xS r)])) q=some (.lst ((gO (rs.take i)++xS r::(r.ts.take 0).map NS).map D.str)):=by rw[ai,B6];rfl
   generalize ak M' q (.lst ((gO (rs.take i)).map D.str++[.str (xS r)]))=M3 at*;have aa4:=E3 _ _ Oh;rfl';refine dA (ds:=td) (λ j δ M'=>∃v5 v6 v7:Option D,δ=GG (some (.ref p)) (some (.ref q)) (some (.str r.w)) (some (.int (r.n:Nat))) (some (.ref qt)) v5 v6 v7/\M' q=some (.lst ((gO (rs.take i)++xS r::(r.ts.take j).map NS).map D.str))/\jp M M') ⟨_,_,_,rfl,q3,E3⟩ (λ j δ M' _ h=>?_) (jr λ NY j d δ M' Tw rD h=>?_) (λ δ M' h=>?_)
   ·obtain⟨_,_,_,_,_,h⟩:=h;exact h _ _ Oh
   ·obtain⟨v5,v6,v7,rfl,q4,E4⟩:=h;obtain⟨t,ht,qw,rfl,_,hqw⟩:=Paired.get K5 rD;have tok:=ro.ok t (k4 ht);have hn:=uZ t.n tok.hi;have Z_:=Bj (lU hR) tok;have S':=Bi t;have g0:=E4 _ _ hqw;rfl';refine⟨⟨rfl,_,q4⟩,?_⟩;rfl';refine⟨rfl,?_⟩;rfl';refine⟨_,rfl,hn.2,?_⟩;rfl';intro p1 FC;generalize hM:ak M' p1 _=M5 at*;obtain⟨X,g1⟩:=nw FC hM;clear hM;have g0:=X _ _ g0;have q5:=X _ _ q4;have E5:=E4.trans X;rfl';refine jc g1 g0 (small (by rw[B4];show 2+_<=_;lia)) λ p2 nF=>?_;generalize hM:ak M5 p2 _=M6 at*;obtain⟨X,g2⟩:=nw nF hM;clear hM;have q6:=X _ _ q5;have E6:=E5.trans X;rfl';intro p3 K7;generalize hM:ak M6 p3 _=M7 at*;obtain⟨X,g3⟩:=nw K7 hM;clear hM;have g2:=X _ _ g2;have q7:=X _ _ q6;have E7:=E6.trans X;rfl';refine ly (k:=0) (b:=decide (t.o=zE)) (iE 0 (by
     rcases tok.src with e|e
     ·rw[e];exact(jU zE (by simp)).2.2.2
     ·exact(iy (lU hR _ e)).ok)) (iE 0 (jU zE (by simp)).2.2.2) (by decide) (by rw[decide_eq_true_iff];exact⟨λ e=>by rw[e];rfl,λ e=>D.str.inj e⟩) ?_
    rfl';have mul:∀(N:bI)(b:Bool),(∀p4,M7 p4=none->N (.ref p4) (ak M7 p4 (.lst (if b then[]else[.str rq,.str t.o]))))->oT (.ref p3) (.int (if !b then 1 else 0)) M7 N:=by
     intro N b h;refine .inr ⟨p3,_,_,rfl,rfl,g3,?_,?_,?_,λ p4 FA=>?_⟩
     ·cases b<;>decide
     ·cases b<;>decide
     ·cases b<;>exact j8 rfl
     ·have:=h p4 FA;cases b<;>exact this
    refine mul _ _ λ p4 FA=>?_;generalize hM:ak M7 p4 _=M8 at*;obtain⟨X,g4⟩:=nw FA hM;clear hM mul;have g2:=X _ _ g2;have q8:=X _ _ q7;have E8:=E7.trans X;refine jc g2 g4 (small (by
     rw[n9,B4];have:(if decide (t.o=zE)=true then([]:List D)else[.str rq,.str t.o]).length<=2:=by split<;>simp
     show 2+_+_<=_;lia)) λ p5 U9=>?_
    generalize hM:ak M8 p5 _=M9 at*;obtain⟨X,g5⟩:=nw U9 hM;clear hM;have q9:=X _ _ q8;have E9:=E8.trans X;rfl';refine rV pM.1 (ys:=uN t) (g5.trans ?_) (λ w hw=>by have:=(Z_ w hw).len;lia) (by have:=wW t;lia) ?_
    ·unfold uN;rw[B6,B6];by_cases e:t.o=zE
     ·rw[B9 e,J6 rfl,J6 e];rfl
     ·rw[A7 e,J7 (by decide),J7 e];rfl
    rfl';have hjl:=ro.qL;refine cx q9 (by
     rw[B4,n9,z0,B4,A3];exact p8 (show _<=100 by lia) (by decide)) ?_
    refine Tw _ _ ⟨_,_,_,rfl,?_,E9.own hq⟩;rw[ai,take_add_one,ht];simp only[B6,C6,y0,cons_append];rfl
   ·obtain⟨v5,v6,v7,rfl,q4,E4⟩:=h;refine df _ _ ⟨_,_,_,_,_,_,rfl,?_,E4⟩;rw[q4,K5.length,z9,take_add_one,hr];unfold gO;rw[flatMap_append];simp
  ·obtain⟨v2,v3,v4,v5,v6,v7,rfl,q2,E2⟩:=h;rw[hd.length,z9]at q2;rfl';exact ao (k q M' hq E2 q2)
def TJ:List Str:=[aU "1",aU "2",aU "3",aU "4",aU "5",aU "6",aU "7",aU "8",aU "9"]
def sQ:Str:=aU "abcdefghijklmnopqrstuvwxyz"
def isLt(c:Nat):Bool:=decide (c∈sQ.cps.toList)
def isWord(z:Str):Bool:=decide (1<=z.length)&&decide (z.length<=5)&&!eZ.contains z&&(z.cps.toList.map isLt).all id
def oI(z:Str):Bool:=TJ.contains z
def isName(z:Str):Bool:=isWord z||(oI (fI z (some (-1)) none)&&isWord (fI z none (some (-1))))
def e_(f:Str->Bool):cO:=λ ds M Q=>∃z,ds=[.str z]/\z.length<=1000/\Q (.bl (f z)) M
def signs_at(h:(dS z)[i]?=some d):∃c,z.cps.toList[i]?=some c/\d=.str ⟨#[c]⟩:=by
 unfold dS at h;rw[w6]at h;cases e:z.cps.toList[i]? with
 |none=>rw[e]at h;cases h
 |some c=>rw[e]at h;exact⟨c,rfl,(B0 h).symm⟩
def Ax(p:Nat->Bool){δc:cH}{Q:bI}(hz:z.length<=1000)(hs:∀c (A:Mem->Prop) (N:D->Mem->Prop),N (.bl (p c)) M->g (.str ⟨#[c]⟩) δc M λ δ2 M2=>rQ δ2 M2 λ b M3=>if b=true then te δ2 M3 N else A M3)(hq:Q (.bl ((z.cps.toList.map p).all id)) M):∃(B:Nat)(W:Nat->List D->Mem->Prop),W 0 [] M/\∀i dL M,W i dL M->i<=B/\dL.length<=sizeLine/\match ii (.fix (dS z)) M with
   |none=>False
   |some ds=>match ds[i]? with
    |none=>i=ds.length/\nB dL M Q
    |some d=>g d δc M λ δ2 M2=>rQ δ2 M2 λ b M3=>if b=true then te δ2 M3 λ y M4=>W (i+1) (dL++[y]) M4 else W (i+1) dL M3:=by
 have hl:(dS z).length=z.cps.toList.length:=by unfold dS;rw[B4]
 have WC:z.cps.toList.length<=1000:=by rw[l6];exact hz
 refine fh (λ i dL M'=>M'=M/\dL=((z.cps.toList.take i).map p).map D.bl) ⟨rfl,by simp⟩ (λ i dL M' hi h=>?_) (λ i d dL M' hd h=>?_) (λ dL M' h=>?_)
 ·obtain⟨_,rfl⟩:=h;rw[B4,B4,A3];exact small ()
 ·obtain⟨rfl,rfl⟩:=h;obtain⟨c,hc,rfl⟩:=signs_at hd;refine hs c (λ M3=>M3=_/\_=_) _ ⟨rfl,?_⟩;rw[take_add_one,hc];simp
 ·obtain⟨rfl,rfl⟩:=h;rw[hl,z9];unfold nB;rw[fM];exact hq
def vq(F:dh K "is_word" "is_word" (top 14) f fd)(T:dP K mg):bg P w K mg base cM 1 f fd ["text"] (bD K (e_ isWord)):=by
 refine dU F ["text"] (λ b_ A outer s H E ds M Q nd hr h=>?_)
 ·obtain⟨z,rfl,hz,k⟩:=h;refine⟨_,(aa (aY (lS (jK (lT kZ kZ ag (aQ fL T.len (br (aj 0))) (gH T.mX))) (ix (aI (kH hr.units) (aj 0) (gH T.JE)))).pt
 (ae (aD kY))
 aK)
 (ae (aD (iA (Fd rfl) pH T.all (lW [] (aM (aj 0)) bC (dw (kH hr.units) (aj 0) (gH T.Aa))))))),?_⟩
  have UZ:z.length<=sizeLine:=small ();symm;refine xr UZ ?_;symm;have no:isWord z=false->fin2 Q (.bl false) M:=λ e=>ao (by rw[e]at k;exact k);refine bJ (λ h1=>?_) (λ h1=>?_)
  ·symm;refine lA (λ h2=>?_) (λ h2=>?_)
   ·symm;refine no ?_;unfold isWord;have:decide (z.length<=5)=false:=A7 ();rw[this,Bool.and_false];rfl
   ·symm;refine jb (cj z eZ) ?_;refine eS (λ h3=>?_) (λ h3=>?_)
    ·symm;refine no ?_;unfold isWord;rw[h3,Bool.not_true,Bool.and_false];rfl
    ·symm;refine Ax isLt hz (λ c A N h=>?_) ?_
     ·symm;rw[StrLaws.found_one];exact h
     ·refine ao ?_;have e:isWord z=(z.cps.toList.map isLt).all id:=by unfold isWord;rw[h3,B9 (show 1<=z.length by lia),B9 (show z.length<=5 by lia)];rfl
      rw[<- e];exact k
  ·symm;refine no ?_;unfold isWord;have:decide (1<=z.length)=false:=A7 ();rw[this];rfl
def pZ(F:dh K "is_figure" "is_figure" (top 15) f fd)(T:dP K mg):bg P w K mg base cM 1 f fd ["text"] (bD K (e_ oI)):=by
 refine dU F ["text"] (λ b_ A outer s H E ds M Q nd hr h=>?_)
 ·obtain⟨z,rfl,hz,k⟩:=h;refine⟨_,(ae (aD (dw (kH hr.units) (aj 0) (gH T.Ab)))),?_⟩;symm;exact jb (cj z TJ) (ao k)
def vt(F:dh K "is_name" "is_name" (top 16) f fd)(T:dP K mg)(eA:bb P w K mg base 1 "is_word" ["text"] (e_ isWord))(dO:bb P w K mg base 1 "is_figure" ["text"] (e_ oI)):bg P w K mg base cM 2 f fd ["text"] (bD K (e_ isName)):=by
 refine dU F ["text"] (λ b_ A outer s H E ds M Q nd hr h=>?_)
 ·obtain⟨z,rfl,hz,k⟩:=h;have UZ:z.length<=sizeLine:=small ();have c1:=yC z (some (-1)) none;have c2:=yC z none (some (-1));refine⟨_,(ae (aD (w_or (aB eA (br (aj 0))) (ik (w_and (aB dO (br (eP ku (aj 0) (ef (rH ko ag)) fT))) (ik (aB eA (br (eP ku (aj 0) fT (ef (rH ko ag))))))))))),?_⟩;symm;refine⟨z,rfl,hz,?_⟩;refine eS (λ h1=>?_) (λ h1=>?_)
  ·refine ao ?_;have e:isName z=true:=by unfold isName;rw[h1];rfl
   rw[<- e];exact k
  ·symm;refine pR UZ ?_;refine⟨_,rfl,(),?_⟩;refine eS (λ h2=>?_) (λ h2=>?_)
   ·symm;refine pR UZ ?_;refine⟨_,rfl,(),ao ?_⟩;have e:isName z=isWord (fI z none (some (-1))):=by unfold isName;rw[h1,h2];rfl
    rw[<- e];exact k
   ·refine ao ?_;have e:isName z=false:=by unfold isName;rw[h1,h2];rfl
    rw[<- e];exact k
def nM:sQ.cps.toList=[97,98,99,100,101,102,103,104,105,106,107,108,109,110,111,112,113,114,115,116,117,118,119,120,121,122]:=by decide+kernel
def jL{w:Str}(hw:Wd w):isWord w=true:=by
 unfold isWord;have h1:eZ.contains w=false:=by simpa using hw.free
 have h2:(w.cps.toList.map isLt).all id=true:=by rw[List.all_eq_true];intro b hb;obtain⟨c,hc,rfl⟩:=D5.mp hb;have:=hw.low c hc;unfold isLt;rw[nM];simp only[id_eq,w9,C7,not_mem_nil,or_false];lia
 rw[h1,h2,B9 hw.pos,B9 hw.len];rfl
def vU:∀k:Nat,k<=9->1<=k->oI (sI (k:Int))=true/\PySem.intText? (sI (k:Int))=some (k:Int):=by decide+kernel
def dR(o:Str):D:=if o=zE then .bh else .str o
def rws(rs:List Ru):List (Ru ⊕ cN):=rs.flatMap λ r=>.inl r::r.ts.map .inr
def UE:Ru ⊕ cN->List Str
 | .inl r=>Gz r| .inr t=>uN t
def lnX(x:Ru ⊕ cN):Str:=Txt.join (one 32) (UE x)
def qi(rs:List Ru):gO rs=(rws rs).map lnX:=by unfold gO rws;rw[map_flatMap];refine J3 (λ f=>List.flatMap f rs) (funext λ r=>?_);rw[C6,D6];rfl
def XZ(zs:List Str):Ru ⊕ cN->Prop
 | .inl r=>wJ zs r| .inr t=>jC zs t
def pP{rs:List Ru}(h:cC rs){x:Ru ⊕ cN}(hx:x∈rws rs):XZ (cU rs) x:=by
 obtain⟨r,hr,hx⟩:=mem_flatMap.mp hx;rcases C7.mp hx with e|e
 ·rw[e];exact h.ok r hr
 ·obtain⟨t,ht,rfl⟩:=D5.mp e;exact(h.ok r hr).ok t ht
def Vy(hz:∀z∈zs,Wd z){x:Ru ⊕ cN}(h:XZ zs x):wM (UE x):=by
 cases x with
 |inl r=>exact Dl h
 |inr t=>exact Dk hz h
def KD{rs:List Ru}{t:cN}:(rws rs)[0]?≠some (.inr t):=by
 cases rs with
 |nil=>simp[rws]
 |cons r rs=>simp[rws]
def Ay(A:be->Prop)(M:Mem)(d:D):Ru ⊕ cN->Prop
 | .inl r=>d=.tup [.str cp,.str r.w,.int (r.n:Nat)]
 | .inr t=>∃q,d=.tup [.str bH,.int (t.n:Nat),.ref q,dR t.o]/\A q/\M q=some (.lst (t.ws.map D.str))
def Ay.mono{A B:be->Prop}(h:∀q o,A q->M q=some o->B q/\M' q=some o){x:Ru ⊕ cN}(y:Ay A M d x):Ay B M' d x:=by
 cases x with
 |inl r=>exact y
 |inr t=>obtain⟨q,h1,h2,h3⟩:=y;exact⟨q,h1,(h q _ h2 h3).1,(h q _ h2 h3).2⟩
def Gx:∀a b c:Bool,Kj.filter (λ z=>decide (z∈wy a b c))=wy a b c:=by decide+kernel
def wV(t:cN):∀e∈t.ws.map D.str,Pl 0 e:=λ e he=>by obtain⟨w,hw,rfl⟩:=D5.mp he;exact iE 0 (Ki t.a t.b t.c w hw)
def Qc{t:cN}(h:(t.a||t.b||t.c)=true):t.ws≠[]:=λ e=>by have:=(Bc t.a t.b t.c).mp e;rw[h]at this;cases this
def tY{lo hi:Option Int}{x:D}(h:x∈cutD ds lo hi):x∈ds:=by unfold cutD at h;exact mem_of_mem_drop (k8 h)
def Kx(n d:Nat):HT.bY (n+2) d (some (-2))=n:=by show(if(-2:Int)<0 then((-2:Int)+((n+2:Nat):Int)).toNat else min (-2:Int).toNat (n+2))=_;rw[J6 (by decide)];lia
def Rb(n d:Nat):HT.bY (n+2) d (some (-1))=n+1:=by show(if(-1:Int)<0 then((-1:Int)+((n+2:Nat):Int)).toNat else min (-1:Int).toNat (n+2))=_;rw[J6 (by decide)];lia
def JS(xs:List D)(y z:D):cutD (xs++[y,z]) (some (-2)) (some (-1))=[y]:=by unfold cutD;rw[n9,show[y,z].length=2 from rfl,Kx,Rb,drop_left,Nat.add_sub_cancel_left];rfl
def OX(xs:List D)(y z:D):cutD (xs++[y,z]) none (some (-2))=xs:=by unfold cutD;rw[n9,show[y,z].length=2 from rfl,Kx,HT.BI,drop_zero,Nat.sub_zero,take_left]
def Uq:∀a b c:Bool,rq∉wy a b c:=by decide+kernel
def QK:cO:=λ ds M Q=>∃(a:be)(r:Ru)(zs:List Str),ds=[.ref a]/\M a=some (.lst ((Gz r).map D.str))/\wJ zs r/\Q (.tup [.str cp,.str r.w,.int (r.n:Nat)]) M
def Qw:cO:=λ ds M Q=>∃(a:be)(t:cN),ds=[.ref a]/\M a=some (.lst (t.ws.map D.str))/\(t.a||t.b||t.c)=true/\∀M',jp M M'->Q (.bl true) M'
def QD:cO:=λ ds M Q=>∃(a:be)(t:cN)(zs:List Str),ds=[.ref a]/\M a=some (.lst ((uN t).map D.str))/\jC zs t/\(∀z∈zs,Wd z)/\∀q M',M q=none->jp M M'->M' q=some (.lst (t.ws.map D.str))->Q (.tup [.str bH,.int (t.n:Nat),.ref q,dR t.o]) M'
def BA:cO:=λ _ _ _=>False
def Qv:cO:=λ ds M Q=>∃(a:be)(x:Ru ⊕ cN)(zs:List Str),ds=[.ref a]/\M a=some (.lst ((UE x).map D.str))/\XZ zs x/\(∀z∈zs,Wd z)/\∀d M',jp M M'->Ay (λ q=>M q=none) M' d x->Q d M'
def QP:cO:=λ ds M Q=>∃(z:Str)(d:D),ds=[.str z,d]/\((z=cp/\d=.bh)\/((z=cp\/z=bH)/\(d=.str cp\/d=.str bH)))/\Q (.bl true) M
def QJ:cO:=λ ds M Q=>∃(rs:List Ru),ds=[.str (Txt.join (one 10) (gO rs))]/\cC rs/\rs≠[]/\∀q es M',jp M M'->M' q=some (.lst es)->Paired (Ay (λ _=>True) M') es (rws rs)->Q (.ref q) M'
def Sh(F:dh K "rule_form" "rule_form" (top 29) f fd)(T:dP K mg)(eA:bb P w K mg base 1 "is_word" ["text"] (e_ isWord))(dO:bb P w K mg base 1 "is_figure" ["text"] (e_ oI)):bg P w K mg base cM 2 f fd ["words"] (bD K QK):=by
 refine dU F ["words"] (λ b_ A outer s H E ds M Q nd hr h=>?_)
 ·obtain⟨a,r,zs,rfl,ha,ro,k⟩:=h;refine⟨_,(aa (aY (dB (aI (bU hr.units) (aQ fL T.len (br (aj 0))) ag) (dB (cJ (aB eA (br (aO aS (aj 0) ag)))) (dB (aI (bU hr.units) (aO aS (aj 0) ag) aV) (dH (cJ (aB dO (br (aO aS (aj 0) ag)))))))).pt
 (ae (aD (cz (GC aV (aO aS (aj 0) ag) (bS Fb T.int (br (aO aS (aj 0) ag)))))))
 aK)
 (ae (aD fw))),?_⟩
  have ha:M a=some (.lst [.str cp,.str r.w,.str AG,.str (sI (r.n:Nat))]):=ha;have hw:=iy ro.wd;have hf:=vU r.n ro.hi ro.lo;have hl:=(mq r.n ro.hi).1;rfl';rw[show decide ((([D.str cp,D.str r.w,D.str AG,D.str (sI (r.n:Nat))]:List D).length:Int)=4)=true from rfl];rfl';refine⟨r.w,rfl,by have:=hw.len;lia,?_⟩;rw[jL ro.wd];rfl';rw[B9 (show AG=aU "to" from rfl)];rfl';refine⟨sI r.n,rfl,(),?_⟩;rw[hf.1];rfl';refine⟨_,_,rfl,hf.2,(),?_⟩;rfl';exact ao k
def R1(F:dh K "is_ways" "is_ways" (top 30) f fd)(T:dP K mg):bg P w K mg base cM 1 f fd ["words"] (bD K Qw):=by
 refine dU F ["words"] (λ b_ A outer s H E ds M Q nd hr h=>?_)
 ·obtain⟨a,t,rfl,ha,hs,k⟩:=h;refine⟨_,(ae (aD (w_and (dw (oA hr.units) (aj 0) (a_ bp)) (ik (dw (bU hr.units) (aj 0) (cV (lW [0] (aM (gH T.OD)) (g_ (aI (kH hr.units) (aj 0) (aj 1))) (aj 0)))))))),?_⟩;rfl';intro e he;generalize hM:ak M e _=M1 at*;obtain⟨X,g1⟩:=nw he hM;clear hM;have FG:=X _ _ ha;refine Hr (k:=0) (b:=false) FG g1 (wV t) (λ d hd=>by cases hd) (by decide) (by
   have:=Qc hs;simp[this]) ?_
  rfl';refine JU (xs:=Kj) (enc:=D.str) (λ z=>decide (z∈t.ws)) D.str (by decide) (λ i z N1 N2 hz h1 h2=>?_) ?_
  ·rfl';refine eT FG (cj z t.ws) ?_;rw[contains_eq_mem];cases e:decide (z∈t.ws)with
   |true=>exact h1 e
   |false=>exact h2 e
  ·rw[Bb,Gx];intro q hq;generalize hM:ak M1 q _=M2 at*;obtain⟨X2,g2⟩:=nw hq hM;refine lB (k:=0) (b:=true) (X2 _ _ FG) g2 (wV t) (wV t) (by decide) ⟨λ _=>rfl,λ _=>rfl⟩ ?_;exact ao (k _ (X.trans X2))
def R9(F:dh K "take_form" "take_form" (top 31) f fd)(T:dP K mg)(Ah:bb P w K mg base 1 "is_ways" ["words"] Qw)(dO:bb P w K mg base 1 "is_figure" ["text"] (e_ oI))(eA:bb P w K mg base 1 "is_word" ["text"] (e_ isWord)):bg P w K mg base cM 2 f fd ["words"] (bD K QD):=by
 refine dU F ["words","ways","source"] (λ b_ A outer s H E ds M Q nd hr h=>?_)
 ·obtain⟨a,t,zs,rfl,ha,tok,hz,k⟩:=h;refine⟨_,(aa (aA 1 (eP ku (aj 0) (ef ag) fT))
 (aa (aA 2 fw)
 (aa (aY (aI (bU hr.units) (eP ku (aj 1) (ef (rH ko ag)) (ef (rH ko ag))) (a_ (br aV)))
 (aa (aA 2 (aO aS (aj 1) (rH ko ag)))
 (ae (aA 1 (eP ku (aj 1) fT (ef (rH ko ag))))))
 aK)
 (aa (aY (dB (cJ (aB Ah (br (aj 1)))) (dB (cJ (aB dO (br (aO aS (aj 0) ag)))) (dH (lS (aI sy (aj 2) fw) (ix (cJ (aB eA (br (aj 2)))))).pt))).pt
 (ae (aD (cz (aZ aV (aZ (bS Fb T.int (br (aO aS (aj 0) ag))) (aZ (aj 1) (aZ (aj 2) bp)))))))
 aK)
 (ae (aD fw)))))),?_⟩
  have hf:=vU t.n tok.hi tok.lo;have hl:=(mq t.n tok.hi).1;have ha:M a=some (.lst (.str bH:: .str (sI (t.n:Nat))::(t.ws++if t.o=zE then[]else[rq,t.o]).map D.str)):=by rw[ha];unfold uN;rw[y0];rfl
  rfl';refine rR ha (by decide) λ q hq=>?_;rw[show((.str bH:: .str (sI (t.n:Nat))::(t.ws++if t.o=zE then[]else[rq,t.o]).map D.str):List D).drop (2:Int).toNat=(t.ws++if t.o=zE then[]else[rq,t.o]).map D.str from rfl];generalize hM:ak M q _=M1 at*;obtain⟨X1,g1⟩:=nw hq hM;clear hM;have FG:=X1 _ _ ha
  with_reducible refine eR ?_
  with_reducible refine BR ?_
  with_reducible refine Cg ?_
  with_reducible refine Rt ?_
  with_reducible refine eR ?_
  have pz:∀z∈[zN,z1,z2,zE,rq,cp,AG,bH],Pl 0 (D.str z):=λ z h=>iE 0 (jU z h).2.2.2;have V8:∀e∈[D.str rq],Pl 0 e:=λ e he=>by rw[r6.mp he];exact pz rq (by simp)
  with_reducible refine fb (λ δ' M'=>∃w,δ'=[some (.ref a),some (.ref w),some (dR t.o)]/\M w=none/\M' w=some (.lst (t.ws.map D.str))/\jp M M') (λ N hN=>?_) ?_
  ·rfl';refine lx g1 λ q2 uI=>?_;by_cases e:t.o=zE
   ·rw[J6 e,A5]at*;generalize hM:ak M1 q2 _=M2 at*;obtain⟨X2,g2⟩:=nw uI hM;clear hM;have g1:=X2 _ _ g1;rfl';intro q3 WZ;generalize hM:ak M2 q3 _=M3 at*;obtain⟨X3,g3⟩:=nw WZ hM;clear hM;refine lB (k:=0) (b:=false) (X3 _ _ g2) g3 (λ x hx=>wV t x (tY hx)) V8 (by decide) ⟨λ z=>by(cases z),λ z=>?_⟩ ?_
    ·exfalso;have:D.str rq∈t.ws.map D.str:=tY (by rw[z];exact r6.mpr rfl);obtain⟨w,hw,ew⟩:=D5.mp this;exact Uq t.a t.b t.c (by rw[<- D.str.inj ew];exact hw)
    rfl';refine hN _ _ ⟨q,?_,hq,X3 _ _ g1,X1.trans (X2.trans X3)⟩;unfold dR;rw[J6 e];rfl
   ·rw[J7 e]at*;rw[B6]at g1 ⊢;rw[show[rq,t.o].map D.str=[.str rq,.str t.o]from rfl]at g1 ⊢;rw[JS];generalize hM:ak M1 q2 _=M2 at*;obtain⟨X2,g2⟩:=nw uI hM;clear hM;have g1:=X2 _ _ g1;rfl';intro q3 WZ;generalize hM:ak M2 q3 _=M3 at*;obtain⟨X3,g3⟩:=nw WZ hM;clear hM;have g1:=X3 _ _ g1;refine lB (k:=0) (b:=true) (X3 _ _ g2) g3 V8 V8 (by decide) ⟨λ _=>rfl,λ _=>rfl⟩ ?_;rfl';refine ck g1 (d:=.str t.o) (by rw[show t.ws.map D.str++[.str rq,.str t.o]=(t.ws.map D.str++[.str rq])++[.str t.o] by rw[y0];rfl];exact uq _ _) ?_;rfl';refine lx g1 λ q4 Zs=>?_;rw[OX];generalize hM:ak M3 q4 _=M4 at*;obtain⟨X4,g4⟩:=nw Zs hM;clear hM;rfl';refine hN _ _ ⟨q4,?_,jp.free (X1.trans (X2.trans X3)) Zs,g4,X1.trans (X2.trans (X3.trans X4))⟩;unfold dR;rw[J7 e];rfl
  rintro δ' M2 ⟨w,rfl,wn,gw,X2⟩;have PJ:=X2 _ _ ha;rfl';refine⟨w,t,rfl,gw,tok.some,λ M3 X3=>?_⟩;have Xv:=X3 _ _ PJ;rfl';refine ck Xv (d:=.str (sI (t.n:Nat))) (cT (j:=1) rfl) ?_;rfl';refine⟨sI t.n,rfl,(),?_⟩;rw[hf.1];rfl';by_cases e:t.o=zE
  ·rw[show dR t.o=.bh by unfold dR;rw[J6 e]];refine ja ?_;rfl';refine ck Xv (d:=.str (sI (t.n:Nat))) (cT (j:=1) rfl) ?_;rfl';refine⟨_,_,rfl,hf.2,(),?_⟩;rfl';have:=k w M3 wn (X2.trans X3) (X3 _ _ gw);rw[show dR t.o=.bh by unfold dR;rw[J6 e]]at this;exact ao this
  ·rw[show dR t.o=.str t.o by unfold dR;rw[J7 e]];have wo:=hz _ (tok.src.resolve_left e);refine gb (by simp[md]) ?_;rfl';refine⟨t.o,rfl,by have:=wo.len;lia,?_⟩;rw[jL wo];rfl';refine ck Xv (d:=.str (sI (t.n:Nat))) (cT (j:=1) rfl) ?_;rfl';refine⟨_,_,rfl,hf.2,(),?_⟩;rfl';have:=k w M3 wn (X2.trans X3) (X3 _ _ gw);rw[show dR t.o=.str t.o by unfold dR;rw[J7 e]]at this;exact ao this
def Si(F:dh K "heap_form" "heap_form" (top 33) f fd)(T:dP K mg):bg P w K mg base cM 1 f fd ["words"] (bD K BA):=by
 refine dU F ["words","options"] (len:=λ ds M Q h=>?_) (hbody:=λ b_ A outer s H E ds M Q nd hr h=>?_)
 ·cases h
 ·cases h
def R0(F:dh K "row_form" "row_form" (top 34) f fd)(T:dP K mg)(tN:bb P w K mg base 2 "rule_form" ["words"] QK)(tM:bb P w K mg base 2 "take_form" ["words"] QD)(tT:bb P w K mg base 1 "heap_form" ["words"] BA):bg P w K mg base cM 3 f fd ["words"] (bD K Qv):=by
 refine dU F ["words"] (λ b_ A outer s H E ds M Q nd hr h=>?_)
 ·obtain⟨a,x,zs,rfl,ha,Qb,hz,k⟩:=h;refine⟨_,(aa (aY (aI (bU hr.units) (aO aS (aj 0) ag) aV)
 (ae (aD (aB tN (br (aj 0)))))
 aK)
 (aa (aY (aI (bU hr.units) (aO aS (aj 0) ag) aV)
 (ae (aD (aB tM (br (aj 0)))))
 aK)
 (aa (aY (aI (bU hr.units) (aO aS (aj 0) ag) aV)
 (ae (aD (aB tT (br (aj 0)))))
 aK)
 (ae (aD fw))))),?_⟩
  cases x with
  |inl r=>have ha:M a=some (.lst [.str cp,.str r.w,.str AG,.str (sI (r.n:Nat))]):=ha;rfl';rw[B9 (show cp=aU "row" from rfl)];rfl';exact⟨a,r,zs,rfl,ha,Qb,ao (k _ M jp.rfl rfl)⟩
  |inr t=>
   have h0:fi ((uN t).map D.str) 0=some (.str bH):=by refine cT (j:=0) ?_;unfold uN;rw[y0];rfl
   have ha:M a=some (.lst ((uN t).map D.str)):=ha;rfl';refine ck ha h0 ?_;rfl';rw[A7 (show ¬bH=aU "row" by decide+kernel)];rfl';refine ck ha h0 ?_;rfl';rw[B9 (show bH=aU "take" from rfl)];rfl';refine⟨a,t,zs,rfl,ha,Qb,hz,λ q M' hn X hq=>ao (k _ M' X ⟨q,rfl,hn,hq⟩)⟩
def Sj(F:dh K "may_stand" "may_stand" (top 35) f fd)(T:dP K mg):bg P w K mg base cM 1 f fd ["sort","ahead"] (bD K QP):=by
 refine dU F ["sort","ahead"] (λ b_ A outer s H E ds M Q nd hr h=>?_)
 ·obtain⟨z,d,rfl,hd,k⟩:=h;refine⟨_,(aa (aY (aI (bU hr.units) (aj 0) aV)
 (ae (aD (dw (oA hr.units) (aj 1) aV)))
 aK)
 (aa (aY (aI (bU hr.units) (aj 0) aV)
 (ae (aD (dw (kH hr.units) (aj 1) (cz (cb aV aV)))))
 aK)
 (ae (aD kY)))),?_⟩
  rfl';have pz:∀z∈[zN,z1,z2,zE,rq,cp,AG,bH],Pl 0 (D.str z):=λ z h=>iE 0 (jU z h).2.2.2;have ph:Pl 0 (D.str (aU "heap")):=iE 0 (by decide+kernel);by_cases e:z=cp
  ·rw[B9 (show z=aU "row" from e)];rfl';have hd:d=.bh\/d=.str cp\/d=.str bH:=hd.elim (λ h=>.inl h.2) λ h=>.inr h.2;rcases hd with rfl|rfl|rfl
   ·exact ly (k:=0) (b:=false) (MP 0) ph (by decide) ⟨λ z=>by(cases z),λ z=>by(cases z)⟩ (ao k)
   ·exact ly (k:=0) (b:=false) (pz cp (by simp)) ph (by decide) ⟨λ z=>by(cases z),λ z=>bi (D.str.inj z) (by decide+kernel)⟩ (ao k)
   ·exact ly (k:=0) (b:=false) (pz bH (by simp)) ph (by decide) ⟨λ z=>by(cases z),λ z=>bi (D.str.inj z) (by decide+kernel)⟩ (ao k)
  ·obtain⟨zz,hd2⟩:=hd.resolve_left λ h=>e h.1;clear hd;obtain rfl:=zz.resolve_left e;rw[A7 (show ¬bH=aU "row" from e)];rfl';rw[B9 (show bH=aU "take" from rfl)];rfl';rcases hd2 with rfl|rfl
   ·exact jb (cj cp [cp,bH]) (by rw[show[cp,bH].contains cp=true by decide+kernel];exact ao k)
   ·exact jb (cj bH [cp,bH]) (by rw[show[cp,bH].contains bH=true by decide+kernel];exact ao k)
def Se(F:dh K "rows_of" "rows_of" (top 36) f fd)(T:dP K mg)(vZ:bb P w K mg base 3 "row_form" ["words"] Qv)(tO:bb P w K mg base 1 "may_stand" ["sort","ahead"] QP):bg P w K mg base cM 4 f fd ["text"] (bD K QJ):=by
 refine dU F ["text","rows","ahead","number","line","row"] (λ b_ A outer s H E ds M Q nd hr h=>?_)
 ·obtain⟨rs,rfl,hR,fg,k⟩:=h;refine⟨_,(aa (aA 1 (a_ bp))
 (aa (aA 2 fw)
 (aa (bo (pB T.enumerate (br (cW PySem.F.plainAttrs_str PySem.F.slot_str_split PySem.F.type_str_split m_split (aj 0) (br aV)))) (eD (n:=2) (aR (aF 3) (aR (aF 4) dj)))
 (aa (aA 5 (aB vZ (br (cW PySem.F.plainAttrs_str PySem.F.slot_str_split PySem.F.type_str_split m_split (aj 4) (br aV)))))
 (aa (aY (lS (aI sy (aj 5) fw) (ix (jK (cJ (aB tO (cb (aO aS (aj 5) ag) (aj 2))))))).pt
 cv
 aK)
 (aa (aN (cW e7 c7 c9 bB (aj 1) (br (aj 5))))
 (ae (aA 2 (aO aS (aj 5) ag)))))))
 (ae (aD (aj 1)))))),?_⟩
  have DS:Txt.split (Txt.join (one 10) (gO rs)) (one 10)=gO rs:=mj (by decide) (λ e=>by
   cases rs with
   |nil=>exact fg rfl
   |cons r rs=>simp[gO]at e) λ w hw=>by obtain⟨ws,h,rfl⟩:=vG hR hw;exact SQ h
  have hll:=qj hR;have htl:(Txt.join (one 10) (gO rs)).length<=10000:=by
   have:=ya (c:=10) (n:=49) (ws:=gO rs) λ w hw=>by obtain⟨ws,h,rfl⟩:=vG hR hw;exact vH h
   lia
  generalize Txt.join (one 10) (gO rs)=tx at*;rfl';intro q hq;have q1:ak M q (.lst []) q=some (.lst []):=ai;have X1:=jp.new jp.rfl hq (.lst []);generalize ak M q (.lst [])=M1 at*;rfl';refine⟨rfl,?_⟩;rfl';refine ox pM.2 DS () () λ p hp=>?_;have pq:p≠q:=(bA q1 hp).symm;generalize hM:ak M1 p _=M2 at*;obtain⟨X2,p2⟩:=nw hp hM;clear hM;have q2:=X2 _ _ q1;have E2:=X1.trans X2;rfl';have el:(rws rs).length=(gO rs).length:=by rw[qi,B4]
  refine vT (ds:=dZ ((gO rs).map D.str)) (λ i δ M'=>∃(v3 v4 v5:Option D)(es:List D)(ah:D),δ=Qg (some (.str tx)) (some (.ref q)) (some ah) v3 v4 v5/\M' q=some (.lst es)/\M' p=some (.lst ((gO rs).map D.str))/\Paired (Ay (·≠q) M') es ((rws rs).take i)/\jp M M'/\((i=0/\ah=.bh)\/(ah=.str cp\/ah=.str bH))) ⟨none,none,none,[],.bh,rfl,q2,p2,.nil,E2,.inl ⟨rfl,rfl⟩⟩ (λ i δ M' _ h=>?_) (jr λ NX i d δ M' df hd h=>?_) (λ δ M' h=>?_)
  ·obtain⟨_,_,_,_,_,_,_,h,_⟩:=h;exact oQ h
  ·obtain⟨v3,v4,v5,es,ah,rfl,q3,p3,pe,E3,ZI⟩:=h;rw[gW,w6,getElem?_zipIdx,qi,w6]at hd;cases e3:(rws rs)[i]? with
   |none=>rw[e3]at hd;cases hd
   |some x=>
    rw[e3]at hd;cases hd;have Qb:=pP hR (k4 e3);have Wj:=Vy (lU hR) Qb;have l1:=vH Wj;have l2:=Wj.qL;have ZC:es.length<=24:=by have:=pe.length;rw[A3]at this;lia
    rw[D8];rfl';refine⟨rfl,?_⟩;dsimp only;rfl';refine ox pM.1 (Dj Wj) (show(Txt.join (one 32) (UE x)).length<=100000 by lia) () λ p4 FA=>?_;generalize hM:ak M' p4 _=M4 at*;obtain⟨X4,g4⟩:=nw FA hM;clear hM;rfl';refine⟨p4,x,cU rs,rfl,g4,Qb,lU hR,λ d M5 X5 hd=>?_⟩;have q4:=X4 _ _ q3;have X:=X4.trans X5;have q5:=X _ _ q3;have E5:=E3.trans X;obtain⟨z,ys,rfl,hz,WH⟩:∃z ys,d=.tup (.str z::ys)/\(z=cp\/z=bH)/\(i=0->z=cp):=by
     cases x with
     |inl r=>exact⟨_,_,hd,.inl rfl,λ _=>rfl⟩
     |inr t=>obtain⟨_,h,_,_⟩:=hd;exact⟨_,_,h,.inr rfl,λ h0=>by subst h0;exact bi e3 KD⟩
    have h0:fi (.str z::ys) 0=some (D.str z):=cT (j:=0) rfl;rfl';refine gb (by simp[md]) ?_;rfl';refine cL h0 ?_;rfl';refine⟨z,ah,rfl,?_,?_⟩
    ·rcases ZI with⟨i0,rfl⟩|h
     ·exact .inl ⟨WH i0,rfl⟩
     ·exact .inr ⟨hz,h⟩
    rfl';refine⟨⟨rfl,_,q5⟩,?_⟩;rfl';refine cx q5 (p8 (show _<=24 by lia) (by decide)) ?_;rfl';refine cL h0 ?_;rfl';have Eq:∀b o,b≠q->M5 b=some o->ak M5 q (.lst (es++[.tup (.str z::ys)])) b=some o:=λ b o n e=>by rw[aG n];exact e
    refine df _ _ ⟨_,_,_,es++[.tup (.str z::ys)],.str z,rfl,ai,Eq _ _ pq (X _ _ p3),?_,E5.own hq,.inr (hz.imp (J3 _) (J3 _))⟩;rw[take_one (a:=x) e3];exact(L2.Paired.bR pe λ _ _ y=>y.mono λ w o n h=>⟨n,Eq _ _ n (X _ _ h)⟩).snoc (hd.mono λ w o n h=>⟨(bA q4 n).symm,Eq _ _ (bA q4 n).symm h⟩)
  ·obtain⟨v3,v4,v5,es,ah,rfl,q3,p3,pe,E3,ZI⟩:=h;rw[gW,B4,length_zipIdx,<- el,z9]at pe;rfl';exact ao (k q es _ E3 q3 (L2.Paired.bR pe λ _ _ y=>y.mono λ _ _ _ h=>⟨trivial,h⟩))
def Le(pre:List (Ru×List cN)):Ru ⊕ cN->List (Ru×List cN)
 | .inl r=>pre++[(r,[])]
 | .inr t=>match pre.getLast? with
  |some (r,ts)=>pre.dropLast++[(r,ts++[t])]
  |none=>[]
def Ld(dL:List (Ru×List cN))(r:Ru)(ts:List cN)(t:cN):Le (dL++[(r,ts)]) (.inr t)=dL++[(r,ts++[t])]:=by unfold Le;simp
theorem Ef(dL:List (Ru×List cN))(r:Ru):∀(us ts:List cN),(us.map Sum.inr).foldl Le (dL++[(r,ts)])=dL++[(r,ts++us)]
 |[],ts=>by simp
 |u::us,ts=>by rw[C6,foldl_cons,Ld,Ef dL r us (ts++[u]),y0];rfl
theorem tu:∀(rs:List Ru)(dL:List (Ru×List cN)),(rws rs).foldl Le dL=dL++rs.map λ r=>(r,r.ts)
 |[],dL=>by simp[rws]
 |r::rs,dL=>by
  have e:rws (r::rs)=.inl r::(r.ts.map .inr++rws rs):=by simp[rws]
  rw[e,foldl_cons,foldl_append];show(rws rs).foldl Le ((r.ts.map Sum.inr).foldl Le (dL++[(r,[])]))=_;rw[Ef,nil_append,tu rs,y0];rfl
def Lf(rs:List Ru)(i:Nat):List (Ru×List cN):=((rws rs).take i).foldl Le []
def Eg{rs:List Ru}{x:Ru ⊕ cN}(h:(rws rs)[i]?=some x):Lf rs (i+1)=Le (Lf rs i) x:=by unfold Lf;rw[take_one (a:=x) h,foldl_append];rfl
def JC(rs:List Ru):Lf rs (rws rs).length=rs.map λ r=>(r,r.ts):=by unfold Lf;rw[z9,tu,nil_append]
abbrev PT(A:be->Prop)(M0 M:Mem)(d:D)(x:Ru×List cN):Prop:=∃q iD,d=.tup [.str x.1.w,.int (x.1.n:Nat),.ref q]/\A q/\M q=some (.lst iD)/\Paired (Ay (λ _=>True) M0) iD (x.2.map .inr)
abbrev Ke(M:Mem)(d:D)(r:Ru):Prop:=PT (λ _=>True) M M d (r,r.ts)
theorem PT.mono{A B:be->Prop}{M0:Mem}(e:jp M0 M1)(h:∀q o,A q->M q=some o->B q/\M' q=some o){x:Ru×List cN}(y:PT A M0 M d x):PT B M1 M' d x:=by obtain⟨q,td,e1,a,m,p⟩:=y;exact⟨q,td,e1,(h q _ a m).1,(h q _ a m).2,L2.Paired.bR p λ _ _ z=>z.mono λ _ _ _ g=>⟨trivial,e _ _ g⟩⟩
def Ke.ext(e:jp M M'){r:Ru}(h:Ke M d r):Ke M' d r:=PT.mono e (λ _ _ _ g=>⟨trivial,e _ _ g⟩) h
theorem Paired.Rk{β γ:Type}{F:α->β->Prop}(f:γ->β):∀{l:List α} {r:List γ},Paired F l (r.map f)->Paired (λ a c=>F a (f c)) l r
 |[],[],_=>.nil
 |[],_::_,h=>by cases h
 |_::_,[],h=>by cases h
 |_::_,_::_,h=>by
  cases h with
  |cons a b=>exact .cons a (Paired.Rk f b)
def nJ(rs:List Ru):List (D×D):=rs.map λ r=>(D.str r.w,D.int (r.n:Nat))
def pK{rs:List Ru}(hz:z∈cU rs):cA (nJ rs) (.str z)=some (.int (fA rs z:Nat)):=by
 unfold cA nJ fA
 induction rs with
 |nil=>cases hz
 |cons r rs ih=>
  rw[C6,A6,A6];by_cases e:r.w=z
  ·subst e;simp
  ·have n2:decide (D.str r.w=D.str z)=false:=A7 λ q=>e (D.str.inj q);rw[A7 e];show Option.map _ (match decide (D.str r.w=D.str z)with|true=>some _|false=>_)=_;rw[n2];exact ih ((C7.mp hz).resolve_left (J4 e))
def Bo{rs:List Ru}{v:D}(hz:z∉cU rs):putD (nJ rs) (.str z) v=nJ rs++[(.str z,v)]:=by
 unfold putD;have:cA (nJ rs) (.str z)=none:=by unfold cA nJ;rw[Option.map_eq_none_iff,find?_eq_none];intro x hx;obtain⟨r,hr,rfl⟩:=D5.mp hx;simp only[w9];exact λ q=>hz (by rw[<- D.str.inj q];exact List.mem_map_of_mem hr)
 rw[this,J7 (by simp)]
def GN{rs:List Ru}(eG:(cU rs).Nodup){r:Ru}(h:rs[i]?=some r):r.w∉cU (rs.take i):=λ m=>by
 obtain⟨x,hx,e⟩:=D5.mp m;obtain⟨j,hj,ej⟩:=mem_take_iff_getElem.mp hx;have a1:(rs.map Ru.w)[j]?=some x.w:=by rw[w6,c8 (),ej];rfl
 have a2:(rs.map Ru.w)[i]?=some r.w:=by rw[w6,h];rfl
 have:=(getElem?_inj (c5.mp a1).1 eG).mp (a1.trans ((J3 some e).trans a2.symm));lia
def By:cO:=λ ds M Q=>∃(a:be)(es:List D)(rs:List Ru),ds=[.ref a]/\M a=some (.lst es)/\cC rs/\Paired (Ay (λ _=>True) M) es (rws rs)/\∀p ps M',jp M M'->M' p=some (.lst ps)->Paired (Ke M') ps rs->Q (.ref p) M'
def LX:cO:=λ ds M Q=>∃(a:be)(ps:List D)(rs:List Ru),ds=[.ref a]/\M a=some (.lst ps)/\cC rs/\Paired (Ke M) ps rs/\∀p M',jp M M'->M' p=some (.du false (nJ rs))->Q (.ref p) M'
def ze:cO:=λ ds M Q=>∃(z:Str)(k:Nat),ds=[.str z,.int (k:Nat)]/\z.length<=100/\k<=9/\Q (.str (nm z k)) M
def Kr:cO:=λ ds M Q=>∃(z:Str)(n:Nat),ds=[.str z,.int (n:Nat)]/\z.length<=100/\n<=9/\∀p,M p=none->Q (.ref p) (ak M p (.lst (((List.range n).map λ j=>nm z (j+1)).map D.str)))
def yl{rs:List Ru}(h:cC rs):(rws rs).length<=24:=by have:=qj h;rw[qi,B4]at this;exact this
def Nv(F:dh K "rules_of" "rules_of" (top 38) f fd)(T:dP K mg):bg P w K mg base cM 1 f fd ["rows"] (bD K By):=by
 refine dU F ["rows","rules","row"] (λ b_ A outer s H E ds M Q nd hr h=>?_)
 ·obtain⟨a,es,rs,rfl,ha,hR,nG,k⟩:=h;refine⟨_,(aa (aA 1 (a_ bp))
 (aa (bo (aM (aj 0)) (aF 2)
 (ae (aY (aI (bU hr.units) (aO aS (aj 2) ag) aV)
 (ae (aN (cW e7 c7 c9 bB (aj 1) (br (cz (GC (aO aS (aj 2) ag) (aO aS (aj 2) ag) (a_ bp)))))))
 (ae (aY (aI (bU hr.units) (aO aS (aj 2) ag) aV)
 (ae (aN (cW e7 c7 c9 bB (aO aS (aO aS (aj 1) (rH ko ag)) ag) (br (aj 2)))))
 aK)))))
 (ae (aD (aj 1))))),?_⟩
  have jX:=yl hR;rfl';intro p hp;have p1:ak M p (.lst []) p=some (.lst []):=ai;have X1:=jp.new jp.rfl hp (.lst []);generalize ak M p (.lst [])=M1 at*;rfl';refine bM (X1 _ _ ha) ?_;refine dA (ds:=es) (λ i δ M'=>∃(v2:Option D)(ps:List D),δ=[some (.ref a),some (.ref p),v2]/\M' p=some (.lst ps)/\jp M M'/\ps.length<=i/\
   ((i=0/\ps=[]/\Lf rs i=[])\/∃dL r ts MM ql iD,Lf rs i=dL++[(r,ts)]/\ps=MM++[.tup [.str r.w,.int (r.n:Nat),.ref ql]]/\ql≠p/\M ql=none/\M' ql=some (.lst iD)/\iD.length<=i/\Paired (Ay (λ _=>True) M) iD (ts.map .inr)/\Paired (PT (λ q=>q≠p/\q≠ql) M M') MM dL)) ⟨none,[],rfl,p1,X1,G3 _,.inl ⟨rfl,rfl,rfl⟩⟩ (λ i δ M' _ h=>?_) (jr λ NX i d δ M' df hd h=>?_) (λ δ M' h=>?_)
  ·obtain⟨_,_,_,_,h,_⟩:=h;exact h _ _ ha
  ·obtain⟨v2,ps,rfl,p2,E2,gS,rA⟩:=h;obtain⟨x,e3,hx⟩:=Paired.get nG hd;have hi:i<=24:=by have:=(c5.mp e3).1;lia
   have Li:=Eg e3;cases x with
   |inl r=>
    obtain rfl:d=.tup [.str cp,.str r.w,.int (r.n:Nat)]:=hx;rfl';rw[B9 (show cp=aU "row" from rfl)];rfl';refine⟨⟨rfl,_,p2⟩,?_⟩;rfl';intro q hq;have qp:q≠p:=(bA p2 hq).symm;have hqM:=jp.free E2 hq;generalize hM:ak M' q _=M3 at*;obtain⟨X3,q3⟩:=nw hq hM;clear hM;have p3:=X3 _ _ p2;have E3:=E2.trans X3;rfl';refine cx p3 (p8 (show _<=24 by lia) (by decide)) ?_;have Ep:∀b o,b≠p->M3 b=some o->ak M3 p (.lst (ps++[.tup [.str r.w,.int (r.n:Nat),.ref q]])) b=some o:=λ b o n e=>by rw[aG n];exact e
    refine df _ _ ⟨_,_,rfl,ai,E3.own hp,by rw[n9];exact Nat.succ_le_succ gS,.inr ⟨Lf rs i,r,[],ps,q,[],by rw[Li];rfl,rfl,qp,hqM,Ep _ _ qp q3,G5 _,.nil,?_⟩⟩;rcases rA with⟨_,h1,h2⟩|⟨dL,r0,ts,MM,ql,iD,h1,h2,h3,h4,h5,h6,h7,h8⟩
    ·rw[h1,h2];exact .nil
    ·subst h2;rw[h1];have a:∀{q'},M' q'≠none->q'≠q:=λ{q'} n e=>by rw[e]at n;exact n hq
     refine(L2.Paired.bR (G:=PT (λ q'=>q'≠p/\q'≠q) M (ak M3 p (.lst (MM++[.tup [.str r0.w,.int (r0.n:Nat),.ref ql]]++[.tup [.str r.w,.int (r.n:Nat),.ref q]])))) h8 λ _ _ y=>PT.mono jp.rfl (λ q' o n g=>⟨⟨n.1,a (by rw[g];exact λ z=>by cases z)⟩,Ep _ _ n.1 (X3 _ _ g)⟩) y).snoc (a:=.tup [.str r0.w,.int (r0.n:Nat),.ref ql]) (b:=(r0,ts)) ⟨ql,iD,rfl,⟨h3,a (by rw[h5];exact λ z=>by cases z)⟩,Ep _ _ h3 (X3 _ _ h5),h7⟩
   |inr t=>
    obtain⟨w,rfl,hw⟩:=hx;have i0:i≠0:=λ z=>by subst z;exact bi e3 KD
    obtain⟨dL,r0,ts,MM,ql,iD,h1,h2,h3,h4,h5,h6,h7,h8⟩:=rA.resolve_left λ h=>i0 h.1;rfl';rw[A7 (show ¬bH=aU "row" by decide+kernel)];rfl';rw[B9 (show bH=aU "take" from rfl)];rfl';subst h2;refine ck p2 (uq _ _) ?_;rfl';refine⟨⟨rfl,_,h5⟩,?_⟩;rfl';refine cx h5 (p8 (show _<=24 by lia) (by decide)) ?_;refine df _ _ ⟨_,_,rfl,by rw[aG h3.symm];exact p2,E2.own h4,(),.inr ⟨dL,r0,ts++[t],MM,ql,_,by rw[Li,h1,Ld],rfl,h3,h4,ai,by rw[n9];exact Nat.succ_le_succ h6,?_,?_⟩⟩
    ·rw[B6];exact h7.snoc ⟨w,rfl,trivial,hw.2⟩
    ·exact L2.Paired.bR h8 λ _ _ y=>PT.mono jp.rfl (λ q' o n g=>⟨n,by rw[aG n.2];exact g⟩) y
  ·obtain⟨v2,ps,rfl,p2,E2,gS,rA⟩:=h;rw[nG.length,JC]at rA;rfl';refine ao (k p ps M' E2 p2 ?_);rcases rA with⟨_,h1,h2⟩|⟨dL,r0,ts,MM,ql,iD,h1,h2,h3,h4,h5,h6,h7,h8⟩
   ·rw[map_eq_nil_iff]at h2;rw[h1,h2];exact .nil
   ·refine Paired.Rk (λ r:Ru=>(r,r.ts)) ?_;rw[h1,h2];exact(L2.Paired.bR h8 λ _ _ y=>PT.mono E2 (λ q' o n g=>⟨trivial,g⟩) y).snoc ⟨ql,iD,rfl,trivial,h5,L2.Paired.bR h7 λ _ _ z=>z.mono λ _ _ _ g=>⟨trivial,E2 _ _ g⟩⟩
abbrev Yi(M:Mem)(d:D)(x:Ru×Nat):Prop:=∃dr,d=.tup [dr,.int (x.2:Nat)]/\Ke M dr x.1
def UJ(x:Str×Int):D:=.tup [.str x.1,.int x.2]
abbrev Az(A:be->Prop)(M:Mem)(d:D)(ts:List (Str×Int)):Prop:=∃q,d=.ref q/\A q/\M q=some (.lst (ts.map UJ))
def Az.mono{A B:be->Prop}(h:∀q o,A q->M q=some o->B q/\M' q=some o)(y:Az A M d ts):Az B M' d ts:=by obtain⟨q,e,a,m⟩:=y;exact⟨q,e,(h q _ a m).1,(h q _ a m).2⟩
def IP(M:Mem)(q:be):Prop:=M q=none
def LY:cO:=λ ds M Q=>∃(a:be)(ps:List D)(rs:List Ru),ds=[.ref a]/\M a=some (.lst ps)/\cC rs/\Paired (Ke M) ps rs/\∀p hs M',jp M M'->M' p=some (.lst hs)->Paired (Yi M) hs (dX rs)->Q (.ref p) M'
def RY(z:Str)(m s:Nat):List (List (Str×Int)):=((List.range (m/2)).filter λ j=>decide (m-(j+1)<=s)).map λ j=>[(nm z (j+1),1),(nm z (m-(j+1)),1)]
def Q3:cO:=λ ds M Q=>∃(z:Str)(l:Int)(s:Nat),ds=[.str z,.int l,.int (s:Nat)]/\z.length<=100/\l<=9/\-9<=l/\∀q es M',M q=none->jp M M'->M' q=some (.lst es)->Paired (Az (IP M) M') es (RY z l.toNat s)->Q (.ref q) M'
def Q4:cO:=λ ds M Q=>∃(d:D)(t:cN)(z:Str)(k:Nat)(p:be)(rs:List Ru),ds=[d,.str z,.int (k:Nat),.ref p]/\Ay (λ _=>True) M d (.inr t)/\z.length<=100/\1<=k/\k<=9/\1<=t.n/\t.n<=9/\M p=some (.du false (nJ rs))/\so z t∈cU rs/\(so z t).length<=100/\∀q es M',M q=none->jp M M'->M' q=some (.lst es)->Paired (Az (IP M) M') es (Fx (fA rs (so z t)) (so z t) k t)->Q (.ref q) M'
def QH:cO:=λ ds M Q=>∃(d:D)(x:Ru×Nat)(p:be)(rs:List Ru),ds=[d,.int (x.2:Nat),.ref p]/\Ke M d x.1/\cC rs/\x∈dX rs/\M p=some (.du false (nJ rs))/\∀q es M',M q=none->jp M M'->M' q=some (.lst es)->Paired (Az (IP M) M') es (Io rs x)->Q (.ref q) M'
theorem Paired.app{β:Type}{F:α->β->Prop}:∀{l1 l2:List α} {r1 r2:List β},Paired F l1 r1->Paired F l2 r2->Paired F (l1++l2) (r1++r2)
 |_,_,_,_,.nil,h=>h
 |_,_,_,_,.cons a b,h=>.cons a (Paired.app b h)
def Iz(z:Str){s:Nat}(h:m<=9):(RY z m s).length<=4:=by unfold RY;rw[B4];refine D7 (length_filter_le _ _) ?_;rw[y3];lia
def IY{b:Int}:∀{ns:List Int},0<=b->(∀x∈ns,x<=b)->k_ 0 ns<=b:=λ{ns} hb h=>by
 cases ns with
 |nil=>exact hb
 |cons n ns=>
  rcases(foldl_max ns n).2.2 with e|e
  ·show ns.foldl max n<=b;rw[e];exact h n (l9 ..)
  ·exact h _ (j9 _ e)
def xO{x:Int}(h:x∈ns):x<=k_ 0 ns:=by
 cases ns with
 |nil=>cases h
 |cons n ns=>
  show x<=ns.foldl max n;rcases C7.mp h with rfl|h
  ·exact(foldl_max ns x).1
  ·exact(foldl_max ns n).2.1 x h
theorem qf{a b:Nat}(h:a<=b):∀rs:List Ru,(rs.map λ r=>min r.n a).sum<=(rs.map λ r=>min r.n b).sum
 |[]=>G3 _
 |r::rs=>by have:=qf h rs;rw[C6,C6,D1,D1];lia
def xQ{rs:List Ru}{j:Nat}{r:Ru}(h:rs[j]?=some r):lvl (rs.take (j+1)) k=lvl (rs.take j) k++if k<=r.n then[(r,k)]else[]:=by
 rw[take_one (a:=r) h];unfold lvl;rw[u3,B6,filter_cons];by_cases e:k<=r.n
 ·rw[J6 (B9 e),J6 e];rfl
 ·rw[J7 (by simp[e]),J7 e];rfl
def K0:∀a b c:Bool,(wy a b c).contains zN=a/\(wy a b c).contains z1=b/\(wy a b c).contains z2=c:=by decide+kernel
def zB(n:Nat)(t:cN):List (List (Str×Int)):=if t.a&&decide (n=t.n)then[[]]else[]
def CM(s:Nat)(z:Str)(n:Nat)(t:cN):List (List (Str×Int)):=if t.b&&decide (t.n<n/\n-t.n<=s)then[[(nm z (n-t.n),1)]]else[]
def Pq(s:Nat)(z:Str)(n:Nat)(t:cN):List (List (Str×Int)):=if t.c then RY z (n-t.n) s else[]
def Nr(s:Nat)(z:Str)(n:Nat)(t:cN):Fx s z n t=zB n t++CM s z n t++Pq s z n t:=rfl
def R_(F:dh K "sizes_of" "sizes_of" (top 39) f fd)(T:dP K mg):bg P w K mg base cM 1 f fd ["rules"] (bD K LX):=by
 refine dU F ["rules","sizes","rule"] (λ b_ A outer s H E ds M Q nd hr h=>?_)
 ·obtain⟨a,ps,rs,rfl,ha,hR,rB,k⟩:=h;refine⟨_,(aa (aA 1 (iB false))
 (aa (bo (aM (aj 0)) (aF 2)
 (ae (dC (aO (cG hr.units) (aj 2) ag) (dQ (aj 1) (aO (cG hr.units) (aj 2) ag) (mn hr.units)))))
 (ae (aD (aj 1))))),?_⟩
  have jX:=hR.qL;rfl';intro p hp;have p1:ak M p (.du false []) p=some (.du false (nJ (rs.take 0))):=ai;have X1:=jp.new jp.rfl hp (.du false []);generalize ak M p (.du false [])=M1 at*;rfl';refine bM (X1 _ _ ha) ?_;refine dA (ds:=ps) (λ i δ M'=>∃(v2:Option D),δ=[some (.ref a),some (.ref p),v2]/\M' p=some (.du false (nJ (rs.take i)))/\jp M M') ⟨none,rfl,p1,X1⟩ (λ i δ M' _ h=>?_) (jr λ NX i d δ M' df hd h=>?_) (λ δ M' h=>?_)
  ·obtain⟨_,_,_,h⟩:=h;exact h _ _ ha
  ·obtain⟨v2,rfl,p2,E2⟩:=h;obtain⟨r,e3,q,iD,rfl,_⟩:=Paired.get rB hd;rfl';refine cm ?_;rfl';refine cm ?_;rfl';have hz:r.w∉cU (rs.take i):=GN hR.nd e3;refine i' p2 ⟨.inr _,rfl⟩ (by unfold nJ;rw[B4,A3];exact p8 (show _<=3 by lia) (by decide)) ?_;rw[Bo hz];refine df _ _ ⟨_,rfl,?_,E2.own hp⟩;rw[ai,take_one (a:=r) e3];unfold nJ;rw[B6];rfl
  ·obtain⟨v2,rfl,p2,E2⟩:=h;rw[rB.length,z9]at p2;rfl';exact ao (k p M' E2 p2)
def So(F:dh K "heap_name" "heap_name" (top 40) f fd)(T:dP K mg):bg P w K mg base cM 1 f fd ["word","number"] (bD K ze):=by
 refine dU F ["word","number"] (λ b_ A outer s H E ds M Q nd hr h=>?_)
 ·obtain⟨z,n,rfl,hz,hn,k⟩:=h;refine⟨_,(ae (aD (GD (aj 0) (aj 1)))),?_⟩;have h9:=uZ n hn;have hl:=(mq n hn).1;rfl';refine⟨z,rfl,(),?_⟩;rfl';refine⟨_,rfl,h9.2,?_,?_⟩
  ·unfold sI at hl;lia
  ·exact ao k
def NF(F:dh K "heap_names" "heap_names" (top 41) f fd)(T:dP K mg)(bO:bb P w K mg base 1 "heap_name" ["word","number"] ze):bg P w K mg base cM 2 f fd ["word","size"] (bD K Kr):=by
 refine dU F ["word","size"] (λ b_ A outer s H E ds M Q nd hr h=>?_)
 ·obtain⟨z,n,rfl,hz,hn,k⟩:=h;refine⟨_,(ae (aD (cV (lW [0] (fu T.range (cb ag (bu bx (aj 1) ag))) bC (aB bO (cb (aj 1) (aj 0))))))),?_⟩;rfl';refine⟨cX () (),cX () (),?_⟩;rw[show((n:Int)+1-1).toNat=n by lia];refine fh (λ i dL M'=>M'=M/\dL=((List.range i).map λ j=>nm z (j+1)).map D.str) ⟨rfl,rfl⟩ (λ i dL M' hi h=>?_) (λ i d dL M' hd h=>?_) (λ dL M' h=>?_)
  ·obtain⟨_,rfl⟩:=h;rw[bw]at hi;rw[B4,B4,y3];exact small ()
  ·obtain⟨rfl,rfl⟩:=h;obtain⟨hi,rfl⟩:=cZ hd;rfl';refine⟨z,1+i,rfl,hz,(),rfl,?_⟩;rw[range_succ,B6,B6,Nat.add_comm 1 i];rfl
  ·obtain⟨rfl,rfl⟩:=h;rw[bw];intro p hp;exact ao (k p hp)
def Sg(F:dh K "rule_heaps" "rule_heaps" (top 42) f fd)(T:dP K mg):bg P w K mg base cM 1 f fd ["rules"] (bD K LY):=by
 refine dU F ["rules","heaps","number"] (λ b_ A outer s H E ds M Q nd hr h=>?_)
 ·obtain⟨a,ps,rs,rfl,ha,hR,rB,k⟩:=h;refine⟨_,(aa (aA 1 (a_ bp))
 (aa (bo (fu T.range (cb ag (bu bx (LA rfl (by rfl) T.max (lW [] (aM (aj 0)) bC (aO aS (aj 0) ag))) ag))) (aF 2)
 (ae (aN (cW e7 PySem.F.slot_list_extend PySem.F.type_list_extend fF (aj 1) (br (cV (lW [2] (aM (aj 0)) (g_ (aI kZ (aj 1) (aO aS (aj 0) ag))) (cz (cb (aj 0) (aj 1))))))))))
 (ae (aD (aj 1))))),?_⟩
  have jX:=hR.qL;have gS:=rB.length;rfl';intro p hp;have p1:ak M p (.lst []) p=some (.lst []):=ai;have X1:=jp.new jp.rfl hp (.lst []);generalize ak M p (.lst [])=M1 at*;have FG:=X1 _ _ ha;rfl';refine eX (ds:=ps) (λ i dL M'=>M'=M1/\dL=((rs.take i).map λ r=>(r.n:Int)).map D.int) ⟨rfl,rfl⟩ (λ i dL M' hi h=>by rw[h.1];exact FG) (λ i dL M' hi h=>?_) (λ i d dL M' hd h=>?_) (λ dL M' h=>?_)
  ·obtain⟨_,rfl⟩:=h;rw[B4,B4,A3];exact small ()
  ·obtain⟨rfl,rfl⟩:=h;obtain⟨r,e3,q,iD,rfl,_⟩:=Paired.get rB hd;rfl';refine⟨rfl,?_⟩;rw[take_one (a:=r) e3,B6,B6];rfl
  obtain⟨rfl,rfl⟩:=h;rw[gS,z9];refine⟨_,rfl,?_⟩;obtain⟨m,em,hm,jG⟩:∃m:Nat,k_ 0 (rs.map λ r=>(r.n:Int))=(m:Int)/\m<=9/\∀r∈rs,r.n<=m:=by
   have h9:k_ 0 (rs.map λ r=>(r.n:Int))<=9:=IY (by decide) λ x hx=>by obtain⟨r,hr,rfl⟩:=D5.mp hx;have:=(hR.ok r hr).hi;lia
   have h0:0<=k_ 0 (rs.map λ r=>(r.n:Int)):=by
    cases rs with
    |nil=>exact Int.le_refl 0
    |cons r rs=>exact Int.le_trans (Int.natCast_nonneg r.n) (xO (List.mem_map_of_mem (f:=λ r:Ru=>(r.n:Int)) l9))
   refine⟨(k_ 0 (rs.map λ r=>(r.n:Int))).toNat,(),(),λ r hr=>?_⟩;have:=xO (List.mem_map_of_mem (f:=λ r:Ru=>(r.n:Int)) hr);lia
  rw[em];rfl';refine⟨cX () (),cX () (),?_⟩;rw[show((m:Int)+1-1).toNat=m by lia];refine gU (λ i δ M'=>∃(v2:Option D)(hs:List D),δ=[some (.ref a),some (.ref p),v2]/\M' p=some (.lst hs)/\jp M M'/\Paired (Yi M) hs (cP rs i)) ⟨none,[],rfl,p1,X1,.nil⟩ (jr λ NX i d δ M' df hd h=>?_) (λ δ M' h=>?_)
  ·obtain⟨v2,hs,rfl,p2,E2,pe⟩:=h;obtain⟨hi,rfl⟩:=cZ hd;have PJ:=E2 _ _ ha;have Jq:hs.length<=12:=by
    have h1:=pe.length;have h2:dX rs=cP rs 9:=rfl;have h3:(cP rs i).length<=(cP rs 9).length:=by rw[fG,fG];exact qf () rs
    have h4:(cP rs 9).length<=12:=eV hR;lia
   rfl';refine⟨⟨rfl,_,p2⟩,?_⟩;rfl';refine eX (ds:=ps) (λ j dL M4=>M4=M'/\Paired (Yi M) dL (lvl (rs.take j) (i+1))) ⟨rfl,.nil⟩ (λ j dL M4 hj h=>by rw[h.1];exact PJ) (λ j dL M4 hj h=>?_) (λ j d dL M4 hd h=>?_) (λ dL M4 h=>?_)
   ·obtain⟨_,h⟩:=h;rw[h.length];unfold lvl;rw[B4];have:=length_filter_le (λ r:Ru=>decide (i+1<=r.n)) (rs.take j);rw[A3]at this;exact small ()
   ·obtain⟨rfl,h⟩:=h;obtain⟨r,e3,q,iD,rfl,hq⟩:=Paired.get rB hd;rfl';rw[xQ e3];refine bJ (λ h0=>?_) (λ h0=>?_)
    ·rfl';refine⟨rfl,?_⟩;have h0:1+(i:Int)<=(r.n:Nat):=h0;rw[J6 ()];refine h.snoc ⟨_,?_,q,iD,rfl,hq⟩;rw[show((i+1:Nat):Int)=1+(i:Int) by lia]
    ·have h0:¬1+(i:Int)<=(r.n:Nat):=h0;rw[J7 (),A5];exact⟨rfl,h⟩
   ·obtain⟨rfl,h⟩:=h;rw[gS,z9]at h;intro q hq;have qp:q≠p:=(bA p2 hq).symm;generalize hM:ak M4 q _=M5 at*;obtain⟨X5,q5⟩:=nw hq hM;clear hM;have Xs:dL.length<=3:=by rw[h.length];unfold lvl;rw[B4];exact D7 (length_filter_le _ _) jX
    rfl';refine jS (X5 _ _ p2) q5 (small ()) ?_;refine df _ _ ⟨_,_,rfl,ai,(E2.trans X5).own hp,?_⟩;rw[eJ];exact Paired.app pe h
  ·obtain⟨v2,hs,rfl,p2,E2,pe⟩:=h;rw[bw]at pe;rfl';refine ao (k p hs M' E2 p2 ?_);unfold dX;rw[vN jG hm];exact pe
def Sv(F:dh K "by_two" "by_two" (top 43) f fd)(T:dP K mg)(bO:bb P w K mg base 1 "heap_name" ["word","number"] ze):bg P w K mg base cM 2 f fd ["word","left","size"] (bD K Q3):=by
 refine dU F ["word","left","size","pairs","lesser"] (λ b_ A outer s H E ds M Q nd hr h=>?_)
 ·obtain⟨z,l,sz,rfl,hz,hl,Zz,k⟩:=h;refine⟨_,(aa (aA 3 (a_ bp))
 (aa (bo (fu T.range (cb ag (bu bx (bu mD (aj 1) ag) ag))) (aF 4)
 (ae (aY (aI kZ (bu kz (aj 1) (aj 4)) (aj 2))
 (ae (aN (cW e7 c7 c9 bB (aj 3) (br (a_ (cb (cz (cb (aB bO (cb (aj 0) (aj 4))) ag)) (cz (cb (aB bO (cb (aj 0) (bu kz (aj 1) (aj 4)))) ag))))))))
 aK)))
 (ae (aD (aj 3))))),?_⟩
  rfl';intro q hq;have q1:ak M q (.lst []) q=some (.lst []):=ai;have X1:=jp.new jp.rfl hq (.lst []);generalize ak M q (.lst [])=M1 at*;rfl';refine⟨cX () (),cX () (),?_⟩;rw[show(l/2+1-1).toNat=l.toNat/2 by lia];generalize em:l.toNat=m at*;refine gU (λ i δ M'=>∃(v4:Option D)(es:List D),δ=Qh (some (.str z)) (some (.int l)) (some (.int (sz:Nat))) (some (.ref q)) v4/\M' q=some (.lst es)/\jp M M'/\Paired (Az (λ w=>M w=none/\w≠q) M') es (((List.range i).filter λ j=>decide (m-(j+1)<=sz)).map λ j=>[(nm z (j+1),1),(nm z (m-(j+1)),1)])) ⟨none,[],rfl,q1,X1,.nil⟩ (jr λ NX i d δ M' df hd h=>?_) (λ δ M' h=>?_)
  ·obtain⟨v4,es,rfl,q2,E2,pe⟩:=h;obtain⟨hi,rfl⟩:=cZ hd;have ZC:es.length<=9:=by rw[pe.length,B4];have:=length_filter_le (λ j=>decide (m-(j+1)<=sz)) (List.range i);rw[y3]at this;lia
   rfl';have el:l-(1+(i:Int))=((m-(i+1):Nat):Int):=()
   have ZQ:(((List.range (i+1)).filter λ j=>decide (m-(j+1)<=sz)).map λ j=>[(nm z (j+1),(1:Int)),(nm z (m-(j+1)),1)])=(((List.range i).filter λ j=>decide (m-(j+1)<=sz)).map λ j=>[(nm z (j+1),1),(nm z (m-(j+1)),1)])++if m-(i+1)<=sz then[[(nm z (i+1),1),(nm z (m-(i+1)),1)]]else[]:=by
    rw[range_succ,u3,B6,filter_cons];by_cases e:m-(i+1)<=sz
    ·rw[J6 (B9 e),J6 e];rfl
    ·rw[J7 (by simp[e]),J7 e];rfl
   rw[ZQ]at df;rw[el];clear ZQ;refine bJ (λ h0=>?_) (λ h0=>?_)
   ·rw[J6 ()]at df;rfl';refine⟨⟨rfl,_,q2⟩,?_⟩;rfl';refine⟨z,i+1,by rw[show((i+1:Nat):Int)=1+(i:Int) by lia],hz,(),?_⟩;rfl';rw[el];refine⟨z,m-(i+1),rfl,hz,(),?_⟩;rfl';intro w hw;have wq:w≠q:=(bA q2 hw).symm;generalize hM:ak M' w _=M3 at*;obtain⟨X3,w3⟩:=nw hw hM;clear hM;have q3:=X3 _ _ q2;rfl';refine cx q3 (p8 (show _<=9 by lia) (by decide)) ?_;have Ep:∀b o,b≠q->M3 b=some o->ak M3 q (.lst (es++[.ref w])) b=some o:=λ b o n e=>by rw[aG n];exact e
    exact df _ _ ⟨_,_,rfl,ai,(E2.trans X3).own hq,(L2.Paired.bR pe λ _ _ y=>y.mono λ _ _ n g=>⟨n,Ep _ _ n.2 (X3 _ _ g)⟩).snoc ⟨w,rfl,⟨jp.free E2 hw,wq⟩,Ep _ _ wq w3⟩⟩
   ·rw[J7 (),A5]at df;rfl';exact df _ _ ⟨_,_,rfl,q2,E2,pe⟩
  ·obtain⟨v4,es,rfl,q2,E2,pe⟩:=h;rw[bw]at pe;rfl';exact ao (k q es M' hq E2 q2 (L2.Paired.bR pe λ _ _ y=>y.mono λ _ _ n g=>⟨n.1,g⟩))
def Sw(F:dh K "by_take" "by_take" (top 44) f fd)(T:dP K mg)(bO:bb P w K mg base 1 "heap_name" ["word","number"] ze)(EH:bb P w K mg base 2 "by_two" ["word","left","size"] Q3):bg P w K mg base cM 3 f fd ["take","word","number","sizes"] (bD K Q4):=by
 refine dU F ["take","word","number","sizes","ways","source","left","options"] (λ b_ A outer s H E ds M Q nd hr h=>?_)
 ·obtain⟨d,t,z,n,p,rs,rfl,⟨w,rfl,_,hw⟩,hz,Zy,hn9,Tc,ht9,hp,Jp,Jq,k⟩:=h;refine⟨_,(aa (aA 4 (aO (cG hr.units) (aj 0) ag))
 (aa (aA 5 (Vz (aI sy (aO (cG hr.units) (aj 0) ag) fw) (aj 1) (aO (cG hr.units) (aj 0) ag)))
 (aa (aA 6 (bu kz (aj 2) (aO (cG hr.units) (aj 0) ag)))
 (aa (aA 7 (a_ bp))
 (aa (aY (dB (aI (kG hr.units) aV (aj 4)) (dH (aI (bU hr.units) (aj 6) ag))).pt
 (ae (aN (cW e7 c7 c9 bB (aj 7) (br (a_ bp)))))
 aK)
 (aa (aY (dB (aI (kG hr.units) aV (aj 4)) (dH (lT kZ kZ ag (aj 6) (aO (cG hr.units) (aj 3) (aj 5))))).pt
 (ae (aN (cW e7 c7 c9 bB (aj 7) (br (a_ (br (cz (cb (aB bO (cb (aj 5) (aj 6))) ag))))))))
 aK)
 (aa (aY (aI (kG hr.units) aV (aj 4))
 (ae (aN (cW e7 PySem.F.slot_list_extend PySem.F.type_list_extend fF (aj 7) (br (aB EH (GC (aj 5) (aj 6) (aO (cG hr.units) (aj 3) (aj 5))))))))
 aK)
 (ae (aD (aj 7)))))))))),?_⟩
  rfl';refine cm (cL rfl ?_)
  with_reducible refine eR ?_
  with_reducible refine fb (λ δ' M'=>M'=M/\δ'=GG (some (.tup [.str bH,.int (t.n:Nat),.ref w,dR t.o])) (some (.str z)) (some (.int (n:Nat))) (some (.ref p)) (some (.ref w)) (some (.str (so z t))) none none) (λ N hN=>?_) ?_
  ·rfl';refine cm (cL rfl ?_);by_cases e:t.o=zE
   ·rw[show dR t.o=.bh by unfold dR;rw[J6 e]]at hN ⊢;rfl';refine ja ?_;rfl';refine hN _ _ ⟨rfl,?_⟩;unfold so;rw[J6 e];rfl
   ·rw[show dR t.o=.str t.o by unfold dR;rw[J7 e]]at hN ⊢;rfl';refine gb (by simp[md]) ?_;rfl';refine cm (cL rfl ?_);rfl';refine hN _ _ ⟨rfl,?_⟩;unfold so;rw[J7 e];rfl
  rintro δ' M1 ⟨rfl,rfl⟩;have PC:=pK Jp;generalize fA rs (so z t)=sz at*;generalize so z t=zo at*;rfl';refine cm (cL rfl ?_);rfl';intro q hq;have q1:ak M1 q (.lst []) q=some (.lst []):=ai;have X1:=jp.new jp.rfl hq (.lst []);generalize ak M1 q (.lst [])=M2 at*;have gF:=K0 t.a t.b t.c;rw[<- Bb]at gF
  with_reducible refine eR ?_
  with_reducible refine fb (λ δ' M'=>δ'=GG (some (.tup [.str bH,.int (t.n:Nat),.ref w,dR t.o])) (some (.str z)) (some (.int (n:Nat))) (some (.ref p)) (some (.ref w)) (some (.str zo)) (some (.int ((n:Int)-(t.n:Nat)))) (some (.ref q))/\∃es,M' q=some (.lst es)/\jp M1 M'/\Paired (Az (λ a=>M1 a=none/\a≠q) M') es (zB n t)) (λ N hN=>?_) ?_
  ·rfl';refine .inl (eT (X1 _ _ hw) (cj zN t.ws) ?_);rw[gF.1];cases ea:t.a with
   |false=>rfl';exact hN _ _ ⟨rfl,[],q1,X1,by rw[show zB n t=[] by unfold zB;rw[ea];rfl];exact .nil⟩
   |true=>
    rfl';refine bJ (λ h0=>?_) (λ h0=>?_)
    ·rfl';refine⟨⟨rfl,_,q1⟩,?_⟩;rfl';intro e he;have eq:e≠q:=(bA q1 he).symm;generalize hM:ak M2 e _=M4 at*;obtain⟨X4,e4⟩:=nw he hM;clear hM;rfl';refine cx (X4 _ _ q1) (by decide) ?_;refine hN _ _ ⟨rfl,[.ref e],ai,(X1.trans X4).own hq,?_⟩;rw[show zB n t=[[]] by unfold zB;rw[ea,B9 ()];rfl];exact .cons ⟨e,rfl,⟨jp.free X1 he,eq⟩,by rw[aG eq];exact e4⟩ .nil
    ·rfl';exact hN _ _ ⟨rfl,[],q1,X1,by rw[show zB n t=[] by unfold zB;rw[ea,A7 ()];rfl];exact .nil⟩
  rintro δ' M3 ⟨rfl,es,q3,X3,pe⟩;have MT:es.length<=1:=by rw[pe.length];unfold zB;split<;>exact j8 rfl
  clear X1 q1
  with_reducible refine fb (λ δ' M'=>δ'=GG (some (.tup [.str bH,.int (t.n:Nat),.ref w,dR t.o])) (some (.str z)) (some (.int (n:Nat))) (some (.ref p)) (some (.ref w)) (some (.str zo)) (some (.int ((n:Int)-(t.n:Nat)))) (some (.ref q))/\∃es,M' q=some (.lst es)/\jp M1 M'/\Paired (Az (λ a=>M1 a=none/\a≠q) M') es (zB n t++CM sz zo n t)) (λ N hN=>?_) ?_
  ·rfl';refine .inl (eT (X3 _ _ hw) (cj z1 t.ws) ?_);rw[gF.2.1];cases eb:t.b with
   |false=>rfl';exact hN _ _ ⟨rfl,es,q3,X3,by rw[show CM sz zo n t=[] by unfold CM;rw[eb];rfl,A5];exact pe⟩
   |true=>
    have no:¬(t.n<n/\n-t.n<=sz)->N (GG (some (.tup [.str bH,.int (t.n:Nat),.ref w,dR t.o])) (some (.str z)) (some (.int (n:Nat))) (some (.ref p)) (some (.ref w)) (some (.str zo)) (some (.int ((n:Int)-(t.n:Nat)))) (some (.ref q))) M3:=λ h=>
     hN _ _ ⟨rfl,es,q3,X3,by rw[show CM sz zo n t=[] by unfold CM;rw[eb,A7 h];rfl,A5];exact pe⟩
    rfl';refine bJ (λ h0=>?_) (λ h0=>?_)
    ·rfl';refine jR (X3 _ _ hp) ⟨.inr _,rfl⟩ PC ?_;rfl';refine bJ (λ h1=>?_) (λ h1=>?_)
     ·rfl';refine⟨⟨rfl,_,q3⟩,?_⟩;rfl';have el:(n:Int)-(t.n:Nat)=((n-t.n:Nat):Int):=()
      refine⟨zo,n-t.n,by rw[el],Jq,(),?_⟩;rfl';intro e he;have eq:e≠q:=(bA q3 he).symm;generalize hM:ak M3 e _=M4 at*;obtain⟨X4,e4⟩:=nw he hM;clear hM;rfl';refine cx (X4 _ _ q3) (p8 MT (by decide)) ?_;have Ep:∀b o,b≠q->M4 b=some o->ak M4 q (.lst (es++[.ref e])) b=some o:=λ b o n e=>by rw[aG n];exact e
      refine hN _ _ ⟨rfl,es++[.ref e],ai,(X3.trans X4).own hq,?_⟩;rw[show CM sz zo n t=[[(nm zo (n-t.n),1)]] by unfold CM;rw[eb,B9 ()];rfl];exact(L2.Paired.bR pe λ _ _ y=>y.mono λ _ _ n g=>⟨n,Ep _ _ n.2 (X4 _ _ g)⟩).snoc ⟨e,rfl,⟨jp.free X3 he,eq⟩,Ep _ _ eq e4⟩
     ·rfl';exact no ()
    ·rfl';exact no ()
  clear X3 pe MT q3;rintro δ' M4 ⟨rfl,es,q3,X3,pe⟩;have MT:es.length<=2:=by
   rw[pe.length,n9];have:(zB n t).length<=1:=by unfold zB;split<;>exact j8 rfl
   have:(CM sz zo n t).length<=1:=by unfold CM;split<;>exact j8 rfl
   lia
  have fin:∀(es:List D)(M':Mem),M' q=some (.lst es)->jp M1 M'->Paired (Az (λ a=>M1 a=none/\a≠q) M') es (zB n t++CM sz zo n t++Pq sz zo n t)->fin2 Q (.ref q) M':=λ es M' h1 h2 h3=>ao (k q es M' hq h2 h1 (by rw[Nr];exact L2.Paired.bR h3 λ _ _ y=>y.mono λ _ _ n g=>⟨n.1,g⟩));rfl';refine .inl (eT (X3 _ _ hw) (cj z2 t.ws) ?_);rw[gF.2.2];cases ec:t.c with
  |false=>rfl';exact fin es M4 q3 X3 (by rw[show Pq sz zo n t=[] by unfold Pq;rw[ec];rfl,A5];exact pe)
  |true=>
   rfl';refine⟨⟨rfl,_,q3⟩,?_⟩;rfl';refine jR (X3 _ _ hp) ⟨.inr _,rfl⟩ PC ?_;rfl';refine⟨zo,_,sz,rfl,Jq,(),(),λ q5 Lj M5 Pz X5 KI Il=>?_⟩;rw[show((n:Int)-(t.n:Nat)).toNat=n-t.n by lia]at Il;rfl';have l5:Lj.length<=4:=by rw[Il.length];exact Iz _ ()
   have q35:=X5 _ _ q3;refine jS q35 KI (small ()) ?_;rfl';have Ep:∀b o,b≠q->M5 b=some o->ak M5 q (.lst (es++Lj)) b=some o:=λ b o n e=>by rw[aG n];exact e
   refine fin _ _ ai ((X3.trans X5).own hq) ?_;rw[show Pq sz zo n t=RY zo (n-t.n) sz by unfold Pq;rw[ec];rfl];exact Paired.app (L2.Paired.bR pe λ _ _ y=>y.mono λ _ _ n g=>⟨n,Ep _ _ n.2 (X5 _ _ g)⟩) (L2.Paired.bR Il λ _ _ y=>y.mono λ _ _ n g=>⟨⟨jp.free X3 n,(bA q3 n).symm⟩,Ep _ _ (bA q3 n).symm g⟩)
def Sd(F:dh K "rule_options" "rule_options" (top 45) f fd)(T:dP K mg)(Al:bb P w K mg base 3 "by_take" ["take","word","number","sizes"] Q4):bg P w K mg base cM 4 f fd ["rule","number","sizes"] (bD K QH):=by
 refine dU F ["rule","number","sizes","options","take"] (λ b_ A outer s H E ds M Q nd hr h=>?_)
 ·obtain⟨d,x,p,rs,rfl,⟨qt,iD,rfl,_,Oh,K5⟩,hR,hx,hp,k⟩:=h;refine⟨_,(aa (aA 3 (a_ bp))
 (aa (bo (aM (aO aS (aj 0) ag)) (aF 4)
 (ae (aN (cW e7 PySem.F.slot_list_extend PySem.F.type_list_extend fF (aj 3) (br (aB Al (aZ (aj 4) (aZ (aO aS (aj 0) ag) (aZ (aj 1) (aZ (aj 2) bp))))))))))
 (ae (aD (aj 3))))),?_⟩
  have ax:=dW hR hx;have ro:=hR.ok _ ax.1;have jX:=ro.qL;rfl';intro q hq;have q1:ak M q (.lst []) q=some (.lst []):=ai;have X1:=jp.new jp.rfl hq (.lst []);generalize ak M q (.lst [])=M1 at*;rfl';refine bM (X1 _ _ Oh) ?_;let f:cN->List (List (Str×Int)):=λ t=>Fx (fA rs (so x.1.w t)) (so x.1.w t) x.2 t
  refine dA (ds:=iD) (λ i δ M'=>∃(v4:Option D)(es:List D),δ=Qh (some (.tup [.str x.1.w,.int (x.1.n:Nat),.ref qt])) (some (.int (x.2:Nat))) (some (.ref p)) (some (.ref q)) v4/\M' q=some (.lst es)/\jp M M'/\Paired (Az (λ a=>M a=none/\a≠q) M') es ((x.1.ts.take i).flatMap f)) ⟨none,[],rfl,q1,X1,.nil⟩ (λ i δ M' _ h=>?_) (jr λ NX i d δ M' df hd h=>?_) (λ δ M' h=>?_)
  ·obtain⟨_,_,_,_,h,_⟩:=h;exact h _ _ Oh
  ·obtain⟨v4,es,rfl,q2,E2,pe⟩:=h;obtain⟨y,e3,hy⟩:=Paired.get K5 hd;rw[w6]at e3;cases e4:x.1.ts[i]? with
   |none=>rw[e4]at e3;cases e3
   |some t=>
    rw[e4]at e3;cases e3;have tok:=ro.ok t (k4 e4);have Jp:=BD hR ax.1 (k4 e4);have ZC:es.length<=42:=by rw[pe.length];have:=dJ f 6 (x.1.ts.take i) λ t ht=>pX ax.2.2.2 (ro.ok t (k8 ht)).lo;rw[A3]at this;lia
    rfl';refine⟨⟨rfl,_,q2⟩,?_⟩;rfl';refine⟨_,t,x.1.w,x.2,p,rs,rfl,hy.mono λ _ _ _ g=>⟨trivial,E2 _ _ g⟩,by have:=ro.wd.len;lia,ax.2.1,ax.2.2.2,tok.lo,tok.hi,E2 _ _ hp,Jp,by have:=(lU hR _ Jp).len;lia,λ q5 Lj M5 Pz X5 KI Il=>?_⟩;rfl';have l5:Lj.length<=6:=by rw[Il.length];exact pX ax.2.2.2 tok.lo
    refine jS (X5 _ _ q2) KI (small ()) ?_;have Ep:∀b o,b≠q->M5 b=some o->ak M5 q (.lst (es++Lj)) b=some o:=λ b o n e=>by rw[aG n];exact e
    refine df _ _ ⟨_,_,rfl,ai,(E2.trans X5).own hq,?_⟩;rw[take_one (a:=t) e4,flatMap_append];refine Paired.app (L2.Paired.bR pe λ _ _ y=>y.mono λ _ _ n g=>⟨n,Ep _ _ n.2 (X5 _ _ g)⟩) ?_;rw[show[t].flatMap f=f t by simp];exact L2.Paired.bR Il λ _ _ y=>y.mono λ _ _ n g=>⟨⟨jp.free E2 n,(bA q2 n).symm⟩,Ep _ _ (bA q2 n).symm g⟩
  ·obtain⟨v4,es,rfl,q2,E2,pe⟩:=h;rw[K5.length,B4,z9]at pe;rfl';exact ao (k q es M' hq E2 q2 (L2.Paired.bR pe λ _ _ y=>y.mono λ _ _ n g=>⟨n.1,g⟩))
def uL(zs:List Str):List (D×D):=zs.map λ z=>(D.str z,D.bl true)
def AJ(zs:List Str):List (D×D):=zs.zipIdx.map λ z=>(D.str z.1,D.int (z.2:Int))
theorem qg(f:Nat->D)(z:Str):∀(zs:List Str)(k:Nat),cA ((zs.zipIdx k).map λ z=>(D.str z.1,f z.2)) (.str z)=if z∈zs then some (f (k+zs.idxOf z))else none
 |[],k=>by simp[cA]
 |x::xs,k=>by
  have ih:=qg f z xs (k+1);unfold cA at ih ⊢;rw[zipIdx_cons,C6,A6];by_cases e:x=z
  ·subst e;rw[J6 l9];simp
  ·have n:¬D.str x=D.str z:=λ q=>e (D.str.inj q);have n2:decide ((D.str x)=D.str z)=false:=A7 n;show Option.map _ (match decide (D.str x=D.str z)with|true=>some _|false=>_)=_;rw[n2];refine ih.trans ?_;have m:z∈x::xs↔z∈xs:=by simp[J4 e]
   have i:(x::xs).idxOf z=xs.idxOf z+1:=by rw[idxOf_cons,show(x==z)=false from beq_eq_false_iff_ne.mpr e];rfl
   by_cases h:z∈xs
   ·rw[J6 h,J6 (m.mpr h),i];congr 2;lia
   ·rw[J7 h,J7 λ q=>h (m.mp q)]
def P_(zs:List Str):uL zs=(zs.zipIdx 0).map λ z=>(D.str z.1,(λ _=>D.bl true) z.2):=by unfold uL;rw[show(λ z:Str×Nat=>(D.str z.1,(λ _=>D.bl true) z.2))=(λ z=>(D.str z,D.bl true))∘Prod.fst from rfl,<- D6,zipIdx_map_fst]
def pv(zs:List Str)(z:Str):(cA (uL zs) (.str z)).isSome=decide (z∈zs):=by rw[P_,qg (λ _=>D.bl true)];by_cases h:z∈zs<;>simp[h]
def AQ(h:z∉zs):putD (uL zs) (.str z) (.bl true)=uL (zs++[z]):=by unfold putD;rw[pv,J7 (by simp[h])];unfold uL;rw[B6];rfl
def xB(zs:List Str)(z:Str):cA (AJ zs) (.str z)=if z∈zs then some (.int (zs.idxOf z:Nat))else none:=by unfold AJ;rw[qg λ i=>D.int (i:Int),D8]
def MN(h:z∉zs):putD (AJ zs) (.str z) (.int (zs.length:Nat))=AJ (zs++[z]):=by unfold putD;rw[xB,J7 h,J7 (by simp)];unfold AJ;rw[zipIdx_append,B6,D8];rfl
def Cv(zs:List Str):(AJ zs).length=zs.length:=by unfold AJ;rw[B4,length_zipIdx]
def Off(p:be)(M M':Mem):Prop:=∀b o,b≠p->M b=some o->M' b=some o
def fW:Ru ⊕ cN->List Str
 | .inl r=>[r.w]| .inr _=>[]
def PB(r:Ru):List Str:=(List.range r.n).map λ j=>nm r.w (j+1)
def fN:Ru ⊕ cN->List Str
 | .inl r=>PB r| .inr _=>[]
def Em{β:Type}(f:Ru ⊕ cN->List β)(g:Ru->List β)(h:∀r,f (.inl r)=g r)(h2:∀t,f (.inr t)=[])(rs:List Ru):(rws rs).flatMap f=rs.flatMap g:=by
 unfold rws;rw[flatMap_assoc];refine J3 (λ f=>List.flatMap f rs) (funext λ r=>?_);rw[flatMap_cons,h];have:(r.ts.map (Sum.inr (α:=Ru))).flatMap f=[]:=by rw[flatMap_map];simp[h2]
 rw[this,A5]
def OG(rs:List Ru):(rws rs).flatMap fW=cU rs:=by
 rw[Em fW (λ r=>[r.w]) (λ _=>rfl) (λ _=>rfl)];unfold cU
 induction rs with
 |nil=>rfl
 |cons r rs ih=>rw[flatMap_cons,ih];rfl
def TL{rs:List Ru}(h:cC rs):((rws rs).flatMap fN).Nodup:=by
 rw[Em fN PB (λ _=>rfl) (λ _=>rfl),List.Nodup,pairwise_flatMap];refine⟨λ r hr=>?_,(pairwise_map.mp h.nd).imp_of_mem λ{a b} ha hb n x hx y hy e=>?_⟩
 ·have h9:=(h.ok r hr).hi;refine pairwise_map.mpr (List.Pairwise.imp_of_mem (R:=λ a b=>a≠b) (λ{a b} ha hb n e=>?_) (nodup_range (n:=r.n)));have:=bv.mp ha;have:=bv.mp hb;have:=(qc () () e).2;lia
 ·obtain⟨j,hj,rfl⟩:=D5.mp hx;obtain⟨i,hi,rfl⟩:=D5.mp hy;have:=bv.mp hj;have:=bv.mp hi;have:=(h.ok a ha).hi;have:=(h.ok b hb).hi;exact n (qc () () e).1
def xF{β:Type}{f:α->List β}{l:List α}{x:α}(h:(l.flatMap f).Nodup)(hx:l[i]?=some x):((l.take i).flatMap f++f x).Nodup/\(l.take (i+1)).flatMap f=(l.take i).flatMap f++f x:=by
 have e:(l.take (i+1)).flatMap f=(l.take i).flatMap f++f x:=by rw[take_one (a:=x) hx,flatMap_append];simp
 refine⟨?_,e⟩;rw[<- e];have:l.flatMap f=(l.take (i+1)).flatMap f++(l.drop (i+1)).flatMap f:=by rw[<- flatMap_append,take_append_drop]
 rw[this]at h;exact(nodup_append.mp h).1
def OH{rs:List Ru}(h:cC rs)(i:Nat):((rws rs).take i).length<=24/\(((rws rs).take i).flatMap fW).length<=24/\(((rws rs).take i).flatMap fN).length<=216:=by
 have h0:=yl h;have h1:((rws rs).take i).length<=24:=by rw[A3];lia
 have h2:=dJ fW 1 ((rws rs).take i) λ x _=>by cases x<;>exact j8 rfl
 have h3:=dJ fN 9 ((rws rs).take i) λ x hx=>by
  have:=pP h (k8 hx);cases x with
  |inl r=>show(PB r).length<=9;unfold PB;rw[B4,y3];exact(show wJ (cU rs) r from this).hi
  |inr t=>exact G5 _
 lia
def Q5:cO:=λ ds M Q=>∃(a p:be)(ns zs:List Str),ds=[.ref a,.ref p]/\M a=some (.lst (ns.map D.str))/\M p=some (.du false (uL zs))/\ns.length+zs.length<=1000/\(zs++ns).Nodup/\∀M',Off p M M'->M' p=some (.du false (uL (zs++ns)))->Q .bh M'
def Qy:cO:=λ ds M Q=>∃(a p:be)(ns:List Str)(ar:List (D×D)),ds=[.ref a,.ref p]/\M a=some (.lst (ns.map D.str))/\M p=some (.du false ar)/\ns.length<=1000/\(∀n∈ns,(cA ar (.str n)).isSome=true)/\Q .bh M
def Bz:cO:=λ ds M Q=>∃(a:be)(zs:List Str),ds=[.ref a]/\M a=some (.lst (zs.map D.str))/\zs.length<=1000/\zs.Nodup/\∀p,M p=none->Q (.ref p) (ak M p (.du false (AJ zs)))
def GS:cO:=λ ds M Q=>∃(a:be)(es:List D)(rs:List Ru),ds=[.ref a]/\M a=some (.lst es)/\cC rs/\Paired (Ay (λ _=>True) M) es (rws rs)/\∀M',jp M M'->Q .bh M'
def Dc{o:MO}(h:fP M M')(e:M' p=some o):fP (ak M p o) M':=λ a u ha=>by
 by_cases z:a=p
 ·subst z;rw[ai]at ha;cases ha;exact e
 ·rw[aG z]at ha;exact h a u ha
def Sx(F:dh K "refuse_again" "refuse_again" (top 23) f fd)(T:dP K mg):bg P w K mg base cM 1 f fd ["names","told"] (bD K Q5):=by
 refine dU F ["names","told","name"] (λ b_ A outer s H E ds M Q nd hr h=>?_)
 ·obtain⟨a,p,ns,zs,rfl,ha,hp,hl,eG,k⟩:=h;refine⟨_,(ae (bo (aM (aj 0)) (aF 2)
 (aa (aY (aI (kG hr.units) (aj 2) (aj 1))
 cv
 aK)
 (ae (dC kY (dQ (aj 1) (aj 2) (mn hr.units))))))),?_⟩
  have hap:a≠p:=λ z=>by rw[z,hp]at ha;cases ha
  rfl';refine dA (ds:=ns.map D.str) (λ i δ M'=>∃(v2:Option D),δ=[some (.ref a),some (.ref p),v2]/\M' p=some (.du false (uL (zs++ns.take i)))/\Off p M M') ⟨none,rfl,by rw[take_zero,A5];exact hp,λ b o _ e=>e⟩ (λ i δ M' _ h=>?_) (jr λ NX i d δ M' df hd h=>?_) (λ δ M' h=>?_)
  ·obtain⟨_,_,_,h⟩:=h;exact h a _ hap ha
  ·obtain⟨v2,rfl,p2,hO⟩:=h;rw[w6]at hd;cases e3:ns[i]? with
   |none=>rw[e3]at hd;cases hd
   |some z=>
    rw[e3]at hd;cases hd;have hz:z∉zs++ns.take i:=λ m=>by
     obtain⟨hi,ez⟩:=c5.mp e3;have e:zs++ns=(zs++ns.take i)++ns.drop i:=by rw[y0,take_append_drop]
     rw[e,nodup_append]at eG;exact eG.2.2 z m z (by rw[c4 hi,ez];exact l9) rfl
    rfl';refine Ca p2 ⟨.inr z,rfl⟩ ?_;rw[pv,A7 hz];rfl';refine i' p2 ⟨.inr z,rfl⟩ (by
     unfold uL;rw[B4,n9,A3];exact p8 (show _<=1000 by lia) (by decide)) ?_
    rw[AQ hz];refine df _ _ ⟨_,rfl,?_,λ b o n e=>by rw[aG n];exact hO b o n e⟩;rw[ai,take_one (a:=z) e3,y0]
  ·obtain⟨v2,rfl,p2,hO⟩:=h;rw[B4,z9]at p2;exact ao (k M' hO p2)
def R5(F:dh K "refuse_unknown" "refuse_unknown" (top 24) f fd)(T:dP K mg):bg P w K mg base cM 1 f fd ["names","known"] (bD K Qy):=by
 refine dU F ["names","known","name"] (λ b_ A outer s H E ds M Q nd hr h=>?_)
 ·obtain⟨a,p,ns,ar,rfl,ha,hp,hl,hn,k⟩:=h;refine⟨_,(ae (bo (aM (aj 0)) (aF 2)
 (ae (aY (aI (CS hr.units) (aj 2) (aj 1))
 cv
 aK)))),?_⟩
  rfl';refine dA (ds:=ns.map D.str) (λ i δ M'=>∃(v2:Option D),δ=[some (.ref a),some (.ref p),v2]/\M'=M) ⟨none,rfl,rfl⟩ (λ i δ M' _ h=>?_) (jr λ NX i d δ M' df hd h=>?_) (λ δ M' h=>?_)
  ·obtain⟨_,_,rfl⟩:=h;exact ha
  ·obtain⟨v2,rfl,rfl⟩:=h;rw[w6]at hd;cases e3:ns[i]? with
   |none=>rw[e3]at hd;cases hd
   |some z=>rw[e3]at hd;cases hd;rfl';refine zk hp ⟨.inr z,rfl⟩ ?_;rw[hn z (k4 e3)];rfl';exact df _ _ ⟨_,rfl,rfl⟩
  ·obtain⟨v2,rfl,rfl⟩:=h;exact ao k
def Nw(F:dh K "places_of" "places_of" (top 8) f fd)(T:dP K mg):bg P w K mg base cM 1 f fd ["names"] (bD K Bz):=by
 refine dU F ["names","places","number","name"] (λ b_ A outer s H E ds M Q nd hr h=>?_)
 ·obtain⟨a,zs,rfl,ha,hl,FD,k⟩:=h;refine⟨_,(aa (aA 1 (iB false))
 (aa (bo (pB T.enumerate (br (aj 0))) (eD (n:=2) (aR (aF 2) (aR (aF 3) dj)))
 (ae (dC (aj 2) (dQ (aj 1) (aj 3) (mn hr.units)))))
 (ae (aD (aj 1))))),?_⟩
  rfl';intro p hp;have FG:ak M p (.du false []) a=some (.lst (zs.map D.str)):=by rw[aG (bA ha hp)];exact ha
  have FC:ak M p (.du false []) p=some (.du false (AJ [])):=ai;have s1:fP M (ak M p (.du false [])):=(fP.refl M).put hp;generalize ak M p (.du false [])=M1 at*;rfl';refine vT (ds:=dZ (zs.map D.str)) (λ i δ M'=>∃v2 v3:Option D,δ=[some (.ref a),some (.ref p),v2,v3]/\M' p=some (.du false (AJ (zs.take i)))/\fP M M') ⟨_,_,rfl,FC,s1⟩ (λ i δ M' _ h=>?_) (jr λ NX i d δ M' df hd h=>?_) (λ δ M' h=>?_)
  ·obtain⟨_,_,_,_,hs⟩:=h;exact oQ (hs _ _ ha)
  ·obtain⟨v2,v3,rfl,h1,hs⟩:=h;rw[gW,w6,getElem?_zipIdx]at hd;cases e3:zs[i]? with
   |none=>rw[e3]at hd;cases hd
   |some x=>
    rw[e3]at hd;cases hd;obtain⟨hi,ex⟩:=c5.mp e3;have hx:x∉zs.take i:=λ z=>by obtain⟨j,hj,ej⟩:=mem_take_iff_getElem.mp z;have:=(getElem_inj FD).mp (ej.trans ex.symm);lia
    have Jw:(zs.take i).length=i:=by rw[A3];lia
    dsimp only;rw[D8];rfl';refine i' h1 ⟨.inr x,rfl⟩ (by rw[Cv];exact p8 (show _<=1000 by lia) (by decide)) ?_;have nF:=MN hx;rw[Jw]at nF;rw[nF];refine df _ _ ⟨_,_,rfl,?_,hs.put hp⟩;rw[ai,take_add_one,e3];rfl
  ·obtain⟨v2,v3,rfl,h1,hs⟩:=h;rw[gW,B4,length_zipIdx,z9]at h1;rfl';exact⟨_,Dc hs h1,k p hp⟩
def Nx(F:dh K "names_of" "names_of" (top 25) f fd)(T:dP K mg):bg P w K mg base cM 1 f fd ["terms"] (bD K BA):=by
 refine dU F ["terms"] (len:=λ ds M Q h=>?_) (hbody:=λ b_ A outer s H E ds M Q nd hr h=>?_)
 ·cases h
 ·cases h
def Sb(F:dh K "refuse_twice" "refuse_twice" (top 53) f fd)(T:dP K mg)(dn:bb P w K mg base 1 "refuse_again" ["names","told"] Q5)(qP:bb P w K mg base 2 "heap_names" ["word","size"] Kr)(iM:bb P w K mg base 1 "names_of" ["terms"] BA):bg P w K mg base cM 3 f fd ["rows"] (bD K GS):=by
 refine dU F ["rows","words","names","row","terms"] (λ b_ A outer s H E ds M Q nd hr h=>?_)
 ·obtain⟨a,es,rs,rfl,ha,hR,nG,k⟩:=h;refine⟨_,(aa (aA 1 (iB false))
 (aa (aA 2 (iB false))
 (ae (bo (aM (aj 0)) (aF 3)
 (ae (aY (aI (bU hr.units) (aO (cG hr.units) (aj 3) ag) aV)
 (aa (aN (aB dn (cb (a_ (br (aO (cG hr.units) (aj 3) ag))) (aj 1))))
 (ae (aN (aB dn (cb (aB qP (cb (aO (cG hr.units) (aj 3) ag) (aO (cG hr.units) (aj 3) ag))) (aj 2))))))
 (ae (aY (aI (bU hr.units) (aO (cG hr.units) (aj 3) ag) aV)
 (aa (aN (aB dn (cb (a_ (br (aO (cG hr.units) (aj 3) ag))) (aj 2))))
 (ae (bo (aM (aO (cG hr.units) (aj 3) ag)) (aF 4)
 (ae (aN (aB dn (cb (aB iM (br (aj 4))) (iB false))))))))
 aK)))))))),?_⟩
  rfl';intro pw U7;generalize hM:ak M pw _=M1 at*;obtain⟨X1,w1⟩:=nw U7 hM;clear hM;rfl';intro pn Fz;have Oj:=jp.free X1 Fz;have wn:pw≠pn:=bA w1 Fz;generalize hM:ak M1 pn _=M2 at*;obtain⟨X2,n2⟩:=nw Fz hM;clear hM;have w2:=X2 _ _ w1;have E2:=X1.trans X2;have ndW:((rws rs).flatMap fW).Nodup:=by rw[OG];exact hR.nd
  have ndN:=TL hR;have off:∀{p:be} {M' wL:Mem},M p=none->jp M M'->Off p M' wL->jp M wL:=λ hp e o b u h=>o b u (bA h hp) (e b u h);rfl';refine bM (E2 _ _ ha) ?_;refine dA (ds:=es) (λ i δ M'=>∃v3 v4:Option D,δ=Qh (some (.ref a)) (some (.ref pw)) (some (.ref pn)) v3 v4/\M' pw=some (.du false (uL (((rws rs).take i).flatMap fW)))/\M' pn=some (.du false (uL (((rws rs).take i).flatMap fN)))/\jp M M') ⟨none,none,rfl,w2,n2,E2⟩ (λ i δ M' _ h=>?_) (jr λ NX i d δ M' df hd h=>?_) (λ δ M' h=>?_)
  ·obtain⟨_,_,_,_,_,h⟩:=h;exact h _ _ ha
  ·obtain⟨v3,v4,rfl,w3,n3,E3⟩:=h;obtain⟨x,e3,hx⟩:=Paired.get nG hd;obtain⟨d1,e1⟩:=xF ndW e3;obtain⟨d2,e2⟩:=xF ndN e3;have hln:=OH hR i;rw[e1,e2]at df;cases x with
   |inl r=>obtain rfl:d=.tup [.str cp,.str r.w,.int (r.n:Nat)]:=hx;have ro:wJ (cU rs) r:=pP hR (k4 e3);have hw:=iy ro.wd;rfl';refine cm (cL rfl ?_);rfl';rw[B9 (show cp=aU "row" from rfl)];rfl';refine cm (cL rfl ?_);rfl';intro q hq;generalize hM:ak M' q _=M4 at*;obtain⟨X4,q4⟩:=nw hq hM;clear hM;rfl';refine⟨q,pw,[r.w],_,rfl,q4,X4 _ _ w3,by show 1+_<=_;lia,d1,λ M5 O5 w5=>?_⟩;have E5:=off U7 (E3.trans X4) O5;have n5:=O5 _ _ wn.symm (X4 _ _ n3);rfl';refine cm (cL rfl ?_);rfl';refine cm (cL rfl ?_);rfl';refine⟨r.w,r.n,rfl,by have:=hw.len;lia,ro.hi,λ q2 uI=>?_⟩;generalize hM:ak M5 q2 _=M6 at*;obtain⟨X6,q6⟩:=nw uI hM;clear hM;rfl';refine⟨q2,pn,PB r,_,rfl,q6,X6 _ _ n5,by unfold PB;rw[B4,y3];have:=ro.hi;lia,d2,λ M7 O7 n7=>?_⟩;exact df _ _ ⟨_,_,rfl,O7 _ _ wn (X6 _ _ w5),n7,off Oj (E5.trans X6) O7⟩
   |inr t=>
    obtain⟨w,rfl,_,hw⟩:=hx;rfl';refine cm (cL rfl ?_);rfl';rw[A7 (show ¬bH=aU "row" by decide+kernel)];rfl';refine cm (cL rfl ?_);rfl';rw[A7 (show ¬bH=aU "heap" by decide+kernel)];rfl';refine df _ _ ⟨_,_,rfl,?_,?_,E3⟩
    ·rw[show fW (.inr t)=[]from rfl,A5];exact w3
    ·rw[show fN (.inr t)=[]from rfl,A5];exact n3
  ·obtain⟨v3,v4,rfl,w3,n3,E3⟩:=h;exact ao (k M' E3)
def Sf(F:dh K "refuse_no_name" "refuse_no_name" (top 54) f fd)(T:dP K mg)(iL:bb P w K mg base 1 "rules_of" ["rows"] By)(iK:bb P w K mg base 1 "sizes_of" ["rules"] LX)(gX:bb P w K mg base 1 "places_of" ["names"] Bz)(bO:bb P w K mg base 1 "heap_name" ["word","number"] ze)(gg:bb P w K mg base 1 "rule_heaps" ["rules"] LY)(fH:bb P w K mg base 1 "refuse_unknown" ["names","known"] Qy)(iM:bb P w K mg base 1 "names_of" ["terms"] BA):bg P w K mg base cM 2 f fd ["rows"] (bD K GS):=by
 refine dU F ["rows","rules","words","told","row","terms"] (λ b_ A outer s H E ds M Q nd hr h=>?_)
 ·obtain⟨a,es,rs,rfl,ha,hR,nG,k⟩:=h;refine⟨_,(aa (aA 1 (aB iL (br (aj 0))))
 (aa (aA 2 (aB iK (br (aj 1))))
 (aa (aA 3 (aB gX (br (cV (UG [] (aM (aB gg (br (aj 1)))) bC (aB bO (cb (aO aS (aj 0) ag) (aj 1))))))))
 (ae (bo (aM (aj 0)) (aF 4)
 (ae (aY (dB (aI (bU hr.units) (aO aS (aj 4) ag) aV) (dH (aI CU (aO aS (aj 4) ag) fw))).pt
 (ae (aN (aB fH (cb (a_ (br (aO aS (aj 4) ag))) (aj 2)))))
 (ae (aY (aI (bU hr.units) (aO aS (aj 4) ag) aV)
 (aa (bo (aM (aO aS (aj 4) ag)) (aF 5)
 (ae (aN (aB fH (cb (aB iM (br (aj 5))) (aj 3))))))
 (ae (dC (aQ fL T.len (br (aj 3))) (dQ (aj 3) (aO aS (aj 4) ag) kx))))
 aK))))))))),?_⟩
  rfl';refine⟨a,es,rs,rfl,ha,hR,nG,λ p ps M1 E1 p1 rB=>?_⟩;rfl';refine⟨p,ps,rs,rfl,p1,hR,rB,λ pz M2 E2 z2=>?_⟩;rfl';refine⟨p,ps,rs,rfl,E2 _ _ p1,hR,L2.Paired.bR rB λ _ _ y=>y.ext E2,λ ph hs M3 E3 h3 yi=>?_⟩;have Jx:=eV hR;refine bM h3 ?_;refine eX (ds:=hs) (λ i dL M'=>M'=M3/\dL=(((dX rs).take i).map jF).map D.str) ⟨rfl,rfl⟩ (λ i dL M' hi h=>by rw[h.1];exact h3) (λ i dL M' hi h=>?_) (λ i d dL M' hd h=>?_) (λ dL M' h=>?_)
  ·obtain⟨_,rfl⟩:=h;rw[B4,B4,A3];exact small ()
  ·obtain⟨rfl,rfl⟩:=h;obtain⟨x,e3,dr,rfl,q,iD,rfl,_⟩:=Paired.get yi hd;have ax:=dW hR (k4 e3);rfl';refine⟨x.1.w,x.2,rfl,by have:=(hR.ok _ ax.1).wd.len;lia,ax.2.2.2,rfl,?_⟩;rw[take_one (a:=x) e3,B6,B6];rfl
  obtain⟨rfl,rfl⟩:=h;rw[yi.length,z9];intro q hq;generalize hM:ak M' q _=M4 at*;obtain⟨X4,q4⟩:=nw hq hM;clear hM;rfl';refine⟨q,ip rs,rfl,q4,by unfold ip;rw[B4];lia,mE hR,λ pt K6=>?_⟩;generalize hM:ak M4 pt _=M5 at*;obtain⟨X5,t5⟩:=nw K6 hM;clear hM;have EE:=(E1.trans E2).trans (E3.trans (X4.trans X5));have z5:=X5 _ _ (X4 _ _ (E3 _ _ z2));rfl';refine bM (EE _ _ ha) ?_;refine dA (ds:=es) (λ i δ M'=>∃v4 v5:Option D,δ=Qg (some (.ref a)) (some (.ref p)) (some (.ref pz)) (some (.ref pt)) v4 v5/\jp M5 M') ⟨none,none,rfl,jp.rfl⟩ (λ i δ M' _ h=>?_) (jr λ NX i d δ M' df hd h=>?_) (λ δ M' h=>?_)
  ·obtain⟨_,_,_,h⟩:=h;exact h _ _ (EE _ _ ha)
  ·obtain⟨v4,v5,rfl,E6⟩:=h;obtain⟨x,e3,hx⟩:=Paired.get nG hd;cases x with
   |inl r=>obtain rfl:d=.tup [.str cp,.str r.w,.int (r.n:Nat)]:=hx;rfl';rw[A7 (show ¬cp=aU "take" by decide+kernel)];rfl';rw[A7 (show ¬cp=aU "heap" by decide+kernel)];rfl';exact df _ _ ⟨_,_,rfl,E6⟩
   |inr t=>
    obtain⟨w,rfl,_,hw⟩:=hx;have tok:jC (cU rs) t:=pP hR (k4 e3);rfl';rw[B9 (show bH=aU "take" from rfl)];rfl';by_cases e:t.o=zE
    ·rw[show dR t.o=.bh by unfold dR;rw[J6 e]];refine(show ∀{M:Mem} {Q:bI},Q (.bl false) M->tU true .bh .bh M Q from λ q=>q) ?_;rfl';rw[A7 (show ¬bH=aU "heap" by decide+kernel)];rfl';exact df _ _ ⟨_,_,rfl,E6⟩
    ·have ho:=tok.src.resolve_left e;rw[show dR t.o=.str t.o by unfold dR;rw[J7 e]];refine(show ∀{M:Mem} {Q:bI},Q (.bl true) M->tU true (.str t.o) .bh M Q from λ q=>q) ?_;rfl';intro q2 uI;generalize hM:ak M' q2 _=M6 at*;obtain⟨X6,q6⟩:=nw uI hM;clear hM;rfl';refine⟨q2,pz,[t.o],_,rfl,q6,X6 _ _ (E6 _ _ z5),by show 1<=1000;decide,λ n hn=>?_,?_⟩
     ·rw[r6.mp hn,pK ho];rfl
     ·exact df _ _ ⟨_,_,rfl,E6.trans X6⟩
  ·obtain⟨v4,v5,rfl,E6⟩:=h;exact ao (k M' (EE.trans E6))
theorem fM(p:α->Bool):∀xs:List α,jB (xs.map λ x=>D.bl (p x))=some (xs.map p)
 |[]=>rfl
 |x::xs=>by rw[C6,C6];unfold jB;rw[fM p xs];rfl
def HP{xs:List α}{p:α->Bool}{Q:bI}(q:Q (.bl (xs.all p)) M):nB (xs.map λ x=>D.bl (p x)) M Q:=by
 unfold nB;rw[fM];have e:(xs.map p).all id=xs.all p:=by rw[List.all_map];rfl
 rw[<- e]at q;exact q
def pS{xs:List α}{p:α->Bool}{Q:bI}(q:Q (.bl (xs.any p)) M):Lr (xs.map λ x=>D.bl (p x)) M Q:=
 ⟨xs.map p,by rw[D6];rfl,by rw[List.any_map];exact q⟩
def uX:cO:=λ ds M Q=>∃as:Row,ds=[row as]/\as.length<=1000/\∀m,M m=none->Q (.tup [.int as.sum,.ref m]) (ak M m (.lst ((as.map λ a=>0-a).map D.int)))
def Kq:cO:=λ ds M Q=>∃(l:be)(rs:List Row),ds=[.ref l]/\M l=some (.lst (rs.map row))/\rs.length<64/\(∀r∈rs,r.length<=1000)/\∀(p:be)(out:List Row),M p=none->out.Perm rs->out.Pairwise Pf->Q (.ref p) (ak M p (.lst (out.map row)))
def IH(F:dh K "order_key" "order_key" (top 47) f fd)(T:dP K mg):bg P w K mg base cM 1 f fd ["counts"] (bD K uX):=by
 refine dU F ["counts"] (λ b_ A outer s H E ds M Q nd hr h=>?_)
 ·obtain⟨as,rfl,hz,k⟩:=h;refine⟨_,(ae (aD (cz (cb (aQ (yH rfl) T.sum (br (aj 0))) (cV (lW [] (aM (aj 0)) bC (rH ko (aj 0)))))))),?_⟩;symm;refine pQ ?_;symm;refine fh (λ i dL M'=>M'=M/\dL=((as.map λ a=>0-a).take i).map D.int) ⟨rfl,by simp⟩ (λ i dL M' hi h=>?_) (λ i d dL M' hd h=>?_) (λ dL M' h=>?_)
  ·obtain⟨_,rfl⟩:=h;rw[B4,A3];rw[B4]at hi;exact small ()
  ·obtain⟨rfl,rfl⟩:=h;rw[w6]at hd;cases e:as[i]? with
   |none=>rw[e]at hd;cases hd
   |some a=>rw[e]at hd;cases hd;symm;refine⟨rfl,?_⟩;rw[take_snoc (a:=0-a) (by simp[e]),B6,Int.zero_sub];rfl
  ·obtain⟨rfl,rfl⟩:=h;intro p hp;symm;refine⟨by show 2<=sizeLine;decide,ao ?_⟩;have e:(as.map λ a=>0-a).take (as.map D.int).length=as.map λ a=>0-a:=by rw[B4];exact i5 (by simp)
   rw[e];exact k p hp
def ND(F:dh K "in_order" "in_order" (top 48) f fd)(T:dP K mg)(eW:bb P w K mg base 1 "order_key" ["counts"] uX):bg P w K mg base cM 4 f fd ["sums"] (bD K Kq):=by
 refine dU F ["sums"] (λ b_ A outer s H E ds M Q nd hr h=>?_)
 ·obtain⟨l,rs,rfl,hM,tq,hz,k⟩:=h;refine⟨_,(ae (aD (yX eW (hr.mono (by decide)) (by rfl) T.sorted (by rfl) (aj 0)))),?_⟩;symm;refine⟨l,rs.map row,false,λ dE M'=>(∀b o,M b=some o->M' b=some o)/\dE.length<=rs.length/\∀i k,dE[i]?=some k->AA false M' k (lg (rs.getD i [])),λ i=>lg (rs.getD i []),rfl,hM,by rw[B4];exact tq,⟨λ b o e=>e,G5 _,λ i k e=>by simp at e⟩,?_,?_⟩
  ·rintro dE M' e ⟨h1,h2,h3⟩ he;rw[w6]at he;cases er:rs[dE.length]? with
   |none=>rw[er]at he;cases he
   |some r=>
    rw[er]at he;cases he;have fR:dE.length<rs.length:=(c5.mp er).1;refine⟨r,rfl,hz r (k4 er),λ m hm=>⟨λ b o e=>?_,?_,λ i k e=>?_⟩⟩
    ·rw[aG (λ z=>by rw[<- z,h1 b o e]at hm;cases hm)];exact h1 b o e
    ·rw[n9,j4];lia
    ·by_cases hi:i<dE.length
     ·rw[b9 hi]at e;obtain⟨m',e1,e2⟩:=h3 i k e;exact⟨m',e1,by rw[aG (λ z=>by rw[z,hm]at e2;cases e2)];exact e2⟩
     ·rw[b7 ()]at e;have Xf:i-dE.length=0:=by have:=(c5.mp e).1;simp at this;lia
      rw[Xf]at e;have e:D.tup [.int r.sum,.ref m]=k:=by simpa using e
      have Xe:i=dE.length:=()
      subst Xe;refine⟨m,?_,?_⟩
      ·rw[<- e,b8,er];rfl
      ·rw[ai,b8,er];rfl
  ·rintro dE M' ⟨h1,h2,h3⟩ hl;refine⟨h3,λ p outD hp ho=>?_⟩;obtain⟨out,rfl,o1,o2⟩:=sx ho;have hMp:M p=none:=by
    cases e:M p with
    |none=>rfl
    |some o=>rw[h1 p o e]at hp;cases hp
   refine⟨ak M p (.lst (out.map row)),λ a o e=>?_,k p out hMp o1 o2⟩;by_cases ha:a=p
   ·subst ha;rw[ai]at e ⊢;exact e
   ·rw[aG ha]at e ⊢;exact h1 a o e
abbrev Pc(M:Mem)(rs:List Ru)(d:D)(x:Ru×Nat):Prop:=∃qo ops,d=.tup [.str (jF x),.ref qo]/\M qo=some (.lst ops)/\Paired (Az (λ _=>True) M) ops (Io rs x)
def Pc.ext{rs:List Ru}(e:jp M M'){x:Ru×Nat}(h:Pc M rs d x):Pc M' rs d x:=by obtain⟨q,ops,h1,h2,h3⟩:=h;exact⟨q,ops,h1,e _ _ h2,L2.Paired.bR h3 λ _ _ y=>y.mono λ _ _ _ g=>⟨trivial,e _ _ g⟩⟩
def EV(ts:List (Str×Int))(z:Str)(v:Int)(y:Str):oX (ts++[(z,v)]) y=oX ts y+if z=y then v else 0:=by unfold oX;rw[u3,B6,sum_append];by_cases h:z=y<;>simp[h]
theorem sM(f:Str->Int)(z:Str)(v:Int):∀{own:List Str},own.Nodup->z∈own->(own.map f)[own.idxOf z]?=some (f z)/\(own.map f).set (own.idxOf z) (f z+v)=own.map λ y=>f y+if z=y then v else 0
 |[],_,h=>by cases h
 |x::xs,eG,h=>by
  rw[nodup_cons]at eG;by_cases e:x=z
  ·subst e;rw[idxOf_cons_self];refine⟨rfl,?_⟩;show(f x+v)::xs.map f=(f x+if x=x then v else 0)::_;rw[J6 rfl];refine J3 _ (l8 λ y hy=>?_);rw[J7 (λ q=>eG.1 (by rw[q];exact hy)),Int.add_zero]
  ·have hz:z∈xs:=by simpa[J4 e]using h
   obtain⟨h1,h2⟩:=sM f z v eG.2 hz;rw[idxOf_cons,show(x==z)=false from beq_eq_false_iff_ne.mpr e];refine⟨h1,?_⟩;show f x::(xs.map f).set (xs.idxOf z) (f z+v)=(f x+if z=x then v else 0)::_
   rw[J7 (J4 e),Int.add_zero,h2]
def EU{own:List Str}(eG:own.Nodup)(ts:List (Str×Int))(v:Int)(hz:z∈own):∃x,(gx own ts)[own.idxOf z]?=some x/\(gx own ts).set (own.idxOf z) (x+v)=gx own (ts++[(z,v)]):=by obtain⟨h1,h2⟩:=sM (oX ts) z v eG hz;refine⟨_,h1,h2.trans ?_⟩;unfold gx;exact l8 λ y _=>(EV ts z v y).symm
def uC(rs:List Ru)(x:Ru×Nat)(out:List Row):Prop:=Up out/\∀r,r∈out↔r∈L9 rs x
abbrev AD(rs:List Ru)(g:List eO):Prop:=Paired (λ h x=>h.1=jF x/\uC rs x h.2) g (dX rs)
def KR(c:Nat)(w:List Nat)(ws:List (List Nat)):w.length<=(jn c (w::ws)).length:=by
 cases ws with
 |nil=>exact G3 _
 |cons v ws=>show w.length<=(w++c::jn c (v::ws)).length;rw[n9];exact Nat.le_add_right _ _
def Qf{rs:List Ru}(h:rs≠[]):Txt.join (one 10) (gO rs)≠aU "":=λ e=>by
 cases rs with
 |nil=>exact h rfl
 |cons r rs=>
  have e1:sg (Txt.join (one 10) (gO (r::rs)))=[]:=by rw[e];decide+kernel
  rw[hZ]at e1;have h1:=KR 10 (sg (xS r)) ((r.ts.map NS++gO rs).map sg);have e2:(gO (r::rs)).map sg=sg (xS r)::(r.ts.map NS++gO rs).map sg:=by simp[gO]
  rw[<- e2,e1]at h1;have h2:=KR 32 (sg cp) ([r.w,AG,sI (r.n:Nat)].map sg);have e3:sg (xS r)=jn 32 (sg cp::[r.w,AG,sI (r.n:Nat)].map sg):=by unfold xS Gz;rw[hZ];rfl
  rw[e3]at h1;have h3:(sg cp).length=3:=by decide+kernel
  rw[h3]at h2;have h4:3<=0:=D7 h2 h1;lia
def QC:cO:=λ ds M Q=>∃(a:be)(es:List D)(rs:List Ru),ds=[.ref a]/\M a=some (.lst es)/\cC rs/\Paired (Ay (λ _=>True) M) es (rws rs)/\∀q hs M',jp M M'->M' q=some (.lst hs)->Paired (Pc M' rs) hs (dX rs)->Q (.ref q) M'
def QF:cO:=λ ds M Q=>∃(a p:be)(ts:List (Str×Int))(own:List Str),ds=[.ref a,.ref p]/\M a=some (.lst (ts.map UJ))/\M p=some (.du false (AJ own))/\ts.length<=100/\own.length<=100/\own.Nodup/\(∀t∈ts,t.1∈own)/\Q (row (gx own ts)) M
def Qx:cO:=λ ds M Q=>∃(a p:be)(ops:List D)(rs:List Ru)(x:Ru×Nat),ds=[.ref a,.ref p]/\M a=some (.lst ops)/\M p=some (.du false (AJ (ip rs)))/\cC rs/\x∈dX rs/\Paired (Az (λ _=>True) M) ops (Io rs x)/\∀out M',jp M M'->uC rs x out->out.length<=42->Q (.tup (out.map row)) M'
def Qz:cO:=λ ds M Q=>∃R:List Row,ds=[.tup (R.map row)]/\R.length<=60/\(∀r∈R,r.sum<=4)/\Q (.bl false) M
def QZ:cO:=λ ds M Q=>∃(a:be)(hs:List D)(rs:List Ru),ds=[.ref a]/\M a=some (.lst hs)/\cC rs/\Paired (Pc M rs) hs (dX rs)/\∀g M',jp M M'->AD rs g->Q (mV g) M'
def QM:cO:=λ ds M Q=>∃(rs:List Ru),ds=[.str (Txt.join (one 10) (gO rs))]/\cC rs/\∀g M',jp M M'->AD rs g->Q (mV g) M'
def R8(F:dh K "told_heaps" "told_heaps" (top 55) f fd)(T:dP K mg)(iL:bb P w K mg base 1 "rules_of" ["rows"] By)(iK:bb P w K mg base 1 "sizes_of" ["rules"] LX)(bO:bb P w K mg base 1 "heap_name" ["word","number"] ze)(nu:bb P w K mg base 4 "rule_options" ["rule","number","sizes"] QH)(gg:bb P w K mg base 1 "rule_heaps" ["rules"] LY):bg P w K mg base cM 5 f fd ["rows"] (bD K QC):=by
 refine dU F ["rows","rules","sizes","heaps"] (λ b_ A outer s H E ds M Q nd hr h=>?_)
 ·obtain⟨a,es,rs,rfl,ha,hR,nG,k⟩:=h;refine⟨_,(aa (aA 1 (aB iL (br (aj 0))))
 (aa (aA 2 (aB iK (br (aj 1))))
 (aa (lV 3 (UG [2] (aM (aB gg (br (aj 1)))) bC (cz (cb (aB bO (cb (aO aS (aj 0) ag) (aj 1))) (aB nu (GC (aj 0) (aj 1) (aj 2)))))))
 (aa (aN (cW e7 PySem.F.slot_list_extend PySem.F.type_list_extend fF (aj 3) (br (cV (lW [] (aM (aj 0)) (g_ (aI (bU hr.units) (aO aS (aj 0) ag) aV)) (cz (cb (aO aS (aj 0) ag) (aO aS (aj 0) ag))))))))
 (ae (aD (aj 3))))))),?_⟩
  have Jx:=eV hR;rfl';refine⟨a,es,rs,rfl,ha,hR,nG,λ p ps M1 E1 p1 rB=>?_⟩;rfl';refine⟨p,ps,rs,rfl,p1,hR,rB,λ pz M2 E2 z2=>?_⟩;rfl';refine⟨p,ps,rs,rfl,E2 _ _ p1,hR,L2.Paired.bR rB λ _ _ y=>y.ext E2,λ ph hs M3 E3 h3 yi=>?_⟩;have z3:=E3 _ _ z2;refine bM h3 ?_;refine eX (ds:=hs) (λ i dL M'=>jp M3 M'/\Paired (Pc M' rs) dL ((dX rs).take i)) ⟨jp.rfl,.nil⟩ (λ i dL M' hi h=>h.1 _ _ h3) (λ i dL M' hi h=>?_) (λ i d dL M' hd h=>?_) (λ dL M' h=>?_)
  ·obtain⟨_,h⟩:=h;rw[h.length,A3];exact small ()
  ·obtain⟨E4,FF⟩:=h;obtain⟨x,e3,dr,rfl,Zt⟩:=Paired.get yi hd;have hx:=k4 e3;have ax:=dW hR hx;have W2:=Ke.ext (E3.trans E4) Zt;obtain⟨q0,iD,rfl,_⟩:=id Zt;rfl';refine⟨x.1.w,x.2,rfl,by have:=(hR.ok _ ax.1).wd.len;lia,ax.2.2.2,?_⟩;rfl';refine⟨_,x,pz,rs,rfl,W2,hR,hx,E4 _ _ z3,λ q ops M5 _ E5 q5 pe=>?_⟩;rfl';refine⟨E4.trans E5,?_⟩;rw[take_one (a:=x) e3];exact(L2.Paired.bR FF λ _ _ y=>y.ext E5).snoc ⟨q,ops,rfl,q5,L2.Paired.bR pe λ _ _ y=>y.mono λ _ _ _ g=>⟨trivial,g⟩⟩
  obtain⟨E4,FF⟩:=h;rw[yi.length,z9]at FF;intro q hq;generalize hM:ak M' q _=M5 at*;obtain⟨X5,q5⟩:=nw hq hM;clear hM;have EE:=(E1.trans E2).trans (E3.trans (E4.trans X5));have Xu:=EE _ _ ha;rfl';refine⟨⟨rfl,_,q5⟩,?_⟩;rfl';refine eX (ds:=es) (λ i dL M'=>M'=M5/\dL=[]) ⟨rfl,rfl⟩ (λ i dL M' hi h=>by rw[h.1];exact Xu) (λ i dL M' hi h=>?_) (λ i d dL M' hd h=>?_) (λ dL M' h=>?_)
  ·rw[h.2];exact G5 _
  ·obtain⟨rfl,rfl⟩:=h;obtain⟨x,e3,hx⟩:=Paired.get nG hd;obtain⟨z,ys,rfl,hz⟩:∃z ys,d=.tup (.str z::ys)/\z≠aU "heap":=by
    cases x with
    |inl r=>exact⟨cp,_,hx,by decide+kernel⟩
    |inr t=>obtain⟨_,h,_,_⟩:=hx;exact⟨bH,_,h,by decide+kernel⟩
   rfl';refine cL (d:=.str z) (cT (j:=0) rfl) ?_;rfl';rw[A7 hz];rfl';exact⟨rfl,rfl⟩
  obtain⟨rfl,rfl⟩:=h;intro q6 hq6;generalize hM:ak M' q6 _=M6 at*;obtain⟨X6,q66⟩:=nw hq6 hM;clear hM;have V4:=X6 _ _ q5;have hl:hs.length<=12:=by rw[yi.length];exact Jx
  have Xs:dL.length<=12:=by rw[FF.length];exact Jx
  rfl';refine jS V4 q66 (small (by simp;lia)) ?_;rw[A5];have same:ak M6 q (.lst dL)=M6:=by
   funext b;by_cases e:b=q
   ·subst e;rw[ai,V4]
   ·rw[aG e]
  rw[same];rfl';exact ao (k q dL M6 (EE.trans X6) V4 (L2.Paired.bR FF λ _ _ y=>y.ext (X5.trans X6)))
def R'(F:dh K "sum_of" "sum_of" (top 26) f fd)(T:dP K mg):bg P w K mg base cM 1 f fd ["terms","places"] (bD K QF):=by
 refine dU F ["terms","places","counts","name","many"] (λ b_ A outer s H E ds M Q nd hr h=>?_)
 ·obtain⟨a,p,ts,own,rfl,ha,hp,hl,U_,eG,gF,k⟩:=h;refine⟨_,(aa (aA 2 (bu fe (a_ (br ag)) (aQ E_ T.len (br (aj 1)))))
 (aa (bo (aM (aj 0)) (eD (n:=2) (aR (aF 3) (aR (aF 4) dj)))
 (ae (Gy (aj 2) (aO (cG hr.units) (aj 1) (aj 3)) (aj 4))))
 (ae (aD (bS gh T.tuple (br (aj 2))))))),?_⟩
  rfl';intro q1 Tf;have s1:=(fP.refl M).put (o:=.lst [.int 0]) Tf;have hq:ak M q1 (.lst [.int 0]) q1=some (.lst [.int 0]):=ai;generalize ak M q1 (.lst [.int 0])=M1 at*;rfl';refine Hx (s1 _ _ hp) ?_;rw[Cv];refine rT hq () () λ c hc=>?_;have ZH:M c=none:=jp.free s1 hc;have e0:List.replicate (own.length:Int).toNat (D.int 0)=(gx own []).map D.int:=by unfold gx;rw[D6,x6];exact map_const'.symm
  rw[e0];have s2:=s1.put (o:=.lst ((gx own []).map D.int)) ZH;have h1:ak M1 c (.lst ((gx own []).map D.int)) c=some (.lst ((gx own []).map D.int)):=ai;generalize ak M1 c (.lst ((gx own []).map D.int))=M2 at*;have PJ:=s2 _ _ ha;rfl';refine dA (ds:=ts.map UJ) (λ i δ M'=>∃v3 v4:Option D,δ=Qh (some (.ref a)) (some (.ref p)) (some (.ref c)) v3 v4/\M' c=some (.lst ((gx own (ts.take i)).map D.int))/\fP M M') ⟨none,none,rfl,h1,s2⟩ (λ i δ M' _ h=>?_) (jr λ NX i d δ M' df hd h=>?_) (λ δ M' h=>?_)
  ·obtain⟨_,_,_,_,hs⟩:=h;exact hs _ _ ha
  ·obtain⟨v3,v4,rfl,h1,hs⟩:=h;rw[w6]at hd;cases e3:ts[i]? with
   |none=>rw[e3]at hd;cases hd
   |some x=>rw[e3]at hd;cases hd;obtain⟨z,v⟩:=x;have hz:=gF _ (k4 e3);obtain⟨x,ex,es⟩:=EU eG (ts.take i) v hz;unfold UJ;rfl';unfold KA;rfl';refine jR (hs _ _ hp) ⟨.inr z,rfl⟩ ((xB own z).trans (J6 hz)) ?_;refine⟨c,_,_,x,rfl,rfl,h1,by rw[w6,ex];rfl,?_⟩;rfl';refine⟨v,rfl,h1,?_⟩;refine df _ _ ⟨_,_,rfl,?_,hs.put ZH⟩;rw[ai,<- map_set,es,take_add_one,e3];rfl
  ·obtain⟨v3,v4,rfl,h1,hs⟩:=h;rw[B4,z9]at h1;rfl';exact hG h1 ⟨M,hs,k⟩
def R4(F:dh K "unlike_options" "unlike_options" (top 56) f fd)(T:dP K mg)(EF:bb P w K mg base 1 "sum_of" ["terms","places"] QF)(wj:bb P w K mg base 4 "in_order" ["sums"] Kq):bg P w K mg base cM 5 f fd ["options","places"] (bD K Qx):=by
 refine dU F ["options","places","unlike","terms"] (λ b_ A outer s H E ds M Q nd hr h=>?_)
 ·obtain⟨a,p,ops,rs,x,rfl,ha,hp,hR,hx,vQ,k⟩:=h;refine⟨_,(aa (aA 2 (iB true))
 (aa (bo (aM (aj 0)) (aF 3)
 (ae (dC kY (dQ (aj 2) (aB EF (cb (aj 3) (aj 1))) (mn hr.units)))))
 (ae (aD (bS gh T.tuple (br (aB wj (br (bS (JX hr.hd) T.list (br (aj 2))))))))))),?_⟩
  have U_:=xG hR hx;have gS:=vQ.length;have hnl:(ip rs).length<=12:=by unfold ip;rw[B4];exact eV hR
  rfl';intro u hu;generalize hM:ak M u _=M1 at*;obtain⟨X1,u1⟩:=nw hu hM;clear hM;let f:List (Str×Int)->Row:=gx (ip rs)
  rfl';refine bM (X1 _ _ ha) ?_;refine dA (ds:=ops) (λ i δ M'=>∃(v3:Option D)(us:List Row),δ=[some (.ref a),some (.ref p),some (.ref u),v3]/\M' u=some (.du true (yu (yes us)))/\jp M M'/\us.Nodup/\(∀r,r∈us↔r∈((Io rs x).take i).map f)/\us.length<=i) ⟨none,[],rfl,u1,X1,.nil,λ r=>by simp,G3 _⟩ (λ i δ M' _ h=>?_) (jr λ NX i d δ M' df hd h=>?_) (λ δ M' h=>?_)
  ·obtain⟨_,_,_,_,h,_⟩:=h;exact h _ _ ha
  ·obtain⟨v3,us,rfl,u2,E2,eG,hm,hul⟩:=h;obtain⟨ts,e3,q,rfl,_,hq⟩:=Paired.get vQ hd;have hi:=(c5.mp e3).1;obtain⟨tl,tin⟩:=CL hR hx (k4 e3);rfl';refine⟨q,p,ts,ip rs,rfl,E2 _ _ hq,E2 _ _ hp,(),(),mE hR,λ t ht=>?_,?_⟩
   ·obtain⟨_,z,j,e,hz,h1,_,h3⟩:=tin t ht;rw[e];exact NO hR hz h1 h3
   refine i' u2 (Jh _) (by rw[JL,yes,B4];exact p8 (show us.length<=1000 by lia) (by decide)) ?_;have tk:=take_one (a:=ts) e3;by_cases gF:f ts∈us
   ·rw[HU (.bl true) (by rw[lR];exact gF) FR];refine df _ _ ⟨_,us,rfl,ai,E2.own hu,eG,λ r=>?_,()⟩;rw[tk,B6,B5,<- hm r];exact⟨.inl,λ z=>z.elim id λ z=>by rw[r6.mp z];exact gF⟩
   ·rw[HV (.bl true) (by rw[lR];exact gF),AU];refine df _ _ ⟨_,us++[f ts],rfl,ai,E2.own hu,nodup_append.mpr ⟨eG,by simp,λ a ha b hb e=>gF (by rw[<- r6.mp hb,<- e];exact ha)⟩,λ r=>?_,by rw[n9,j4];lia⟩;rw[tk,B6,B5,B5,<- hm r];rfl
  ·obtain⟨v3,us,rfl,u2,E2,eG,hm,hul⟩:=h;rw[gS,z9]at hm;have Zn:∀r∈us,r.length=(ip rs).length:=λ r hr=>by obtain⟨ts,_,rfl⟩:=D5.mp ((hm r).mp hr);exact lN _ _
   rfl';refine BW u2 λ q hq=>?_;rw[ED,lR];generalize hM:ak M' q _=M4 at*;obtain⟨X4,q4⟩:=nw hq hM;clear hM;rfl';refine⟨q,us,rfl,q4,(),λ r hr=>by rw[Zn r hr];lia,λ q5 out Pz op ob=>?_⟩;refine hG ai ?_;refine ao (k out _ ((E2.trans X4).new Pz _) ⟨Kk (op.nodup_iff.mpr eG) ob (λ r hr=>Zn r (op.mem_iff.mp hr)),λ r=>op.mem_iff.trans (hm r)⟩ (by rw[op.length_eq];lia))
def R6(F:dh K "is_too_many" "is_too_many" (top 57) f fd)(T:dP K mg):bg P w K mg base cM 1 f fd ["options"] (bD K Qz):=by
 refine dU F ["options"] (λ b_ A outer s H E ds M Q nd hr h=>?_)
 ·obtain⟨R,rfl,hl,Jr,k⟩:=h;refine⟨_,(ae (aD (w_or (dw zD (aQ fL T.len (br (aj 0))) (gH T.mW)) (ik (iA (Fc rfl) pG T.any (lW [] (aM (aj 0)) bC (dw zD (aQ (yH rfl) T.sum (br (aj 0))) (gH T.jY)))))))),?_⟩;rfl';rw[A7 (show ¬(60:Int)<((R.map row).length:Nat) by rw[B4];lia)];rfl';refine lO (xs:=R) (enc:=row) (λ r=>.bl (decide (4<r.sum))) () (λ i r N hx hN=>?_) ?_
  ·unfold row;rfl';refine pQ ?_;rfl';exact hN
  ·refine pS ?_;rw[show R.any (λ r=>decide (4<r.sum))=false from by
    rw[List.any_eq_false];intro r hr;have:=Jr r hr;simp;lia]
   exact ao k
def Sr(F:dh K "game_of" "game_of" (top 58) f fd)(T:dP K mg)(gX:bb P w K mg base 1 "places_of" ["names"] Bz)(j':bb P w K mg base 5 "unlike_options" ["options","places"] Qx)(nQ:bb P w K mg base 1 "is_too_many" ["options"] Qz):bg P w K mg base cM 6 f fd ["heaps"] (bD K QZ):=by
 refine dU F ["heaps","places","game"] (λ b_ A outer s H E ds M Q nd hr h=>?_)
 ·obtain⟨a,hs,rs,rfl,ha,hR,yi,k⟩:=h;refine⟨_,(aa (aY (aI zD (aQ fL T.len (br (aj 0))) (gH T.qJ))
 cv
 aK)
 (aa (aA 1 (aB gX (br (cV (lW [] (aM (aj 0)) bC (aO aS (aj 0) ag))))))
 (aa (aA 2 (uO gh jN T.tuple (UG [1] (aM (aj 0)) bC (cz (cb (aj 0) (aB j' (cb (aj 1) (aj 2))))))))
 (aa (aY (cJ (iA (Fc rfl) pG T.any (lW [] (aM (aj 2)) bC (aB nQ (br (aO aS (aj 0) ag))))))
 cv
 aK)
 (ae (aD (aj 2))))))),?_⟩
  have Jx:=eV hR;have hl:hs.length<=12:=by rw[yi.length];exact Jx
  rfl';rw[A7 (show ¬(12:Int)<(hs.length:Nat) by lia)];rfl';refine eX (ds:=hs) (λ i dL M'=>M'=M/\dL=(((dX rs).take i).map jF).map D.str) ⟨rfl,rfl⟩ (λ i dL M' hi h=>by rw[h.1];exact ha) (λ i dL M' hi h=>?_) (λ i d dL M' hd h=>?_) (λ dL M' h=>?_)
  ·obtain⟨_,rfl⟩:=h;rw[B4,B4,A3];exact small ()
  ·obtain⟨rfl,rfl⟩:=h;obtain⟨x,e3,qo,ops,rfl,_⟩:=Paired.get yi hd;rfl';refine⟨rfl,?_⟩;rw[take_one (a:=x) e3,B6,B6];rfl
  obtain⟨rfl,rfl⟩:=h;rw[yi.length,z9];intro q hq;generalize hM:ak M' q _=M4 at*;obtain⟨X4,q4⟩:=nw hq hM;clear hM;rfl';refine⟨q,ip rs,rfl,q4,by unfold ip;rw[B4];lia,mE hR,λ pt K6=>?_⟩;generalize hM:ak M4 pt _=M5 at*;obtain⟨X5,t5⟩:=nw K6 hM;clear hM;have EE:=X4.trans X5;have Xu:=EE _ _ ha;rfl';refine eX (ds:=hs) (λ i dL M'=>jp M5 M'/\∃g:List eO,dL=g.map kM/\Paired (λ h x=>h.1=jF x/\uC rs x h.2) g ((dX rs).take i)/\∀h∈g,h.2.length<=42) ⟨jp.rfl,[],rfl,.nil,λ h e=>by cases e⟩ (λ i dL M' hi h=>h.1 _ _ Xu) (λ i dL M' hi h=>?_) (λ i d dL M6 hd h=>?_) (λ dL M6 h=>?_)
  ·obtain⟨_,g,rfl,h,_⟩:=h;rw[B4,h.length,A3];exact small ()
  ·obtain⟨E6,g,rfl,hg,Ov⟩:=h;obtain⟨x,e3,hx⟩:=Paired.get yi hd;obtain⟨qo,ops,rfl,U6,vQ⟩:=Pc.ext (EE.trans E6) hx;rfl';refine⟨qo,pt,ops,rs,x,rfl,U6,E6 _ _ t5,hR,k4 e3,vQ,λ out M7 E7 hc ho=>?_⟩;rfl';refine⟨E6.trans E7,g++[(jF x,out)],by rw[B6];rfl,?_,λ h hh=>?_⟩
   ·rw[take_one (a:=x) e3];exact hg.snoc ⟨rfl,hc⟩
   ·rcases B5.mp hh with e|e
    ·exact Ov h e
    ·rw[r6.mp e];exact ho
  obtain⟨E6,g,rfl,hg,Ov⟩:=h;rw[yi.length,z9]at hg;have Vb:g.length<=12:=by rw[hg.length];exact Jx
  rfl';refine lO (xs:=g) (enc:=kM) (λ _=>.bl false) () (λ i h N hx hN=>?_) ?_
  ·obtain⟨x,e3,_,hc⟩:=Paired.get hg hx;unfold kM;rfl';refine⟨h.2,rfl,by have:=Ov h (k4 hx);lia,λ r hr=>?_,hN⟩;obtain⟨i1,e1⟩:=mem_iff_getElem?.mp (k4 e3);have:=(BM hR e1 ((hc.2 r).mp hr)).2.2.2;lia
  refine pS (p:=λ _:eO=>false) ?_;rw[show g.any (λ _=>false)=false from by simp];rfl';exact ao (k g M6 (EE.trans E6) hg)
def IF(F:dh K "read" "read" (top 59) f fd)(T:dP K mg)(Af:bb P w K mg base 4 "rows_of" ["text"] QJ)(nv:bb P w K mg base 3 "refuse_twice" ["rows"] GS)(kb:bb P w K mg base 2 "refuse_no_name" ["rows"] GS)(qO:bb P w K mg base 5 "told_heaps" ["rows"] QC)(Ak:bb P w K mg base 6 "game_of" ["heaps"] QZ):bg P w K mg base cM 7 f fd ["text"] (bD K QM):=by
 refine dU F ["text","rows"] (λ b_ A outer s H E ds M Q nd hr h=>?_)
 ·obtain⟨rs,rfl,hR,k⟩:=h;refine⟨_,(aa (aY (aI (bU hr.units) (aj 0) aV)
 (ae (aD (cz bp)))
 aK)
 (aa (aA 1 (aB Af (br (aj 0))))
 (aa (aN (aB nv (br (aj 1))))
 (aa (aN (aB kb (br (aj 1))))
 (ae (aD (aB Ak (br (aB qO (br (aj 1))))))))))),?_⟩
  rfl';by_cases e:rs=[]
  ·subst e;rw[B9 (show Txt.join (one 10) (gO [])=aU "" by decide+kernel)];rfl';exact ao (k [] M jp.rfl .nil)
  ·rw[A7 (Qf e)];rfl';refine⟨rs,rfl,hR,e,λ q es M1 E1 q1 nG=>?_⟩;have mo:∀{M':Mem},jp M1 M'->Paired (Ay (λ _=>True) M') es (rws rs):=λ e=>L2.Paired.bR nG λ _ _ y=>y.mono λ _ _ _ h=>⟨trivial,e _ _ h⟩;rfl';refine⟨q,es,rs,rfl,q1,hR,nG,λ M2 E2=>?_⟩;rfl';refine⟨q,es,rs,rfl,E2 _ _ q1,hR,mo E2,λ M3 E3=>?_⟩;rfl';refine⟨q,es,rs,rfl,E3 _ _ (E2 _ _ q1),hR,mo (E2.trans E3),λ q4 hs M4 E4 q44 yi=>?_⟩;rfl';refine⟨q4,hs,rs,rfl,q44,hR,yi,λ g M5 E5 hg=>?_⟩;exact ao (k g M5 (((E1.trans E2).trans E3).trans (E4.trans E5)) hg)
def ES(z:Str):fI z none (some (-1))=⟨z.cps.toList.dropLast.toArray⟩:=by
 unfold fI;have hl:z.cps.toList.length=z.length:=by simp[Str.length]
 have e:HT.bY z.length z.length (some (-1))=z.length-1:=by show(if(-1:Int)<0 then((-1:Int)+(z.length:Int)).toNat else min (-1:Int).toNat z.length)=_;rw[J6 (by decide)];lia
 have e0:HT.bY z.length 0 none=0:=rfl;rw[e,e0,drop_zero,Nat.sub_zero,dropLast_eq_take,hl]
def ER(z:Str):fI z (some (-1)) none=⟨(z.cps.toList.drop (z.length-1)).toArray⟩:=by
 unfold fI;have hl:z.cps.toList.length=z.length:=by simp[Str.length]
 have e:HT.bY z.length 0 (some (-1))=z.length-1:=by show(if(-1:Int)<0 then((-1:Int)+(z.length:Int)).toNat else min (-1:Int).toNat z.length)=_;rw[J6 (by decide)];lia
 have e0:HT.bY z.length z.length none=z.length:=rfl;rw[e,e0,i5 (by rw[length_drop];lia)]
def zG{w:Str}(h:Wd w)(h1:1<=k)(h9:k<=9):isName (nm w k)=true:=by
 have hl:=qd (z:=w) h9;have e1:fI (nm w k) none (some (-1))=w:=by rw[ES,hl,dropLast_concat]
 have e2:fI (nm w k) (some (-1)) none=sI (k:Int):=by
  have e:(nm w k).length-1=w.cps.toList.length:=by rw[CW h9];simp[Str.length]
  rw[ER,hl,e,drop_left,(uZ k h9).1]
 unfold isName;rw[e1,e2,jL h,(vU k h9 h1).1];simp
structure Uv(n h:Nat)(r:Row):Prop where
 len:r.length=n
 pos:∀x∈r,0<=x
 low:∀j,h<=j->r.getD j 0=0
def QX:cO:=λ ds M Q=>∃i:Int,ds=[.int i]/\Q (.bl true) M
def QY:cO:=λ ds M Q=>∃(r:Row)(n:Nat),ds=[row r,.int (n:Nat)]/\r.length=n/\n<=12/\(∀x∈r,0<=x)/\Q (.bl true) M
def QR:cO:=λ ds M Q=>∃(z:Str)(h:Nat)(p:be)(zs:List Str),ds=[.str z,.int (h:Nat),.ref p]/\z.length<=100/\isName z=true/\M p=some (.du false (uL zs))/\z∉zs/\Q .bh M
def QQ:cO:=λ ds M Q=>∃(os:List Row)(h n:Nat),ds=[.tup (os.map row),.int (h:Nat),.int (n:Nat)]/\os.length<=60/\n<=12/\(∀r∈os,Uv n h r)/\Up os/\∀M',jp M M'->Q .bh M'
def GoodG(g:List eO):Prop:=g.length<=12/\(g.map (·.1)).Nodup/\∀(i:Nat)(h:eO),g[i]?=some h->h.1.length<=100/\isName h.1=true/\h.2.length<=60/\(∀r∈h.2,Uv g.length i r)/\Up h.2
def QV:cO:=λ ds M Q=>∃g:List eO,ds=[mV g]/\GoodG g/\∀M',jp M M'->Q (.bl true) M'
def XX:Option Row->D
 |none=>.bh|some r=>row r
def zp{Q:bI}(q:Q (.bl false) M):tU true .bh .bh M Q:=q
def HB{Q:bI}(q:Q (.bl true) M):tU true (.tup ds) .bh M Q:=q
def Sm(F:dh K "is_whole" "is_whole" (top 61) f fd)(T:dP K mg):bg P w K mg base cM 1 f fd ["value"] (bD K QX):=by
 refine dU F ["value"] (λ b_ A outer s H E ds M Q nd hr h=>?_)
 ·obtain⟨i,rfl,k⟩:=h;refine⟨_,(ae (aD (w_and (aQ (eL T.DR) T.isinstance (cb (aj 0) (iz (n:="int") T.int))) (ik (w_not (aQ (eL T.mQ) T.isinstance (cb (aj 0) (iz (n:="bool") T.bool)))))))),?_⟩;rfl';refine bQ (n:="int") rfl (b:=true) (by decide) ?_;rfl';refine bQ (n:="int") rfl (b:=false) (by decide) ?_;rfl';exact ao k
def Sn(F:dh K "is_sum" "is_sum" (top 62) f fd)(T:dP K mg)(wg:bb P w K mg base 1 "is_whole" ["value"] QX):bg P w K mg base cM 2 f fd ["value","size"] (bD K QY):=by
 refine dU F ["value","size"] (λ b_ A outer s H E ds M Q nd hr h=>?_)
 ·obtain⟨r,n,rfl,hl,hn,hp,k⟩:=h;refine⟨_,(aa (aY (lS (jK (cJ (aQ (eL T.qD) T.isinstance (cb (aj 0) (iz (n:="tuple") T.tuple))))) (ix (aI (oA hr.units) (aQ fL T.len (br (aj 0))) (aj 1)))).pt
 (ae (aD kY))
 aK)
 (ae (aD (iA (Fd rfl) pH T.all (lW [] (aM (aj 0)) bC (w_and (aB wg (br (aj 0))) (ik (dw SF (aj 0) ag)))))))),?_⟩
  unfold row;rfl';refine bQ (n:="tuple") rfl (b:=true) (by decide) ?_;rfl';refine lA (λ hn=>bi (show((r.map D.int).length:Int)=(n:Nat) by rw[B4,hl]) hn) (λ hn=>?_);rfl';refine lO (xs:=r) (enc:=D.int) (λ x=>.bl (decide (0<=x))) () (λ i x N hx hN=>?_) ?_
  ·rfl';refine⟨x,rfl,?_⟩;rfl';exact hN
  ·refine HP ?_;rw[show r.all (λ x=>decide (0<=x))=true from List.all_eq_true.mpr λ x hx=>B9 (hp x hx)];exact ao k
def Nz(F:dh K "look_name" "look_name" (top 63) f fd)(T:dP K mg)(Ai:bb P w K mg base 2 "is_name" ["text"] (e_ isName)):bg P w K mg base cM 3 f fd ["name","h","earlier"] (bD K QR):=by
 refine dU F ["name","h","earlier"] (λ b_ A outer s H E ds M Q nd hr h=>?_)
 ·obtain⟨z,h,p,zs,rfl,hz,hn,hp,gF,k⟩:=h;refine⟨_,(aa (aY (jK (cJ (aB Ai (br (aj 0)))))
 cv
 aK)
 (ae (aY (aI (kG hr.units) (aj 0) (aj 2))
 cv
 aK))),?_⟩
  rfl';refine⟨z,rfl,(),?_⟩;rw[hn];rfl';refine Ca hp ⟨.inr z,rfl⟩ ?_;rw[pv,A7 gF];rfl';exact ao k
def Ny(F:dh K "look_options" "look_options" (top 64) f fd)(T:dP K mg)(EG:bb P w K mg base 2 "is_sum" ["value","size"] QY)(eW:bb P w K mg base 1 "order_key" ["counts"] uX):bg P w K mg base cM 3 f fd ["options","h","size"] (bD K QQ):=by
 refine dU F ["options","h","size","ahead","option"] (λ b_ A outer s H E ds M Q nd hr h=>?_)
 ·obtain⟨os,h,n,rfl,U_,hn,ho,hu,k⟩:=h;refine⟨_,(aa (aA 3 fw)
 (ae (bo (aM (aj 0)) (aF 4)
 (aa (aY (jK (cJ (aB EG (cb (aj 4) (aj 2)))))
 cv
 aK)
 (aa (aY (cJ (iA (Fc rfl) pG T.any (lW [] (aM (eP ku (aj 4) (ef (aj 1)) fT)) bC (dw zD (aj 0) ag))))
 cv
 aK)
 (aa (aY (dB (aI CU (aj 3) fw) (dH (aI (SE hr.units) (aB eW (br (aj 4))) (aB eW (br (aj 3)))))).pt
 cv
 aK)
 (ae (aA 3 (aj 4))))))))),?_⟩
  rfl';refine gU (λ i δ M'=>∃(ah:Option Row)(v4:Option D),δ=Qh (some (.tup (os.map row))) (some (.int (h:Nat))) (some (.int (n:Nat))) (some (XX ah)) v4/\jp M M'/\(∀a,ah=some a->a.length=n/\∀r,os[i]?=some r->klt (lg a) (lg r)=true)) ⟨none,none,rfl,jp.rfl,λ a e=>by cases e⟩ (jr λ NX i d δ M' df hd h=>?_) (λ δ M' h=>?_)
  ·obtain⟨ah,v4,rfl,hE,hr1⟩:=h;rw[w6]at hd;cases e3:os[i]? with
   |none=>rw[e3]at hd;cases hd
   |some r=>
    rw[e3]at hd;cases hd;have hr:=ho r (k4 e3);have K9:∀a,some r=some a->a.length=n/\∀q,os[i+1]?=some q->klt (lg a) (lg q)=true:=λ a e=>by cases e;refine⟨hr.len,λ q hq=>?_⟩;obtain⟨i1,e1⟩:=c5.mp e3;obtain⟨i2,e2⟩:=c5.mp hq;have:=pairwise_iff_getElem.mp hu i (i+1) i1 i2 ();rw[e1,e2]at this;exact this
    rfl';refine⟨r,n,rfl,hr.len,hn,hr.pos,?_⟩;rfl';unfold row;refine vd () ?_;rw[x6,<- map_drop];rfl';have hrl:=hr.len;refine lO (xs:=r.drop h) (enc:=D.int) (λ x=>.bl (decide (0<x))) (by rw[length_drop];lia) (λ j x N hj hN=>?_) ?_
    ·rfl';exact hN
    refine pS ?_;rw[show(r.drop h).any (λ x=>decide (0<x))=false from by
     rw[List.any_eq_false];intro x hx;obtain⟨i,hi⟩:=mem_iff_getElem?.mp hx;rw[getElem?_drop]at hi;have:=hr.low (h+i) ();rw[b8,hi]at this;have e:x=0:=this;simp[e]]
    rfl';cases ah with
    |none=>unfold XX;refine zp ?_;rfl';exact df _ _ ⟨some r,_,rfl,hE,K9⟩
    |some a=>
     obtain⟨Xs,hk⟩:=hr1 a rfl;rw[show XX (some a)=D.tup (a.map D.int)from rfl];refine HB ?_;rfl';refine⟨r,rfl,(),λ m hm=>?_⟩;rfl';refine⟨a,rfl,(),λ m2 jG=>?_⟩;have ZM:=Df hE hm (.lst ((r.map λ a=>0-a).map D.int));have Vg:=Df ZM jG (.lst ((a.map λ a=>0-a).map D.int));have hmm:m≠m2:=λ z=>by subst z;rw[ai]at jG;cases jG
     refine Hy (by rw[aG hmm];exact ai) ai ?_;show if(!klt (lg a) (lg r))=true then _ else _
     rw[hk r e3];rfl';exact df _ _ ⟨some r,_,rfl,Vg,K9⟩
  ·obtain⟨ah,v4,rfl,hE,_⟩:=h;exact ao (k M' hE)
def NA(F:dh K "look_game" "look_game" (top 65) f fd)(T:dP K mg)(tP:bb P w K mg base 3 "look_name" ["name","h","earlier"] QR)(ny:bb P w K mg base 3 "look_options" ["options","h","size"] QQ):bg P w K mg base cM 4 f fd ["game"] (bD K QV):=by
 refine dU F ["game","earlier","h","heap"] (λ b_ A outer s H E ds M Q nd hr h=>?_)
 ·obtain⟨g,rfl,⟨Vb,FD,hg⟩,k⟩:=h;refine⟨_,(aa (aA 1 (iB false))
 (aa (bo (pB T.enumerate (br (aj 0))) (eD (n:=2) (aR (aF 2) (aR (aF 3) dj)))
 (aa (aN (aB tP (GC (aO (cG hr.units) (aj 3) ag) (aj 2) (aj 1))))
 (aa (aN (aB ny (GC (aO (cG hr.units) (aj 3) ag) (aj 2) (aQ E_ T.len (br (aj 0))))))
 (ae (dC kY (dQ (aj 1) (aO (cG hr.units) (aj 3) ag) (mn hr.units)))))))
 (ae (aD kY)))),?_⟩
  unfold mV;rfl';intro p hp;generalize hM:ak M p _=M0 at*;obtain⟨X0,p0⟩:=nw hp hM;clear hM;rfl';refine gU (ds:=dZ (g.map kM)) (λ i δ M'=>∃(v2 v3:Option D),δ=[some (.tup (g.map kM)),some (.ref p),v2,v3]/\M' p=some (.du false (uL ((g.take i).map (·.1))))/\jp M M') ⟨none,none,rfl,p0,X0⟩ (jr λ NX i d δ M' df hd h=>?_) (λ δ M' h=>?_)
  ·obtain⟨v2,v3,rfl,FC,hE⟩:=h;rw[gW,w6,getElem?_zipIdx]at hd;cases e3:g[i]? with
   |none=>rw[e3]at hd;cases hd
   |some x=>
    rw[e3]at hd;cases hd;obtain⟨z,os⟩:=x;obtain⟨h1,h2,h3,h4,h5⟩:=hg i _ e3;have hi:=(c5.mp e3).1;have hz:z∉(g.take i).map (·.1):=λ q=>by
     obtain⟨x,hx,e⟩:=D5.mp q;obtain⟨j,hj,ej⟩:=mem_take_iff_getElem.mp hx;have a1:(g.map (·.1))[j]?=some x.1:=by rw[w6,c8 (),ej];rfl
     have a2:(g.map (·.1))[i]?=some z:=by rw[w6,e3];rfl
     have:=(getElem?_inj (c5.mp a1).1 FD).mp (a1.trans ((J3 some e).trans a2.symm));lia
    dsimp only;unfold kM;rfl';refine cm ?_;rfl';rw[D8];refine⟨z,i,p,_,rfl,h1,h2,FC,hz,?_⟩;rfl';refine cm ?_;rfl';refine BX ?_;rfl';rw[B4];refine⟨os,i,g.length,rfl,h3,Vb,h4,h5,λ M2 Vg=>?_⟩;rfl';refine cm ?_;rfl';refine i' (Vg _ _ FC) ⟨.inr z,rfl⟩ (by unfold uL;rw[B4,B4,A3];exact p8 (show _<=1000 by lia) (by decide)) ?_;rw[AQ hz];refine df _ _ ⟨_,_,rfl,?_,(hE.trans Vg).own hp⟩;rw[ai,take_one (a:=(z,os)) e3,B6];rfl
  ·obtain⟨v2,v3,rfl,FC,hE⟩:=h;rfl';exact ao (k M' hE)
def Ta(x:Ru×Nat):D:=.tup [.str x.1.w,.int (x.2:Nat)]
abbrev FP(A:be->Prop)(M:Mem)(d:D)(ys:List Str):Prop:=∃w,d=.ref w/\A w/\M w=some (.lst (ys.map D.str))
def FP.mono{A B:be->Prop}(h:∀q o,A q->M q=some o->B q/\M' q=some o)(y:FP A M d ys):FP B M' d ys:=by obtain⟨q,e,a,m⟩:=y;exact⟨q,e,(h q _ a m).1,(h q _ a m).2⟩
def IS(z:Str)(b:Bool):MulOk z (if b then 1 else 0)/\Txt.mul z (if b then 1 else 0)=if b then z else zE:=by
 cases b
 ·refine⟨⟨by decide,λ h=>bi (show(0:Int)<1 by decide) h,λ h=>bi (show(0:Int)<1 by decide) h⟩,?_⟩;show(if(0:Int)<1 then Str.empty else _)=zE;rw[J6 (by decide)];decide+kernel
 ·refine⟨⟨by decide,λ _ h=>(by have z:true=false:=h;cases z),λ _ h=>(by have z:true=false:=h;cases z)⟩,?_⟩;show(if(1:Int)<1 then Str.empty else _)=z;rw[J7 (by decide)];rfl
def Ls(z:Str):z++zE=z/\zE++z=z:=by
 have e:zE=⟨#[]⟩:=by decide+kernel
 rw[e];exact⟨by show Str.mk (z.cps++#[])=z;simp,by show Str.mk (#[]++z.cps)=z;simp⟩
def xM(n:Nat)(t:cN):List (List Str):=if t.a&&decide (n=t.n)then[[]]else[]
def AL(s:Nat)(z:Str)(n:Nat)(t:cN):List (List Str):=if t.b&&decide (t.n<n/\n-t.n<=s)then[[nm z (n-t.n)]]else[]
def IE(z:Str)(m s i:Nat):List (List Str):=((List.range i).filter λ j=>decide (j+1<=s/\m-(j+1)<=s)).map λ j=>[nm z (j+1),nm z (m-(j+1))]
def Pr(s:Nat)(z:Str)(n:Nat)(t:cN):List (List Str):=if t.c then IE z (n-t.n) s (n-t.n-1)else[]
def Nt(s:Nat)(z:Str)(n:Nat)(t:cN):xK s z n t=xM n t++AL s z n t++Pr s z n t:=rfl
def ID(z:Str)(m s i:Nat):(IE z m s i).length<=i:=by unfold IE;rw[B4];refine D7 (length_filter_le _ _) ?_;rw[y3];exact G3 _
def CO(z:Str)(m s i:Nat):IE z m s (i+1)=IE z m s i++if i+1<=s/\m-(i+1)<=s then[[nm z (i+1),nm z (m-(i+1))]]else[]:=by
 unfold IE;rw[range_succ,u3,B6,filter_cons];by_cases e:i+1<=s/\m-(i+1)<=s
 ·rw[J6 (B9 e),J6 e];rfl
 ·rw[J7 (by simpa using e),J7 e];rfl
def QU:cO:=λ ds M Q=>∃(A:be->Prop)(p:be)(rs:List Ru),ds=[.ref p]/\cC rs/\FL A M p rs/\∀q M',M q=none->jp M M'->M' q=some (.lst ((dX rs).map Ta))->Q (.ref q) M'
def Q1:cO:=λ ds M Q=>∃(A:be->Prop)(d:D)(t:cN)(z:Str)(k:Nat)(p:be)(rs:List Ru),ds=[.ref p,.str z,.int (k:Nat),d]/\lr A M d t/\z.length<=100/\t.o.length<=100/\PyData.strOk t.o=true/\1<=k/\k<=9/\1<=t.n/\t.n<=9/\M p=some (.du false (nJ rs))/\so z t∈cU rs/\∀q es M',M q=none->jp M M'->M' q=some (.lst es)->Paired (FP (IP M) M') es (xK (fA rs (so z t)) (so z t) k t)->Q (.ref q) M'
def Sl(F:dh K "_law_rule_heaps" "_law_rule_heaps" (top 76) f fd)(T:dP K mg):bg P w K mg base cM 1 f fd ["_law_rules_here"] (bD K QU):=by
 refine dU F ["_law_rules_here","_law_found","_law_number"] (λ b_ A outer s H E ds M Q nd hr h=>?_)
 ·obtain⟨A,a,rs,rfl,hR,⟨ps,_,ha,rB⟩,k⟩:=h;refine⟨_,(aa (aA 1 (a_ bp))
 (aa (bo (fu T.range (cb ag ag)) (aF 2)
 (ae (aN (cW e7 PySem.F.slot_list_extend PySem.F.type_list_extend fF (aj 1) (br (cV (Yn [2] (aM (aj 0)) (g_ (aI kZ (aj 3) (aj 1))) (cz (cb (aj 0) (aj 3))))))))))
 (ae (aD (aj 1))))),?_⟩
  have jX:=hR.qL;have gS:=rB.length;rfl';intro p hp;have p1:ak M p (.lst []) p=some (.lst []):=ai;have X1:=jp.new jp.rfl hp (.lst []);generalize ak M p (.lst [])=M1 at*;rfl';refine⟨cX () (),cX () (),?_⟩;rw[show((10:Int)-1).toNat=9 from rfl];refine gU (λ i δ M'=>∃(v2:Option D),δ=[some (.ref a),some (.ref p),v2]/\M' p=some (.lst ((cP rs i).map Ta))/\jp M M') ⟨none,rfl,p1,X1⟩ (jr λ NX i d δ M' df hd h=>?_) (λ δ M' h=>?_)
  ·obtain⟨v2,rfl,p2,E2⟩:=h;obtain⟨hi,rfl⟩:=cZ hd;have PJ:=E2 _ _ ha;have Jq:(cP rs i).length<=12:=by
    have h3:(cP rs i).length<=(cP rs 9).length:=by rw[fG,fG];exact qf () rs
    have h4:(cP rs 9).length<=12:=eV hR;lia
   rfl';refine⟨⟨rfl,_,p2⟩,?_⟩;rfl';refine eX (ds:=ps) (λ j dL M4=>M4=M'/\dL=(lvl (rs.take j) (i+1)).map Ta) ⟨rfl,rfl⟩ (λ j dL M4 hj h=>by rw[h.1];exact PJ) (λ j dL M4 hj h=>?_) (λ j d dL M4 hd h=>?_) (λ dL M4 h=>?_)
   ·obtain⟨_,rfl⟩:=h;unfold lvl;rw[B4,B4];have:=length_filter_le (λ r:Ru=>decide (i+1<=r.n)) (rs.take j);rw[A3]at this;exact small ()
   ·obtain⟨rfl,rfl⟩:=h;obtain⟨r,e3,q,iD,rfl,hq⟩:=Paired.get rB hd;rfl';rw[xQ e3];refine bJ (λ h0=>?_) (λ h0=>?_)
    ·rfl';refine⟨rfl,?_⟩;have h0:1+(i:Int)<=(r.n:Nat):=h0;rw[J6 (),B6];refine J3 _ ?_;show[D.tup [.str r.w,.int (1+(i:Int))]]=[D.tup [.str r.w,.int ((i+1:Nat):Int)]];rw[show((i+1:Nat):Int)=1+(i:Int) by lia]
    ·have h0:¬1+(i:Int)<=(r.n:Nat):=h0;rw[J7 (),A5];exact⟨rfl,rfl⟩
   ·obtain⟨rfl,rfl⟩:=h;rw[gS,z9];intro q hq;generalize hM:ak M4 q _=M5 at*;obtain⟨X5,q5⟩:=nw hq hM;clear hM;have Xs:(lvl rs (i+1)).length<=3:=by unfold lvl;rw[B4];exact D7 (length_filter_le _ _) jX
    rfl';refine jS (X5 _ _ p2) q5 (small (by rw[B4,B4];lia)) ?_;refine df _ _ ⟨_,rfl,?_,(E2.trans X5).own hp⟩;rw[ai,eJ,B6]
  ·obtain⟨v2,rfl,p2,E2⟩:=h;rw[bw]at p2;rfl';exact ao (k p M' hp E2 p2)
def Su(F:dh K "_law_come" "_law_come" (top 77) f fd)(T:dP K mg):bg P w K mg base cM 1 f fd ["_law_sizes","_law_word","_law_number","_law_take_here"] (bD K Q1):=by
 refine dU F ["_law_sizes","_law_word","_law_number","_law_take_here","_law_other","_law_left","_law_found","_law_many","_law_ways","_law_k"] (λ b_ A outer s H E ds M Q nd hr h=>?_)
 ·obtain⟨A,d,t,z,n,p,rs,rfl,⟨w,rfl,_,hw⟩,hz,U_,bP,Zy,hn9,Tc,ht9,hp,Jp,k⟩:=h;refine⟨_,(aa (dC (aj 3) (eD (n:=3) (aR (aF 7) (aR (aF 8) (aR (aF 4) dj)))))
 (aa (aA 4 (bu bx (aj 4) (bu fe (aj 1) (bS wG T.int (br (dw (bU hr.units) (aj 4) aV))))))
 (aa (aA 5 (bu kz (aj 2) (aj 7)))
 (aa (aA 6 (a_ bp))
 (aa (aY (dB (aI (kG hr.units) aV (aj 8)) (dH (aI (bU hr.units) (aj 5) ag))).pt
 (ae (aN (cW e7 c7 c9 bB (aj 6) (br (a_ bp)))))
 aK)
 (aa (aY (dB (aI (kG hr.units) aV (aj 8)) (dH (lT kZ kZ ag (aj 5) (aO (cG hr.units) (aj 0) (aj 4))))).pt
 (ae (aN (cW e7 c7 c9 bB (aj 6) (br (a_ (br (bu bx (aj 4) (bS kj T.str (br (aj 5))))))))))
 aK)
 (aa (aY (aI (kG hr.units) aV (aj 8))
 (ae (bo (fu T.range (cb ag (aj 5))) (aF 9)
 (ae (aY (dB (aI kZ (aj 9) (aO (cG hr.units) (aj 0) (aj 4))) (dH (aI kZ (bu kz (aj 5) (aj 9)) (aO (cG hr.units) (aj 0) (aj 4))))).pt
 (ae (aN (cW e7 c7 c9 bB (aj 6) (br (a_ (cb (bu bx (aj 4) (bS kj T.str (br (aj 9)))) (bu bx (aj 4) (bS kj T.str (br (bu kz (aj 5) (aj 9)))))))))))
 aK))))
 aK)
 (ae (aD (aj 6)))))))))),?_⟩
  have W_:=IS z (decide (t.o=aU ""));have gF:=K0 t.a t.b t.c;rw[<- Bb]at gF;rfl';refine rS W_.1 ?_;rw[W_.2];have XF:t.o++(if decide (t.o=aU "")=true then z else zE)=so z t:=by
   unfold so;by_cases e:t.o=zE
   ·rw[J6 e,B9 (show t.o=aU "" from e),J6 rfl,e];exact(Ls z).2
   ·rw[J7 e,A7 (show ¬t.o=aU "" from e),J7 (by decide)];exact(Ls _).1
  have ezl:(if decide (t.o=aU "")=true then z else zE).length<=100:=by
   split
   ·exact hz
   ·exact j8 rfl
  refine dN (small ()) ?_;rw[XF];have PC:=pK Jp;have Jq:(so z t).length<=200:=by rw[<- XF,len_app];lia
  clear XF ezl W_;generalize fA rs (so z t)=sz at*;generalize so z t=zo at*;have app:∀{j:Nat} {M1:Mem} {N:bI},j<=9->N (.str (nm zo j)) M1->Lm [D.int (j:Nat)] M1 λ e M2=>oU (.str zo) e M2 N:=λ{j M1 N} hj h=>by refine⟨_,rfl,(uZ j hj).2,dN (small ?_) h⟩;have:=(mq j hj).1;unfold sI at this;lia
  rfl';intro q hq;have q1:ak M q (.lst []) q=some (.lst []):=ai;have X1:=jp.new jp.rfl hq (.lst []);generalize ak M q (.lst [])=M2 at*
  with_reducible refine eR ?_
  with_reducible refine fb (λ δ' M'=>δ'=LH (some (.ref p)) (some (.str z)) (some (.int (n:Nat))) (some (.tup [.int (t.n:Nat),.ref w,.str t.o])) (some (.str zo)) (some (.int ((n:Int)-(t.n:Nat)))) (some (.ref q)) (some (.int (t.n:Nat))) (some (.ref w)) none/\∃es,M' q=some (.lst es)/\jp M M'/\Paired (FP (λ a=>M a=none/\a≠q) M') es (xM n t)) (λ N hN=>?_) ?_
  ·rfl';refine .inl (eT (X1 _ _ hw) (cj zN t.ws) ?_);rw[gF.1];cases ea:t.a with
   |false=>rfl';exact hN _ _ ⟨rfl,[],q1,X1,by rw[show xM n t=[] by unfold xM;rw[ea];rfl];exact .nil⟩
   |true=>
    rfl';refine bJ (λ h0=>?_) (λ h0=>?_)
    ·rfl';refine⟨⟨rfl,_,q1⟩,?_⟩;rfl';intro e he;have eq:e≠q:=(bA q1 he).symm;generalize hM:ak M2 e _=M4 at*;obtain⟨X4,e4⟩:=nw he hM;clear hM;rfl';refine cx (X4 _ _ q1) (by decide) ?_;refine hN _ _ ⟨rfl,[.ref e],ai,(X1.trans X4).own hq,?_⟩;rw[show xM n t=[[]] by unfold xM;rw[ea,B9 ()];rfl];exact .cons ⟨e,rfl,⟨jp.free X1 he,eq⟩,by rw[aG eq];exact e4⟩ .nil
    ·rfl';exact hN _ _ ⟨rfl,[],q1,X1,by rw[show xM n t=[] by unfold xM;rw[ea,A7 ()];rfl];exact .nil⟩
  rintro δ' M3 ⟨rfl,es,q3,X3,pe⟩;have MT:es.length<=1:=by rw[pe.length];unfold xM;split<;>exact j8 rfl
  clear X1 q1
  with_reducible refine fb (λ δ' M'=>δ'=LH (some (.ref p)) (some (.str z)) (some (.int (n:Nat))) (some (.tup [.int (t.n:Nat),.ref w,.str t.o])) (some (.str zo)) (some (.int ((n:Int)-(t.n:Nat)))) (some (.ref q)) (some (.int (t.n:Nat))) (some (.ref w)) none/\∃es,M' q=some (.lst es)/\jp M M'/\Paired (FP (λ a=>M a=none/\a≠q) M') es (xM n t++AL sz zo n t)) (λ N hN=>?_) ?_
  ·rfl';refine .inl (eT (X3 _ _ hw) (cj z1 t.ws) ?_);rw[gF.2.1];cases eb:t.b with
   |false=>rfl';exact hN _ _ ⟨rfl,es,q3,X3,by rw[show AL sz zo n t=[] by unfold AL;rw[eb];rfl,A5];exact pe⟩
   |true=>
    have no:=λ(h:¬(t.n<n/\n-t.n<=sz))=>hN _ _ ⟨rfl,es,q3,X3,(by rw[show AL sz zo n t=[] by unfold AL;rw[eb,A7 h];rfl,A5];exact pe)⟩;rfl';refine bJ (λ h0=>?_) (λ h0=>?_)
    ·rfl';refine jR (X3 _ _ hp) ⟨.inr _,rfl⟩ PC ?_;rfl';refine bJ (λ h1=>?_) (λ h1=>?_)
     ·rfl';refine⟨⟨rfl,_,q3⟩,?_⟩;rfl';rw[show(n:Int)-(t.n:Nat)=((n-t.n:Nat):Int) by lia]at hN ⊢;refine app (j:=n-t.n) () ?_;rfl';intro e he;have eq:e≠q:=(bA q3 he).symm;generalize hM:ak M3 e _=M4 at*;obtain⟨X4,e4⟩:=nw he hM;clear hM;rfl';refine cx (X4 _ _ q3) (p8 MT (by decide)) ?_;have Ep:∀b o,b≠q->M4 b=some o->ak M4 q (.lst (es++[.ref e])) b=some o:=λ b o n e=>by rw[aG n];exact e
      refine hN _ _ ⟨rfl,es++[.ref e],ai,(X3.trans X4).own hq,?_⟩;rw[show AL sz zo n t=[[nm zo (n-t.n)]] by unfold AL;rw[eb,B9 ()];rfl];exact(L2.Paired.bR pe λ _ _ y=>y.mono λ _ _ n g=>⟨n,Ep _ _ n.2 (X4 _ _ g)⟩).snoc ⟨e,rfl,⟨jp.free X3 he,eq⟩,Ep _ _ eq e4⟩
     ·rfl';exact no ()
    ·rfl';exact no ()
  clear X3 pe MT q3;rintro δ' M4 ⟨rfl,es,q3,X3,pe⟩;have MT:es.length<=2:=by
   rw[pe.length,n9];have:(xM n t).length<=1:=by unfold xM;split<;>exact j8 rfl
   have:(AL sz zo n t).length<=1:=by unfold AL;split<;>exact j8 rfl
   lia
  have fin:∀(es:List D)(M':Mem),M' q=some (.lst es)->jp M M'->Paired (FP (λ a=>M a=none/\a≠q) M') es (xM n t++AL sz zo n t++Pr sz zo n t)->fin2 Q (.ref q) M':=λ es M' h1 h2 h3=>ao (k q es M' hq h2 h1 (by rw[Nt];exact L2.Paired.bR h3 λ _ _ y=>y.mono λ _ _ n g=>⟨n.1,g⟩));rfl';refine .inl (eT (X3 _ _ hw) (cj z2 t.ws) ?_);rw[gF.2.2];cases ec:t.c with
  |false=>rfl';exact fin es M4 q3 X3 (by rw[show Pr sz zo n t=[] by unfold Pr;rw[ec];rfl,A5];exact pe)
  |true=>
   rfl';refine⟨cX () (),cX () (),?_⟩;rw[show((n:Int)-(t.n:Nat)-1).toNat=n-t.n-1 by lia];generalize em:n-t.n=m at*;have el:(n:Int)-(t.n:Nat)=(m:Int)\/m=0:=()
   refine gU (λ i δ M'=>∃(v10:Option D)(fs:List D),δ=LH (some (.ref p)) (some (.str z)) (some (.int (n:Nat))) (some (.tup [.int (t.n:Nat),.ref w,.str t.o])) (some (.str zo)) (some (.int ((n:Int)-(t.n:Nat)))) (some (.ref q)) (some (.int (t.n:Nat))) (some (.ref w)) v10/\M' q=some (.lst fs)/\jp M M'/\Paired (FP (λ a=>M a=none/\a≠q) M') fs (xM n t++AL sz zo n t++IE zo m sz i)) ⟨none,es,rfl,q3,X3,by rw[show IE zo m sz 0=[]from rfl,A5];exact pe⟩ (jr λ NX i d δ M' df hd h=>?_) (λ δ M' h=>?_)
   ·obtain⟨v10,fs,rfl,q4,E4,pf⟩:=h;obtain⟨hi,rfl⟩:=cZ hd;have PF:fs.length<=12:=by rw[pf.length,n9,<- pe.length];have:=ID zo m sz i;lia
    have el:(n:Int)-(t.n:Nat)=(m:Int):=el.resolve_right ();have ei:(1:Int)+(i:Int)=((i+1:Nat):Int):=()
    have ed:(n:Int)-(t.n:Nat)-(1+(i:Int))=((m-(i+1):Nat):Int):=()
    rw[CO,<- y0]at df;rfl';refine jR (E4 _ _ hp) ⟨.inr _,rfl⟩ PC ?_;rfl';have no:=λ(h:¬(i+1<=sz/\m-(i+1)<=sz)) (v10:Option D)=>df _ _ ⟨v10,fs,rfl,q4,E4,(by rw[J7 h,A5];exact pf)⟩;refine bJ (λ h0=>?_) (λ h0=>?_)
    ·rfl';refine jR (E4 _ _ hp) ⟨.inr _,rfl⟩ PC ?_;rfl';refine bJ (λ h1=>?_) (λ h1=>?_)
     ·rw[J6 ()]at df;rfl';refine⟨⟨rfl,_,q4⟩,?_⟩;rfl';rw[ei];refine app (j:=i+1) () ?_;rfl';rw[<- ei,ed];refine app (j:=m-(i+1)) () ?_;rfl';intro e he;have eq:e≠q:=(bA q4 he).symm;generalize hM:ak M' e _=M5 at*;obtain⟨X5,e5⟩:=nw he hM;clear hM;rfl';refine cx (X5 _ _ q4) (p8 PF (by decide)) ?_;have Ep:∀b o,b≠q->M5 b=some o->ak M5 q (.lst (fs++[.ref e])) b=some o:=λ b o n e=>by rw[aG n];exact e
      exact df _ _ ⟨_,fs++[.ref e],rfl,ai,(E4.trans X5).own hq,(L2.Paired.bR pf λ _ _ y=>y.mono λ _ _ n g=>⟨n,Ep _ _ n.2 (X5 _ _ g)⟩).snoc ⟨e,rfl,⟨jp.free E4 he,eq⟩,Ep _ _ eq e5⟩⟩
     ·rfl';exact no () _
    ·rfl';exact no () _
   ·obtain⟨v10,fs,rfl,q4,E4,pf⟩:=h;rw[bw]at pf;rfl';exact fin fs M' q4 E4 (by rw[show Pr sz zo n t=IE zo m sz (m-1) by unfold Pr;rw[ec,em];rfl];exact pf)
def RZ(z:Str):D:=.tup [.int 1,.str z]
abbrev BN(pn po:be):be->Prop:=λ a=>a≠pn/\a≠po
abbrev O_(A:be->Prop)(M:Mem)(rs:List Ru)(d:D)(x:Ru×Nat):Prop:=∃qo ops,d=.ref qo/\A qo/\M qo=some (.lst ops)/\Paired (λ e ys=>∃w,e=.ref w/\A w/\M w=some (.lst ((ys:List Str).map RZ))) ops (xI rs x)
def O_.mono{A B:be->Prop}{rs:List Ru}(h:∀q o,A q->M q=some o->B q/\M' q=some o){x:Ru×Nat}(y:O_ A M rs d x):O_ B M' rs d x:=by obtain⟨q,ops,e,a,m,p⟩:=y;refine⟨q,ops,e,(h q _ a m).1,(h q _ a m).2,L2.Paired.bR p λ _ _ z=>?_⟩;obtain⟨w,e1,a1,m1⟩:=z;exact⟨w,e1,(h w _ a1 m1).1,(h w _ a1 m1).2⟩
def SV(r:Ru):Key×D:=(.inr r.w,.int (r.n:Nat))
theorem EB:∀(rs pre:List Ru),(cU (pre++rs)).Nodup->(rs.map SV).foldl (λ a p=>putD a (jm p.1) p.2) (nJ pre)=nJ (pre++rs)
 |[],pre,_=>by rw[A5];rfl
 |r::rs,pre,eG=>by
  have hz:r.w∉cU pre:=λ m=>by unfold cU at eG m;rw[B6,nodup_append]at eG;exact eG.2.2 _ m _ l9 rfl
  rw[C6,foldl_cons];show(rs.map SV).foldl _ (putD (nJ pre) (.str r.w) (.int (r.n:Nat)))=_;rw[Bo hz];have e:nJ pre++[(D.str r.w,D.int (r.n:Nat))]=nJ (pre++[r]):=by unfold nJ;rw[B6];rfl
  have e2:pre++r::rs=(pre++[r])++rs:=by rw[y0];rfl
  rw[e,EB rs (pre++[r]) (by rw[<- e2];exact eG),e2]
def vp(rs:List Ru)(x:Ru×Nat)(r:Ru):List (List Str):=if r.w=x.1.w then xI rs (r,x.2)else[]
def IC{rs us:List Ru}(eG:(cU us).Nodup){x:Ru×Nat}(hx:x.1∈us):us.flatMap (vp rs x)=xI rs x:=by
 induction us with
 |nil=>cases hx
 |cons u us ih=>
  have Pw:u.w∉cU us/\(cU us).Nodup:=nodup_cons.mp eG;rw[flatMap_cons];rcases C7.mp hx with e|e
  ·have:us.flatMap (vp rs x)=[]:=by rw[flatMap_eq_nil_iff];intro r hr;unfold vp;rw[J7 (λ q=>Pw.1 (by rw[<- e,<- q];exact List.mem_map_of_mem hr))]
   rw[this,A5];unfold vp;rw[<- e,J6 rfl]
  ·have:vp rs x u=[]:=by unfold vp;rw[J7 (λ q=>Pw.1 (by rw[q];exact List.mem_map_of_mem e))]
   rw[this,nil_append];exact ih Pw.2 e
def JT(ys:List Str)(z:Str):oX (mf ys) z=((ys.filter λ y=>decide (y=z)).map λ _=>(1:Int)).sum:=by unfold oX mf;rw[List.filter_map,D6];rfl
def wO{xs ys:List D}(h:M p=some (.lst xs))(g:M q=some (.lst ys)):ii (.fn (iw (.ref p) (.ref q))) M=some (jI xs ys):=by show iw (.ref p) (.ref q) M=_;unfold iw;rw[iY h,iY g]
def Qd{rs:List Ru}{x:Ru×Nat}{out:List Row}(eG:out.Nodup)(ob:out.Pairwise Pf)(h:∀r,r∈out↔r∈VU rs x):uC rs x out:=by have hm:∀r,r∈out↔r∈L9 rs x:=λ r=>(h r).trans (G' rs x r).symm;refine⟨Kk eG ob (n:=(ip rs).length) λ r hr=>?_,hm⟩;obtain⟨ts,_,rfl⟩:=D5.mp ((hm r).mp hr);exact lN _ _
def jg{rs:List Ru}(h:cC rs){r:Ru}(hr:r∈rs)(hk:k<=9):(xI rs (r,k)).length<=63:=by have ro:=h.ok _ hr;unfold xI;have:=dJ (λ t=>xK (fA rs (so r.w t)) (so r.w t) k t) 9 r.ts λ t ht=>pY hk (ro.ok t ht).lo;have:=ro.qL;dsimp only;lia
def xH{rs:List Ru}{x:Ru×Nat}(h:ys∈xI rs x):ys.length<=2:=by
 obtain⟨t,_,h⟩:=mem_flatMap.mp h;unfold xK at h;rcases B5.mp h with h|h
 ·rcases B5.mp h with h|h
  ·split at h
   ·rw[r6.mp h];exact G5 _
   ·cases h
  ·split at h
   ·rw[r6.mp h];exact Nat.le_succ 1
   ·cases h
 ·split at h
  ·obtain⟨j,_,rfl⟩:=D5.mp h;exact G3 2
  ·cases h
def IB{rs:List Ru}(h:cC rs){x:Ru×Nat}(hk:x.2<=9)(j:Nat):((rs.take j).flatMap (vp rs x)).length<=189:=by
 have:=h.qL;have h3:(rs.take j).length<=3:=by rw[A3];lia
 have h4:=dJ (vp rs x) 63 (rs.take j) λ r hr=>by
  unfold vp;split
  ·exact jg h (k8 hr) hk
  ·exact G5 _
 lia
def Q0:cO:=λ ds M Q=>∃(A:be->Prop)(p pr:be)(rs:List Ru),ds=[.ref p,.ref pr]/\cC rs/\FL A M p rs/\M pr=some (.lst [])/\∀g M',jp M M'->AD rs g->Q (mV g) M'
set_option tactic.hygienic true in
def Ss(F:dh K "_law_due_game" "_law_due_game" (top 78) f fd)(T:dP K mg)(kf:bb P w K mg base 1 "_law_rule_heaps" ["_law_rules_here"] QU)(we:bb P w K mg base 1 "_law_come" ["_law_sizes","_law_word","_law_number","_law_take_here"] Q1)(nz:bb P w K mg base 4 "_law_in_order" ["_law_sums"] rP):bg P w K mg base cM 5 f fd ["_law_rules_here","_law_rows"] (bD K Q0):=by
 refine dU F ["_law_rules_here","_law_rows","_law_sizes","_law_options","_law_names","_law_game","_law_word","_law_number","_law_some","_law_rule","_law_name_here","_law_sums","_law_told","_law_one","_law_take_here"] (λ b_ A outer s H E ds M Q nd hr h=>?_)
 ·obtain⟨A,p,pr,rs,rfl,hR,ZJ,rB,k⟩:=h;refine⟨_,(aa (aA 2 (bS (JY hr.hd) T.dict (br (cV (Yn [] (aM (aj 0)) bC (cz (cb (aj 0) (aj 1))))))))
 (aa (aA 3 (a_ bp))
 (aa (aA 4 (a_ bp))
 (aa (bo (aM (aB kf (br (aj 0)))) (eD (n:=2) (aR (aF 6) (aR (aF 7) dj)))
 (aa (aN (cW e7 c7 c9 bB (aj 4) (br (bu bx (aj 6) (bS kj T.str (br (aj 7)))))))
 (aa (aA 8 (a_ bp))
 (aa (bo (aM (aj 0)) (aF 9)
 (ae (bo (aM (bu fe (aO aS (aj 9) ag) (bS wG T.int (br (dw (bU hr.units) (aO aS (aj 9) ag) (aj 6)))))) (aF 14)
 (ae (aN (cW e7 PySem.F.slot_list_extend PySem.F.type_list_extend fF (aj 8) (br (aB we (aZ (aj 2) (aZ (aj 6) (aZ (aj 7) (aZ (aj 14) bp))))))))))))
 (ae (aN (cW e7 c7 c9 bB (aj 3) (br (cV (lW [] (aM (aj 8)) bC (cV (lW [] (aM (aj 0)) bC (cz (cb ag (aj 0)))))))))))))))
 (aa (bo (aM (aj 1)) (eD (n:=2) (aR (aF 10) (aR (aF 11) dj)))
 (aa (aN (cW e7 c7 c9 bB (aj 4) (br (aj 10))))
 (ae (aN (cW e7 c7 c9 bB (aj 3) (br (aj 11)))))))
 (aa (aA 5 (a_ bp))
 (aa (bo (GA T.zip (cb (aj 4) (aj 3))) (eD (n:=2) (aR (aF 10) (aR (aF 11) dj)))
 (aa (aA 12 (a_ bp))
 (aa (bo (aM (aj 11)) (aF 13)
 (ae (aN (cW e7 c7 c9 bB (aj 12) (br (uO gh jN T.tuple (lW [13] (aM (aj 4)) bC (iA (yH rfl) GH T.sum (UG [0] (aM (aj 1)) (g_ (aI (bU hr.units) (aj 1) (aj 2))) (aj 0))))))))))
 (ae (aN (cW e7 c7 c9 bB (aj 5) (br (cz (cb (aj 10) (aB nz (br (aj 12))))))))))))
 (ae (aD (bS gh T.tuple (br (aj 5)))))))))))),?_⟩
  have jX:=hR.qL;have Jx:=eV hR;obtain⟨ds,_,hp,Xm⟩:=id ZJ;have ZF:=Xm.length;rfl';refine eX (ds:=ds) (λ i dL M'=>M'=M/\dL=((rs.take i).map SV).map V6) ⟨rfl,rfl⟩ (λ i dL M' hi h=>by rw[h.1];exact hp) (λ i dL M' hi h=>?_) (λ i d dL M' hd h=>?_) (λ dL M' h=>?_)
  ·obtain⟨_,rfl⟩:=h;rw[B4,B4,A3];exact small ()
  ·obtain⟨rfl,rfl⟩:=h;obtain⟨r,e3,q,iD,rfl,_⟩:=Paired.get Xm hd;rfl';refine⟨rfl,?_⟩;rw[take_one (a:=r) e3,B6,B6];rfl
  obtain⟨e0,rfl⟩:=h;subst M';rw[ZF,z9];intro q hq;generalize hM:ak M q _=M1 at*;obtain⟨X1,q1⟩:=nw hq hM;clear hM;rfl';refine⟨q,rs.map SV,rfl,q1,by rw[B4];lia,λ pz hpz=>?_⟩;rw[show EC (rs.map SV)=nJ rs from EB rs [] hR.nd];generalize hM:ak M1 pz _=M2 at*;obtain⟨X2,z2⟩:=nw hpz hM;clear hM;rfl';intro po W4;have W3:=jp.free (X1.trans X2) W4;generalize hM:ak M2 po _=M3 at*;obtain⟨X3,o3⟩:=nw W4 hM;clear hM;rfl';intro pn Fz;have Oj:=jp.free ((X1.trans X2).trans X3) Fz;have Zg:pn≠po:=(bA o3 Fz).symm;generalize hM:ak M3 pn _=M4 at*;obtain⟨X4,n4⟩:=nw Fz hM;clear hM;have o4:=X4 _ _ o3;have E4:=(X1.trans X2).trans (X3.trans X4);have z4:=X4 _ _ (X3 _ _ z2);have zo:pz≠po:=bA z2 W4;have zn:pz≠pn:=bA (X3 _ _ z2) Fz;rfl';refine⟨A,p,rs,rfl,hR,ZJ.ext E4,λ qh M5 Zr E5 h5=>?_⟩;have qn:qh≠pn:=(bA n4 Zr).symm;have qo:qh≠po:=(bA o4 Zr).symm;have E54:=E4.trans E5;have n5:=E5 _ _ n4;have o5:=E5 _ _ o4;have z5:=E5 _ _ z4;let B:be->Prop:=λ a=>a≠pn/\a≠po
  have eM:∀{M':Mem},(∀b o,b≠pn->b≠po->M5 b=some o->M' b=some o)->jp M M':=λ h b o e=>h b o (bA e Oj) (bA e W3) (E54 b o e);rfl';refine dA (ds:=(dX rs).map Ta) (λ i δ M'=>∃(v6 v7 v8 v9 wX:Option D)(os:List D),δ=[some (.ref p),some (.ref pr),some (.ref pz),some (.ref po),some (.ref pn),none,v6,v7,v8,v9,none,none,none,none,wX]/\M' pn=some (.lst ((((dX rs).take i).map jF).map D.str))/\M' po=some (.lst os)/\Paired (O_ (BN pn po) M' rs) os ((dX rs).take i)/\(∀b o,b≠pn->b≠po->M5 b=some o->M' b=some o)) ⟨_,_,_,_,_,[],rfl,n5,o5,.nil,λ b o _ _ e=>e⟩ (λ i δ M' _ h=>?_) (jr λ NX i d δ M' df hd h=>?_) (λ δ M' h=>?_)
  ·obtain⟨_,_,_,_,_,_,_,_,_,_,h⟩:=h;exact h _ _ qn qo h5
  ·obtain⟨v6,v7,v8,v9,wX,os,rfl,n6,o6,pos,kp⟩:=h;rw[w6]at hd;cases e3:(dX rs)[i]? with
   |none=>rw[e3]at hd;cases hd
   |some x=>
    rw[e3]at hd;cases hd;have hx:=k4 e3;have ax:=dW hR hx;have xl:=(hR.ok _ ax.1).wd.len;have hi:=(c5.mp e3).1;unfold Ta;rfl';refine⟨⟨rfl,_,n6⟩,?_⟩;rfl';refine⟨_,rfl,(uZ x.2 ax.2.2.2).2,?_⟩;refine dN (small (by
     have:=(mq x.2 ax.2.2.2).1;unfold sI at this;lia)) ?_
    rfl';refine cx n6 (by rw[B4,B4,A3];exact p8 (show _<=12 by lia) (by decide)) ?_;have kn:∀{N:Mem} {u:MO} {b:be} {o:MO},b≠pn->N b=some o->ak N pn u b=some o:=λ n e=>by rw[aG n];exact e
    have n7:ak M' pn (.lst ((((dX rs).take i).map jF).map D.str++[.str (x.1.w++Str.ofString (toString (x.2:Int)))])) pn=some (.lst ((((dX rs).take (i+1)).map jF).map D.str)):=by rw[ai,take_one (a:=x) e3,B6,B6];rfl
    have Wt:∀b o,b≠pn->b≠po->M5 b=some o->ak M' pn (.lst ((((dX rs).take i).map jF).map D.str++[.str (x.1.w++Str.ofString (toString (x.2:Int)))])) b=some o:=λ b o h1 h2 e=>kn h1 (kp b o h1 h2 e);have o7:=kn (u:=.lst ((((dX rs).take i).map jF).map D.str++[.str (x.1.w++Str.ofString (toString (x.2:Int)))])) (J4 Zg) o6;have RJ:Paired (O_ (BN pn po) (ak M' pn (.lst ((((dX rs).take i).map jF).map D.str++[.str (x.1.w++Str.ofString (toString (x.2:Int)))]))) rs) os ((dX rs).take i):=L2.Paired.bR pos λ _ _ y=>O_.mono (λ q o n g=>⟨n,kn n.1 g⟩) y;generalize ak M' pn (.lst ((((dX rs).take i).map jF).map D.str++[.str (x.1.w++Str.ofString (toString (x.2:Int)))]))=M7 at*;clear n6 o6 pos kp;rfl';intro ps Js;have spn:ps≠pn:=(bA n7 Js).symm;have spo:ps≠po:=(bA o7 Js).symm;generalize hM:ak M7 ps _=M8 at*;obtain⟨X8,s8⟩:=nw Js hM;clear hM;have Vs:=eM Wt;have EM8:=Vs.trans X8;rfl';refine bM (EM8 _ _ hp) ?_;refine dA (ds:=ds) (λ j δ M'=>∃(v9 wX:Option D)(es:List D),δ=[some (.ref p),some (.ref pr),some (.ref pz),some (.ref po),some (.ref pn),none,some (.str x.1.w),some (.int (x.2:Nat)),some (.ref ps),v9,none,none,none,none,wX]/\M' ps=some (.lst es)/\Paired (FP (λ a=>M7 a=none/\a≠ps) M') es ((rs.take j).flatMap (vp rs x))/\jp M7 M') ⟨_,_,[],rfl,s8,.nil,X8⟩ (λ j δ M' _ h=>?_) (jr λ NY j d δ M9 Tw hd2 h=>?_) (λ δ M9 h=>?_)
    ·obtain⟨_,_,_,_,_,_,h⟩:=h;exact h _ _ (Vs _ _ hp)
    ·obtain⟨v9,wX,es,rfl,s9,pe,E9⟩:=h;obtain⟨r,e4,qt,iD,rfl,_,Oh,K5⟩:=Paired.get Xm hd2;have U5:=k4 e4;have ro:=hR.ok r U5;have EM9:=Vs.trans E9;rfl';have mul:∀(N:bI)(b:Bool),(∀pm,M9 pm=none->N (.ref pm) (ak M9 pm (.lst (if b then iD else[]))))->oT (.ref qt) (.int (if b then 1 else 0)) M9 N:=by
      intro N b h;have tl:iD.length<=7:=by rw[K5.length];exact ro.qL
      refine .inr ⟨qt,_,_,rfl,rfl,EM9 _ _ Oh,?_,?_,?_,λ p4 FA=>?_⟩
      ·cases b<;>decide
      ·cases b<;>decide
      ·refine small ?_;cases b
       ·exact G5 _
       ·show iD.length*1<=10000;lia
      ·have:=h p4 FA;cases b
       ·exact this
       ·rw[show(List.replicate (if true then(1:Int)else 0).toNat iD).flatten=iD by show[iD].flatten=iD;simp];exact this
     refine mul _ _ λ pm Zu=>?_;generalize hM:ak M9 pm _=M10 at*;obtain⟨X7,Zk⟩:=nw Zu hM;clear hM mul;have pms:pm≠ps:=(bA s9 Zu).symm;have s10:=X7 _ _ s9;have hb:Paired (lr A M) (if decide (r.w=x.1.w)=true then iD else[]) (if decide (r.w=x.1.w)=true then r.ts else[]):=by
      split
      ·exact K5
      ·exact .nil
     have ht:∀t∈(if decide (r.w=x.1.w)=true then r.ts else[]),r.w=x.1.w/\t∈r.ts:=λ t h=>by
      split at h
      ·rename_i g;exact⟨ca g,h⟩
      ·cases h
     have hon:(if decide (r.w=x.1.w)=true then r.ts else[]).flatMap (λ t=>xK (fA rs (so r.w t)) (so r.w t) x.2 t)=vp rs x r:=by
      unfold vp;by_cases e:r.w=x.1.w
      ·rw[B9 e,J6 rfl,J6 e];rfl
      ·rw[A7 e,J7 (by decide),J7 e];rfl
     have htl:(if decide (r.w=x.1.w)=true then r.ts else[]).length<=7:=by
      split
      ·exact ro.qL
      ·exact G5 _
     generalize(if decide (r.w=x.1.w)=true then iD else[])=tb at*;generalize(if decide (r.w=x.1.w)=true then r.ts else[])=VD at*;refine bM Zk ?_;have gS:=IB (rs:=rs) hR ax.2.2.2 (x:=x) j;refine dA (ds:=tb) (λ l δ M'=>∃(wX:Option D)(fs:List D),δ=[some (.ref p),some (.ref pr),some (.ref pz),some (.ref po),some (.ref pn),none,some (.str x.1.w),some (.int (x.2:Nat)),some (.ref ps),some (.tup [.str r.w,.int (r.n:Nat),.ref qt]),none,none,none,none,wX]/\M' ps=some (.lst fs)/\Paired (FP (λ a=>M7 a=none/\a≠ps) M') fs ((rs.take j).flatMap (vp rs x)++(VD.take l).flatMap λ t=>xK (fA rs (so r.w t)) (so r.w t) x.2 t)/\jp M7 M'/\M' pm=some (.lst tb)) ⟨_,es,rfl,s10,by rw[take_zero,flatMap_nil,A5];exact L2.Paired.bR pe λ _ _ y=>y.mono λ _ _ n g=>⟨n,X7 _ _ g⟩,E9.trans X7,Zk⟩ (λ l δ M' _ h=>?_) (jr λ NW l d δ Uy hNW rD h=>?_) (λ δ Uy h=>?_)
     ·obtain⟨_,_,_,_,_,_,h⟩:=h;exact h
     ·obtain⟨wX,fs,rfl,Po,pf,yQ,Zj⟩:=h;obtain⟨t,et,U3⟩:=Paired.get hb rD;obtain⟨erw,Zo⟩:=ht t (k4 et);have tok:=ro.ok t Zo;have Jp:=BD hR U5 Zo;have Yk:=Vs.trans yQ;have PF:fs.length<=252:=by
       have:=dJ (λ t=>xK (fA rs (so r.w t)) (so r.w t) x.2 t) 9 (VD.take l) λ t ht'=>pY ax.2.2.2 (ro.ok t (ht t (k8 ht')).2).lo;have h2:(VD.take l).length<=7:=by rw[A3];lia
       rw[pf.length,n9];lia
      have K8:t.o.length<=100/\PyData.strOk t.o=true:=by
       rcases tok.src with e|e
       ·rw[e];exact⟨j8 rfl,(jU zE (by simp)).2.2.2⟩
       ·have:=iy (lU hR _ e);exact⟨by have:=this.len;lia,this.ok⟩
      rfl';refine⟨⟨rfl,_,Po⟩,?_⟩;rfl';rw[erw]at Jp;refine⟨A,d,t,x.1.w,x.2,pz,rs,rfl,lr.mono (λ q o a m=>⟨a,Yk _ _ m⟩) U3,(),K8.1,K8.2,ax.2.1,ax.2.2.2,tok.lo,tok.hi,yQ _ _ (Wt _ _ zn zo z5),Jp,λ q5 Lj PZ Pz X5 KI Il=>?_⟩;rfl';have l5:Lj.length<=9:=by rw[Il.length];exact pY ax.2.2.2 tok.lo
      refine jS (X5 _ _ Po) KI (small ()) ?_;have Ep:∀b o,b≠ps->PZ b=some o->ak PZ ps (.lst (fs++Lj)) b=some o:=λ b o n e=>by rw[aG n];exact e
      refine hNW _ _ ⟨_,_,rfl,ai,?_,(yQ.trans X5).own Js,Ep _ _ pms (X5 _ _ Zj)⟩;rw[take_one (a:=t) et,flatMap_append,<- y0];refine Paired.app (L2.Paired.bR pf λ _ _ y=>y.mono λ _ _ n g=>⟨n,Ep _ _ n.2 (X5 _ _ g)⟩) ?_;rw[show[t].flatMap (λ t=>xK (fA rs (so r.w t)) (so r.w t) x.2 t)=xK (fA rs (so x.1.w t)) (so x.1.w t) x.2 t by rw[<- erw];simp];exact L2.Paired.bR Il λ _ _ y=>y.mono λ _ _ n g=>⟨⟨jp.free yQ n,(bA Po n).symm⟩,Ep _ _ (bA Po n).symm g⟩
     ·obtain⟨wX,fs,rfl,Po,pf,yQ,Zj⟩:=h;rw[hb.length,z9,hon]at pf;refine Tw _ _ ⟨_,_,fs,rfl,Po,?_,yQ⟩;rw[take_one (a:=r) e4,flatMap_append];rw[show[r].flatMap (vp rs x)=vp rs x r by simp];exact pf
    ·obtain⟨v9,wX,es,rfl,s9,pe,E9⟩:=h;rw[ZF,z9,IC hR.nd ax.1]at pe;have o9:=E9 _ _ o7;have esl:es.length<=63:=by rw[pe.length];exact jg hR ax.1 ax.2.2.2
     rfl';refine⟨⟨rfl,_,o9⟩,?_⟩;rfl';refine eX (ds:=es) (λ l dL M'=>jp M9 M'/\Paired (λ e ys=>∃w,e=D.ref w/\M7 w=none/\M' w=some (.lst ((ys:List Str).map RZ))) dL ((xI rs x).take l)) ⟨jp.rfl,.nil⟩ (λ l dL M' hl h=>h.1 _ _ s9) (λ l dL M' hl h=>?_) (λ l d dL Uy rD h=>?_) (λ dL Uy h=>?_)
     ·obtain⟨_,h⟩:=h;rw[h.length,A3];exact small (by have:=jg hR ax.1 ax.2.2.2;have e:xI rs x=xI rs (x.1,x.2):=rfl;lia)
     ·obtain⟨yQ,FF⟩:=h;obtain⟨ys,ey,w,rfl,_,hw⟩:=Paired.get pe rD;have WJ:=xH (k4 ey);rfl';refine bM (yQ _ _ hw) ?_;refine kh D.str RZ () (yQ _ _ hw) (λ m z N hz hN=>?_) ?_
      ·rfl';exact hN
      intro v hv;generalize hM:ak Uy v _=PZ at*;obtain⟨Ur,LC⟩:=nw hv hM;clear hM;refine⟨yQ.trans Ur,?_⟩;rw[take_one (a:=ys) ey];exact(L2.Paired.bR FF λ _ _ ⟨w,e1,n,g⟩=>⟨w,e1,n,Ur _ _ g⟩).snoc ⟨v,rfl,jp.free (E9.trans yQ) hv,LC⟩
     obtain⟨yQ,FF⟩:=h;rw[pe.length,z9]at FF;intro qv Zq;have Zf:=jp.free (E9.trans yQ) Zq;generalize hM:ak Uy qv _=PZ at*;obtain⟨Ur,LC⟩:=nw Zq hM;clear hM;have EE:=E9.trans (yQ.trans Ur);have AK:os.length<=12:=by rw[RJ.length,A3];lia
     rfl';refine cx (EE _ _ o7) (p8 AK (by decide)) ?_;have Ep:∀b o,b≠po->PZ b=some o->ak PZ po (.lst (os++[.ref qv])) b=some o:=λ b o n e=>by rw[aG n];exact e
     have fr:∀{w},M7 w=none->w≠pn/\w≠po:=λ h=>⟨(bA n7 h).symm,(bA o7 h).symm⟩;refine df _ _ ⟨_,_,_,_,_,os++[.ref qv],rfl,Ep _ _ Zg (EE _ _ n7),ai,?_,λ b o h1 h2 e=>Ep _ _ h2 (EE _ _ (Wt b o h1 h2 e))⟩;rw[take_one (a:=x) e3];refine(L2.Paired.bR RJ λ _ _ y=>O_.mono (λ q o n g=>⟨n,Ep _ _ n.2 (EE _ _ g)⟩) y).snoc ⟨qv,dL,rfl,fr Zf,Ep _ _ (fr Zf).2 LC,L2.Paired.bR FF λ _ _ ⟨w,e1,n,g⟩=>⟨w,e1,fr n,Ep _ _ (fr n).2 (Ur _ _ g)⟩⟩
  obtain⟨v6,v7,v8,v9,wX,os,rfl,n6,o6,pos,kp⟩:=h;rw[B4,z9]at n6 pos;have Yj:=eM kp;rfl';refine bM (Yj _ _ rB) ?_;refine dA (ds:=[]) (λ i δ N=>N=M'/\δ=[some (.ref p),some (.ref pr),some (.ref pz),some (.ref po),some (.ref pn),none,v6,v7,v8,v9,none,none,none,none,wX]) ⟨rfl,rfl⟩ (λ i δ N _ h=>by rw[h.1];exact Yj _ _ rB) (λ i d δ N hd _=>by cases hd) (λ δ N h=>?_);obtain⟨rfl,rfl⟩:=h;rfl';intro pg U8;have gn:pg≠pn:=(bA n6 U8).symm;have go:pg≠po:=(bA o6 U8).symm;generalize hM:ak N pg _=N1 at*;obtain⟨X9,g1⟩:=nw U8 hM;clear hM;have nml:(ip rs).length<=12:=by unfold ip;rw[B4];exact Jx
  have AK:os.length=(dX rs).length:=pos.length;have UT:N pn=some (.lst ((ip rs).map D.str)):=n6;rfl';refine⟨⟨_,wO (X9 _ _ UT) (X9 _ _ o6)⟩,?_⟩;refine vT (ds:=jI ((ip rs).map D.str) os) (λ i δ M'=>∃(v10 v11 LC LB:Option D)(gs:List eO),δ=[some (.ref p),some (.ref pr),some (.ref pz),some (.ref po),some (.ref pn),some (.ref pg),v6,v7,v8,v9,v10,v11,LC,LB,wX]/\M' pg=some (.lst (gs.map kM))/\jp N M'/\Paired (λ h x=>h.1=jF x/\uC rs x h.2) gs ((dX rs).take i)) ⟨_,_,_,_,[],rfl,g1,X9,.nil⟩ (λ i δ M' _ h=>?_) (jr λ NX i d δ M' df hd h=>?_) (λ δ M' h=>?_)
  ·obtain⟨_,_,_,_,_,_,_,h,_⟩:=h;exact wO (h _ _ UT) (h _ _ o6)
  ·obtain⟨v10,v11,LC,LB,gs,rfl,g2,E2,RK⟩:=h;unfold jI at hd;rw[w6]at hd;cases e3:(dX rs)[i]? with
   |none=>rw[j7 (by rw[length_zip,B4];unfold ip;rw[B4];have:=c6.mp e3;lia)]at hd;cases hd
   |some x=>
    have hx:=k4 e3;have hi:=(c5.mp e3).1;have ax:=dW hR hx;obtain⟨oi,eo⟩:∃oi,os[i]?=some oi:=⟨os[i]'(),c8 _⟩;obtain⟨x',XE,qo,ops,rfl,bq,U6,vQ⟩:=Paired.get pos eo;rw[e3]at XE;cases XE;have ed:d=.tup [.str (jF x),.ref qo]:=by rw[(getElem?_zip_eq_some (z:=(D.str (jF x),D.ref qo))).mpr ⟨by unfold ip;rw[w6,w6,e3];rfl,eo⟩]at hd;exact(B0 hd).symm
    subst ed;have gsl:gs.length<=12:=by rw[RK.length,A3];lia
    rfl';intro pt K6;have tg:pt≠pg:=(bA g2 K6).symm;have ptN:=jp.free E2 K6;generalize hM:ak M' pt _=N2 at*;obtain⟨ZV,t2⟩:=nw K6 hM;clear hM;have E22:=E2.trans ZV;rfl';refine bM (E22 _ _ U6) ?_;let f:List Str->Row:=λ q=>gx (ip rs) (mf q)
    refine dA (ds:=ops) (λ j δ wL=>∃(LB:Option D),δ=[some (.ref p),some (.ref pr),some (.ref pz),some (.ref po),some (.ref pn),some (.ref pg),v6,v7,v8,v9,some (.str (jF x)),some (.ref qo),some (.ref pt),LB,wX]/\wL pt=some (.lst ((((xI rs x).take j).map f).map row))/\jp M' wL) ⟨_,rfl,t2,ZV⟩ (λ j δ wL _ h=>?_) (jr λ NY j d δ N3 Tw hd2 h=>?_) (λ δ N3 h=>?_)
    ·obtain⟨_,_,_,h⟩:=h;exact h _ _ (E2 _ _ U6)
    ·obtain⟨LB,rfl,t3,E3⟩:=h;obtain⟨ys,ey,w,rfl,_,hw⟩:=Paired.get vQ hd2;have hy2:=xH (k4 ey);have hj:=(c5.mp ey).1;have U_:(xI rs x).length<=63:=jg hR ax.1 ax.2.2.2;have Vt:=E2.trans E3;rfl';refine⟨⟨rfl,_,t3⟩,?_⟩;rfl';refine bM (Vt _ _ UT) ?_;refine kh D.str (λ z=>D.int (oX (mf ys) z)) () (Vt _ _ UT) (λ m z K hz hK=>?_) ?_
     ·rfl';refine bM (Vt _ _ hw) ?_;refine An RZ (λ y=>decide (y=z)) (λ _=>D.int 1) () (Vt _ _ hw) (λ m y K1 K2 hy h1 h2=>?_) ?_
      ·unfold RZ;rfl';cases e:decide (y=z)with
       |true=>exact h1 e
       |false=>exact h2 e
      ·rw[show(ys.filter λ y=>decide (y=z)).map (λ _=>D.int 1)=((ys.filter λ y=>decide (y=z)).map λ _=>(1:Int)).map D.int by rw[D6];rfl];refine Hg ?_;rw[<- JT];exact hK
     rfl';refine cx t3 (by rw[B4,B4,A3];exact p8 (show _<=63 by lia) (by decide)) ?_;refine Tw _ _ ⟨_,rfl,?_,E3.own K6⟩;rw[ai,take_one (a:=ys) ey,B6,B6];refine J3 _ (J3 _ (J3 _ ?_));show[D.tup ((ip rs).map λ z=>D.int (oX (mf ys) z))]=[row (gx (ip rs) (mf ys))];unfold row gx;rw[D6];rfl
    ·obtain⟨LB,rfl,t3,E3⟩:=h;rw[vQ.length,z9]at t3;have g3:=E3 _ _ g2;rfl';refine⟨⟨rfl,_,g3⟩,?_⟩;rfl';refine⟨_,_,rfl,.inr ⟨pt,rfl,t3⟩,?_,λ r hr=>?_,λ out ho eG ob=>?_⟩
     ·rw[B4];have:(xI rs x).length<=63:=jg hR ax.1 ax.2.2.2;lia
     ·obtain⟨ys,_,rfl⟩:=D5.mp hr;show(gx (ip rs) (mf ys)).length<=1000;rw[lN];lia
     rfl';refine cx g3 (by rw[B4];exact p8 (show _<=12 by lia) (by decide)) ?_;refine df _ _ ⟨_,_,_,_,gs++[(jF x,out)],rfl,by rw[ai,B6];rfl,(E2.trans E3).own U8,?_⟩;rw[take_one (a:=x) e3];exact RK.snoc ⟨rfl,Qd eG ob ho⟩
  ·obtain⟨v10,v11,LC,LB,gs,rfl,g2,E2,RK⟩:=h;have zl:(jI ((ip rs).map D.str) os).length=(dX rs).length:=by unfold jI ip;rw[B4,length_zip,B4,B4,AK,Nat.min_self]
   rw[zl,z9]at RK;rfl';exact hG g2 (ao (k gs M' (Yj.trans E2) RK))
theorem Lg{rs:List Ru}:∀{xs:List (Ru×Nat)} {g1 g2:List eO},Paired (λ h x=>h.1=jF x/\uC rs x h.2) g1 xs->Paired (λ h x=>h.1=jF x/\uC rs x h.2) g2 xs->g1=g2
 |[],[],[],_,_=>rfl
 |_::_,h1::g1,h2::g2,a,b=>by
  cases a with
  |cons a1 a2=>cases b with
   |cons b1 b2=>rw[Lg a2 b2,Prod.ext (x:=h1) (y:=h2) (a1.1.trans b1.1.symm) (LD a1.2.1 b1.2.1 λ r=>(a1.2.2 r).trans (b1.2.2 r).symm)]
 |[],_::_,_,a,_=>by cases a
 |[],[],_::_,_,b=>by cases b
 |_::_,[],_,a,_=>by cases a
 |_::_,_::_,[],_,b=>by cases b
theorem tv{rs:List Ru}:∀{xs:List (Ru×Nat)} {g:List eO},Paired (λ h x=>h.1=jF x/\uC rs x h.2) g xs->g.map (·.1)=xs.map jF
 |[],[],_=>rfl
 |_::_,_::_,a=>by
  cases a with
  |cons a1 a2=>rw[C6,C6,tv a2,a1.1]
 |[],_::_,a=>by cases a
 |_::_,[],a=>by cases a
def JD{rs:List Ru}(hR:cC rs){g:List eO}(h:AD rs g):GoodG g:=by
 have hl:=h.length;have Jx:=eV hR;refine⟨(),by rw[tv h];exact mE hR,λ i hp hi=>?_⟩;obtain⟨x,ex,e1,hc⟩:=Paired.get h hi;have hx:=k4 ex;have ax:=dW hR hx;have ro:=hR.ok _ ax.1;refine⟨?_,?_,?_,λ r hr=>?_,hc.1⟩
 ·rw[e1];show(nm x.1.w x.2).length<=100;rw[CW ax.2.2.2];have:=ro.wd.len;lia
 ·rw[e1];exact zG ro.wd ax.2.1 ax.2.2.2
 ·have eG:hp.2.Nodup:=hc.1.imp λ{x y} q e=>by subst e;exact bi (jk _ _ q) (by rw[q];decide)
  have:=List.Nodup.length_le_of_subset eG (l₂:=L9 rs x) λ r hr=>(hc.2 r).mp hr;have h2:=xG hR hx;unfold L9 at this;rw[B4]at this;lia
 ·obtain⟨a1,a2,a3,_⟩:=BM hR ex ((hc.2 r).mp hr);exact⟨by rw[a1,hl];unfold ip;rw[B4],a2,a3⟩
def TB{g:List eO}(h:GoodG g):Dp 5 (mV g):=by
 refine .inr ⟨_,rfl,by rw[B4];have:=h.1;lia,λ d hd=>?_⟩;obtain⟨hp,hh,rfl⟩:=D5.mp hd;obtain⟨i,hi⟩:=mem_iff_getElem?.mp hh;obtain⟨_,_,h3,h4,_⟩:=h.2.2 i hp hi;refine .inr ⟨_,rfl,by show 2<=10000;decide,λ d hd=>?_⟩;rcases C7.mp hd with rfl|hd
 ·exact .inl True.intro
 ·rw[r6.mp hd];refine .inr ⟨_,rfl,by rw[B4];lia,λ d hd=>?_⟩;obtain⟨r,hr,rfl⟩:=D5.mp hd;exact OL 0 (by have:=(h4 r hr).len;have:=h.1;lia)
def Ww(it:List Ru×List eO):D:=.tup [.str (Txt.join (one 10) (gO it.1)),mV it.2]
def NB(F:dh K "law" "law" (top 80) f fd)(T:dP K mg)(wc:bb P w K mg base 1 "_law_flow" ["_law_script"] xj)(tS:bb P w K mg base 4 "_law_rules" ["_law_flow_here","_law_most"] xh)(ke:bb P w K mg base 1 "_law_rule_lines" ["_law_rules_here"] xi)(nA:bb P w K mg base 5 "_law_due_game" ["_law_rules_here","_law_rows"] Q0)(OP:bb P w K mg base 7 "read" ["text"] QM)(gY:bb P w K mg base 6 "_law_alike" ["_law_found","_law_due"] (BC 5))(tQ:bb P w K mg base 4 "look_game" ["game"] QV):bg P w K mg base cM 8 f fd ["_law_script"] (bD K rO):=by
 refine dU F ["_law_script","_law_flow_here","_law_asked","_law_k","_law_rules_here","_law_text","_law_due","_law_found"] (λ b_ A outer s H E ds M Q nd hr h=>?_)
 ·obtain⟨ns,rfl,k⟩:=h;refine⟨_,(aa (aA 1 (aB wc (br (aj 0))))
 (aa (aA 2 (a_ bp))
 (aa (bo (fv T.range (br ag)) (aF 3)
 (aa (aA 4 (aB tS (cb (aj 1) ag)))
 (ae (aN (cW e7 c7 c9 bB (aj 2) (br (cz (cb (cW PySem.F.plainAttrs_str PySem.F.slot_str_join PySem.F.type_str_join vE aV (br (aB ke (br (aj 4))))) (aB nA (cb (aj 4) (a_ bp)))))))))))
 (aa (bo (aM (bu bx (aj 2) (eP ku (aj 2) fT (ef ag)))) (eD (n:=2) (aR (aF 5) (aR (aF 6) dj)))
 (aa (aA 7 (aB OP (br (aj 5))))
 (ae (aY (lS (jK (cJ (aB gY (cb (aj 7) (aj 6))))) (ix (aI NJ (aB tQ (br (aj 7))) kY))).pt
 (ae (aD kY))
 aK))))
 (ae (aD kY)))))),?_⟩
  rfl';refine⟨ns,rfl,λ f cc M1 hF ZM=>?_⟩;rfl';intro pa Ol;have paf:pa≠f:=(hF.ne Ol).1;generalize hM:ak M1 pa _=M2 at*;obtain⟨X2,a2⟩:=nw Ol hM;clear hM;have F2:Fl f cc M1 M2:=(⟨hF,λ _ _ _ e=>e⟩:Fl f cc M1 M1).x X2;rfl';refine⟨cX () (),?_⟩;refine gU (λ i δ M'=>∃(v3 v4:Option D)(av:List (List Ru×List eO)),δ=GG (some (.fl (ns.map D.int))) (some (.ref f)) (some (.ref pa)) v3 v4 none none none/\M' pa=some (.lst (av.map Ww))/\av.length=i/\(∀it∈av,cC it.1/\AD it.1 it.2)/\Fl f cc M1 M') ⟨_,_,[],rfl,a2,rfl,(λ it h=>by cases h),F2⟩ (jr λ NX i d δ M' df hd h=>?_) (λ δ M' h=>?_)
  ·obtain⟨v3,v4,av,rfl,a3,D',hits,F3⟩:=h;obtain⟨hi,rfl⟩:=cZ hd;have hi:i<2:=hi;rfl';refine⟨f,cc,rfl,F3.dY,λ p rs M4 hR ZK F4=>?_⟩;have a4:=F4.mv _ _ paf a3;rfl';refine⟨⟨rfl,_,a4⟩,?_⟩;rfl';refine⟨rfl,?_⟩;rfl';refine⟨_,p,rs,rfl,hR,ZK,λ q M5 hq E5 q5=>?_⟩;rfl';refine rV pM.2 q5 (λ w hw=>by
    obtain⟨ws,bP,rfl⟩:=vG hR hw;have:=vH bP;lia) (by have:=qj hR;lia) ?_
   rfl';intro pe hpe;generalize hM:ak M5 pe _=M6 at*;obtain⟨X6,e6⟩:=nw hpe hM;clear hM;rfl';refine⟨_,p,pe,rs,rfl,hR,ZK.ext (E5.trans X6),e6,λ g M7 E7 hg=>?_⟩;have EE:=(E5.trans X6).trans E7;rfl';refine cx (EE _ _ a4) (by rw[B4];exact p8 (show _<=2 by lia) (by decide)) ?_;refine df _ _ ⟨_,_,av++[(rs,g)],rfl,by rw[ai,B6];rfl,by rw[n9,D'];rfl,λ it hit=>?_,((F3.trans F4).x EE).own hF Ol⟩;rcases B5.mp hit with e|e
   ·exact hits it e
   ·rw[r6.mp e];exact⟨hR,hg⟩
  ·obtain⟨v3,v4,av,rfl,a3,D',hits,F3⟩:=h;rw[bw]at D';have D':av.length=2:=D';rfl';refine zj a3 (by decide) λ q hq=>?_;rw[show((1:Int).toNat)=1 from rfl,<- map_take];generalize hM:ak M' q _=M4 at*;obtain⟨X4,q4⟩:=nw hq hM;clear hM;refine jc (X4 _ _ a3) q4 (small (by simp;lia)) λ q5 Pz=>?_;rw[<- B6];generalize hM:ak M4 q5 _=M5 at*;obtain⟨X5,KI⟩:=nw Pz hM;clear hM;have vR:∀it∈av++av.take 1,cC it.1/\AD it.1 it.2:=λ it h=>by
    rcases B5.mp h with e|e
    ·exact hits it e
    ·exact hits it (k8 e)
   generalize av++av.take 1=us at*;refine bM KI ?_;refine dA (ds:=us.map Ww) (λ i δ M'=>∃v5 v6 v7:Option D,δ=GG (some (.fl (ns.map D.int))) (some (.ref f)) (some (.ref pa)) v3 v4 v5 v6 v7/\jp M5 M') ⟨_,_,_,rfl,jp.rfl⟩ (λ i δ M' _ h=>?_) (λ i d δ M' hd h=>?_) (λ δ M' h=>?_)
   ·obtain⟨_,_,_,_,h⟩:=h;exact h _ _ KI
   ·obtain⟨v5,v6,v7,rfl,E6⟩:=h;rw[w6]at hd;cases e3:us[i]? with
    |none=>rw[e3]at hd;cases hd
    |some it=>rw[e3]at hd;cases hd;obtain⟨hR,hg0⟩:=vR it (k4 e3);unfold Ww;rfl';refine⟨it.1,rfl,hR,λ g M7 E7 hg=>?_⟩;obtain rfl:=Lg hg hg0;have K':=JD hR hg;rfl';refine⟨_,rfl,TB K',?_⟩;rfl';refine⟨_,rfl,K',λ M8 E8=>?_⟩;rfl';exact⟨_,_,_,rfl,E6.trans (E7.trans E8)⟩
   ·obtain⟨v5,v6,v7,rfl,E6⟩:=h;rfl';exact ao (k _)
def Wy(i:Nat):Stmt:=match top i with
 | .ClassDef _ _ _ b _ _ _ _ _ _ _=>b.getD 0 (.Pass ⟨0,0,0,0⟩)
 |_=>.Pass ⟨0,0,0,0⟩
def DG(K:J8):gA K "bool":=⟨by kernel_rfl,by kernel_rfl,by kernel_rfl,by kernel_rfl,by kernel_rfl,by kernel_rfl⟩
def Jl(K:J8):gA K "int":=⟨by kernel_rfl,by kernel_rfl,by kernel_rfl,by kernel_rfl,by kernel_rfl,by kernel_rfl⟩
def DF(K:J8):gA K "list":=⟨by kernel_rfl,by kernel_rfl,by kernel_rfl,by kernel_rfl,by kernel_rfl,by kernel_rfl⟩
def Jk(K:J8):gA K "str":=⟨by kernel_rfl,by kernel_rfl,by kernel_rfl,by kernel_rfl,by kernel_rfl,by kernel_rfl⟩
def zV(K:J8):gA K "tuple":=⟨by kernel_rfl,by kernel_rfl,by kernel_rfl,by kernel_rfl,by kernel_rfl,by kernel_rfl⟩
def NU(hO:Kf H)(hS:dv K H a (ns.map V.int)):bD K rO [.ref a] H (λ v _=>v=.bl true) λ _ _ _=>False:=by
 have Xi:FO K H a (ns.map V.int):=by
  rcases hS with(h|⟨o,h⟩)|h
  ·rcases hO a with z|⟨o,xs,z⟩
   ·rw[z]at h;cases h
   ·rw[z]at h;cases h
  ·exact .inl ⟨o,h⟩
  ·exact .inr h
 refine⟨[.fl (ns.map D.int)],λ _=>none,λ d _=>d=.bl true,aE.one (iJ.mpr ⟨a,_,rfl,Xi,j_ ns⟩),λ a o e=>(by cases e),⟨ns,rfl,λ _=>rfl⟩,λ v H' d M' hd hm t e=>?_⟩;subst e;exact aL.mp hd
def Ja{A:Type}{P:List A->Prop}(h:∀a t,t.length=n->P (a::t)):∀us:List A,us.length=n+1->P us
 |[],e=>nomatch e
 |a::t,e=>h a t (Nat.succ.inj e)
def SS{A:Type}{P:List A->Prop}(h:∀a,P [a]):∀us:List A,us.length=1->P us:=Ja λ a t e=>by rw[eq_nil_of_length_eq_zero e];exact h a
def NT{A:Type}{P:List A->Prop}(h:∀a b,P [a,b]):∀us:List A,us.length=2->P us:=Ja λ a=>SS (P:=λ t=>P (a::t)) (h a)
def SR{A:Type}{P:List A->Prop}(h:∀a b c,P [a,b,c]):∀us:List A,us.length=3->P us:=Ja λ a=>NT (P:=λ t=>P (a::t)) (h a)
def Wn{A:Type}{P:List A->Prop}(h:∀a b c d,P [a,b,c,d]):∀us:List A,us.length=4->P us:=Ja λ a=>SR (P:=λ t=>P (a::t)) (h a)
structure bG(K:J8)(mg:Str->Option al)(x:Str)(i:Nat)(f:be)(d:FuncData):Prop where
 m:mg x=some (.ref f)
 F:dh K x x (top i) f d
def bG.mk'{x:Str}{d:FuncData}(t:bG K mg x i f d)(l:PySem.W.OpenLaw)(w:World)(base:Heap){sp:Sp}(G:bg l.prog w K mg base cM k f d ps sp)(h:∀(kV doc pm:al)(an:Option be)(b_ ct:al)(us:List al),us.length=ps.length->bindArgs (PySem.W.fnOf x x (dM (top i)) (cF (top i)) (bF (top i)) .none kV doc pm an b_ ct) ⟨us,[]⟩=pure (ps.zip us):=by intro _ _ _ _ _ _;first|exact SS λ _=>rfl|exact NT λ _ _=>rfl|exact SR λ _ _ _=>rfl|exact Wn λ _ _ _ _=>rfl|exact aaH λ _ _ _ _ _=>rfl):iu l.prog w K mg base k x ps sp:=iu.of t.F G t.m (t.F.binds h)
def all_mk{l:PySem.W.OpenLaw}{w:World}{K:J8}{mg:Str->Option al}{f0 f1 f2 f3 f4 f5 f6 f7 f8 f9 f10 f11 f12 f13 f14 f15 f16 f17 f18 f19 f20 f21 f22 f23 f24 f25 f26 f27 f28 f29 f30 f31 f32 f33 f34 f35 f36 f37 f38 f39 f40 f41 f42 f43 f44 f45 f46 f47 f48 f49 f50 f51 f52 f53 ZO:be}{d0 d1 d2 d3 d4 d5 d6 d7 d8 d9 d10 d11 d12 d13 d14 d15 d16 d17 d18 d19 d20 d21 d22 d23 d24 d25 d26 d27 d28 d29 d30 d31 d32 d33 d34 d35 d36 d37 d38 d39 d40 d41 d42 d43 d44 d45 d46 d47 d48 d49 d50 d51 d52 d53:FuncData}{kV dc pm cd ct:al}{an:Option be}
  (T:dP K mg)
  (t0:bG K mg "places_of" 8 f0 d0)
  (t1:bG K mg "is_word" 14 f1 d1)
  (t2:bG K mg "is_figure" 15 f2 d2)
  (t3:bG K mg "is_name" 16 f3 d3)
  (t4:bG K mg "is_many" 20 f4 d4)
  (t5:bG K mg "term_of" 21 f5 d5)
  (t6:bG K mg "terms_of" 22 f6 d6)
  (t7:bG K mg "refuse_again" 23 f7 d7)
  (t8:bG K mg "refuse_unknown" 24 f8 d8)
  (t9:bG K mg "names_of" 25 f9 d9)
  (Y8:bG K mg "sum_of" 26 f10 d10)
  (Y7:bG K mg "rule_form" 29 f11 d11)
  (Y6:bG K mg "is_ways" 30 f12 d12)
  (Y5:bG K mg "take_form" 31 f13 d13)
  (t14:bG K mg "parted" 32 f14 d14)
  (Y4:bG K mg "heap_form" 33 f15 d15)
  (Y3:bG K mg "row_form" 34 f16 d16)
  (Y2:bG K mg "may_stand" 35 f17 d17)
  (Y1:bG K mg "rows_of" 36 f18 d18)
  (Y0:bG K mg "rules_of" 38 f19 d19)
  (YZ:bG K mg "sizes_of" 39 f20 d20)
  (YY:bG K mg "heap_name" 40 f21 d21)
  (YX:bG K mg "heap_names" 41 f22 d22)
  (YW:bG K mg "rule_heaps" 42 f23 d23)
  (YV:bG K mg "by_two" 43 f24 d24)
  (YU:bG K mg "by_take" 44 f25 d25)
  (YT:bG K mg "rule_options" 45 f26 d26)
  (YS:bG K mg "order_key" 47 f27 d27)
  (YR:bG K mg "in_order" 48 f28 d28)
  (YQ:bG K mg "refuse_twice" 53 f29 d29)
  (YO:bG K mg "refuse_no_name" 54 f30 d30)
  (YN:bG K mg "told_heaps" 55 f31 d31)
  (YM:bG K mg "unlike_options" 56 f32 d32)
  (YL:bG K mg "is_too_many" 57 f33 d33)
  (YK:bG K mg "game_of" 58 f34 d34)
  (YJ:bG K mg "read" 59 f35 d35)
  (YI:bG K mg "is_whole" 61 f36 d36)
  (YH:bG K mg "is_sum" 62 f37 d37)
  (YG:bG K mg "look_name" 63 f38 d38)
  (YF:bG K mg "look_options" 64 f39 d39)
  (YE:bG K mg "look_game" 65 f40 d40)
  (YD:bG K mg "_law_flow" 67 f41 d41)
  (YC:bG K mg "_law_pick" 68 f42 d42)
  (Qq:bG K mg "_law_alike" 69 f43 d43)
  (YB:bG K mg "_law_name" 70 f44 d44)
  (YA:bG K mg "_law_key" 71 f45 d45)
  (Yz:bG K mg "_law_in_order" 72 f46 d46)
  (Yy:bG K mg "_law_words" 73 f47 d47)
  (Yx:bG K mg "_law_take" 74 f48 d48)
  (Yw:bG K mg "_law_rules" 75 f49 d49)
  (Yv:bG K mg "_law_rule_heaps" 76 f50 d50)
  (Yu:bG K mg "_law_come" 77 f51 d51)
  (Yt:bG K mg "_law_due_game" 78 f52 d52)
  (Ys:bG K mg "_law_rule_lines" 79 f53 d53)
  (t54:bG K mg "law" 80 ZO (PySem.W.fnOf "law" "law" (dM (top 80)) (cF (top 80)) (bF (top 80)) .none kV dc pm an cd ct)):
  ∃fd:FuncData,(∀(s:am)(v:al),BindsTo s fd ⟨[v],[]⟩ [("_law_script",v)])/\∀base:Heap,K.In base->base.Ns mainGlobals mg->bg l.prog w K mg base cM 8 ZO fd ["_law_script"] (bD K rO):=by
 refine⟨PySem.W.fnOf "law" "law" (dM (top 80)) (cF (top 80)) (bF (top 80)) .none kV dc pm an cd ct,λ s v=>.of_eq rfl,λ base _ hMk=>?_⟩;have ZU:=Qq.F.binds (ps:=["_law_found","_law_due"]) λ _ _ _ _ _ _=>NT λ _ _=>rfl;have jJ:=YC.mk' l w base (IG YC.F T);have yW:=YD.mk' l w base (IJ YD.F T);have yV:=YB.mk' l w base (II YB.F T jJ);have AY:=YA.mk' l w base (NC YA.F T);have uM:=Yz.mk' l w base (CP Yz.F T AY);have Ba:=iu.of Qq.F (NG Qq.F T Qq.m ZU (P:=l.prog) (w:=w) (base:=base) 5) Qq.m ZU;have FV:=Yy.mk' l w base (R3 Yy.F T yV);have FZ:=Yx.mk' l w base (R7 Yx.F T jJ);have Gb:=Yw.mk' l w base (Sa Yw.F T jJ FV FZ);have Gk:=Ys.mk' l w base (Sk Ys.F T);have fS:=t1.mk' l w base (vq t1.F T);have eC:=t2.mk' l w base (pZ t2.F T);have pA:=t3.mk' l w base (vt t3.F T fS eC);have Gh:=Y7.mk' l w base (Sh Y7.F T fS eC);have FU:=Y6.mk' l w base (R1 Y6.F T);have F':=Y5.mk' l w base (R9 Y5.F T FU eC fS);have Gi:=Y4.mk' l w base (Si Y4.F T);have FT:=Y3.mk' l w base (R0 Y3.F T Gh F' Gi);have Gj:=Y2.mk' l w base (Sj Y2.F T);have Gf:=Y1.mk' l w base (Se Y1.F T FT Gj);have rE:=Y0.mk' l w base (Nv Y0.F T);have wR:=YZ.mk' l w base (R_ YZ.F T);have iV:=YY.mk' l w base (So YY.F T);have A_:=YX.mk' l w base (NF YX.F T iV);have wU:=YW.mk' l w base (Sg YW.F T);have Gu:=YV.mk' l w base (Sv YV.F T iV);have Gv:=YU.mk' l w base (Sw YU.F T iV Gu);have Ge:=YT.mk' l w base (Sd YT.F T Gv);have Gw:=t7.mk' l w base (Sx t7.F T);have FX:=t8.mk' l w base (R5 t8.F T);have rF:=t0.mk' l w base (Nw t0.F T);have rG:=t9.mk' l w base (Nx t9.F T);have Gd:=YQ.mk' l w base (Sb YQ.F T Gw A_ rG);have Gg:=YO.mk' l w base (Sf YO.F T rE wR rF iV wU FX rG);have n_:=YS.mk' l w base (IH YS.F T);have AZ:=YR.mk' l w base (ND YR.F T n_);have F_:=YN.mk' l w base (R8 YN.F T rE wR iV Ge wU);have Ga:=Y8.mk' l w base (R' Y8.F T);have FW:=YM.mk' l w base (R4 YM.F T Ga AZ);have FY:=YL.mk' l w base (R6 YL.F T);have Gq:=YK.mk' l w base (Sr YK.F T rF FW FY);have yU:=YJ.mk' l w base (IF YJ.F T Gf Gd Gg F_ Gq);have Gn:=YI.mk' l w base (Sm YI.F T);have Gp:=YH.mk' l w base (Sn YH.F T Gn);have AW:=YG.mk' l w base (Nz YG.F T pA);have AV:=YF.mk' l w base (Ny YF.F T Gp n_);have AX:=YE.mk' l w base (NA YE.F T AW AV);have Gm:=Yv.mk' l w base (Sl Yv.F T);have Gs:=Yu.mk' l w base (Su Yu.F T);have Gr:=Yt.mk' l w base (Ss Yt.F T Gm Gs uM);exact NB t54.F T yW Gb Gk Gr yU Ba AX
def walk{l:PySem.W.OpenLaw}{q:Program}{loose:List Str}{XP:(Str->Option al)->Heap->Prop}{YP:World->Heap->Prop}{d:DefRec}{K:Params->J8}(hn:l.most=some 63)(zY:d.params.defaults=[])
  (hY:∀(w:World)(h:Heap),YP w h->(K w.params).In h)
  (F:∀(w:World)(mg:Str->Option al)(fa:be)(h:Heap),(K w.params).In h->h.Ns mainGlobals mg->mg d.name=some (.ref fa)->
   ∃fd:FuncData,(∀(s:am)(u:al),BindsTo s fd ⟨[u],[]⟩ [("_law_script",u)])/\∀base:Heap,(K w.params).In base->base.Ns mainGlobals mg->bg l.prog w (K w.params) mg base cM 8 fa fd ["_law_script"] (bD (K w.params) rO)):
  PySem.W.WalkO q loose XP YP l.row.toRowW d [] (λ f vs=>PySem.call f vs):=
 L2.GB (n:=63) (k:=8) (x:="_law_script") (CX:=λ _=>cM) (sp:=λ w=>bD (K w.params) rO) hn (by decide) zY ⟨rfl,by decide,by decide⟩ hY F (λ _ _ a ns hl hO hS=>NU hO hS) λ _ _ _ _ _ z=>z
end KK
open PySem.W PyProof.Rows
def PySem.W.Fast.tw11424289402817038063:Program:=PySem.Challenge.pw_lastloser_k07_rules_read
theorem PySem.W.Fast.te11424289402817038063 : PySem.Challenge.pw_lastloser_k07_rules_read = PySem.W.Fast.tw11424289402817038063 := rfl
namespace PySem.W.Fast
def tw7451045129028175170:=0
def tw5950009327821585346:=0
def tw591549298053522053:=0
def tw3352484549207608678:=0
def tw2035885645244354282:=0
def tw14674824304303583820:=0
def tw17389258389358423757:=0
def tw5102051130586791761:=0
def tw3358895529759547538:=0
def tw11849638441166490260:=0
def tw13684788349499142810:=0
def tw14628638289105787486:=0
def tw340943301801174815:=0
def tw16505164067993881503:=0
def tw4179737117646122455:=0
def tw2937679507219677015:=0
def tw9991805934034061440:=0
def tw6623416807899850015:=0
def tw1289604789501702420:=0
def tw773399382575798947:=0
def tw15466199815898217730:=0
def tw8290206787233553993:=0
def tw14511537163591532816:=0
def tw12537920358363369438:=0
def tw7203850378808043825:=0
def tw8237187767308291666:=0
def tw11866927609662129401:=0
def tw1871867717402810261:=0
def tw7362800303593439760:=0
def tw16841572722235253502:=0
def tw4696820077233220636:=0
def tw10905888881866556546:=0
def tw9256083017146253209:=0
def tw16275420863249697742:=0
def tw15618735744356213345:=0
def tw16536465319577462915:=0
def tw1441649129276687527:=0
def tw10749941643684597816:=0
def tw1576370493085239149:=0
def tw1698336649578138531:=0
def tw12917671335862693399:=0
def tw7472327110623482743:=0
def tw11503160370262514073:=0
def tw8371104460827915354:=0
def tw5193803019380635213:=0
def tw13604858583444127353:=0
def tw3277040545114569743:=0
def tw2121923213309358593:=0
def tw9753978392941952199:=0
def tw9275103583019138230:=0
def tw16321318823223087407:=0
def tw8627074558977649674:=0
def tw10494988526082395552:=0
def tw14298844706748939353:=0
def tw1779448071533393531:=0
def tw12742274016413870373:=0
def tw6821441129379216719:=0
def tw10595517681941576701:=0
def tw11271443844730904134:=0
def tw16028472198844119132:=0
def tw7636723271873469969:=0
def tw11999888540226345170:=0
def tw2324098425967633837:=0
def tw4812864204728214121:=0
def tw15219098443454032855:=0
def tw10718005791088227793:=0
def tw10027040512102706197:=0
def tw9443461648629425525:=0
def tw16145538440023003506:=0
def tw10347523395377565179:=0
def tw2725777745221521388:=0
def tw11153938058339627910:=0
def tw3178674290798172033:=0
def tw116079405385568864:=0
def tw14024948873412203348:=0
def tw8827217316525194880:=0
def tw16588592426832052930:=0
def tw11016612189433991968:=0
def tw11319604358050190977:=0
def tw606850592514592823:=0
def tw14387819097961851192:=0
def tw15315272031674625684:=0
def tw15089536642852986004:=0
def tw6530840350392379479:=0
def tw16901908566699277579:=0
def tw1153019335940064820:=0
def tw8792490715232218845:=0
def tw17748121879837752905:=0
def tw1583418518688740114:=0
def tw18113224637075689737:=0
def tw7166842302934858153:=0
def tw7149151756345842797:=0
def tw17512437282087382426:=0
def tw6856233584516867496:=0
def tw3319498847039238803:=0
def tw17949209277752094487:=0
def tw17400884528096982541:=0
def tw11598451509873617806:=0
def tw4962340178538763249:=0
def tw4827199711293048497:=0
def tw11680095651648697332:=0
def tw5574004459383599289:=0
def tw12506540626683457712:=0
def tw1623171459917331963:=0
def tw11557237396496739170:=0
def tw4440934442100760810:=0
def tw13827168991618060090:=0
def tw11236321756362563227:=0
def tw14950388630791470922:=0
def tw13414723342189170862:=0
def tw1465707430585409728:=0
def tw16290835273020105960:=0
def tw533711057553076144:=0
def tw2697185165272407269:=0
def tw10432229079499137776:=0
def tw10822770654636846156:=0
def tw13967125738065102326:=0
def tw8380974026880068337:=0
def tw15128360624285059271:=0
def tw6310433094758044128:=0
def tw10161434489375854649:=0
def tw9809375543843735921:=0
def tw13907526820797342038:=0
def tw5001888480293316384:=0
def tw13582372751188501937:=0
def tw4939731511900146656:=0
def tw12375317147662260049:=0
def tw1019657364260994392:=0
def tw4735562844390618774:=0
def tw12594757055553149461:=0
def tw2350962832499582456:=0
def tw11364574221750965063:=0
def tw13280778334728283384:=0
def tw12496915750565418501:=0
def tw14537020407473850847:=0
def tw13575079771150751734:=0
def tw16510565353866997520:=0
def tw15292153874791446201:=0
def tw5184380369925668874:=0
def tw5121045284624378359:=0
def tw8818984762136994411:=0
def tw18192930600097181620:=0
def tw562836606786008227:=0
def tw11231672407778977865:=0
end PySem.W.Fast
namespace KK
open L2
noncomputable def kE(P:Params)(x:Str)(t:Nat)(v:al):DictEntry:={hash:=PyData.keyHash P x,key:=.str x t,val:=v}
noncomputable def kO(x:Str)(t l n r s u:Nat)(v w:al):Obj:={cls:=.type "code",data:=.fields #[.str x t,.str x (t+1),.str "/claim/cut.py" (t+2),.int l 0,.int n 0,.int 0 0,.int 0 0,.int 3 0,.ref r,.bool true,.int 181 0,.ref (r+1),.none,v,w,.ref s,.int u 0,.int l 0,.str "/claim/cut.py" (u+1)]}
noncomputable def kF(x:Str)(i:Nat)(m:Str×Nat)(c:Nat)(d:al:=.none):Obj:={cls:=.type "function",data:=.func (PySem.W.fnOf x x (dM (top i)) (cF (top i)) (bF (top i)) d .none .none (.str m.1 m.2) none (.ref c) .none)}
noncomputable def SX(q:Str)(c t l n u:Nat):Obj:={cls:=.type "code",data:=.fields #[.str "__init__" t,.str q (t+1),.str "/claim/cut.py" (t+2),.int l 0,.int n 0,.int 0 0,.int 0 0,.int 3 0,.ref (c-5),.bool true,.int 181 0,.ref (c-4),.none,.ref (c-3),.ref (c-2),.ref (c-1),.int u 0,.int l 0,.str "/claim/cut.py" (u+1)]}
noncomputable def SY(q:Str)(i:Nat)(m:Str×Nat)(c:Nat):Obj:={cls:=.type "function",data:=.func (PySem.W.fnOf "__init__" q (dM (Wy i)) (cF (Wy i)) (bF (Wy i)) .none .none .none (.str m.1 m.2) none (.ref c) .none)}
abbrev kC(x:Str)(a:Nat)(bs bm sub:List al)(s t u:Nat):Obj:=excClassObj x x a (a-1) bs bm true [] sub false none none (some (.ref s)) none (some (.str x t)) (some (.str x u)) (some (.bool true)) "ValueError.__new__"
noncomputable def kP(x:Str)(a i:Nat)(m:Str×Nat)(t l n u q:Nat)(d:al:=.none):List (Nat×Obj):=[(a,if q=0 then kO x t l n (a-3) (a-1) u .none .none else kO x t l n (a-5) (a-1) u (.ref (a-3)) (.ref (a-2))),(a+1,kF x i m a d)]
noncomputable def m9:Str×Nat:=("lastloser.errors",187)
noncomputable def m0:Str×Nat:=("lastloser.games",672)
noncomputable def m1:Str×Nat:=("lastloser.places",332)
noncomputable def m2:Str×Nat:=("lastloser.reader",611)
noncomputable def m3:Str×Nat:=("lastloser.rowforms",450)
noncomputable def m4:Str×Nat:=("lastloser.rules",520)
noncomputable def m5:Str×Nat:=("lastloser.sums",596)
noncomputable def m6:Str×Nat:=("lastloser.sumtexts",389)
noncomputable def m7:Str×Nat:=("lastloser.words",344)
noncomputable def m8:Str×Nat:=("law_lastloser_k07_rules_read",712)
noncomputable def kD(P:Params):Obj:={cls:=.type "dict",data:=.dict #[kE P "__name__" 165 (.str "law_lastloser_k07_rules_read" 712),kE P "__doc__" 166 .none,kE P "__package__" 167 .none,kE P "__loader__" 168 (.builtin "__main__.__loader__#opaque"),kE P "__spec__" 169 .none,kE P "__annotations__" 170 (.ref 6),kE P "__builtins__" 171 (.ref 4),kE P "__file__" 173 (.str "/claim/cut.py" 172),kE P "__cached__" 174 .none,kE P "HeapError" 206 (.ref 24),kE P "NoText" 231 (.ref 44),kE P "Twice" 256 (.ref 63),kE P "NoName" 281 (.ref 82),kE P "TooMany" 304 (.ref 101),kE P "NoGame" 331 (.ref 120),kE P "places_of" 343 (.ref 129),kE P "LETTERS" 347 (.str "abcdefghijklmnopqrstuvwxyz" 346),kE P "FIGURES" 357 (.ref 130),kE P "TAKEN" 366 (.ref 131),kE P "LONGEST_WORD" 368 (.int 5 367),kE P "is_word" 374 (.ref 136),kE P "is_figure" 381 (.ref 143),kE P "is_name" 388 (.ref 150),kE P "DIGITS" 392 (.str "0123456789" 391),kE P "MOST_DIGITS" 394 (.int 31 393),kE P "is_many" 400 (.ref 155),kE P "term_of" 408 (.ref 162),kE P "terms_of" 414 (.ref 167),kE P "refuse_again" 423 (.ref 174),kE P "refuse_unknown" 432 (.ref 181),kE P "names_of" 438 (.ref 186),kE P "sum_of" 449 (.ref 193),kE P "WAYS" 455 (.ref 194),kE P "rule_form" 462 (.ref 201),kE P "is_ways" 468 (.ref 206),kE P "take_form" 477 (.ref 213),kE P "parted" 486 (.ref 220),kE P "heap_form" 492 (.ref 225),kE P "row_form" 499 (.ref 232),kE P "may_stand" 507 (.ref 239),kE P "rows_of" 519 (.ref 246),kE P "rules_of" 530 (.ref 253),kE P "sizes_of" 539 (.ref 260),kE P "heap_name" 547 (.ref 267),kE P "heap_names" 553 (.ref 272),kE P "rule_heaps" 559 (.ref 277),kE P "by_two" 570 (.ref 284),kE P "by_take" 584 (.ref 291),kE P "rule_options" 595 (.ref 298),kE P "order_key" 603 (.ref 303),kE P "in_order" 610 (.ref 310),kE P "MOST_HEAPS" 614 (.int 12 613),kE P "MOST_OPTIONS" 616 (.int 60 615),kE P "MOST_IN_OPTION" 618 (.int 4 617),kE P "refuse_twice" 629 (.ref 317),kE P "refuse_no_name" 635 (.ref 322),kE P "told_heaps" 641 (.ref 327),kE P "unlike_options" 651 (.ref 334),kE P "is_too_many" 657 (.ref 339),kE P "game_of" 663 (.ref 344),kE P "read" 671 (.ref 351),kE P "is_whole" 680 (.ref 358),kE P "is_sum" 686 (.ref 363),kE P "look_name" 695 (.ref 370),kE P "look_options" 701 (.ref 375),kE P "look_game" 711 (.ref 382),kE P "_law_flow" 720 (.ref 389),kE P "_law_pick" 730 (.ref 396),kE P "_law_alike" 736 (.ref 401),kE P "_law_name" 742 (.ref 406),kE P "_law_key" 748 (.ref 411),kE P "_law_in_order" 754 (.ref 416),kE P "_law_words" 766 (.ref 423),kE P "_law_take" 772 (.ref 428),kE P "_law_rules" 778 (.ref 433),kE P "_law_rule_heaps" 784 (.ref 438),kE P "_law_come" 800 (.ref 445),kE P "_law_due_game" 806 (.ref 450),kE P "_law_rule_lines" 820 (.ref 457),kE P "law" 834 (.ref 464)] 80}
noncomputable def n24(P:Params):Obj:={cls:=.type "dict",data:=.dict #[kE P "__module__" 196 (.str "lastloser.errors" 187),kE P "__firstlineno__" 200 (.int 2 199),kE P "__static_attributes__" 201 (.ref 22),kE P "__weakref__" 203 (.ref 25),kE P "__doc__" 204 .none] 3}
noncomputable def n44(P:Params):Obj:={cls:=.type "dict",data:=.dict #[kE P "__module__" 214 (.str "lastloser.errors" 187),kE P "__firstlineno__" 218 (.int 4 217),kE P "__init__" 226 (.ref 41),kE P "__static_attributes__" 228 (.ref 42),kE P "__doc__" 229 .none] 2}
noncomputable def n63(P:Params):Obj:={cls:=.type "dict",data:=.dict #[kE P "__module__" 239 (.str "lastloser.errors" 187),kE P "__firstlineno__" 243 (.int 9 242),kE P "__init__" 251 (.ref 60),kE P "__static_attributes__" 253 (.ref 61),kE P "__doc__" 254 .none] 2}
noncomputable def n82(P:Params):Obj:={cls:=.type "dict",data:=.dict #[kE P "__module__" 264 (.str "lastloser.errors" 187),kE P "__firstlineno__" 268 (.int 14 267),kE P "__init__" 276 (.ref 79),kE P "__static_attributes__" 278 (.ref 80),kE P "__doc__" 279 .none] 2}
noncomputable def Wi(P:Params):Obj:={cls:=.type "dict",data:=.dict #[kE P "__module__" 289 (.str "lastloser.errors" 187),kE P "__firstlineno__" 293 (.int 19 292),kE P "__init__" 300 (.ref 98),kE P "__static_attributes__" 301 (.ref 99),kE P "__doc__" 302 .none] 2}
noncomputable def Wh(P:Params):Obj:={cls:=.type "dict",data:=.dict #[kE P "__module__" 312 (.str "lastloser.errors" 187),kE P "__firstlineno__" 316 (.int 23 315),kE P "__init__" 325 (.ref 117),kE P "__static_attributes__" 328 (.ref 118),kE P "__doc__" 329 .none] 2}
noncomputable def kT(vs:List al)(n:Nat):Obj:={cls:=.type "tuple",data:=.seq vs.toArray n}
noncomputable def kK(P:Params):J8:=(3,kD P)::[(2,{cls:=.none,data:=.dict #[]}),(23,n24 P),(24,kC "HeapError" 24 [.type "ValueError"] [.type "ValueError",.type "Exception",.type "BaseException",.type "object"] [.ref 44,.ref 63,.ref 82,.ref 101,.ref 120] 15 189 197),(43,n44 P),(44,kC "NoText" 44 [.ref 24] [.ref 24,.type "ValueError",.type "Exception",.type "BaseException",.type "object"] [] 28 207 215),(40,SX "NoText.__init__" 40 219 6 2 224),(41,SY "NoText.__init__" 2 m9 40),(62,n63 P),(63,kC "Twice" 63 [.ref 24] [.ref 24,.type "ValueError",.type "Exception",.type "BaseException",.type "object"] [] 47 232 240),(59,SX "Twice.__init__" 59 244 11 2 249),(60,SY "Twice.__init__" 3 m9 59),(81,n82 P),(82,kC "NoName" 82 [.ref 24] [.ref 24,.type "ValueError",.type "Exception",.type "BaseException",.type "object"] [] 66 257 265),(78,SX "NoName.__init__" 78 269 16 2 274),(79,SY "NoName.__init__" 4 m9 78),(100,Wi P),(101,kC "TooMany" 101 [.ref 24] [.ref 24,.type "ValueError",.type "Exception",.type "BaseException",.type "object"] [] 85 282 290),(97,SX "TooMany.__init__" 97 294 21 1 298),(98,SY "TooMany.__init__" 5 m9 97),(119,Wh P),(120,kC "NoGame" 120 [.ref 24] [.ref 24,.type "ValueError",.type "Exception",.type "BaseException",.type "object"] [] 104 305 313),(116,SX "NoGame.__init__" 116 317 25 3 323),(117,SY "NoGame.__init__" 6 m9 116),(130,kT [.str "1" 348,.str "2" 349,.str "3" 350,.str "4" 351,.str "5" 352,.str "6" 353,.str "7" 354,.str "8" 355,.str "9" 356] 0),(131,kT [.str "row" 358,.str "to" 359,.str "take" 360,.str "none" 361,.str "one" 362,.str "two" 363,.str "as" 364,.str "heap" 365] 0),(194,kT [.str "none" 452,.str "one" 453,.str "two" 454] 0)]++[kP "places_of" 128 8 m1 334 30 1 341 1,kP "is_word" 135 14 m7 369 40 1 372 0,kP "is_figure" 142 15 m7 375 44 1 379 1,kP "is_name" 149 16 m7 382 46 1 386 1,kP "is_many" 154 20 m6 395 51 1 398 0,kP "term_of" 161 21 m6 401 55 1 406 1,kP "terms_of" 166 22 m6 409 64 1 412 0,kP "refuse_again" 173 23 m6 415 71 2 421 1,kP "refuse_unknown" 180 24 m6 424 76 2 430 1,kP "names_of" 185 25 m6 433 80 1 436 0,kP "sum_of" 192 26 m6 439 82 2 447 1,kP "rule_form" 200 29 m3 456 89 1 460 1,kP "is_ways" 205 30 m3 463 93 1 466 0,kP "take_form" 212 31 m3 469 95 1 475 1,kP "parted" 219 32 m3 478 104 1 484 1,kP "heap_form" 224 33 m3 487 112 1 490 0,kP "row_form" 231 34 m3 493 121 1 497 1,kP "may_stand" 238 35 m3 500 129 2 505 1,kP "rows_of" 245 36 m3 508 135 1 517 1,kP "rules_of" 252 38 m4 522 146 1 528 1,kP "sizes_of" 259 39 m4 531 154 1 537 1,kP "heap_name" 266 40 m4 540 159 2 545 1,kP "heap_names" 271 41 m4 548 161 2 551 0,kP "rule_heaps" 276 42 m4 554 163 1 557 0,kP "by_two" 283 43 m4 560 168 3 568 1,kP "by_take" 290 44 m4 571 174 4 582 1,kP "rule_options" 297 45 m4 585 186 3 593 1,kP "order_key" 302 47 m5 598 192 1 601 0,kP "in_order" 309 48 m5 604 194 1 608 1,kP "refuse_twice" 316 53 m2 619 200 1 627 1,kP "refuse_no_name" 321 54 m2 630 211 1 633 0,kP "told_heaps" 326 55 m2 636 222 1 639 0,kP "unlike_options" 333 56 m2 642 228 2 649 1,kP "is_too_many" 338 57 m2 652 233 1 655 0,kP "game_of" 343 58 m2 658 235 1 661 0,kP "read" 350 59 m2 664 243 1 669 1,kP "is_whole" 357 61 m0 674 251 1 678 1,kP "is_sum" 362 62 m0 681 253 2 684 0,kP "look_name" 369 63 m0 687 257 3 693 1,kP "look_options" 374 64 m0 696 262 3 699 0,kP "look_game" 381 65 m0 702 272 1 709 1,kP "_law_flow" 388 67 m8 714 280 1 718 1,kP "_law_pick" 395 68 m8 721 282 2 728 1,kP "_law_alike" 400 69 m8 731 297 2 734 0,kP "_law_name" 405 70 m8 737 309 1 740 0,kP "_law_key" 410 71 m8 743 318 1 746 0,kP "_law_in_order" 415 72 m8 749 320 1 752 0,kP "_law_words" 422 73 m8 755 322 2 764 1,kP "_law_take" 427 74 m8 767 332 2 770 0,kP "_law_rules" 432 75 m8 773 338 2 776 0,kP "_law_rule_heaps" 437 76 m8 779 350 1 782 0,kP "_law_come" 444 77 m8 785 355 4 798 1,kP "_law_due_game" 449 78 m8 801 369 2 804 0,kP "_law_rule_lines" 456 79 m8 807 390 1 818 1,kP "law" 463 80 m8 821 397 1 832 1].flatten
noncomputable def kA:List be:=[3,2,23,24,43,44,40,41,62,63,59,60,81,82,78,79,100,101,97,98,119,120,116,117,130,131,194,128,129,135,136,142,143,149,150,154,155,161,162,166,167,173,174,180,181,185,186,192,193,200,201,205,206,212,213,219,220,224,225,231,232,238,239,245,246,252,253,259,260,266,267,271,272,276,277,283,284,290,291,297,298,302,303,309,310,316,317,321,322,326,327,333,334,338,339,343,344,350,351,357,358,362,363,369,370,374,375,381,382,388,389,395,396,400,401,405,406,410,411,415,416,422,423,427,428,432,433,437,438,444,445,449,450,456,457,463,464]
def tF{h:Heap}{x:Str}(X:K.In h)(G:h.Ns mainGlobals mg)(m:Str×Nat)(c:Nat)(a:PySem.W.nsIn K mainGlobals x=some (some (.ref (c+1))):=by kernel_rfl)(l:K.lookup (c+1)=some (kF x i m c):=by kernel_rfl)(e:PySem.W.codeIn K (.ref c) x=true:=by kernel_rfl):bG K mg x i (c+1) (PySem.W.fnOf x x (dM (top i)) (cF (top i)) (bF (top i)) .none .none .none (.str m.1 m.2) none (.ref c) .none):=
 ⟨C9 X G a,OE (st:=top i) l e (by unfold PySem.W.keepIn;dsimp only;rw[l];rfl)⟩
def kn{h:Heap}{x:Str}(X:K.In h)(G:h.Ns mainGlobals mg)(e:PySem.W.nsIn K mainGlobals x=some none:=by kernel_rfl):mg x=none:=PySem.W.mg_none_of X G e
def gT{h:Heap}(X:K.In h)(G:h.Ns mainGlobals mg)(x:Str)(a:Nat)(vs:List al)(n:Nat)(e:PySem.W.nsIn K mainGlobals x=some (some (.ref a)):=by kernel_rfl)(l:K.lookup a=some (kT vs n):=by kernel_rfl)(v:L3.fX vs=some zs:=by kernel_rfl)(z:vs.length<=sizeLine:=by decide):L3.fQ K mg x (.tup (zs.map L3.D.str)):=
 L3.Eh (C9 X G e) l (by simpa using v) (by simpa using z)
def pg:Program:={PySem.Challenge.pw_lastloser_k07_rules_read with main:={PySem.Challenge.pw_lastloser_k07_rules_read.main with body:=[top 0,top 1,top 2,top 3,top 4,top 5,top 6,top 7,top 8,top 9,top 10,top 11,top 12,top 13,top 14,top 15,top 16,top 17,top 18,top 19,top 20,top 21,top 22,top 23,top 24,top 25,top 26,top 27,top 28,top 29,top 30,top 31,top 32,top 33,top 34,top 35,top 36,top 37,top 38,top 39,top 40,top 41,top 42,top 43,top 44,top 45,top 46,top 47,top 48,top 49,top 50,top 51,top 52,top 53,top 54,top 55,top 56,top 57,top 58,top 59,top 60,top 61,top 62,top 63,top 64,top 65,top 66,top 67,top 68,top 69,top 70,top 71,top 72,top 73,top 74,top 75,top 76,top 77,top 78,top 79,top 80]}}
def lw:PySem.W.OpenLaw:={PySem.Challenge.rw_lastloser_k07_rules_read with prog:=pg}
end KK
set_option maxRecDepth 100000 in
set_option maxHeartbeats 0 in
def KK.pre:KK.lw.Holds:=by
 w_on;o_law;o_head (PySem.W.kHook KK.kK KK.kA (λ _=>by kernel_rfl));(case hw=>w_witness2)
 refine KK.walk (l:=KK.lw) rfl rfl (λ w h Y=>PySem.W.kIn_of Y) ?F
 case F=>
  intro w mg fa h KX G Tj;have hm:mg "law"=some (.ref fa):=Tj;have e:=hm.symm.trans (C9 KX G (v:=.ref (463+1)) (by kernel_rfl));cases e;exact KK.all_mk ⟨KK.kn KX G,KK.kn KX G,KK.kn KX G,KK.kn KX G,KK.kn KX G,KK.kn KX G,KK.kn KX G,KK.kn KX G,KK.kn KX G,KK.kn KX G,KK.kn KX G,KK.kn KX G,KK.kn KX G,KK.kn KX G,KK.kn KX G,KK.kn KX G,KK.kn KX G,KK.kn KX G,KK.DG _,KK.Jl _,KK.DF _,KK.Jk _,KK.zV _,⟨_,.str _,C9 KX G (v:=.str "abcdefghijklmnopqrstuvwxyz" 346) (by kernel_rfl),⟨_,rfl⟩,λ H=>L3.aJ.mpr rfl⟩,KK.gT KX G "FIGURES" 130 [.str "1" 348,.str "2" 349,.str "3" 350,.str "4" 351,.str "5" 352,.str "6" 353,.str "7" 354,.str "8" 355,.str "9" 356] 0,KK.gT KX G "TAKEN" 131 [.str "row" 358,.str "to" 359,.str "take" 360,.str "none" 361,.str "one" 362,.str "two" 363,.str "as" 364,.str "heap" 365] 0,⟨_,.int _,C9 KX G (v:=.int 5 367) (by kernel_rfl),⟨_,rfl⟩,λ H=>L3.aw.mpr rfl⟩,⟨_,.str _,C9 KX G (v:=.str "0123456789" 391) (by kernel_rfl),⟨_,rfl⟩,λ H=>L3.aJ.mpr rfl⟩,⟨_,.int _,C9 KX G (v:=.int 31 393) (by kernel_rfl),⟨_,rfl⟩,λ H=>L3.aw.mpr rfl⟩,KK.gT KX G "WAYS" 194 [.str "none" 452,.str "one" 453,.str "two" 454] 0,⟨_,.int _,C9 KX G (v:=.int 12 613) (by kernel_rfl),⟨_,rfl⟩,λ H=>L3.aw.mpr rfl⟩,⟨_,.int _,C9 KX G (v:=.int 60 615) (by kernel_rfl),⟨_,rfl⟩,λ H=>L3.aw.mpr rfl⟩,⟨_,.int _,C9 KX G (v:=.int 4 617) (by kernel_rfl),⟨_,rfl⟩,λ H=>L3.aw.mpr rfl⟩⟩ (KK.tF KX G KK.m1 128) (KK.tF KX G KK.m7 135) (KK.tF KX G KK.m7 142) (KK.tF KX G KK.m7 149) (KK.tF KX G KK.m6 154) (KK.tF KX G KK.m6 161) (KK.tF KX G KK.m6 166) (KK.tF KX G KK.m6 173) (KK.tF KX G KK.m6 180) (KK.tF KX G KK.m6 185) (KK.tF KX G KK.m6 192) (KK.tF KX G KK.m3 200) (KK.tF KX G KK.m3 205) (KK.tF KX G KK.m3 212) (KK.tF KX G KK.m3 219) (KK.tF KX G KK.m3 224) (KK.tF KX G KK.m3 231) (KK.tF KX G KK.m3 238) (KK.tF KX G KK.m3 245) (KK.tF KX G KK.m4 252) (KK.tF KX G KK.m4 259) (KK.tF KX G KK.m4 266) (KK.tF KX G KK.m4 271) (KK.tF KX G KK.m4 276) (KK.tF KX G KK.m4 283) (KK.tF KX G KK.m4 290) (KK.tF KX G KK.m4 297) (KK.tF KX G KK.m5 302) (KK.tF KX G KK.m5 309) (KK.tF KX G KK.m2 316) (KK.tF KX G KK.m2 321) (KK.tF KX G KK.m2 326) (KK.tF KX G KK.m2 333) (KK.tF KX G KK.m2 338) (KK.tF KX G KK.m2 343) (KK.tF KX G KK.m2 350) (KK.tF KX G KK.m0 357) (KK.tF KX G KK.m0 362) (KK.tF KX G KK.m0 369) (KK.tF KX G KK.m0 374) (KK.tF KX G KK.m0 381) (KK.tF KX G KK.m8 388) (KK.tF KX G KK.m8 395) (KK.tF KX G KK.m8 400) (KK.tF KX G KK.m8 405) (KK.tF KX G KK.m8 410) (KK.tF KX G KK.m8 415) (KK.tF KX G KK.m8 422) (KK.tF KX G KK.m8 427) (KK.tF KX G KK.m8 432) (KK.tF KX G KK.m8 437) (KK.tF KX G KK.m8 444) (KK.tF KX G KK.m8 449) (KK.tF KX G KK.m8 456) (KK.tF KX G KK.m8 463)
theorem PySem.Challenge.cw_lastloser_k07_rules_read_holds : PySem.Challenge.rw_lastloser_k07_rules_read.Holds :=
 KK.pre
