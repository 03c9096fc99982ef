import PyProof.Rows.All
import Wide.All
import OpenK.AllK
import PySem.Challenge.RW_lastloser_k34_whole_right_tables_agree
local macro_rules|`(())=>`(by first|lia|omega)
set_option tactic.hygienic false
local macro_rules|`(tactic|obtain $p:rcasesPatMed:=$t:term)=>`(tactic|first|(refine ii fun k=>?_;rcases $t:term with $p:rcasesPatMed<;>(refine k ?_;clear k))|rcases $t:term with $p:rcasesPatMed)
set_option Elab.async false
set_option linter.all false
set_option maxRecDepth 100000
set_option maxHeartbeats 4000000
open List
abbrev gV:=PySem.Value
abbrev am:=PySem.Shared
abbrev ap:=PySem.Addr
def be:=@absurd
def bn:=@decide_eq_true_iff
def bv:=@List.Nodup.length_le_of_subset
def ce:=@Option.map_eq_some_iff
def dL:=@List.mem_range
def ga:=@List.getElem?_of_mem
def ii:=@Classical.byContradiction
def im:=@Bool.or_eq_true
def io:=@of_decide_eq_true
def a0:=@PyProof.Rows.slot_tuple_getitem
def a8:=@PySem.wpAny_typeNameOfWhole_keyiter
def a9:=@PySem.F.slot_dict_keyiterator_next
def b7:=@PyProof.Rows.callWith_type1
def b8:=@PySem.F.slot_tuple_iterator_next
def b9:=@getElem?_append_right
def c3:=@getD_eq_getElem?_getD
def c4:=@getElem?_append_left
def c5:=@Array.getElem?_eq_getElem
def c6:=@drop_eq_getElem_cons
def c7:=@List.getElem?_eq_some_iff
def c8:=@List.getElem?_eq_none_iff
def c9:=@PySem.F.slot_list_append
def g9:=@getElem?_eq_getElem
def i4:=@PySem.F.type_list_append
def i5:=@PySem.F.plainAttrs_list
def i6:=@getElem?_replicate
def i7:=@PySem.wpAny_callSpecial?_slot
def i8:=@length_eq_zero_iff
def i9:=@take_of_length_le
def j0:=@Array.getElem?_eq_none
def j5:=@PySem.Heap.get?_push_of_some
def j6:=@PySem.Heap.get?_update_other
def j7:=@PySem.Heap.get?_update_self
def j8:=@mem_append_right
def j9:=@length_singleton
def k3:=@Array.getElem?_toList
def k4:=@length_replicate
def k5:=@getElem?_eq_none
def k7:=@mem_cons_of_mem
def k8:=@mem_of_getElem?
def k9:=@mem_append_left
def l5:=@PySem.Around.under_plainId
def l7:=@getElem?_set_ne
def l8:=@PySem.Heap.SameBut.update
def l9:=@getElem?_range
def m8:=@PySem.mem_of_lookup
def m9:=@replicate_succ
def n5:=@Array.length_toList
def n6:=@PySem.Heap.get?_push_size
def n9:=@map_congr_left
def o7:=@mem_cons_self
def o8:=@Bool.false_ne_true
def p4:=@length_append
def p5:=@Bool.false_eq_true
def p6:=@Int.emod_lt_of_pos
def p7:=@PySem.wpAny_setField_rec
def p8:=@Nat.lt_of_le_of_lt
def p9:=@Nat.lt_of_lt_of_le
def q8:=@mem_singleton
def q9:=@PySem.wpAny_Call_Name_kw
def r9:=@of_decide_eq_false
def s9:=@PySem.Obj.data_mapFields
def u3:=@Int.lt_of_le_of_lt
def u4:=@PySem.tupleKind_room_in1
def u5:=@Array.forIn_toList
def u6:=@getElem?_map
def u7:=@decide_eq_true_eq
def u9:=@Int.toNat_natCast
def w5:=@PySem.wpAny_newObj_type
def w6:=@flatten_cons
def w9:=@PySem.wpAny_truthy_bool
def x3:=@PySem.wpAny_pyIter_list
def x4:=@length_range
def x5:=@Option.isSome_map
def x6:=@List.size_toArray
def x8:=@ext_getElem?
def x9:=@Nat.lt_succ_of_lt
def y0:=@PySem.SeqAt.eqAt_reads
def y3:=@lookup_cons
def y4:=@Nat.le_of_not_lt
def y6:=@length_cons
def y7:=@Nat.lt_of_not_le
def y8:=@take_length
def y9:=@PySem.wpAny_call_entry
def z9:=@PySem.F.plain_max_loop
def A0:=@Bool.and_eq_true
def A1:=@length_take
def A2:=@getElem_mem
def A3:=@List.all_eq_true
def A4:=@Bool.eq_iff_iff
def A5:=@append_nil
def A6:=@find?_cons
def A7:=@decide_eq_false
def A8:=@PySem.wpAny_loadPart'
def A9:=@Int.emod_nonneg
def B0:=@Option.some.inj
def B1:=@PySem.wpAny_passesOwn
def B2:=@PySem.codeAny_builtin
def B3:=@length_map
def B4:=@mem_append
def B5:=@map_append
def B6:=@Nat.le_antisymm
def B7:=@PySem.wpAny_specialOf
def B8:=@decide_eq_true
def B9:=@PySem.wpAny_seqItems
def C0:=@PySem.Heap.size_push
def C3:=@PySem.wpAny_tryCatch
def C4:=@PySem.wpAny_holding
def C5:=@PySem.Paired.length
def C6:=@Nat.xor_assoc
def C7:=@Nat.lt_irrefl
def C8:=@map_cons
def C9:=@mem_cons
def D1:=@PySem.plainId_quiet
def D3:=@sum_cons
def D4:=@Int.zero_add
def D5:=@Nat.xor_self
def D6:=@Nat.ne_of_lt
def D7:=@PySem.Heap.lt_size
def D8:=@mem_map
def D9:=@List.map_map
def E6:=@Nat.le_trans
def E8:=@Nat.zero_add
def G0:=@Nat.le_of_eq
def G1:=@map_nil
def G3:=@PySem.codeAny_mono
def G4:=@Nat.ne_of_gt
def G5:=@Nat.le_of_lt
def G7:=@Nat.le_refl
def G8:=@PySem.sizeLine_eq
def G9:=@Nat.zero_le
def H9:=@PySem.wpAny_field
def J0:=@PySem.wpAny_letGo
def J1:=@PySem.wpAny_bind
def J3:=@PySem.wpAny_pure
def J4:=@PySem.wpAny_rule
def J5:=@PySem.call_meets
def J6:=@PySem.wpAny_mono
def J7:=@if_false
def J8:=@congrArg
def J9:=@Ne.symm
def K0:=@if_true
def K1:=@if_pos
def K3:=@if_neg
abbrev K6:=PySem.W.Frag
abbrev cS:=PySem.Str.ofString
open PySem
variable {jp:List (ap×Obj)}{E Q:gV->am->Prop}{K:K6}{s:am}{fd:FuncData}{w:World}{es ifs rest:List Expr}{a f p c q:ap}{pos apos tL pos' cL p2:Pos}{i n k m t' j ep y:Nat}{mg:Str->Option gV}{A:Around}{x qual name:Str}{P prog:Program}{α:Type}{ps zs cD fv:List Str}{e tg iter elt:Expr}{u dV:gV}{ns bG as hs:List Int}{b:Bool}{cells cl:List (Str×ap)}{base h':Heap}{scope:Scope}{fr:List Nat}{us vs aq:List gV}{cn:List (Str×Nat)}{st:Stmt}{kindOf:Str->Option NameKind}{kv:List (Nat×Nat)}{T:String}{dS os:List (List Int)}{S:Heap->ap->Array gV->Prop}{body:List Stmt}{fp ch:List ap}{XP:(Str->Option gV)->Heap->Prop}{J:List gV->Nat->am->Prop}{o:Obj}{l:PySem.W.OpenLaw}{C:Int->Int->Prop}{zN:Array (Option gV)}{outer:List Env}{tabs:List (ap×ap)}{YP:World->Heap->Prop}{z lo:Int}
namespace L2
open PySem.Spec PyProof.Rows
abbrev Key:=Sum Int Str
def qx:Key->gV->Bool
 | .inl k,v=>Value.isInt k v
 | .inr x,v=>Value.isStrOf x v
def ZL(w:World):Key->Int
 | .inl k=>hashInt k
 | .inr x=>hashStr w x
def bQ:∀{k:Key} {v:gV},qx k v=true->(∃i t,k=Sum.inl i/\v=Value.int i t)\/(∃x t,k=Sum.inr x/\v=Value.str x t)
 | .inl i,v,h=>by obtain⟨t,e⟩:=Value.isInt_shape (k:=i) (v:=v) h;exact .inl ⟨i,t,rfl,e⟩
 | .inr x,v,h=>by obtain⟨t,e⟩:=Value.isStrOf_shape (x:=x) (v:=v) h;exact .inr ⟨x,t,rfl,e⟩
def En(i:Int)(t:Tok):qx (.inl i) (.int i t)=true:=by simp[qx,Value.isInt]
def Em(x:Str)(t:Tok):qx (.inr x) (.str x t)=true:=by simp[qx,Value.isStrOf]
def SH(a b:Int):decide ((Sum.inl a:Key)=Sum.inl b)=(a==b):=by
 by_cases e:a=b
 ·subst e;simp
 ·have h:¬(Sum.inl a:Key)=Sum.inl b:=λ q=>e (Sum.inl.inj q);rw[A7 h];exact(beq_eq_false_iff_ne.mpr e).symm
def SD(a b:Str):decide ((Sum.inr a:Key)=Sum.inr b)=decide (a=b):=by
 by_cases e:a=b
 ·subst e;simp
 ·have h:¬(Sum.inr a:Key)=Sum.inr b:=λ q=>e (Sum.inr.inj q);rw[A7 h,A7 e]
def SG(a:Int)(b:Str):decide ((Sum.inl a:Key)=Sum.inr b)=false:=A7 (λ q=>nomatch q)
def SE(a:Str)(b:Int):decide ((Sum.inr a:Key)=Sum.inl b)=false:=A7 (λ q=>nomatch q)
def cg(prog:Program)(w:World):PySem.KeyKind prog w Key where
 is:=qx
 hash:=ZL w
 inj:=λ v a b ha hb=>by
  rcases bQ ha with⟨i,t,rfl,rfl⟩|⟨x,t,rfl,rfl⟩
  ·rcases bQ hb with⟨j,u,rfl,e⟩|⟨y,u,rfl,e⟩
   ·injection e with e1 _;rw[e1]
   ·exact nomatch e
  ·rcases bQ hb with⟨j,u,rfl,e⟩|⟨y,u,rfl,e⟩
   ·exact nomatch e
   ·injection e with e1 _;rw[e1]
 byValue:=λ k v h=>by rcases bQ h with⟨i,t,rfl,rfl⟩|⟨x,t,rfl,rfl⟩<;>rfl
 pyHash:=λ hv h=>by
  rcases bQ hv with⟨i,t,rfl,rfl⟩|⟨x,t,rfl,rfl⟩
  ·exact wpAny_pyHash_int h
  ·exact wpAny_pyHash_str h
 eqBool:=λ hu hv h=>by
  rcases bQ hu with⟨i,t,rfl,rfl⟩|⟨x,t,rfl,rfl⟩
  ·rcases bQ hv with⟨j,u,rfl,rfl⟩|⟨y,u,rfl,rfl⟩
   ·rw[SH]at h;exact wpAny_eqBool_int h
   ·rw[SG]at h;exact SeqAt.EqAt.int_str i t y u _ _ _ _ h
  ·rcases bQ hv with⟨j,u,rfl,rfl⟩|⟨y,u,rfl,rfl⟩
   ·rw[SE]at h;exact SeqAt.EqAt.str_int x t j u _ _ _ _ h
   ·rw[SD]at h;exact wpAny_eqBool_str h
 «strs»:=λ k x t v h=>by
  rcases bQ h with⟨i,u,rfl,e⟩|⟨y,u,rfl,e⟩
  ·exact nomatch e
  ·injection e with e1 _
   subst e1;cases v<;>rfl
def nV(prog:Program)(w:World)(i:Int)(t:Tok):(cg prog w).is (.inl i) (.int i t)=true:=En i t
def wZ(prog:Program)(w:World)(x:Str)(t:Tok):(cg prog w).is (.inr x) (.str x t)=true:=Em x t
inductive V where
 |bo|bl (b:Bool)|int (i:Int)|str (x:Str)|JK (b:Array UInt8)|flt (b:UInt64)|ref (a:ap)|ty (n:String)
 deriving DecidableEq
def sK:V->gV->Prop
 | .bo,u=>u=Value.none
 | .bl b,u=>u=Value.bool b
 | .int i,u=>∃t,u=Value.int i t
 | .str x,u=>∃t,u=Value.str x t
 | .JK b,u=>∃t,u=Value.bytes b t
 | .flt b,u=>∃t,u=Value.float b t
 | .ref a,u=>u=Value.ref a
 | .ty n,u=>u=Value.type n
abbrev ut:List V->List gV->Prop:=Paired sK
def ut.length{xs:List V}(r:ut xs us):xs.length=us.length:=C5 r
def ut.get:∀{xs:List V} {us:List gV} {i:Nat} {x:V},ut xs us->xs[i]?=some x->∃u,us[i]?=some u/\sK x u
 |_,_,_,_,.nil,e=>by simp at e
 |_,_,0,_,.cons r _,e=>by simp at e;subst e;exact⟨_,rfl,r⟩
 |_,_,i+1,x,.cons _ t,e=>by obtain⟨u,h1,h2⟩:=ut.get (i:=i) (x:=x) t (by simpa using e);exact⟨u,by simpa using h1,h2⟩
def ut.set{x:V}(r:sK x u):∀{xs:List V} {us:List gV} (i:Nat),ut xs us->ut (xs.set i x) (us.set i u)
 |_,_,_,.nil=>.nil
 |_,_,0,.cons _ t=>.cons r t
 |_,_,i+1,.cons q t=>.cons q (ut.set r i t)
def ut.append:∀{xs ys:List V} {us ws:List gV},ut xs us->ut ys ws->ut (xs++ys) (us++ws)
 |_,_,_,_,.nil,s=>s
 |_,_,_,_,.cons r t,s=>.cons r (ut.append t s)
def ut.take:∀{xs:List V} {us:List gV} (n:Nat),ut xs us->ut (xs.take n) (us.take n)
 |_,_,0,_=>.nil
 |_,_,_+1,.nil=>.nil
 |_,_,n+1,.cons r t=>.cons r (ut.take n t)
def ut.drop:∀{xs:List V} {us:List gV} (n:Nat),ut xs us->ut (xs.drop n) (us.drop n)
 |_,_,0,r=>r
 |_,_,_+1,.nil=>.nil
 |_,_,n+1,.cons _ t=>ut.drop n t
def ut.none_of:∀{xs:List V} {us:List gV} {i:Nat},ut xs us->xs[i]?=none->us[i]?=none:=λ{xs us i} r e=>by have h1:=r.length;have h2:xs.length<=i:=c8.mp e;exact c8.mpr ()
def nH:Option V->Option gV->Prop
 |some v,some u=>sK v u
 |none,none=>True
 |_,_=>False
def KV{κ:Type}:List (κ×V)->List (κ×gV)->Prop:=Paired λ(p:κ×V) (q:κ×gV)=>p.1=q.1/\sK p.2 q.2
def kV:Key->V
 | .inl i=>.int i
 | .inr x=>.str x
inductive HO where
  |lst (xs:List V)
  |tup (xs:List V)
  |dK (kvs:List (Key×V))|dT (kvs:List (List Key×V))
  |set (S:Int->Bool) (n:Nat)
  |ins (C dx:ap) (fs:List (Str×V))
  |own (x:ap)
  |xd (fs:List (Str×V))
  |met (f x:ap)
  |Qz (lo hi:Int)
  |du (o:Obj) (u:HO)
  |mM (ps:Array gV)
  |ext (φ:Heap->Prop)
abbrev Hp:=ap->Option HO
def u8(H:Hp)(a:ap)(o:HO):Hp:=λ b=>if b=a then some o else H b
def aQ{o:HO}:u8 H a o a=some o:=by unfold u8;rw[K1 rfl]
def aK{b:ap}{o:HO}(h:b≠a):u8 H a o b=H b:=by unfold u8;rw[K3 h]
def aM{H:Hp}{b:ap}{o u:HO}(h:H a=some o)(h':H b=some u)(d:o≠u):a≠b:=by intro e;subst e;rw[h]at h';exact d (B0 h')
def bL{H:Hp}{b:ap}{o:HO}(h:H a=some o)(h':H b=none):a≠b:=by intro e;subst e;rw[h]at h';cases h'
section
variable (P:Program)(w:World)
def bR(H:Hp)(h:Heap)(a:ap):HO->Prop
 | .lst xs=>xs.length<=sizeLine/\∃(aq:List gV)(n:Nat),ut xs aq/\h.get? a=some {cls:=.type "list",data:=.seq aq.toArray n}
 | .tup xs=>xs.length<=sizeLine/\∃aq:List gV,ut xs aq/\IsTup h a aq.toArray
 | .dK kvs=>kvs.length<=sizeLine/\(a==sysModules)=false/\∃vs,KV kvs vs/\h.DictOf (cg P w) a vs
 | .dT kvs=>kvs.length<=sizeLine/\(a==sysModules)=false/\∃xs:List (List Key×ap×gV),
   Paired (λ(p:List Key×V) (q:List Key×ap×gV)=>p.1=q.1/\H q.2.1=some (.tup (p.1.map kV))/\sK p.2 q.2.2) kvs xs/\
   ∃o es ep,h.get? a=some o/\o.ExactDict/\o.data=.dict es ep/\es.toList=xs.map (entryOfKey (tupleKind (cg P w)))/\(xs.map (·.1)).Nodup
 | .set S n=>h.SetOf (intKind P w) a S n
 | .ins C dx fs=>H dx=some (.own a)/\fs.length<=1000/\dx≠a/\h.get? a=some (PySem.W.instObj C dx)/\
   ∃mA,h.Ns1 dx mA/\(∀f,nH (fs.lookup f) (mA f))/\PySem.Within mA (fs.map (·.1))
 | .own _=>∃o,h.get? a=some o
 | .xd fs=>∃mA,h.Ns1 a mA/\∀f,nH (fs.lookup f) (mA f)
 | .Qz lo hi=>∃t u v,h.get? a=some {cls:=.type "range",data:=.fields #[.int lo t,.int hi u,.int 1 v]}
 | .du o u=>h.get? a=some o/\bR H h a u
 | .mM ps=>h.get? a=some {cls:=.none,data:=.fields ps}
 | .met f x=>h.get? a=some (PySem.W.methodObj (.ref f) (.ref x))
 | .ext φ=>φ h/\(∃o,h.get? a=some o)/\∀h1 h2:Heap,φ h1->(∀o,h1.get? a=some o->h2.get? a=some o)->φ h2
def iO(H:Hp)(h:Heap):Prop:=∀a o,H a=some o->bR P w H h a o
end
section
variable {H H':Hp}{h:Heap}{o:HO}
def bR.lt(x:bR P w H h a o):a<h.objs.size:=by
 cases o with
 |lst xs=>obtain⟨_,_,_,_,e⟩:=x;exact D7 e
 |tup xs=>obtain⟨_,_,_,p⟩:=x;exact p.lt
 |dK kvs=>obtain⟨_,_,_,_,o,_,_,e,_⟩:=x;exact D7 e
 |dT kvs=>obtain⟨_,_,_,_,o,_,_,e,_⟩:=x;exact D7 e
 |set S n=>obtain⟨o,_,_,_,e,_⟩:=x;exact D7 e
 |ins C dx fs=>obtain⟨_,_,_,e,_⟩:=x;exact D7 e
 |own y=>obtain⟨_,e⟩:=x;exact D7 e
 |xd fs=>obtain⟨_,⟨_,_,_,e,_⟩,_⟩:=x;exact D7 e
 |Qz lo hi=>obtain⟨_,_,_,e⟩:=x;exact D7 e
 |du ob u=>obtain⟨e,_⟩:=x;exact D7 e
 |mM ps=>exact D7 (show h.get? a=some _ from x)
 |met f y=>exact D7 (show h.get? a=some _ from x)
 |ext φ=>obtain⟨_,⟨_,e⟩,_⟩:=x;exact D7 e
def Paired.uE:∀{l₁:List α} {l₂:List β},Paired F l₁ l₂->(∀a b,F a b->G a b)->Paired G l₁ l₂
 |_,_,.nil,_=>.nil
 |_,_,.cons r t,f=>.cons (f _ _ r) (Paired.uE t f)
def bR.kr(x:bR P w H h a o)(k:∀b u,(b=a\/H b=some (.own a))->h.get? b=some u->h'.get? b=some u)(ho:∀b,H b=some (.own a)->H' b=some (.own a))(ht:∀b xs,H b=some (.tup xs)->H' b=some (.tup xs)):bR P w H' h' a o:=by
 induction o with
 |lst xs=>obtain⟨z,aq,n,r,e⟩:=x;exact⟨z,aq,n,r,k _ _ (.inl rfl) e⟩
 |tup xs=>obtain⟨z,aq,r,ob,e,c⟩:=x;exact⟨z,aq,r,ob,k _ _ (.inl rfl) e,c⟩
 |dK kvs=>obtain⟨z,y,vs,r,ob,es,ep,e,c⟩:=x;exact⟨z,y,vs,r,ob,es,ep,k _ _ (.inl rfl) e,c⟩
 |dT kvs=>obtain⟨z,y,xs,r,ob,es,ep,e,c⟩:=x;exact⟨z,y,xs,Paired.uE r λ p q z=>⟨z.1,ht _ _ z.2.1,z.2.2⟩,ob,es,ep,k _ _ (.inl rfl) e,c⟩
 |set S n=>obtain⟨ob,es,ep,t,e,c⟩:=x;exact⟨ob,es,ep,t,k _ _ (.inl rfl) e,c⟩
 |ins C dx fs=>obtain⟨d,z,ne,e,mA,⟨od,es,ep,e2,c⟩,r⟩:=x;exact⟨ho _ d,z,ne,k _ _ (.inl rfl) e,mA,⟨od,es,ep,k _ _ (.inr d) e2,c⟩,r⟩
 |own y=>obtain⟨ob,e⟩:=x;exact⟨ob,k _ _ (.inl rfl) e⟩
 |xd fs=>obtain⟨mA,⟨od,es,ep,e,c⟩,r⟩:=x;exact⟨mA,⟨od,es,ep,k _ _ (.inl rfl) e,c⟩,r⟩
 |Qz lo hi=>obtain⟨t,u,v,e⟩:=x;exact⟨t,u,v,k _ _ (.inl rfl) e⟩
 |du ob u ih=>obtain⟨e,q⟩:=x;exact⟨k _ _ (.inl rfl) e,ih q⟩
 |mM ps=>have e:h.get? a=some {cls:=.none,data:=.fields ps}:=x;show h'.get? a=some {cls:=.none,data:=.fields ps};exact k a _ (.inl rfl) e
 |met f y=>have e:h.get? a=some (PySem.W.methodObj (.ref f) (.ref y)):=x;show h'.get? a=some (PySem.W.methodObj (.ref f) (.ref y));exact k a _ (.inl rfl) e
 |ext φ=>obtain⟨p,⟨o,e⟩,st⟩:=x;exact⟨st _ _ p λ o q=>k _ _ (.inl rfl) q,⟨o,k _ _ (.inl rfl) e⟩,st⟩
def iO.lt(x:iO P w H h)(e:H a=some o):a<h.objs.size:=(x a o e).lt
def iO.fresh(x:iO P w H h)(e:h.objs.size<=a):H a=none:=by
 cases q:H a with
 |none=>rfl
 |some u=>exact be (p9 (x.lt q) e) (C7 _)
def iO.kept(x:iO P w H h)(k:∀b u,h.get? b=some u->h'.get? b=some u):iO P w H h':=λ a o e=>
 (x a o e).kr (λ b u _ q=>k b u q) (λ _ q=>q) λ _ _ q=>q
def iO.laid(x:iO P w H h)(k:∀b u,h.get? b=some u->h'.get? b=some u)(hp:h.objs.size<=a)(new:bR P w (u8 H a o) h' a o):iO P w (u8 H a o) h':=λ b u e=>by
 have hn:=x.fresh hp;by_cases hb:b=a
 ·subst hb;rw[aQ]at e;cases e;exact new
 ·rw[aK hb]at e;exact(x b u e).kr (λ c v _ q=>k c v q) (λ c q=>by rw[aK (bL q hn)];exact q) λ c xs q=>by rw[aK (bL q hn)];exact q
end
def Rd(H:Hp)(a:ap)(u:HO):Prop:=H a=some u\/∃o,H a=some (.du o u)
def Rd.ok{u:HO}(r:Rd H a u)(x:iO P w H h):bR P w H h a u:=by
 rcases r with r|⟨o,r⟩
 ·exact x a u r
 ·obtain⟨_,q⟩:=x a _ r;exact q
def XF:Option HO->Prop
 |some (.lst _)=>True
 |some (.dK _)=>True
 |some (.dT _)=>True
 |some (.set _ _)=>True
 |some (.ins _ _ _)=>True
 |some (.ext _)=>True
 |_=>False
section
variable {H:Hp}{h:Heap}{x e:ap}{o':HO}
def iO.write(ok:iO P w H h)(mu:XF (H x))(he:e=x\/H e=some (.own x))(k:∀b u,b≠e->h.get? b=some u->h'.get? b=some u)(Uw:∃u,h'.get? e=some u)(new:bR P w (u8 H x o') h' x o'):iO P w (u8 H x o') h':=λ b u q=>by
 have V0:∀c y,H c=some (.own y)->c≠x:=λ c y r z=>by subst z;rw[r]at mu;exact mu
 have Zx:∀c xs,H c=some (.tup xs)->c≠x:=λ c xs r z=>by subst z;rw[r]at mu;exact mu
 by_cases hb:b=x
 ·subst hb;rw[aQ]at q;cases q;exact new
 ·rw[aK hb]at q;by_cases Tq:b=e
  ·have q':H b=some (.own x):=by
    rcases he with z|z
    ·exact be (Tq.trans z) hb
    ·rw[Tq];exact z
   rw[q]at q';cases q';obtain⟨v,hv⟩:=Uw;exact⟨v,by rw[Tq];exact hv⟩
  ·refine(ok b u q).kr (λ c v hc r=>k c v ?_ r) (λ c r=>by rw[aK (V0 c b r)];exact r) λ c xs r=>by rw[aK (Zx c xs r)];exact r
   rcases hc with rfl|hc
   ·exact Tq
   ·rintro rfl;rcases he with z|z
    ·exact V0 c b hc z
    ·rw[hc]at z;cases z;exact hb rfl
end
structure Un(fs ex:List ap)(H H':Hp)(h h':Heap):Prop where
 keep:∀b o,h.get? b=some o->H b=none->b∉fs->b∉ex->h'.get? b=some o
 slot:∀b o,h.get? b=some o->H b=none->b∈fs->b∉ex->∃sl,h'.get? b=some {o with slots:=sl}
 free:∀b o,h.get? b=some o->H b=none->b∉ex->H' b=none
 there:∀b o,h.get? b=some o->b∉ex->∃o',h'.get? b=some o'
 pQ:∀b xs,H b=some (.tup xs)->H' b=some (.tup xs)
 nu:∀b o u,H b=some (.du o u)->H' b=some (.du o u)
 ox:∀b ps,H b=some (.mM ps)->∃more,H' b=some (.mM (ps++more))
section
variable {fs fs' ex ex':List ap}{H H1 H2:Hp}{h h1 h2:Heap}{x e:ap}{o:HO}
def Un.any(u:Un fs ex H H1 h h1){b:ap}(q:h.get? b=some ob)(n:H b=none)(hx:b∉ex):∃sl,h1.get? b=some {ob with slots:=sl}:=by
 by_cases hb:b∈fs
 ·exact u.slot b ob q n hb hx
 ·exact⟨ob.slots,u.keep b ob q n hb hx⟩
def Un.kept(k:∀b u,h.get? b=some u->h'.get? b=some u):Un fs ex H H h h':=
 ⟨λ b ob q _ _ _=>k b ob q,λ b ob q _ _ _=>⟨ob.slots,k b ob q⟩,λ _ _ _ n _=>n,λ b ob q _=>⟨ob,k b ob q⟩,λ _ _ q=>q,λ _ _ _ q=>q,λ _ ps q=>⟨#[],by rw[q];simp⟩⟩
def Un.refl:Un fs ex H H h h:=Un.kept λ _ _ q=>q
def Un.laid(k:∀b u,h.get? b=some u->h'.get? b=some u)(hp:h.objs.size<=a)(hn:H a=none):Un fs ex H (u8 H a o) h h' where
 keep:=λ b u q _ _ _=>k b u q
 slot:=λ b u q _ _ _=>⟨u.slots,k b u q⟩
 free:=λ b u q n _=>by rw[aK (D6 (p9 (D7 q) hp))];exact n
 there:=λ b u q _=>⟨u,k b u q⟩
 pQ:=λ b xs q=>by rw[aK (bL q hn)];exact q
 nu:=λ b u xs q=>by rw[aK (bL q hn)];exact q
 ox:=λ b ps q=>⟨#[],by rw[aK (bL q hn),q];simp⟩
def Un.write(mu:XF (H x))(he:e=x\/H e=some (.own x))(k:∀b u,b≠e->h.get? b=some u->h'.get? b=some u)(Uw:∃u,h'.get? e=some u):Un fs ex H (u8 H x o) h h':=by
 have hx:∀b,H b=none->b≠x:=λ b n z=>by subst z;rw[n]at mu;exact mu
 have hb:∀b,H b=none->b≠e:=λ b n z=>by
  subst z;rcases he with r|r
  ·exact hx b n r
  ·rw[n]at r;cases r
 have hm:∀b u,H b=some u->¬XF (some u)->b≠x:=λ b u q nm z=>by subst z;rw[q]at mu;exact nm mu
 refine⟨λ b u q n _ _=>k b u (hb b n) q,λ b u q n _ _=>⟨u.slots,k b u (hb b n) q⟩,λ b u q n _=>by rw[aK (hx b n)];exact n,λ b u q _=>?_,
  λ b xs q=>by rw[aK (hm b _ q λ z=>z)];exact q,λ b u xs q=>by rw[aK (hm b _ q λ z=>z)];exact q,λ b ps q=>⟨#[],by rw[aK (hm b _ q λ z=>z),q];simp⟩⟩
 by_cases Tq:b=e
 ·subst Tq;exact Uw
 ·exact⟨u,k b u Tq q⟩
end
def XX(h:Heap)(H:Hp):List ap:=(List.range h.objs.size).filter λ a=>(H a).isSome
def rD(h:Heap)(H:Hp):Heap:=PySem.W.hideAll h (XX h H)
def Ey(h:Heap)(H:Hp):(rD h H).objs.size=h.objs.size:=PySem.W.hideAll_size _ _
def Jc{b:ap}(e:h.get? b=some o)(n:H b=none):(rD h H).get? b=some o:=
 PySem.W.hideAll_get _ e λ hm=>by have q:(H b).isSome=true:=(mem_filter.mp hm).2;rw[n]at q;simp at q
def MC{b:ap}(e:(rD h H).get? b=some o):h.get? b=some o/\H b=none:=by
 have e':h.get? b=some o:=PySem.W.of_hideAll (XX h H) e;refine⟨e',?_⟩;cases q:H b with
 |none=>rfl
 |some x=>have hm:b∈XX h H:=mem_filter.mpr ⟨dL.mpr (D7 e'),by simp[q]⟩;have z:(rD h H).get? b=none:=PySem.W.hideAll_none (XX h H) hm;rw[z]at e;cases e
structure Mod(K:K6)(mg:Str->Option gV)(base:Heap):Prop where
 Wb:K.In base
 glob:base.Ns mainGlobals mg
 blt:∃mb,base.Ns builtinsNs mb/\∀x:Str,x≠"__name__"->mb x=bootBuiltins x
 nolimit:base.NoLimit
structure Cx where
 prog:Program
 w:World
 K:K6
 mg:Str->Option gV
 base:Heap
 A:Around
 N:List Str
 s₀:am
 H₀:Hp
 env:Env
 outer:List Env
 stack:List Env
 ex:List ap
 fn:Str->Bool
 calm:Bool
 pn:List (ap×Obj)
 xe:gV->am->Prop
abbrev oq(X:Cx)(e:Expr)(es:List Expr):Prop:=starEach (e::es) X.env=(false,eval e X.env)::starEach es X.env
abbrev vR(X:Cx)(p:Pos)(es:List Expr):Prop:=(backTo p (starEach es X.env)).any (·.1)=false
abbrev rj(x:Str):Prop:=(x==("__debug__":Str))=false
abbrev XE(x:Str):Prop:=(x==("__classdict__":Str))=false
abbrev Kp(X:Cx)(x:Str):Prop:=X.fn x=true\/X.env.scope.names.lookup x=some .local
abbrev Oq(X:Cx)(iter:Expr):Prop:=∀x,foldedSetIterable iter X.env x=pure x
abbrev Ui(X:Cx)(o:Expr)(n:Str):Prop:=attributeBase o n X.env (eval o X.env)=eval o X.env
abbrev Ud(a b:Pos):Prop:=(a.endLine==b.line)=true
abbrev eU(X:Cx):Prop:=X.A.units+64<cLine
abbrev YM(X:Cx)(p:Pos)(e:Expr)(es:List Expr):Prop:=((backTo p (starEach (e::es) X.env)).all (λ x=>!x.1)&&(backToKw p (keywordEach [] X.env)).all (λ x=>x.1.isSome)&&decide ((e::es).length+([]:List Keyword).length+(if([]:List Keyword).isEmpty then 0 else 1)<30))=true
abbrev UL(id:String):Prop:=typeOf (.builtin id)=pure (.type "method_descriptor")
abbrev IsT(X:Cx)(e:Expr):Prop:=∀whole,isTrue e X.env whole=(do let v <- whole;standAt e.pos;holding [v] (truthy v))
abbrev YG(X:Cx):Prop:=PassesOwn (model X.prog X.w) X.A X.env X.xe
def vO(l:List Env):List ap:=l.filterMap (·.frame)
abbrev Cx.fs(X:Cx):List ap:=vO X.outer
def T8(sc:Scope)(x:Str):Prop:=sc.names.lookup x=some .local\/sc.names.lookup x=some .cell\/sc.names.lookup x=some .free
def Loc(sc:Scope)(x:Str):Prop:=sc.names.lookup x=some .local\/sc.names.lookup x=some .cell
def Look(env:Env)(h:Heap)(m:Str->Option gV)(x:Str)(u:gV):Prop:=
 (env.kindOf x=some .local/\m x=some u)\/((env.kindOf x=some .cell\/env.kindOf x=some .free)/\∃c,env.cells.lookup x=some c/\h.IsCell c (some u))
structure Cx.Ok(X:Cx):Prop where
 mod:Mod X.K X.mg X.base
 kind:X.env.scope.kind=.function
 glob:X.env.globals=mainGlobals
 blt:X.env.builtins=builtinsNs
 above:X.s₀.heap.objs.size<=X.env.locals
 inj:∀x y c,X.env.cells.lookup x=some c->X.env.cells.lookup y=some c->x=y
 has:∀x,(X.env.kindOf x=some .cell\/X.env.kindOf x=some .free)->∃c,X.env.cells.lookup x=some c
 UD:∀x c,X.fn x=true->X.env.cells.lookup x=some c->X.s₀.heap.objs.size<=c
 hd:X.calm=true->X.A.handled=none
 frames:X.A.frames=some X.stack
 X3:X.stack=X.outer\/(X.stack=X.env::X.outer/\X.env.frame=some X.env.locals)
 exf:∀b∈X.ex,b≠X.env.locals/\∀x c,X.env.cells.lookup x=some c->c≠b
 bs:∀b o,X.base.get? b=some o->X.s₀.heap.get? b=some o/\X.H₀ b=none
 CW:X.base.objs.size<=X.s₀.heap.objs.size
 Ec:∀b o,X.base.get? b=some o->b∉X.ex
 NR:∀b∈X.ex,b∉X.fs
 jX:X.s₀.heap.FunFrames X.base X.outer
 Ki:∀b∈X.fs,X.H₀ b=none
structure sn(X:Cx)(jp:List (ap×Obj))(σ:List (Option V))(H:Hp)(s:am):Prop where
 ok:X.Ok
 os:s.os=X.s₀.os
 bare:AllBare s.gens
 base:Un X.fs X.ex X.H₀ H X.s₀.heap s.heap
 loc:∃m,s.heap.Ns X.env.locals m/\∀(i:Nat)(x:Str)(v:V),X.N[i]?=some x->σ[i]?=some (some v)->T8 X.env.scope x->∃u,sK v u/\Look X.env s.heap m x u
 cell:∀x c,X.env.cells.lookup x=some c->∃v,s.heap.IsCell c v
 free:H X.env.locals=none
 gY:∀x c,X.env.cells.lookup x=some c->H c=none
 pin:∀p∈X.pn++jp,s.heap.get? p.1=some p.2/\H p.1=none/\p.1≠X.env.locals/\p.1∉X.fs/\∀v,p.2.data≠.cell v
 bu:iO X.prog X.w H s.heap
 len:σ.length=X.N.length
section
variable {X:Cx}{σ:List (Option V)}{H H':Hp}
def Cx.Ok.ZA(ok:X.Ok){b:ap}(e:X.base.get? b=some o):b∉X.fs:=λ hb=>by have:=(ok.jX.mem hb).1;rw[e]at this;cases this
def sn.bs(I:sn X jp σ H s):∀b o,X.base.get? b=some o->s.heap.get? b=some o/\H b=none:=λ b o e=>
 ⟨I.base.keep b o (I.ok.bs b o e).1 (I.ok.bs b o e).2 (I.ok.ZA e) (I.ok.Ec b o e),I.base.free b o (I.ok.bs b o e).1 (I.ok.bs b o e).2 (I.ok.Ec b o e)⟩
def sn.bk(I:sn X jp σ H s):∀b o,X.base.get? b=some o->s.heap.get? b=some o:=λ b o e=>(I.bs b o e).1
def sn.mod(I:sn X jp σ H s):Mod X.K X.mg X.base:=I.ok.mod
def sn.Nh(I:sn X jp σ H s):X.K.In s.heap:=I.ok.mod.Wb.keeps I.bk
def sn.lt(I:sn X jp σ H s):X.env.locals<s.heap.objs.size:=let⟨_,hn,_⟩:=I.loc;hn.lt
def sn.sz(I:sn X jp σ H s):X.s₀.heap.objs.size<=s.heap.objs.size:=E6 I.ok.above (G5 I.lt)
def sn.Zz(I:sn X jp σ H s)(h:s.heap.objs.size<=a):a∉X.fs:=λ hb=>by obtain⟨_,o,ho,_⟩:=I.ok.jX.mem hb;exact be (p9 (D7 ho) (E6 I.sz h)) (C7 _)
def sn.Pz(I:sn X jp σ H s):∀x c,X.env.cells.lookup x=some c->c≠X.env.locals:=λ x c e z=>by obtain⟨v,o,ho,hd⟩:=I.cell x c e;obtain⟨m,⟨o',es,ep,mh,ju,_⟩,_⟩:=I.loc;rw[z,mh]at ho;cases ho;rw[ju]at hd;cases hd
def sn.jX(I:sn X jp σ H s):s.heap.FunFrames X.base X.outer:=by
 have all:∀(l:List Env),(∀b∈vO l,b∈X.fs)->X.s₀.heap.FunFrames X.base l->s.heap.FunFrames X.base l:=by
  intro l
  induction l with
  |nil=>intro _ _;trivial
  |cons env r ih=>intro hs hl;obtain⟨hk,⟨L,o,hf,hn,ho,hd⟩,hr⟩:=hl;have hL:L∈X.fs:=hs L (by unfold vO;rw[filterMap_cons,hf];exact o7);obtain⟨sl,e⟩:=I.base.slot L o ho (I.ok.Ki L hL) hL λ z=>I.ok.NR L z hL;exact⟨hk,⟨L,_,hf,hn,e,hd⟩,ih (λ b hb=>hs b (by unfold vO;rw[filterMap_cons,hf];exact k7 _ hb)) hr⟩
 exact all X.outer (λ _ hb=>hb) I.ok.jX
def sn.stack(I:sn X jp σ H s):s.heap.FunFrames X.base X.stack:=by
 rcases I.ok.X3 with e|⟨e,hf⟩
 ·rw[e];exact I.jX
 ·rw[e];obtain⟨m,hn,_⟩:=I.loc;refine .cons (by rw[I.ok.kind];decide) hf hn ?_ I.jX;exact Heap.get?_none_of_le (E6 I.ok.CW I.ok.above)
def sn.pV(I:sn X jp σ H s):∀b∈vO X.stack,b∈X.env.locals::X.fs:=λ b hb=>by
 rcases I.ok.X3 with e|⟨e,hf⟩
 ·rw[e]at hb;exact k7 _ hb
 ·rw[e]at hb;unfold vO at hb;rw[filterMap_cons,hf]at hb;exact hb
def sn.tQ(I:sn X jp σ H s):∀b∈vO X.stack,H b=none:=λ b hb=>by
 rcases C9.mp (I.pV b hb)with e|hb
 ·rw[e];exact I.free
 ·obtain⟨_,o,ho,_⟩:=I.ok.jX.mem hb;exact I.base.free b o ho (I.ok.Ki b hb) λ z=>I.ok.NR b z hb
def sn.step(I:sn X jp σ H s)(Ez:∀b∈ch,(b∈X.ex\/X.s₀.heap.objs.size<=b)/\b≠X.env.locals/\(∀x c,X.env.cells.lookup x=some c->c≠b)/\∀p∈X.pn++jp,p.1≠b)(keep:∀b o,b≠X.env.locals->b∉X.fs->b∉ch->s.heap.get? b=some o->H b=none->h'.get? b=some o)(slot:∀b o,b≠X.env.locals->b∈X.fs->b∉ch->s.heap.get? b=some o->H b=none->∃sl,h'.get? b=some {o with slots:=sl})(free:∀b o,b∉ch->s.heap.get? b=some o->H b=none->H' b=none)(there:∀b o,b∉ch->s.heap.get? b=some o->∃o',h'.get? b=some o')(pQ:∀b xs,H b=some (.tup xs)->H' b=some (.tup xs))(nu:∀b o u,H b=some (.du o u)->H' b=some (.du o u))(ox:∀b ps,H b=some (.mM ps)->∃more,H' b=some (.mM (ps++more)))(ns:∀m,s.heap.Ns X.env.locals m->h'.Ns X.env.locals m)(bu:iO X.prog X.w H' h')(hg:AllBare g'):sn X jp σ H' {s with heap:=h',gens:=g',drawn:=d',toks:=t'}:=by
 have neL:∀b o,X.s₀.heap.get? b=some o->b≠X.env.locals:=λ b o e=>D6 (p9 (D7 e) I.ok.above);have X8:∀b o,X.s₀.heap.get? b=some o->b∉X.ex->b∉ch:=λ b o e hx hb=>by
  rcases(Ez b hb).1 with z|z
  ·exact hx z
  ·exact be (p9 (D7 e) z) (C7 _)
 have cellK:∀x c,X.env.cells.lookup x=some c->∀v,s.heap.IsCell c v->h'.IsCell c v:=λ x c e v ⟨o,ho,hd⟩=>by
  have V2:c∉ch:=λ z=>(Ez c z).2.2.1 x c e rfl;by_cases hc:c∈X.fs
  ·obtain⟨sl,q⟩:=slot c o (I.Pz x c e) hc V2 ho (I.gY x c e);exact⟨_,q,hd⟩
  ·exact⟨o,keep c o (I.Pz x c e) hc V2 ho (I.gY x c e),hd⟩
 refine⟨I.ok,I.os,hg,⟨λ b o e n hb hx=>?_,λ b o e n hb hx=>?_,λ b o e n hx=>?_,λ b o e hx=>?_,λ b xs e=>pQ b xs (I.base.pQ b xs e),λ b o xs e=>nu b o xs (I.base.nu b o xs e),λ b ps e=>?_⟩,?_,λ x c e=>?_,?_,λ x c e=>?_,λ p hp=>?_,bu,I.len⟩
 ·exact keep b o (neL b o e) hb (X8 b o e hx) (I.base.keep b o e n hb hx) (I.base.free b o e n hx)
 ·obtain⟨sl,e1⟩:=I.base.slot b o e n hb hx;obtain⟨sl',e2⟩:=slot b _ (neL b o e) hb (X8 b o e hx) e1 (I.base.free b o e n hx);exact⟨sl',e2⟩
 ·obtain⟨o',e1⟩:=I.base.there b o e hx;exact free b o' (X8 b o e hx) e1 (I.base.free b o e n hx)
 ·obtain⟨o',e1⟩:=I.base.there b o e hx;exact there b o' (X8 b o e hx) e1
 ·obtain⟨m1,e1⟩:=I.base.ox b ps e;obtain⟨m2,e2⟩:=ox b _ e1;exact⟨m1++m2,by rw[e2,Array.append_assoc]⟩
 ·obtain⟨m,hn,hl⟩:=I.loc;refine⟨m,ns m hn,λ i x v e1 e2 e3=>?_⟩;obtain⟨u,r,l⟩:=hl i x v e1 e2 e3;refine⟨u,r,?_⟩;rcases l with l|⟨k,c,e,z⟩
  ·exact .inl l
  ·exact .inr ⟨k,c,e,cellK x c e _ z⟩
 ·obtain⟨v,z⟩:=I.cell x c e;exact⟨v,cellK x c e v z⟩
 ·obtain⟨m,⟨o,_,_,ho,_⟩,_⟩:=I.loc;exact free _ o (λ z=>(Ez _ z).2.1 rfl) ho I.free
 ·obtain⟨v,o,ho,hd⟩:=I.cell x c e;exact free c o (λ z=>(Ez c z).2.2.1 x c e rfl) ho (I.gY x c e)
 ·obtain⟨e,n,ne,nf,d⟩:=I.pin p hp;have V2:p.1∉ch:=λ z=>(Ez p.1 z).2.2.2 p hp rfl;exact⟨keep p.1 p.2 ne nf V2 e n,free p.1 p.2 V2 e n,ne,nf,d⟩
def sn.un(I:sn X jp σ H s)(u:Un X.fs [] H H' s.heap h')(bu:iO X.prog X.w H' h'):sn X jp σ H' {s with heap:=h',toks:=t'}:=by
 obtain⟨m,⟨o,es,ep,ho,r⟩,_⟩:=id I.loc;obtain⟨sl,hL⟩:=u.any ho I.free (by simp);exact I.step (g':=s.gens) (d':=s.drawn) (ch:=[]) (λ _ z=>nomatch z) (λ b o _ hb _ e n=>u.keep b o e n hb (by simp)) (λ b o _ hb _ e n=>u.slot b o e n hb (by simp)) (λ b o _ e n=>u.free b o e n (by simp)) (λ b o _ e=>u.there b o e (by simp)) u.pQ u.nu u.ox (λ m' hm=>by
  obtain⟨o',TC,ep',mh,r'⟩:=hm;rw[ho]at mh;cases mh;exact⟨_,TC,ep',hL,r'⟩) bu I.bare
def sn.call(I:sn X jp σ H s)(u:Un (vO X.stack) ch H H' s.heap h')(bu:iO X.prog X.w H' h')(hg:AllBare g')(Ez:∀b∈ch,(b∈X.ex\/X.s₀.heap.objs.size<=b)/\b≠X.env.locals/\(∀x c,X.env.cells.lookup x=some c->c≠b)/\∀p∈X.pn++jp,p.1≠b):sn X jp σ H' {s with heap:=h',gens:=g',drawn:=d',toks:=t'}:=by
 obtain⟨m,⟨o,es,ep,ho,r⟩,_⟩:=id I.loc;obtain⟨sl,hL⟩:=u.any ho I.free λ z=>(Ez _ z).2.1 rfl;exact I.step (ch:=ch) Ez (λ b o hL hb hc e n=>u.keep b o e n (λ z=>(C9.mp (I.pV b z)).elim hL hb) hc) (λ b o _ _ hc e n=>u.any e n hc) (λ b o hc e n=>u.free b o e n hc) (λ b o hc e=>u.there b o e hc) u.pQ u.nu u.ox (λ m' hm=>by
  obtain⟨o',TC,ep',mh,r'⟩:=hm;rw[ho]at mh;cases mh;exact⟨_,TC,ep',hL,r'⟩) bu hg
def sn.turned(I:sn X jp σ H s)(k:∀b o,b≠it->s.heap.get? b=some o->h'.get? b=some o)(hn:H it=none)(hL:it≠X.env.locals)(h1:it∈X.ex\/X.s₀.heap.objs.size<=it)(h2:∀x c,X.env.cells.lookup x=some c->c≠it)(h3:∀p∈X.pn++jp,p.1≠it):sn X jp σ H {s with heap:=h',toks:=t'}:=by
 have V1:∀b u,H b=some u->b≠it:=λ b u e z=>by rw[z,hn]at e;cases e
 refine I.step (g':=s.gens) (d':=s.drawn) (ch:=[it]) (λ b hb=>?_) (λ b o _ _ hc e _=>k b o (λ z=>hc (by simp[z])) e) (λ b o _ _ hc e _=>⟨o.slots,k b o (λ z=>hc (by simp[z])) e⟩) (λ _ _ _ _ n=>n)
  (λ b o hc e=>⟨o,k b o (λ z=>hc (by simp[z])) e⟩) (λ _ _ e=>e) (λ _ _ _ e=>e) (λ b ps e=>⟨#[],by rw[e];simp⟩) (λ m hm=>?_) (λ b u e=>?_) I.bare
 ·have e:b=it:=by simpa using hb
  subst e;exact⟨h1,hL,h2,h3⟩
 ·obtain⟨o,es,ep,ho,r⟩:=hm;exact⟨o,es,ep,k _ o (J9 hL) ho,r⟩
 ·refine(I.bu b u e).kr (λ c v hc q=>k c v ?_ q) (λ _ q=>q) λ _ _ q=>q;rcases hc with z|z
  ·rw[z];exact V1 b u e
  ·exact V1 c _ z
def sn.tok(I:sn X jp σ H s)(t:Nat):sn X jp σ H {s with toks:=t}:=I.un (h':=s.heap) (t':=t) Un.refl I.bu
def sn.kept(I:sn X jp σ H s)(k:∀b u,s.heap.get? b=some u->h'.get? b=some u):sn X jp σ H {s with heap:=h',toks:=t'}:=I.un (Un.kept k) (I.bu.kept k)
def sn.laid{o:HO}(I:sn X jp σ H s)(k:∀b u,s.heap.get? b=some u->h'.get? b=some u)(hp:s.heap.objs.size<=a)(new:bR X.prog X.w (u8 H a o) h' a o):sn X jp σ (u8 H a o) {s with heap:=h',toks:=t'}:=I.un (Un.laid k hp (I.bu.fresh hp)) (I.bu.laid k hp new)
def sn.write{x e:ap}{o:HO}(I:sn X jp σ H s)(mu:XF (H x))(he:e=x\/H e=some (.own x))(k:∀b u,b≠e->s.heap.get? b=some u->h'.get? b=some u)(Uw:∃u,h'.get? e=some u)(new:bR X.prog X.w (u8 H x o) h' x o):sn X jp σ (u8 H x o) {s with heap:=h',toks:=t'}:=I.un (Un.write mu he k Uw) (I.bu.write mu he k Uw new)
def sn.weak(I:sn X jp σ H s)(hl:σ'.length=σ.length)(w:∀(i:Nat) v,σ'[i]?=some (some v)->σ[i]?=some (some v)):sn X jp σ' H s:=
 ⟨I.ok,I.os,I.bare,I.base,let⟨m,hn,uS⟩:=I.loc;⟨m,hn,λ i x v e1 e2 e3=>uS i x v e1 (w i v e2) e3⟩,I.cell,I.free,I.gY,I.pin,I.bu,hl.trans I.len⟩
def sn.fb(I:sn X jp σ H s)(h:∀p∈pins',s.heap.get? p.1=some p.2/\H p.1=none/\p.1≠X.env.locals/\p.1∉X.fs/\∀v,p.2.data≠.cell v):sn X pins' σ H s:=
 ⟨I.ok,I.os,I.bare,I.base,I.loc,I.cell,I.free,I.gY,λ p hp=>(B4.mp hp).elim (λ z=>I.pin p (k9 _ z)) (h p),I.bu,I.len⟩
def ja{N:List Str}(hN:N.Nodup)(a:N[i]?=some x)(b:N[j]?=some x):i=j:=by obtain⟨h1,e1⟩:=c7.mp a;obtain⟨h2,e2⟩:=c7.mp b;exact(getElem_inj hN).mp (e1.trans e2.symm)
def sk{Q:Unit->am->Prop}(I:sn X jp σ H s)(hN:X.N.Nodup)(hi:X.N[i]?=some x)(hx:Loc X.env.scope x)(r:sK v u)(h:∀s',sn X jp (σ.set i (some v)) H s'->(∃a,Heap.SameBut a s.heap s'.heap/\(a=X.env.locals\/X.env.cells.lookup x=some a))->Q .unit s')(hf:Kp X x:=by first|exact .inl rfl|exact .inr rfl|assumption):wpAny M A (storeName X.env x u) Q E s:=by
 obtain⟨m,hn,hl⟩:=id I.loc;have aaO:(X.env.scope.kind==.class||(X.env.scope.kind==.module&&X.env.locals != X.env.globals))=false:=by rw[I.ok.kind];rfl
 have hiσ:i < σ.length:=by rw[I.len];exact(c7.mp hi).1
 have Pz:=I.Pz;have tracked:∀{a:ap} {h':Heap},(∃o,s.heap.get? a=some o/\H a=none)->Heap.SameBut a s.heap h'->iO X.prog X.w H h':=λ{a h'} ha hs b ob e=>by
  obtain⟨_,_,Pf⟩:=ha;refine(I.bu b ob e).kr (λ c w' hc q=>(hs.2 c ?_).trans q) (λ _ q=>q) λ _ _ q=>q;rintro rfl;rcases hc with rfl|hc
  ·rw[Pf]at e;cases e
  ·rw[Pf]at hc;cases hc
 rcases hx with hk|hk
 ·refine wpAny_storeName_local hk hn (λ h' hn' hs=>?_) aaO;obtain⟨oL,_,_,WB,_⟩:=id hn;refine h _ ⟨I.ok,I.os,I.bare,⟨λ b o e n hb hx=>?_,λ b o e n hb hx=>?_,I.base.free,λ b o e hx=>?_,I.base.pQ,I.base.nu,I.base.ox⟩,⟨_,hn',λ j y v' e1 e2 e3=>?_⟩,λ y c e=>?_,I.free,I.gY,λ p hp=>?_,tracked ⟨oL,WB,I.free⟩ hs,by simpa using I.len⟩ ⟨_,hs,.inl rfl⟩
  ·exact(hs.2 b (D6 (p9 (D7 e) I.ok.above))).trans (I.base.keep b o e n hb hx)
  ·obtain⟨sl,e1⟩:=I.base.slot b o e n hb hx;exact⟨sl,(hs.2 b (D6 (p9 (D7 e) I.ok.above))).trans e1⟩
  ·obtain⟨o',e1⟩:=I.base.there b o e hx;exact⟨o',(hs.2 b (D6 (p9 (D7 e) I.ok.above))).trans e1⟩
  ·by_cases hj:j=i
   ·subst hj;rw[hi]at e1;cases e1;rw[getElem?_set_self hiσ]at e2;cases e2;exact⟨u,r,.inl ⟨hk,by simp⟩⟩
   ·rw[l7 (J9 hj)]at e2;obtain⟨u',r',q⟩:=hl j y v' e1 e2 e3;refine⟨u',r',?_⟩;rcases q with⟨k,e⟩|⟨k,c,e,z⟩
    ·refine .inl ⟨k,?_⟩;have:y≠x:=λ e=>hj (ja hN e1 (e▸hi));simp[this,e]
    ·exact .inr ⟨k,c,e,z.sameBut hs (Pz y c e)⟩
  ·obtain⟨w',z⟩:=I.cell y c e;exact⟨w',z.sameBut hs (Pz y c e)⟩
  ·obtain⟨e,n,ne,nf,d⟩:=I.pin p hp;exact⟨(hs.2 p.1 ne).trans e,n,ne,nf,d⟩
 ·have hfn:X.fn x=true:=by
   rcases hf with z|z
   ·exact z
   ·rw[z]at hk;cases hk
  obtain⟨c,hc⟩:=I.ok.has x (.inl hk);obtain⟨w',z⟩:=I.cell x c hc;refine wpAny_storeName_cell I.ok.kind hk hc z (λ h' Je hs=>?_);obtain⟨oc,Yh,aam⟩:=id z;refine h {s with heap:=h'} ⟨I.ok,I.os,I.bare,⟨λ b o e n hb hx=>?_,λ b o e n hb hx=>?_,I.base.free,λ b o e hx=>?_,I.base.pQ,I.base.nu,I.base.ox⟩,⟨m,hn.sameBut hs (J9 (Pz x c hc)),λ j y v' e1 e2 e3=>?_⟩,λ y c' e=>?_,I.free,I.gY,λ p hp=>?_,tracked ⟨oc,Yh,I.gY x c hc⟩ hs,by simpa using I.len⟩ ⟨c,hs,.inr hc⟩
  ·exact(hs.2 b (D6 (p9 (D7 e) (I.ok.UD x c hfn hc)))).trans (I.base.keep b o e n hb hx)
  ·obtain⟨sl,e1⟩:=I.base.slot b o e n hb hx;exact⟨sl,(hs.2 b (D6 (p9 (D7 e) (I.ok.UD x c hfn hc)))).trans e1⟩
  ·obtain⟨o',e1⟩:=I.base.there b o e hx;exact⟨o',(hs.2 b (D6 (p9 (D7 e) (I.ok.UD x c hfn hc)))).trans e1⟩
  ·by_cases hj:j=i
   ·subst hj;rw[hi]at e1;cases e1;rw[getElem?_set_self hiσ]at e2;cases e2;exact⟨u,r,.inr ⟨.inl hk,c,hc,Je⟩⟩
   ·rw[l7 (J9 hj)]at e2;obtain⟨u',r',q⟩:=hl j y v' e1 e2 e3;refine⟨u',r',?_⟩;rcases q with q|⟨k,c',e,z'⟩
    ·exact .inl q
    ·refine .inr ⟨k,c',e,z'.sameBut hs ?_⟩;rintro rfl;exact hj (ja hN e1 (I.ok.inj _ _ _ e hc▸hi))
  ·by_cases Ux:c'=c
   ·subst Ux;exact⟨_,Je⟩
   ·obtain⟨w2,z2⟩:=I.cell y c' e;exact⟨w2,z2.sameBut hs Ux⟩
  ·obtain⟨e,n,ne,nf,d⟩:=I.pin p hp;refine⟨(hs.2 p.1 ?_).trans e,n,ne,nf,d⟩;intro q;rw[q,Yh]at e;have q':oc=p.2:=B0 e;exact d w' (by rw[<- q'];exact aam)
def pU{Q:Unit->am->Prop}(I:sn X jp σ H s)(hN:X.N.Nodup)(hi:X.N[i]?=some x)(hx:Loc X.env.scope x)(r:sK v u)(h:∀s',sn X jp (σ.set i (some v)) H s'->Q .unit s')(hf:Kp X x:=by first|exact .inl rfl|exact .inr rfl|assumption):wpAny M A (storeName X.env x u) Q E s:=
 sk I hN hi hx r (λ s' I' _=>h s' I') hf
def sn.Xw(I:sn X jp σ H s)(ho:s'.os=s.os)(u:Un (vO X.stack) ch H H' s.heap s'.heap)(bu:iO X.prog X.w H' s'.heap)(hg:AllBare s'.gens)(Ez:∀b∈ch,(b∈X.ex\/X.s₀.heap.objs.size<=b)/\b≠X.env.locals/\(∀x c,X.env.cells.lookup x=some c->c≠b)/\∀p∈X.pn++jp,p.1≠b):sn X jp σ H' s':=by obtain⟨h',g',d',t',o'⟩:=s';have e:o'=s.os:=ho;subst e;exact I.call (g':=g') (t':=t') (d':=d') u bu hg Ez
end
abbrev XK:=gV->Option ap->Hp->Prop
abbrev St:=List (Option V)
abbrev VK:=V->Hp->Prop
abbrev TE:=St->Hp->VK->Prop
abbrev TT:=St->Hp->(Bool->Hp->Prop)->Prop
abbrev TA:=St->Hp->(List V->Hp->Prop)->Prop
structure Ends where
 nx:St->Hp->Prop
 rt:VK
 bk:St->Hp->Prop:=λ _ _=>False
 ct:St->Hp->Prop:=λ _ _=>False
abbrev TS:=Ends->St->Hp->Prop
def EP(X:Cx)(jp:List (ap×Obj))(σ:St)(Q:VK)(u:gV)(s':am):Prop:=∃v H',sn X jp σ H' s'/\sK v u/\Q v H'
def TP(X:Cx)(jp:List (ap×Obj))(σ:St)(Q:Bool->Hp->Prop)(b:Bool)(s':am):Prop:=∃H',sn X jp σ H' s'/\Q b H'
def AP(X:Cx)(jp:List (ap×Obj))(σ:St)(Q:List V->Hp->Prop)(us:List gV)(s':am):Prop:=∃vs H',sn X jp σ H' s'/\ut vs us/\Q vs H'
def SP(X:Cx)(jp:List (ap×Obj))(D:Ends)(f:Flow)(s':am):Prop:=
 match f with
 | .next=>∃σ' H',sn X jp σ' H' s'/\D.nx σ' H'
 | .brk=>∃σ' H',sn X jp σ' H' s'/\D.bk σ' H'
 | .cont=>∃σ' H',sn X jp σ' H' s'/\D.ct σ' H'
 | .ret u=>∃v σ' H',sn X jp σ' H' s'/\sK v u/\D.rt v H'
def PE(X:Cx)(e:Expr)(t:TE):Prop:=
 ∀(jp:List (ap×Obj))(s:am)(σ:St)(H:Hp)(Q:VK),sn X jp σ H s->t σ H Q->wpAny (model X.prog X.w) X.A (eval e X.env) (EP X jp σ Q) X.xe s
def PT(X:Cx)(e:Expr)(t:TT):Prop:=
 ∀(jp:List (ap×Obj))(s:am)(σ:St)(H:Hp)(Q:Bool->Hp->Prop),sn X jp σ H s->t σ H Q->wpAny (model X.prog X.w) X.A (isTrue e X.env (eval e X.env)) (TP X jp σ Q) X.xe s
def PW(X:Cx)(e:Expr)(t:TT):Prop:=
 ∀(whole:Sem gV)(jp:List (ap×Obj))(s:am)(σ:St)(H:Hp)(Q:Bool->Hp->Prop),sn X jp σ H s->t σ H Q->wpAny (model X.prog X.w) X.A (isTrue e X.env whole) (TP X jp σ Q) X.xe s
def PW.pt(h:PW X e t):PT X e t:=h _
def PA(X:Cx)(es:List Expr)(t:TA):Prop:=
 ∀(pos:Pos)(jp:List (ap×Obj))(s:am)(σ:St)(H:Hp)(Q:List V->Hp->Prop),sn X jp σ H s->t σ H Q->wpAny (model X.prog X.w) X.A (spliced (backTo pos (starEach es X.env))) (AP X jp σ Q) X.xe s
def PS(X:Cx)(st:Stmt)(t:TS):Prop:=
 ∀(jp:List (ap×Obj))(s:am)(σ:St)(H:Hp)(D:Ends),sn X jp σ H s->t D σ H->wpAny (model X.prog X.w) X.A (exec st X.env) (SP X jp D) X.xe s
def yJ(X:Cx)(st:List Stmt)(t:TS):Prop:=
 ∀(jp:List (ap×Obj))(s:am)(σ:St)(H:Hp)(D:Ends),sn X jp σ H s->t D σ H->wpAny (model X.prog X.w) X.A (execs st X.env) (SP X jp D) X.xe s
def cZ{Q:α->am->Prop}{M:Model}(h:wpAny M A t Q E s)(hQ:∀a s,Q a s->Q' a s):wpAny M A t Q' E s:=J6 h hQ λ _ _ x=>x
section
variable {X:Cx}
def YZ(i:Nat):TE:=λ σ H Q=>∃v,σ[i]?=some (some v)/\Q v H
def tC(v:V):TE:=λ _ H Q=>Q v H
def Hu(hN:X.N[i]?=some x)(hv:T8 X.env.scope x)(hd:rj x:=by decide)(sW:XE x:=by decide):PE X (.Name x pos) (YZ i):=by
 intro jp s σ H Q I h;obtain⟨v,e,h⟩:=h;obtain⟨m,hn,hl⟩:=I.loc;obtain⟨u,r,l⟩:=hl i x v hN e hv;have fin:EP X jp σ Q u s:=⟨v,H,I,r,h⟩;rcases l with⟨hk,hm⟩|⟨hk,c,hc,Cq⟩
 ·exact wpAny_Name (wpAny_loadName_local I.ok.kind hk hn hm fin) hd
 ·rcases hk with hk|hk
  ·exact wpAny_Name (wpAny_loadName_cell I.ok.kind hk hc Cq fin) hd
  ·exact wpAny_Name (wpAny_loadName_free I.ok.kind hk hc Cq fin sW) hd
def Hw{i:_}:PE X (.Constant (.int i) j pos) (tC (.int i)):=λ _ _ _ H _ I h=>wpAny_Constant_int ⟨.int i,H,I.tok _,⟨_,rfl⟩,h⟩
def VM:PE X (.Constant (.bool b) j pos) (tC (.bl b)):=λ _ _ _ H _ I h=>Constant_bool ⟨.bl b,H,I,rfl,h⟩
def Rq:PE X (.Constant .none j pos) (tC .bo):=λ _ _ _ H _ I h=>Constant_none ⟨.bo,H,I,rfl,h⟩
def Ro:PE X (.Constant (.str x) j pos) (tC (.str x)):=λ _ _ _ H _ I h=>Calls.Constant_str ⟨.str x,H,I.tok _,⟨_,rfl⟩,h⟩
def Gl(X:Cx)(x:Str):Prop:=X.env.kindOf x=some .globalImplicit
def uI{σ:St}(I:sn X jp σ H s)(hg:Gl X x)(hm:X.mg x=some u)(h:Q u s)(hd:rj x:=by decide):wpAny (model X.prog X.w) X.A (eval (.Name x pos) X.env) Q E s:=
 Calls.Name_function_global I.ok.kind hg (Calls.loadGlobal_global (by rw[I.ok.glob];exact I.mod.glob.keeps I.bk) hm h) hd
def jf{σ:St}(I:sn X jp σ H s)(hg:Gl X x)(hm:X.mg x=none)(hv:bootBuiltins x=some u)(h:Q u s)(hn:x≠"__name__":=by decide)(hd:rj x:=by decide):wpAny (model X.prog X.w) X.A (eval (.Name x pos) X.env) Q E s:=by obtain⟨mb,h1,h2⟩:=I.mod.blt;exact Calls.Name_function_global I.ok.kind hg (Calls.loadGlobal_builtin (by rw[I.ok.glob];exact I.mod.glob.keeps I.bk) hm (by rw[I.ok.blt];exact h1.keeps I.bk) ((h2 x hn).trans hv) h) hd
variable {a b:Expr}{ta tb:TE}
def tB(t:TE):TT:=λ σ H Q=>t σ H λ x H1=>∃c,x=.bl c/\Q c H1
def Q_(h:PE X e t)(he:IsT X e:=by intro _;rfl):PT X e (tB t):=by intro jp s σ H Q I hw;refine isTrue_plain (cZ (h jp s σ H _ I hw) λ v s1 ⟨x,H1,I1,r1,q1⟩=>?_) (he _);obtain⟨d,rfl,q⟩:=q1;cases r1;exact w9 ⟨H1,I1,q⟩
variable {tA XZ:TT}
def Y'(t u:TT):TT:=λ σ H Q=>t σ H λ c H1=>if c=true then u σ H1 Q else Q false H1
def tOr(t u:TT):TT:=λ σ H Q=>t σ H λ c H1=>if c=true then Q true H1 else u σ H1 Q
def Y3(t:TT):TT:=λ σ H Q=>t σ H λ c H1=>Q (!c) H1
def LQ(ha:PT X a tA):PW X (.BoolOp .And [a] pos) tA:=by
 intro wh jp s σ H Q I h;refine isTrue_and (cZ (ha jp s σ H Q I h) λ c s1 e=>?_);cases c with
 |true=>exact isTrue_and_nil e
 |false=>exact e
def Q7(ha:PT X a tA):PW X (.BoolOp .Or [a] pos) tA:=by
 intro wh jp s σ H Q I h;refine isTrue_or (cZ (ha jp s σ H Q I h) λ c s1 e=>?_);cases c with
 |false=>exact isTrue_or_nil e
 |true=>exact e
def Q9(ha:PT X a tA)(hb:PW X (.BoolOp .And (b::rest) pos) XZ):PW X (.BoolOp .And (a::b::rest) pos) (Y' tA XZ):=by
 intro wh jp s σ H Q I h;refine isTrue_and (cZ (ha jp s σ H _ I h) λ c s1 ⟨H1,I1,q1⟩=>?_);cases c with
 |true=>exact hb wh jp s1 σ H1 Q I1 q1
 |false=>exact⟨H1,I1,q1⟩
def VF(ha:PT X a tA)(hb:PW X (.BoolOp .Or (b::rest) pos) XZ):PW X (.BoolOp .Or (a::b::rest) pos) (tOr tA XZ):=by
 intro wh jp s σ H Q I h;refine isTrue_or (cZ (ha jp s σ H _ I h) λ c s1 ⟨H1,I1,q1⟩=>?_);cases c with
 |true=>exact⟨H1,I1,q1⟩
 |false=>exact hb wh jp s1 σ H1 Q I1 q1
def Ra(ha:PT X a tA):PT X (.UnaryOp .Not a pos) (Y3 tA):=by intro jp s σ H Q I h;exact isTrue_not (ha jp s σ H (λ c H1=>Q (!c) H1) I h)
def U6(ta tb:TE):TE:=λ σ H Q=>ta σ H λ x H1=>∃c,x=.bl c/\if c=true then tb σ H1 Q else Q (.bl false) H1
def Rp(h:PE X a t):PE X (.BoolOp op [a] pos) t:=λ jp s σ H Q I hw=>BoolOp_one (h jp s σ H Q I hw)
def Rx(ha:PE X a ta)(hb:PE X (.BoolOp .And (b::rest) pos) tb):PE X (.BoolOp .And (a::b::rest) pos) (U6 ta tb):=by
 intro jp s σ H Q I h;refine BoolOp_and (cZ (ha jp s σ H _ I h) λ v s1 ⟨x,H1,I1,r1,q1⟩=>?_);obtain⟨c,rfl,q1⟩:=q1;cases r1;refine w9 ?_;cases c with
 |true=>exact hb jp s1 σ H1 Q I1 q1
 |false=>exact⟨.bl false,H1,I1,rfl,q1⟩
end
def eO(K:K6)(H:Hp)(a:ap)(xs:List V):Prop:=
 Rd H a (.lst xs)\/
  ∃(o:Obj)(aq:Array gV)(n:Nat),K.lookup a=some o/\o.cls=.type "list"/\o.dict=none/\o.data=.seq aq n/\aq.size<=sizeLine/\ut xs aq.toList
def hG(K:K6)(H:Hp)(a:ap)(xs:List V):Prop:=
 Rd H a (.tup xs)\/
  ∃(o:Obj)(aq:Array gV)(n:Nat),K.lookup a=some o/\o.cls=.type "tuple"/\o.data=.seq aq n/\aq.size<=sizeLine/\ut xs aq.toList
def abq:gV->Option V
 | .none=>some .bo
 | .bool b=>some (.bl b)
 | .int i _=>some (.int i)
 | .str x _=>some (.str x)
 | .bytes b _=>some (.JK b)
 | .float b _=>some (.flt b)
 | .ref a=>some (.ref a)
 | .type n=>some (.ty n)
 |_=>none
def sK.abs{x:V}(r:sK x u):abq u=some x:=by
 cases x with
 |bo=>cases r;rfl
 |bl _=>cases r;rfl
 |int _=>obtain⟨t,rfl⟩:=r;rfl
 |str _=>obtain⟨t,rfl⟩:=r;rfl
 |JK _=>obtain⟨t,rfl⟩:=r;rfl
 |flt _=>obtain⟨t,rfl⟩:=r;rfl
 |ref _=>cases r;rfl
 |ty _=>cases r;rfl
def sK.inj{x y:V}(r:sK x u)(q:sK y u):x=y:=B0 (r.abs.symm.trans q.abs)
def ut.inj:∀{xs ys:List V} {us:List gV},ut xs us->ut ys us->xs=ys
 |_,_,_,.nil,.nil=>rfl
 |_,_,_,.cons r t,.cons r' t'=>by rw[r.inj r',ut.inj t t']
section
variable {X:Cx}{σ:St}{H:Hp}{xs ys:List V}
def eO.of(h:H a=some (.lst xs)):eO K H a xs:=.inl (.inl h)
def hG.of(h:H a=some (.tup xs)):hG K H a xs:=.inl (.inl h)
def sn.list(I:sn X jp σ H s)(h:eO X.K H a xs):∃aq:List gV,ut xs aq/\PlainL s.heap a aq.toArray/\xs.length<=sizeLine:=by
 rcases h with h|⟨o,aq,n,hk,hc,hd,hs,hz,r⟩
 ·obtain⟨z,aq,n,r,e⟩:=h.ok I.bu;exact⟨aq,r,⟨_,n,e,rfl,rfl,rfl⟩,z⟩
 ·refine⟨aq.toList,r,⟨o,n,I.Nh a o hk,hc,hd,by simpa using hs⟩,?_⟩;have e:=r.length;simp only[n5]at e;lia
def sn.tuple(I:sn X jp σ H s)(h:hG X.K H a xs):∃aq:List gV,ut xs aq/\IsTup s.heap a aq.toArray/\xs.length<=sizeLine:=by
 rcases h with h|⟨o,aq,n,hk,hc,hs,hz,r⟩
 ·obtain⟨z,aq,r,p⟩:=h.ok I.bu;exact⟨aq,r,p,z⟩
 ·refine⟨aq.toList,r,⟨o,I.Nh a o hk,hc,n,by simpa using hs⟩,?_⟩;have e:=r.length;simp only[n5]at e;lia
def sn.xi(I:sn X jp σ H s)(h:eO X.K H a xs)(h':eO X.K H a ys):xs=ys:=by
 obtain⟨aq,r,⟨o,n,e,_,_,d⟩,_⟩:=I.list h;obtain⟨its',r',⟨o',n',e',_,_,d'⟩,_⟩:=I.list h';rw[e]at e';cases e';rw[d]at d';injection d' with d1 _
 have:aq=its':=by simpa using J8 Array.toList d1
 subst this;exact r.inj r'
def sn.rW(I:sn X jp σ H s)(h:hG X.K H a xs)(h':hG X.K H a ys):xs=ys:=by
 obtain⟨aq,r,⟨o,e,_,n,d⟩,_⟩:=I.tuple h;obtain⟨its',r',⟨o',e',_,n',d'⟩,_⟩:=I.tuple h';rw[e]at e';cases e';rw[d]at d';injection d' with d1 _
 have:aq=its':=by simpa using J8 Array.toList d1
 subst this;exact r.inj r'
end
abbrev Cx.rm(X:Cx)(E:gV->am->Prop):Cx:={X with xe:=E}
abbrev Cx.ME(X:Cx):Cx:=X.rm λ _ _=>False
def Cx.Ok.rm{X:Cx}(ok:X.Ok)(E:gV->am->Prop):(X.rm E).Ok:=
 ⟨ok.mod,ok.kind,ok.glob,ok.blt,ok.above,ok.inj,ok.has,ok.UD,ok.hd,ok.frames,ok.X3,ok.exf,ok.bs,ok.CW,ok.Ec,ok.NR,ok.jX,ok.Ki⟩
def Cx.Ok.iS{X:Cx}(ok:(X.rm E).Ok):X.Ok:=
 ⟨ok.mod,ok.kind,ok.glob,ok.blt,ok.above,ok.inj,ok.has,ok.UD,ok.hd,ok.frames,ok.X3,ok.exf,ok.bs,ok.CW,ok.Ec,ok.NR,ok.jX,ok.Ki⟩
section
variable {X:Cx}{σ:St}{H:Hp}
def sn.rm(I:sn X jp σ H s)(E:gV->am->Prop):sn (X.rm E) jp σ H s:=⟨I.ok.rm E,I.os,I.bare,I.base,I.loc,I.cell,I.free,I.gY,I.pin,I.bu,I.len⟩
def sn.iS(I:sn (X.rm E) jp σ H s):sn X jp σ H s:=⟨I.ok.iS,I.os,I.bare,I.base,I.loc,I.cell,I.free,I.gY,I.pin,I.bu,I.len⟩
def SP.iS{f:Flow}(h:SP (X.rm E) jp D f s'):SP X jp D f s':=by
 cases f with
 |next=>obtain⟨σ',H',I,q⟩:=h;exact⟨σ',H',I.iS,q⟩
 |brk=>obtain⟨σ',H',I,q⟩:=h;exact⟨σ',H',I.iS,q⟩
 |cont=>obtain⟨σ',H',I,q⟩:=h;exact⟨σ',H',I.iS,q⟩
 |ret u=>obtain⟨v,σ',H',I,r,q⟩:=h;exact⟨v,σ',H',I.iS,r,q⟩
def yJ.ME{st:List Stmt}(h:yJ X.ME st t):yJ X st t:=λ jp s σ H D I hw=>
 J6 (h jp s σ H D (I.rm _) hw) (λ _ _ q=>q.iS) λ _ _ z=>False.elim z
end
section
variable {X:Cx}{rest:List Stmt}{t u:TS}{te:TE}
def U4:TS:=λ D σ H=>D.nx σ H
def Y1(t u:TS):TS:=λ D σ H=>t {D with nx:=u D} σ H
def LW:yJ X [] U4:=λ _ _ σ H _ I h=>wpAny_execs_nil ⟨σ,H,I,h⟩
def Hb(h1:PS X st t)(h2:yJ X rest u):yJ X (st::rest) (Y1 t u):=by
 intro jp s σ H D I h;refine wpAny_execs_cons (cZ (h1 jp s σ H {D with nx:=u D} I h) λ f s1 q=>?_);cases f with
 |next=>obtain⟨σ',H',I',q⟩:=q;exact h2 jp s1 σ' H' D I' q
 |ret v=>exact q
 |brk=>exact q
 |cont=>exact q
def LV(h1:PS X st t):yJ X [st] t:=by
 intro jp s σ H D I h;refine wpAny_execs_cons (cZ (h1 jp s σ H D I h) λ f s1 q=>?_);cases f with
 |next=>exact wpAny_execs_nil q
 |ret v=>exact q
 |brk=>exact q
 |cont=>exact q
def sn.quiet{σ:St}(I:sn X jp σ H s):interactive X.env=false:=by simp[interactive,I.ok.kind]
def U5(te:TE):TS:=λ D σ H=>te σ H λ _ H1=>D.nx σ H1
def LX(he:PE X e te)(hs:swapsWith e none pos.line X.env=pure false:=by rfl):PS X (.Expr e pos) (U5 te):=by intro jp s σ H D I h;exact wpAny_Expr_any (cZ (he jp s σ H _ I h) λ v s1 ⟨x,H1,I1,r1,q1⟩=>⟨σ,H1,I1,q1⟩) I.quiet hs
def Y2(te:TE):TS:=λ D σ H=>te σ H D.rt
def Rc(he:PE X e te):PS X (.Return (some e) pos) (Y2 te):=by intro jp s σ H D I h;exact wpAny_Return_some (cZ (he jp s σ H _ I h) λ v s1 ⟨x,H1,I1,r1,q1⟩=>⟨x,σ,H1,I1,r1,q1⟩)
def Y6(c:TT)(t u:TS):TS:=λ D σ H=>c σ H λ b H1=>if b=true then t D σ H1 else u D σ H1
def VG{c:Expr}{a b:List Stmt}{tc:TT}(hc:PT X c tc)(ha:yJ X a t)(hb:yJ X b u):PS X (.If c a b pos) (Y6 tc t u):=by
 intro jp s σ H D I h;refine wpAny_If (cZ (hc jp s σ H _ I h) λ d s1 ⟨H1,I1,q1⟩=>?_);cases d with
 |true=>exact ha jp s1 σ H1 D I1 q1
 |false=>exact hb jp s1 σ H1 D I1 q1
end
abbrev TG:=V->St->Hp->(St->Hp->Prop)->Prop
abbrev C_:=List V->St->Hp->(St->Hp->Prop)->Prop
def PG(X:Cx)(target:Expr)(t:TG):Prop:=
 ∀(jp:List (ap×Obj))(s:am)(σ:St)(H:Hp)(v:V)(u:gV)(Q:St->Hp->Prop),sn X jp σ H s->sK v u->t v σ H Q->
  wpAny (model X.prog X.w) X.A (assign target X.env u) (λ _ s'=>∃σ' H',sn X jp σ' H' s'/\Q σ' H') X.xe s
def Uc(X:Cx)(ts:List Expr)(t:C_):Prop:=
 ∀(jp:List (ap×Obj))(s:am)(σ:St)(H:Hp)(vs:List V)(us:List gV)(Q:St->Hp->Prop),sn X jp σ H s->ut vs us->t vs σ H Q->
  wpAny (model X.prog X.w) X.A (assignInOrder ((assignEach ts X.env).map (·.2)) us) (λ _ s'=>∃σ' H',sn X jp σ' H' s'/\Q σ' H') X.xe s
abbrev Fc:=V->V->V->Hp->(Hp->Prop)->Prop
def vE(X:Cx)(t:Fc):Prop:=
 ∀(jp:List (ap×Obj))(s:am)(σ:St)(H:Hp)(o i v:V)(ov iv u:gV)(Q:Hp->Prop),sn X jp σ H s->sK o ov->sK i iv->sK v u->t o i v H Q->
  wpAny (model X.prog X.w) X.A (setItem ov iv u) (λ _ s'=>∃H',sn X jp σ H' s'/\Q H') X.xe s
abbrev YE:=V->V->Hp->VK->Prop
def PIp(X:Cx)(op:Operator)(t:YE):Prop:=
 ∀(jp:List (ap×Obj))(s:am)(σ:St)(H:Hp)(x y:V)(v u:gV)(Q:VK),sn X jp σ H s->sK x v->sK y u->t x y H Q->
  wpAny (model X.prog X.w) X.A (inplaceOp op v u) (EP X jp σ Q) X.xe s
section
variable {X:Cx}
def fV(i:Nat):TG:=λ v σ H Q=>Q (σ.set i (some v)) H
def oU(hN:X.N.Nodup)(hi:X.N[i]?=some x)(hx:Loc X.env.scope x)(hf:Kp X x:=by first|exact .inl rfl|exact .inr rfl|assumption):PG X (.Name x pos) (fV i):=by intro jp s σ H v u Q I r h;exact wpAny_assign_Name (pU I hN hi hx r (λ s' I'=>⟨_,H,I',h⟩) hf)
def EB:C_:=λ vs σ H Q=>vs=[]/\Q σ H
def mq(t:TG)(u:C_):C_:=λ vs σ H Q=>∃v r,vs=v::r/\t v σ H λ σ' H'=>u r σ' H' Q
def BE:Uc X [] EB:=by intro jp s σ H vs us Q I r h;obtain⟨e,h⟩:=h;subst e;cases r;exact assignInOrder_nil ⟨σ,H,I,h⟩
def qi{u:C_}(h1:PG X e t)(h2:Uc X es u)(hs:(assignEach (e::es) X.env).map (·.2)=assign e X.env::(assignEach es X.env).map (·.2):=by rfl):Uc X (e::es) (mq t u):=by
 intro jp s σ H vs us Q I r h;obtain⟨v,vr,e1,h⟩:=h;subst e1;cases r with
 |cons r rr=>rw[hs];refine assignInOrder_cons (cZ (h1 jp s σ H _ _ _ I r h) λ _ s1 ⟨σ1,H1,I1,q1⟩=>?_);exact h2 jp s1 σ1 H1 _ _ Q I1 rr q1
def Jn(K:K6)(n:Nat)(t:C_):TG:=λ v σ H Q=>∃a xs,v=.ref a/\hG K H a xs/\xs.length=n/\t xs σ H Q
def Hr(hc:X.calm=true)(h:Uc X es t)(hn:(assignEach es X.env).length=n:=by rfl)(yT:(assignEach es X.env).findIdx? (·.1)=none:=by rfl):PG X (.Tuple es k pos) (Jn X.K n t):=by intro jp s σ H v u Q I r hw;obtain⟨a,xs,e1,hq,hl,hw⟩:=hw;subst e1;cases r;obtain⟨aq,rv,ht,hz⟩:=I.tuple hq;refine assign_Tuple_tuple (I.ok.hd hc) ht (by simp[hn,<- hl,rv.length]) yT λ h' hx=>?_;have I1:sn X jp σ H {s with heap:=h'}:=I.kept (t':=s.toks) λ b o e=>hx b o (D6 (D7 e)) e;exact h jp _ σ H xs _ Q I1 (by simpa using rv) hw
def abb(to ti:TE)(t:Fc):TG:=λ v σ H Q=>to σ H λ o H1=>ti σ H1 λ i H2=>t o i v H2 λ H3=>Q σ H3
def Rm{o i:Expr}{ti:TE}{t:Fc}(ho:PE X o to)(hi:PE X i ti)(hs:vE X t) (ha:∀v,assign (.Subscript o i pos) X.env v=(do
   let ov <- holding [v] (eval o X.env)
   let iv <- holding [v,ov] (eval i X.env)
   standAt pos
   holding [v,ov,iv] (setItem ov iv v)
   release [v,ov,iv] []):=by intro _;rfl):PG X (.Subscript o i pos) (abb to ti t):=by
 intro jp s σ H v u Q I r h;rw[ha];refine J1 (C4 (cZ (ho jp s σ H _ I h) λ ov s1 ⟨x,H1,I1,r1,q1⟩=>?_));refine J1 (C4 (cZ (hi jp s1 σ H1 _ I1 q1) λ iv s2 ⟨y,H2,I2,r2,q2⟩=>?_));refine J1 (wpAny_standAt (J1 (C4 (cZ (hs jp s2 σ H2 x y v ov iv u _ I2 r1 r2 r q2) λ _ s3 ⟨H3,I3,q3⟩=>?_))));exact wpAny_release ⟨σ,H3,I3,q3⟩
def KO(te:TE)(g:TG):TS:=λ D σ H=>te σ H λ x H1=>g x σ H1 D.nx
def Rh(he:PE X e te)(hg:PG X tg g)(hs:swapsWithSole [tg] e pos.line X.env=pure false:=by rfl)(hw:swappedStores [tg] e X.env=pure none:=by rfl)(h1:(assignEach [tg] X.env).map (·.2)=[assign tg X.env]:=by rfl):PS X (.Assign [tg] e pos) (KO te g):=by intro jp s σ H D I h;refine wpAny_Assign_stores (cZ (he jp s σ H _ I h) λ v s1 ⟨x,H1,I1,r1,q1⟩=>?_) hs hw;rw[h1];exact cZ (hg jp s1 σ H1 x v _ I1 r1 q1) λ _ s2 q=>q
def Rb(hN:X.N.Nodup)(hi:X.N[i]?=some x)(hx:Loc X.env.scope x)(he:PE X e te)(hs:swapsWith e (some (.Name x pos')) pos.line X.env=pure false:=by rfl)(hf:Kp X x:=by first|exact .inl rfl|exact .inr rfl|assumption):PS X (.Assign [.Name x pos'] e pos) (KO te (fV i)):=by intro jp s σ H D I h;refine wpAny_Assign_Name (cZ (he jp s σ H _ I h) λ v s1 ⟨y,H1,I1,r1,q1⟩=>?_) hs;exact pU I1 hN hi hx r1 (λ s2 I2=>⟨_,H1,I2,q1⟩) hf
def Y_(i:Nat)(te:TE)(ti:YE):TS:=λ D σ H=>∃x,σ[i]?=some (some x)/\te σ H λ y H1=>ti x y H1 λ z H2=>D.nx (σ.set i (some z)) H2
def Rg(hN:X.N.Nodup)(hi:X.N[i]?=some x)(hx:Loc X.env.scope x)(he:PE X e te)(ho:PIp X op ti)(hf:Kp X x:=by first|exact .inl rfl|exact .inr rfl|assumption):PS X (.AugAssign (.Name x pos') op e pos) (Y_ i te ti):=by
 intro jp s σ H D I h;obtain⟨v,e1,h⟩:=h;obtain⟨m,hn,hl⟩:=I.loc;have vis:T8 X.env.scope x:=by rcases hx with k|k;exact .inl k;exact .inr (.inl k)
 obtain⟨u,r,l⟩:=hl i x v hi e1 vis;refine wpAny_AugAssign_Name ?_;have go:wpAny (model X.prog X.w) X.A (eval e X.env) (λ w s₂=>wpAny (model X.prog X.w) X.A (inplaceOp op u w) (λ r s₃=>wpAny (model X.prog X.w) X.A (storeName X.env x r) (λ _=>SP X jp D .next) X.xe s₃) X.xe s₂) X.xe s:=by refine cZ (he jp s σ H _ I h) λ w s1 ⟨y,H1,I1,r1,q1⟩=>?_;refine cZ (ho jp s1 σ H1 v y u w _ I1 r r1 q1) λ z s2 ⟨zv,H2,I2,r2,q2⟩=>?_;exact pU I2 hN hi hx r2 (λ s3 I3=>⟨_,H2,I3,q2⟩) hf
 rcases l with⟨hk,hm⟩|⟨hk,c,hc,Cq⟩
 ·exact wpAny_loadName_local I.ok.kind hk hn hm go
 ·rcases hk with hk|hk
  ·exact wpAny_loadName_cell I.ok.kind hk hc Cq go
  ·rcases hx with k|k
   ·have:X.env.scope.names.lookup x=some .free:=hk;rw[k]at this;cases this
   ·have:X.env.scope.names.lookup x=some .free:=hk;rw[k]at this;cases this
def ipI(f:Int->Int->Int):YE:=λ x y H Q=>∃i j,x=.int i/\y=.int j/\Q (.int (f i j)) H
def SV:PIp X .Add (ipI λ i j=>i+j):=by intro jp s σ H x y v u Q I r1 r2 h;obtain⟨i,j,e1,e2,q⟩:=h;subst e1;subst e2;obtain⟨t,rfl⟩:=r1;obtain⟨t',rfl⟩:=r2;exact iadd_int ⟨.int _,H,I.tok _,⟨_,rfl⟩,q⟩
end
section
variable {X:Cx}
def Qj(c:TT)(tb:TS):TS:=λ D σ H=>∃W:Nat->St->Hp->Prop,(∃m,W m σ H)/\∀m σ H,W m σ H->
 c σ H λ b H1=>if b=true then ∃N:St->Hp->Prop,(∀σ' H',N σ' H'->∃m',m'<m/\W m' σ' H')/\tb {D with nx:=N,ct:=N,bk:=D.nx} σ H1 else D.nx σ H1
def He{c:Expr}(hp:YG X)(hc:PT X c tc)(hb:yJ X body tb):PS X (.While c body [] pos) (Qj tc tb):=by
 intro jp s σ H D I h;obtain⟨W,⟨m0,w0⟩,turn⟩:=h;refine wpAny_While (codeAny_whileLoop (λ n s'=>∃σ' H',sn X jp σ' H' s'/\W n σ' H') ?_ m0 ⟨σ,H,I,w0⟩);rintro n s1 ⟨σ1,H1,I1,w1⟩;refine B1 hp (cZ (hc jp s1 σ1 H1 _ I1 (turn n σ1 H1 w1)) λ b s2 ⟨H2,I2,q2⟩=>?_);cases b with
 |true=>
  obtain⟨N,hN,q2⟩:=q2;rw[K1 rfl];refine B1 hp (cZ (hb jp s2 σ1 H2 _ I2 q2) λ f s3 q3=>?_);cases f with
  |next=>obtain⟨σ3,H3,I3,n3⟩:=q3;obtain⟨m',hm,w3⟩:=hN σ3 H3 n3;exact⟨m',hm,σ3,H3,I3,w3⟩
  |cont=>obtain⟨σ3,H3,I3,n3⟩:=q3;obtain⟨m',hm,w3⟩:=hN σ3 H3 n3;exact⟨m',hm,σ3,H3,I3,w3⟩
  |brk=>exact q3
  |ret v=>exact q3
 |false=>rw[K3 o8];exact wpAny_execs_nil ⟨σ1,H2,I2,q2⟩
end
structure It where
 go:Nat->Hp->Prop
 Kr:Nat->Hp->V->Hp->Prop
 stop:Nat->Hp->Prop
def iP(X:Cx)(jp:List (ap×Obj))(H:Hp)(b:ap):Prop:=
 H b=none/\b≠X.env.locals/\b∉X.fs/\(b∈X.ex\/X.s₀.heap.objs.size<=b)/\(∀x c,X.env.cells.lookup x=some c->c≠b)/\∀p∈X.pn++jp,p.1≠b
def sn.mr{σ:St}{H':Hp}{b:ap}(I:sn X jp σ H s)(hb:s.heap.objs.size<=b)(hn:H' b=none):iP X jp H' b:=by
 refine⟨hn,G4 (p9 I.lt hb),I.Zz hb,.inr (E6 I.sz hb),λ x c e z=>?_,λ p hp z=>?_⟩
 ·obtain⟨v,q⟩:=I.cell x c e;exact be (p9 q.lt (by rw[z];exact hb)) (C7 _)
 ·exact be (p9 (D7 (I.pin p hp).1) (by rw[z];exact hb)) (C7 _)
structure Turn(P:Program)(w:World)(K:K6)(tg:Expr)(J:It)(fp:List ap)(it:ap)(tn:Nat->Heap->Prop):Prop where
 mem:it∈fp
 obj:∀i h,tn i h->∀b∈fp,∃o,h.get? b=some o/\∀v,o.data≠.cell v
 keep:∀i h h',tn i h->(∀b∈fp,∀o,h.get? b=some o->h'.get? b=some o)->tn i h'
 item:∀(X:Cx),X.prog=P->X.w=w->X.K=K->X.calm=true->∀(i:Nat)(jp:List (ap×Obj))(s:am)(σ:St)(H:Hp)(E:gV->am->Prop),sn X jp σ H s->(∀b∈fp,iP X jp H b)->tn i s.heap->J.go i H->
  wpAny (model P w) X.A (pyNext (.ref it)) (λ r s1=>∃u,r=some u/\
   wpAny (model P w) X.A (letOwnedTupleGo tg (.ref it) u) (λ _ s2=>∃x H',sn X jp σ H' s2/\sK x u/\J.Kr i H x H'/\tn (i+1) s2.heap/\∀b∈fp,H' b=none) E s1) E s
 done:∀(X:Cx),X.prog=P->X.w=w->X.K=K->X.calm=true->∀(i:Nat)(jp:List (ap×Obj))(s:am)(σ:St)(H:Hp)(E:gV->am->Prop),sn X jp σ H s->(∀b∈fp,iP X jp H b)->tn i s.heap->J.stop i H->
  wpAny (model P w) X.A (pyNext (.ref it)) (λ r s1=>r=none/\sn X jp σ H s1) E s
 self:∀(A:Around)(i:Nat)(s:am)(Q:gV->am->Prop)(E:gV->am->Prop),tn i s.heap->Q (.ref it) s->wpAny (model P w) A (pyIter (.ref it)) Q E s
abbrev TI:=St->Hp->(It->Hp->Prop)->Prop
def PIE(X:Cx)(jp:List (ap×Obj))(σ:St)(tg:Expr)(R:It->Hp->Prop)(X_:gV)(s2:am):Prop:=
 ∃(it:ap)(fp:List ap)(tn:Nat->Heap->Prop)(J:It)(H':Hp),X_=.ref it/\sn X jp σ H' s2/\Turn X.prog X.w X.K tg J fp it tn/\tn 0 s2.heap/\(∀b∈fp,iP X jp H' b)/\R J H'
def PI(X:Cx)(tg iter:Expr)(wi:TI):Prop:=
 ∀(jp:List (ap×Obj))(s:am)(σ:St)(H:Hp)(R:It->Hp->Prop),sn X jp σ H s->wi σ H R->
  wpAny (model X.prog X.w) X.A (eval iter X.env) (λ v s1=>wpAny (model X.prog X.w) X.A (pyIter v) (PIE X jp σ tg R) X.xe s1) X.xe s
def Cu{n:String}{vs:Array gV}{Q:Unit->am->Prop}(ho:s.heap.get? it=some o)(hc:o.cls=.type n)(hd:o.data=.fields vs)(hn:["enumerate","zip","dict_itemiterator","dict_reverseitemiterator","odict_iterator","itertools.zip_longest","itertools.pairwise"].contains n=false)(hQ:Q .unit s):wpAny M A (letOwnedTupleGo tg (.ref it) u) Q E s:=by
 unfold letOwnedTupleGo;cases tg<;>first
  |exact J3 hQ
  |(cases u<;>first
    |exact J3 hQ
    |(refine J1 (wpAny_load ho ?_)
      rw[hc,hd];show wpAny M A (if(["enumerate","zip","dict_itemiterator","dict_reverseitemiterator","odict_iterator","itertools.zip_longest","itertools.pairwise"].contains n&&vs[0]?==some (rawInt _))=true then _ else _) Q E s;rw[K3 (by intro h;rw[hn,Bool.false_and]at h;cases h)];exact J3 hQ))
def YK(K:K6)(a:ap):It:=
 ⟨λ i H=>∃xs x,eO K H a xs/\xs[i]?=some x,λ i H x H'=>H'=H/\∀xs,eO K H a xs->xs[i]?=some x,λ i H=>∃xs,eO K H a xs/\xs.length<=i⟩
def Itt(K:K6)(a:ap):It:=
 ⟨λ i H=>∃xs x,hG K H a xs/\xs[i]?=some x,λ i H x H'=>H'=H/\∀xs,hG K H a xs->xs[i]?=some x,λ i H=>∃xs,hG K H a xs/\xs.length<=i⟩
def YJ(lo:Int)(n:Nat):It:=⟨λ i _=>i<n,λ i H x H'=>H'=H/\x=.int (lo+i),λ i _=>n<=i⟩
def DB(a it:ap):Turn P w K tg (YK K a) [it] it (λ i h=>h.IsListIter it a i) where
 mem:=by simp
 obj:=λ i h st b hb=>by
  have e:b=it:=by simpa using hb
  subst e;obtain⟨o,e,c,d⟩:=st;exact⟨o,e,λ v z=>by rw[d]at z;cases z⟩
 keep:=λ i h h' st k=>st.at λ o e=>k it (by simp) o e
 item:=by intro X hP hw hK hc i jp s σ H E I hf st hg;subst hP hw hK;obtain⟨xs,x,hq,hx⟩:=hg;obtain⟨aq,rv,p,hz⟩:=I.list hq;obtain⟨u,hu,ru⟩:=rv.get hx;obtain⟨f0,f1,f2,f3,f4,f5⟩:=hf it (by simp);refine wpAny_pyNext_list_item st p.isList (x:=u) (by simpa using hu) λ h' yP sb=>?_;have I1:sn X jp σ H {s with heap:=h'}:=I.turned (t':=s.toks) (λ b o hb e=>(sb.2 b hb).trans e) f0 f1 f3 f4 f5;obtain⟨o,e,c,d⟩:=id yP;exact⟨u,rfl,Cu (s:={s with heap:=h'}) e c d (by decide) ⟨x,H,I1,ru,⟨rfl,λ ys hy=>by rw[I.xi hy hq];exact hx⟩,yP,λ b hb=>(hf b hb).1⟩⟩
 done:=by intro X hP hw hK hc i jp s σ H E I hf st hg;subst hP hw hK;obtain⟨xs,hq,hx⟩:=hg;obtain⟨aq,rv,p,hz⟩:=I.list hq;obtain⟨f0,f1,f2,f3,f4,f5⟩:=hf it (by simp);have hl:=rv.length;exact wpAny_pyNext_list_end (I.ok.hd hc) st p.isList (by simp;lia) λ h' eb=>⟨rfl,I.turned (t':=s.toks) (λ b o hb e=>eb b o hb e) f0 f1 f3 f4 f5⟩
 self:=λ _ _ _ _ _ st h=>wpAny_pyIter_listiter st h
def zj(a it:ap):Turn P w K tg (Itt K a) [it] it (λ i h=>h.IsTupleIter it a i) where
 mem:=by simp
 obj:=λ i h st b hb=>by
  have e:b=it:=by simpa using hb
  subst e;obtain⟨o,e,c,d⟩:=st;exact⟨o,e,λ v z=>by rw[d]at z;cases z⟩
 keep:=λ i h h' st k=>st.at λ o e=>k it (by simp) o e
 item:=by intro X hP hw hK hc i jp s σ H E I hf st hg;subst hP hw hK;obtain⟨xs,x,hq,hx⟩:=hg;obtain⟨aq,rv,p,hz⟩:=I.tuple hq;obtain⟨u,hu,ru⟩:=rv.get hx;obtain⟨f0,f1,f2,f3,f4,f5⟩:=hf it (by simp);refine wpAny_pyNext_tuple_item st (show s.heap.IsTuple a aq.toArray from p) (x:=u) (by simpa using hu) λ h' yP sb=>?_;have I1:sn X jp σ H {s with heap:=h'}:=I.turned (t':=s.toks) (λ b o hb e=>(sb.2 b hb).trans e) f0 f1 f3 f4 f5;obtain⟨o,e,c,d⟩:=id yP;exact⟨u,rfl,Cu (s:={s with heap:=h'}) e c d (by decide) ⟨x,H,I1,ru,⟨rfl,λ ys hy=>by rw[I.rW hy hq];exact hx⟩,yP,λ b hb=>(hf b hb).1⟩⟩
 done:=by intro X hP hw hK hc i jp s σ H E I hf st hg;subst hP hw hK;obtain⟨xs,hq,hx⟩:=hg;obtain⟨aq,rv,p,hz⟩:=I.tuple hq;obtain⟨f0,f1,f2,f3,f4,f5⟩:=hf it (by simp);have hl:=rv.length;exact wpAny_pyNext_tuple_end (I.ok.hd hc) st (show s.heap.IsTuple a aq.toArray from p) (by simp;lia) λ h' eb=>⟨rfl,I.turned (t':=s.toks) (λ b o hb e=>eb b o hb e) f0 f1 f3 f4 f5⟩
 self:=λ _ _ _ _ _ st h=>wpAny_pyIter_tupleiter st h
def zk(it:ap)(lo:Int)(n:Nat):Turn P w K tg (YJ lo n) [it] it (λ i h=>IsRangeIter h it (lo+(i:Nat)*1) ((n:Int)-(i:Nat)) 1) where
 mem:=by simp
 obj:=λ i h st b hb=>by
  have e:b=it:=by simpa using hb
  subst e;exact⟨_,st,λ v z=>by
   have z':Data.fields _=Data.cell v:=z;cases z'⟩
 keep:=λ i h h' st k=>k it (by simp) _ st
 item:=by intro X hP hw hK hc i jp s σ H E I hf st hg;subst hP hw hK;obtain⟨f0,f1,f2,f3,f4,f5⟩:=hf it (by simp);have W:=Walks.range (prog:=X.prog) (w:=X.w) (I.ok.hd hc) it lo 1 n;refine W.item i s _ _ hg st λ v h' tk hv yP kk=>?_;obtain⟨t,rfl⟩:=hv;have I1:sn X jp σ H {s with heap:=h',toks:=tk}:=I.turned (λ b o hb e=>kk b o (by simpa using hb) e) f0 f1 f3 f4 f5;refine⟨_,rfl,Cu (s:={s with heap:=h',toks:=tk}) (n:="range_iterator") yP rfl rfl (by decide) ⟨.int (lo+i),H,I1,⟨t,?_⟩,⟨rfl,rfl⟩,yP,λ b hb=>(hf b hb).1⟩⟩;rw[Int.mul_one]
 done:=by intro X hP hw hK hc i jp s σ H E I hf st hg;subst hP hw hK;obtain⟨f0,f1,f2,f3,f4,f5⟩:=hf it (by simp);exact wpAny_pyNext_range_end (I.ok.hd hc) st (by have:n<=i:=hg;lia) λ h' eb=>⟨rfl,I.turned (t':=s.toks) (λ b o hb e=>eb b o hb e) f0 f1 f3 f4 f5⟩
 self:=λ _ _ _ _ _ st h=>wpAny_pyIter_rangeiter st h
section
variable {X:Cx}
def GW{σ:St}{hi:Int}{t u v:Tok}{tk:Nat}(I:sn X jp σ H s)(h1: -(2^62)<=lo)(h2:lo<2^62)(h3: -(2^62)<=hi)(h4:hi<2^62)(q:R (YJ lo (hi-lo).toNat) H):wpAny (model X.prog X.w) X.A (pyIter (.ref s.heap.objs.size)) (PIE X jp σ tg R) E {s with heap:=s.heap.push {cls:=.type "range",data:=.fields #[.int lo t,.int hi u,.int 1 v]},toks:=tk}:=by
 refine wpAny_pyIter_range (IsRange.new ..) (small_one h1 h2 h3 h4) ?_;have I1:sn X jp σ H {s with heap:=s.heap.push {cls:=.type "range",data:=.fields #[.int lo t,.int hi u,.int 1 v]},toks:=tk}:=I.kept λ b o e=>j5 _ e;refine⟨(s.heap.push {cls:=.type "range",data:=.fields #[.int lo t,.int hi u,.int 1 v]}).objs.size,[(s.heap.push {cls:=.type "range",data:=.fields #[.int lo t,.int hi u,.int 1 v]}).objs.size],_,_,H,rfl,
  I1.kept (t':=tk) λ b o e=>j5 _ e,zk _ lo (hi-lo).toNat,?_,λ b hb=>?_,q⟩
 ·have e1:lo+((0:Nat):Int)*1=lo:=by simp
  have e2:(((hi-lo).toNat:Nat):Int)-((0:Nat):Int)=Builtin.Range.rangeSize lo hi 1:=by rw[rangeSize_one];split<;>lia
  show IsRangeIter _ _ (lo+((0:Nat):Int)*1) ((((hi-lo).toNat:Nat):Int)-((0:Nat):Int)) 1;rw[e1,e2];exact n6 _ rfl
 ·have e:b=(s.heap.push {cls:=.type "range",data:=.fields #[.int lo t,.int hi u,.int 1 v]}).objs.size:=by simpa using hb
  subst e;exact I1.mr (G7 _) (I1.bu.fresh (G7 _))
def Wg(ta:TA):TI:=λ σ H R=>ta σ H λ vs H1=>∃j:Int,vs=[.int j]/\-(2^62)<=j/\j<2^62/\R (YJ 0 j.toNat) H1
def DS{a:Expr}{p:Pos}(hg:Gl X "range")(hm:X.mg "range"=none)(ha:PA X [a] ta)(hs:starEach [a] X.env=[(false,eval a X.env)]:=by rfl):PI X tg (.Call (.Name "range" p) [a] [] pos) (Wg ta):=by
 intro jp s σ H R I h;refine Call_ (jf I hg hm boot_range (b7 (cZ (ha pos jp s σ H _ I h) λ us s1 ⟨vs,H1,I1,r1,q1⟩=>?_) hs rfl));obtain⟨j,e,q1,q2,q⟩:=q1;subst e;cases r1 with
 |cons r rr=>cases rr;obtain⟨t,rfl⟩:=r;exact call_range_1 (GW I1 () () q1 q2 (by simpa using q))
def Y7(wi:TI)(g:TG)(tb:TS):TS:=λ D σ H=>wi σ H λ J H1=>∃W:Nat->Nat->St->Hp->Prop,(∃m,W 0 m σ H1)/\∀i m σ H,W i m σ H->
 (J.stop i H/\D.nx σ H)\/(J.go i H/\∃N:St->Hp->Prop,(∀σ' H',N σ' H'->∃m',m'<m/\W (i+1) m' σ' H')/\∀x H',J.Kr i H x H'->g x σ H' λ σ2 H2=>tb {D with nx:=N,ct:=N,bk:=D.nx} σ2 H2)
def uj(fp:List ap)(h:Heap):List (ap×Obj):=fp.filterMap λ b=>(h.get? b).map λ o=>(b,o)
def eA{b:ap}(hb:b∈fp)(e:h.get? b=some o):(b,o)∈uj fp h:=mem_filterMap.mpr ⟨b,hb,by rw[e];rfl⟩
def D'{p:ap×Obj}(hp:p∈uj fp h):p.1∈fp/\h.get? p.1=some p.2:=by
 obtain⟨b,hb,e⟩:=mem_filterMap.mp hp;cases q:h.get? b with
 |none=>rw[q]at e;cases e
 |some o=>rw[q]at e;have e':(b,o)=p:=B0 e;subst e';exact⟨hb,q⟩
def sn.pinned{σ:St}(I:sn X jp σ H s)(hf:∀b∈fp,iP X jp H b)(ho:∀b∈fp,∃o,s.heap.get? b=some o/\∀v,o.data≠.cell v):sn X (jp++uj fp s.heap) σ H s:=
 I.fb λ p hp=>(B4.mp hp).elim (λ z=>I.pin p (j8 _ z)) λ z=>by obtain⟨hb,e⟩:=D' z;obtain⟨f0,f1,f2,_⟩:=hf p.1 hb;obtain⟨o,e',d⟩:=ho p.1 hb;rw[e]at e';cases e';exact⟨e,f0,f1,f2,d⟩
def sn.pP{σ:St}(I:sn X (jp++pl) σ H s):sn X jp σ H s:=I.fb λ p hp=>I.pin p (j8 _ (k9 _ hp))
def Rf(hp:YG X)(hc:X.calm=true)(hi:PI X tg iter wi)(hg:PG X tg g)(hb:yJ X body tb)(hs:Oq X iter:=by intro _;rfl):PS X (.For tg iter body [] pos) (Y7 wi g tb):=by
 intro jp s σ H D I h;refine wpAny_For (cZ (hi jp s σ H _ I h) λ v s1 h1=>cZ h1 λ X_ s2 h2=>?_) hs;obtain⟨it,fp,tn,J,H2,e,I2,T,FR,f2,W,⟨m0,w0⟩,turn⟩:=h2;subst e;have Qp:∀{H':Hp},(∀b∈fp,H' b=none)->∀b∈fp,iP X jp H' b:=λ hn b hb=>⟨hn b hb,(f2 b hb).2⟩;refine codeAny_forLoop_any (λ n s'=>∃i σ' H',sn X jp σ' H' s'/\tn i s'.heap/\(∀b∈fp,H' b=none)/\W i n σ' H') ?_ m0 ⟨0,σ,H2,I2,FR,λ b hb=>(f2 b hb).1,w0⟩;rintro n s3 ⟨i,σ3,H3,I3,U9,Xb,w3⟩;rcases turn i n σ3 H3 w3 with⟨stop,qn⟩|⟨go,N,hN,step⟩
 ·refine B1 hp (cZ (T.done X rfl rfl rfl hc i jp s3 σ3 H3 X.xe I3 (Qp Xb) U9 stop) λ r s4 ⟨hr,I4⟩=>?_);subst hr;exact wpAny_execs_nil ⟨σ3,H3,I4,qn⟩
 ·refine B1 hp (cZ (T.item X rfl rfl rfl hc i jp s3 σ3 H3 X.xe I3 (Qp Xb) U9 go) λ r s4 ⟨u,hr,h4⟩=>?_);subst hr;refine B1 hp (cZ h4 λ _ s5 ⟨x,H5,I5,r5,y5,KR,fr5⟩=>?_);have I5':=I5.pinned (Qp fr5) (T.obj _ _ KR);refine B1 hp (cZ (hg _ s5 σ3 H5 x u _ I5' r5 (step x H5 y5)) λ _ s6 ⟨σ6,H6,I6,q6⟩=>?_);refine B1 hp (cZ (hb _ s6 σ6 H6 _ I6 q6) λ f s7 q7=>?_);have again:∀{σ7:St} {H7:Hp},sn X (jp++uj fp s5.heap) σ7 H7 s7->N σ7 H7->∃m,m<n/\∃i σ' H',sn X jp σ' H' s7/\tn i s7.heap/\(∀b∈fp,H' b=none)/\W i m σ' H':=λ{σ7 H7} I7 n7=>by obtain⟨m',hm,w7⟩:=hN σ7 H7 n7;refine⟨m',hm,i+1,σ7,H7,I7.pP,T.keep _ _ _ KR λ b hb o e=>(I7.pin (b,o) (j8 _ (j8 _ (eA hb e)))).1,λ b hb=>?_,w7⟩;obtain⟨o,e,d⟩:=T.obj _ _ KR b hb;exact(I7.pin (b,o) (j8 _ (j8 _ (eA hb e)))).2.1
  cases f with
  |next=>obtain⟨σ7,H7,I7,n7⟩:=q7;exact again I7 n7
  |cont=>obtain⟨σ7,H7,I7,n7⟩:=q7;exact again I7 n7
  |brk=>obtain⟨σ7,H7,I7,q7⟩:=q7;exact⟨σ7,H7,I7.pP,q7⟩
  |ret v=>obtain⟨x7,σ7,H7,I7,r7,q7⟩:=q7;exact⟨x7,σ7,H7,I7.pP,r7,q7⟩
end
abbrev R2:=V->V->Hp->VK->Prop
def gM(X:Cx)(f:gV->gV->Sem gV)(r:R2):Prop:=
 ∀(jp:List (ap×Obj))(s:am)(σ:St)(H:Hp)(x y:V)(v u:gV)(Q:VK),sn X jp σ H s->sK x v->sK y u->r x y H Q->
  wpAny (model X.prog X.w) X.A (f v u) (EP X jp σ Q) X.xe s
def dr(X:Cx)(f:gV)(r:List V->Hp->VK->Prop):Prop:=
 ∀(jp:List (ap×Obj))(s:am)(σ:St)(H:Hp)(xs:List V)(us:List gV)(Q:VK),sn X jp σ H s->ut xs us->r xs H Q->
  wpAny (model X.prog X.w) X.A (call f us) (EP X jp σ Q) X.xe s
def U3(r:R2)(ta tb:TE):TE:=λ σ H Q=>ta σ H λ x H1=>tb σ H1 λ y H2=>r x y H2 Q
def rI(C:Int->Int->Prop)(g:Int->Int->V):R2:=λ x y H Q=>∃i j,x=.int i/\y=.int j/\C i j/\Q (g i j) H
def J_(g:Int->Int->V):R2:=λ x y H Q=>∃i j,x=.int i/\y=.int j/\Q (g i j) H
section
variable {X:Cx}{a b c:Expr}{ta tb tc:TE}
def T3(ha:PE X a ta)(hb:PE X b tb){σ:St}{R:V->V->Hp->Prop}(I:sn X jp σ H s)(h:ta σ H λ x H1=>tb σ H1 λ y H2=>R x y H2){f:gV->gV->Sem gV}(hf:∀v u s2 x y H2,sn X jp σ H2 s2->sK x v->sK y u->R x y H2->wpAny (model X.prog X.w) X.A (f v u) Q X.xe s2):wpAny (model X.prog X.w) X.A (eval a X.env) (λ v s₁=>wpAny (model X.prog X.w) X.A (eval b X.env) (λ u s₂=>wpAny (model X.prog X.w) X.A (f v u) Q X.xe s₂) X.xe s₁) X.xe s:=by refine cZ (ha jp s σ H _ I h) λ v s1 ⟨x,H1,I1,r1,q1⟩=>?_;refine cZ (hb jp s1 σ H1 _ I1 q1) λ u s2 ⟨y,H2,I2,r2,q2⟩=>?_;exact hf v u s2 x y H2 I2 r1 r2 q2
def VJ(ho:gM X (binaryOp op) r)(ha:PE X a ta)(hb:PE X b tb):PE X (.BinOp a op b pos) (U3 r ta tb):=by intro jp s σ H Q I h;exact wpAny_BinOp (T3 ha hb I h λ v u s2 x y H2 I2 rx ry q=>ho jp s2 σ H2 x y v u Q I2 rx ry q)
def X7{f:gV->gV->Sem gV}{g:Int->Int->Int}(rule:∀(i j:Int)(t u:Tok)(s:am)(Q:gV->am->Prop)(E:gV->am->Prop),C i j->Q (.int (g i j) s.toks) {s with toks:=s.toks+1}->wpAny (model X.prog X.w) X.A (f (.int i t) (.int j u)) Q E s):gM X f (rI C λ i j=>.int (g i j)):=by intro jp s σ H x y v u Q I rx ry h;obtain⟨i,j,rfl,rfl,hc,q⟩:=h;obtain⟨t,rfl⟩:=rx;obtain⟨t',rfl⟩:=ry;exact rule i j t t' s _ _ hc ⟨.int (g i j),H,I.tok _,⟨_,rfl⟩,q⟩
def RO{f:gV->gV->Sem gV}{g:Int->Int->Int}(rule:∀(i j:Int)(t u:Tok)(s:am)(Q:gV->am->Prop)(E:gV->am->Prop),Q (.int (g i j) s.toks) {s with toks:=s.toks+1}->wpAny (model X.prog X.w) X.A (f (.int i t) (.int j u)) Q E s):gM X f (J_ λ i j=>.int (g i j)):=by intro jp s σ H x y v u Q I rx ry h;obtain⟨i,j,rfl,rfl,q⟩:=h;obtain⟨t,rfl⟩:=rx;obtain⟨t',rfl⟩:=ry;exact rule i j t t' s _ _ ⟨.int (g i j),H,I.tok _,⟨_,rfl⟩,q⟩
def RP{f:gV->gV->Sem gV}{g:Int->Int->Bool}(rule:∀(i j:Int)(t u:Tok)(s:am)(Q:gV->am->Prop)(E:gV->am->Prop),Q (.bool (g i j)) s->wpAny (model X.prog X.w) X.A (f (.int i t) (.int j u)) Q E s):gM X f (J_ λ i j=>.bl (g i j)):=by intro jp s σ H x y v u Q I rx ry h;obtain⟨i,j,rfl,rfl,q⟩:=h;obtain⟨t,rfl⟩:=rx;obtain⟨t',rfl⟩:=ry;exact rule i j t t' s _ _ ⟨.bl (g i j),H,I,rfl,q⟩
def Uh(i j:Int):Prop:=0<j/\j<1073741824
def XT(i j:Int):Prop:=0<=j/\j<=1000000/\i.natAbs<2^64
def vH(i j:Int):Prop:=(-(2^64)<i/\i<2^64)\/(-(2^64)<j/\j<2^64)
def vH.ok{i j:Int}(h:vH i j):IntMulOk i j:=by
 rcases h with⟨h1,h2⟩|⟨h1,h2⟩
 ·exact .of_left (intBits_le_64 h1 h2)
 ·exact .of_right (intBits_le_64 h1 h2)
def RM:gM X (binaryOp .Add) (J_ λ i j=>.int (i+j)):=RO λ _ _ _ _ _ _ _ q=>add_int q
def RB:gM X (binaryOp .Sub) (J_ λ i j=>.int (i-j)):=RO λ _ _ _ _ _ _ _ q=>sub_int q
def RG:gM X (binaryOp .Mult) (rI vH λ i j=>.int (i*j)):=X7 λ _ _ _ _ _ _ _ hc q=>mul_int q hc.ok
def Mk:gM X (binaryOp .FloorDiv) (rI Uh λ i j=>.int (i/j)):=X7 λ i j _ _ _ _ _ hc q=>by have h1:(0:Int)<j:=hc.1;have h2:j<1073741824:=hc.2;exact floordiv_int () (by rw[Int.fdiv_eq_ediv_of_nonneg i ()];exact q) (.inl (PyProof.noPylong_small ()))
def RH:gM X (binaryOp .Mod) (rI (λ _ j=>0<j) λ i j=>.int (i%j)):=X7 λ i j _ _ _ _ _ hc q=>by have h1:(0:Int)<j:=hc;exact mod_int' () (by rw[Int.fmod_eq_emod_of_nonneg i ()];exact q)
def RD:gM X (binaryOp .Pow) (rI XT λ i j=>.int (i^j.toNat)):=X7 λ _ _ _ _ _ _ _ hc q=>pow_int_small hc.1 hc.2.1 hc.2.2 q
def RA:gM X (binaryOp .BitXor) (J_ λ i j=>.int (Builtin.bitXor i j)):=RO λ _ _ _ _ _ _ _ q=>xor_int q
end
def Vb:V->V->Bool
 | .bo,.bo=>true| .bo,.int _=>true| .int _,.bo=>true| .bo,.bl _=>true| .bl _,.bo=>true| .bo,.str _=>true| .str _,.bo=>true
 | .int _,.int _=>true| .bl _,.bl _=>true| .str _,.str _=>true| .JK _,.JK _=>true
 | .int _,.str _=>true| .str _,.int _=>true| .bl _,.str _=>true| .str _,.bl _=>true
 |_,_=>false
def rEq:R2:=λ x y H Q=>Vb x y=true/\Q (.bl (decide (x=y))) H
def rNe:R2:=λ x y H Q=>Vb x y=true/\Q (.bl (!decide (x=y))) H
def CD{i j:Int}:decide (V.int i=V.int j)=(i==j):=by rw[A4];simp
def Jx{i j:Bool}:decide (V.bl i=V.bl j)=(i==j):=by rw[A4];simp
def CC{i j:Str}:decide (V.str i=V.str j)=(i==j):=by rw[A4];simp
def CF{i j:Array UInt8}:decide (V.JK i=V.JK j)=(i.toList==j.toList):=by rw[A4];cases i;cases j;simp
section
variable {X:Cx}{a b c:Expr}{ta tb tc:TE}
def a_{σ:St}{Q:VK}{k k':Bool}(I:sn X jp σ H s)(q:Q (.bl k) H)(e:k=k'):EP X jp σ Q (.bool k') s:=by subst e;exact⟨.bl k,H,I,rfl,q⟩
def VR:gM X (compareOp .Eq) rEq:=by
 intro jp s σ H x y v u Q I rx ry h;obtain⟨hs,q⟩:=h;cases x with
 |bo=>
  cases rx;cases y with
  |bo=>cases ry;exact PySem.EqNone.eq_none_none (a_ I q (by simp))
  |bl j=>cases ry;exact PySem.EqNone.eq_none_bool (a_ I q (by simp))
  |int j=>obtain⟨t',rfl⟩:=ry;exact PySem.EqNone.eq_none_int (a_ I q (by simp))
  |str j=>obtain⟨t',rfl⟩:=ry;exact PySem.EqNone.eq_none_str (a_ I q (by simp))
  |_=>exact be (show false=true from hs) o8
 |bl i=>
  cases rx;cases y with
  |bo=>cases ry;exact PySem.EqNone.eq_bool_none (a_ I q (by simp))
  |bl j=>cases ry;exact eq_bool (a_ I q Jx)
  |str j=>obtain⟨t',rfl⟩:=ry;exact PySem.EqMixed.eq_bool_str (a_ I q (by simp))
  |_=>exact be (show false=true from hs) o8
 |int i=>
  obtain⟨t,rfl⟩:=rx;cases y with
  |bo=>cases ry;exact PySem.EqNone.eq_int_none (a_ I q (by simp))
  |int j=>obtain⟨t',rfl⟩:=ry;exact eq_int (a_ I q CD)
  |str j=>obtain⟨t',rfl⟩:=ry;exact PySem.EqMixed.eq_int_str (a_ I q (by simp))
  |_=>exact be (show false=true from hs) o8
 |str i=>
  obtain⟨t,rfl⟩:=rx;cases y with
  |bo=>cases ry;exact PySem.EqNone.eq_str_none (a_ I q (by simp))
  |bl j=>cases ry;exact PySem.EqMixed.eq_str_bool (a_ I q (by simp))
  |int j=>obtain⟨t',rfl⟩:=ry;exact PySem.EqMixed.eq_str_int (a_ I q (by simp))
  |str j=>obtain⟨t',rfl⟩:=ry;exact eq_str (a_ I q CC)
  |_=>exact be (show false=true from hs) o8
 |JK i=>
  obtain⟨t,rfl⟩:=rx;cases y with
  |JK j=>obtain⟨t',rfl⟩:=ry;exact PySem.W.eq_bytes (a_ I q CF)
  |_=>exact be (show false=true from hs) o8
 |_=>cases y<;>exact be (show false=true from hs) o8
def VN:gM X (compareOp .NotEq) rNe:=by
 intro jp s σ H x y v u Q I rx ry h;obtain⟨hs,q⟩:=h;cases x with
 |bo=>
  cases rx;cases y with
  |bo=>cases ry;exact PySem.EqNone.ne_none_none (a_ I q (by simp))
  |bl j=>cases ry;exact PySem.EqNone.ne_none_bool (a_ I q (by simp))
  |int j=>obtain⟨t',rfl⟩:=ry;exact PySem.EqNone.ne_none_int (a_ I q (by simp))
  |str j=>obtain⟨t',rfl⟩:=ry;exact PySem.EqNone.ne_none_str (a_ I q (by simp))
  |_=>exact be (show false=true from hs) o8
 |bl i=>
  cases rx;cases y with
  |bo=>cases ry;exact PySem.EqNone.ne_bool_none (a_ I q (by simp))
  |bl j=>cases ry;exact ne_bool (a_ I q (J8 not Jx))
  |str j=>obtain⟨t',rfl⟩:=ry;exact PySem.EqMixed.ne_bool_str (a_ I q (by simp))
  |_=>exact be (show false=true from hs) o8
 |int i=>
  obtain⟨t,rfl⟩:=rx;cases y with
  |bo=>cases ry;exact PySem.EqNone.ne_int_none (a_ I q (by simp))
  |int j=>obtain⟨t',rfl⟩:=ry;exact ne_int (a_ I q (J8 not CD))
  |str j=>obtain⟨t',rfl⟩:=ry;exact PySem.EqMixed.ne_int_str (a_ I q (by simp))
  |_=>exact be (show false=true from hs) o8
 |str i=>
  obtain⟨t,rfl⟩:=rx;cases y with
  |bo=>cases ry;exact PySem.EqNone.ne_str_none (a_ I q (by simp))
  |bl j=>cases ry;exact PySem.EqMixed.ne_str_bool (a_ I q (by simp))
  |int j=>obtain⟨t',rfl⟩:=ry;exact PySem.EqMixed.ne_str_int (a_ I q (by simp))
  |str j=>obtain⟨t',rfl⟩:=ry;exact ne_str (a_ I q (J8 not CC))
  |_=>exact be (show false=true from hs) o8
 |JK i=>
  obtain⟨t,rfl⟩:=rx;cases y with
  |JK j=>obtain⟨t',rfl⟩:=ry;exact PySem.W.ne_bytes (a_ I q (J8 not CF))
  |_=>exact be (show false=true from hs) o8
 |_=>cases y<;>exact be (show false=true from hs) o8
def VO:gM X (compareOp .Lt) (J_ λ i j=>.bl (decide (i<j))):=RP λ _ _ _ _ _ _ _ q=>lt_int q
def VP:gM X (compareOp .Gt) (J_ λ i j=>.bl (decide (j<i))):=RP λ _ _ _ _ _ _ _ q=>gt_int q
def VQ:gM X (compareOp .GtE) (J_ λ i j=>.bl (decide (j<=i))):=RP λ _ _ _ _ _ _ _ q=>ge_int q
def DW:gM X (compareOp .In) (λ x y H Q=>∃i j,x=.str i/\y=.str j/\Q (.bl (!(Builtin.Str.occurrences j i 0 j.length 1).isEmpty)) H):=by intro jp s σ H x y v u Q I rx ry h;obtain⟨i,j,rfl,rfl,q⟩:=h;obtain⟨t,rfl⟩:=rx;obtain⟨t',rfl⟩:=ry;exact in_str (a_ I q rfl)
def RI:gM X (compareOp .Is) (λ x y H Q=>y=.bo/\Q (.bl (decide (x=.bo))) H):=by
 intro jp s σ H x y v u Q I rx ry h;obtain⟨rfl,q⟩:=h;cases ry;refine is_none_gen (a_ I q ?_);cases x<;>first
  |(cases rx;rfl)
  |(obtain⟨t,rfl⟩:=rx;rfl)
def Mi:gM X (compareOp .IsNot) (λ x y H Q=>y=.bo/\Q (.bl (!decide (x=.bo))) H):=by
 intro jp s σ H x y v u Q I rx ry h;obtain⟨rfl,q⟩:=h;cases ry;refine isnot_none_gen (a_ I q ?_);cases x<;>first
  |(cases rx;rfl)
  |(obtain⟨t,rfl⟩:=rx;rfl)
def gM.or{f:gV->gV->Sem gV}(h:gM X f r)(h':gM X f r'):gM X f (λ x y H Q=>r x y H Q\/r' x y H Q):=by
 intro jp s σ H x y v u Q I rx ry q;rcases q with q|q
 ·exact h jp s σ H x y v u Q I rx ry q
 ·exact h' jp s σ H x y v u Q I rx ry q
def Md(ho:gM X (compareOp op) r)(ha:PE X a ta)(hb:PE X b tb)(hm:behindInMarks op b=false):PE X (.Compare a [op] [b] pos) (U3 r ta tb):=by intro jp s σ H Q I h;exact wpAny_Compare1 (T3 ha hb I h λ v u s2 x y H2 I2 rx ry q=>ho jp s2 σ H2 x y v u Q I2 rx ry q) hm
def U1(t:TE):TT:=λ σ H Q=>t σ H λ x H'=>∃k,x=.bl k/\Q k H'
def LU(ho:gM X (compareOp op) r)(ha:PE X a ta)(hb:PE X b tb)(hm:behindInMarks op b=false):PT X (.Compare a [op] [b] pos) (U1 (U3 r ta tb)):=by
 intro jp s σ H Q I h;refine wpAny_isTrue_Compare1 (cZ (ha jp s σ H _ I h) λ v s1 ⟨x,H1,I1,r1,q1⟩=>cZ (hb jp s1 σ H1 _ I1 q1) λ u s2 ⟨y,H2,I2,r2,q2⟩=>
  cZ (ho jp s2 σ H2 x y v u _ I2 r1 r2 q2) λ c s3 ⟨z,H3,I3,r3,k,e,q3⟩=>?_) hm
 subst e;cases r3;exact w9 ⟨H3,I3,q3⟩
def ng:(sizeLine:Nat)<2^63:=by rw[G8];decide
def zP:gM X (binaryOp .Add) (λ x y H Q=>∃i j,x=.str i/\y=.str j/\i.length+j.length<=sizeLine/\Q (.str (i++j)) H):=by intro jp s σ H x y v u Q I rx ry h;obtain⟨i,j,rfl,rfl,hz,q⟩:=h;obtain⟨t,rfl⟩:=rx;obtain⟨t',rfl⟩:=ry;exact add_str (λ t' tk=>⟨.str (i++j),H,I.tok _,⟨_,rfl⟩,q⟩) hz
def vals1{x:V}(r:ut [x] us):∃u,us=[u]/\sK x u:=by
 cases r with
 |cons r1 r2=>cases r2;exact⟨_,rfl,r1⟩
def vals2{x y:V}(r:ut [x,y] us):∃u w',us=[u,w']/\sK x u/\sK y w':=by
 cases r with
 |cons r1 r2=>
  cases r2 with
  |cons r3 r4=>cases r4;exact⟨_,_,rfl,r1,r3⟩
def ER(hc:X.calm=true):dr X (.builtin "max") (λ xs H Q=>∃i j,xs=[.int i,.int j]/\Q (.int (if j > i then j else i)) H):=by
 intro jp s σ H xs us Q I r h;obtain⟨i,j,rfl,q⟩:=h;obtain⟨u,w',rfl,⟨t,rfl⟩,⟨t',rfl⟩⟩:=vals2 r;refine max_two_ints (I.ok.hd hc) λ h' tk k=>⟨_,H,I.kept k,?_,q⟩;by_cases hj:j > i
 ·rw[K1 hj,K1 hj];exact⟨_,rfl⟩
 ·rw[K3 hj,K3 hj];exact⟨_,rfl⟩
def EN(hc:X.calm=true):dr X (.builtin "min") (λ xs H Q=>∃i j,xs=[.int i,.int j]/\Q (.int (if j<i then j else i)) H):=by
 intro jp s σ H xs us Q I r h;obtain⟨i,j,rfl,q⟩:=h;obtain⟨u,w',rfl,⟨t,rfl⟩,⟨t',rfl⟩⟩:=vals2 r;refine min_two_ints (I.ok.hd hc) λ h' tk k=>⟨_,H,I.kept k,?_,q⟩;by_cases hj:j<i
 ·rw[K1 hj,K1 hj];exact⟨_,rfl⟩
 ·rw[K3 hj,K3 hj];exact⟨_,rfl⟩
def ET:dr X (.type "int") (λ xs H Q=>(∃i,xs=[.int i]/\Q (.int i) H)\/∃k,xs=[.bl k]/\Q (.int (if k then 1 else 0)) H):=by
 intro jp s σ H xs us Q I r h;rcases h with⟨i,rfl,q⟩|⟨k,rfl,q⟩
 ·obtain⟨u,rfl,t,rfl⟩:=vals1 r;exact call_int_int ⟨.int i,H,I,⟨_,rfl⟩,q⟩
 ·obtain⟨u,rfl,r1⟩:=vals1 r;cases r1;exact call_int_bool ⟨.int (if k then 1 else 0),H,I.tok _,⟨_,rfl⟩,q⟩
end
def nH.some_of{o:Option gV}(r:nH (some v) o):∃u,o=some u/\sK v u:=by
 cases o with
 |none=>exact(show False from r).elim
 |some u=>exact⟨u,rfl,r⟩
structure cw(k:Nat)(A:Around):Prop where
 hd:A.handled=none
 dp:A.depth+2*k+5<recursionLimit
 un:A.units+16*k+200<cLine
def cw.mono(r:cw k A)(h:j<=k):cw j A:=⟨r.hd,by have:=r.dp;lia,by have:=r.un;lia⟩
def cw.deeper(r:cw (k+1) A)(env:Env):cw k (A.deeper env):=
 ⟨r.hd,by have:=r.dp;show A.depth+1+2*k+5 < _;lia,by have:=r.un;show A.units+3+16*k+200 < _;lia⟩
def cw.in1(r:cw (k+1) A):cw k A.in1:=
 ⟨r.hd,by have:=r.dp;show A.depth+2*k+5 < _;lia,by have:=r.un;show A.units+1+16*k+200 < _;lia⟩
def cw.depth(r:cw k A):A.depth<recursionLimit:=by have:=r.dp;lia
def cw.units(r:cw k A):A.units+64<cLine:=by have:=r.un;lia
def Ql:TA:=λ _ H Q=>Q [] H
def FP(ta:TE)(tr:TA):TA:=λ σ H Q=>ta σ H λ x H1=>tr σ H1 λ xs H2=>Q (x::xs) H2
section
variable {X:Cx}{te:TE}{t:TA}
def kH:PA X [] Ql:=λ _ _ _ _ H Q I h=>Calls.spliced_nil ⟨[],H,I,.nil,h⟩
def ig(ha:PE X e te)(hr:PA X es t)(hs:oq X e es:=by rfl):PA X (e::es) (FP te t):=by intro pos jp s σ H Q I h;rw[hs];show wpAny _ _ (spliced ((false,eval e X.env)::backTo pos (starEach es X.env))) _ _ s;refine Calls.spliced_cons (cZ (ha jp s σ H _ I h) λ u s1 ⟨x,H1,I1,r1,q1⟩=>?_);exact cZ (hr pos jp s1 σ H1 _ I1 q1) λ us s2 ⟨xs,H2,I2,r2,q2⟩=>⟨x::xs,H2,I2,.cons r1 r2,q2⟩
def Y0(t:TA):TE:=λ σ H Q=>t σ H λ xs H1=>xs.length<=sizeLine/\∀p,H1 p=none->Q (.ref p) (u8 H1 p (.tup xs))
def Y4(t:TA):TE:=λ σ H Q=>t σ H λ xs H1=>xs.length<=sizeLine/\∀p,H1 p=none->Q (.ref p) (u8 H1 p (.lst xs))
def Rn(h:PA X es t):PE X (.Tuple es x1 pos) (Y0 t):=by intro jp s σ H Q I hq;refine wpAny_Tuple_spliced (cZ (h pos jp s σ H _ I hq) λ us s1 ⟨xs,H1,I1,r,z,q⟩=>⟨by rw[<- r.length];exact z,?_⟩);have hf:H1 s1.heap.objs.size=none:=I1.bu.fresh (G7 _);refine⟨.ref s1.heap.objs.size,u8 H1 s1.heap.objs.size (.tup xs),I1.laid (t':=s1.toks) (λ b u e=>j5 _ e) (G7 _) ?_,rfl,q _ hf⟩;exact⟨z,us,r,⟨_,n6 _ rfl,rfl,_,rfl⟩⟩
def Rr(h:PA X es t):PE X (.List es pos) (Y4 t):=by intro jp s σ H Q I hq;refine wpAny_List_spliced (cZ (h pos jp s σ H _ I hq) λ us s1 ⟨xs,H1,I1,r,z,q⟩=>⟨by rw[<- r.length];exact z,?_⟩);have hf:H1 s1.heap.objs.size=none:=I1.bu.fresh (G7 _);refine⟨.ref s1.heap.objs.size,u8 H1 s1.heap.objs.size (.lst xs),I1.laid (t':=s1.toks) (λ b u e=>j5 _ e) (G7 _) ?_,rfl,q _ hf⟩;exact⟨z,us,0,r,n6 _ rfl⟩
end
abbrev Sp:=List V->Hp->VK->XK->Prop
abbrev JW:=List Env->Hp->am->XK->gV->am->Prop
structure lx(P:Program)(w:World)(K:K6)(mg:Str->Option gV)(base:Heap)(A:Around)(outer:List Env)(s:am)(H:Hp):Prop where
 frames:A.frames=some outer
 mod:Mod K mg base
 bs:∀b o,base.get? b=some o->s.heap.get? b=some o/\H b=none
 CW:base.objs.size<=s.heap.objs.size
 jX:s.heap.FunFrames base outer
 Ki:∀b∈vO outer,H b=none
 bu:iO P w H s.heap
 bare:AllBare s.gens
def CE(outer:List Env)(P:Program)(w:World)(H:Hp)(s:am)(Q:VK)(u:gV)(s':am):Prop:=
 ∃v H',s'.os=s.os/\AllBare s'.gens/\Un (vO outer) [] H H' s.heap s'.heap/\iO P w H' s'.heap/\sK v u/\Q v H'
def CR(CX:JW)(outer:List Env)(P:Program)(w:World)(H:Hp)(s:am)(Q:VK)(E:XK)(r:Result)(s':am):Prop:=
 match r with
 | .ok (.ret u)=>CE outer P w H s Q u s'
 | .ok _=>False
 | .error e=>CX outer H s E e s'
structure bB(P:Program)(w:World)(K:K6)(mg:Str->Option gV)(base:Heap)(CX:JW)(k:Nat)(f:ap)(fd:FuncData)(ps:List Str)(sp:Sp):Prop where
 len:∀vs H Q E,sp vs H Q E->vs.length=ps.length
 run:∀(A:Around)(outer:List Env)(s:am)(H:Hp)(args:Args)(us:List gV)(vs:List V)(Q:VK)(E:XK),cw k A->lx P w K mg base A outer s H->BindsTo s fd args (ps.zip us)->ut vs us->sp vs H Q E->
  codeAny (model P w) A (.call (.ref f) args) (CR CX outer P w H s Q E) s
def lx.in1(e:lx P w K mg base A outer s H):lx P w K mg base A.in1 outer s H:=⟨e.frames,e.mod,e.bs,e.CW,e.jX,e.Ki,e.bu,e.bare⟩
section
variable {X:Cx}{σ:St}{H:Hp}{s':am}
def sn.NV(I:sn X jp σ H s):lx X.prog X.w X.K X.mg X.base X.A X.stack s H:=
 ⟨I.ok.frames,I.ok.mod,I.bs,E6 I.ok.CW I.sz,I.stack,I.tQ,I.bu,I.bare⟩
def sn.after{Q:VK}(I:sn X jp σ H s)(h:CE X.stack X.prog X.w H s Q u s'):EP X jp σ Q u s':=by obtain⟨v,H',os,bare,un,bu,r,q⟩:=h;obtain⟨hh,g,d,t,DV⟩:=s';obtain rfl:DV=s.os:=os;exact⟨v,H',I.call (h':=hh) (g':=g) (d':=d) (t':=t) (ch:=[]) un bu bare (λ b z=>be z (by simp)),r,q⟩
end
def Oz(sp:Sp)(vP:List V)(E:XK)(t:TA):TE:=λ σ H Q=>t σ H λ vs H1=>sp (vs++vP) H1 Q E
def Binds(K:K6)(fd:FuncData)(ps:List Str)(ds:List gV):Prop:=
 ∀(s:am)(us:List gV),K.In s.heap->(us++ds).length=ps.length->BindsTo s fd ⟨us,[]⟩ (ps.zip (us++ds))
def Binds.all(h:∀us:List gV,us.length=ps.length->bindArgs fd ⟨us,[]⟩=pure (ps.zip us)):Binds K fd ps []:=λ s us _ hl=>by rw[A5]at hl ⊢;exact .of_eq (h us hl)
def Passes(CX:JW)(X:Cx)(E:XK):Prop:=∀(jp:List (ap×Obj))(σ:St)(H:Hp)(s:am)(e:gV)(s':am),sn X jp σ H s->CX X.stack H s E e s'->X.xe e s'
section
variable {X:Cx}{CX:JW}{C:ap}{sp:Sp}{vP:List V}{ds:List gV}{E:XK}{m:Str}{p:Pos}{o:Expr}{ta:TE}{t:TA}
def Qw{σ:St}{Q:VK}{vs:List V}(F:bB X.prog X.w X.K X.mg X.base CX k f fd ps sp)(hr:cw k X.A)(hb:Binds X.K fd ps ds)(hd:ut vP ds)(hx:Passes CX X E)(I:sn X jp σ H s)(r:ut vs us)(h:sp (vs++vP) H Q E):wpAny (model X.prog X.w) X.A (call (.ref f) us) (EP X jp σ Q) X.xe s:=by
 have r2:ut (vs++vP) (us++ds):=r.append hd;have hl:(us++ds).length=ps.length:=by rw[<- r2.length];exact F.len _ _ _ _ h
 refine wpAny_call (G3 (F.run X.A X.stack s H ⟨us,[]⟩ (us++ds) (vs++vP) Q E hr I.NV (hb s us I.Nh hl) r2 h) λ r s' hq=>?_);cases r with
 |error e=>exact hx jp σ H s e s' I hq
 |ok fl=>
  cases fl with
  |ret u=>exact I.after hq
  |next=>exact False.elim hq
  |brk=>exact False.elim hq
  |cont=>exact False.elim hq
def BF(F:bB X.prog X.w X.K X.mg X.base CX k f fd ps sp)(hr:cw k X.A)(hg:Gl X x)(hm:X.mg x=some (.ref f))(hk:PySem.W.keepIn X.K (.ref f)=true)(hb:Binds X.K fd ps ds)(hd:ut vP ds)(hx:Passes CX X E)(ha:PA X (e::es) t)(oC:rj x:=by decide)(he:oq X e es:=by rfl)(gb:vR X pos es:=by rfl):PE X (.Call (.Name x p) (e::es) [] pos) (Oz sp vP E t):=by intro jp s σ H Q I h;refine q9 (uI I hg hm ?_ oC);refine PySem.W.callWith_K (h₀:=X.base) I.ok.mod.Wb hk (cZ (ha pos jp s σ H _ I h) λ us s1 ⟨vs,H1,I1,r,q⟩=>⟨I1.Nh,?_⟩) he gb;exact Qw F hr hb hd hx I1 r q
end
def PK(X:Cx)(V9:List Keyword)(t:TA):Prop:=
 ∀(pos:Pos)(jp:List (ap×Obj))(s:am)(σ:St)(H:Hp)(Q:List V->Hp->Prop),sn X jp σ H s->t σ H Q->wpAny (model X.prog X.w) X.A (evalAll ((backToKw pos (keywordEach V9 X.env)).map (·.2))) (AP X jp σ Q) X.xe s
def Rj:PK X [] Ql:=λ _ _ _ _ H Q I h=>wpAny_evalAll_nil ⟨[],H,I,.nil,h⟩
def L7(ha:PE X e te)(hr:PK X V9 t):PK X (⟨nm,e,ZJ⟩::V9) (FP te t):=by intro pos jp s σ H Q I h;show wpAny _ _ (evalAll ((do let v <- eval e X.env;standAt pos;pure v)::(backToKw pos (keywordEach V9 X.env)).map (·.2))) _ _ s;refine wpAny_evalAll_cons (J1 (cZ (ha jp s σ H _ I h) λ u s1 ⟨x,H1,I1,r1,q1⟩=>J1 (wpAny_standAt (J3 ?_))));exact cZ (hr pos jp s1 σ H1 _ I1 q1) λ us s2 ⟨xs,H2,I2,r2,q2⟩=>⟨x::xs,H2,I2,.cons r1 r2,q2⟩
structure iD(N P:List Str)(sc:Scope):Prop where
 kind:sc.kind=.function
 co:sc.isCoroutine=false
 gen:sc.isGenerator=false
 nd:N.Nodup
 pre:N.take P.length=P
 par:∀x∈P,sc.names.lookup x=some .local\/sc.names.lookup x=some .cell
 R9:∀y∈sc.names,y.2≠.free
def tx:∀{binds:List (Str×gV)} {m:Str->Option gV},(∀v,(x,v)∉binds)->bindL kindOf binds m x=m x
 |[],_,_=>rfl
 |(n,v)::r,m,h=>by
  unfold bindL;rw[tx λ w hw=>h w (k7 _ hw)];split
  ·have:x≠n:=by rintro rfl;exact h v o7
   simp[this]
  ·rfl
def tG:∀{binds:List (Str×gV)} {m:Str->Option gV},(∀v,(x,v)∉binds)->bindC kindOf binds m x=m x
 |[],_,_=>rfl
 |(n,v)::r,m,h=>by
  unfold bindC;rw[tG λ w hw=>h w (k7 _ hw)];split
  ·rfl
  ·have:x≠n:=by rintro rfl;exact h v o7
   simp[this]
def tE:∀{P:List Str} {vs:List gV} {i:Nat} {m:Str->Option gV},P.Nodup->P[i]?=some x->vs[i]?=some v->kindOf x=some .local->
  bindL kindOf (P.zip vs) m x=some v
 |[],_,_,_,_,h,_,_=>by simp at h
 |_::_,[],_,_,_,_,h,_=>by simp at h
 |p::P,w::vs,0,m,nd,h1,h2,hk=>by simp at h1 h2;subst h1;subst h2;show bindL kindOf ((p,w)::P.zip vs) m p=_;unfold bindL;rw[tx λ v hv=>(nodup_cons.mp nd).1 (of_mem_zip hv).1,K1 hk];simp
 |p::P,w::vs,i+1,m,nd,h1,h2,hk=>by show bindL kindOf ((p,w)::P.zip vs) m x=_;unfold bindL;exact tE (i:=i) (nodup_cons.mp nd).2 (by simpa using h1) (by simpa using h2) hk
def tH:∀{P:List Str} {vs:List gV} {i:Nat} {m:Str->Option gV},P.Nodup->P[i]?=some x->vs[i]?=some v->kindOf x≠some .local->
  bindC kindOf (P.zip vs) m x=some v
 |[],_,_,_,_,h,_,_=>by simp at h
 |_::_,[],_,_,_,_,h,_=>by simp at h
 |p::P,w::vs,0,m,nd,h1,h2,hk=>by simp at h1 h2;subst h1;subst h2;show bindC kindOf ((p,w)::P.zip vs) m p=_;unfold bindC;rw[tG λ v hv=>(nodup_cons.mp nd).1 (of_mem_zip hv).1,K3 hk];simp
 |p::P,w::vs,i+1,m,nd,h1,h2,hk=>by show bindC kindOf ((p,w)::P.zip vs) m x=_;unfold bindC;exact tH (i:=i) (nodup_cons.mp nd).2 (by simpa using h1) (by simpa using h2) hk
def start(N:List Str)(vs:List V):St:=vs.map some++List.replicate (N.length-vs.length) none
def rG(CX:JW)(P:Program)(w:World)(K:K6)(mg:Str->Option gV)(base:Heap)(N:List Str)(qual:Str)(scope:Scope)(f:ap)(cd:gV)(A:Around)(outer:List Env)(s:am)(H:Hp)(E:XK):Cx where
 prog:=P
 w:=w
 K:=K
 mg:=mg
 base:=base
 A:=A.deeper (envOfC qual scope s.heap.objs.size f cd)
 N:=N
 s₀:=s
 H₀:=H
 env:=envOfC qual scope s.heap.objs.size f cd
 outer:=outer
 stack:=envOfC qual scope s.heap.objs.size f cd::outer
 ex:=[]
 calm:=true
 fn:=λ _=>true
 pn:=[]
 xe:=λ e s'=>wpAny (model P w) (A.deeper (envOfC qual scope s.heap.objs.size f cd)) (leaving (envOfC qual scope s.heap.objs.size f cd) e) (λ _ Vn=>CX outer H s E e Vn) (λ e' Vn=>CX outer H s E e' Vn) s'
def yt{sc:Scope}(h:sc.names.lookup x=some .cell):∃c,(cellsFrom n sc.names []).lookup x=some c:=by have q:=PySem.W.cellsFrom_some sc.names n [] (.inl h);exact Option.isSome_iff_exists.mp q
def Et{s1:am}{H:Hp}{E:XK}{vs:List V}(S:iD N ps scope)(hd:A.handled=none)(e0:lx P w K mg base A outer s H)(hl:vs.length=ps.length)(r:ut vs us)(x:InCallC s s.heap.objs.size (bindL (envOfC qual scope s.heap.objs.size f cd).kindOf (ps.zip us) λ _=>none) (cellsFrom (s.heap.objs.size+1) scope.names []) (bindC (envOfC qual scope s.heap.objs.size f cd).kindOf (ps.zip us) λ _=>none) s1):sn (rG CX P w K mg base N qual scope f cd A outer s H E) [] (start N vs) H s1:=by
 have gb:ps.length<=N.length:=by have:=J8 List.length S.pre;rw[A1]at this;lia
 obtain⟨h1,tk,rfl,hk⟩:=x.done;have HW:∀b:ap,b∉(rG CX P w K mg base N qual scope f cd A outer s H E).ex:=λ b z=>be (show b∈([]:List ap)from z) (by simp);refine⟨⟨e0.mod,S.kind,rfl,rfl,G7 _,λ y z c h1 h2=>?_,λ y hy=>?_,λ y c _ h=>?_,λ _=>hd,Around.frames_deeper e0.frames,.inr ⟨rfl,rfl⟩,λ b z=>be z (HW b),e0.bs,e0.CW,λ b _ _=>HW b,λ b z=>be z (HW b),e0.jX,e0.Ki⟩,
  rfl,e0.bare,Un.kept hk,⟨_,x.toInCall.ns,λ i y v h1 h2 h3=>?_⟩,λ y c h=>⟨_,x.cell y c h⟩,e0.bu.fresh (G7 _),λ y c h=>?_,λ p hp=>be (show p∈([]:List (ap×Obj))from hp) (by simp),e0.bu.kept hk,?_⟩
 ·exact name_of_addr x.apart (m8 h1) (m8 h2)
 ·have hy:scope.names.lookup y=some .cell\/scope.names.lookup y=some .free:=hy;rcases hy with hy|hy
  ·exact yt hy
  ·exact be rfl (S.R9 _ (m8 hy))
 ·exact G5 (x.above y c (m8 h))
 ·have hi:i<vs.length:=by
   unfold start at h2;by_cases hi:i<vs.length
   ·exact hi
   ·rw[b9 (by simpa using hi)]at h2;rw[i6]at h2;split at h2<;>cases h2
  have ha:vs[i]?=some v:=by
   unfold start at h2;rw[c4 (by simpa using hi),u6]at h2;cases e:vs[i]? with
   |none=>rw[e]at h2;cases h2
   |some a=>rw[e]at h2;cases h2;rfl
  obtain⟨u,hu,rv⟩:=r.get ha;have hp:ps[i]?=some y:=by rw[<- S.pre,getElem?_take_of_lt ()];exact h1
  have ndP:ps.Nodup:=by rw[<- S.pre];exact S.nd.sublist (take_sublist _ _)
  refine⟨u,rv,?_⟩;rcases S.par y (k8 hp)with k|k
  ·exact .inl ⟨k,tE ndP hp hu k⟩
  ·obtain⟨c,e⟩:=yt (n:=s.heap.objs.size+1) k;refine .inr ⟨.inl k,c,e,?_⟩;have q:=x.cell y c e;rw[tH ndP hp hu (by show scope.names.lookup y≠_;rw[k];decide)]at q;exact q
 ·exact e0.bu.fresh (G5 (x.above y c (m8 h)))
 ·unfold start;show _=N.length;rw[p4,B3,k4];lia
def Po{K:K6}{mg:Str->Option gV}{base:Heap}{k:Nat}{f:ap}{name qual:Str}{params:Arguments}{body:List Stmt}{scope:Scope}{dV kV doc pm dj ct oc:gV}{an od:Option ap}{zN:Array (Option gV)}{N ps:List Str}{sp:Sp}(lk:K.lookup f=some ⟨oc,od,.func (PySem.W.fnOf name qual params body scope dV kV doc pm an dj ct),zN⟩)(sW:PySem.W.codeIn K dj qual=true)(S:iD N ps scope)(len:∀vs H Q E,sp vs H Q E->vs.length=ps.length) (eQ:∀(A:Around)(outer:List Env)(s:am)(H:Hp)(vs:List V)(Q:VK)(E:XK),cw k (A.deeper (envOfC qual scope s.heap.objs.size f dj))->sp vs H Q E->
   ∃t,yJ (rG CX P w K mg base N qual scope f dj A outer s H E) body t/\t {nx:=λ _ H'=>Q .bo H',rt:=Q} (start N vs) H):
  bB P w K mg base CX (k+1) f (PySem.W.fnOf name qual params body scope dV kV doc pm an dj ct) ps sp:=by
 refine⟨len,λ A outer s H args us vs Q E hr e0 hb r Ck=>?_⟩;have hl:=len _ _ _ _ Ck;have KX:K.In s.heap:=e0.mod.Wb.keeps λ b o e=>(e0.bs b o e).1;have lim:s.heap.NoLimit:=e0.mod.nolimit.keeps λ b o e=>(e0.bs b o e).1;have Jb:∀y∈ps.zip us,scope.names.lookup y.1=some .local\/(scope.names.lookup y.1=some .cell/\((cellsFrom (s.heap.objs.size+1) scope.names []).lookup y.1).isSome=true):=λ⟨n,v⟩ hy=>by
  rcases S.par n (of_mem_zip hy).1 with q|q
  ·exact .inl q
  ·exact .inr ⟨q,PySem.W.cellsFrom_some _ _ _ (.inl q)⟩
 refine codeAny_call_function hr.depth (KX _ _ lk) rfl S.co S.gen rfl (PySem.W.codeRec_of KX sW) (hb _ _ _ _ ?_);refine wpAny_newFunctionEnv_cells S.kind Jb λ env he s1 x=>?_;subst he;refine⟨lim.keeps x.toInCall.keep,codeAny_func ?_⟩;obtain⟨t,ht,hq⟩:=eQ A outer s H vs Q E (hr.deeper _) Ck;have I:sn (rG CX P w K mg base N qual scope f dj A outer s H E) [] (start N vs) H s1:=Et S hr.hd e0 hl r x;refine J6 (ht [] s1 (start N vs) H _ I hq) (λ fl s' hs=>?_) λ e s' hs=>hs;have fin:∀{σ':St} {H':Hp} {v:V} {u:gV},sn (rG CX P w K mg base N qual scope f dj A outer s H E) [] σ' H' s'->sK v u->Q v H'->CE outer P w H s Q u s':=
  λ{σ' H' v u} J rv q=>⟨v,H',J.os,J.bare,J.base,J.bu,rv,q⟩
 cases fl with
 |ret u=>obtain⟨v,σ',H',J,rv,q⟩:=hs;exact fin J rv q
 |next=>obtain⟨σ',H',J,q⟩:=hs;exact fin (v:=V.bo) (u:=Value.none) J rfl q
 |brk=>obtain⟨_,_,_,q⟩:=hs;exact False.elim q
 |cont=>obtain⟨_,_,_,q⟩:=hs;exact False.elim q
section
variable {X:Cx}{p:Pos}{t:TA}{id:String}{r:List V->Hp->VK->Prop}
def XY(r:List V->Hp->VK->Prop)(t:TA):TE:=λ σ H Q=>t σ H λ vs H1=>r vs H1 Q
def wM(hc:dr X (.builtin id) r)(hg:Gl X x)(hm:X.mg x=none)(hv:bootBuiltins x=some (.builtin id))(ha:PA X (e::es) t)(hn:x≠"__name__":=by decide)(oC:rj x:=by decide)(he:oq X e es:=by rfl)(gb:vR X pos es:=by rfl):PE X (.Call (.Name x p) (e::es) [] pos) (XY r t):=by intro jp s σ H Q I h;refine q9 (jf I hg hm hv ?_ hn oC);exact PyProof.Rows.callWith_builtin1 (cZ (ha pos jp s σ H _ I h) λ us s1 ⟨vs,H1,I1,r1,q1⟩=>hc jp s1 σ H1 vs us Q I1 r1 q1) he gb
def jH(hc:dr X (.type T) r)(hg:Gl X x)(hm:X.mg x=none)(hv:bootBuiltins x=some (.type T))(ha:PA X (e::es) t)(hn:x≠"__name__":=by decide)(oC:rj x:=by decide)(he:oq X e es:=by rfl)(gb:vR X pos es:=by rfl):PE X (.Call (.Name x p) (e::es) [] pos) (XY r t):=by intro jp s σ H Q I h;refine q9 (jf I hg hm hv ?_ hn oC);exact b7 (cZ (ha pos jp s σ H _ I h) λ us s1 ⟨vs,H1,I1,r1,q1⟩=>hc jp s1 σ H1 vs us Q I1 r1 q1) he gb
end
end L2
variable {X:L2.Cx}{H H1 H':L2.Hp}{xs ys:List L2.V}{σ:L2.St}{kvs:List (List L2.Key×L2.V)}{v:L2.V}{sp:L2.Sp}{t:L2.TA}
namespace HT
open PyProof.Rows
def lexLt:List Int->List Int->Bool
 |[],[]=>false
 |[],_::_=>true
 |_::_,[]=>false
 |x::xs,y::ys=>if x=y then lexLt xs ys else decide (x<y)
def dA(x y:Int)(xs ys:List Int):lexLt (x::xs) (y::ys)=if x=y then lexLt xs ys else decide (x<y):=rfl
def eM:lexLt [] []=false:=rfl
def dO(y:Int)(ys:List Int):lexLt [] (y::ys)=true:=rfl
def dP(x:Int)(xs:List Int):lexLt (x::xs) []=false:=rfl
def Jr(A:Around)(s:am)(a:Int)(t:Tok)(c:Int)(u:Tok):∃e,SeqAt.EqAt A s (.int a t) (.int c u) e/\(e=true↔a=c):=
 ⟨(a==c),SeqAt.EqAt.int_int a t c u,by simp⟩
def qd(A:Around)(s:am)(a:Int)(t:Tok)(c:Int)(u:Tok)(prog:Program)(w:World)(E:gV->am->Prop)(Q:gV->am->Prop)(h:Q (.bool (decide (a<c))) s):wpAny (model prog w) A (richCompare .Lt (.int a t) (.int c u)) Q E s:=
 (PyProof.Rows.lt_int h:wpAny (model prog w) A (compareOp .Lt (.int a t) (.int c u)) Q E s)
section
open PySem.SeqAt
open PySem.AutoSeq1 (wpAny_loadPart')
open PySem.MeetsSeq PySem.MeetsSeq2 PySem.MeetsSeq3
def rp(l b:ap)(pc gJ:Array gV)(n n2:Nat)(dd UB:Option ap)(sl tU:Array (Option gV))(ns ms:List Int)(hi:IntsAre pc.toList ns)(hj:IntsAre gJ.toList ms):Meets (Builtin.«tuple.__lt__» ⟨[.ref l,.ref b],[]⟩)
   (λ _ R s=>s.heap.get? l=some {cls:=.type "tuple",dict:=dd,data:=.seq pc n,slots:=sl}/\s.heap.get? b=some {cls:=.type "tuple",dict:=UB,data:=.seq gJ n2,slots:=tU}/\
    R (.ok (.ret (.bool (lexLt ns ms)))) s):=
 .of_wp λ prog w A R s h=>by
  obtain⟨hp,g,d,tk,os⟩:=s;obtain⟨hl,hb,h⟩:=h;have f2:=AutoSeq1.sub_tuple_tuple;have z1:pc.size=ns.length:=by rw[<- hi.length];simp
  have z2:gJ.size=ms.length:=by rw[<- hj.length];simp
  wp_walk using A8 hl,A8 hb,wpAny_forIn_list _ (λ rest b s'=>b.1=none/\s'=⟨hp,g,d,tk,os⟩/\∃(vs ws:List gV)(iG Ul:List Int),rest=vs.zip ws/\
   IntsAre vs iG/\IntsAre ws Ul/\iG.length+gJ.size=Ul.length+pc.size/\R (.ok (.ret (.bool (lexLt iG Ul)))) ⟨hp,g,d,tk,os⟩) _
  case turn=>
   rintro⟨y,x⟩ rest b s' ⟨Pg,rfl,vs,ws,iG,Ul,hz,Z2,Ye,hlen,hR⟩;cases Z2 with
   |nil=>rw[zip_nil_left]at hz;cases hz
   |cons a t Z1=>
    cases Ye with
    |nil=>rw[zip_nil_right]at hz;cases hz
    |cons c u ZX=>
     rw[zip_cons_cons]at hz;injection hz with hyx Wq
     injection hyx with hy hx
     subst hy hx;rw[dA]at hR;simp only[y6]at hlen;obtain⟨e,he,WM⟩:=Jr A.in1 ⟨hp,g,d,tk,os⟩ a t c u;refine J1 (he prog w _ _ ?_);cases e with
     |true=>
      rw[K1 (WM.mp rfl)]at hR
      wp_walk
      exact⟨rfl,rfl,_,_,_,_,Wq,Z1,ZX,(),hR⟩
     |false=>
      rw[K3 (λ q=>be (WM.mpr q) o8)]at hR;have hri:=qd A.in1 ⟨hp,g,d,tk,os⟩ a t c u prog w
      wp_walk using hri
      exact⟨_,rfl,by simpa using hR⟩
  case fin=>
   rintro⟨b1,b2⟩ s' ⟨Pg,rfl,vs,ws,iG,Ul,hz,Z2,Ye,hlen,hR⟩;simp only at Pg;subst Pg;have hv:lexLt iG Ul=decide (pc.size<gJ.size):=by
    cases Z2 with
    |nil=>
     cases Ye with
     |nil=>simp only[length_nil]at hlen;rw[eM];exact(A7 ()).symm
     |cons c u hw=>simp only[length_nil,y6]at hlen;rw[dO];exact(B8 ()).symm
    |cons a t hv=>
     cases Ye with
     |nil=>simp only[length_nil,y6]at hlen;rw[dP];exact(A7 ()).symm
     |cons c u hw=>rw[zip_cons_cons]at hz;cases hz
   rw[hv]at hR
   wp_walk
   exact⟨_,rfl,by simpa[Builtin.Tuple.tupleCompareSizes]using hR⟩
  case h=>
   exact⟨rfl,rfl,pc.toList,gJ.toList,ns,ms,rfl,hi,hj,(),h⟩
end
def zX{l b:ap}{gJ:Array gV}{ms:List Int}(hl:IsTup s.heap l pc)(hb:IsTup s.heap b gJ)(hi:IntsAre pc.toList ns)(hj:IntsAre gJ.toList ms)(hu:A.units<cLine)(h:Q (.bool (lexLt ns ms)) s):wpAny (model prog w) A (compareOp .Lt (.ref l) (.ref b)) Q E s:=by
 obtain⟨⟨cls,dd,data,sl⟩,ho,hc,n,hd⟩:=id hl;obtain⟨⟨abn,UB,data2,tU⟩,Ta,WZ,n2,hd2⟩:=id hb;simp only at hc hd WZ hd2;subst hc hd WZ hd2;exact richCompare_meets_room (op:=.Lt) ⟨_,ho,rfl⟩ ⟨_,Ta,rfl⟩ PySem.F.slot_tuple_lt PySem.F.entry_tuple_lt (PySem.F.args_tuple_lt_2 _ _) (rp l b pc gJ n n2 dd UB sl tU ns ms hi hj)
  ⟨ho,Ta,show Value.bool (lexLt ns ms)≠Value.notImplemented/\Q (.bool (lexLt ns ms)) s from⟨(λ x=>nomatch x),h⟩⟩ hu
def Oc{t b:ap}(ht:IsTup s.heap t vs.toArray)(hb:IsTup s.heap b ws.toArray)(hv:vs≠[])(h1:ws=[]->Q (.ref t) s)(h2:ws≠[]->Q (.ref s.heap.objs.size) {s with heap:=s.heap.push {cls:=.type "tuple",data:=.seq (vs++ws).toArray}})(hsz:vs.length+ws.length<=sizeLine):wpAny (model prog w) A (binaryOp .Add (.ref t) (.ref b)) Q E s:=by
 obtain⟨⟨cls,dd,data,sl⟩,ho,hc,n,hd⟩:=id ht;obtain⟨⟨abn,UB,data2,tU⟩,Ta,WZ,n2,hd2⟩:=id hb;simp only at hc hd WZ hd2;subst hc hd WZ hd2;have e:vs.toArray++ws.toArray=(vs++ws).toArray:=by simp
 by_cases hw:ws=[]
 ·exact concat_meets ⟨_,ho,rfl⟩ ⟨_,Ta,rfl⟩ noFill_tuple_add seq_tuple_add PySem.F.slot_tuple_add PySem.F.entry_tuple_add (PySem.F.args_tuple_add_2 _ _)
   (tuple_addW1 t b vs.toArray ws.toArray n n2 dd UB sl tU (by simpa using hv) (by simp[hw])) ⟨ho,Ta,h1 hw⟩
 ·refine concat_meets ⟨_,ho,rfl⟩ ⟨_,Ta,rfl⟩ noFill_tuple_add seq_tuple_add PySem.F.slot_tuple_add PySem.F.entry_tuple_add (PySem.F.args_tuple_add_2 _ _)
   (tuple_addW2 t b vs.toArray ws.toArray n n2 dd UB sl tU (by simpa using hv) (by simpa using hw) (by rw[x6,x6];exact hsz)) ⟨ho,Ta,?_⟩
  rw[e];exact h2 hw
def cx(n d:Nat):Option Int->Nat
 |none=>d
 |some v=>if v<0 then(v+(n:Int)).toNat else min v.toNat n
def zw(n d:Nat)(hd:d<=n)(o:Option Int):cx n d o<=n:=by
 cases o with
 |none=>exact hd
 |some v=>
  show(if v<0 then(v+(n:Int)).toNat else min v.toNat n)<=n;by_cases hv:v<0
  ·rw[K1 hv];lia
  ·rw[K3 hv];exact Nat.min_le_right _ _
def CT(v:Int)(n d:Nat):(if v<0 then max (v+(n:Int)) 0 else min v (n:Int))=((cx n d (some v):Nat):Int):=by
 show(if v<0 then max (v+(n:Int)) 0 else min v (n:Int))=(((if v<0 then(v+(n:Int)).toNat else min v.toNat n):Nat):Int);by_cases hv:v<0
 ·simp only[K1 hv];lia
 ·simp only[K3 hv];lia
def AJ(lo hi:Option Int)(n:Nat):Builtin.Slice.sliceAdjust lo hi 1 (n:Int)=(((cx n 0 lo:Nat):Int),((cx n n hi:Nat):Int)):=by
 have h1:¬((1:Int)<0):=()
 unfold Builtin.Slice.sliceAdjust;simp only[h1,J7];refine Prod.ext ?_ ?_
 ·cases lo with
  |none=>rfl
  |some v=>exact CT v n 0
 ·cases hi with
  |none=>rfl
  |some v=>exact CT v n n
def zJ(i j:Nat):Builtin.Slice.slicePlaces (i:Int) (j:Int) 1=j-i:=by
 unfold Builtin.Slice.slicePlaces;have h1:(1:Int) > 0:=()
 simp only[h1,K0,Int.ediv_one];split<;>lia
def pX{v:gV}{o:Option Int}{Q:Option Int->am->Prop}(p:IsPart v o)(h:Q o s):wpAny (model prog w) A (Builtin.Slice.slicePartIndex v) Q E s:=by
 cases p with
 |none=>exact slicePart_none h
 |int i t=>exact slicePart_int h
def gR{lo hi:Option Int}{Q:Int×Int×Nat->am->Prop}(hs:s.heap.IsSliceOf sl vl vu .none)(pl:IsPart vl lo)(pu:IsPart vu hi)(h:Q (((cx n 0 lo:Nat):Int),1,cx n n hi-cx n 0 lo) s):wpAny (model prog w) A (Builtin.Slice.sliceApplied (.ref sl) (pure (n:Int))) Q E s:=by obtain⟨os,Ex,Cn,Jd⟩:=id hs;unfold Builtin.Slice.sliceApplied Builtin.Slice.sliceFields;refine J1 (J1 (H9 Ex Jd (x:=vl) rfl (J1 (H9 Ex Jd (x:=vu) rfl (J1 (H9 Ex Jd (x:=.none) rfl (J3 ?_)))))));refine J1 (slicePart_none ?_);show wpAny _ _ (if((1:Int)==0)=true then _ else _) _ _ s;rw[K3 (by decide)];refine J1 (pX pl (J1 (pX pu (J1 (J3 ?_)))));show wpAny _ _ (match Builtin.Slice.sliceAdjust lo hi 1 (n:Int)with|(lo,hi)=>pure (lo,(1:Int),Builtin.Slice.slicePlaces lo hi 1)) _ _ s;rw[AJ lo hi n];show wpAny _ _ (pure (((cx n 0 lo:Nat):Int),(1:Int),Builtin.Slice.slicePlaces ((cx n 0 lo:Nat):Int) ((cx n n hi:Nat):Int) 1)) _ _ s;rw[zJ];exact J3 h
def Hn(xs:Array gV)(i k:Nat):((List.range k).filterMap λ(m:Nat)=>xs[((i:Int)+(m:Int)*1).toNat]?).toArray=((xs.toList.drop i).take k).toArray:=by
 have e:(λ(m:Nat)=>xs[((i:Int)+(m:Int)*1).toNat]?)=λ m=>xs[i+m]?:=by
  funext m;have:((i:Int)+(m:Int)*1).toNat=i+m:=()
  rw[this]
 rw[e];have:=pick_run xs i k;rw[filterMap_map]at this;have e2:((λ x=>xs[x]?)∘λ x=>i+x)=λ m=>xs[i+m]?:=rfl;rw[e2]at this;rw[this]
def mn{t:ap}{vl vu:gV}{lo hi:Option Int}(ht:IsTup s.heap t pc)(hs:s.heap.IsSliceOf sl vl vu .none)(pl:IsPart vl lo)(pu:IsPart vu hi)(hw:¬(cx pc.size 0 lo=0/\cx pc.size pc.size hi=pc.size))(h:Q (.ref s.heap.objs.size) {s with heap:=s.heap.push {cls:=.type "tuple",data:=.seq ((pc.toList.drop (cx pc.size 0 lo)).take (cx pc.size pc.size hi-cx pc.size 0 lo)).toArray}})(hsz:pc.size<=sizeLine):wpAny (model prog w) A (getItem (.ref t) (.ref sl)) Q E s:=by
 have Cj:sizeOk (.seq ((pc.toList.drop (cx pc.size 0 lo)).take (cx pc.size pc.size hi-cx pc.size 0 lo)).toArray):=by show((pc.toList.drop (cx pc.size 0 lo)).take (cx pc.size pc.size hi-cx pc.size 0 lo)).toArray.size<=sizeLine;rw[x6,A1,length_drop,n5];lia
 have hj:cx pc.size pc.size hi<=pc.size:=zw _ _ (G7 _) hi;obtain⟨os,Ex,Cn,Jd⟩:=id hs;have hTs:s.TypeIs (.ref sl) "slice":=⟨os,Ex,Cn⟩;unfold getItem
 try with_reducible refine C4 ?_
 first|refine J1 (J3 ?_)|skip
 refine J1 (wpAny_sequenceKey ht.typeIs (by decide) ?_);refine J1 (i7 (name:=cS "__getitem__") ht.typeIs a0
  (y9 a0 ht.typeIs entry_tuple_getitem ?_ (args_tuple_getitem _ _)))
 show wpAny _ _ (Builtin.Tuple.tupleItemsOf (.ref t)>>=_) _ _ s;refine J1 (tupleItemsOf_ ht ?_);refine J1 (wpAny_typeOf hTs ?_);rw[K1 (by decide)];refine J1 (gR hs pl pu ?_);have Yi:¬((((cx pc.size 0 lo:Nat):Int)==0&&(1:Int)==1&&(cx pc.size pc.size hi-cx pc.size 0 lo)==pc.size)=true):=by intro q;rw[A0,A0]at q;have q1:((cx pc.size 0 lo:Nat):Int)=0:=eq_of_beq q.1.1;have q2:cx pc.size pc.size hi-cx pc.size 0 lo=pc.size:=eq_of_beq q.2;exact hw ⟨(),()⟩
 show wpAny _ _ (if(((cx pc.size 0 lo:Nat):Int)==0&&(1:Int)==1&&(cx pc.size pc.size hi-cx pc.size 0 lo)==pc.size)=true then _ else _) _ _ s;rw[K3 Yi,Hn]
 first
  |exact J1 (m:=Builtin.Tuple.tupleExact _) (w5 (J3 ⟨_,rfl,J3 h⟩) Cj)
  |exact J1 (m:=Builtin.Tuple.tupleExact _) (w5 (J1 (J3 (J3 ⟨_,rfl,J3 h⟩))) Cj)
  |exact J1 (J1 (m:=Builtin.Tuple.tupleExact _) (w5 (J3 (J3 ⟨_,rfl,J3 h⟩)) Cj))
  |exact J1 (J1 (m:=Builtin.Tuple.tupleExact _) (w5 (J3 ⟨_,rfl,J3 h⟩) Cj))
end HT
namespace L2
open PySem.Spec PyProof.Rows
abbrev TO:=St->Hp->(Option Int->Hp->Prop)->Prop
def PO(X:Cx)(e:Option Expr)(t:TO):Prop:=
 ∀(jp:List (ap×Obj))(s:am)(σ:St)(H:Hp)(Q:Option Int->Hp->Prop),sn X jp σ H s->t σ H Q->
  wpAny (model X.prog X.w) X.A (evalPart e X.env) (λ u s'=>∃o H',sn X jp σ H' s'/\IsPart u o/\Q o H') X.xe s
def KL:TO:=λ _ H Q=>Q none H
def U2(t:TE):TO:=λ σ H Q=>t σ H λ x H1=>∃i,x=.int i/\Q (some i) H1
def intsAre_of:∀{us:List gV},ut (ns.map V.int) us->IntsAre us ns:=by
 induction ns with
 |nil=>intro us r;rw[G1]at r;cases r;exact .nil
 |cons n ns ih=>
  intro us r;rw[C8]at r;cases r with
  |cons r1 r2=>obtain⟨t,e⟩:=r1;subst e;exact .cons n t (ih r2)
section
variable {te:TE}{lo hi:Option Expr}{tl th:TO}
def L1:PO X none KL:=by intro jp s σ H Q I h;rw[evalPart_none];exact J3 ⟨none,H,I,.none,h⟩
def LZ(h:PE X e te):PO X (some e) (U2 te):=by intro jp s σ H Q I hw;rw[evalPart_some];refine cZ (h jp s σ H _ I hw) λ u s1 ⟨x,H1,I1,r1,q1⟩=>?_;obtain⟨i,rfl,q⟩:=q1;obtain⟨t,rfl⟩:=r1;exact⟨some i,H1,I1,.int i t,q⟩
def Dc(X:Cx)(r:V->Option Int->Option Int->Hp->VK->Prop):Prop:=
 ∀(jp:List (ap×Obj))(s:am)(σ:St)(H:Hp)(x:V)(v vl vu:gV)(lo hi:Option Int)(sl:ap)(Q:VK),sn X jp σ H s->sK x v->s.heap.IsSliceOf sl vl vu .none->IsPart vl lo->IsPart vu hi->r x lo hi H Q->
  ∃T id,typeLookup (.type T) "__getitem__"=pure (some (.builtin id))/\s.TypeIs v T/\wpAny (model X.prog X.w) X.A (getItem v (.ref sl)) (EP X jp σ Q) X.xe s
def Dc.or(h:Dc X r)(h':Dc X r'):Dc X (λ x lo hi H Q=>r x lo hi H Q\/r' x lo hi H Q):=by
 intro jp s σ H x v vl vu lo hi sl Q I rx hs pl pu q;rcases q with q|q
 ·exact h jp s σ H x v vl vu lo hi sl Q I rx hs pl pu q
 ·exact h' jp s σ H x v vl vu lo hi sl Q I rx hs pl pu q
def tSl(r:V->Option Int->Option Int->Hp->VK->Prop)(te:TE)(tl th:TO):TE:=λ σ H Q=>te σ H λ x H1=>tl σ H1 λ l H2=>th σ H2 λ u H3=>r x l u H3 Q
def Hv(hr:Dc X r)(he:PE X e te)(hl:PO X lo tl)(hu:PO X hi th):PE X (.Subscript e (.Slice lo hi none p2) pos) (tSl r te tl th):=by intro jp s σ H Q I h;refine Subscript_ (cZ (he jp s σ H _ I h) λ v s1 ⟨x,H1,I1,r1,q1⟩=>?_);refine wpAny_Slice (cZ (hl jp s1 σ H1 _ I1 q1) λ vl s2 ⟨l,H2,I2,pl,q2⟩=>cZ (hu jp s2 σ H2 _ I2 q2) λ vu s3 ⟨u,H3,I3,pu,q3⟩=>?_);rw[evalPart_none];refine J3 ?_;have I4:sn X jp σ H3 {s3 with heap:=s3.heap.push {cls:=.type "slice",data:=.fields #[vl,vu,.none]}}:=I3.kept (t':=s3.toks) λ b ob q=>j5 _ q;obtain⟨T,id,hT,ht,hg⟩:=hr jp {s3 with heap:=s3.heap.push {cls:=.type "slice",data:=.fields #[vl,vu,.none]}} σ H3 x v vl vu l u s3.heap.objs.size Q I4 r1 (Heap.IsSliceOf.new ..) pl pu q3;show wpAny (model X.prog X.w) X.A (subscriptTail e (.Slice lo hi none p2) v (.ref s3.heap.objs.size)) (EP X jp σ Q) X.xe {s3 with heap:=s3.heap.push {cls:=.type "slice",data:=.fields #[vl,vu,.none]}};exact tail_any (ops:=[.ref s3.heap.objs.size,v]) ht hT hg (by with_unfolding_all rfl)
def ym(xs:List V)(lo hi:Option Int):List V:=(xs.drop (HT.cx xs.length 0 lo)).take (HT.cx xs.length xs.length hi-HT.cx xs.length 0 lo)
def om(xs:List V)(lo hi:Option Int):(ym xs lo hi).length<=xs.length:=by unfold ym;rw[A1,length_drop];lia
def Vv(K:K6):V->Option Int->Option Int->Hp->VK->Prop:=λ x lo hi H Q=>∃a xs,x=.ref a/\hG K H a xs/\
 ¬(HT.cx xs.length 0 lo=0/\HT.cx xs.length xs.length hi=xs.length)/\∀p,H p=none->Q (.ref p) (u8 H p (.tup (ym xs lo hi)))
def Qs:Dc X (Vv X.K):=by
 intro jp s σ H x v vl vu lo hi sl Q I rx hs pl pu h;obtain⟨a,xs,rfl,hx,hw,q⟩:=h;cases rx;obtain⟨aq,r,ht,hz⟩:=I.tuple hx;have hlen:aq.toArray.size=xs.length:=by rw[x6];exact r.length.symm
 refine⟨"tuple",_,a0.lookup,ht.typeIs,?_⟩;refine HT.mn ht hs pl pu (by rw[hlen];exact hw) ?_ (by rw[hlen];exact hz);rw[hlen];refine⟨.ref s.heap.objs.size,_,I.laid (t':=s.toks) (o:=.tup (ym xs lo hi)) (λ b ob q=>j5 _ q) (G7 _) ?_,rfl,q _ (I.bu.fresh (G7 _))⟩;exact⟨E6 (om xs lo hi) hz,_,(r.drop (HT.cx xs.length 0 lo)).take (HT.cx xs.length xs.length hi-HT.cx xs.length 0 lo),IsTup.new _ _⟩
def VE(K:K6):R2:=λ x y H Q=>∃a b xs ys,x=.ref a/\y=.ref b/\hG K H a xs/\hG K H b ys/\xs≠[]/\xs.length+ys.length<=sizeLine/\
 (ys=[]->Q (.ref a) H)/\(ys≠[]->∀p,H p=none->Q (.ref p) (u8 H p (.tup (xs++ys))))
def ut.uw(r:ut xs us):us=[]↔xs=[]:=by
 cases r with
 |nil=>simp
 |cons _ _=>simp
def Ml:gM X (binaryOp .Add) (VE X.K):=by intro jp s σ H x y v u Q I rx ry h;obtain⟨a,b,xs,ys,rfl,rfl,ha,hb,hx,hz,q1,q2⟩:=h;cases rx;cases ry;obtain⟨aq,r1,p1,_⟩:=I.tuple ha;obtain⟨SR,r2,p2,_⟩:=I.tuple hb;refine HT.Oc p1 p2 (λ z=>hx (r1.uw.mp z)) (λ z=>⟨.ref a,H,I,rfl,q1 (r2.uw.mp z)⟩) (λ z=>?_) (by rw[<- r1.length,<- r2.length];exact hz);refine⟨.ref s.heap.objs.size,_,I.laid (t':=s.toks) (o:=.tup (xs++ys)) (λ b ob q=>j5 _ q) (G7 _) ?_,rfl,q2 (λ w=>z (r2.uw.mpr w)) _ (I.bu.fresh (G7 _))⟩;exact⟨by rw[p4];exact hz,_,r1.append r2,IsTup.new _ _⟩
end
def Ab(n:Nat)(i:Int):Option Nat:=if 0<=i then(if i<n then some i.toNat else none)else if -(n:Int)<=i then some (i+n).toNat else none
def gN{α:Type}(xs:List α)(i:Int):Option α:=(Ab xs.length i).bind λ j=>xs[j]?
def Cc{i:Int}(h:Ab n i=some j):seqIndex? i n=some j/\j<n/\-(n:Int)<=i/\i<n:=by
 unfold Ab at h;by_cases h0:0<=i
 ·rw[K1 h0]at h;by_cases h1:i<n
  ·rw[K1 h1]at h;have e:i.toNat=j:=B0 h;exact⟨by rw[seqIndex_of h0 h1,e],(),(),h1⟩
  ·rw[K3 h1]at h;cases h
 ·rw[K3 h0]at h;by_cases h1: -(n:Int)<=i
  ·rw[K1 h1]at h;have e:(i+n).toNat=j:=B0 h;exact⟨by rw[seqIndex_neg () h1,e],(),h1,()⟩
  ·rw[K3 h1]at h;cases h
def vB{xs:List α}{i:Int}{v:α}(h:gN xs i=some v):∃j,seqIndex? i xs.length=some j/\xs[j]?=some v/\j<xs.length/\-(xs.length:Int)<=i/\i<xs.length:=by
 unfold gN at h;cases e:Ab xs.length i with
 |none=>rw[e]at h;cases h
 |some j=>rw[e]at h;obtain⟨h1,h2,h3,h4⟩:=Cc e;exact⟨j,h1,h,h2,h3,h4⟩
def bc{xs:List α}{v:α}(h:xs[j]?=some v):gN xs (j:Int)=some v:=by
 have hj:j<xs.length:=(c7.mp h).1;have e:Ab xs.length (j:Int)=some j:=by unfold Ab;rw[K1 (),K1 ()];simp
 unfold gN;rw[e];exact h
def Df(b:Expr):Prop:=∀o i,subscripted b false o i=operate [o,i] (getItem o i)
def AL(X:Cx)(r:R2):Prop:=
 ∀(value slice:Expr)(jp:List (ap×Obj))(s:am)(σ:St)(H:Hp)(x y:V)(v u:gV)(Q:VK),sn X jp σ H s->sK x v->sK y u->r x y H Q->
  subscripted slice false v u=operate [v,u] (getItem v u)->wpAny (model X.prog X.w) X.A (subscriptTail value slice v u) (EP X jp σ Q) X.xe s
def UK(X:Cx)(id:String)(r:V->List V->Hp->VK->Prop):Prop:=
 ∀(jp:List (ap×Obj))(s:am)(σ:St)(H:Hp)(x:V)(xs:List V)(v:gV)(us:List gV)(Q:VK),sn X jp σ H s->sK x v->ut xs us->r x xs H Q->
  wpAny (model X.prog X.w) X.A (call (.builtin id) (v::us)) (EP X jp σ Q) X.xe s
section
variable {a b:Expr}{ta tb:TE}
def AL.or(h:AL X r)(h':AL X r'):AL X (λ x y H Q=>r x y H Q\/r' x y H Q):=by
 intro value slice jp s σ H x y v u Q I rx ry q hs;rcases q with q|q
 ·exact h value slice jp s σ H x y v u Q I rx ry q hs
 ·exact h' value slice jp s σ H x y v u Q I rx ry q hs
def VL(hr:AL X r)(ha:PE X a ta)(hb:PE X b tb)(hs:Df b):PE X (.Subscript a b pos) (U3 r ta tb):=by intro jp s σ H Q I h;exact Subscript_ (T3 ha hb I h λ v u s2 x y H2 I2 rx ry q=>hr a b jp s2 σ H2 x y v u Q I2 rx ry q (hs _ _))
def VB(K:K6):R2:=λ x y H Q=>∃p xs i v,x=.ref p/\y=.int i/\eO K H p xs/\gN xs i=some v/\Q v H
def Vz(K:K6):R2:=λ x y H Q=>∃p xs i v,x=.ref p/\y=.int i/\hG K H p xs/\gN xs i=some v/\Q v H
def VA:R2:=λ x y H Q=>∃z i c,x=.str z/\y=.int i/\z.length<=sizeLine/\gN z.cps.toList i=some c/\Q (.str ⟨#[c]⟩) H
def Nj:AL X (VB X.K):=by
 intro value slice jp s σ H x y v u Q I rx ry h hs;obtain⟨p,xs,i,z,rfl,rfl,hq,he,q⟩:=h;cases rx;obtain⟨t,rfl⟩:=ry;obtain⟨aq,r,pl,hz⟩:=I.list hq;obtain⟨j,h1,h2,h3,h4,h5⟩:=vB he;obtain⟨w,ew,oz⟩:=r.get h2;have hl:=r.length;have hn:=ng;have fin:EP X jp σ Q w s:=⟨z,H,I,oz,q⟩;by_cases h0:0<=i
 ·have hj:i.toNat=j:=by rw[seqIndex_of h0 h5]at h1;exact B0 h1
  exact item_listR pl.isList h0 () (by rw[hj];simpa using ew) fin hs
 ·have hj:(i+(aq.toArray.size:Int)).toNat=j:=by rw[seqIndex_neg () h4]at h1;rw[x6,<- hl];exact B0 h1
  exact subscriptTail_builtinR (x:=w) pl.isList.typeIs slot_list_getitem.lookup
   (wpAny_getItem_list_neg (Q:=λ r s'=>r=w/\EP X jp σ Q r s') pl.isList () (by rw[x6]<;>lia) () (by rw[hj];simpa using ew) ⟨rfl,fin⟩) hs
def SK:AL X (Vz X.K):=by
 intro value slice jp s σ H x y v u Q I rx ry h hs;obtain⟨p,xs,i,z,rfl,rfl,hq,he,q⟩:=h;cases rx;obtain⟨t,rfl⟩:=ry;obtain⟨aq,r,pl,hz⟩:=I.tuple hq;obtain⟨j,h1,h2,h3,h4,h5⟩:=vB he;obtain⟨w,ew,oz⟩:=r.get h2;have hl:=r.length;have hn:=ng;have fin:EP X jp σ Q w s:=⟨z,H,I,oz,q⟩;exact subscriptTail_builtinR (x:=w) pl.typeIs slot_tuple_getitem.lookup
  (getItem_tuple (j:=j) (Q:=λ r s'=>r=w/\EP X jp σ Q r s') pl () () (by rw[x6,<- hl];exact h1) (by simpa using ew) ⟨rfl,fin⟩) hs
def SM:AL X VA:=by
 intro value slice jp s σ H x y v u Q I rx ry h hs;obtain⟨z,i,c,rfl,rfl,hz,he,q⟩:=h;obtain⟨t,rfl⟩:=rx;obtain⟨t',rfl⟩:=ry;obtain⟨j,h1,h2,h3,h4,h5⟩:=vB he;have hl:z.cps.toList.length=z.length:=by simp[Str.length]
 rw[hl]at h1 h4 h5;have hn:=ng;exact tail_any (typeIs_str s z t) slot_str_getitem.lookup (getItem_str (c:=c) (by
  have e1:decide (i < -(2^63:Int))=false:=A7 ();have e2:decide (i ≥ 2^63)=false:=A7 ();rw[e1,e2,Bool.or_false]) (by rw[h1];simpa using h2) ⟨.str ⟨#[c]⟩,H,I.tok _,⟨_,rfl⟩,q⟩) hs
def rIx(K:K6):R2:=λ x y H Q=>VB K x y H Q\/Vz K x y H Q\/VA x y H Q
def SN:AL X (rIx X.K):=Nj.or (SK.or SM)
def zW(aq:List gV)(n j:Nat)(u:gV):Obj.mapSeq (·.setIfInBounds j u) {cls:=.type "list",data:=.seq aq.toArray n}={cls:=.type "list",data:=.seq (aq.set j u).toArray n}:=by simp[Obj.mapSeq]
def sn.lst(I:sn X jp σ H s)(h:H p=some (.lst xs)):∃(aq:List gV)(n:Nat),ut xs aq/\s.heap.get? p=some {cls:=.type "list",data:=.seq aq.toArray n}/\xs.length<=sizeLine:=by obtain⟨z,aq,n,r,e⟩:=I.bu p _ h;exact⟨aq,n,r,e,z⟩
def sn.Sh{f:Obj->Obj}(I:sn X jp σ H s)(h:H p=some (.lst xs))(ho:s.heap.get? p=some {cls:=.type "list",data:=.seq aq.toArray n})(hf:f {cls:=.type "list",data:=.seq aq.toArray n}={cls:=.type "list",data:=.seq its'.toArray n'})(r:ut ys its')(hz:ys.length<=sizeLine)(t:Nat):sn X jp σ (u8 H p (.lst ys)) {s with heap:=s.heap.update p f,toks:=t}:=by
 have e:(s.heap.update p f).get? p=some {cls:=.type "list",data:=.seq its'.toArray n'}:=by rw[j7 f ho (by rw[hf]<;>rfl),hf]
 refine I.write (x:=p) (e:=p) (by rw[h];trivial) (.inl rfl) (λ b u hb q=>(j6 _ _ (J9 hb)).trans q) ⟨_,e⟩ ?_;exact⟨hz,its',n',r,e⟩
def Vx:V->V->V->Hp->(Hp->Prop)->Prop:=λ o i v H Q=>∃p xs k j,o=.ref p/\i=.int k/\H p=some (.lst xs)/\Ab xs.length k=some j/\Q (u8 H p (.lst (xs.set j v)))
def set_list:vE X Vx:=by
 intro jp s σ H o i v ov iv u Q I ro ri rv h;obtain⟨p,xs,k,j,rfl,rfl,hp,hj,q⟩:=h;cases ro;obtain⟨t,rfl⟩:=ri;obtain⟨aq,n,r,ho,hz⟩:=I.lst hp;obtain⟨h1,h2,h3,h4⟩:=Cc hj;have hl:=r.length;have hn:=ng;have I':sn X jp σ (u8 H p (.lst (xs.set j v))) {s with heap:=s.heap.update p (Obj.mapSeq (·.setIfInBounds j u))}:=
  I.Sh hp ho (zW aq n j u) (r.set rv j) (by rw[length_set];exact hz) s.toks
 by_cases h0:0<=k
 ·have hk:k.toNat=j:=by rw[seqIndex_of h0 h4]at h1;exact B0 h1
  exact PySem.W.ki_setAt ho h0 () (by rw[x6,<- hl];exact h4) (by rw[hk];exact⟨_,I',q⟩)
 ·have hk:(k+(aq.toArray.size:Int)).toNat=j:=by rw[seqIndex_neg () h3]at h1;rw[x6,<- hl];exact B0 h1
  exact PySem.W.ki_setBack ho () (by rw[x6,<- hl];exact h3) () (by rw[hk];exact⟨_,I',q⟩)
def lF(lo hi:Option Int)(n:Nat):(sliceBounds lo hi none n).1=((HT.cx n 0 lo:Nat):Int)/\(sliceBounds lo hi none n).2.1=((HT.cx n n hi:Nat):Int)/\(sliceBounds lo hi none n).2.2=1:=by
 refine⟨?_,?_,rfl⟩
 ·cases lo with
  |none=>simp[sliceBounds,HT.cx]
  |some i=>
   simp only[sliceBounds,HT.cx,Option.getD_none,show(1:Int) > 0 by decide,K0];by_cases h:i<0
   ·simp only[h,K0]<;>lia
   ·simp only[h,J7]<;>lia
 ·cases hi with
  |none=>simp[sliceBounds,HT.cx]
  |some i=>
   simp only[sliceBounds,HT.cx,Option.getD_none,show(1:Int) > 0 by decide,K0];by_cases h:i<0
   ·simp only[h,K0]<;>lia
   ·simp only[h,J7]<;>lia
def rq(aq:List gV)(lo hi:Option Int):slicePick aq.toArray lo hi none=((aq.drop (HT.cx aq.length 0 lo)).take (HT.cx aq.length aq.length hi-HT.cx aq.length 0 lo)).toArray:=by obtain⟨h1,h2,h3⟩:=lF lo hi aq.toArray.size;unfold slicePick;rw[h1,h2,h3];simp only[sliceRange_one,pick_run,x6]<;>rfl
def Vw(K:K6):V->Option Int->Option Int->Hp->VK->Prop:=λ x lo hi H Q=>∃a xs,x=.ref a/\eO K H a xs/\∀p,H p=none->Q (.ref p) (u8 H p (.lst (ym xs lo hi)))
def KY:Dc X (Vw X.K):=by intro jp s σ H x v vl vu lo hi sl Q I rx hs pl pu h;obtain⟨a,xs,rfl,hx,q⟩:=h;cases rx;obtain⟨aq,r,ht,hz⟩:=I.list hx;have hlen:=r.length;refine⟨"list",_,slot_list_getitem.lookup,ht.isList.typeIs,?_⟩;refine wpAny_getItem_list_slice ht.isList hs pl pu .none (by simp) ?_ (by rw[x6]<;>lia);rw[rq,<- hlen];refine⟨.ref s.heap.objs.size,_,I.laid (t':=s.toks) (o:=.lst (ym xs lo hi)) (λ b ob q=>j5 _ q) (G7 _) ?_,rfl,q _ (I.bu.fresh (G7 _))⟩;exact⟨E6 (om xs lo hi) hz,_,0,(r.drop (HT.cx xs.length 0 lo)).take (HT.cx xs.length xs.length hi-HT.cx xs.length 0 lo),n6 _ rfl⟩
def iH:V->Bool
 | .bo=>true
 | .bl _=>true
 | .int _=>true
 | .str _=>true
 |_=>false
def Pt:V->V->Bool
 | .bo,.bo=>true
 | .bl a,.bl b=>a==b
 | .bl a,.int b=>(if a then 1 else 0)==b
 | .int a,.bl b=>a==(if b then 1 else 0)
 | .int a,.int b=>a==b
 | .str a,.str b=>a==b
 |_,_=>false
def TF{y x:V}{v:gV}(ry:sK y u)(rx:sK x v)(fy:iH y=true)(fx:iH x=true):SeqAt.EqAt A s u v (Pt y x):=by
 cases y with
 |bo=>
  cases ry;cases x with
  |bo=>cases rx;exact SeqAt.EqAt.same _
  |bl b=>cases rx;exact SeqAt.EqAt.none_bool b
  |int b=>obtain⟨t,rfl⟩:=rx;exact SeqAt.EqAt.none_int b t
  |str b=>obtain⟨t,rfl⟩:=rx;exact SeqAt.EqAt.none_str b t
  |_=>exact be (show false=true from fx) o8
 |bl a=>
  cases ry;cases x with
  |bo=>cases rx;exact SeqAt.EqAt.bool_none a
  |bl b=>cases rx;exact SeqAt.EqAt.bool_bool a b
  |int b=>obtain⟨t,rfl⟩:=rx;exact SeqAt.EqAt.bool_int a b t
  |str b=>obtain⟨t,rfl⟩:=rx;exact SeqAt.EqAt.bool_str a b t
  |_=>exact be (show false=true from fx) o8
 |int a=>
  obtain⟨t',rfl⟩:=ry;cases x with
  |bo=>cases rx;exact SeqAt.EqAt.int_none a t'
  |bl b=>cases rx;exact SeqAt.EqAt.int_bool a t' b
  |int b=>obtain⟨t,rfl⟩:=rx;exact SeqAt.EqAt.int_int a t' b t
  |str b=>obtain⟨t,rfl⟩:=rx;exact SeqAt.EqAt.int_str a t' b t
  |_=>exact be (show false=true from fx) o8
 |str a=>
  obtain⟨t',rfl⟩:=ry;cases x with
  |bo=>cases rx;exact SeqAt.EqAt.str_none a t'
  |bl b=>cases rx;exact SeqAt.EqAt.str_bool a t' b
  |int b=>obtain⟨t,rfl⟩:=rx;exact SeqAt.EqAt.str_int a t' b t
  |str b=>obtain⟨t,rfl⟩:=rx;exact SeqAt.EqAt.str_str a t' b t
  |_=>exact be (show false=true from fx) o8
 |_=>exact be (show false=true from fy) o8
def NU(x:V)(u:gV):Bool:=match u with
 | .none=>Pt .bo x
 | .bool b=>Pt (.bl b) x
 | .int i _=>Pt (.int i) x
 | .str z _=>Pt (.str z) x
 |_=>false
def Jq{x y:V}(r:sK y u)(f:iH y=true):NU x u=Pt y x:=by
 cases y with
 |bo=>cases r;rfl
 |bl b=>cases r;rfl
 |int i=>obtain⟨t,rfl⟩:=r;rfl
 |str z=>obtain⟨t,rfl⟩:=r;rfl
 |_=>exact be (show false=true from f) o8
def vC{x:V}:∀{xs:List V} {us:List gV},ut xs us->xs.all iH=true->us.any (NU x)=xs.any λ y=>Pt y x
 |_,_,.nil,_=>rfl
 |y::xs,u::us,.cons r t,f=>by rw[all_cons,A0]at f;rw[any_cons,any_cons,Jq r f.1,vC t f.2]
def qt{x:V}{v:gV}(rx:sK x v)(fx:iH x=true):∀{xs:List V} {us:List gV},ut xs us->xs.all iH=true->∀u∈us,SeqAt.EqAt A s u v (NU x u)
 |_,_,.nil,_=>λ u hu=>by cases hu
 |y::xs,u::us,.cons r t,f=>λ u' hu=>by
  rw[all_cons,A0]at f;rcases C9.mp hu with rfl|hu
  ·rw[Jq r f.1];exact TF r rx f.1 fx
  ·exact qt rx fx t f.2 u' hu
def Pa(x:V)(xs:List V):Bool:=xs.any λ y=>Pt y x
def rIn(K:K6)(neg:Bool):R2:=λ x y H Q=>∃p xs,y=.ref p/\(eO K H p xs\/hG K H p xs)/\iH x=true/\xs.all iH=true/\Q (.bl (if neg then !Pa x xs else Pa x xs)) H
def DX:gM X (compareOp .In) (rIn X.K false):=by
 intro jp s σ H x y v u Q I rx ry h;obtain⟨p,xs,rfl,hq,fx,fs,q⟩:=h;cases ry;rcases hq with hq|hq
 ·obtain⟨aq,r,pl,hz⟩:=I.list hq;refine SeqAt.in_listAt (NU x) pl.isList (λ w hw=>qt rx fx r fs w (by simpa using hw)) ⟨.bl _,H,I,rfl,?_⟩;rw[show aq.toArray.any (NU x)=aq.any (NU x) by simp,vC r fs];exact q
 ·obtain⟨aq,r,pl,hz⟩:=I.tuple hq;refine SeqAt.in_tupleAt (NU x) pl (λ w hw=>qt rx fx r fs w (by simpa using hw)) ⟨.bl _,H,I,rfl,?_⟩;rw[show aq.toArray.any (NU x)=aq.any (NU x) by simp,vC r fs];exact q
def uk:gM X (compareOp .NotIn) (λ x y H Q=>∃i j,x=.str i/\y=.str j/\Q (.bl (!(!(Builtin.Str.occurrences j i 0 j.length 1).isEmpty))) H):=by intro jp s σ H x y v u Q I rx ry h;obtain⟨i,j,rfl,rfl,q⟩:=h;obtain⟨t,rfl⟩:=rx;obtain⟨t',rfl⟩:=ry;exact notIn_str ⟨.bl _,H,I,rfl,q⟩
def vo:dr X (.builtin "len") (λ xs H Q=>∃p ys,xs=[.ref p]/\(eO X.K H p ys\/hG X.K H p ys)/\Q (.int ys.length) H):=by
 intro jp s σ H xs us Q I r h;obtain⟨p,ys,rfl,hq,q⟩:=h;obtain⟨u,rfl,rx⟩:=vals1 r;cases rx;have hn:=ng;rcases hq with hq|hq
 ·obtain⟨aq,r',pl,hz⟩:=I.list hq;have hlen:=r'.length;exact Calls.call_len_list pl.isList (by simp only[x6]<;>lia) ⟨.int ys.length,H,I.tok _,⟨s.toks+1,by rw[x6,hlen]⟩,q⟩
 ·obtain⟨aq,r',pl,hz⟩:=I.tuple hq;have hlen:=r'.length;exact len_tuple pl (by simp only[x6]<;>lia) ⟨.int ys.length,H,I.tok _,⟨s.toks+1,by rw[x6,hlen]⟩,q⟩
def vn:dr X (.builtin "len") (λ xs H Q=>∃z,xs=[.str z]/\z.length<=sizeLine/\Q (.int z.length) H):=by intro jp s σ H xs us Q I r h;obtain⟨z,rfl,hz,q⟩:=h;obtain⟨u,rfl,t,rfl⟩:=vals1 r;have hn:=ng;exact len_str () ⟨.int z.length,H,I.tok _,⟨_,rfl⟩,q⟩
def dr.or{f:gV}(h:dr X f r)(h':dr X f r'):dr X f (λ xs H Q=>r xs H Q\/r' xs H Q):=by
 intro jp s σ H xs us Q I rs q;rcases q with q|q
 ·exact h jp s σ H xs us Q I rs q
 ·exact h' jp s σ H xs us Q I rs q
def vm:dr X (.type "list") (λ xs H Q=>∃p ys,xs=[.ref p]/\(eO X.K H p ys\/hG X.K H p ys)/\∀l,H l=none->Q (.ref l) (u8 H l (.lst ys))):=by
 intro jp s σ H xs us Q I r h;obtain⟨p,ys,rfl,hq,q⟩:=h;obtain⟨u,rfl,rx⟩:=vals1 r;cases rx;have fin:∀(aq:List gV),ut ys aq->ys.length<=sizeLine->∀(h':Heap)(c':Nat),(∀b o',s.heap.get? b=some o'->h'.get? b=some o')->
   h'.get? s.heap.objs.size=some {cls:=.type "list",dict:=none,data:=.seq aq.toArray c',slots:=#[]}->EP X jp σ Q (.ref s.heap.objs.size) {s with heap:=h'}:=λ aq r' hz h' c' kp e=>
  ⟨.ref s.heap.objs.size,_,I.laid (t':=s.toks) kp (G7 _) (show bR X.prog X.w _ h' _ (.lst ys)from⟨hz,aq,c',r',e⟩),rfl,q _ (I.bu.fresh (G7 _))⟩
 rcases hq with hq|hq
 ·obtain⟨aq,r',pl,hz⟩:=I.list hq;have hlen:=r'.length;obtain⟨o,ho,hc,n,hd⟩:=pl.isList;exact call_list_seq p (.inl rfl) ho hc hd (λ h' c' kp e=>fin aq r' hz h' c' kp e) (by simp only[x6]<;>lia)
 ·obtain⟨aq,r',pl,hz⟩:=I.tuple hq;have hlen:=r'.length;obtain⟨o,ho,hc,n,hd⟩:=pl;exact call_list_seq p (.inr rfl) ho hc hd (λ h' c' kp e=>fin aq r' hz h' c' kp e) (by simp only[x6]<;>lia)
def rJ:dr X (.type "tuple") (λ xs H Q=>∃p ys,xs=[.ref p]/\((eO X.K H p ys/\∀l,H l=none->Q (.ref l) (u8 H l (.tup ys)))\/(hG X.K H p ys/\Q (.ref p) H))):=by
 intro jp s σ H xs us Q I r h;obtain⟨p,ys,rfl,h⟩:=h;obtain⟨u,rfl,rx⟩:=vals1 r;cases rx;rcases h with⟨hq,q⟩|⟨hq,q⟩
 ·obtain⟨aq,r',pl,hz⟩:=I.list hq;have hlen:=r'.length;refine call_tuple_list pl.isList (λ h' kp=>?_) (by simp only[x6]<;>lia);have I1:sn X jp σ H {s with heap:=h'}:=I.kept (t':=s.toks) kp;have I2:sn X jp σ (u8 H h'.objs.size (.tup ys)) {s with heap:=h'.push {cls:=.type "tuple",data:=.seq aq.toArray}}:=
   I1.laid (t':=s.toks) (λ b o e=>j5 _ e) (G7 _) (show bR X.prog X.w _ _ _ (.tup ys)from⟨hz,aq,r',IsTup.new _ _⟩)
  exact⟨.ref h'.objs.size,_,I2,rfl,q _ (I1.bu.fresh (G7 _))⟩
 ·obtain⟨aq,r',pl,hz⟩:=I.tuple hq;exact call_tuple_same pl ⟨.ref p,H,I,rfl,q⟩
def XU(K:K6)(T:String)(x:V)(H:Hp):Prop:=match x with
 | .str _=>T="str"
 | .int _=>T="int"
 | .ref p=>(T="list"/\∃xs,eO K H p xs)\/(T="tuple"/\∃o,K.lookup p=some o/\o.cls=.type "tuple"/\o.dict=none)\/
   (T="dict"/\((∃kvs,H p=some (.dK kvs))\/∃kvs,H p=some (.dT kvs)))\/(T="set"/\∃S n,H p=some (.set S n))
 |_=>False
def FK{x:V}{v:gV}(I:sn X jp σ H s)(r:sK x v)(ty:XU X.K T x H):s.TypeIs v T/\∀a,v=.ref a->∃ob,s.heap.get? a=some ob/\ob.dict=none:=by
 cases x with
 |str z=>obtain⟨t,rfl⟩:=r;cases(show T="str" from ty);exact⟨typeIs_str s z t,λ _ e=>nomatch e⟩
 |int i=>obtain⟨t,rfl⟩:=r;cases(show T="int" from ty);exact⟨typeIs_int s i t,λ _ e=>nomatch e⟩
 |ref p=>
  cases r;rcases ty with⟨rfl,xs,hq⟩|⟨rfl,o,hk,hc,hd⟩|⟨rfl,hk⟩|⟨rfl,S,n,hk⟩
  ·obtain⟨aq,_,pl,_⟩:=I.list hq;refine⟨pl.isList.typeIs,λ a e=>?_⟩;cases e;obtain⟨o,n,e,c,hd,_⟩:=pl;exact⟨o,e,hd⟩
  ·refine⟨⟨o,I.Nh p o hk,hc⟩,λ a e=>?_⟩;cases e;exact⟨o,I.Nh _ o hk,hd⟩
  ·have z:∃o,s.heap.get? p=some o/\o.ExactDict:=by
    rcases hk with⟨kvs,hk⟩|⟨kvs,hk⟩
    ·obtain⟨_,_,_,_,o,_,_,e,ex,_⟩:=I.bu p _ hk;exact⟨o,e,ex⟩
    ·obtain⟨_,_,_,_,o,_,_,e,ex,_⟩:=I.bu p _ hk;exact⟨o,e,ex⟩
   obtain⟨o,e,ex⟩:=z;refine⟨⟨o,e,ex.1⟩,λ a e2=>?_⟩;cases e2;exact⟨o,e,ex.2.1⟩
  ·obtain⟨o,_,_,_,e,ex,_⟩:=I.bu p _ hk;refine⟨⟨o,e,ex.1⟩,λ a e2=>?_⟩;cases e2;exact⟨o,e,ex.2.1⟩
 |_=>exact False.elim ty
def Y9(K:K6)(T:String)(r:V->List V->Hp->VK->Prop)(to:TE):TE:=λ σ H Q=>to σ H λ x H1=>XU K T x H1/\r x [] H1 Q
def tBM(K:K6)(T:String)(r:V->List V->Hp->VK->Prop)(to:TE)(t:TA):TE:=λ σ H Q=>to σ H λ x H1=>XU K T x H1/\t σ H1 λ xs H2=>r x xs H2 Q
variable {o:Expr}{to:TE}{id:String}{r:V->List V->Hp->VK->Prop}
def Rw(pa:PlainAttrs T)(slot:Slot T name id)(Eu:UL id)(hm:UK X id r)(ho:PE X o to)(gX:Ui X o name:=by rfl)(gW:Ud apos cL:=by rfl):PE X (.Call (.Attribute o name apos) [] [] cL) (Y9 X.K T r to):=by intro jp s σ H Q I h;refine wpAny_Call_method0_late gX gW (cZ (ho jp s σ H _ I h) λ v s1 ⟨x,H1,I1,r1,ty,q1⟩=>?_);obtain⟨h1,h2⟩:=FK I1 r1 ty;exact⟨T,id,pa,slot,Eu,h1,h2,Calls.callWith_builtin rfl (PySem.evalArgs_none (hm jp s1 σ H1 x [] v [] Q I1 r1 .nil q1))⟩
def OY(pa:PlainAttrs T)(slot:Slot T name id)(Eu:UL id)(hm:UK X id r)(ho:PE X o to)(ha:PA X (e::es) t)(gX:Ui X o name:=by rfl)(iq:YM X cL e es:=by rfl)(gW:Ud apos cL:=by rfl)(hs:oq X e es:=by rfl)(kR:vR X cL es:=by rfl):PE X (.Call (.Attribute o name apos) (e::es) [] cL) (tBM X.K T r to t):=by intro jp s σ H Q I h;refine wpAny_Call_method_late gX iq gW rfl (cZ (ho jp s σ H _ I h) λ v s1 ⟨x,H1,I1,r1,ty,q1⟩=>?_);obtain⟨h1,h2⟩:=FK I1 r1 ty;refine⟨T,id,pa,slot,Eu,h1,h2,?_⟩;have hA:=ha cL jp s1 σ H1 _ I1 q1;rw[hs]at hA ⊢;refine Calls.callWith_builtin (by show(false||(backTo cL (starEach es X.env)).any (·.1))=false;rw[kR]<;>rfl) (Calls.evalArgs_plain ?_);exact cZ hA λ us s2 ⟨vs,H2,I2,r2,q2⟩=>hm jp s2 σ H2 x vs v us Q I2 r1 r2 q2
end
def PJ(X:Cx)(id:String)(r:V->List V->Hp->VK->Prop):Prop:=
 ∀(jp:List (ap×Obj))(s:am)(σ:St)(H:Hp)(x:V)(xs:List V)(v:gV)(us:List gV)(Q:VK),sn X jp σ H s->sK x v->ut xs us->r x xs H Q->
  wpAny (model X.prog X.w) X.A (call (.builtin id) (v::us)) (EP X jp σ Q) X.xe s
def ut.one:∀{x:V} {us:List gV},ut [x] us->∃u,us=[u]/\sK x u
 |_,_,.cons r .nil=>⟨_,rfl,r⟩
def ut.zero:∀{us:List gV},ut [] us->us=[]
 |_,.nil=>rfl
def ut.dropLast(h:ut xs us):ut xs.dropLast us.dropLast:=by
 induction h with
 |nil=>exact .nil
 |cons r t ih=>
  cases t with
  |nil=>exact .nil
  |cons q t'=>exact .cons r ih
def ut.eraseIdx:∀{xs:List V} {us:List gV} (i:Nat),ut xs us->ut (xs.eraseIdx i) (us.eraseIdx i)
 |_,_,_,.nil=>.nil
 |_,_,0,.cons _ t=>t
 |_,_,i+1,.cons r t=>.cons r (ut.eraseIdx i t)
def ut.rep(h:ut xs us):∀k:Nat,ut (List.replicate k xs).flatten (List.replicate k us).flatten
 |0=>.nil
 |k+1=>by rw[m9,m9,w6,w6];exact ut.append h (ut.rep h k)
def Am(l:List α):l.eraseIdx (l.length-1)=l.dropLast:=by
 induction l with
 |nil=>rfl
 |cons a r ih=>
  cases r with
  |nil=>rfl
  |cons b r=>
   have e:(a::b::r).length-1=((b::r).length-1)+1:=by have h1:(a::b::r).length=r.length+2:=rfl;have h2:(b::r).length=r.length+1:=rfl;lia
   rw[e,eraseIdx_cons_succ,ih]
   all_goals rfl
def sN:∀(l:List α)(i:Nat),(l.eraseIdx i).length<=l.length
 |[],_=>G7 _
 |_::_,0=>Nat.le_succ _
 |_::r,i+1=>Nat.succ_le_succ (sN r i)
def foldl_rep(aq:List gV):∀(k:Nat)(li:List gV),
  List.foldl (λ x1 x2=>x1++x2) li.toArray (List.replicate k aq.toArray)=(li++(List.replicate k aq).flatten).toArray
 |0,li=>by simp
 |k+1,li=>by
  have e:li.toArray++aq.toArray=(li++aq).toArray:=by simp
  have e2:(li++aq)++(List.replicate k aq).flatten=li++(List.replicate (k+1) aq).flatten:=by rw[m9,w6,append_assoc]
  rw[<- e2,<- foldl_rep aq k (li++aq),<- e,m9,foldl_cons]
section
variable {l b:ap}{zs:List V}
def sn.Si{f:Array gV->Array gV}(I:sn X jp σ H s)(hH:H l=some (.lst xs))(e:s.heap.get? l=some {cls:=.type "list",data:=.seq aq.toArray n})(hf:f aq.toArray=its'.toArray)(hv:ut ys its')(hz:ys.length<=sizeLine):sn X jp σ (u8 H l (.lst ys)) {s with heap:=s.heap.update l (Obj.mapSeq f),toks:=t'}:=by have q:=PySem.IsL.update e f;rw[hf]at q;refine I.write (x:=l) (e:=l) (by rw[hH];exact trivial) (.inl rfl) (λ b' u hb hu=>(j6 s.heap (Obj.mapSeq f) (J9 hb)).trans hu) ⟨_,q⟩ ?_;exact⟨hz,its',_,hv,q⟩
def sn.V7(I:sn X jp σ H s)(hv:ut ys aq)(hz:ys.length<=sizeLine):sn X jp σ (u8 H s.heap.objs.size (.lst ys)) {s with heap:=s.heap.push {cls:=.type "list",data:=.seq aq.toArray},toks:=t'}:=
 I.laid (λ _ _ q=>j5 _ q) (G7 _) ⟨hz,aq,0,hv,n6 _ rfl⟩
def sn.fresh(I:sn X jp σ H s):H s.heap.objs.size=none:=I.bu.fresh (G7 _)
def sn.Ei(I:sn X jp σ H s)(hH:H l=some (.lst xs)):xs.length<=sizeLine/\∃(aq:List gV)(n:Nat),ut xs aq/\xs.length=aq.length/\s.heap.get? l=some {cls:=.type "list",data:=.seq aq.toArray n}:=by obtain⟨z,aq,n,r,e⟩:=I.bu l _ hH;exact⟨z,aq,n,r,r.length,e⟩
def HU(h:n<=sizeLine):Builtin.List.listTooLong n=false:=by unfold Builtin.List.listTooLong;exact A7 ()
end
def Bw:V->List V->Hp->VK->Prop:=λ x vs H Q=>∃l xs y,x=.ref l/\vs=[y]/\H l=some (.lst xs)/\xs.length<sizeLine/\Q .bo (u8 H l (.lst (xs++[y])))
def Ef:PJ X "list.append" Bw:=by intro jp s σ H x vs v us Q I rx rv h;obtain⟨l,xs,y,rfl,rfl,hH,hz,q⟩:=h;cases rx;obtain⟨u,rfl,ru⟩:=rv.one;obtain⟨z,aq,n,r,hl,e⟩:=I.Ei hH;refine J5 F.slot_list_append ⟨_,e,rfl⟩ F.entry_list_append (F.args_list_append_2 _ _) (PySem.list_append l aq.toArray n u (by rw[x6];lia)) ⟨e,?_⟩;refine⟨.bo,_,I.Si (its':=aq++[u]) hH e (by simp) (r.append (.cons ru .nil)) ?_,rfl,q⟩;rw[p4,j9];lia
def Zl:V->List V->Hp->VK->Prop:=λ x vs H Q=>∃l xs y,x=.ref l/\vs=[]/\H l=some (.lst xs)/\xs[xs.length-1]?=some y/\Q y (u8 H l (.lst xs.dropLast))
def Sd:PJ X "list.pop" Zl:=by
 intro jp s σ H x vs v us Q I rx rv h;obtain⟨l,xs,y,rfl,rfl,hH,hy,q⟩:=h;cases rx;have hus:=rv.zero;subst hus;obtain⟨z,aq,n,r,hl,e⟩:=I.Ei hH;obtain⟨u,hu,ru⟩:=r.get hy;have Fh:aq.toArray[aq.toArray.size-1]?=some u:=by show aq.toArray[aq.length-1]?=some u;rw[<- k3,<- hl];exact hu
 refine J5 F.slot_list_pop ⟨_,e,rfl⟩ F.entry_list_pop (F.args_list_pop_1 _) (MeetsSeq.list_pop_last l aq.toArray n u Fh (by rw[x6];lia)) ⟨e,?_⟩;refine⟨y,_,I.Si (its':=aq.dropLast) hH e ?_ r.dropLast ?_,ru,q⟩
 ·show aq.toArray.eraseIdxIfInBounds (aq.toArray.size-1)=aq.dropLast.toArray;rw[x6,eraseIdxIfInBounds_toArray,Am]
 ·rw[length_dropLast];lia
def Q6:V->List V->Hp->VK->Prop:=λ x vs H Q=>∃l xs i k y,x=.ref l/\vs=[.int i]/\H l=some (.lst xs)/\-(2^63)<=i/\i<2^63/\seqIndex? i xs.length=some k/\xs[k]?=some y/\Q y (u8 H l (.lst (xs.eraseIdx k)))
def Ih:PJ X "list.pop" Q6:=by
 intro jp s σ H x vs v us Q I rx rv h;obtain⟨l,xs,i,k,y,rfl,rfl,hH,h1,h2,hk,hy,q⟩:=h;cases rx;obtain⟨u,rfl,ru⟩:=rv.one;obtain⟨t,rfl⟩:=ru;obtain⟨z,aq,n,r,hl,e⟩:=I.Ei hH;obtain⟨w,hw,oz⟩:=r.get hy;refine J5 F.slot_list_pop ⟨_,e,rfl⟩ F.entry_list_pop (F.args_list_pop_2 _ _)
  (MeetsSeq.list_pop_at l aq.toArray n i t k w (fitsIndex_both h1 h2) (by rw[x6,<- hl];exact hk) (by rw[<- k3];exact hw) (by rw[x6];lia)) ⟨e,?_⟩
 refine⟨y,_,I.Si (its':=aq.eraseIdx k) hH e ?_ (r.eraseIdx k) ?_,oz,q⟩
 ·show aq.toArray.eraseIdxIfInBounds k=(aq.eraseIdx k).toArray;rw[eraseIdxIfInBounds_toArray]
 ·have:=sN xs k;lia
def Zn:R2:=λ x y H Q=>∃l b xs zs,x=.ref l/\y=.ref b/\H l=some (.lst xs)/\H b=some (.lst zs)/\xs.length+zs.length<=sizeLine/\∀p,H p=none->Q (.ref p) (u8 H p (.lst (xs++zs)))
def RL:gM X (binaryOp .Add) Zn:=by
 intro jp s σ H x y v u Q I rx ry h;obtain⟨l,b,xs,zs,rfl,rfl,hH,hB,hz,q⟩:=h;cases rx;cases ry;obtain⟨z,aq,n,r,hl,e⟩:=I.Ei hH;obtain⟨z2,SR,n2,r2,hl2,e2⟩:=I.Ei hB;refine PySem.P.add_list e e2 ?_ (by rw[x6,x6];lia);have ea:aq.toArray++SR.toArray=(aq++SR).toArray:=by simp
 rw[ea];exact⟨.ref _,_,I.V7 (t':=s.toks) (r.append r2) (by rw[p4];lia),rfl,q _ I.fresh⟩
def Zk:R2:=λ x y H Q=>∃l k xs,x=.ref l/\y=.int k/\H l=some (.lst xs)/\-(2^63)<=k/\k<2^63/\xs.length*k.toNat<=sizeLine/\
 ∀p,H p=none->Q (.ref p) (u8 H p (.lst (List.replicate k.toNat xs).flatten))
def len_rep(xs:List α)(k:Nat):(List.replicate k xs).flatten.length=k*xs.length:=by
 induction k with
 |zero=>simp
 |succ k ih=>rw[m9,w6,p4,ih,Nat.succ_mul,Nat.add_comm]
def RC:gM X (binaryOp .Mult) Zk:=by
 intro jp s σ H x y v u Q I rx ry h;obtain⟨l,k,xs,rfl,rfl,hH,h1,h2,hz,q⟩:=h;cases rx;obtain⟨t,rfl⟩:=ry;obtain⟨z,aq,n,r,hl,e⟩:=I.Ei hH;have hlen:aq.toArray.size*k.toNat<=sizeLine:=by rw[x6,<- hl];exact hz
 have aaQ:¬aq.toArray.size*k.toNat > (2^63-1)/8:=by
  have:(sizeLine:Nat)<=(2^63-1)/8:=by decide
  lia
 have WR:¬(!Builtin.List.listFitsIndex k)=true:=by rw[fitsIndex_both h1 h2];exact o8
 have WJ:¬Builtin.List.listTooLong (aq.toArray.size*k.toNat)=true:=by rw[HU hlen];exact o8
 have Td:List.foldl (λ x1 x2=>x1++x2) #[] (List.replicate (if aq.toArray.isEmpty=true then 0 else k.toNat) aq.toArray)=(List.replicate k.toNat aq).flatten.toArray:=by
  have f0:∀m:Nat,List.foldl (λ x1 x2=>x1++x2) #[] (List.replicate m aq.toArray)=(List.replicate m aq).flatten.toArray:=λ m=>by have:=foldl_rep aq m [];rw[nil_append]at this;exact this
  rw[f0];cases aq with
  |nil=>simp
  |cons a r'=>rw[K3 (by simp)]
 refine wpAny_binaryOp_repeat_ref (T:="list") (U:="int") (by decide) ⟨_,e,rfl⟩ (λ s'=>typeIs_int s' k t) noFill_list_mul F.fills_int_mul F.slot_int_rmul repeat_list F.slot_int_index.lookup
  (J5 F.slot_int_rmul (typeIs_int s k t) F.entry_int_rmul (F.args_int_rmul_2 _ _) (int___rmul___int_list k t l aq.toArray n)
   ⟨e,rfl,⟨_,e,rfl⟩,J5 F.slot_list_mul ⟨_,e,rfl⟩ F.entry_list_mul (F.args_list_mul_2 _ _) (AutoListH.list___mul___list_int_3 l aq.toArray n k t WR aaQ WJ) ⟨e,?_⟩⟩)
 rw[Td];exact⟨.ref _,_,I.V7 (t':=s.toks) (r.rep k.toNat) (by rw[len_rep,Nat.mul_comm];exact hz),rfl,q _ I.fresh⟩
end L2
namespace Att
open PySem.W PySem.Calls PyProof.Rows
def oA{P:Params}:∀(ns:List Int)(vs:List gV),WellAll P h vs (ns.map WData.int)->IntsAre vs ns:=by
 intro ns
 induction ns with
 |nil=>intro vs w;rw[G1]at w;cases w;exact .nil
 |cons n ns ih=>
  intro vs w;rw[C8]at w;cases w with
  |cons a b=>cases a;exact .cons _ _ (ih _ b)
def DH(hn:l.most=some n){P:Params}{args:List WData}{vals:List gV}(Nv:l.row.toRowW.claim.pre args=true)(ZW:WellAll P h vals args):∃a vs ns,vals=[Value.ref a]/\args=[WData.list (ns.map WData.int)]/\h.get? a=some {cls:=.type "list",data:=.seq vs.toArray}/\IntsAre vs ns/\ns.length<=n:=by
 have hsh:WShape.hasAll [] args [.list .int]=true:=(pre_splitW Nv).1;have hc:l.pre.holds [] {args:=args}=true:=(pre_splitW Nv).2;obtain⟨d,r,rfl,h1,h2⟩:=hasAllW_cons hsh;obtain rfl:=hasAllW_nil h2;obtain⟨xs,rfl,h3⟩:=hasW_list h1;obtain⟨ns,rfl⟩:=items_int h3;have hlen:ns.length<=n:=by
  unfold OpenLaw.pre at hc;have h4:(WTm.not (.lt (.lit (.int (n:Int))) (.len (.arg 0)))).holds [] {args:=[.list (ns.map .int)]}=true:=by have h4:=(holds_andW hc).1;rw[hn]at h4;exact h4
  have h5:=condW_of h4 (w_not (w_lt w_lit (w_len_list (w_arg rfl))));rw[B3]at h5;refine y4 λ q=>?_;have q':(n:Int)<((ns.length:Nat):Int):=()
  first
   |(rw[B8 q']at h5;exact be h5 (by decide))
   |(simp at h5;lia)
 cases ZW with
 |cons w1 w2=>
  cases w2;cases w1 with
  |list ho Jf=>exact⟨_,_,ns,rfl,rfl,ho,oA ns _ Jf,hlen⟩
def DQ(l:OpenLaw)(args:List WData):l.row.toRowW.claim.post args (.bool true) args=true:=
 postW_of (r:=l.row.toRowW) (X:=(true==true))
  (show WShape.has [] (.bool true) .bool=true by first|rfl|decide|simp[WShape.has,WShape.arms,WShape.armsAll])
  (show(WTm.eq .res (.lit (.bool true))).value [] {args:=args,res:=some (.bool true),after:=args}=some (.bool (true==true))from w_eq_bool (w_res rfl) w_lit) rfl
def yE{q:Program}{loose:List Str}{XP:(Str->Option gV)->Heap->Prop}{YP:World->Heap->Prop}{d:DefRec}(hn:l.most=some n)(ND:d.params.defaults=[]) (call:∀(w:World)(s₀ s₁:am)(mg mb:Str->Option gV)(fa:ap)(o:Obj)(pm cd doc:gV)(a:ap)(vs:List gV)(ns:List Int),
   Ground q loose [] XP w s₀ mg mb s₁.heap->YP w s₁.heap->
   s₁.heap.get? fa=some o->o.data=.func (docDef d.name d.params d.body d.scope pm cd doc)->s₁.heap.CodeRec cd d.name->mg d.name=some (.ref fa)->
   s₁.heap.get? a=some {cls:=.type "list",data:=.seq vs.toArray}->IntsAre vs ns->ns.length<=n->s₁.gens=#[]->
   codeAny (model l.prog w) callerA (.call (.ref fa) ⟨[.ref a],[]⟩) (λ r s'=>r=.ok (.ret (.bool true))/\OldK s₁.heap s'.heap/\s'.os=s₁.os/\AllBare s'.gens) s₁):
  WalkO q loose XP YP l.row.toRowW d [] (λ f vs=>PySem.call f vs):=by
 intro w s₀ s₁ mg mb G Y fa o pm cd doc dV kV ho hd sW hD WD hg args vals as Nv aeJ hrd ZW hlo;obtain rfl:dV=.none:=Dflts.none hD ND;obtain rfl:kV=.none:=Dflts.noKw hD;obtain⟨a,vs,ns,rfl,rfl,I_,hints,hlen⟩:=DH hn Nv ZW;refine enter_call (G3 (call w s₀ s₁ mg mb fa o pm cd doc a vs ns G Y ho (fd_plain hd) sW WD I_ hints hlen hg) λ r s' hq=>?_);obtain⟨rfl,h2,h3,h4⟩:=hq;exact⟨.inl ⟨.bool true,.bool true,[],rfl,λ _=>rfl,.bool true,DQ l _,λ _=>⟨List.Pairwise.nil,λ _ hm=>(nomatch hm)⟩⟩,h2,h3,h4⟩
end Att
namespace L2
open PySem.Spec PyProof.Rows
def rU:∀{vs:List gV} {ns:List Int},IntsAre vs ns->ut (ns.map V.int) vs
 |_,_,.nil=>.nil
 |_,_,.cons n t h=>.cons ⟨t,rfl⟩ (rU h)
def bW(s:Stmt):Arguments:=match s with
 | .FunctionDef _ a _ _ _ _ _ _ _ _=>a
 |_=>{posonlyargs:=[],args:=[],vararg:=none,kwonlyargs:=[],kw_defaults:=[],kwarg:=none,defaults:=[]}
def bw(s:Stmt):List Stmt:=match s with
 | .FunctionDef _ _ b _ _ _ _ _ _ _=>b
 |_=>[]
def aB(s:Stmt):Scope:=match s with
 | .FunctionDef _ _ _ _ _ _ sc _ _ _=>sc
 |_=>{kind:=.function,names:=[],isGenerator:=false,isCoroutine:=false}
abbrev dX:JW:=λ _ _ _ _ _ _=>False
abbrev E0:XK:=λ _ _ _=>False
def OZ:Passes dX X E0:=λ _ _ _ _ _ _ _ h=>h.elim
structure hW(K:K6)(x qual:Str)(st:Stmt)(f:ap)(fd:FuncData):Prop where
 ex:∃(oc:gV)(od:Option ap)(kV doc pm:gV)(an:Option ap)(dj ct:gV)(zN:Array (Option gV)),
  fd=PySem.W.fnOf x qual (bW st) (bw st) (aB st) .none kV doc pm an dj ct/\K.lookup f=some ⟨oc,od,.func fd,zN⟩/\PySem.W.codeIn K dj qual=true
 kp:PySem.W.keepIn K (.ref f)=true
def hW.ok(F:hW K x qual st f fd)(S:iD N ps (aB st))(len:∀vs H Q E,sp vs H Q E->vs.length=ps.length) (eQ:∀(dj:gV)(A:Around)(outer:List Env)(s:am)(H:Hp)(vs:List V)(Q:VK)(E:XK),cw k (A.deeper (envOfC qual (aB st) s.heap.objs.size f dj))->sp vs H Q E->
   ∃t,yJ (rG dX P w K mg base N qual (aB st) f dj A outer s H E).ME (bw st) t/\t {nx:=λ _ H'=>Q .bo H',rt:=Q} (start N vs) H):bB P w K mg base dX (k+1) f fd ps sp:=by
 obtain⟨oc,od,kV,doc,pm,an,dj,ct,zN,rfl,lk,sW⟩:=F.ex;refine Po lk sW S len λ A outer s H vs Q E hr Ck=>?_;obtain⟨t,h,q⟩:=eQ dj A outer s H vs Q E hr Ck;exact⟨t,h.ME,q⟩
def hW.binds(F:hW K x qual st f fd)(h:∀(kV doc pm:gV)(an:Option ap)(dj ct:gV)(us:List gV),us.length=ps.length->bindArgs (PySem.W.fnOf x qual (bW st) (bw st) (aB st) .none kV doc pm an dj ct) ⟨us,[]⟩=pure (ps.zip us)):Binds K fd ps []:=by obtain⟨oc,od,kV,doc,pm,an,dj,ct,zN,rfl,lk,sW⟩:=F.ex;exact .all (h kV doc pm an dj ct)
def Tx{kV doc pm dj ct:gV}(l:K.lookup f=some ⟨oc,od,.func (PySem.W.fnOf x qual (bW st) (bw st) (aB st) .none kV doc pm an dj ct),zN⟩)(c:PySem.W.codeIn K dj qual=true)(k:PySem.W.keepIn K (.ref f)=true):hW K x qual st f (PySem.W.fnOf x qual (bW st) (bw st) (aB st) .none kV doc pm an dj ct):=⟨⟨oc,od,kV,doc,pm,an,dj,ct,zN,rfl,l,c⟩,k⟩
def sn.rX{o:HO}(I:sn X jp σ H s)(hn:H D=none)(new:bR X.prog X.w (u8 H D o) s.heap D o)(hL:D≠X.env.locals)(hs:X.s₀.heap.objs.size<=D)(hc:∀x c,X.env.cells.lookup x=some c->c≠D)(hp:∀p∈X.pn++jp,p.1≠D):sn X jp σ (u8 H D o) s:=by
 have ne:∀{b:ap} {u:HO},H b=some u->b≠D:=λ e=>bL e hn;have nb:∀(b:ap)(ob:Obj),X.s₀.heap.get? b=some ob->b≠D:=λ b ob e=>D6 (p9 (D7 e) hs);refine⟨I.ok,I.os,I.bare,⟨I.base.keep,I.base.slot,λ b ob e n hx=>?_,I.base.there,λ b xs e=>?_,λ b ob u e=>?_,λ b ps e=>?_⟩,I.loc,I.cell,?_,λ x c e=>?_,λ p Ew=>?_,λ b u e=>?_,I.len⟩
 ·rw[aK (nb b ob e)];exact I.base.free b ob e n hx
 ·have q:=I.base.pQ b xs e;rw[aK (ne q)];exact q
 ·have q:=I.base.nu b ob u e;rw[aK (ne q)];exact q
 ·obtain⟨m,q⟩:=I.base.ox b ps e;exact⟨m,by rw[aK (ne q)];exact q⟩
 ·rw[aK (J9 hL)];exact I.free
 ·rw[aK (hc x c e)];exact I.gY x c e
 ·obtain⟨e,n,r⟩:=I.pin p Ew;exact⟨e,by rw[aK (hp p Ew)];exact n,r⟩
 ·by_cases hb:b=D
  ·subst hb;rw[aQ]at e;cases e;exact new
  ·rw[aK hb]at e;exact(I.bu b u e).kr (λ c v _ q=>q) (λ c q=>by rw[aK (ne q)];exact q) λ c xs q=>by rw[aK (ne q)];exact q
def bp(cells:List (Str×ap)):List (Str×NameKind)->List (Str×ap)->List (Str×ap)
 |[],li=>li
 |(n,k)::r,li=>if(k==.free)=true then bp cells r ((n,(cells.lookup n).getD 0)::li)else bp cells r li
def fX:∀(names:List (Str×NameKind))(li:List (Str×ap)),(∀n,(n,NameKind.free)∈names->∃c,cells.lookup n=some c)-> (∀x c,li.lookup x=some c->cells.lookup x=some c)->∀x c,(bp cells names li).lookup x=some c->cells.lookup x=some c
 |[],li,_,h,x,c,e=>h x c e
 |(n,k)::r,li,hc,h,x,c,e=>by
  unfold bp at e;by_cases hk:(k==NameKind.free)=true
  ·rw[K1 hk]at e;refine fX r _ (λ m hm=>hc m (k7 _ hm)) (λ y d q=>?_) x c e;have uT:k=NameKind.free:=by simpa using hk
   obtain⟨c0,e0⟩:=hc n (by rw[uT];exact o7);rw[y3]at q;cases hy:(y==n)with
   |true=>
    rw[hy]at q;have yn:y=n:=by simpa using hy
    subst yn;rw[e0]at q;rw[e0];exact q
   |false=>rw[hy]at q;exact h y d q
  ·rw[K3 hk]at e;exact fX r _ (λ m hm=>hc m (k7 _ hm)) h x c e
def jz:∀(names:List (Str×NameKind))(li:List (Str×ap)),((li.lookup x).isSome=true)->((bp cells names li).lookup x).isSome=true
 |[],li,h=>h
 |(n,k)::r,li,h=>by
  unfold bp;split
  ·refine jz r _ ?_;rw[y3];cases hy:(x==n)with
   |true=>rfl
   |false=>exact h
  ·exact jz r _ h
def gZ:∀(names:List (Str×NameKind))(li:List (Str×ap)),(x,NameKind.free)∈names->((bp cells names li).lookup x).isSome=true
 |[],li,h=>be h (by simp)
 |(n,k)::r,li,h=>by
  unfold bp;rcases C9.mp h with e|h
  ·cases e;rw[K1 (by decide)];refine jz r _ ?_;rw[y3];simp
  ·split
   ·exact gZ r _ h
   ·exact gZ r _ h
def eD(hc:∀n,(n,NameKind.free)∈scope.names->∃c,env.cells.lookup n=some c):closureFor scope env=pure (bp env.cells scope.names []):=by
 unfold closureFor;have all:∀(names:List (Str×NameKind))(li:List (Str×ap)),(∀n,(n,NameKind.free)∈names->∃c,env.cells.lookup n=some c)->
   (forIn names li (λ(x:Str×NameKind) (cs:List (Str×ap))=>(match x with|(name,kind)=>if(kind==.free)=true then(do let c <- cellOf env name;pure (ForInStep.yield ((name,c)::cs)))else pure (ForInStep.yield cs):Sem (ForInStep (List (Str×ap))))))=(pure (bp env.cells names li):Sem (List (Str×ap))):=by
  intro names
  induction names with
  |nil=>intro li _;rfl
  |cons y r ih=>
   intro li hc;obtain⟨n,k⟩:=y;rw[forIn_cons];unfold bp;dsimp only;by_cases hk:(k==NameKind.free)=true
   ·rw[K1 hk,K1 hk];have uT:k=NameKind.free:=by simpa using hk
    obtain⟨c0,e0⟩:=hc n (by rw[uT];exact o7);unfold cellOf;rw[e0];exact ih _ λ m hm=>hc m (k7 _ hm)
   ·rw[K3 hk,K3 hk];exact ih _ λ m hm=>hc m (k7 _ hm)
 have q:=all scope.names [] hc;refine Eq.trans ?_ (J8 (λ m=>m>>=pure) q);rfl
def p_{env:Env}:∀{names:List (Str×NameKind)} {x:Str},names.lookup x=some .free-> (names.map λ(n,k)=>if(k==NameKind.free&&env.scope.kind==.function&&env.kindOf n==some .cell)then(n,NameKind.cell)else(n,k)).lookup x=some .cell\/ (names.map λ(n,k)=>if(k==NameKind.free&&env.scope.kind==.function&&env.kindOf n==some .cell)then(n,NameKind.cell)else(n,k)).lookup x=some .free
 |[],_,h=>by simp at h
 |(n,k)::r,x,h=>by
  have ih:=@p_ env r x;rw[C8];dsimp only;cases hx:x==n with
  |true=>
   rw[y3,hx]at h;have h':k=NameKind.free:=by simpa using h
   subst h';split
   ·left;rw[y3,hx]
   ·right;rw[y3,hx]
  |false=>
   rw[y3,hx]at h;have ih:=ih h;split
   ·rw[y3,hx];exact ih
   ·rw[y3,hx];exact ih
def ve(I:Nat->am->Prop) (turn:∀n s,I n s->wpAny (model prog w) A (pyNext it) (λ r s1=>match r with
   |none=>R (.ok .next) s1
   |some v=>wpAny (model prog w) A (letOwnedTupleGo target it v) (λ _ s2=>wpAny (model prog w) A (assign target env v) (λ _ s3=>
     wpAny (model prog w) A (forIn ifs true λ c r=>if r=true then do let ok <- isTrue c env (eval c env);pure (ForInStep.yield ok)else pure (ForInStep.yield r)) (λ ok s4=>
      if ok=true then wpAny (model prog w) A (eval elt env) (λ x s5=>
       wpAny (model prog w) A (call (.builtin "list.append") [li,x]) (λ _ s6=>∃m,m<n/\I m s6) (λ _ _=>False) s5) (λ _ _=>False) s4
      else ∃m,m<n/\I m s4) (λ _ _=>False) s3) (λ _ _=>False) s2) (λ _ _=>False) s1) (λ _ _=>False) s)
  (n:Nat) (h:I n s):
  codeAny (model prog w) A (.compLoop (.ListComp elt [⟨target,iter,ifs,0⟩] scope pos) 0 it li env) R s:=by
 refine codeAny_loop rfl I (λ n s hI=>?_) n h;show wpAny _ A ((compTurn (.ListComp elt [⟨target,iter,ifs,0⟩] scope pos) 0 it li env).onRaise (λ x=>do noteFrame x env;theTreesLotGoes x)) _ _ s;refine wpAny_noted ?_;rw[compTurn_list];refine wpAny_noRaise (J1 (wpAny_standAt (J1 (J6 (turn n s hI) (λ r s1 h1=>?_) λ _ _ h'=>h'))));cases r with
 |none=>exact J3 h1
 |some v=>
  refine J1 (J6 h1 (λ _ s2 h2=>?_) λ _ _ h'=>h');refine J1 (J6 h2 (λ _ s3 h3=>J1 (J6 h3 (λ ok s4 h4=>?_) λ _ _ h'=>h')) λ _ _ h'=>h');cases ok with
  |false=>exact J3 ⟨rfl,h4⟩
  |true=>exact J1 (J1 (J6 h4 (λ x s5 h5=>J1 (J6 h5 (λ _ s6 h6=>J3 (J3 ⟨rfl,h6⟩)) λ _ _ h'=>h')) λ _ _ h'=>h'))
def bq(X:Cx)(scope:Scope)(cl:List (Str×ap))(cD:List Str)(fr:List Nat)(C:ap)(fp:List ap)(s:am)(H:Hp):Cx:=
 {X with N:=cD++fr.map (λ j=>X.N.getD j ""),s₀:=s,H₀:=H,env:=compEnvC scope cl C X.env,outer:=X.stack,ex:=fp,fn:=λ x=>scope.names.lookup x==some .cell,pn:=[]}
def gB(n:Nat)(fr:List Nat)(σ:St):St:=List.replicate n none++fr.map (λ j=>σ.getD j none)
structure JY(X:Cx)(scope:Scope)(C:ap)(h1:Heap)(cl:List (Str×ap)):Prop where
 look:∀x c,cl.lookup x=some c->X.env.cells.lookup x=some c\/(C<c/\h1.IsCell c none)
 inj:∀x y c,cl.lookup x=some c->cl.lookup y=some c->x=y
 has:∀x,(x,NameKind.free)∈scope.names\/(x,NameKind.cell)∈scope.names->∃c,cl.lookup x=some c
 Tz:∀x c,scope.names.lookup x=some .free->cl.lookup x=some c->X.env.cells.lookup x=some c
 own:∀x c,scope.names.lookup x=some .cell->cl.lookup x=some c->C<c
structure jC(X:Cx)(scope:Scope)(fr:List Nat):Prop where
 kind:scope.kind=.function
 cells:∀y∈scope.names,y.2=.cell->scope.names.lookup y.1=some .cell
 names:∀y∈scope.names,y.2=.local->scope.names.lookup y.1=some .local
 has:∀n,(n,NameKind.free)∈scope.names->X.env.kindOf n=some .cell\/X.env.kindOf n=some .free
 fr:∀j∈fr,j<X.N.length/\scope.names.lookup (X.N.getD j "")=some .free
def lr(n:Nat)(g:TG):Prop:=∀x σ H Q,g x σ H Q->g x σ H λ σ2 H2=>Q σ2 H2/\σ2.length=σ.length/\∀k,n<=k->σ2[k]?=σ[k]?
def uW(h:i<n):lr n (fV i):=λ x σ H Q q=>⟨q,by simp,λ k hk=>by rw[l7 ()]⟩
def pI(n:Nat)(g:C_):Prop:=∀xs σ H Q,g xs σ H Q->g xs σ H λ σ2 H2=>Q σ2 H2/\σ2.length=σ.length/\∀k,n<=k->σ2[k]?=σ[k]?
def Tw:pI n EB:=λ xs σ H Q q=>⟨q.1,q.2,rfl,λ _ _=>rfl⟩
def UJ(X:Cx)(ifs:List Expr)(t:TT):Prop:=
 ∀(jp:List (ap×Obj))(s:am)(σ:St)(H:Hp)(Q:Bool->Hp->Prop),sn X jp σ H s->t σ H Q->
  wpAny (model X.prog X.w) X.A (forIn ifs true λ c r=>if r=true then do let ok <- isTrue c X.env (eval c X.env);pure (ForInStep.yield ok)else pure (ForInStep.yield r)) (TP X jp σ Q) X.xe s
def YY:TT:=λ _ H Q=>Q true H
def L9:UJ X [] YY:=λ _ s σ H Q I h=>wpAny_tests_nil ⟨H,I,h⟩
def L8{c:Expr}{t:TT}(h:PT X c t):UJ X [c] t:=λ jp s σ H Q I q=>wpAny_tests_one (h jp s σ H Q I q)
def sg(wi:TI)(g:TG)(tt:TT)(te:TE)(n:Nat)(fr:List Nat):TE:=λ σ H Q=>wi σ H λ J H1=>∃W:Nat->Nat->List V->Hp->Prop,(∃m,W 0 m [] H1)/\∀i m li H,W i m li H->
 li.length<=sizeLine/\((J.stop i H/\∀p,H p=none->Q (.ref p) (u8 H p (.lst li)))\/
  (J.go i H/\∃N:List V->Hp->Prop,(∀JQ H',N JQ H'->∃m',m'<m/\W (i+1) m' JQ H')/\∀x H',J.Kr i H x H'->g x (gB n fr σ) H' λ σ2 H2=>tt σ2 H2 λ b H3=>if b=true then te σ2 H3 λ y H4=>N (li++[y]) H4 else N li H3))
def iZ{env:Env}:∀{names:List (Str×NameKind)} {x:Str} {k0:NameKind}, (names.map λ(n,k)=>if(k==NameKind.free&&env.scope.kind==.function&&env.kindOf n==some .cell)then(n,NameKind.cell)else(n,k)).lookup x=some k0->(k0=.cell\/k0=.free)->(x,NameKind.free)∈names\/(x,NameKind.cell)∈names
 |[],_,_,h,_=>by simp at h
 |(n,k)::r,x,k0,h,hk=>by
  have ih:=@iZ env r x k0;rw[C8]at h;dsimp only at h;cases hx:x==n with
  |true=>
   have xn:x=n:=by simpa using hx
   subst xn;by_cases WV:(k==NameKind.free&&env.scope.kind==.function&&env.kindOf x==some .cell)=true
   ·have:k=NameKind.free:=by have:=(A0 _ _).mp WV;have:=(A0 _ _).mp this.1;simpa using this.1
    subst this;exact .inl o7
   ·rw[K3 WV,y3,hx]at h;have h':k=k0:=by simpa using h
    subst h';rcases hk with e|e
    ·subst e;exact .inr o7
    ·subst e;exact .inl o7
  |false=>
   have z:(x,NameKind.free)∈r\/(x,NameKind.cell)∈r:=by
    refine ih ?_ hk;split at h
    ·rw[y3,hx]at h;exact h
    ·rw[y3,hx]at h;exact h
   exact z.imp (k7 _) (k7 _)
def jL{n:Str}(h:((n,a)::li).lookup x=some c):(x=n/\c=a)\/(x≠n/\li.lookup x=some c):=by
 rw[y3]at h;cases e:x==n with
 |true=>rw[e]at h;exact .inl ⟨by simpa using e,(B0 h).symm⟩
 |false=>rw[e]at h;exact .inr ⟨by simpa using e,h⟩
set_option tactic.hygienic true in
def vg:∀(names:List (Str×NameKind))(h:Heap)(li:List (Str×ap))(x:Str)(c:ap),(cellsFrom h.objs.size names li).lookup x=some c->li.lookup x=some c\/(h.objs.size<=c/\(pushCells h names).IsCell c none)
 |[],_,_,_,_,e=>.inl e
 |(n,k)::r,h,li,x,c,e=>by
  unfold cellsFrom at e;unfold pushCells;split at e
  ·rename_i hk;rw[K1 hk];have sz:=C0 h {cls:=.type "cell",data:=.cell none};rw[<- sz]at e;rcases vg r _ _ x c e with z|z
   ·rcases jL z with⟨_,q⟩|⟨_,q⟩
    ·subst q;exact .inr ⟨G7 _,_,pushCells_keeps r _ _ _ (n6 _ rfl),rfl⟩
    ·exact .inl q
   ·exact .inr ⟨by have:=z.1;rw[sz]at this;lia,z.2⟩
  ·rename_i hk;rw[K3 hk];exact vg r h li x c e
def Az:∀(names:List (Str×NameKind))(n:Nat)(li:List (Str×ap)),(∀x c,li.lookup x=some c->c<n)->(∀x y c,li.lookup x=some c->li.lookup y=some c->x=y)->∀x y c,(cellsFrom n names li).lookup x=some c->(cellsFrom n names li).lookup y=some c->x=y
 |[],_,_,_,hi=>hi
 |(m,k)::r,n,li,lt,hi=>by
  unfold cellsFrom;split
  ·refine Az r (n+1) _ (λ x c e=>?_) (λ x y c e1 e2=>?_)
   ·rcases jL e with⟨_,q⟩|⟨_,q⟩
    ·rw[q];exact Nat.lt_succ_self n
    ·exact x9 (lt x c q)
   ·rcases jL e1 with⟨a1,q1⟩|⟨a1,q1⟩<;>rcases jL e2 with⟨a2,q2⟩|⟨a2,q2⟩
    ·rw[a1,a2]
    ·exact be (q1▸lt y c q2) (C7 _)
    ·exact be (q2▸lt x c q1) (C7 _)
    ·exact hi x y c q1 q2
  ·exact Az r n li lt hi
def pF:∀(names:List (Str×NameKind))(n:Nat)(li:List (Str×ap)),(∃c,li.lookup x=some c)->∃c,(cellsFrom n names li).lookup x=some c
 |[],_,_,h=>h
 |(m,k)::r,n,li,⟨c,h⟩=>by
  unfold cellsFrom;split
  ·refine pF r _ _ ?_;rw[y3];cases x==m with
   |true=>exact⟨_,rfl⟩
   |false=>exact⟨c,h⟩
  ·exact pF r n li ⟨c,h⟩
def AA:∀(names:List (Str×NameKind))(n:Nat)(li:List (Str×ap)),(x,NameKind.cell)∈names->∃c,(cellsFrom n names li).lookup x=some c
 |[],_,_,h=>be h (by simp)
 |(m,k)::r,n,li,h=>by
  unfold cellsFrom;rcases C9.mp h with e|h
  ·cases e;rw[K1 (by decide)];exact pF r _ _ ⟨n,by rw[y3];simp⟩
  ·split
   ·exact AA r _ _ h
   ·exact AA r _ _ h
set_option tactic.hygienic true in
def AB:∀(names:List (Str×NameKind))(n:Nat)(li:List (Str×ap)),(x,NameKind.cell)∉names->(cellsFrom n names li).lookup x=li.lookup x
 |[],_,_,_=>rfl
 |(m,k)::r,n,li,h=>by
  unfold cellsFrom;split
  ·rename_i hk;rw[AB r _ _ λ z=>h (k7 _ z),y3];cases e:x==m with
   |false=>rfl
   |true=>
    have e1:x=m:=by simpa using e
    have e2:k=.cell:=by simpa using hk
    subst e1 e2;exact be o7 h
  ·exact AB r n li λ z=>h (k7 _ z)
set_option tactic.hygienic true in
def Ay{lo:Nat}:∀(names:List (Str×NameKind))(n:Nat)(li:List (Str×ap)),lo<=n->((x,NameKind.cell)∈names\/∀c,li.lookup x=some c->lo<=c)->∀c,(cellsFrom n names li).lookup x=some c->lo<=c
 |[],_,_,_,h,c,e=>by
  rcases h with h|h
  ·cases h
  ·exact h c e
 |(m,k)::r,n,li,hn,h,c,e=>by
  unfold cellsFrom at e;split at e
  ·refine Ay r (n+1) _ () ?_ c e;rcases h with h|h
   ·rcases C9.mp h with q|q
    ·cases q;exact .inr λ c e=>by
      rcases jL e with⟨_,z⟩|⟨z,_⟩
      ·rw[z];exact hn
      ·exact be rfl z
    ·exact .inl q
   ·exact .inr λ c e=>by
     rcases jL e with⟨_,z⟩|⟨_,z⟩
     ·rw[z];exact hn
     ·exact h c z
  ·rename_i hk;refine Ay r n li hn ?_ c e;rcases h with h|h
   ·rcases C9.mp h with q|q
    ·cases q;exact be rfl hk
    ·exact .inl q
   ·exact .inr h
def Ed{code:gV}{env:Env}{builtins:ap}{Q:Env->am->Prop}(hQ:Q (newEnv scope s.heap.objs.size globals (cellsFrom (s.heap.objs.size+1) scope.names closure) qual func code (some env) builtins) {s with heap:=pushCells (s.heap.push {cls:=.type "dict",data:=.dict #[]}) scope.names}):wpAny M A (newFunctionEnv scope globals closure [] qual func code (some env) builtins) Q E s:=by simp only[newFunctionEnv,Option.isSome_some,K0];refine J1 (wpAny_alloc ?_);refine J1 (wpAny_layCells _ (λ name kind cells=>by cases hkc:kind==NameKind.cell<;>simp[hkc]) _ _ _ _ ?_);rw[show({s with heap:=s.heap.push {cls:=.type "dict",data:=.dict #[]}}:am).heap.objs.size=s.heap.objs.size+1 from C0 ..];exact J1 (J3 (J3 hQ))
def TX{C:ap}(B:jC X scope fr)(L:JY X scope C h1 cl)(I:sn X jp σ H s)(hC:s.heap.objs.size<=C)(f:∀b∈fp,iP X jp H b)(Kg:∀b∈fp,b<s.heap.objs.size): (bq X scope cl cD fr C fp s H).Ok:=by
 refine⟨I.ok.mod,B.kind,I.ok.glob,I.ok.blt,hC,L.inj,λ x hx=>?_,λ x c h e=>?_,I.ok.hd,I.ok.frames,.inl rfl,λ b hb=>⟨D6 (p9 (Kg b hb) hC),λ x c e=>?_⟩,
  I.bs,E6 I.ok.CW I.sz,λ b o e hb=>?_,λ b hb hs=>?_,I.stack,I.tQ⟩
 ·rcases hx with hx|hx
  ·exact L.has x (iZ hx (.inl rfl))
  ·exact L.has x (iZ hx (.inr rfl))
 ·exact E6 hC (G5 (L.own x c (by simpa[bq]using h) e))
 ·rcases L.look x c e with z|z
  ·exact(f b hb).2.2.2.2.1 x c z
  ·exact λ q=>be (p8 hC z.1) (Nat.not_lt.mpr (G5 (q▸Kg b hb)))
 ·rcases(f b hb).2.2.2.1 with z|z
  ·exact I.ok.Ec b o e z
  ·exact be (p9 (D7 e) (E6 I.ok.CW z)) (C7 _)
 ·rcases C9.mp (I.pV b hs)with z|z
  ·exact(f b hb).2.1 z
  ·exact(f b hb).2.2.1 z
def Og{C:ap}{m:Str->Option gV}(B:jC X scope fr)(L:JY X scope C s1.heap cl)(I:sn X jp σ H s)(hC:s.heap.objs.size<=C)(f:∀b∈fp,iP X jp H b)(Kg:∀b∈fp,b<s.heap.objs.size)(ho:s1.os=s.os)(hg:AllBare s1.gens)(hk:∀b o,s.heap.get? b=some o->s1.heap.get? b=some o)(hn:s1.heap.Ns C m):sn (bq X scope cl cD fr C fp s H) [] (gB cD.length fr σ) H s1:=by
 refine⟨TX B L I hC f Kg,ho,hg,Un.kept hk,⟨m,hn,λ i x v e1 e2 e3=>?_⟩,λ x c e=>?_,I.bu.fresh hC,λ x c e=>?_,λ p hp=>be hp (by simp[bq]),I.bu.kept hk,by simp[gB,bq]⟩
 ·-- a free name:aq abo value
  have e1:(cD++fr.map (λ j=>X.N.getD j ""))[i]?=some x:=e1;have hi:cD.length<=i:=by refine y4 λ eB=>?_;unfold gB at e2;rw[c4 (by simpa using eB),i6,K1 eB]at e2;cases e2
  unfold gB at e2;rw[b9 (by simpa using hi),k4,u6]at e2;rw[b9 hi,u6]at e1;cases ej:fr[i-cD.length]? with
  |none=>rw[ej]at e1;cases e1
  |some j=>
   rw[ej]at e1 e2;have Xe:X.N.getD j ""=x:=B0 e1;have e2':σ.getD j none=some v:=B0 e2;obtain⟨hj,hl⟩:=B.fr j (k8 ej);have hN:X.N[j]?=some x:=by rw[c3,g9 hj]at Xe;rw[g9 hj];exact J8 some Xe
   have hs:σ[j]?=some (some v):=by
    have Uu:j < σ.length:=by rw[I.len];exact hj
    rw[c3,g9 Uu]at e2';rw[g9 Uu];exact J8 some e2'
   rw[Xe]at hl;obtain⟨m0,Ja,hl0⟩:=I.loc;have Nz:(x,NameKind.free)∈scope.names:=m8 hl;have kinds:=B.has x Nz;obtain⟨u,ru,lu⟩:=hl0 j x v hN hs (by rcases kinds with z|z;exact .inr (.inl z);exact .inr (.inr z));refine⟨u,ru,.inr ⟨p_ hl,?_⟩⟩;obtain⟨c,hc⟩:=L.has x (.inl Nz);refine⟨c,hc,?_⟩;rcases lu with⟨kl,_⟩|⟨_,c',Je,z⟩
   ·rcases kinds with z|z<;>(rw[z]at kl;cases kl)
   ·have:c=c':=by have:=L.Tz x c hl hc;rw[this]at Je;exact B0 Je
    subst this;obtain⟨o,ho,hd⟩:=z;exact⟨o,hk _ _ ho,hd⟩
 ·rcases L.look x c e with z|z
  ·obtain⟨v,o,mh,hd⟩:=I.cell x c z;exact⟨v,o,hk _ _ mh,hd⟩
  ·exact⟨none,z.2⟩
 ·rcases L.look x c e with z|z
  ·exact I.gY x c z
  ·exact I.bu.fresh (E6 hC (G5 z.1))
def TY{h2:Heap}(B:jC X scope fr)(I:sn X jp σ H s)(hs:s.heap.objs.size<=h2.objs.size):JY X scope h2.objs.size (pushCells (h2.push {cls:=.type "dict",data:=.dict #[]}) scope.names) (cellsFrom (h2.objs.size+1) scope.names (bp X.env.cells scope.names [])):=by
 have look:∀x c,(bp X.env.cells scope.names []).lookup x=some c->X.env.cells.lookup x=some c:=
  fX scope.names [] (λ n hn=>I.ok.has n (B.has n hn)) λ x c e=>by simp at e
 have sz:=C0 h2 {cls:=.type "dict",data:=.dict #[]};refine⟨λ x c e=>?_,Az _ _ _ (λ x c e=>?_) (λ x y c e1 e2=>I.ok.inj x y c (look x c e1) (look y c e2)),λ x h=>?_,λ x c h e=>?_,λ x c h e=>?_⟩
 ·rw[<- sz]at e;rcases vg _ _ _ x c e with z|z
  ·exact .inl (look x c z)
  ·exact .inr ⟨p9 (by rw[sz];exact Nat.lt_succ_self _) z.1,z.2⟩
 ·obtain⟨v,hv⟩:=I.cell x c (look x c e);exact x9 (p9 hv.lt hs)
 ·rcases h with h|h
  ·exact pF _ _ _ (Option.isSome_iff_exists.mp (gZ scope.names [] h))
  ·exact AA _ _ _ h
 ·rw[AB _ _ _ λ z=>by have:=B.cells _ z rfl;rw[h]at this;cases this]at e;exact look x c e
 ·exact Ay (lo:=h2.objs.size+1) _ _ _ (G7 _) (.inl (m8 h)) c e
section
variable {wi:TI}{g:TG}{tt:TT}{te:TE}
def toF{t:Sem α}{Q Q':α->am->Prop}(hE:∀e s,E e s->False)(h:wpAny M A t Q E s)(hQ:∀a s,Q a s->Q' a s):wpAny M A t Q' (λ _ _=>False) s:=
 J6 h hQ hE
def tu{s:am}{R:gV->ap->Result->am->Prop}{E:gV->am->Prop}{J:It}{fp:List ap}{it:ap}{tn:Nat->Heap->Prop}{Qe:List V->Hp->Prop}(B:jC X scope fr)(hc:X.calm=true)(hE:∀e s,X.xe e s->False)(hg:∀cl C fp s H,PG (bq X scope cl cD fr C fp s H) tg g)(gk:lr cD.length g)(ht:∀cl C fp s H,UJ (bq X scope cl cD fr C fp s H) ifs tt)(he:∀cl C fp s H,PE (bq X scope cl cD fr C fp s H) elt te)(I:sn X jp σ H s)(T:Turn X.prog X.w X.K tg J fp it tn)(st:tn 0 s.heap)(f:∀b∈fp,iP X jp H b)(W:Nat->Nat->List V->Hp->Prop)(m0:Nat)(w0:W 0 m0 [] H) (turn:∀i m li H,W i m li H->li.length<=sizeLine/\((J.stop i H/\Qe li H)\/(J.go i H/\∃N:List V->Hp->Prop,(∀JQ H',N JQ H'->∃m',m'<m/\W (i+1) m' JQ H')/\∀x H',J.Kr i H x H'->g x (gB cD.length fr σ) H' λ σ2 H2=>tt σ2 H2 λ b H3=>
   if b=true then te σ2 H3 λ y H4=>N (li++[y]) H4 else N li H3)))
  (fin:∀(D C:ap)(s1:am)(H1:Hp)(li:List V)(aq:List gV),s.heap.objs.size<=D->s.heap.objs.size<=C->D≠C->sn X jp σ H1 s1->H1 C=none->H1 D=none->(∃m,s1.heap.Ns C m)->
   s1.heap.PlainList D aq.toArray->ut li aq->li.length<=sizeLine->Qe li H1->R (.ref D) C (.ok .next) s1):
  wpAny (model X.prog X.w) X.A (newList []) (λ li s3=>wpAny (model X.prog X.w) X.A (newFunctionEnv scope X.env.globals (bp X.env.cells scope.names []) [] X.env.qual none .none (some X.env)) (λ Xu s4=>
   codeAny (model X.prog X.w) X.A (.compStart (.ListComp elt [⟨tg,iter,ifs,0⟩] scope pos) 0 (.ref it) li {Xu with scope:=relabel scope X.env}) (R li Xu.locals) s4) E s3) E s:=by
 have Kg:∀b∈fp,b<s.heap.objs.size:=λ b hb=>by obtain⟨o,e,_⟩:=T.obj 0 _ st b hb;exact D7 e
 refine w5 (Ed ?_);dsimp only;generalize hH2:s.heap.push {cls:=.type "list",dict:=none,data:=.seq ([]:List gV).toArray}=H2;have hC:H2.objs.size=s.heap.objs.size+1:=by rw[<- hH2,C0]
 have L0:=TY (h2:=H2) B I ();have WC:(pushCells (H2.push {cls:=.type "dict",data:=.dict #[]}) scope.names).Ns H2.objs.size (λ _=>none):=(Heap.Ns.new H2 (.type "dict")).keeps (pushCells_keeps _ _);have ZK:∀b o,H2.get? b=some o->(pushCells (H2.push {cls:=.type "dict",data:=.dict #[]}) scope.names).get? b=some o:=λ b o e=>pushCells_keeps _ _ b o (j5 _ e);generalize pushCells (H2.push {cls:=.type "dict",data:=.dict #[]}) scope.names=h1 at L0 WC ZK ⊢;have Tu:s.heap.objs.size≠H2.objs.size:=()
 have NH:s.heap.objs.size<=H2.objs.size:=()
 have below:∀b,b<s.heap.objs.size->b≠H2.objs.size/\b≠s.heap.objs.size:=λ b hb=>⟨(),()⟩;have old:∀b o,s.heap.get? b=some o->h1.get? b=some o:=λ b o e=>ZK b o (hH2▸j5 _ e);have Ak:h1.PlainList s.heap.objs.size #[]:=⟨_,ZK _ _ (hH2▸n6 _ rfl)⟩;have st1:tn 0 h1:=T.keep _ _ _ st λ b _ o e=>old b o e;have ZG:∀x c,(cellsFrom (H2.objs.size+1) scope.names (bp X.env.cells scope.names [])).lookup x=some c->X.env.cells.lookup x=some c\/H2.objs.size<c:=λ x c e=>(L0.look x c e).imp id λ z=>z.1;generalize cellsFrom (H2.objs.size+1) scope.names (bp X.env.cells scope.names [])=cl at L0 ZG ⊢;generalize hCd:H2.objs.size=C at*;generalize Xa:s.heap.objs.size=D at*;have hDs:∀b,b<D->b<s.heap.objs.size:=λ b hb=>by rw[Xa];exact hb
 have fD:=I.mr (b:=D) (H':=H) (G0 Xa) (I.bu.fresh (G0 Xa));have OA:∀b,b≠X.env.locals->b∉X.fs->b∉vO X.stack:=λ b h1 h2 hb=>(C9.mp (I.pV b hb)).elim h1 h2;have Fi:∀b∈fp,b∉vO X.stack:=λ b hb=>OA b (f b hb).2.1 (f b hb).2.2.1;have clt:∀x c,cl.lookup x=some c->c≠D:=λ x c e=>(ZG x c e).elim (fD.2.2.2.2.1 x c) λ z q=>be (p8 NH (q▸z)) (C7 _);have loop:∀s3:am,s3={s with heap:=h1}->
   codeAny (model X.prog X.w) X.A (.compLoop (.ListComp elt [⟨tg,iter,ifs,0⟩] scope pos) 0 (.ref it) (.ref D) (compEnvC scope cl C X.env)) (R (.ref D) C) s3:=by
  rintro s3 rfl;have IY0:sn (bq X scope cl cD fr C fp s H) [] (gB cD.length fr σ) H {s with heap:=h1}:=
   Og B L0 I (by rw[Xa];exact NH) f (λ b hb=>hDs b (Kg b hb)) rfl I.bare old WC
  refine ve (λ n s'=>∃(i:Nat)(li:List V)(aq:List gV)(H':Hp),sn (bq X scope cl cD fr C fp s H) [] (gB cD.length fr σ) H' s'/\tn i s'.heap/\(∀b∈fp,H' b=none)/\H' D=none/\
   s'.heap.PlainList D aq.toArray/\ut li aq/\W i n li H') ?_ m0 ⟨0,[],[],H,IY0,st1,λ b hb=>(f b hb).1,fD.1,Ak,.nil,w0⟩
  rintro n s3 ⟨i,li,aq,H3,I3,U9,Xb,hD3,⟨nl,I_⟩,X5,w3⟩;obtain⟨hz,h⟩:=turn i n li H3 w3;have I3':sn (bq X scope cl cD fr C fp s H) [(D,{cls:=.type "list",data:=.seq aq.toArray nl})] (gB cD.length fr σ) H3 s3:=I3.fb λ p hp=>by
   have e:p=(D,{cls:=.type "list",data:=.seq aq.toArray nl}):=by simpa using hp
   subst e;exact⟨I_,hD3,Tu,OA D fD.2.1 fD.2.2.1,λ v e=>by cases e⟩
  have fY:∀{H':Hp},(∀b∈fp,H' b=none)->∀b∈fp,iP (bq X scope cl cD fr C fp s H) [(D,{cls:=.type "list",data:=.seq aq.toArray nl})] H' b:=λ hn b hb=>
   ⟨hn b hb,(below b (Kg b hb)).1,Fi b hb,.inl hb,λ x c e=>(ZG x c e).elim ((f b hb).2.2.2.2.1 x c) λ z q=>be (p9 (Kg b hb) (E6 NH (G5 (q▸z)))) (C7 _),λ p hp=>by
    have e:p=(D,{cls:=.type "list",data:=.seq aq.toArray nl}):=by simpa[bq]using hp
    subst e;exact J9 (below b (Kg b hb)).2⟩
  rcases h with⟨stop,q⟩|⟨go,N,hN,step⟩
  ·refine cZ (T.done (bq X scope cl cD fr C fp s H) rfl rfl rfl hc i _ s3 _ H3 _ I3' (fY Xb) U9 stop) λ r s4 ⟨hr,I4⟩=>?_;subst hr;have pD:=I4.pin (D,{cls:=.type "list",data:=.seq aq.toArray nl}) (by simp);have IX:sn X jp σ H3 s4:=I.Xw (ch:=fp) I4.os I4.base I4.bu I4.bare λ b hb=>⟨(f b hb).2.2.2.1,(f b hb).2.1,(f b hb).2.2.2.2.1,(f b hb).2.2.2.2.2⟩;obtain⟨m4,hn4,_⟩:=I4.loc;exact fin D C s4 H3 li aq (G7 _) NH Tu IX I4.free pD.2.1 ⟨m4,hn4⟩ ⟨nl,pD.1⟩ X5 hz q
  ·refine cZ (T.item (bq X scope cl cD fr C fp s H) rfl rfl rfl hc i _ s3 _ H3 _ I3' (fY Xb) U9 go) λ r s4 ⟨u,hr,h4⟩=>?_;subst hr;refine cZ h4 λ _ s5 ⟨x,H5,I5,r5,y5,KR,fr5⟩=>?_;have I5':=I5.pinned (fY fr5) (T.obj _ _ KR);refine toF hE (hg _ _ _ _ _ _ s5 _ H5 x u _ I5' r5 (gk x _ H5 _ (step x H5 y5))) λ _ s6 ⟨σ6,H6,I6,q6,ZI,k6⟩=>?_;refine toF hE (ht _ _ _ _ _ _ s6 σ6 H6 _ I6 q6) λ ok s7 ⟨H7,I7,q7⟩=>?_;have wk:∀{H':Hp} {s':am} {pl:List (ap×Obj)},sn (bq X scope cl cD fr C fp s H) pl σ6 H' s'->sn (bq X scope cl cD fr C fp s H) pl (gB cD.length fr σ) H' s':=λ J=>
    J.weak ZI.symm λ k v e=>by
     by_cases hk:cD.length<=k
     ·rw[k6 k hk];exact e
     ·unfold gB at e;rw[c4 (by simpa using hk),i6,K1 ()]at e;cases e
   cases ok with
   |false=>simp only[p5,J7]at q7 ⊢;obtain⟨m',hm,w7⟩:=hN _ _ q7;have pD:=I7.pin (D,{cls:=.type "list",data:=.seq aq.toArray nl}) (by simp);refine⟨m',hm,i+1,li,aq,H7,wk (I7.fb (pins':=[]) λ p hp=>be hp (by simp)),T.keep _ _ _ KR λ b hb o e=>(I7.pin (b,o) (j8 _ (j8 _ (eA hb e)))).1,λ b hb=>?_,pD.2.1,⟨nl,pD.1⟩,X5,w7⟩;obtain⟨o,e,d⟩:=T.obj _ _ KR b hb;exact(I7.pin (b,o) (j8 _ (j8 _ (eA hb e)))).2.1
   |true=>
    simp only[K0]at q7 ⊢;refine toF hE (he _ _ _ _ _ _ s7 σ6 H7 _ I7 q7) λ uy s8 ⟨y,H8,I8,r8,n8⟩=>?_;obtain⟨m',hm,w8⟩:=hN _ _ n8;have pD:=I8.pin (D,{cls:=.type "list",data:=.seq aq.toArray nl}) (by simp);have hits:aq.toArray.size<=sizeLine:=by have:=X5.length;simp only[x6];lia
    refine wpAny_list_append_plain (hsz:=hits) (show s8.heap.PlainList D aq.toArray from⟨nl,pD.1⟩) λ h9 Yk hs9=>?_;have I9:sn (bq X scope cl cD fr C fp s H) [] σ6 H8 {s8 with heap:=h9,toks:=s8.toks}:=
     (I8.fb (pins':=[]) λ p hp=>be hp (by simp)).turned (it:=D) (λ b o hb e=>hs9.extBut b o hb e) pD.2.1 Tu (.inr (G0 Xa)) clt λ p hp=>be hp (by simp[bq])
    refine⟨m',hm,i+1,li++[y],aq++[uy],H8,wk I9,T.keep _ _ _ KR λ b hb o e=>hs9.extBut b o (below b (Kg b hb)).2 (I8.pin (b,o) (j8 _ (j8 _ (eA hb e)))).1,λ b hb=>?_,pD.2.1,?_,X5.append (.cons r8 .nil),w8⟩
    ·obtain⟨o,e,d⟩:=T.obj _ _ KR b hb;exact(I8.pin (b,o) (j8 _ (j8 _ (eA hb e)))).2.1
    ·have e:(aq++[uy]).toArray=aq.toArray.push uy:=by simp
     rw[e];exact Yk
 exact codeAny_compStart_list (loop _ rfl) (T.self _ 0 _ _ _ st1 (loop _ rfl))
def oV(B:jC X scope fr)(hc:X.calm=true)(hE:∀e s,X.xe e s->False)(hi:PI X tg iter wi)(hg:∀cl C fp s H,PG (bq X scope cl cD fr C fp s H) tg g)(gk:lr cD.length g)(ht:∀cl C fp s H,UJ (bq X scope cl cD fr C fp s H) ifs tt)(he:∀cl C fp s H,PE (bq X scope cl cD fr C fp s H) elt te)(hs:Oq X iter:=by intro _;rfl):PE X (.ListComp elt [⟨tg,iter,ifs,0⟩] scope pos) (sg wi g tt te cD.length fr):=by intro jp s σ H Q I h;rw[eval_ListComp];have Cp:=eD (scope:=scope) (env:=X.env) λ n hn=>I.ok.has n (B.has n hn);refine wpAny_comprehension_free (use:=none) rfl hs Cp B.kind B.names (J6 (hi jp s σ H _ I h) (λ xv s1 h1=>J6 h1 (λ X_ s2 h2=>?_) λ _ _ e=>e) λ _ _ e=>e);obtain⟨it,fp,tn,J,H2,rfl,I2,T,FR,f2,W,⟨m0,w0⟩,turn⟩:=h2;refine tu (R:=λ li C=>compPost (model X.prog X.w) X.A X.xe none (EP X jp σ Q) li C) (Qe:=λ li H=>∀p,H p=none->Q (.ref p) (u8 H p (.lst li))) B hc hE hg gk ht he I2 T FR f2 W m0 w0 turn ?_;intro D C s1 H1 li aq hD hC Tu I1 nC nD ⟨m,hn⟩ hl rv hz q;refine⟨m,hn,λ h' jV=>?_⟩;have fC:=I2.mr (b:=C) (H':=H1) hC nC;have fD:=I2.mr (b:=D) (H':=H1) hD nD;have I3:sn X jp σ H1 {s1 with heap:=h',toks:=s1.toks}:=I1.turned (it:=C) (λ b o hb e=>jV.extBut b o hb e) nC fC.2.1 fC.2.2.2.1 fC.2.2.2.2.1 fC.2.2.2.2.2;obtain⟨k,e⟩:=hl.extBut jV.extBut Tu;exact⟨.ref D,u8 H1 D (.lst li),I3.rX nD ⟨hz,aq,k,rv,e⟩ fD.2.1 (E6 I2.sz hD) fD.2.2.2.2.1 fD.2.2.2.2.2,rfl,q D nD⟩
def zI{y:Str}{FV:Pos}(hN:X.N.Nodup)(hiy:X.N[i]?=some y)(hy:Loc X.env.scope y)(B:jC X scope fr)(hc:X.calm=true)(hE:∀e s,X.xe e s->False)(hi:PI X tg iter wi)(hg:∀cl C fp s H,PG (bq X scope cl cD fr C fp s H) tg g)(gk:lr cD.length g)(ht:∀cl C fp s H,UJ (bq X scope cl cD fr C fp s H) ifs tt)(he:∀cl C fp s H,PE (bq X scope cl cD fr C fp s H) elt te)(Z9:swapsWith (.ListComp elt [⟨tg,iter,ifs,0⟩] scope pos) (some (.Name y py)) FV.line X.env=pure true:=by rfl)(hf:Kp X y:=by first|exact .inl rfl|exact .inr rfl|assumption)(hs:Oq X iter:=by intro _;rfl):PS X (.Assign [.Name y py] (.ListComp elt [⟨tg,iter,ifs,0⟩] scope pos) FV) (KO (sg wi g tt te cD.length fr) (fV i)):=by
 intro jp s σ H D0 I h;rw[exec_Assign_Name_used _ _ _ _ Z9];have Cp:=eD (scope:=scope) (env:=X.env) λ n hn=>I.ok.has n (B.has n hn);refine J1 (wpAny_standAt (J1 ?_));show wpAny _ X.A (do let _ <- comprehension (.ListComp elt [⟨tg,iter,ifs,0⟩] scope pos) scope X.env _ (newList []) false (eval iter X.env) (some (assign (.Name y py) X.env))) _ _ s;refine J1 (J6 (wpAny_comprehension_free (use:=some (assign (.Name y py) X.env)) (Q:=λ _ s'=>SP X jp D0 .next s') rfl hs Cp B.kind B.names
  (J6 (hi jp s σ H _ I h) (λ xv s1 h1=>J6 h1 (λ X_ s2 h2=>?_) λ _ _ e=>e) λ _ _ e=>e)) (λ _ s' hq=>J3 (J3 hq)) λ _ _ e=>e)
 obtain⟨it,fp,tn,J,H2,rfl,I2,T,FR,f2,W,⟨m0,w0⟩,turn⟩:=h2;refine tu (R:=λ li C=>compPost (model X.prog X.w) X.A X.xe (some (assign (.Name y py) X.env)) (λ _ s'=>SP X jp D0 .next s') li C) (Qe:=λ li H=>∀p,H p=none->fV i (.ref p) σ (u8 H p (.lst li)) D0.nx) B hc hE hg gk ht he I2 T FR f2 W m0 w0 turn ?_;intro D C s1 H1 li aq hD hC Tu I1 nC nD ⟨m,hn⟩ hl rv hz q;have fC:=I2.mr (b:=C) (H':=H1) hC nC;have fD:=I2.mr (b:=D) (H':=H1) hD nD;obtain⟨k,e⟩:=hl;have I3:sn X jp σ (u8 H1 D (.lst li)) s1:=I1.rX nD ⟨hz,aq,k,rv,e⟩ fD.2.1 (E6 I2.sz hD) fD.2.2.2.2.1 fD.2.2.2.2.2;show wpAny _ X.A (assign (.Name y py) X.env (.ref D)) _ _ s1;refine wpAny_assign_Name (sk I3 hN hiy hy (show sK (.ref D) (.ref D)from rfl) (λ s2 J2 ⟨a,Nu,ha⟩=>?_) hf);have aC:C≠a:=by
  rcases ha with z|z
  ·rw[z];exact fC.2.1
  ·exact J9 (fC.2.2.2.2.1 _ _ z)
 refine⟨m,hn.sameBut Nu aC,λ h' jV=>?_⟩;have nC':(u8 H1 D (.lst li)) C=none:=by rw[aK (J9 Tu)];exact nC
 have I4:sn X jp (σ.set i (some (.ref D))) (u8 H1 D (.lst li)) {s2 with heap:=h',toks:=s2.toks}:=J2.turned (it:=C) (λ b o hb e=>jV.extBut b o hb e) nC' fC.2.1 fC.2.2.2.1 fC.2.2.2.2.1 fC.2.2.2.2.2;exact⟨_,_,I4,q D nD⟩
end
def rH(x:Str)(lo hi:Option Int):Str:=⟨((x.cps.toList.drop (HT.cx x.length 0 lo)).take (HT.cx x.length x.length hi-HT.cx x.length 0 lo)).toArray⟩
def N_(x:Str)(lo hi:Option Int):(rH x lo hi).length<=x.length:=by show((x.cps.toList.drop (HT.cx x.length 0 lo)).take (HT.cx x.length x.length hi-HT.cx x.length 0 lo)).toArray.size<=x.cps.size;rw[x6,A1,length_drop,n5];lia
def FQ(lo hi:Option Int)(n:Nat):Builtin.Str.strSliceIndices lo hi 1 n=sliceRange ((HT.cx n 0 lo:Nat):Int) ((HT.cx n n hi:Nat):Int) 1:=by obtain⟨h1,h2,h3⟩:=lF lo hi n;rw[<- h1,<- h2];rfl
set_option tactic.hygienic true in
def DG(x:Str)(lo hi:Option Int):Txt.slice x lo hi=rH x lo hi:=by
 have e:((Builtin.Str.strSliceIndices lo hi 1 x.length).filterMap (x.cps[·]?)).toArray=(rH x lo hi).cps:=by rw[FQ,sliceRange_one,pick_run];rfl
 unfold Txt.slice;split
 ·rename_i h;have hl:(Builtin.Str.strSliceIndices lo hi 1 x.length).length=x.length:=by simpa using h
  rw[FQ,sliceRange_one,B3,x4]at hl;have b1:=HT.zw x.length 0 (G9 _) lo;have b2:=HT.zw x.length x.length (G7 _) hi;have hlen:x.cps.toList.length=x.length:=by simp[Str.length]
  unfold rH;by_cases h0:x.length=0
  ·have:x.cps.toList=[]:=i8.mp ();rw[this];cases x with
   |mk c=>simp at this;subst this;simp
  ·have ea:HT.cx x.length 0 lo=0:=()
   have eb:HT.cx x.length x.length hi=x.length:=()
   rw[ea,eb,drop_zero,Nat.sub_zero,i9 ()]
 ·exact J8 Str.mk e
def Zj:V->Option Int->Option Int->Hp->VK->Prop:=λ x lo hi H Q=>∃z,x=.str z/\z.length<=sizeLine/\Q (.str (rH z lo hi)) H
def Ad{h:Heap}{vu:gV}{lo hi:Option Int}(hs:h.IsSliceOf sl vl vu .none)(pl:IsPart vl lo)(pu:IsPart vu hi):∃l u:Option (Int×Tok),h.IsSlice sl l u none/\l.map (·.1)=lo/\u.map (·.1)=hi:=by
 cases pl with
 |none=>
  cases pu with
  |none=>exact⟨none,none,hs,rfl,rfl⟩
  |int i t=>exact⟨none,some (i,t),hs,rfl,rfl⟩
 |int i t=>
  cases pu with
  |none=>exact⟨some (i,t),none,hs,rfl,rfl⟩
  |int j u=>exact⟨some (i,t),some (j,u),hs,rfl,rfl⟩
def Qt:Dc X Zj:=by intro jp s σ H x v vl vu lo hi sl Q I rx hs pl pu h;obtain⟨z,rfl,hz,q⟩:=h;obtain⟨t,rfl⟩:=rx;obtain⟨l,u,Nt,rfl,rfl⟩:=Ad hs pl pu;refine⟨"str",_,PySem.F.slot_str_getitem.lookup,typeIs_str _ _ _,wpAny_getItem_str_slice (l:=l) (u:=u) (st:=none) Nt rfl ?_⟩;rw[<- DG]at q;exact post_val_or_str ⟨E6 (Txt.slice_le z _ _) hz,λ t' k=>⟨.str (Txt.slice z (l.map (·.1)) (u.map (·.1))),H,I.tok k,⟨_,rfl⟩,q⟩⟩
def zm{ys:List Str}:∀{us:List gV},ut (ys.map V.str) us->StrsAre us ys:=by
 induction ys with
 |nil=>intro us r;rw[G1]at r;cases r;exact .nil
 |cons n ns ih=>
  intro us r;rw[C8]at r;cases r with
  |cons r1 r2=>obtain⟨t,e⟩:=r1;subst e;exact .cons n t (ih r2)
def rJoin(K:K6):V->List V->Hp->VK->Prop:=λ x vs H Q=>∃(z:Str)(p:ap)(ys:List Str),x=.str z/\vs=[.ref p]/\eO K H p (ys.map V.str)/\(ys.map (·.length)).sum+ys.length*z.length<=16777216/\Q (.str (Txt.join z ys)) H
def MM:UK X "str.join" (rJoin X.K):=by intro jp s σ H x xs v us Q I rx r h;obtain⟨z,p,ys,rfl,rfl,hq,hz,q⟩:=h;obtain⟨t,rfl⟩:=rx;obtain⟨u,rfl,r1⟩:=ut.one r;cases r1;obtain⟨aq,rv,pl,_⟩:=I.list hq;exact join_list pl.isList (by simpa using zm rv) hz λ t' k=>⟨.str (Txt.join z ys),H,I.tok k,⟨_,rfl⟩,q⟩
def Vy:R2:=λ x y H Q=>∃z n,x=.str z/\y=.int n/\MulOk z n/\Q (.str (Txt.mul z n)) H
def zO:gM X (binaryOp .Mult) Vy:=by intro jp s σ H x y v u Q I rx ry h;obtain⟨z,n,rfl,rfl,bu,q⟩:=h;obtain⟨t,rfl⟩:=rx;obtain⟨t',rfl⟩:=ry;exact SB.mul bu λ t' k=>⟨.str (Txt.mul z n),H,I.tok k,⟨_,rfl⟩,q⟩
def UM(x:Str):It:=⟨λ i _=>i<x.cps.size,λ i H v H'=>H'=H/\∃c,x.cps[i]?=some c/\v=.str ⟨#[c]⟩,λ i _=>i=x.cps.size⟩
def vW(it:ap)(x:Str)(t:Tok)(ty:String)(Eu:["enumerate","zip","dict_itemiterator","dict_reverseitemiterator","odict_iterator","itertools.zip_longest","itertools.pairwise"].contains ty=false)(W:∀A':Around,A'.handled=none->Walks P w A' it [it] [it] x.cps.size (SignAt x) (λ i h=>h.IsStrIter it ty x t i))(self:∀(A:Around)(i:Nat)(s:am)(Q:gV->am->Prop)(E:gV->am->Prop),s.heap.IsStrIter it ty x t i->Q (.ref it) s->wpAny (model P w) A (pyIter (.ref it)) Q E s):Turn P w K tg (UM x) [it] it (λ i h=>h.IsStrIter it ty x t i) where
 mem:=by simp
 obj:=λ i h st b hb=>by
  have e:b=it:=by simpa using hb
  subst e;obtain⟨o,e,c,d⟩:=st;exact⟨o,e,λ v z=>by rw[d]at z;cases z⟩
 keep:=λ i h h' st k=>by obtain⟨o,e,c,d⟩:=st;exact⟨o,k it (by simp) o e,c,d⟩
 item:=by intro X hP hw hK hc i jp s σ H E I hf st hg;subst hP hw hK;obtain⟨f0,f1,f2,f3,f4,f5⟩:=hf it (by simp);refine(W X.A (I.ok.hd hc)).item i s _ _ hg st λ v h' tk hv yP kk=>?_;obtain⟨c,u,hx,rfl⟩:=hv;have I1:sn X jp σ H {s with heap:=h',toks:=tk}:=I.turned (λ b o hb e=>kk b o (by simpa using hb) e) f0 f1 f3 f4 f5;obtain⟨o,e,cc,d⟩:=id yP;exact⟨_,rfl,Cu (s:={s with heap:=h',toks:=tk}) e cc d Eu ⟨.str ⟨#[c]⟩,H,I1,⟨u,rfl⟩,⟨rfl,c,hx,rfl⟩,yP,λ b hb=>(hf b hb).1⟩⟩
 done:=by intro X hP hw hK hc i jp s σ H E I hf st hg;subst hP hw hK;obtain⟨f0,f1,f2,f3,f4,f5⟩:=hf it (by simp);have hg:i=x.cps.size:=hg;subst hg;exact(W X.A (I.ok.hd hc)).done s _ _ st λ h' tk kk=>⟨rfl,I.turned (λ b o hb e=>kk b o (by simpa using hb) e) f0 f1 f3 f4 f5⟩
 self:=self
def AL.imp(h:AL X r)(k:∀x y H Q,r' x y H Q->r x y H Q):AL X r':=λ value slice jp s σ H x y v u Q I rx ry q=>h value slice jp s σ H x y v u Q I rx ry (k x y H Q q)
def Dc.imp(h:Dc X r)(k:∀x lo hi H Q,r' x lo hi H Q->r x lo hi H Q):Dc X r':=
 λ jp s σ H x v vl vu lo hi sl Q I rx hs pl pu q=>h jp s σ H x v vl vu lo hi sl Q I rx hs pl pu (k x lo hi H Q q)
def aIx(K:K6):R2:=λ x y H Q=>match x,y with
 | .ref p,.int i=>∃xs v,(eO K H p xs\/hG K H p xs)/\gN xs i=some v/\Q v H
 | .str z,.int i=>z.length<=sizeLine/\∃c,gN z.cps.toList i=some c/\Q (.str ⟨#[c]⟩) H
 |_,_=>False
def aL:AL X (aIx X.K):=SN.imp λ x y H Q q=>by
 cases x<;>cases y<;>first
  |exact False.elim q
  |(obtain⟨xs,v,h|h,e,q⟩:=q
    ·exact .inl ⟨_,xs,_,v,rfl,rfl,h,e,q⟩
    ·exact .inr (.inl ⟨_,xs,_,v,rfl,rfl,h,e,q⟩))
  |(obtain⟨hz,c,e,q⟩:=q
    exact .inr (.inr ⟨_,_,c,rfl,rfl,hz,e,q⟩))
def aSl(K:K6):V->Option Int->Option Int->Hp->VK->Prop:=λ x lo hi H Q=>match x with
 | .str z=>z.length<=sizeLine/\Q (.str (rH z lo hi)) H
 | .ref a=>Vw K (.ref a) lo hi H Q\/Vv K (.ref a) lo hi H Q
 |_=>False
def gF:Dc X (aSl X.K):=(Qt.or (KY.or Qs)).imp λ x lo hi H Q q=>by cases x<;>first|exact False.elim q|exact .inl ⟨_,rfl,q⟩|exact .inr q
structure gC(P:Program)(w:World)(K:K6)(mg:Str->Option gV)(base:Heap)(k:Nat)(x:Str)(ps:List Str)(sp:Sp):Prop where
 ex:∃(f:ap)(fd:FuncData),bB P w K mg base dX k f fd ps sp/\mg x=some (.ref f)/\PySem.W.keepIn K (.ref f)=true/\Binds K fd ps []
def gC.of(F:hW K x qual st f fd)(G:bB P w K mg base dX k f fd ps sp)(hm:mg x=some (.ref f))(b:Binds K fd ps []):gC P w K mg base k x ps sp:=⟨f,fd,G,hm,F.kp,b⟩
def tD(sp:Sp)(t:TA):TE:=λ σ H Q=>t σ H λ vs H1=>sp vs H1 Q E0
section
variable {p:Pos}
def Ru(d:gC X.prog X.w X.K X.mg X.base k x ps sp)(hr:cw k X.A)(hg:Gl X x)(ha:PA X (e::es) t)(oC:rj x:=by decide)(he:oq X e es:=by rfl)(gb:vR X pos es:=by rfl):PE X (.Call (.Name x p) (e::es) [] pos) (tD sp t):=by
 obtain⟨f,fd,G,hm,kp,b⟩:=d.ex;intro jp s σ H Q I h;have h':Oz sp [] E0 t σ H Q:=by
  show t σ H λ vs H1=>sp (vs++[]) H1 Q E0;have e:(λ(vs:List V) (H1:Hp)=>sp (vs++[]) H1 Q E0)=λ vs H1=>sp vs H1 Q E0:=by funext vs H1;rw[A5]
  rw[e];exact h
 exact BF (E:=E0) G hr hg hm kp b .nil OZ ha oC he gb jp s σ H Q I h'
end
def yA(X:Cx)(scope:Scope)(fr:List Nat):Bool:=
 (scope.kind==.function)&&(scope.names.all λ y=>(y.2 != .cell||scope.names.lookup y.1==some .cell)&&(y.2 != .local||scope.names.lookup y.1==some .local)&&(y.2 != .free||X.env.kindOf y.1==some .cell||X.env.kindOf y.1==some .free))&&
 (fr.all λ j=>decide (j<X.N.length)&&scope.names.lookup (X.N.getD j "")==some .free)
def JM(h:yA X scope fr=true):jC X scope fr:=by
 unfold yA at h;rw[A0,A0]at h;obtain⟨⟨h1,h2⟩,h3⟩:=h;rw[A3]at h2 h3;refine⟨by simpa using h1,λ y hy hl=>?_,λ y hy hl=>?_,λ n hn=>?_,λ j hj=>?_⟩
 ·have:=h2 y hy;simp only[A0]at this;have:=this.1.1;rw[hl]at this;simpa using this
 ·have:=h2 y hy;simp only[A0]at this;have:=this.1.2;rw[hl]at this;simpa using this
 ·have:=h2 _ hn;simp only[A0]at this;have:=this.2;simpa using this
 ·have:=h3 j hj;rw[A0]at this;exact⟨by simpa using this.1,by simpa using this.2⟩
def ZP(K:K6)(tl:TE):TI:=λ σ H R=>tl σ H λ x H1=>match x with
 | .str z=>R (UM z) H1
 | .ref a=>(∃xs,eO K H1 a xs/\R (YK K a) H1)\/(∃xs,hG K H1 a xs/\R (Itt K a) H1)
 |_=>False
def Rl{l:Expr}(hl:PE X l tl):PI X tg l (ZP X.K tl):=by
 intro jp s σ H R I h;have uS:PE X l (λ σ' H' Q=>Q=Q/\tl σ' H' Q):=λ jp s σ H Q I q=>hl jp s σ H Q I q.2;refine cZ (hl jp s σ H _ I h) λ v s1 ⟨x,H1,I1,r1,q1⟩=>?_;have fp:∀b∈[s1.heap.objs.size],iP X jp H1 b:=λ b hb=>by
  have e:b=s1.heap.objs.size:=by simpa using hb
  subst e;exact I1.mr (G7 _) (I1.bu.fresh (G7 _))
 cases x with
 |str z=>
  have q:R (UM z) H1:=q1;obtain⟨t,rfl⟩:=r1;cases ha:z.cps.all (·<128)
  ·exact wpAny_pyIter_wide ha ⟨s1.heap.objs.size,[s1.heap.objs.size],_,UM z,H1,rfl,I1.kept (t':=s1.toks) λ b o e=>j5 _ e,vW _ z t "str_iterator" (by decide) (λ A' hA=>Walks.strWide hA _ z t) (λ _ _ _ _ _ st h=>wpAny_pyIter_striter_wide st h),⟨_,n6 _ rfl,rfl,rfl⟩,fp,q⟩
  ·exact wpAny_pyIter_ascii ha ⟨s1.heap.objs.size,[s1.heap.objs.size],_,UM z,H1,rfl,I1.kept (t':=s1.toks) λ b o e=>j5 _ e,vW _ z t "str_ascii_iterator" (by decide) (λ A' hA=>Walks.strAscii hA _ z t) (λ _ _ _ _ _ st h=>wpAny_pyIter_striter_ascii st h),⟨_,n6 _ rfl,rfl,rfl⟩,fp,q⟩
 |ref a=>
  cases(show v=Value.ref a from r1);rcases q1 with⟨xs,hq,q⟩|⟨xs,hq,q⟩
  ·obtain⟨aq,rv,p,hz⟩:=I1.list hq;exact x3 p.isList ⟨s1.heap.objs.size,[s1.heap.objs.size],_,_,H1,rfl,I1.kept (t':=s1.toks) λ b o e=>j5 _ e,DB a _,⟨_,n6 _ rfl,rfl,rfl⟩,fp,q⟩
  ·obtain⟨aq,rv,p,hz⟩:=I1.tuple hq;exact wpAny_pyIter_tuple (show s1.heap.IsTuple a aq.toArray from p) ⟨s1.heap.objs.size,[s1.heap.objs.size],_,_,H1,rfl,I1.kept (t':=s1.toks) λ b o e=>j5 _ e,zj a _,⟨_,n6 _ rfl,rfl,rfl⟩,fp,q⟩
 |_=>exact False.elim q1
inductive IK where
 |i (n:Int)
 |t (ks:List IK)
noncomputable instance:DecidableEq IK:=λ a b=>Classical.propDecidable (a=b)
mutual
def IK.dep:IK->Nat
 | .i _=>0
 | .t ks=>IK.jy ks+1
def IK.jy:List IK->Nat
 |[]=>0
 |k::ks=>max k.dep (IK.jy ks)
end
mutual
def IV:IK->Int
 | .i n=>hashInt n
 | .t ks=>reduceHash (Builtin.Tuple.tupleHashOf (uP ks))
def uP:List IK->List Int
 |[]=>[]
 |k::ks=>IV k::uP ks
end
mutual
def Fg:IK->Nat
 | .i _=>1
 | .t ks=>jn ks+1
def jn:List IK->Nat
 |[]=>0
 |k::ks=>Fg k+jn ks
end
def b2i(b:Bool):Int:=if b then 1 else 0
mutual
def dR(h:Heap):IK->gV->Prop
 | .i n,v=>(∃t,v=.int n t)\/∃b:Bool,v=.bool b/\n=b2i b
 | .t ks,v=>∃(a:ap)(o:Obj)(aq:List gV)(n:Nat),v=.ref a/\h.get? a=some o/\o.cls=.type "tuple"/\o.data=.seq aq.toArray n/\cG h ks aq
def cG(h:Heap):List IK->List gV->Prop
 |[],vs=>vs=[]
 |k::ks,vs=>∃v r,vs=v::r/\dR h k v/\cG h ks r
end
mutual
def yS:IK->PyData->Prop
 | .i n,d=>d=.int n\/∃b:Bool,d=.bool b/\n=b2i b
 | .t ks,d=>∃ds,d=.tuple ds/\jl ks ds
def jl:List IK->List PyData->Prop
 |[],ds=>ds=[]
 |k::ks,ds=>∃d r,ds=d::r/\yS k d/\jl ks r
end
def xy:∀ks:List IK,uP ks=ks.map IV
 |[]=>by unfold uP;rfl
 |k::ks=>by unfold uP;rw[xy ks];rfl
def xx:∀(ks ls:List IK),jn (ks++ls)=jn ks+jn ls
 |[],ls=>by rw[nil_append];unfold jn;split<;>lia
 |k::ks,ls=>by rw[cons_append];have:=xx ks ls;show Fg k+jn (ks++ls)=Fg k+jn ks+jn ls;lia
def IT(k:IK):jn [k]=Fg k:=by show Fg k+jn []=Fg k;unfold jn;lia
def IU:jn []=0:=by unfold jn;rfl
def mw:∀{ks:List IK} {k:IK},k∈ks->k.dep<=IK.jy ks
 |k0::ks,k,h=>by
  show k.dep<=max k0.dep (IK.jy ks);rcases C9.mp h with rfl|h
  ·exact Nat.le_max_left _ _
  ·exact E6 (mw h) (Nat.le_max_right _ _)
def sX{Q:Int->am->Prop}(h:Q (hashInt (b2i b)) {s with toks:=s.toks+1}):wpAny (model prog w) A (pyHash (.bool b)) Q E s:=by have hT:s.TypeIs (.bool b) "bool":=rfl;have hr:=rawHash_range (b2i b);unfold pyHash;have hv:[Value.bool b].any Value.onHeap=false:=rfl;refine J1 ?_;rw[cRoomFor,K3 (by rw[hv];exact o8)];refine J3 ?_;refine J1 (B7 hT F.slot_bool_hash.lookup ?_);show wpAny _ _ (if(some (Value.builtin "int.__hash__")==some Value.none)=true then _ else _) Q E s;rw[K3 (by rw[beq_builtin_none];exact o8)];refine J1 (B7 hT F.slot_bool_hash.lookup ?_);show wpAny _ _ (callSpecialIfBoundUnlessNone? (.bool b) "__hash__" _>>=_) Q E s;refine J1 (wpAny_callSpecialIfBoundUnlessNone?_slot hT F.slot_bool_hash (y9 F.slot_bool_hash hT entry_int_hash (show wpAny _ _ (do ret (<- mkInt (rawHash (b2i b)))) _ _ s from wpAny_ret_mkInt ?_) (args_int_hash _)));show wpAny _ _ (if(decide (-(2:Int)^63<=rawHash (b2i b))&&decide (rawHash (b2i b)<2^63))=true then _ else _) Q E _;rw[K1 (by rw[B8 hr.1,B8 hr.2];rfl)];exact J3 h
def Np:∀(n:Nat)(k:IK),k.dep<=n->∀{A:Around} {E:gV->am->Prop} {s:am} {v:gV} {Q:Int->am->Prop},A.units+k.dep<cLine->dR s.heap k v->Q (IV k) {s with toks:=s.toks+Fg k}->wpAny (model prog w) A (pyHash v) Q E s:=by
 intro n
 induction n with
 |zero=>
  intro k hk A E s v Q hu hi h;cases k with
  |i m=>
   unfold dR at hi;unfold IV Fg at h;rcases hi with⟨t,rfl⟩|⟨b,rfl,rfl⟩
   ·exact wpAny_pyHash_int h
   ·exact sX h
  |t ks=>unfold IK.dep at hk;lia
 |succ n ih=>
  intro k hk A E s v Q hu hi h;cases k with
  |i m=>
   unfold dR at hi;unfold IV Fg at h;rcases hi with⟨t,rfl⟩|⟨b,rfl,rfl⟩
   ·exact wpAny_pyHash_int h
   ·exact sX h
  |t ks=>
   unfold dR at hi;obtain⟨a,o,aq,m,rfl,ho,hc,hd,hits⟩:=hi;have mi:IK.jy ks<=n:=by unfold IK.dep at hk;lia
   have hu1:A.units+(IK.jy ks+1)<cLine:=by unfold IK.dep at hu;exact hu
   have hT:s.TypeIs (.ref a) "tuple":=⟨o,ho,hc⟩;unfold pyHash;(first|unfold pyHashByItsType|skip);(first|refine J1 (wpAny_cRoomFor_or (.inr (show A.units<cLine by lia)) ?_)|skip);refine J1 (B7 hT F.slot_tuple_hash.lookup ?_);show wpAny _ _ (if(some (Value.builtin "tuple.__hash__")==some Value.none)=true then _ else _) Q E s;rw[K3 (by rw[beq_builtin_none];exact o8)];refine J1 (B7 hT F.slot_tuple_hash.lookup ?_);show wpAny _ _ (callSpecialIfBoundUnlessNone? (.ref a) "__hash__" _>>=_) Q E s;refine J1 (wpAny_callSpecialIfBoundUnlessNone?_slot hT F.slot_tuple_hash (y9 F.slot_tuple_hash hT F.entry_tuple_hash ?_ (F.args_tuple_hash_1 _)));show wpAny _ _ (Builtin.Tuple.tupleItemsOf (.ref a)>>=_) _ _ s;refine J1 (wpAny_tupleItemsOf ho hd (J1 ?_));rw[<- u5];refine wpAny_forIn_list _ (λ rest (b:Array Int) s'=>∃done left,ks=done++left/\cG s.heap left rest/\b.toList=done.map IV/\s'={s with toks:=s.toks+jn done}) _ ?_ ?_ _ _ ⟨[],ks,rfl,hits,rfl,by rw[IU];rfl⟩
   ·rintro x rest b s' ⟨done,left,rfl,hl,hb,rfl⟩;cases left with
    |nil=>unfold cG at hl;cases hl
    |cons k1 left=>
     unfold cG at hl;obtain⟨v,r,e,h1,h2⟩:=hl;cases e;have hm:=mw (ks:=done++k1::left) (k:=k1) (by simp);refine J1 (ih k1 () (A:=A.in1) (show A.units+1+_<cLine by lia) h1 ?_);have fin:∃d2 l2,done++k1::left=d2++l2/\cG s.heap l2 rest/\(b.push (IV k1)).toList=d2.map IV/\({s with toks:=s.toks+jn done+Fg k1}:am)={s with toks:=s.toks+jn d2}:=
      ⟨done++[k1],left,by simp,h2,by simp[hb],by rw[xx,IT,Nat.add_assoc]⟩
     first|exact J3 fin|exact J1 (J3 (J3 fin))
   ·rintro b s' ⟨done,left,rfl,hl,hb,rfl⟩;cases left with
    |cons k1 left=>unfold cG at hl;obtain⟨v,r,e,_⟩:=hl;cases e
    |nil=>
     rw[A5]at h;show wpAny _ _ (retInt (Builtin.Tuple.tupleHashOf b.toList)) _ _ _;rw[hb,<- xy];refine wpAny_ret_mkInt ?_;show wpAny _ _ (if(decide (-(2:Int)^63<=Builtin.Tuple.tupleHashOf (uP done))&&decide (Builtin.Tuple.tupleHashOf (uP done)<2^63))=true then _ else _) Q E _;unfold IV Fg reduceHash at h;by_cases hr:(decide (-(2:Int)^63<=Builtin.Tuple.tupleHashOf (uP done))&&decide (Builtin.Tuple.tupleHashOf (uP done)<2^63))=true
     ·rw[K1 hr]at h ⊢;exact J3 (by simpa[Nat.add_assoc]using h)
     ·rw[K3 hr]at h ⊢;exact J1 (J4 (J3 (by simpa[Nat.add_assoc]using h)))
mutual
theorem qC{h:Heap}:∀(k:IK){v:gV},dR h k v->∃d as,yS k d/\Reads h v d as
 | .i n,v,x=>by
  unfold dR at x;unfold yS;rcases x with⟨t,rfl⟩|⟨b,rfl,rfl⟩
  ·exact⟨_,_,.inl rfl,Reads.int n t⟩
  ·exact⟨_,_,.inr ⟨b,rfl,rfl⟩,Reads.bool b⟩
 | .t ks,v,x=>by unfold dR at x;obtain⟨a,o,aq,n,rfl,ho,hc,hd,q⟩:=x;obtain⟨ds,as,p,r⟩:=sR ks q;unfold yS;exact⟨_,_,⟨ds,rfl,p⟩,reads_tuple_at ho hc hd (by simpa using r)⟩
theorem sR{h:Heap}:∀(ks:List IK){vs:List gV},cG h ks vs->∃ds as,jl ks ds/\ReadsAll h vs ds as
 |[],vs,x=>by unfold cG at x;subst x;unfold jl;exact⟨_,_,rfl,ReadsAll.nil⟩
 |k::ks,vs,x=>by unfold cG at x;obtain⟨v,r,rfl,h1,h2⟩:=x;obtain⟨d,as,p,a⟩:=qC k h1;obtain⟨ds,bs,q,b⟩:=sR ks h2;unfold jl;exact⟨_,_,⟨d,ds,rfl,p,q⟩,ReadsAll.cons a b⟩
end
mutual
theorem Ae:∀(k:IK){d:PyData},yS k d->d.canLay0=true
 | .i n,d,x=>by unfold yS at x;rcases x with rfl|⟨b,rfl,_⟩<;>simp[PyData.canLay0]
 | .t ks,d,x=>by unfold yS at x;obtain⟨ds,rfl,q⟩:=x;simp only[PyData.canLay0];exact Ce ks q
theorem Ce:∀(ks:List IK){ds:List PyData},jl ks ds->PyData.canLayAll0 ds=true
 |[],ds,x=>by unfold jl at x;subst x;simp[PyData.canLayAll0]
 |k::ks,ds,x=>by unfold jl at x;obtain⟨d,r,rfl,p,q⟩:=x;simp only[PyData.canLayAll0];rw[Ae k p,Ce ks q];rfl
end
mutual
theorem Af:∀(k:IK){d:PyData},yS k d->d.depth=k.dep
 | .i n,d,x=>by unfold yS at x;unfold IK.dep;rcases x with rfl|⟨b,rfl,_⟩<;>simp[PyData.depth]
 | .t ks,d,x=>by unfold yS at x;obtain⟨ds,rfl,q⟩:=x;unfold IK.dep;simp only[PyData.depth];rw[Cf ks q]
theorem Cf:∀(ks:List IK){ds:List PyData},jl ks ds->PyData.depthAll ds=IK.jy ks
 |[],ds,x=>by unfold jl at x;subst x;unfold IK.jy;simp[PyData.depthAll]
 |k::ks,ds,x=>by unfold jl at x;obtain⟨d,r,rfl,p,q⟩:=x;unfold IK.jy;simp only[PyData.depthAll];rw[Af k p,Cf ks q]
end
def MX{n m:Int}{e:PyData}(x:d=.int n\/∃b:Bool,d=.bool b/\n=b2i b)(y:e=.int m\/∃b:Bool,e=.bool b/\m=b2i b):PyData.eqv d e=true↔n=m:=by
 rcases x with rfl|⟨b,rfl,rfl⟩<;>rcases y with rfl|⟨c,rfl,rfl⟩
 ·simp[PyData.eqv]
 ·simp[PyData.eqv,b2i]
 ·simp[PyData.eqv,b2i]
 ·cases b<;>cases c<;>simp[PyData.eqv,b2i]
mutual
theorem O':∀(a b:IK){d e:PyData},yS a d->yS b e->(PyData.eqv d e=true↔a=b)
 | .i n,.i m,d,e,x,y=>by unfold yS at x y;rw[MX x y];simp
 | .i n,.t ks,d,e,x,y=>by unfold yS at x y;obtain⟨ds,rfl,_⟩:=y;rcases x with rfl|⟨b,rfl,_⟩<;>simp[PyData.eqv]
 | .t ks,.i n,d,e,x,y=>by unfold yS at x y;obtain⟨ds,rfl,_⟩:=x;rcases y with rfl|⟨b,rfl,_⟩<;>simp[PyData.eqv]
 | .t ks,.t ls,d,e,x,y=>by unfold yS at x y;obtain⟨ds,rfl,p⟩:=x;obtain⟨es,rfl,q⟩:=y;simp only[PyData.eqv,IK.t.injEq];exact IH ks ls p q
theorem IH:∀(as bs:List IK){ds es:List PyData},jl as ds->jl bs es->(PyData.eqvAll ds es=true↔as=bs)
 |[],[],ds,es,x,y=>by unfold jl at x y;subst x;subst y;simp[PyData.eqvAll]
 |[],b::bs,ds,es,x,y=>by unfold jl at x y;obtain⟨d,r,rfl,_⟩:=y;subst x;simp[PyData.eqvAll]
 |a::as,[],ds,es,x,y=>by unfold jl at x y;obtain⟨d,r,rfl,_⟩:=x;subst y;simp[PyData.eqvAll]
 |a::as,b::bs,ds,es,x,y=>by unfold jl at x y;obtain⟨d,r,rfl,p1,p2⟩:=x;obtain⟨e,r2,rfl,q1,q2⟩:=y;simp only[PyData.eqvAll,A0,List.cons.injEq];rw[O' a b p1 q1,IH as bs p2 q2]
end
mutual
theorem IQ{h:Heap}:∀(x y:IK){v:gV},dR h x v->dR h y v->x=y
 | .i n,.i m,v,a,b=>by
  unfold dR at a b;rcases a with⟨t,rfl⟩|⟨c,rfl,rfl⟩<;>rcases b with⟨u,e⟩|⟨d,e,f⟩<;>cases e
  ·rfl
  ·rw[f]
 | .i n,.t ks,v,a,b=>by unfold dR at a b;obtain⟨_,_,_,_,e,_⟩:=b;rcases a with⟨t,rfl⟩|⟨c,rfl,rfl⟩<;>cases e
 | .t ks,.i n,v,a,b=>by unfold dR at a b;obtain⟨_,_,_,_,e,_⟩:=a;rcases b with⟨t,rfl⟩|⟨c,rfl,rfl⟩<;>cases e
 | .t ks,.t ls,v,a,b=>by unfold dR at a b;obtain⟨a1,o1,i1,n1,rfl,g1,_,d1,q1⟩:=a;obtain⟨a2,o2,i2,n2,e,g2,_,d2,q2⟩:=b;cases e;rw[g1]at g2;cases g2;rw[d1]at d2;cases d2;rw[Cg ks ls q1 q2]
theorem Cg{h:Heap}:∀(xs ys:List IK){vs:List gV},cG h xs vs->cG h ys vs->xs=ys
 |[],[],vs,_,_=>rfl
 |[],y::ys,vs,a,b=>by unfold cG at a b;subst a;obtain⟨_,_,e,_⟩:=b;cases e
 |x::xs,[],vs,a,b=>by unfold cG at a b;subst b;obtain⟨_,_,e,_⟩:=a;cases e
 |x::xs,y::ys,vs,a,b=>by unfold cG at a b;obtain⟨v,r,rfl,a1,a2⟩:=a;obtain⟨v2,r2,e,b1,b2⟩:=b;cases e;rw[IQ x y a1 b1,Cg xs ys a2 b2]
end
def SW{k:IK}{v:gV}(x:dR h k v){d:ap}{es:Array DictEntry}(ho:h.get? d=some o)(hd:o.data=.dict es ep)(hs:Heap.SameBut d h h'):dR h' k v:=by
 have gen:∀(n:Nat)(k:IK),k.dep<=n->∀v,dR h k v->dR h' k v:=by
  intro n
  induction n with
  |zero=>
   intro k hk v x;cases k with
   |i m=>unfold dR at x ⊢;exact x
   |t ks=>unfold IK.dep at hk;lia
  |succ n ih=>
   intro k hk v x;cases k with
   |i m=>unfold dR at x ⊢;exact x
   |t ks=>
    unfold dR at x ⊢;obtain⟨a,o',aq,m,e,mh,hc,ju,r⟩:=x;have iQ:a≠d:=λ z=>by subst z;rw[ho]at mh;cases mh;rw[hd]at ju;cases ju
    refine⟨a,o',aq,m,e,(hs.2 a iQ).trans mh,hc,ju,?_⟩;have mi:IK.jy ks<=n:=by unfold IK.dep at hk;lia
    have all:∀(ls:List IK)(vs:List gV),(∀l∈ls,l.dep<=n)->cG h ls vs->cG h' ls vs:=by
     intro ls
     induction ls with
     |nil=>intro vs _ y;unfold cG at y ⊢;exact y
     |cons l ls ihl=>intro vs hl y;unfold cG at y ⊢;obtain⟨v,r,e,h1,h2⟩:=y;exact⟨v,r,e,ih l (hl l (o7 ..)) v h1,ihl r (λ z hz=>hl z (k7 _ hz)) h2⟩
    exact all ks aq (λ l hl=>E6 (mw hl) mi) r
 exact gen k.dep k (G7 _) v x
def IP:∀(n:Nat)(k:IK),k.dep<=n->∀{A:Around} {E:gV->am->Prop} {s:am} {v:gV} {Q:Bool->am->Prop},dR s.heap k v->Q true s->wpAny (model prog w) A (eqIsQuiet n v) Q E s:=by
 intro n
 induction n with
 |zero=>
  intro k hk A E s v Q hi h;cases k with
  |i m=>unfold dR at hi;rcases hi with⟨t,rfl⟩|⟨b,rfl,_⟩<;>rw[eqIsQuiet_byValue _ rfl]<;>exact J3 h
  |t ks=>unfold IK.dep at hk;lia
 |succ n ih=>
  intro k hk A E s v Q hi h;cases k with
  |i m=>unfold dR at hi;rcases hi with⟨t,rfl⟩|⟨b,rfl,_⟩<;>rw[eqIsQuiet_byValue _ rfl]<;>exact J3 h
  |t ks=>
   unfold dR at hi;obtain⟨a,o,aq,m,rfl,ho,hc,hd,hits⟩:=hi;have mi:IK.jy ks<=n:=by unfold IK.dep at hk;lia
   have hT:s.TypeIs (.ref a) "tuple":=⟨o,ho,hc⟩;unfold eqIsQuiet;refine J1 (B7 hT F.slot_tuple_eq.lookup ?_);show wpAny _ _ (isInstance (.ref a) (.type "tuple")>>=_) _ _ s;refine J1 (wpAny_isInstance hT isSubtype_tuple_tuple ?_);simp only[Bool.not_true,p5,J7];refine J1 (B9 ho hd (J1 ?_));show wpAny _ _ (forIn aq.toArray _ _) _ _ s;rw[<- u5];refine wpAny_forIn_list _ (λ rest r s'=>r.1=none/\s'=s/\∃left,(∀l∈left,l∈ks)/\cG s.heap left rest) _ ?_ ?_ _ _ ⟨rfl,rfl,ks,λ l hl=>hl,hits⟩
   ·rintro x rest r s' ⟨hr,rfl,left,Wo,hl⟩;cases left with
    |nil=>unfold cG at hl;cases hl
    |cons k1 left=>unfold cG at hl;obtain⟨v,r',e,h1,h2⟩:=hl;cases e;refine J1 (ih k1 (E6 (mw (Wo k1 (o7 ..))) mi) h1 ?_);simp only[Bool.not_true,p5,J7];exact J3 ⟨rfl,rfl,left,λ l hl=>Wo l (k7 _ hl),h2⟩
   ·rintro⟨r1,r2⟩ s' ⟨hr,rfl,_⟩;simp only at hr;subst hr;exact J3 h
def iT(prog:Program)(w:World):HeapKind prog w IK where
 is:=λ h k a=>k.dep<=5/\dR h k (.ref a)
 hash:=IV
 draws:=Fg
 room:=λ A=>A.units+8<cLine
 inj:=λ hx hy=>IQ _ _ hx.2 hy.2
 keeps:=λ x ho hd hs=>⟨x.1,SW x.2 ho hd hs⟩
 pyHash:=λ hu hk h=>Np 5 _ hk.1 (by have:=hk.1;lia) hk.2 h
 eqBool:=λ{A E s x y a b Q} hu hx hy h=>by
  obtain⟨dx,as,px,ra⟩:=qC x hx.2;obtain⟨dy,bs,py,rb⟩:=qC y hy.2;refine y0 dx dy A s _ _ _ _ ra rb (Ae x px) (Ae y py) ?_ prog w E Q ?_
  ·rw[Af x px,Af y py];have:=hx.1;have:=Nat.min_le_left x.dep y.dep;lia
  ·have e:PyData.eqv dx dy=decide (x=y):=by rw[A4,u7];exact O' x y px py
   rw[e];exact h
 quiet:=λ hk h=>IP 8 _ (E6 hk.1 (by decide)) hk.2 h
section
variable {κ:Type}[DecidableEq κ]
def km(kvs:List (κ×V))(k:κ):Option V:=(kvs.find? λ kv=>decide (kv.1=k)).map (·.2)
def putK(kvs:List (κ×V))(k:κ)(v:V):List (κ×V):=
 if(kvs.any λ kv=>decide (kv.1=k))=true then kvs.map (λ kv=>if kv.1=k then(kv.1,v)else kv)else kvs++[(k,v)]
def pM{p:κ×V}{k:κ}(e:p.1=k):km (p::r) k=some p.2:=by simp[km,A6,e]
def pN{p:κ×V}{k:κ}(e:¬p.1=k):km (p::r) k=km r k:=by simp[km,A6,e]
def pO(k:κ):∀kvs:List (κ×V),(kvs.any λ kv=>decide (kv.1=k))=(km kvs k).isSome
 |[]=>rfl
 |p::r=>by
  rw[any_cons];by_cases e:p.1=k
  ·simp only[pM e,B8 e,Bool.true_or,Option.isSome_some]
  ·rw[pN e,A7 e,Bool.false_or];exact pO k r
def je(kvs:List (κ×V))(k:κ)(v:V):(putK kvs k v).length<=kvs.length+1:=by
 unfold putK;split
 ·rw[B3];lia
 ·rw[p4,y6,length_nil];lia
def nH.fF{o:Option V}{u:Option gV}(r:nH o u):o.isSome=u.isSome:=by
 cases o with
 |none=>cases u with
  |none=>rfl
  |some _=>exact(show False from r).elim
 |some _=>cases u with
  |none=>exact(show False from r).elim
  |some _=>rfl
def KV.val{kvs:List (κ×V)}{vs:List (κ×gV)}(r:KV kvs vs)(k:κ):nH (km kvs k) (valueAt vs k):=by
 unfold KV at r
 induction r with
 |nil=>exact True.intro
 |@cons p q ps qs h t ih=>
  obtain⟨h1,h2⟩:=h;by_cases e:p.1=k
  ·have e':q.1=k:=h1.symm.trans e;have b:valueAt (q::qs) k=some q.2:=by simp[valueAt,A6,e']
   rw[pM e,b];exact h2
  ·have e':¬q.1=k:=λ z=>e (h1.trans z);have b:valueAt (q::qs) k=valueAt qs k:=by simp[valueAt,A6,e']
   rw[pN e,b];exact ih
def KV.any{kvs:List (κ×V)}{vs:List (κ×gV)}(r:KV kvs vs)(k:κ):(kvs.any λ kv=>decide (kv.1=k))=vs.any λ kv=>decide (kv.1=k):=by
 unfold KV at r
 induction r with
 |nil=>rfl
 |cons h t ih=>rw[any_cons,any_cons,ih,h.1]
def KV.Gp{kvs:List (κ×V)}{vs:List (κ×gV)}(r:KV kvs vs)(k:κ){y:V}(ry:sK y u):KV (kvs.map λ kv=>if kv.1=k then(kv.1,y)else kv) (vs.map λ kv=>if kv.1=k then(kv.1,u)else kv):=by
 unfold KV at r ⊢
 induction r with
 |nil=>exact .nil
 |@cons p q ps qs h t ih=>
  rw[C8,C8];refine .cons ?_ ih;obtain⟨h1,h2⟩:=h;by_cases e:p.1=k
  ·rw[K1 e,K1 (h1.symm.trans e)];exact⟨h1,ry⟩
  ·rw[K3 e,K3 (λ z=>e (h1.trans z))];exact⟨h1,h2⟩
def KV.put{kvs:List (κ×V)}{vs:List (κ×gV)}(r:KV kvs vs)(k:κ){y:V}(ry:sK y u):KV (putK kvs k y) (stored vs k u):=by
 unfold putK stored;rw[r.any k];by_cases e:(vs.any λ kv=>decide (kv.1=k))=true
 ·rw[K1 e,K1 e];exact r.Gp k ry
 ·rw[K3 e,K3 e];exact Paired.snoc r ⟨rfl,ry⟩
def KV.length{kvs:List (κ×V)}{vs:List (κ×gV)}(r:KV kvs vs):kvs.length=vs.length:=C5 r
end
def sP{k:Key}(r:sK (kV k) u):(cg P w).is k u=true:=by
 cases k with
 |inl i=>obtain⟨t,e⟩:=(show ∃t,u=Value.int i t from r);subst e;exact nV P w i t
 |inr x=>obtain⟨t,e⟩:=(show ∃t,u=Value.str x t from r);subst e;exact wZ P w x t
def sQ:∀{ks:List Key} {us:List gV},ut (ks.map kV) us->ItemsAre (cg P w) ks us
 |[],_,r=>by rw[G1]at r;cases r;exact .nil
 |k::ks,_,r=>by
  rw[C8]at r;cases r with
  |cons h t=>exact .cons (sP h) (sQ t)
abbrev KT(H:Hp):List (List Key×V)->List (List Key×ap×gV)->Prop:=Paired λ p q=>p.1=q.1/\H q.2.1=some (.tup (p.1.map kV))/\sK p.2 q.2.2
def KT.val{xs:List (List Key×ap×gV)}(r:KT H kvs xs)(k:List Key):nH (km kvs k) ((atKey xs k).map (·.2)):=by
 induction r with
 |nil=>exact True.intro
 |@cons p q ps qs h t ih=>
  obtain⟨h1,_,h2⟩:=h;by_cases e:p.1=k
  ·have e':q.1=k:=h1.symm.trans e;have b:atKey (q::qs) k=some q.2:=by simp[atKey,A6,e']
   rw[pM e,b];exact h2
  ·have e':¬q.1=k:=λ z=>e (h1.trans z);have b:atKey (q::qs) k=atKey qs k:=by simp[atKey,A6,e']
   rw[pN e,b];exact ih
def KT.Gp{xs:List (List Key×ap×gV)}(r:KT H kvs xs)(k:List Key){y:V}(ry:sK y u):KT H (kvs.map λ kv=>if kv.1=k then(kv.1,y)else kv) (xs.map (putAt k u)):=by
 induction r with
 |nil=>exact .nil
 |@cons p q ps qs h t ih=>
  rw[C8,C8];refine .cons ?_ ih;obtain⟨h1,h2,h3⟩:=h;unfold putAt;by_cases e:p.1=k
  ·rw[K1 e,K1 (h1.symm.trans e)];exact⟨h1,h2,ry⟩
  ·rw[K3 e,K3 (λ z=>e (h1.trans z))];exact⟨h1,h2,h3⟩
def KT.put{xs:List (List Key×ap×gV)}(r:KT H kvs xs)(k:List Key){b:ap}{y:V}(hb:H b=some (.tup (k.map kV)))(ry:sK y u):KT H (putK kvs k y) (storedH xs k b u):=by
 have e:(kvs.any λ kv=>decide (kv.1=k))=(atKey xs k).isSome:=by rw[pO,(r.val k).fF,x5]
 unfold putK storedH;rw[e];by_cases q:(atKey xs k).isSome=true
 ·rw[K1 q,K1 q];exact r.Gp k ry
 ·rw[K3 q,K3 q];exact Paired.snoc r ⟨rfl,hb,ry⟩
def KT.keeps{xs:List (List Key×ap×gV)}(r:KT H kvs xs)(ht:∀b ys,H b=some (.tup ys)->H' b=some (.tup ys)):KT H' kvs xs:=
 Paired.uE r λ _ _ z=>⟨z.1,ht _ _ z.2.1,z.2.2⟩
section
variable {h:Heap}
def OR{u:HO}(ok:iO P w H h)(e:Rd H a u):bR P w H h a u:=e.ok ok
def s_{kvs:List (Key×V)}(ok:iO P w H h)(e:Rd H a (.dK kvs)):kvs.length<=sizeLine/\(a==sysModules)=false/\∃vs,KV kvs vs/\h.DictOf (cg P w) a vs:=
 show bR P w H h a (.dK kvs)from OR ok e
def Ju{kvs:List (Key×V)}(ok:iO P w H h)(e:H a=some (.dK kvs)):kvs.length<=sizeLine/\(a==sysModules)=false/\∃vs,KV kvs vs/\h.DictOf (cg P w) a vs:=s_ ok (.inl e)
def qw(ok:iO P w H h)(e:H a=some (.tup (ks.map kV))):(tupleKind (cg P w)).is h ks a:=by obtain⟨_,aq,r,o,h1,h2,n,h3⟩:=(show bR P w H h a (.tup (ks.map kV))from ok a _ e);exact⟨o,aq.toArray,n,h1,h2,h3,by simpa using sQ r⟩
def xU(ok:iO P w H h)(e:Rd H a (.dT kvs)):kvs.length<=sizeLine/\(a==sysModules)=false/\
  ∃xs,KT H kvs xs/\h.DictOfH (tupleKind (cg P w)) a xs:=by
 obtain⟨z,y,xs,r,o,es,ep,h1,h2,h3,h4,h5⟩:=(show bR P w H h a (.dT kvs)from OR ok e);refine⟨z,y,xs,r,o,es,ep,h1,h2,h3,h4,λ x hx=>?_,h5⟩;have all:∀{l:List (List Key×V)} {m:List (List Key×ap×gV)},KT H l m->∀x∈m,(tupleKind (cg P w)).is h x.1 x.2.1:=by
  intro l m q
  induction q with
  |nil=>intro x hx;exact nomatch hx
  |@cons p q ps qs hq t ih=>
   intro x hx;rcases C9.mp hx with e|hx
   ·subst e;exact qw ok (by rw[<- hq.1];exact hq.2.1)
   ·exact ih x hx
 exact all r x hx
def Xg(ok:iO P w H h)(e:H a=some (.dT kvs)):kvs.length<=sizeLine/\(a==sysModules)=false/\
  ∃xs,KT H kvs xs/\h.DictOfH (tupleKind (cg P w)) a xs:=xU ok (.inl e)
end
def rO(H:Hp)(a:ap)(y:V)(r:Option V):Prop:=
 (∃kvs k,Rd H a (.dK kvs)/\y=kV k/\r=km kvs k)\/∃kvs k b,Rd H a (.dT kvs)/\y=.ref b/\H b=some (.tup (k.map kV))/\r=km kvs k
def JT(H:Hp)(a:ap)(y v:V)(H':Hp):Prop:=
 (∃kvs k,H a=some (.dK kvs)/\y=kV k/\kvs.length<sizeLine/\H'=u8 H a (.dK (putK kvs k v)))\/
 ∃kvs k b,H a=some (.dT kvs)/\y=.ref b/\H b=some (.tup (k.map kV))/\kvs.length<sizeLine/\H'=u8 H a (.dT (putK kvs k v))
def rO.k9{kvs:List (Key×V)}{k:Key}(e:H a=some (.dK kvs)):rO H a (kV k) (km kvs k):=.inl ⟨kvs,k,.inl e,rfl,rfl⟩
def JT.k9{kvs:List (Key×V)}{k:Key}(e:H a=some (.dK kvs))(hl:kvs.length<sizeLine):JT H a (kV k) v (u8 H a (.dK (putK kvs k v))):=.inl ⟨kvs,k,e,rfl,hl,rfl⟩
section
variable {y:V}{r:gV}{o:Option V}
def sn.big(I:sn X jp σ H s):sysModules<s.heap.objs.size:=by have h:mainGlobals<s.heap.objs.size:=(I.mod.glob.keeps I.bk).lt;exact Nat.lt_trans (by decide) h
def EJ(hu:A.units+1<cLine)(I:sn X jp σ H s)(g:rO H a y (some v))(ry:sK y u)(h:∀w' s',sn X jp σ H s'->sK v w'->Q w' s'):wpAny (model X.prog X.w) A (getItem (.ref a) u) Q E s:=by
 rcases g with⟨kvs,k,e,ey,l⟩|⟨kvs,k,b,e,ey,eb,l⟩
 ·subst ey;obtain⟨z,hd,vs,rel,dd⟩:=s_ I.bu e;obtain⟨w',hw,oz⟩:=nH.some_of (v:=v) (o:=valueAt vs k) (by rw[l];exact rel.val k);exact wpAny_getItem_of (sP ry) dd.mapOf hw (h w' _ (I.tok _) oz)
 ·subst ey;cases(show u=Value.ref b from ry);obtain⟨z,hd,xs,rel,dd⟩:=xU I.bu e;obtain⟨w',hw,oz⟩:=nH.some_of (v:=v) (o:=(atKey xs k).map (·.2)) (by rw[l];exact rel.val k);obtain⟨p,hp,eZ⟩:=ce.mp hw;refine wpAny_getItem_heap (u4 hu) (qw I.bu eb) dd hp ?_;rw[eZ];exact h w' _ (I.tok _) oz
def abj(hu:A.units+1<cLine)(I:sn X jp σ H s)(g:rO H a y o)(ry:sK y u)(h:∀s',sn X jp σ H s'->Q (.bool o.isSome) s'):wpAny (model X.prog X.w) A (compareOp .In u (.ref a)) Q E s:=by
 rcases g with⟨kvs,k,e,ey,l⟩|⟨kvs,k,b,e,ey,eb,l⟩
 ·subst ey;obtain⟨z,hd,vs,rel,dd⟩:=s_ I.bu e;refine wpAny_in_of (sP ry) hd dd.mapOf ?_;rw[<- (rel.val k).fF,<- l];exact h _ (I.tok _)
 ·subst ey;cases(show u=Value.ref b from ry);obtain⟨z,hd,xs,rel,dd⟩:=xU I.bu e;refine wpAny_in_heap (u4 hu) (qw I.bu eb) hd dd ?_;have q:=(rel.val k).fF;rw[x5]at q;rw[<- q,<- l];exact h _ (I.tok _)
def N5(hu:A.units+1<cLine)(I:sn X jp σ H s)(g:rO H a y o)(ry:sK y u)(h:∀s',sn X jp σ H s'->Q (.bool (!o.isSome)) s'):wpAny (model X.prog X.w) A (compareOp .NotIn u (.ref a)) Q E s:=by
 rcases g with⟨kvs,k,e,ey,l⟩|⟨kvs,k,b,e,ey,eb,l⟩
 ·subst ey;obtain⟨z,hd,vs,rel,dd⟩:=s_ I.bu e;refine wpAny_notIn_of (sP ry) hd dd.mapOf ?_;rw[<- (rel.val k).fF,<- l];exact h _ (I.tok _)
 ·subst ey;cases(show u=Value.ref b from ry);obtain⟨z,hd,xs,rel,dd⟩:=xU I.bu e;refine wpAny_notIn_heap (u4 hu) (qw I.bu eb) hd dd ?_;have q:=(rel.val k).fF;rw[x5]at q;rw[<- q,<- l];exact h _ (I.tok _)
def jS(I:sn X jp σ H s)(mu:XF (H a))(hs:Heap.SameBut a s.heap h')(he:∃q,h'.get? a=some q)(new:bR X.prog X.w (u8 H a ob) h' a ob):sn X jp σ (u8 H a ob) {s with heap:=h',toks:=t'}:=
 I.write (x:=a) (e:=a) mu (.inl rfl) (λ b q hb z=>(hs.2 b hb).trans z) he new
def Jv{kvs:List (Key×V)}{vs:List (Key×gV)}(z:kvs.length<=sizeLine)(hd:(a==sysModules)=false)(rel:KV kvs vs)(dd:h'.DictOf (cg P w) a vs):bR P w H' h' a (.dK kvs):=⟨z,hd,vs,rel,dd⟩
def EE{Q:Unit->am->Prop}(hu:A.units+1<cLine)(I:sn X jp σ H s)(g:JT H a y v H')(ry:sK y u)(rv:sK v r)(h:∀s',sn X jp σ H' s'->Q .unit s'):wpAny (model X.prog X.w) A (setItem (.ref a) u r) Q E s:=by
 rcases g with⟨kvs,k,e,ey,l,eH⟩|⟨kvs,k,b,e,ey,eb,l,eH⟩
 ·subst ey eH;obtain⟨z,hd,vs,rel,dd⟩:=Ju I.bu e;have hz:vs.length<=sizeLine:=by rw[<- rel.length];exact z
  have hl:(putK kvs k v).length<=sizeLine:=by have:=je kvs k v;lia
  refine wpAny_setItem_pairs (hsz:=hz) (sP ry) dd λ h' ED hs=>h _ ?_;have he:∃q,h'.get? a=some q:=let⟨q,_,_,hq,_⟩:=ED;⟨q,hq⟩
  exact jS I (by rw[e];exact True.intro) hs he (Jv hl hd (rel.put k rv) ED)
 ·subst ey eH;cases(show u=Value.ref b from ry);obtain⟨z,hd,xs,rel,dd⟩:=Xg I.bu e;have hz:xs.length<=sizeLine:=by rw[<- C5 rel];exact z
  have hl:(putK kvs k v).length<=sizeLine:=by have:=je kvs k v;lia
  refine wpAny_setItem_heap (hsz:=hz) (u4 hu) (qw I.bu eb) dd λ h' ED hs=>h _ ?_;obtain⟨q,es,ep,hq,h2,h3,h4,_,h5⟩:=ED;refine jS I (by rw[e];exact True.intro) hs ⟨q,hq⟩ ⟨hl,hd,_,(rel.put k eb rv).keeps λ c ys ec=>?_,q,es,ep,hq,h2,h3,h4,h5⟩;rw[aK (aM ec e (λ z=>nomatch z))];exact ec
end
section
variable {kvs:List (Key×V)}{k:Key}
def Xi(I:sn X jp σ H s)(e:Rd H a (.dK kvs))(h:∀t s',sn X jp σ H s'->Q (.int kvs.length t) s'):wpAny (model X.prog X.w) A (call (.builtin "len") [.ref a]) Q E s:=by obtain⟨z,hd,vs,rel,dd⟩:=s_ I.bu e;refine call_len_dict hd dd (by rw[<- rel.length];rw[G8]at z;lia) ?_;rw[<- rel.length];exact h _ _ (I.tok _)
end
def xX{y:V}{o:Option V}(I:sn X jp σ H s)(g:rO H a y o):s.TypeIs (.ref a) "dict":=by
 rcases g with⟨kvs,k,e,_,_⟩|⟨kvs,k,b,e,_,_,_⟩
 ·obtain⟨_,_,vs,_,dd⟩:=s_ I.bu e;exact dd.typeIs
 ·obtain⟨_,_,xs,_,dd⟩:=xU I.bu e;exact dd.typeIs
def xW(h:Heap)(hb:sysModules<h.objs.size):bR P w H (h.push {cls:=.type "dict",data:=.dict #[]}) h.objs.size (.dK []):=
 ⟨G9 _,beq_eq_false_iff_ne.mpr (J9 (D6 hb)),[],.nil,Heap.DictOf.new h⟩
def Qm:TE:=λ _ H Q=>∀p,H p=none->Q (.ref p) (u8 H p (.dK []))
def Hx:PE X (.Dict [] [] pos) Qm:=λ jp s σ H Q I h=>
 wpAny_Dict_empty ⟨.ref s.heap.objs.size,_,I.laid (a:=s.heap.objs.size) (o:=.dK []) (t':=s.toks) (λ _ _ q=>j5 _ q) (G7 _) (xW s.heap I.big),rfl,h _ (I.bu.fresh (G7 _))⟩
mutual
def gI(K:K6)(H:Hp):IK->V->Prop
 | .i n,v=>v=.int n\/∃b:Bool,v=.bl b/\n=b2i b
 | .t ks,v=>∃p xs,v=.ref p/\hG K H p xs/\jh K H ks xs
def jh(K:K6)(H:Hp):List IK->List V->Prop
 |[],xs=>xs=[]
 |k::ks,xs=>∃x r,xs=x::r/\gI K H k x/\jh K H ks r
end
mutual
theorem nX(I:sn X jp σ H s):∀(k:IK){v:V}{u:gV},gI X.K H k v->sK v u->dR s.heap k u
 | .i n,v,u,h,r=>by
  unfold gI at h;unfold dR;rcases h with rfl|⟨b,rfl,rfl⟩
  ·exact .inl r
  ·exact .inr ⟨b,r,rfl⟩
 | .t ks,v,u,h,r=>by unfold gI at h;obtain⟨p,xs,rfl,hq,hk⟩:=h;cases(show u=Value.ref p from r);obtain⟨aq,rv,⟨o,ho,hc,n,hd⟩,_⟩:=I.tuple hq;unfold dR;exact⟨p,o,aq,n,rfl,ho,hc,hd,B_ I ks hk rv⟩
theorem B_(I:sn X jp σ H s):∀(ks:List IK){xs:List V}{us:List gV},jh X.K H ks xs->ut xs us->cG s.heap ks us
 |[],xs,us,h,r=>by unfold jh at h;subst h;cases r;unfold cG;rfl
 |k::ks,xs,us,h,r=>by
  unfold jh at h;obtain⟨x,Ks,rfl,h1,h2⟩:=h;cases r with
  |cons r1 r2=>unfold cG;exact⟨_,_,rfl,nX I k h1 r1,B_ I ks h2 r2⟩
end
abbrev fu:=IK×ap×V
def abf(x:IK×ap×gV):DictEntry:=⟨IV x.1,.ref x.2.1,x.2.2⟩
abbrev Fm:List fu->List (IK×ap×gV)->Prop:=Paired λ p q=>p.1=q.1/\p.2.1=q.2.1/\sK p.2.2 q.2.2
def dtF(a:ap)(kvs:List fu)(h:Heap):Prop:=kvs.length<=sizeLine/\(a==sysModules)=false/\∃xs,Fm kvs xs/\∃o es ep,h.get? a=some o/\o.ExactDict/\o.data=.dict es ep/\es.toList=xs.map abf/\(xs.map (·.1)).Nodup
def oD(a:ap)(kvs:List fu):HO:=.ext (dtF a kvs)
def qM{kvs:List fu}(x:dtF a kvs h):bR P w H h a (oD a kvs):=by obtain⟨z,y,xs,r,o,es,ep,e,c⟩:=id x;exact⟨x,⟨o,e⟩,λ h1 h2 ⟨z,y,xs,r,o,es,ep,e,c⟩ q=>⟨z,y,xs,r,o,es,ep,q o e,c⟩⟩
noncomputable def gP(kvs:List fu)(k:IK):Option V:=(kvs.find? λ p=>decide (p.1=k)).map (·.2.2)
noncomputable def iM(kvs:List fu)(k:IK)(p:ap)(v:V):List fu:=if(gP kvs k).isSome=true then kvs.map (λ x=>if x.1=k then(x.1,x.2.1,v)else x)else kvs++[(k,p,v)]
def qg(kvs:List fu)(k:IK)(p:ap)(v:V):(iM kvs k p v).length<=kvs.length+1:=by
 unfold iM;split
 ·simp
 ·simp
def Fm.val{kvs:List fu}{xs:List (IK×ap×gV)}(r:Fm kvs xs)(k:IK):nH (gP kvs k) ((atKey xs k).map (·.2)):=by
 induction r with
 |nil=>exact True.intro
 |@cons p q ps qs h t ih=>
  obtain⟨h1,_,h2⟩:=h;unfold gP atKey at ih ⊢;by_cases e:p.1=k
  ·have e':q.1=k:=h1.symm.trans e;simp only[A6,B8 e,B8 e',Option.map_some];exact h2
  ·have e':¬q.1=k:=λ z=>e (h1.trans z);simp only[A6,A7 e,A7 e'];exact ih
def Fm.Gp{kvs:List fu}{xs:List (IK×ap×gV)}(r:Fm kvs xs)(k:IK){y:V}(ry:sK y u):Fm (kvs.map λ x=>if x.1=k then(x.1,x.2.1,y)else x) (xs.map (putAt k u)):=by
 induction r with
 |nil=>exact .nil
 |@cons p q ps qs h t ih=>
  rw[C8,C8];refine .cons ?_ ih;obtain⟨h1,h2,h3⟩:=h;unfold putAt;by_cases e:p.1=k
  ·rw[K1 e,K1 (h1.symm.trans e)];exact⟨h1,h2,ry⟩
  ·rw[K3 e,K3 (λ z=>e (h1.trans z))];exact⟨h1,h2,h3⟩
def uN{o:Option V}{u:Option gV}(r:nH o u):o.isSome=u.isSome:=r.fF
def Fm.put{kvs:List fu}{xs:List (IK×ap×gV)}(r:Fm kvs xs)(k:IK){b:ap}{y:V}(ry:sK y u):Fm (iM kvs k b y) (storedH xs k b u):=by
 have e:(gP kvs k).isSome=(atKey xs k).isSome:=by rw[uN (r.val k),x5]
 unfold iM storedH;rw[e];by_cases q:(atKey xs k).isSome=true
 ·rw[K1 q,K1 q];exact r.Gp k ry
 ·rw[K3 q,K3 q];exact Paired.snoc r ⟨rfl,rfl,ry⟩
structure nJ(K:K6)(H:Hp)(a:ap)(kvs:List fu):Prop where
 at_:H a=some (oD a kvs)
 key:∀p∈kvs,p.1.dep<=5/\gI K H p.1 (.ref p.2.1)
section
variable {b:ap}{kvs:List fu}{k:IK}{r:gV}
def nJ.of(I:sn X jp σ H s)(d:nJ X.K H a kvs):kvs.length<=sizeLine/\(a==sysModules)=false/\∃xs,Fm kvs xs/\s.heap.DictOfH (iT X.prog X.w) a xs:=by
 obtain⟨⟨z,y,xs,rel,o,es,ep,h1,h2,h3,h4,h5⟩,_,_⟩:=(show bR X.prog X.w H s.heap a (oD a kvs)from I.bu a _ d.at_);refine⟨z,y,xs,rel,o,es,ep,h1,h2,h3,h4,?_,h5⟩;have all:∀{l:List fu} {m:List (IK×ap×gV)},Fm l m->(∀p∈l,p.1.dep<=5/\gI X.K H p.1 (.ref p.2.1))->∀x∈m,(iT X.prog X.w).is s.heap x.1 x.2.1:=by
  intro l m q
  induction q with
  |nil=>intro _ x hx;cases hx
  |@cons p q ps qs hq t ih=>
   intro hl x hx;rcases C9.mp hx with rfl|hx
   ·obtain⟨c1,c2⟩:=hl p (o7 ..);rw[hq.1,hq.2.1]at c2;rw[hq.1]at c1;exact⟨c1,nX I _ c2 rfl⟩
   ·exact ih (λ p hp=>hl p (k7 _ hp)) x hx
 exact all rel d.key
def iY(hu:A.units+64<cLine):(iT X.prog X.w).room A.in1:=(show A.units+1+8<cLine by lia)
def DF(hu:A.units+64<cLine)(I:sn X jp σ H s)(d:nJ X.K H a kvs)(hk:k.dep<=5)(sV:gI X.K H k (.ref b))(g:gP kvs k=some v)(h:∀w' s',sn X jp σ H s'->sK v w'->Q w' s'):wpAny (model X.prog X.w) A (getItem (.ref a) (.ref b)) Q E s:=by obtain⟨z,hd,xs,rel,dd⟩:=d.of I;obtain⟨w',hw,oz⟩:=nH.some_of (v:=v) (o:=(atKey xs k).map (·.2)) (by rw[<- g];exact rel.val k);obtain⟨p,hp,eZ⟩:=ce.mp hw;refine wpAny_getItem_heap (iY hu) ⟨hk,nX I k sV rfl⟩ dd hp ?_;rw[eZ];exact h w' _ (I.tok _) oz
def YX(hu:A.units+64<cLine)(I:sn X jp σ H s)(d:nJ X.K H a kvs)(hk:k.dep<=5)(sV:gI X.K H k (.ref b))(h:∀s',sn X jp σ H s'->Q (.bool (gP kvs k).isSome) s'):wpAny (model X.prog X.w) A (compareOp .In (.ref b) (.ref a)) Q E s:=by obtain⟨z,hd,xs,rel,dd⟩:=d.of I;refine wpAny_in_heap (iY hu) ⟨hk,nX I k sV rfl⟩ hd dd ?_;have q:=uN (rel.val k);rw[x5]at q;rw[<- q];exact h _ (I.tok _)
def KJ(hu:A.units+64<cLine)(I:sn X jp σ H s)(d:nJ X.K H a kvs)(hk:k.dep<=5)(sV:gI X.K H k (.ref b))(h:∀s',sn X jp σ H s'->Q (.bool (!(gP kvs k).isSome)) s'):wpAny (model X.prog X.w) A (compareOp .NotIn (.ref b) (.ref a)) Q E s:=by obtain⟨z,hd,xs,rel,dd⟩:=d.of I;refine wpAny_notIn_heap (iY hu) ⟨hk,nX I k sV rfl⟩ hd dd ?_;have q:=uN (rel.val k);rw[x5]at q;rw[<- q];exact h _ (I.tok _)
def DE{Q:Unit->am->Prop}(hu:A.units+64<cLine)(I:sn X jp σ H s)(d:nJ X.K H a kvs)(hk:k.dep<=5)(sV:gI X.K H k (.ref b))(hl:kvs.length<sizeLine)(rv:sK v r)(h:∀s',sn X jp σ (u8 H a (oD a (iM kvs k b v))) s'->Q .unit s'):wpAny (model X.prog X.w) A (setItem (.ref a) (.ref b) r) Q E s:=by
 obtain⟨z,hd,xs,rel,dd⟩:=d.of I;have hz:xs.length<=sizeLine:=by rw[<- C5 rel];exact z
 have uS:(iM kvs k b v).length<=sizeLine:=by have:=qg kvs k b v;lia
 refine wpAny_setItem_heap (hsz:=hz) (iY hu) ⟨hk,nX I k sV rfl⟩ dd λ h' ED hs=>h _ ?_;obtain⟨q,es,ep,hq,h2,h3,h4,_,h5⟩:=ED;exact jS I (by rw[d.at_];exact True.intro) hs ⟨q,hq⟩ (qM ⟨uS,hd,_,rel.put k rv,q,es,ep,hq,h2,h3,h4,h5⟩)
end
def CA(h:Heap)(hb:sysModules<h.objs.size):dtF h.objs.size [] (h.push {cls:=.type "dict",data:=.dict #[]}):=
 ⟨G9 _,beq_eq_false_iff_ne.mpr (J9 (D6 hb)),[],.nil,_,#[],0,n6 _ rfl,⟨rfl,rfl,rfl⟩,rfl,rfl,nodup_nil⟩
def Qn:TE:=λ _ H Q=>∀p,H p=none->Q (.ref p) (u8 H p (oD p []))
def wL:PE X (.Dict [] [] pos) Qn:=λ jp s σ H Q I h=>
 wpAny_Dict_empty ⟨.ref s.heap.objs.size,_,I.laid (a:=s.heap.objs.size) (o:=oD s.heap.objs.size []) (t':=s.toks) (λ _ _ q=>j5 _ q) (G7 _) (qM (CA s.heap I.big)),rfl,h _ (I.bu.fresh (G7 _))⟩
def Q5(hd:(d==sysModules)=false):MeetsIn prog w (Builtin.«dict.__len__» ⟨[.ref d],[]⟩) (λ _ R s=>∃o es ep,s.heap.get? d=some o/\o.data=.dict es ep/\R (.ok (.ret (.int es.size s.toks))) {s with toks:=s.toks+1}):=
 .of_wp λ A R s ⟨o,es,ep,ho,Tn,h⟩=>by show wpAny _ _ (dictSize d>>=_) _ _ s;unfold dictSize;refine J1 (J1 (wpAny_dictEntries ho Tn (J3 ?_)));show wpAny _ _ (Builtin.Dict.pendingCount d>>=_) _ _ s;refine J1 (wpAny_pendingCount_other hd (wpAny_ret_mkInt ?_));rw[Nat.add_zero];exact h
def yx{es:Array DictEntry}(hd:(d==sysModules)=false)(ho:s.heap.get? d=some o)(hc:o.cls=.type "dict")(Tn:o.data=.dict es ep)(hz:es.size<=sizeLine)(h:∀t n,Q (.int es.size t) {s with toks:=n}):wpAny (model prog w) A (call (.builtin "len") [.ref d]) Q E s:=by
 have hT:s.TypeIs (.ref d) "dict":=⟨o,ho,hc⟩;have Nt:sizeLine=16777216:=by decide
 have WR:((es.size:Nat):Int)<2^63:=()
 refine Calls.call_function_entry kind_len plain_len entry_len (args_len1 _) ?_;unfold Builtin.«len»;refine J1 (m:=oneArg "len" _) (J3 ?_);refine J1 (m:=callSpecial? (.ref d) (cS "__len__")) (i7 (name:=cS "__len__") hT F.slot_dict_len (call_meetsIn F.slot_dict_len hT F.entry_dict_len (F.args_dict_len_1 _) (Q5 hd) ⟨o,es,ep,ho,Tn,?_⟩));show wpAny _ _ _ _ _ {s with toks:=s.toks+1};refine J1 (C4 (J3 (J1 (J0 ?_))));show wpAny _ _ (if((es.size:Nat):Int)<0 then _ else _) _ _ _;rw[K3 ()];show wpAny _ _ (if((es.size:Nat):Int) ≥ 2^63 then _ else _) _ _ _;rw[K3 ()];exact J1 (wpAny_mkInt (J3 ⟨_,rfl,h _ _⟩))
section
variable {kvs:List fu}
def U0(I:sn X jp σ H s)(e:H a=some (oD a kvs))(h:∀t s',sn X jp σ H s'->Q (.int kvs.length t) s'):wpAny (model X.prog X.w) A (call (.builtin "len") [.ref a]) Q E s:=by
 obtain⟨⟨z,y,xs,rel,o,es,ep,h1,h2,h3,h4,h5⟩,_,_⟩:=(show bR X.prog X.w H s.heap a (oD a kvs)from I.bu a _ e);have e1:es.size=kvs.length:=by rw[<- n5,h4,B3];exact(C5 rel).symm
 refine yx y h1 h2.1 h3 (by rw[e1];exact z) λ t n=>?_;rw[e1];exact h t _ (I.tok _)
end
structure lp where
 qual:Str
 params:Arguments
 body:Expr
 scope:Scope
 pm:gV
abbrev nh(f:ap)(L:lp)(c:ap)(cl:List (Str×ap)):Heap->Prop:=λ h=>∃pE,h.get? f=some (PySem.W.kla_obj "<lambda>" L.qual L.params L.body L.scope cl L.pm c pE)
abbrev vf(c:ap)(q:Str):Heap->Prop:=λ h=>h.CodeRec (.ref c) q
abbrev JI(c:ap)(v:V):Heap->Prop:=λ h=>∃u,sK v u/\h.IsCell c (some u)
abbrev iA(o:Obj)(c:ap)(v:V):HO:=.du o (.du o (.ext (JI c v)))
def BY(e:h.get? f=some (PySem.W.kla_obj "<lambda>" L.qual L.params L.body L.scope cl L.pm c pE)):∃o,∀{P:Program} {w:World} {H:Hp},bR P w H h f (.du o (.ext (nh f L c cl))):=
 ⟨_,λ{_ _ _}=>⟨e,⟨pE,e⟩,⟨_,e⟩,λ h1 h2 ⟨t,q⟩ k=>⟨t,k _ q⟩⟩⟩
def N'{q:Str}(x:h.CodeRec (.ref c) q):∃o,∀{P:Program} {w:World} {H:Hp},bR P w H h c (.du o (.ext (vf c q))):=by obtain⟨c',o,vs,t,e,h1,h2,h3⟩:=id x;cases e;exact⟨o,λ{_ _ _}=>⟨h1,x,⟨o,h1⟩,λ a b ⟨c',o,vs,t,e,h1,h2,h3⟩ k=>by cases e;exact⟨_,o,vs,t,rfl,k _ h1,h2,h3⟩⟩⟩
def Ob(r:sK v u)(x:h.IsCell c (some u)):∃o,h.get? c=some o/\∀{P:Program} {w:World} {H:Hp},bR P w H h c (iA o c v):=by obtain⟨o,h1,h2⟩:=id x;exact⟨o,h1,λ{_ _ _}=>⟨h1,h1,⟨u,r,x⟩,⟨o,h1⟩,λ a b ⟨u,r,o,h1,h2⟩ k=>⟨u,r,o,k _ h1,h2⟩⟩⟩
def pR(cs:List (Pos×ap)):List gV:=cs.flatMap λ p=>[rawInt p.1.line,rawInt p.1.col,.ref p.2]
def tO:∀cs,TriplesOk (pR cs)
 |[]=>trivial
 |p::cs=>tO cs
def rZ:∀{cs:List (Pos×ap)},codeAmong pos (pR cs)=some u->∃p∈cs,u=.ref p.2
 |[],e=>by cases e
 |p::cs,e=>by
  have e:(if(((p.1.line:Int)==pos.line)&&((p.1.col:Int)==pos.col))=true then some (Value.ref p.2)else codeAmong pos (pR cs))=some u:=e;split at e
  ·exact⟨p,.head _,(B0 e).symm⟩
  ·obtain⟨q,h,r⟩:=rZ e;exact⟨q,.tail _ h,r⟩
structure Om(mg:Str->Option gV)(base:Heap)(c P:ap):Prop where
 bm:∃bm ob,mg "__builtins__"=some (.ref bm)/\bm≠builtinsNs/\base.get? bm=some ob/\ob.cls=.type "module"/\ob.dict=some builtinsNs/\ob.data=.plain
 cd:PySem.W.CodeHd base c P
def PD(H:Hp)(P:ap)(q:Str):Prop:=∃cs:List (Pos×ap),H P=some (.mM (pR cs).toArray)/\∀p∈cs,∃o,H p.2=some (.du o (.ext (vf p.2 q)))
def PD.grow{P:ap}{q:Str}(t:PD H P q)(k:∀b o u,H b=some (.du o u)->H' b=some (.du o u))(e:H' P=H P):PD H' P q:=by obtain⟨cs,h1,h2⟩:=t;exact⟨cs,e.trans h1,λ p hp=>let⟨o,z⟩:=h2 p hp;⟨o,k _ _ _ z⟩⟩
def Y5(P:ap)(L:lp)(cells:List (Str×ap)):TE:=λ σ H Q=>PD H P L.qual/\∀(f c:ap)(H':Hp),H f=none->(∀x d,cells.lookup x=some d->d≠f)->(∀b u,b≠P->H b=some u->H' b=some u)->PD H' P L.qual->(∃o,H' c=some (.du o (.ext (vf c L.qual))))->(∃o,H' f=some (.du o (.ext (nh f L c (bp cells L.scope.names [])))))->Q (.ref f) H'
def r_(cs:List (Pos×ap))(pos:Pos)(c:ap):(pR cs).toArray++#[rawInt pos.line,rawInt pos.col,.ref c]=(pR (cs++[(pos,c)])).toArray:=by simp[pR]
def Rt{P:ap}(Co:X.env.code=.ref c)(B:Om X.mg X.base c P)(Tj:defaultsOf L.params X.env=([],[]))(Yg:L.pm=(X.mg "__name__").getD .none)(hq:X.env.qual++"<lambda>"=L.qual)(Fi:∀n,(n,NameKind.free)∈L.scope.names->X.env.kindOf n=some .cell\/X.env.kindOf n=some .free):PE X (.Lambda L.params L.body L.scope pos) (Y5 P L X.env.cells):=by
 intro jp s σ H Q I h;obtain⟨⟨cs,hP,Cn⟩,k⟩:=h;refine PySem.W.kla_eval Tj ?_;rw[hq];have Cp:closureFor L.scope X.env=pure (bp X.env.cells L.scope.names []):=eD λ n hn=>I.ok.has n (Fi n hn);have oP:s.heap.get? P=some (PySem.W.tabObj (pR cs).toArray):=I.bu P _ hP;have hg:s.heap.Ns mainGlobals X.mg:=I.mod.glob.keeps I.bk;have C:=B.cd.keeps I.bk;obtain⟨bm,ob,b1,b2,b3,b4,b5,b6⟩:=B.bm;have hgP:mainGlobals≠P:=λ q=>by obtain⟨o,es,ep,e,hd,_⟩:=id hg;rw[q,oP]at e;cases e;cases hd
 have hbP:bm≠P:=λ q=>by have e:=I.bk _ _ b3;rw[q,oP]at e;cases e;cases b4
 have hbG:bm≠mainGlobals:=λ q=>by obtain⟨o,es,ep,e,hd,_⟩:=id hg;have e2:=I.bk _ _ b3;rw[q,e]at e2;cases e2;rw[hd]at b6;cases b6
 have hb:s.heap.BuiltinsAt X.mg P:=⟨bm,ob,b1,b2,hbG,hbP,I.bk _ _ b3,b4,b5,b6⟩;have frC:∀{f:ap},s.heap.objs.size<=f->∀x d,X.env.cells.lookup x=some d->d≠f:=λ hf x d e z=>by obtain⟨v,o,ho,_⟩:=I.cell x d e;exact be (D7 ho) (by rw[z];exact Nat.not_lt.mpr hf)
 cases hc:codeAmong pos (pR cs).toArray.toList with
 |none=>
  refine PySem.W.kla_makeFunction Cp I.ok.glob hg Co C oP (by simpa using tO cs) hc hgP hb λ c' pE h' tk hx Th eB aab Wk=>?_;rw[<- Yg];have hf:h'.objs.size=h'.objs.size:=rfl;generalize hF:h'.objs.size=f at*;have Z':s.heap.objs.size<=f:=E6 Th (G5 eB);have nc:H c'=none:=I.bu.fresh Th;have nf:H f=none:=I.bu.fresh Z';have cf:c'≠f:=D6 eB;have cP:c'≠P:=λ z=>by rw[z,hP]at nc;cases nc
  have fP:f≠P:=λ z=>by rw[z,hP]at nf;cases nf
  have up:∀b o,h'.get? b=some o->(h'.push (PySem.W.kla_obj "<lambda>" L.qual L.params L.body L.scope (bp X.env.cells L.scope.names []) L.pm c' pE)).get? b=some o:=λ b o e=>j5 _ e;have hl:(h'.push (PySem.W.kla_obj "<lambda>" L.qual L.params L.body L.scope (bp X.env.cells L.scope.names []) L.pm c' pE)).get? f=some (PySem.W.kla_obj "<lambda>" L.qual L.params L.body L.scope (bp X.env.cells L.scope.names []) L.pm c' pE):=by rw[<- hF];exact n6 _ rfl
  have Wr:(h'.push (PySem.W.kla_obj "<lambda>" L.qual L.params L.body L.scope (bp X.env.cells L.scope.names []) L.pm c' pE)).CodeRec (.ref c') L.qual:=by obtain⟨c2,o,vs,t,e,h1,h2,h3⟩:=aab;exact⟨c2,o,vs,t,e,up _ _ h1,h2,h3⟩
  have Wk:=up _ _ Wk;rw[r_]at Wk;have kp:∀b o,b≠P->s.heap.get? b=some o->(h'.push (PySem.W.kla_obj "<lambda>" L.qual L.params L.body L.scope (bp X.env.cells L.scope.names []) L.pm c' pE)).get? b=some o:=λ b o n e=>up b o (hx b o n e);generalize h'.push (PySem.W.kla_obj "<lambda>" L.qual L.params L.body L.scope (bp X.env.cells L.scope.names []) L.pm c' pE)=g at*;obtain⟨of,zf⟩:=BY (L:=L) hl;obtain⟨oc,zc⟩:=N' Wr;obtain⟨H',eH⟩:∃H':Hp,H'=u8 (u8 (u8 H c' (.du oc (.ext (vf c' L.qual)))) P (.mM (pR (cs++[(pos,c')])).toArray)) f (.du of (.ext (nh f L c' (bp X.env.cells L.scope.names [])))):=⟨_,rfl⟩;have Hf:H' f=some (.du of (.ext (nh f L c' (bp X.env.cells L.scope.names [])))):=by rw[eH];exact aQ
  have HP:H' P=some (.mM (pR (cs++[(pos,c')])).toArray):=by rw[eH,aK fP.symm];exact aQ
  have Hc:H' c'=some (.du oc (.ext (vf c' L.qual))):=by rw[eH,aK cf,aK cP];exact aQ
  have Ho:∀b,b≠f->b≠P->b≠c'->H' b=H b:=λ b n1 n2 n3=>by rw[eH,aK n1,aK n2,aK n3]
  have old:∀b u,b≠P->H b=some u->H' b=some u:=λ b u n e=>(Ho b (bL e nf) n (bL e nc)).trans e;have I2:sn X jp σ H' {s with heap:=g,toks:=tk}:=by
   refine I.un (H':=H') (h':=g) (t':=tk) ⟨λ b o e n _ _=>kp b o (λ z=>by rw[z,hP]at n;cases n) e,λ b o e n _ _=>⟨o.slots,kp b o (λ z=>by rw[z,hP]at n;cases n) e⟩,λ b o e n _=>?_,λ b o e _=>?_,λ b xs e=>old b _ (λ z=>by rw[z,hP]at e;cases e) e,λ b o u e=>old b _ (λ z=>by rw[z,hP]at e;cases e) e,λ b ps e=>?_⟩ λ b u e=>?_
   ·have lt:=D7 e;rw[Ho b (D6 (p9 lt Z')) (λ z=>by rw[z,hP]at n;cases n) (D6 (p9 lt Th))];exact n
   ·by_cases z:b=P
    ·subst z;exact⟨_,Wk⟩
    ·exact⟨o,kp b o z e⟩
   ·by_cases z:b=P
    ·subst z;rw[hP]at e;cases e;exact⟨#[rawInt pos.line,rawInt pos.col,.ref c'],by rw[HP,r_]⟩
    ·exact⟨#[],by rw[old b _ z e];simp⟩
   ·by_cases z1:b=f
    ·subst z1;rw[Hf]at e;cases e;exact zf
    ·by_cases z2:b=P
     ·subst z2;rw[HP]at e;cases e;exact Wk
     ·by_cases z3:b=c'
      ·subst z3;rw[Hc]at e;cases e;exact zc
      ·rw[Ho b z1 z2 z3]at e;refine(I.bu b u e).kr (λ d v hd q=>kp d v ?_ q) (λ d q=>old d _ (λ z=>by rw[z,hP]at q;cases q) q) λ d xs q=>old d _ (λ z=>by rw[z,hP]at q;cases q) q;rcases hd with rfl|hd
       ·exact z2
       ·exact λ z=>by rw[z,hP]at hd;cases hd
  refine⟨.ref f,H',I2,rfl,k f c' H' nf (frC Z') old ⟨_,HP,λ p hp=>?_⟩ ⟨oc,Hc⟩ ⟨of,Hf⟩⟩;rcases B4.mp hp with hp|hp
  ·obtain⟨o,z⟩:=Cn p hp;exact⟨o,old _ _ (λ y=>by rw[y,hP]at z;cases z) z⟩
  ·rw[q8.mp hp];exact⟨oc,Hc⟩
 |some u=>
  obtain⟨p,hp,rfl⟩:=rZ (by simpa using hc);refine PySem.W.kla_makeFunctionHit Cp I.ok.glob hg Co C oP (by simpa using tO cs) hc hb λ pE h' tk hx hsz=>?_;rw[<- Yg];have nf:H h'.objs.size=none:=I.bu.fresh hsz;have fP:h'.objs.size≠P:=λ z=>by rw[z,hP]at nf;cases nf
  have hl:(h'.push (PySem.W.kla_obj "<lambda>" L.qual L.params L.body L.scope (bp X.env.cells L.scope.names []) L.pm p.2 pE)).get? h'.objs.size=some (PySem.W.kla_obj "<lambda>" L.qual L.params L.body L.scope (bp X.env.cells L.scope.names []) L.pm p.2 pE):=n6 _ rfl;obtain⟨of,zf⟩:=BY (L:=L) hl;have t:∀b u,H b=some u->u8 H h'.objs.size (.du of (.ext (nh h'.objs.size L p.2 (bp X.env.cells L.scope.names [])))) b=some u:=λ b u e=>by rw[aK (bL e nf)];exact e
  have I2:=I.laid (t':=tk) (a:=h'.objs.size) (h':=h'.push (PySem.W.kla_obj "<lambda>" L.qual L.params L.body L.scope (bp X.env.cells L.scope.names []) L.pm p.2 pE)) (λ b u e=>j5 _ (hx b u e)) hsz (o:=.du of (.ext (nh h'.objs.size L p.2 (bp X.env.cells L.scope.names [])))) zf;obtain⟨oc,zc⟩:=Cn p hp;exact⟨.ref h'.objs.size,_,I2,rfl,k _ p.2 _ nf (frC hsz) (λ b u _ e=>t b u e) ⟨cs,t _ _ hP,λ p hp=>let⟨o,z⟩:=Cn p hp;⟨o,t _ _ z⟩⟩ ⟨oc,t _ _ zc⟩ ⟨of,aQ⟩⟩
end L2
variable {L:L2.lp}
namespace L3
open PySem.Spec L2
inductive D where
 |bo|bl (b:Bool)|int (i:Int)|str (x:Str)|ty (n:String)|ref (a:ap)
 |tup (xs:List D)
 |fl (xs:List D)
def Ko(K:K6)(H:Hp)(p:ap)(xs:List V):Prop:=
 (∃o,H p=some (.du o (.lst xs)))\/∃(o:Obj)(aq:Array gV)(n:Nat),K.lookup p=some o/\o.cls=.type "list"/\o.dict=none/\o.data=.seq aq n/\aq.size<=sizeLine/\ut xs aq.toList
def Ko.sq(h:Ko K H p xs):eO K H p xs:=by
 rcases h with h|h
 ·exact .inl (.inr h)
 ·exact .inr h
mutual
def sB(K:K6)(H:Hp):D->V->Prop
 | .bo,v=>v=.bo
 | .bl b,v=>v=.bl b
 | .int i,v=>v=.int i
 | .str x,v=>v=.str x
 | .ty n,v=>v=.ty n
 | .ref a,v=>v=.ref a
 | .tup ds,v=>∃p xs,v=.ref p/\hG K H p xs/\aA K H ds xs
 | .fl ds,v=>∃p xs,v=.ref p/\Ko K H p xs/\aA K H ds xs
def aA(K:K6)(H:Hp):List D->List V->Prop
 |[],xs=>xs=[]
 |d::ds,xs=>∃x r,xs=x::r/\sB K H d x/\aA K H ds r
end
structure ar(H H':Hp):Prop where
 tup:∀b xs,H b=some (.tup xs)->H' b=some (.tup xs)
 du:∀b o u,H b=some (.du o u)->H' b=some (.du o u)
def ar.refl(H:Hp):ar H H:=⟨λ _ _ h=>h,λ _ _ _ h=>h⟩
def ar.trans(a:ar H H1)(b:ar H1 H2):ar H H2:=⟨λ c xs h=>b.tup c xs (a.tup c xs h),λ c o u h=>b.du c o u (a.du c o u h)⟩
def ar.laid{o:HO}(h:H p=none):ar H (u8 H p o):=
 ⟨λ b xs e=>by rw[aK (bL e h)];exact e,λ b ob u e=>by rw[aK (bL e h)];exact e⟩
def ar.lst{o:HO}(h:H p=some (.lst xs)):ar H (u8 H p o):=
 ⟨λ b ys e=>by rw[aK (aM e h (by intro z;cases z))];exact e,λ b ob u e=>by rw[aK (aM e h (by intro z;cases z))];exact e⟩
def ar.mut{u o:HO}(h:H p=some u)(n1:∀xs,u≠.tup xs)(n2:∀ob w,u≠.du ob w):ar H (u8 H p o):=
 ⟨λ b ys e=>by rw[aK (λ z=>by subst z;rw[h]at e;exact n1 ys (B0 e))];exact e,λ b ob w e=>by rw[aK (λ z=>by subst z;rw[h]at e;exact n2 ob w (B0 e))];exact e⟩
structure Fb(H H':Hp):Prop where
 tup:∀b xs,H b=some (.tup xs)->H' b=some (.tup xs)
 ft:∀b o xs,H b=some (.du o (.tup xs))->H' b=some (.du o (.tup xs))
 fl:∀b o xs,H b=some (.du o (.lst xs))->H' b=some (.du o (.lst xs))
def ar.sub(t:ar H H'):Fb H H':=⟨t.tup,λ b o _=>t.du b o _,λ b o _=>t.du b o _⟩
def Bc(t:Fb H H')(h:hG K H p xs):hG K H' p xs:=by
 rcases h with(h|⟨o,h⟩)|h
 ·exact .inl (.inl (t.tup _ _ h))
 ·exact .inl (.inr ⟨o,t.ft _ _ _ h⟩)
 ·exact .inr h
def Cy(t:Fb H H')(h:Ko K H p xs):Ko K H' p xs:=by
 rcases h with⟨o,h⟩|h
 ·exact .inl ⟨o,t.fl _ _ _ h⟩
 ·exact .inr h
def FU(t:ar H H')(h:hG K H p xs):hG K H' p xs:=Bc t.sub h
def Jp(t:ar H H')(h:Ko K H p xs):Ko K H' p xs:=Cy t.sub h
mutual
theorem sB.mon{K:K6}{H H':Hp}(t:Fb H H'):∀(d:D){v:V},sB K H d v->sB K H' d v
 | .bo,v,h=>by unfold sB at h ⊢;exact h
 | .bl b,v,h=>by unfold sB at h ⊢;exact h
 | .int i,v,h=>by unfold sB at h ⊢;exact h
 | .str x,v,h=>by unfold sB at h ⊢;exact h
 | .ty n,v,h=>by unfold sB at h ⊢;exact h
 | .ref a,v,h=>by unfold sB at h ⊢;exact h
 | .tup ds,v,h=>by unfold sB at h ⊢;obtain⟨p,xs,e,q,r⟩:=h;exact⟨p,xs,e,Bc t q,aA.mon t ds r⟩
 | .fl ds,v,h=>by unfold sB at h ⊢;obtain⟨p,xs,e,q,r⟩:=h;exact⟨p,xs,e,Cy t q,aA.mon t ds r⟩
theorem aA.mon{K:K6}{H H':Hp}(t:Fb H H'):∀(ds:List D){xs:List V},aA K H ds xs->aA K H' ds xs
 |[],xs,h=>by unfold aA at h ⊢;exact h
 |d::ds,xs,h=>by unfold aA at h ⊢;obtain⟨x,r,e,a,b⟩:=h;exact⟨x,r,e,sB.mon t d a,aA.mon t ds b⟩
end
def sB.mono(t:ar H H')(d:D)(h:sB K H d v):sB K H' d v:=sB.mon t.sub d h
def aA.mono(t:ar H H')(ds:List D)(h:aA K H ds xs):aA K H' ds xs:=aA.mon t.sub ds h
def dv:sB K H .bo v↔v=.bo:=by unfold sB;exact Iff.rfl
def aY:sB K H (.bl b) v↔v=.bl b:=by unfold sB;exact Iff.rfl
def au{i:Int}:sB K H (.int i) v↔v=.int i:=by unfold sB;exact Iff.rfl
def aU:sB K H (.str x) v↔v=.str x:=by unfold sB;exact Iff.rfl
def TL{n:String}:sB K H (.ty n) v↔v=.ty n:=by unfold sB;exact Iff.rfl
def ay:sB K H (.ref a) v↔v=.ref a:=by unfold sB;exact Iff.rfl
def aR:sB K H (.tup ds) v↔∃p xs,v=.ref p/\hG K H p xs/\aA K H ds xs:=by rw[sB]
def nz:sB K H (.fl ds) v↔∃p xs,v=.ref p/\Ko K H p xs/\aA K H ds xs:=by rw[sB]
def ao:aA K H [] xs↔xs=[]:=by unfold aA;exact Iff.rfl
def af:aA K H (d::ds) xs↔∃x r,xs=x::r/\sB K H d x/\aA K H ds r:=by rw[aA]
def aA.length:∀{ds:List D} {xs:List V},aA K H ds xs->xs.length=ds.length
 |[],xs,h=>by rw[ao]at h;subst h;rfl
 |d::ds,xs,h=>by rw[af]at h;obtain⟨x,r,rfl,_,q⟩:=h;rw[y6,y6,q.length]
def aA.get:∀{ds:List D} {xs:List V} {i:Nat} {d:D},aA K H ds xs->ds[i]?=some d->∃x,xs[i]?=some x/\sB K H d x
 |[],xs,i,d,h,e=>by simp at e
 |d0::ds,xs,i,d,h,e=>by
  rw[af]at h;obtain⟨x,r,rfl,a,q⟩:=h;cases i with
  |zero=>simp at e;subst e;exact⟨x,rfl,a⟩
  |succ i=>obtain⟨y,h1,h2⟩:=aA.get q (by simpa using e);exact⟨y,by simpa using h1,h2⟩
def aA.uX:∀{ds:List D} {xs:List V} {i:Nat} {x:V},aA K H ds xs->xs[i]?=some x->∃d,ds[i]?=some d/\sB K H d x
 |[],xs,i,x,h,e=>by rw[ao]at h;subst h;simp at e
 |d0::ds,xs,i,x,h,e=>by
  rw[af]at h;obtain⟨y,r,rfl,a,q⟩:=h;cases i with
  |zero=>simp at e;subst e;exact⟨d0,rfl,a⟩
  |succ i=>obtain⟨d,h1,h2⟩:=aA.uX q (by simpa using e);exact⟨d,by simpa using h1,h2⟩
def aA.append:∀{ds es:List D} {xs ys:List V},aA K H ds xs->aA K H es ys->aA K H (ds++es) (xs++ys)
 |[],es,xs,ys,h,q=>by rw[ao]at h;subst h;exact q
 |d::ds,es,xs,ys,h,q=>by rw[af]at h;obtain⟨x,r,rfl,a,b⟩:=h;rw[cons_append,cons_append,af];exact⟨x,_,rfl,a,b.append q⟩
def aA.one(h:sB K H d v):aA K H [d] [v]:=by rw[af];exact⟨v,[],rfl,h,by rw[ao]⟩
def aA.take:∀{ds:List D} {xs:List V} (n:Nat),aA K H ds xs->aA K H (ds.take n) (xs.take n)
 |ds,xs,0,h=>by simp[ao]
 |[],xs,n+1,h=>by rw[ao]at h;subst h;simp[ao]
 |d::ds,xs,n+1,h=>by rw[af]at h;obtain⟨x,r,rfl,a,b⟩:=h;rw[take_succ_cons,take_succ_cons,af];exact⟨x,_,rfl,a,b.take n⟩
def aA.drop:∀{ds:List D} {xs:List V} (n:Nat),aA K H ds xs->aA K H (ds.drop n) (xs.drop n)
 |ds,xs,0,h=>h
 |[],xs,n+1,h=>by rw[ao]at h;subst h;simp[ao]
 |d::ds,xs,n+1,h=>by rw[af]at h;obtain⟨x,r,rfl,a,b⟩:=h;exact b.drop n
def aA.set{x:V}(hd:sB K H d x):∀{ds:List D} {xs:List V} (n:Nat),aA K H ds xs->aA K H (ds.set n d) (xs.set n x)
 |[],xs,n,h=>by rw[ao]at h;subst h;simp[ao]
 |d0::ds,xs,0,h=>by rw[af]at h;obtain⟨y,r,rfl,a,b⟩:=h;rw[set_cons_zero,set_cons_zero,af];exact⟨x,_,rfl,hd,b⟩
 |d0::ds,xs,n+1,h=>by rw[af]at h;obtain⟨y,r,rfl,a,b⟩:=h;rw[set_cons_succ,set_cons_succ,af];exact⟨y,_,rfl,a,b.set hd n⟩
def jR:∀(ns:List Int),aA K H (ns.map D.int) (ns.map V.int)
 |[]=>by simp[ao]
 |n::ns=>by rw[C8,C8,af];exact⟨_,_,rfl,au.mpr rfl,jR ns⟩
def x_:∀{bs:List Bool} {xs:List V},aA K H (bs.map D.bl) xs->xs=bs.map V.bl
 |[],xs,h=>by rw[G1,ao]at h;exact h
 |b::bs,xs,h=>by rw[C8,af]at h;obtain⟨x,r,rfl,a,q⟩:=h;rw[aY]at a;rw[a,x_ q];rfl
def td:∀{ys:List Str} {xs:List V},aA K H (ys.map D.str) xs->xs=ys.map V.str
 |[],xs,h=>by rw[G1,ao]at h;exact h
 |b::bs,xs,h=>by rw[C8,af]at h;obtain⟨x,r,rfl,a,q⟩:=h;rw[aU]at a;rw[a,td q];rfl
def kM:Key->D
 | .inl i=>.int i
 | .inr x=>.str x
mutual
def oB:IK->D
 | .i n=>.int n
 | .t ks=>.tup (nj ks)
def nj:List IK->List D
 |[]=>[]
 |k::ks=>oB k::nj ks
end
mutual
theorem nv{K:K6}{H:Hp}:∀(k:IK){v:V},sB K H (oB k) v->gI K H k v
 | .i n,v,h=>by unfold oB at h;unfold gI;exact .inl (au.mp h)
 | .t ks,v,h=>by unfold oB at h;obtain⟨p,xs,rfl,hq,hx⟩:=aR.mp h;unfold gI;exact⟨p,xs,rfl,hq,xZ ks hx⟩
theorem xZ{K:K6}{H:Hp}:∀(ks:List IK){xs:List V},aA K H (nj ks) xs->jh K H ks xs
 |[],xs,h=>by unfold nj at h;unfold jh;exact ao.mp h
 |k::ks,xs,h=>by unfold nj at h;obtain⟨x,r,rfl,h1,h2⟩:=af.mp h;unfold jh;exact⟨x,r,rfl,nv k h1,xZ ks h2⟩
end
mutual
theorem uQ:∀{a b:IK},oB a=oB b->a=b
 | .i n,.i m,h=>by unfold oB at h;cases h;rfl
 | .i n,.t ks,h=>by unfold oB at h;cases h
 | .t ks,.i n,h=>by unfold oB at h;cases h
 | .t ks,.t ls,h=>by unfold oB at h;rw[xA (D.tup.inj h)]
theorem xA:∀{as bs:List IK},nj as=nj bs->as=bs
 |[],[],_=>rfl
 |[],b::bs,h=>by unfold nj at h;cases h
 |a::as,[],h=>by unfold nj at h;cases h
 |a::as,b::bs,h=>by
  unfold nj at h;injection h with h1 h2
  rw[uQ h1,xA h2]
end
def xr{a b:Key}(h:kM a=kM b):a=b:=by
 cases a with
 |inl i=>cases b with
  |inl j=>have e:D.int i=D.int j:=h;cases e;rfl
  |inr y=>have e:D.int i=D.str y:=h;cases e
 |inr x=>cases b with
  |inl j=>have e:D.str x=D.int j:=h;cases e
  |inr y=>have e:D.str x=D.str y:=h;cases e;rfl
def pB{k:Key}(h:sB K H (kM k) v):v=kV k:=by
 cases k with
 |inl i=>exact au.mp h
 |inr x=>exact aU.mp h
inductive XM where
 |lam (L:lp) (cl:List (Str×ap))|vh (d:D)|mM (q:Str)
  |vA (kvs:List (List Bool×D))
inductive MO where
 |lst (ds:List D)
 |eX (x:XM)
  |bX (t:Bool) (kvs:List (D×D))
abbrev JU(K:K6)(H:Hp):List (D×D)->List (Key×V)->Prop:=Paired λ p q=>p.1=kM q.1/\sB K H p.2 q.2
abbrev Fe(K:K6)(H:Hp):List (D×D)->List fu->Prop:=Paired λ p q=>p.1=oB q.1/\q.1.dep<=5/\sB K H p.1 (.ref q.2.1)/\sB K H p.2 q.2.2
def CZ(bs:List Bool):IK:=.t (bs.map λ b=>.i (b2i b))
def UE(bs:List Bool):D:=.tup (bs.map D.bl)
abbrev Ot(K:K6)(H:Hp):List (List Bool×D)->List fu->Prop:=Paired λ p q=>q.1=CZ p.1/\sB K H (UE p.1) (.ref q.2.1)/\sB K H p.2 q.2.2
def Ot.mono(t:ar H H'){kvs:List (List Bool×D)}{xs:List fu}(h:Ot K H kvs xs):Ot K H' kvs xs:=Paired.uE h λ p q z=>⟨z.1,sB.mono t _ z.2.1,sB.mono t _ z.2.2⟩
def JU.mono(t:ar H H'){kvs:List (D×D)}{xs:List (Key×V)}(h:JU K H kvs xs):JU K H' kvs xs:=Paired.uE h λ p q z=>⟨z.1,sB.mono t _ z.2⟩
def Fe.mono(t:ar H H'){kvs:List (D×D)}{xs:List fu}(h:Fe K H kvs xs):Fe K H' kvs xs:=Paired.uE h λ p q z=>⟨z.1,z.2.1,sB.mono t _ z.2.2.1,sB.mono t _ z.2.2.2⟩
abbrev Mem:=ap->Option MO
def ag(M:Mem)(a:ap)(o:MO):Mem:=λ b=>if b=a then some o else M b
def ae{o:MO}:ag M a o a=some o:=by unfold ag;rw[K1 rfl]
def ah{b:ap}{o:MO}(h:b≠a):ag M a o b=M b:=by unfold ag;rw[K3 h]
def dD{o u:MO}:ag (ag M a o) a u=ag M a u:=by funext b;unfold ag;split<;>rfl
def rM(K:K6)(H:Hp)(a:ap):MO->Prop
 | .lst ds=>∃xs,H a=some (.lst xs)/\aA K H ds xs
 | .bX false kvs=>∃xs,H a=some (.dK xs)/\JU K H kvs xs
 | .bX true kvs=>∃xs,H a=some (oD a xs)/\Fe K H kvs xs
 | .eX (.lam L cl)=>∃c,(∃o,H a=some (.du o (.ext (nh a L c cl))))/\∃o,H c=some (.du o (.ext (vf c L.qual)))
 | .eX (.vh d)=>∃o v,H a=some (iA o a v)/\sB K H d v
 | .eX (.mM q)=>PD H a q
 | .eX (.vA kvs)=>∃xs,H a=some (oD a xs)/\Ot K H kvs xs
def ul(K:K6)(H:Hp)(M:Mem):Prop:=∀a o,M a=some o->rM K H a o
def rM.there{o:MO}(h:rM K H a o):∃u,H a=some u:=by
 cases o with
 |eX x=>
  cases x with
  |lam L cl=>obtain⟨_,⟨o,h⟩,_⟩:=h;exact⟨_,h⟩
  |vh d=>obtain⟨o,v,h,_⟩:=h;exact⟨_,h⟩
  |mM q=>obtain⟨cs,h,_⟩:=h;exact⟨_,h⟩
  |vA kvs=>obtain⟨xs,h,_⟩:=h;exact⟨_,h⟩
 |lst ds=>obtain⟨xs,h,_⟩:=h;exact⟨_,h⟩
 |bX t kvs=>
  cases t with
  |false=>obtain⟨xs,h,_⟩:=h;exact⟨_,h⟩
  |true=>obtain⟨xs,h,_⟩:=h;exact⟨_,h⟩
def rM.mono{o:MO}(h:rM K H a o)(t:ar H H')(e:H' a=H a):rM K H' a o:=by
 cases o with
 |eX x=>
  cases x with
  |lam L cl=>obtain⟨c,⟨o,h⟩,o',h'⟩:=h;exact⟨c,⟨o,e.trans h⟩,o',t.du _ _ _ h'⟩
  |vh d=>obtain⟨o,v,h,q⟩:=h;exact⟨o,v,e.trans h,sB.mono t d q⟩
  |mM q=>exact PD.grow h t.du e
  |vA kvs=>obtain⟨xs,h,q⟩:=h;exact⟨xs,e.trans h,q.mono t⟩
 |lst ds=>obtain⟨xs,h,q⟩:=h;exact⟨xs,e.trans h,aA.mono t ds q⟩
 |bX b kvs=>
  cases b with
  |false=>obtain⟨xs,h,q⟩:=h;exact⟨xs,e.trans h,q.mono t⟩
  |true=>obtain⟨xs,h,q⟩:=h;exact⟨xs,e.trans h,q.mono t⟩
def ul.free(h:ul K H M)(n:H p=none):M p=none:=by
 cases e:M p with
 |none=>rfl
 |some o=>obtain⟨u,q⟩:=(h p o e).there;rw[n]at q;cases q
def ul.laid(h:ul K H M){o:HO}(n:H p=none):ul K (u8 H p o) M:=λ a u e=>by obtain⟨w,q⟩:=(h a u e).there;exact(h a u e).mono (ar.laid n) (aK (bL q n))
def ul.put(h:ul K H M){o:HO}{u:MO}(t:ar H (u8 H p o))(new:rM K (u8 H p o) p u):ul K (u8 H p o) (ag M p u):=λ a w e=>by
 by_cases ha:a=p
 ·subst ha;rw[ae]at e;cases e;exact new
 ·rw[ah ha]at e;exact(h a w e).mono t (aK ha)
def qX(M M':Mem):Prop:=∀a o,M a=some o->M' a=some o
def qX.refl(M:Mem):qX M M:=λ _ _ h=>h
def qX.put{o:MO}(h:qX M M')(n:M p=none):qX M (ag M' p o):=λ a u e=>by rw[ah (λ z=>by subst z;rw[n]at e;cases e)];exact h a u e
def ul.sub(h:ul K H M')(s:qX M M'):ul K H M:=λ a o e=>h a o (s a o e)
abbrev cY:=List (Option D)
structure cX(K:K6)(H:Hp)(δ:cY)(σ:St):Prop where
 len:δ.length=σ.length
 get:∀(i:Nat)(d:D),δ[i]?=some (some d)->∃v,σ[i]?=some (some v)/\sB K H d v
def cX.mono(h:cX K H δ σ)(t:ar H H'):cX K H' δ σ:=
 ⟨h.len,λ i d e=>let⟨v,q,r⟩:=h.get i d e;⟨v,q,sB.mono t d r⟩⟩
def cX.set(h:cX K H δ σ)(r:sB K H d v):cX K H (δ.set i (some d)) (σ.set i (some v)):=by
 refine⟨by rw[length_set,length_set];exact h.len,λ j e hj=>?_⟩;by_cases yU:i=j
 ·subst yU;have hi:i < δ.length:=by have:=(c7.mp hj).1;simpa using this
  rw[getElem?_set_self hi]at hj;cases hj;exact⟨v,by rw[getElem?_set_self (by rw[<- h.len];exact hi)],r⟩
 ·rw[l7 yU]at hj;obtain⟨u,q,w⟩:=h.get j e hj;exact⟨u,by rw[l7 yU];exact q,w⟩
abbrev bF:=D->Mem->Prop
abbrev bT:=cY->Mem->bF->Prop
abbrev gn:=cY->Mem->(Bool->Mem->Prop)->Prop
abbrev e_:=cY->Mem->(List D->Mem->Prop)->Prop
structure ke where
 nx:cY->Mem->Prop
 rt:bF
 bk:cY->Mem->Prop:=λ _ _=>False
 ct:cY->Mem->Prop:=λ _ _=>False
abbrev mH:=ke->cY->Mem->Prop
def ly(K:K6)(H:Hp)(Q2:bF)(Q:VK):Prop:=∀v H' d M',sB K H' d v->ul K H' M'->ar H H'->Q2 d M'->Q v H'
def yN(K:K6)(H:Hp)(Q2:Bool->Mem->Prop)(Q:Bool->Hp->Prop):Prop:=∀b H' M',ul K H' M'->ar H H'->Q2 b M'->Q b H'
def XR(K:K6)(H:Hp)(Q2:List D->Mem->Prop)(Q:List V->Hp->Prop):Prop:=∀vs H' ds M',aA K H' ds vs->ul K H' M'->ar H H'->Q2 ds M'->Q vs H'
def ou(K:K6)(H:Hp)(N2:cY->Mem->Prop)(N:St->Hp->Prop):Prop:=∀σ' H' δ' M',cX K H' δ' σ'->ul K H' M'->ar H H'->N2 δ' M'->N σ' H'
structure Di(K:K6)(H:Hp)(D2:ke)(E:Ends):Prop where
 nx:ou K H D2.nx E.nx
 rt:ly K H D2.rt E.rt
 bk:ou K H D2.bk E.bk
 ct:ou K H D2.ct E.ct
def ly.mono{Q:VK}(c:ly K H Q2 Q)(t:ar H H1):ly K H1 Q2 Q:=λ v H' d M' a b e q=>c v H' d M' a b (t.trans e) q
def yN.mono{Q:Bool->Hp->Prop}(c:yN K H Q2 Q)(t:ar H H1):yN K H1 Q2 Q:=λ v H' M' b e q=>c v H' M' b (t.trans e) q
def ou.mono(c:ou K H N2 N)(t:ar H H1):ou K H1 N2 N:=λ v H' d M' a b e q=>c v H' d M' a b (t.trans e) q
def Di.mono{E:Ends}(c:Di K H D2 E)(t:ar H H1):Di K H1 D2 E:=⟨c.nx.mono t,c.rt.mono t,c.bk.mono t,c.ct.mono t⟩
def up(K:K6)(t:bT):TE:=λ σ H Q=>∃δ M Q2,cX K H δ σ/\ul K H M/\t δ M Q2/\ly K H Q2 Q
def Ff(K:K6)(t:gn):TT:=λ σ H Q=>∃δ M Q2,cX K H δ σ/\ul K H M/\t δ M Q2/\yN K H Q2 Q
def upA(K:K6)(t:e_):TA:=λ σ H Q=>∃δ M Q2,cX K H δ σ/\ul K H M/\t δ M Q2/\XR K H Q2 Q
def YT(K:K6)(t:mH):TS:=λ E σ H=>∃δ M D2,cX K H δ σ/\ul K H M/\t D2 δ M/\Di K H D2 E
abbrev QE(X:Cx)(e:Expr)(t:bT):Prop:=PE X e (up X.K t)
structure WE(X:Cx)(e:Expr)(t:bT):Prop where
 h:QE X e t
abbrev QT(X:Cx)(e:Expr)(t:gn):Prop:=PT X e (Ff X.K t)
structure WT(X:Cx)(e:Expr)(t:gn):Prop where
 h:QT X e t
abbrev QW(X:Cx)(e:Expr)(t:gn):Prop:=PW X e (Ff X.K t)
structure WW(X:Cx)(e:Expr)(t:gn):Prop where
 h:QW X e t
abbrev QA(X:Cx)(es:List Expr)(t:e_):Prop:=PA X es (upA X.K t)
structure WA(X:Cx)(e:List Expr)(t:e_):Prop where
 h:QA X e t
abbrev QS(X:Cx)(st:Stmt)(t:mH):Prop:=PS X st (YT X.K t)
structure WS(X:Cx)(e:Stmt)(t:mH):Prop where
 h:QS X e t
abbrev QSs(X:Cx)(aD:List Stmt)(t:mH):Prop:=yJ X aD (YT X.K t)
structure Kk(X:Cx)(e:List Stmt)(t:mH):Prop where
 h:QSs X e t
def WW.pt{t:gn}(w:WW X e t):WT X e t:=⟨w.h.pt⟩
def bH{t t':TE}(h:PE X e t)(k:∀σ H Q,t' σ H Q->t σ H Q):PE X e t':=λ jp s σ H Q I q=>h jp s σ H Q I (k σ H Q q)
def Ha{t t':TT}(h:PT X e t)(k:∀σ H Q,t' σ H Q->t σ H Q):PT X e t':=λ jp s σ H Q I q=>h jp s σ H Q I (k σ H Q q)
def OW{t t':TT}(h:PW X e t)(k:∀σ H Q,t' σ H Q->t σ H Q):PW X e t':=λ wh jp s σ H Q I q=>h wh jp s σ H Q I (k σ H Q q)
def HB{t':TA}(h:PA X es t)(k:∀σ H Q,t' σ H Q->t σ H Q):PA X es t':=λ pos jp s σ H Q I q=>h pos jp s σ H Q I (k σ H Q q)
def lO{t t':TS}(h:PS X st t)(k:∀E σ H,t' E σ H->t E σ H):PS X st t':=λ jp s σ H E I q=>h jp s σ H E I (k E σ H q)
def Hd{t t':TS}(h:yJ X aD t)(k:∀E σ H,t' E σ H->t E σ H):yJ X aD t':=λ jp s σ H E I q=>h jp s σ H E I (k E σ H q)
end L3
variable {ds cs:List L3.D}{M M1 M':L3.Mem}{d:L3.D}{δ:L3.cY}{te ta:L3.bT}{Qe:List L3.D->L3.Mem->Prop}{tt:L3.gn}{r2:List L3.D->L3.Mem->L3.bF->Prop}{N:L3.cY->L3.Mem->Prop}{QB:Bool->L3.Mem->Prop}
namespace L3
open PySem.Spec L2
abbrev iR:=D->D->Mem->bF->Prop
def T_(K:K6)(r:R2)(r2:iR):Prop:=∀x y d e H M Q2 Q,sB K H d x->sB K H e y->ul K H M->r2 d e M Q2->ly K H Q2 Q->r x y H Q
def Ua(K:K6)(r:List V->Hp->VK->Prop)(r2:List D->Mem->bF->Prop):Prop:=∀xs ds H M Q2 Q,aA K H ds xs->ul K H M->r2 ds M Q2->ly K H Q2 Q->r xs H Q
def abr(K:K6)(r:V->List V->Hp->VK->Prop)(r2:D->List D->Mem->bF->Prop):Prop:=∀x xs d ds H M Q2 Q,sB K H d x->aA K H ds xs->ul K H M->r2 d ds M Q2->ly K H Q2 Q->r x xs H Q
def XC(K:K6)(r:V->Option Int->Option Int->Hp->VK->Prop)(r2:D->Option Int->Option Int->Mem->bF->Prop):Prop:=∀x d lo hi H M Q2 Q,sB K H d x->ul K H M->r2 d lo hi M Q2->ly K H Q2 Q->r x lo hi H Q
def iC(X:Cx)(f:gV->gV->Sem gV)(r2:iR):Prop:=∃r,gM X f r/\T_ X.K r r2
def YH(X:Cx)(r2:iR):Prop:=∃r,AL X r/\T_ X.K r r2
def YF(X:Cx)(r2:D->Option Int->Option Int->Mem->bF->Prop):Prop:=∃r,Dc X r/\XC X.K r r2
def fZ(X:Cx)(f:gV)(r2:List D->Mem->bF->Prop):Prop:=∃r,dr X f r/\Ua X.K r r2
def PH(X:Cx)(id:String)(r2:D->List D->Mem->bF->Prop):Prop:=∃r,UK X id r/\abr X.K r r2
section
variable {a b c:Expr}{tb tc:bT}
def ie(i:Nat):bT:=λ δ M Q=>match δ[i]? with
 |some (some d)=>Q d M
 |_=>False
def sC(d:D):bT:=λ _ M Q=>Q d M
def ai(i:Nat)(hN:X.N[i]?=some x:=by rfl)(hv:T8 X.env.scope x:=by first|exact Or.inl rfl|exact Or.inr (Or.inl rfl)|exact Or.inr (Or.inr rfl))(hd:rj x:=by decide)(sW:XE x:=by decide):WE X (.Name x pos) (ie i):=⟨bH (Hu hN hv hd sW) λ σ H Q ⟨δ,M,Q2,hs,hm,q,k⟩=>by
 unfold ie at q;cases e:δ[i]? with
 |none=>rw[e]at q;exact q.elim
 |some o=>
  cases o with
  |none=>rw[e]at q;exact q.elim
  |some d=>
   rw[e]at q;obtain⟨v,h1,h2⟩:=hs.get i d e;exact⟨v,h1,k v H d M h2 hm (ar.refl H) q⟩⟩
def ak{i:_}:WE X (.Constant (.int i) j pos) (sC (.int i)):=⟨bH Hw λ σ H Q ⟨δ,M,Q2,hs,hm,q,k⟩=>k _ H (.int i) M (au.mpr rfl) hm (ar.refl H) q⟩
def rn{i:_}:WE X (.Constant (.bool i) j pos) (sC (.bl i)):=⟨bH VM λ σ H Q ⟨δ,M,Q2,hs,hm,q,k⟩=>k _ H (.bl i) M (aY.mpr rfl) hm (ar.refl H) q⟩
def OU{i:_}:QE X (.Constant (.str i) j pos) (sC (.str i)):=bH Ro λ σ H Q ⟨δ,M,Q2,hs,hm,q,k⟩=>k _ H (.str i) M (aU.mpr rfl) hm (ar.refl H) q
def pL:WE X (.Constant .none j pos) (sC .bo):=⟨bH Rq λ σ H Q ⟨δ,M,Q2,hs,hm,q,k⟩=>k _ H .bo M (dv.mpr rfl) hm (ar.refl H) q⟩
def K'(r2:iR)(ta tb:bT):bT:=λ δ M Q=>ta δ M λ d M1=>tb δ M1 λ e M2=>r2 d e M2 Q
def oW{r2:iR}(hr:T_ K r r2):∀σ H Q,up K (K' r2 ta tb) σ H Q->U3 r (up K ta) (up K tb) σ H Q:=by rintro σ H Q ⟨δ,M,Q2,hs,hm,q,k⟩;refine⟨δ,M,_,hs,hm,q,λ x H1 d M1 hd bM t1 q1=>?_⟩;refine⟨δ,M1,_,hs.mono t1,bM,q1,λ y H2 e M2 he kU t2 q2=>?_⟩;exact hr x y d e H2 M2 Q2 Q (sB.mono t2 d hd) he kU q2 (k.mono (t1.trans t2))
def bx{r2:iR}(o:iC X (binaryOp op) r2)(ha:WE X a ta)(hb:WE X b tb):WE X (.BinOp a op b pos) (K' r2 ta tb):=by replace ha:=ha.h;replace hb:=hb.h;refine⟨?_⟩;obtain⟨r,ho,hr⟩:=o;exact bH (VJ ho ha hb) (oW hr)
def eW{r2:iR}(o:iC X (compareOp op) r2)(ha:WE X a ta)(hb:WE X b tb)(hm:behindInMarks op b=false:=by first|rfl|exact R8 _):WE X (.Compare a [op] [b] pos) (K' r2 ta tb):=by replace ha:=ha.h;replace hb:=hb.h;refine⟨?_⟩;obtain⟨r,ho,hr⟩:=o;exact bH (Md ho ha hb hm) (oW hr)
def sy(t:bT):gn:=λ δ M Q=>t δ M λ d M1=>match d with
 | .bl k=>Q k M1
 |_=>False
def rY{Q:Bool->Hp->Prop}(k:yN K H Q2 Q):ly K H (λ d M1=>match d with| .bl k=>Q2 k M1|_=>False) (λ x H'=>∃k,x=.bl k/\Q k H'):=λ v H' d M' hd hm t q=>by
 cases d with
 |bl b=>exact⟨b,aY.mp hd,k b H' M' hm t q⟩
 |_=>exact q.elim
def aN{r2:iR}(o:iC X (compareOp op) r2)(ha:WE X a ta)(hb:WE X b tb)(hm:behindInMarks op b=false:=by first|rfl|exact R8 _):WT X (.Compare a [op] [b] pos) (sy (K' r2 ta tb)):=by replace ha:=ha.h;replace hb:=hb.h;refine⟨?_⟩;obtain⟨r,ho,hr⟩:=o;refine Ha (LU ho ha hb hm) ?_;rintro σ H Q ⟨δ,M,Q2,hs,hm,q,k⟩;exact oW hr σ H _ ⟨δ,M,_,hs,hm,q,rY k⟩
def zh(h:WE X e ta)(he:IsT X e:=by intro _;rfl):WT X e (sy ta):=by replace h:=h.h;refine⟨?_⟩;refine Ha (Q_ h he) ?_;rintro σ H Q ⟨δ,M,Q2,hs,hm,q,k⟩;exact⟨δ,M,_,hs,hm,q,rY k⟩
variable {tA tB:gn}
def Vm(t u:gn):gn:=λ δ M Q=>t δ M λ c M1=>if c=true then u δ M1 Q else Q false M1
def Zf(t u:gn):gn:=λ δ M Q=>t δ M λ c M1=>if c=true then Q true M1 else u δ M1 Q
def Ve(t:gn):gn:=λ δ M Q=>t δ M λ c M1=>Q (!c) M1
def oK(ha:WT X a tA):WW X (.BoolOp .And [a] pos) tA:=⟨have ha:=ha.h;LQ ha⟩
def zg(ha:WT X a tA):WW X (.BoolOp .Or [a] pos) tA:=⟨have ha:=ha.h;Q7 ha⟩
def tK(ha:WT X a tA)(hb:WW X (.BoolOp .And (b::rest) pos) tB):WW X (.BoolOp .And (a::b::rest) pos) (Vm tA tB):=⟨have ha:=ha.h;have hb:=hb.h;OW (Q9 ha hb) λ σ H Q ⟨δ,M,Q2,hs,hm,q,k⟩=>by
 refine⟨δ,M,_,hs,hm,q,λ c H1 M1 bM t1 q1=>?_⟩;cases c with
 |true=>rw[K1 rfl]at q1 ⊢;exact⟨δ,M1,Q2,hs.mono t1,bM,q1,k.mono t1⟩
 |false=>
  rw[K3 o8]at q1 ⊢;exact k _ _ _ bM t1 q1⟩
def Fy(ha:WT X a tA)(hb:WW X (.BoolOp .Or (b::rest) pos) tB):WW X (.BoolOp .Or (a::b::rest) pos) (Zf tA tB):=⟨have ha:=ha.h;have hb:=hb.h;OW (VF ha hb) λ σ H Q ⟨δ,M,Q2,hs,hm,q,k⟩=>by
 refine⟨δ,M,_,hs,hm,q,λ c H1 M1 bM t1 q1=>?_⟩;cases c with
 |true=>rw[K1 rfl]at q1 ⊢;exact k _ _ _ bM t1 q1
 |false=>
  rw[K3 o8]at q1 ⊢;exact⟨δ,M1,Q2,hs.mono t1,bM,q1,k.mono t1⟩⟩
def PR(ha:WT X a tA):WT X (.UnaryOp .Not a pos) (Ve tA):=⟨have ha:=ha.h;Ha (Ra ha) λ σ H Q ⟨δ,M,Q2,hs,hm,q,k⟩=>⟨δ,M,_,hs,hm,q,λ c H1 M1 bM t1 q1=>k _ _ _ bM t1 q1⟩⟩
def OO(ta tb:bT):bT:=λ δ M Q=>ta δ M λ d M1=>match d with
 | .bl c=>if c=true then tb δ M1 Q else Q (.bl false) M1
 |_=>False
def UT(h:WE X a ta):WE X (.BoolOp op [a] pos) ta:=⟨have h:=h.h;Rp h⟩
def w_and(ha:WE X a ta)(hb:WE X (.BoolOp .And (b::rest) pos) tb):WE X (.BoolOp .And (a::b::rest) pos) (OO ta tb):=⟨have ha:=ha.h;have hb:=hb.h;bH (Rx ha hb) λ σ H Q ⟨δ,M,Q2,hs,hm,q,k⟩=>by
 refine⟨δ,M,_,hs,hm,q,λ x H1 d M1 hd bM t1 q1=>?_⟩;cases d with
 |bl c=>
  refine⟨c,aY.mp hd,?_⟩;have q1:if c=true then tb δ M1 Q2 else Q2 (.bl false) M1:=q1
  cases c with
  |true=>rw[K1 rfl]at q1 ⊢;exact⟨δ,M1,Q2,hs.mono t1,bM,q1,k.mono t1⟩
  |false=>rw[K3 o8]at q1 ⊢;exact k _ _ _ _ (aY.mpr rfl) bM t1 q1
 |_=>exact q1.elim⟩
variable {t:e_}
def rA:e_:=λ _ M Q=>Q [] M
def gS(ta:bT)(tr:e_):e_:=λ δ M Q=>ta δ M λ d M1=>tr δ M1 λ ds M2=>Q (d::ds) M2
def GY:QA X [] rA:=HB kH λ σ H Q ⟨δ,M,Q2,hs,hm,q,k⟩=>k [] H [] M (by rw[ao]) hm (ar.refl H) q
def By(ha:QE X e ta)(hr:QA X es t)(hs:oq X e es:=by rfl):QA X (e::es) (gS ta t):=HB (ig ha hr hs) λ σ H Q ⟨δ,M,Q2,hs,hm,q,k⟩=>by refine⟨δ,M,_,hs,hm,q,λ x H1 d M1 hd bM t1 q1=>?_⟩;refine⟨δ,M1,_,hs.mono t1,bM,q1,λ xs H2 ds M2 Jd kU t2 q2=>?_⟩;exact k (x::xs) H2 (d::ds) M2 (af.mpr ⟨x,xs,rfl,sB.mono t2 d hd,Jd⟩) kU (t1.trans t2) q2
def Vc(t:e_):bT:=λ δ M Q=>t δ M λ ds M1=>ds.length<=sizeLine/\Q (.tup ds) M1
def h_(hp:H p=none)(h:aA K H ds xs):sB K (u8 H p (.tup xs)) (.tup ds) (.ref p):=aR.mpr ⟨p,xs,rfl,hG.of aQ,aA.mono (ar.laid hp) ds h⟩
def dY(h:WA X es t):WE X (.Tuple es x1 pos) (Vc t):=⟨have h:=h.h;bH (Rn h) λ σ H Q ⟨δ,M,Q2,hs,hm,q,k⟩=>by
 refine⟨δ,M,_,hs,hm,q,λ xs H1 ds M1 hd bM t1 q1=>?_⟩;refine⟨by rw[hd.length];exact q1.1,λ p hp=>?_⟩;exact k _ _ (.tup ds) M1 (h_ hp hd) (bM.laid hp) (t1.trans (ar.laid hp)) q1.2⟩
def Vf(t:e_):bT:=λ δ M Q=>t δ M λ ds M1=>ds.length<=sizeLine/\∀p,M1 p=none->Q (.ref p) (ag M1 p (.lst ds))
def dN(hp:H p=none)(h:aA K H ds xs)(hm:ul K H M):ul K (u8 H p (.lst xs)) (ag M p (.lst ds)):=
 hm.put (ar.laid hp) ⟨xs,aQ,aA.mono (ar.laid hp) ds h⟩
def cj(h:WA X es t):WE X (.List es pos) (Vf t):=⟨have h:=h.h;bH (Rr h) λ σ H Q ⟨δ,M,Q2,hs,hm,q,k⟩=>by
 refine⟨δ,M,_,hs,hm,q,λ xs H1 ds M1 hd bM t1 q1=>?_⟩;refine⟨by rw[hd.length];exact q1.1,λ p hp=>?_⟩;exact k _ _ (.ref p) _ (ay.mpr rfl) (dN hp hd bM) (t1.trans (ar.laid hp)) (q1.2 p (bM.free hp))⟩
def aF{r2:iR}(o:YH X r2)(ha:WE X a ta)(hb:WE X b tb)(hs:Df b:=by exact λ _ _=>rfl):WE X (.Subscript a b pos) (K' r2 ta tb):=by replace ha:=ha.h;replace hb:=hb.h;refine⟨?_⟩;obtain⟨r,ho,hr⟩:=o;exact bH (VL ho ha hb hs) (oW hr)
abbrev Kl:=cY->Mem->(Option Int->Mem->Prop)->Prop
def XO(K:K6)(H:Hp)(Q2:Option Int->Mem->Prop)(Q:Option Int->Hp->Prop):Prop:=∀o H' M',ul K H' M'->ar H H'->Q2 o M'->Q o H'
def upO(K:K6)(t:Kl):TO:=λ σ H Q=>∃δ M Q2,cX K H δ σ/\ul K H M/\t δ M Q2/\XO K H Q2 Q
abbrev QO(X:Cx)(e:Option Expr)(t:Kl):Prop:=PO X e (upO X.K t)
structure WO(X:Cx)(e:Option Expr)(t:Kl):Prop where
 h:QO X e t
def Hh{e:Option Expr}{t t':TO}(h:PO X e t)(k:∀σ H Q,t' σ H Q->t σ H Q):PO X e t':=λ jp s σ H Q I q=>h jp s σ H Q I (k σ H Q q)
def tV:Kl:=λ _ M Q=>Q none M
def OK(t:bT):Kl:=λ δ M Q=>t δ M λ d M1=>match d with
 | .int i=>Q (some i) M1
 |_=>False
def jD:WO X none tV:=⟨Hh L1 λ σ H Q ⟨δ,M,Q2,hs,hm,q,k⟩=>k _ _ _ hm (ar.refl H) q⟩
def lC(h:WE X e ta):WO X (some e) (OK ta):=⟨have h:=h.h;Hh (LZ h) λ σ H Q ⟨δ,M,Q2,hs,hm,q,k⟩=>by
 refine⟨δ,M,_,hs,hm,q,λ x H1 d M1 hd bM t1 q1=>?_⟩;cases d with
 |int i=>exact⟨i,au.mp hd,k _ _ _ bM t1 q1⟩
 |_=>exact q1.elim⟩
variable {lo hi:Option Expr}{tl th:Kl}
def Ze(r2:D->Option Int->Option Int->Mem->bF->Prop)(te:bT)(tl th:Kl):bT:=λ δ M Q=>te δ M λ d M1=>tl δ M1 λ l M2=>th δ M2 λ u M3=>r2 d l u M3 Q
def jE{r2:D->Option Int->Option Int->Mem->bF->Prop}(o:YF X r2)(he:WE X e ta)(hl:WO X lo tl)(hu:WO X hi th):WE X (.Subscript e (.Slice lo hi none p2) pos) (Ze r2 ta tl th):=by replace he:=he.h;replace hl:=hl.h;replace hu:=hu.h;refine⟨?_⟩;obtain⟨r,ho,hr⟩:=o;refine bH (Hv ho he hl hu) ?_;rintro σ H Q ⟨δ,M,Q2,hs,hm,q,k⟩;refine⟨δ,M,_,hs,hm,q,λ x H1 d M1 hd bM t1 q1=>?_⟩;refine⟨δ,M1,_,hs.mono t1,bM,q1,λ l H2 M2 kU t2 q2=>?_⟩;refine⟨δ,M2,_,hs.mono (t1.trans t2),kU,q2,λ u H3 M3 NA t3 q3=>?_⟩;exact hr x d l u H3 M3 Q2 Q (sB.mono (t2.trans t3) d hd) NA q3 (k.mono (t1.trans (t2.trans t3)))
def Vj(r2:List D->Mem->bF->Prop)(t:e_):bT:=λ δ M Q=>t δ M λ ds M1=>r2 ds M1 Q
variable {p:Pos}{id:String}
def CV(hr:Ua K r r2):∀σ H Q,up K (Vj r2 t) σ H Q->XY r (upA K t) σ H Q:=by rintro σ H Q ⟨δ,M,Q2,hs,hm,q,k⟩;exact⟨δ,M,_,hs,hm,q,λ xs H1 ds M1 hd bM t1 q1=>hr xs ds H1 M1 Q2 Q hd bM q1 (k.mono t1)⟩
def aX(o:fZ X (.builtin id) r2)(hm:X.mg x=none)(ha:WA X (e::es) t)(hg:Gl X x:=by rfl)(hv:bootBuiltins x=some (.builtin id):=by decide+kernel)(hn:x≠"__name__":=by decide)(oC:rj x:=by decide)(he:oq X e es:=by rfl)(gb:vR X pos es:=by rfl):WE X (.Call (.Name x p) (e::es) [] pos) (Vj r2 t):=by replace ha:=ha.h;refine⟨?_⟩;obtain⟨r,ho,hr⟩:=o;exact bH (wM ho hg hm hv ha hn oC he gb) (CV hr)
def cb(o:fZ X (.type T) r2)(hm:X.mg x=none)(ha:WA X (e::es) t)(hg:Gl X x:=by rfl)(hv:bootBuiltins x=some (.type T):=by decide+kernel)(hn:x≠"__name__":=by decide)(oC:rj x:=by decide)(he:oq X e es:=by rfl)(gb:vR X pos es:=by rfl):WE X (.Call (.Name x p) (e::es) [] pos) (Vj r2 t):=by replace ha:=ha.h;refine⟨?_⟩;obtain⟨r,ho,hr⟩:=o;exact bH (jH ho hg hm hv ha hn oC he gb) (CV hr)
end
def Ox(T:String)(d:D)(M:Mem):Prop:=match d with
 | .str _=>T="str"
 | .ref a=>T="list"/\∃ds,M a=some (.lst ds)
 |_=>False
def Ox.v9{x:V}(h:Ox T d M)(r:sB K H d x)(hm:ul K H M):XU K T x H:=by
 cases d with
 |str z=>cases(aU.mp r);exact h
 |ref a=>cases(ay.mp r);obtain⟨e,ds,q⟩:=h;obtain⟨xs,hx,_⟩:=hm a _ q;exact .inl ⟨e,xs,eO.of hx⟩
 |_=>exact h.elim
section
variable {o:Expr}{to:bT}{t:e_}{id:String}
def Vl(T:String)(r2:D->List D->Mem->bF->Prop)(to:bT)(t:e_):bT:=λ δ M Q=>to δ M λ d M1=>Ox T d M1/\t δ M1 λ ds M2=>r2 d ds M2 Q
def Vk(T:String)(r2:D->List D->Mem->bF->Prop)(to:bT):bT:=λ δ M Q=>to δ M λ d M1=>Ox T d M1/\r2 d [] M1 Q
def UU{r2:D->List D->Mem->bF->Prop}(pa:PlainAttrs T)(slot:Slot T name id)(Eu:UL id)(hm:PH X id r2)(ho:WE X o to)(gX:Ui X o name:=by rfl)(gW:Ud apos cL:=by rfl):WE X (.Call (.Attribute o name apos) [] [] cL) (Vk T r2 to):=by replace ho:=ho.h;refine⟨?_⟩;obtain⟨r,h1,hr⟩:=hm;refine bH (Rw pa slot Eu h1 ho gX gW) ?_;rintro σ H Q ⟨δ,M,Q2,hs,hm,q,k⟩;exact⟨δ,M,_,hs,hm,q,λ x H1 d M1 hd bM t1 q1=>⟨q1.1.v9 hd bM,hr x [] d [] H1 M1 Q2 Q hd (by rw[ao]) bM q1.2 (k.mono t1)⟩⟩
def gf{r2:D->List D->Mem->bF->Prop}(pa:PlainAttrs T)(slot:Slot T name id)(Eu:UL id)(hm:PH X id r2)(ho:WE X o to)(ha:WA X (e::es) t)(gX:Ui X o name:=by rfl)(iq:YM X cL e es:=by rfl)(gW:Ud apos cL:=by rfl)(hs:oq X e es:=by rfl)(kR:vR X cL es:=by rfl):WE X (.Call (.Attribute o name apos) (e::es) [] cL) (Vl T r2 to t):=by replace ho:=ho.h;replace ha:=ha.h;refine⟨?_⟩;obtain⟨r,h1,hr⟩:=hm;refine bH (OY pa slot Eu h1 ho ha gX iq gW hs kR) ?_;rintro σ H Q ⟨δ,M,Q2,hs,hm,q,k⟩;refine⟨δ,M,_,hs,hm,q,λ x H1 d M1 hd bM t1 q1=>⟨q1.1.v9 hd bM,δ,M1,_,hs.mono t1,bM,q1.2,λ xs H2 ds M2 Jd kU t2 q2=>?_⟩⟩;exact hr x xs d ds H2 M2 Q2 Q (sB.mono t2 d hd) Jd kU q2 (k.mono (t1.trans t2))
end
abbrev dW:=List D->Mem->bF->Prop
def bZ(K:K6)(sp:dW):Sp:=λ vs H Q _=>∃ds M Q2,aA K H ds vs/\ul K H M/\sp ds M Q2/\ly K H Q2 Q
def sD(sp:dW)(t:e_):bT:=λ δ M Q=>t δ M λ ds M1=>sp ds M1 Q
abbrev bY(P:Program)(w:World)(K:K6)(mg:Str->Option gV)(base:Heap)(k:Nat)(x:Str)(ps:List Str)(sp:dW):Prop:=gC P w K mg base k x ps (bZ K sp)
section
variable {p:Pos}{t:e_}{sp:dW}
def aI(d:bY X.prog X.w X.K X.mg X.base k x ps sp)(ha:WA X (e::es) t)(hr:cw k X.A:=by exact hr.mono (by first|decide|lia))(hg:Gl X x:=by rfl)(oC:rj x:=by decide)(he:oq X e es:=by rfl)(gb:vR X pos es:=by rfl):WE X (.Call (.Name x p) (e::es) [] pos) (sD sp t):=by replace ha:=ha.h;refine⟨?_⟩;refine bH (Ru d hr hg ha oC he gb) ?_;rintro σ H Q ⟨δ,M,Q2,hs,hm,q,k⟩;exact⟨δ,M,_,hs,hm,q,λ xs H1 ds M1 hd bM t1 q1=>⟨ds,M1,Q2,hd,bM,q1,k.mono t1⟩⟩
end
def iU(N:List Str)(ds:List D):cY:=ds.map some++List.replicate (N.length-ds.length) none
def sm{N:List Str}{vs:List V}(h:aA K H ds vs):cX K H (iU N ds) (L2.start N vs):=by
 have hl:=h.length;refine⟨by unfold iU L2.start;simp[hl],λ i d e=>?_⟩;unfold iU at e;by_cases hi:i<ds.length
 ·rw[c4 (by simpa using hi),u6]at e;cases q:ds[i]? with
  |none=>rw[q]at e;cases e
  |some d'=>
   rw[q]at e;have e:d'=d:=by simpa using e
   subst e;obtain⟨v,hv,r⟩:=h.get q;refine⟨v,?_,r⟩;unfold L2.start;rw[c4 (by simp;lia),u6,hv];rfl
 ·rw[b9 (by simpa using hi),i6]at e;split at e<;>cases e
def fin2(Q:bF):bF:=λ d M'=>∃pH,qX pH M'/\Q d pH
def av{Q:bF}(q:Q d M):fin2 Q d M:=⟨M,qX.refl M,q⟩
def ok2{f:ap}{fd:FuncData}{N ps:List Str}{k:Nat}{sp:dW}(F:hW K x qual st f fd)(S:iD N ps (aB st))(len:∀ds M Q,sp ds M Q->ds.length=ps.length) (eQ:∀(dj:gV)(A:Around)(outer:List Env)(s:am)(H:Hp)(E:XK)(ds:List D)(M:Mem)(Q:bF),cw k (A.deeper (PyProof.Rows.envOfC qual (aB st) s.heap.objs.size f dj))->sp ds M Q->
   ∃t,QSs (rG dX P w K mg base N qual (aB st) f dj A outer s H E).ME (bw st) t/\t {nx:=λ _ M'=>fin2 Q .bo M',rt:=fin2 Q} (iU N ds) M):bB P w K mg base dX (k+1) f fd ps (bZ K sp):=by
 refine F.ok S (λ vs H Q E h=>?_) (λ dj A outer s H vs Q E hr h=>?_)
 ·obtain⟨ds,M,Q2,hd,_,hs,_⟩:=h;rw[hd.length];exact len ds M Q2 hs
 ·obtain⟨ds,M,Q2,hd,hm,hs,kk⟩:=h;obtain⟨t,ht,q⟩:=eQ dj A outer s H E ds M Q2 hr hs;refine⟨_,ht,iU N ds,M,_,sm hd,hm,q,⟨?_,?_,?_,?_⟩⟩
  ·exact λ σ' H' δ' M' _ fH t' ⟨pH,s,q⟩=>kk _ H' .bo pH (dv.mpr rfl) (fH.sub s) t' q
  ·exact λ v H' d M' ju fH t' ⟨pH,s,q⟩=>kk v H' d pH ju (fH.sub s) t' q
  ·exact λ σ' H' δ' M' _ fH t' q=>q
  ·exact λ σ' H' δ' M' _ fH t' q=>q
section
variable {rest:List Stmt}{t u:mH}
def Gj:mH:=λ E δ M=>E.nx δ M
def K_(t u:mH):mH:=λ E δ M=>t {E with nx:=u E} δ M
def br:Kk X [] Gj:=⟨Hd LW λ E σ H ⟨δ,M,D2,hs,hm,q,k⟩=>k.nx σ H δ M hs hm (ar.refl H) q⟩
def aj(h:WS X st t):Kk X [st] t:=⟨have h:=h.h;LV h⟩
def aa(h1:WS X st t)(h2:Kk X rest u):Kk X (st::rest) (K_ t u):=⟨have h1:=h1.h;have h2:=h2.h;Hd (Hb h1 h2) λ E σ H ⟨δ,M,D2,hs,hm,q,k⟩=>by
 refine⟨δ,M,_,hs,hm,q,⟨λ σ' H' δ' M' jV fH t' q'=>?_,k.rt,k.bk,k.ct⟩⟩;exact⟨δ',M',D2,jV,fH,q',k.mono t'⟩⟩
def Bl(te:bT):mH:=λ E δ M=>te δ M λ _ M1=>E.nx δ M1
def cC(he:WE X e te)(hs:swapsWith e none pos.line X.env=pure false:=by rfl):WS X (.Expr e pos) (Bl te):=⟨have he:=he.h;lO (LX he hs) λ E σ H ⟨δ,M,D2,hs,hm,q,k⟩=>
 ⟨δ,M,_,hs,hm,q,λ x H1 d M1 hd bM t1 q1=>k.nx σ H1 δ M1 (hs.mono t1) bM t1 q1⟩⟩
def Vd(te:bT):mH:=λ E δ M=>te δ M E.rt
def aJ(he:WE X e te):WS X (.Return (some e) pos) (Vd te):=⟨have he:=he.h;lO (Rc he) λ E σ H ⟨δ,M,D2,hs,hm,q,k⟩=>⟨δ,M,_,hs,hm,q,k.rt⟩⟩
def Qu(c:gn)(t u:mH):mH:=λ E δ M=>c δ M λ b M1=>if b=true then t E δ M1 else u E δ M1
def cM{c:Expr}{a b:List Stmt}{tc:gn}(hc:WT X c tc)(ha:Kk X a t)(hb:Kk X b u):WS X (.If c a b pos) (Qu tc t u):=⟨have hc:=hc.h;have ha:=ha.h;have hb:=hb.h;lO (VG hc ha hb) λ E σ H ⟨δ,M,D2,hs,hm,q,k⟩=>by
 refine⟨δ,M,_,hs,hm,q,λ b H1 M1 bM t1 q1=>?_⟩;cases b with
 |true=>rw[K1 rfl]at q1 ⊢;exact⟨δ,M1,D2,hs.mono t1,bM,q1,k.mono t1⟩
 |false=>
  rw[K3 o8]at q1 ⊢;exact⟨δ,M1,D2,hs.mono t1,bM,q1,k.mono t1⟩⟩
abbrev jA:=D->cY->Mem->(cY->Mem->Prop)->Prop
abbrev vD:=List D->cY->Mem->(cY->Mem->Prop)->Prop
def Qd(K:K6)(t:jA):TG:=λ v σ H Q=>∃d δ M Q2,sB K H d v/\cX K H δ σ/\ul K H M/\t d δ M Q2/\ou K H Q2 Q
def YU(K:K6)(t:vD):C_:=λ vs σ H Q=>∃ds δ M Q2,aA K H ds vs/\cX K H δ σ/\ul K H M/\t ds δ M Q2/\ou K H Q2 Q
abbrev QG(X:Cx)(tg:Expr)(t:jA):Prop:=PG X tg (Qd X.K t)
structure WG(X:Cx)(e:Expr)(t:jA):Prop where
 h:QG X e t
abbrev QGs(X:Cx)(tg:List Expr)(t:vD):Prop:=Uc X tg (YU X.K t)
structure YD(X:Cx)(e:List Expr)(t:vD):Prop where
 h:QGs X e t
def Ht(h:PG X tg g)(k:∀v σ H Q,g' v σ H Q->g v σ H Q):PG X tg g':=λ jp s σ H v u Q I r q=>h jp s σ H v u Q I r (k v σ H Q q)
def Hq{tg:List Expr}(h:Uc X tg g)(k:∀v σ H Q,g' v σ H Q->g v σ H Q):Uc X tg g':=λ jp s σ H v u Q I r q=>h jp s σ H v u Q I r (k v σ H Q q)
def rc(i:Nat):jA:=λ d δ M Q=>Q (δ.set i (some d)) M
def mW:∀v σ H Q,Qd K (rc i) v σ H Q->fV i v σ H Q:=λ v σ H Q ⟨d,δ,M,Q2,hd,hs,hm,q,k⟩=>k _ H _ M (hs.set hd) hm (ar.refl H) q
def aS(i:Nat)(hN:X.N.Nodup:=by exact nd)(hi:X.N[i]?=some x:=by rfl)(hx:Loc X.env.scope x:=by first|exact Or.inl rfl|exact Or.inr rfl)(hf:Kp X x:=by first|exact .inl rfl|exact .inr rfl|assumption):WG X (.Name x pos) (rc i):=⟨Ht (oU hN hi hx hf) mW⟩
def Jh:vD:=λ ds δ M Q=>match ds with
 |[]=>Q δ M
 |_=>False
def mj(t:jA)(u:vD):vD:=λ ds δ M Q=>match ds with
 |d::r=>t d δ M λ δ' M'=>u r δ' M' Q
 |_=>False
def eK:YD X [] Jh:=⟨Hq BE λ v σ H Q ⟨ds,δ,M,Q2,hd,hs,hm,q,k⟩=>by
 cases ds with
 |nil=>exact⟨ao.mp hd,k _ H _ M hs hm (ar.refl H) q⟩
 |cons d r=>exact q.elim⟩
def bg{t:jA}{u:vD}(h1:WG X e t)(h2:YD X es u)(hs:(assignEach (e::es) X.env).map (·.2)=assign e X.env::(assignEach es X.env).map (·.2):=by rfl):YD X (e::es) (mj t u):=⟨have h1:=h1.h;have h2:=h2.h;Hq (qi h1 h2 hs) λ v σ H Q ⟨ds,δ,M,Q2,hd,hs,hm,q,k⟩=>by
 cases ds with
 |nil=>exact q.elim
 |cons d r=>
  obtain⟨x,xs,rfl,hx,Wj⟩:=af.mp hd;refine⟨x,xs,rfl,d,δ,M,_,hx,hs,hm,q,λ σ' H' δ' M' jV fH t' q'=>?_⟩;exact⟨r,δ',M',Q2,aA.mono t' r Wj,jV,fH,q',k.mono t'⟩⟩
def Jg(n:Nat)(t:vD):jA:=λ d δ M Q=>match d with
 | .tup ds=>ds.length=n/\t ds δ M Q
 |_=>False
def gE{t:vD}(h:YD X es t)(hc:X.calm=true:=by rfl)(hn:(assignEach es X.env).length=n:=by rfl)(yT:(assignEach es X.env).findIdx? (·.1)=none:=by rfl):WG X (.Tuple es k pos) (Jg n t):=⟨have h:=h.h;Ht (Hr hc h hn yT) λ v σ H Q ⟨d,δ,M,Q2,hd,hs,hm,q,k⟩=>by
 cases d with
 |tup ds=>obtain⟨p,xs,rfl,hq,hx⟩:=aR.mp hd;exact⟨p,xs,rfl,hq,by rw[hx.length];exact q.1,ds,δ,M,Q2,hx,hs,hm,q.2,k⟩
 |_=>exact q.elim⟩
abbrev oo:=D->D->D->Mem->(Mem->Prop)->Prop
def XQ(K:K6)(H:Hp)(N2:Mem->Prop)(N:Hp->Prop):Prop:=∀H' M',ul K H' M'->ar H H'->N2 M'->N H'
def T9(K:K6)(r:Fc)(r2:oo):Prop:=∀o i v d j e H M Q2 Q,sB K H d o->sB K H j i->sB K H e v->ul K H M->r2 d j e M Q2->XQ K H Q2 Q->r o i v H Q
def Ol(X:Cx)(r2:oo):Prop:=∃r,vE X r/\T9 X.K r r2
def hSub(to ti:bT)(t:oo):jA:=λ e δ M Q=>to δ M λ d M1=>ti δ M1 λ j M2=>t d j e M2 λ M3=>Q δ M3
def eR{o i:Expr}{ti:bT}{t:oo}(ho:WE X o to)(hi:WE X i ti)(hs:Ol X t)(ha:∀v,assign (.Subscript o i pos) X.env v=(do
   let ov <- holding [v] (eval o X.env)
   let iv <- holding [v,ov] (eval i X.env)
   standAt pos
   holding [v,ov,iv] (setItem ov iv v)
   release [v,ov,iv] []):=by intro _;rfl):WG X (.Subscript o i pos) (hSub to ti t):=by
 replace ho:=ho.h;replace hi:=hi.h;refine⟨?_⟩;obtain⟨r,h1,hr⟩:=hs;refine Ht (Rm ho hi h1 ha) ?_;rintro v σ H Q ⟨e,δ,M,Q2,hd,hs,hm,q,k⟩;refine⟨δ,M,_,hs,hm,q,λ x H1 d M1 hx bM t1 q1=>?_⟩;refine⟨δ,M1,_,hs.mono t1,bM,q1,λ y H2 j M2 hy kU t2 q2=>?_⟩;exact hr x y v d j e H2 M2 _ _ (sB.mono t2 d hx) hy (sB.mono (t1.trans t2) e hd) kU q2 λ H3 M3 NA t3 q3=>k σ H3 δ M3 (hs.mono (t1.trans (t2.trans t3))) NA (t1.trans (t2.trans t3)) q3
def Gn(te:bT)(g:jA):mH:=λ E δ M=>te δ M λ d M1=>g d δ M1 E.nx
def yH(hg:∀v σ H Q,Qd K g2 v σ H Q->g v σ H Q):∀E σ H,YT K (Gn te g2) E σ H->KO (up K te) g E σ H:=by rintro E σ H ⟨δ,M,D2,hs,hm,q,k⟩;exact⟨δ,M,_,hs,hm,q,λ x H1 d M1 hd bM t1 q1=>hg x σ H1 _ ⟨d,δ,M1,_,hd,hs.mono t1,bM,q1,k.nx.mono t1⟩⟩
def dz(he:WE X e te)(hg:WG X tg g)(hs:swapsWithSole [tg] e pos.line X.env=pure false:=by rfl)(hw:swappedStores [tg] e X.env=pure none:=by rfl)(h1:(assignEach [tg] X.env).map (·.2)=[assign tg X.env]:=by rfl):WS X (.Assign [tg] e pos) (Gn te g):=⟨have he:=he.h;have hg:=hg.h;lO (Rh he hg hs hw h1) (yH λ _ _ _ _ h=>h)⟩
def aw(i:Nat)(he:WE X e te)(hN:X.N.Nodup:=by exact nd)(hi:X.N[i]?=some x:=by rfl)(hx:Loc X.env.scope x:=by first|exact Or.inl rfl|exact Or.inr rfl)(hs:swapsWith e (some (.Name x pos')) pos.line X.env=pure false:=by rfl)(hf:Kp X x:=by first|exact .inl rfl|exact .inr rfl|assumption):WS X (.Assign [.Name x pos'] e pos) (Gn te (rc i)):=⟨have he:=he.h;lO (Rb hN hi hx he hs hf) (yH mW)⟩
end
inductive Src where
 |fix (ds:List D)
 |at(a:ap)
 |fn (f:Mem->Option (List D))
def pc(s:Src)(M:Mem):Option (List D):=match s with
 | .fix ds=>some ds
 | .at a=>match M a with
  |some (.lst ds)=>some ds
  |_=>none
 | .fn f=>f M
def rN(K:K6)(H1:Hp)(J:It)(src:Src):Prop:=∀H M ds,ar H1 H->ul K H M->pc src M=some ds->
 (∀i,i<ds.length->J.go i H)/\(∀i,i=ds.length->J.stop i H)/\(∀i x H',i<ds.length->J.Kr i H x H'->ar H H'/\ul K H' M/\∃d,ds[i]?=some d/\sB K H' d x)
abbrev oG:=cY->Mem->(Src->Mem->Prop)->Prop
def UY(K:K6)(t:oG):TI:=λ σ H R=>∃δ M R2,cX K H δ σ/\ul K H M/\t δ M R2/\∀J H' src M',rN K H' J src->ul K H' M'->ar H H'->R2 src M'->R J H'
abbrev QI(X:Cx)(tg iter:Expr)(t:oG):Prop:=PI X tg iter (UY X.K t)
structure WI(X:Cx)(tg e:Expr)(t:oG):Prop where
 h:QI X tg e t
def BD{t t':TI}(h:PI X tg iter t)(k:∀σ H R,t' σ H R->t σ H R):PI X tg iter t':=λ jp s σ H R I q=>h jp s σ H R I (k σ H R q)
def mO(z:Str):List D:=z.cps.toList.map λ c=>D.str ⟨#[c]⟩
def dh(lo:Int)(n:Nat):List D:=(List.range n).map λ i=>D.int (lo+(i:Nat))
def bj(lo:Int)(n:Nat):(dh lo n).length=n:=by simp[dh]
def qe(h:i<n):(dh lo n)[i]?=some (.int (lo+(i:Nat))):=by simp[dh,h]
def ID{z:Str}:rN K H1 (UM z) (.fix (mO z)):=λ H M ds t hm e=>by
 cases e;have hl:(mO z).length=z.cps.size:=by simp[mO]
 refine⟨λ i hi=>by rw[hl]at hi;exact hi,λ i hi=>by rw[hl]at hi;exact hi,λ i x H' hi y=>?_⟩;obtain⟨e,c,hc,rfl⟩:=y;subst e;refine⟨ar.refl _,hm,.str ⟨#[c]⟩,?_,aU.mpr rfl⟩;simp[mO,hc]
def IC(h:hG K H1 a xs)(hd:aA K H1 ds xs):rN K H1 (Itt K a) (.fix ds):=λ H M es t hm e=>by cases e;have hq:=FU t h;have hx:=aA.mono t ds hd;have hl:=hx.length;refine⟨λ i hi=>⟨xs,xs[i]'(),hq,by simp[hl,hi]⟩,λ i hi=>⟨xs,hq,()⟩,λ i x H' hi y=>?_⟩;obtain⟨e,y⟩:=y;obtain⟨d,h1,h2⟩:=hx.uX (y xs hq);subst e;exact⟨ar.refl _,hm,d,h1,h2⟩
def IE:rN K H1 (YK K a) (.at a):=λ H M ds t hm e=>by
 have e:(match M a with|some (.lst ds)=>some ds|_=>none)=some ds:=e;cases q:M a with
 |none=>rw[q]at e;cases e
 |some o=>
  cases o with
  |bX b kvs=>rw[q]at e;cases e
  |eX x=>rw[q]at e;cases e
  |lst es=>rw[q]at e;have e:es=ds:=B0 e;subst e;obtain⟨xs,hx,hd⟩:=hm a _ q;have hq:eO K H a xs:=eO.of hx;have hl:=hd.length;refine⟨λ i hi=>⟨xs,xs[i]'(),hq,by simp[hl,hi]⟩,λ i hi=>⟨xs,hq,()⟩,λ i x H' hi y=>?_⟩;obtain⟨e,y⟩:=y;obtain⟨d,h1,h2⟩:=hd.uX (y xs hq);subst e;exact⟨ar.refl _,hm,d,h1,h2⟩
def Nk(h:Ko K H1 a xs)(hd:aA K H1 ds xs):rN K H1 (YK K a) (.fix ds):=λ H M es t hm e=>by cases e;have hq:=(Jp t h).sq;have hx:=aA.mono t ds hd;have hl:=hx.length;refine⟨λ i hi=>⟨xs,xs[i]'(),hq,by simp[hl,hi]⟩,λ i hi=>⟨xs,hq,()⟩,λ i x H' hi y=>?_⟩;obtain⟨e,y⟩:=y;obtain⟨d,h1,h2⟩:=hx.uX (y xs hq);subst e;exact⟨ar.refl _,hm,d,h1,h2⟩
def Ac:rN K H1 (YJ lo n) (.fix (dh lo n)):=λ H M ds t hm e=>by cases e;rw[bj];refine⟨λ i hi=>hi,λ i hi=>G0 hi.symm,λ i x H' hi y=>?_⟩;obtain⟨e,rfl⟩:=y;subst e;exact⟨ar.refl _,hm,_,qe hi,au.mpr rfl⟩
section
variable {l:Expr}{tl:bT}{ta:e_}{a b:Expr}{p:Pos}
def We(tl:bT):oG:=λ δ M R=>tl δ M λ d M1=>match d with
 | .str z=>R (.fix (mO z)) M1
 | .tup ds=>R (.fix ds) M1
 | .fl ds=>R (.fix ds) M1
 | .ref a=>match M1 a with
  |some (.lst _)=>R (.at a) M1
  |_=>False
 |_=>False
def cK(hl:WE X l tl):WI X tg l (We tl):=⟨have hl:=hl.h;BD (Rl hl) λ σ H R ⟨δ,M,R2,hs,hm,q,k⟩=>by
 refine⟨δ,M,_,hs,hm,q,λ x H1 d M1 hd bM t1 q1=>?_⟩;cases d with
 |str z=>cases(aU.mp hd);exact k _ H1 _ M1 ID bM t1 q1
 |tup ds=>obtain⟨p,xs,rfl,hq,hx⟩:=aR.mp hd;exact .inr ⟨xs,hq,k _ H1 _ M1 (IC hq hx) bM t1 q1⟩
 |fl ds=>obtain⟨p,xs,rfl,hq,hx⟩:=nz.mp hd;exact .inl ⟨xs,hq.sq,k _ H1 _ M1 (Nk hq hx) bM t1 q1⟩
 |ref a=>
  cases(ay.mp hd);have q1:(match M1 a with|some (.lst _)=>R2 (.at a) M1|_=>False):=q1;cases e:M1 a with
  |none=>rw[e]at q1;exact q1.elim
  |some o=>
   cases o with
   |bX b kvs=>rw[e]at q1;exact q1.elim
   |eX x=>rw[e]at q1;exact q1.elim
   |lst es=>rw[e]at q1;obtain⟨xs,hx,_⟩:=bM a _ e;exact .inl ⟨xs,eO.of hx,k _ H1 _ M1 IE bM t1 q1⟩
 |_=>exact q1.elim⟩
def InR(j:Int):Prop:= -(2^62)<=j/\j<2^62
def cW{j:Int}(h0: -1000000000<=j)(h1:j<=1000000000):InR j:=by
 constructor
 ·exact Int.le_trans (by decide) h0
 ·exact u3 h1 (by decide)
def O9(ta:e_):oG:=λ δ M R=>ta δ M λ ds M1=>match ds with
 |[.int j]=>InR j/\R (.fix (dh 0 j.toNat)) M1
 |_=>False
def bf(hm:X.mg "range"=none)(ha:WA X [a] ta)(hg:Gl X "range":=by rfl)(hs:starEach [a] X.env=[(false,eval a X.env)]:=by rfl):WI X tg (.Call (.Name "range" p) [a] [] pos) (O9 ta):=⟨have ha:=ha.h;BD (DS hg hm ha hs) λ σ H R ⟨δ,M,R2,hs,hm,q,k⟩=>by
 refine⟨δ,M,_,hs,hm,q,λ xs H1 ds M1 hd bM t1 q1=>?_⟩;cases ds with
 |nil=>exact q1.elim
 |cons d r=>
  cases r with
  |cons d2 r2=>cases d<;>exact q1.elim
  |nil=>
   cases d with
   |int j=>obtain⟨x,r,rfl,hx,hr⟩:=af.mp hd;cases(ao.mp hr);cases(au.mp hx);obtain⟨⟨b1,b2⟩,q1⟩:=q1;exact⟨j,rfl,b1,b2,k _ H1 _ M1 Ac bM t1 q1⟩
   |_=>exact q1.elim⟩
end
end L3
variable {R:L3.Src->L3.Mem->Prop}{wi:L3.oG}
namespace L3
open PySem.Spec L2
def Vh(wi:oG)(g:jA)(tb:mH):mH:=λ E δ M=>wi δ M λ src M1=>∃(B:Nat)(W:Nat->cY->Mem->Prop),W 0 δ M1/\∀i δ M,W i δ M->i<=B/\match pc src M with
 |none=>False
 |some ds=>match ds[i]? with
  |none=>i=ds.length/\E.nx δ M
  |some d=>g d δ M λ δ2 M2=>tb {E with nx:=W (i+1),ct:=W (i+1),bk:=E.nx} δ2 M2
section
variable {g:jA}{tb:mH}
def df(hi:WI X tg iter wi)(hg:WG X tg g)(hb:Kk X body tb)(hp:YG X:=by first|exact PassesOwn.never|exact JE)(hc:X.calm=true:=by rfl)(hs:Oq X iter:=by intro _;rfl):WS X (.For tg iter body [] pos) (Vh wi g tb):=⟨have hi:=hi.h;have hg:=hg.h;have hb:=hb.h;lO (Rf hp hc hi hg hb hs) λ E σ H ⟨δ,M,D2,hs,hm,q,k⟩=>by
 refine⟨δ,M,_,hs,hm,q,λ J H1 src M1 ok bM t1 q1=>?_⟩;obtain⟨B,W,w0,turn⟩:=q1;refine⟨λ i m σ' H'=>m=B+1-i/\∃δ' M',cX X.K H' δ' σ'/\ul X.K H' M'/\ar H1 H'/\W i δ' M',⟨B+1,rfl,δ,M1,hs.mono t1,bM,ar.refl _,w0⟩,?_⟩;rintro i m σ' H' ⟨rfl,δ',M',jV,fH,t',w'⟩;obtain⟨hB,h⟩:=turn i δ' M' w';cases ei:pc src M' with
 |none=>rw[ei]at h;exact h.elim
 |some ds=>
  rw[ei]at h;obtain⟨go,stop,Kr⟩:=ok H' M' ds t' fH ei;cases ed:ds[i]? with
  |none=>simp only[ed]at h;exact .inl ⟨stop i h.1,k.nx σ' H' δ' M' jV fH (t1.trans t') h.2⟩
  |some d=>
   simp only[ed]at h;have Pd:i<ds.length:=(c7.mp ed).1;refine .inr ⟨go i Pd,λ σ2 H2=>∃δ2 M2,cX X.K H2 δ2 σ2/\ul X.K H2 M2/\ar H1 H2/\W (i+1) δ2 M2,λ σ2 H2 ⟨δ2,M2,a,b,c,w2⟩=>⟨B+1-(i+1),(),rfl,δ2,M2,a,b,c,w2⟩,λ x H2 y=>?_⟩;obtain⟨t2,kU,d',e',ju⟩:=Kr i x H2 Pd y;rw[ed]at e';cases e';refine⟨d,δ',M',_,ju,jV.mono t2,kU,h,λ σ3 H3 δ3 M3 S0 NA t3 q3=>?_⟩;refine⟨δ3,M3,_,S0,NA,q3,⟨?_,?_,?_,?_⟩⟩
   ·exact λ σ4 H4 δ4 M4 a b c w4=>⟨δ4,M4,a,b,t'.trans (t2.trans (t3.trans c)),w4⟩
   ·exact k.rt.mono (t1.trans (t'.trans (t2.trans t3)))
   ·exact k.nx.mono (t1.trans (t'.trans (t2.trans t3)))
   ·exact λ σ4 H4 δ4 M4 a b c w4=>⟨δ4,M4,a,b,t'.trans (t2.trans (t3.trans c)),w4⟩⟩
end
def Gi(c:gn)(tb:mH):mH:=λ E δ M=>∃W:Nat->cY->Mem->Prop,(∃m,W m δ M)/\∀m δ M,W m δ M->c δ M λ b M1=>
 if b=true then ∃N:cY->Mem->Prop,(∀δ' M',N δ' M'->∃m',m'<m/\W m' δ' M')/\tb {E with nx:=N,ct:=N,bk:=E.nx} δ M1 else E.nx δ M1
section
variable {c:Expr}{tc:gn}{tb:mH}
def fJ(hc:WT X c tc)(hb:Kk X body tb)(hp:YG X:=by first|exact PassesOwn.never|exact JE):WS X (.While c body [] pos) (Gi tc tb):=⟨have hc:=hc.h;have hb:=hb.h;lO (He hp hc hb) λ E σ H ⟨δ,M,D2,hs,hm,q,k⟩=>by
 obtain⟨W,⟨m0,w0⟩,turn⟩:=q;refine⟨λ m σ' H'=>∃δ' M',cX X.K H' δ' σ'/\ul X.K H' M'/\ar H H'/\W m δ' M',⟨m0,δ,M,hs,hm,ar.refl _,w0⟩,?_⟩;rintro m σ' H' ⟨δ',M',jV,fH,t',w'⟩;refine⟨δ',M',_,jV,fH,turn m δ' M' w',λ b H1 M1 bM t1 q1=>?_⟩;cases b with
 |false=>simp only[p5,J7]at q1;exact k.nx σ' H1 δ' M1 (jV.mono t1) bM (t'.trans t1) q1
 |true=>
  simp only[K0]at q1;obtain⟨N,hN,q1⟩:=q1;refine⟨λ σ2 H2=>∃δ2 M2,cX X.K H2 δ2 σ2/\ul X.K H2 M2/\ar H H2/\N δ2 M2,λ σ2 H2 ⟨δ2,M2,a,b,c,n2⟩=>?_,?_⟩
  ·obtain⟨m',fH,w2⟩:=hN δ2 M2 n2;exact⟨m',fH,δ2,M2,a,b,c,w2⟩
  ·refine⟨δ',M1,_,jV.mono t1,bM,q1,⟨?_,?_,?_,?_⟩⟩
   ·exact λ σ4 H4 δ4 M4 a b c w4=>⟨δ4,M4,a,b,t'.trans (t1.trans c),w4⟩
   ·exact k.rt.mono (t'.trans t1)
   ·exact k.nx.mono (t'.trans t1)
   ·exact λ σ4 H4 δ4 M4 a b c w4=>⟨δ4,M4,a,b,t'.trans (t1.trans c),w4⟩⟩
end
def kZ(n:Nat)(fr:List Nat)(δ:cY):cY:=List.replicate n none++fr.map (λ j=>δ.getD j none)
def Of(h:cX K H δ σ)(n:Nat)(fr:List Nat):cX K H (kZ n fr δ) (gB n fr σ):=by
 refine⟨by simp[kZ,gB],λ i d e=>?_⟩;unfold kZ at e;by_cases hi:i<n
 ·rw[c4 (by simpa using hi),i6,K1 hi]at e;cases e
 ·rw[b9 (by simpa using hi),k4,u6]at e;cases ej:fr[i-n]? with
  |none=>rw[ej]at e;cases e
  |some j=>
   rw[ej]at e;have e:δ.getD j none=some d:=B0 e;have hj:j < δ.length:=by refine y7 λ z=>?_;rw[c3,k5 z]at e;cases e
   have e':δ[j]?=some (some d):=by rw[c3,g9 hj]at e;rw[g9 hj];exact J8 some e
   obtain⟨v,hv,r⟩:=h.get j d e';refine⟨v,?_,r⟩;unfold gB;rw[b9 (by simpa using hi),k4,u6,ej];simp[c3,hv]
def kz(wi:oG)(g:jA)(tt:gn)(te:bT)(n:Nat)(fr:List Nat):cY->Mem->(List D->Mem->Prop)->Prop:=λ δ M Q=>wi δ M λ src M1=>∃(B:Nat)(W:Nat->List D->Mem->Prop),W 0 [] M1/\∀i li M,W i li M->i<=B/\li.length<=sizeLine/\match pc src M with
 |none=>False
 |some ds=>match ds[i]? with
  |none=>i=ds.length/\Q li M
  |some d=>g d (kZ n fr δ) M λ δ2 M2=>tt δ2 M2 λ b M3=>if b=true then te δ2 M3 λ y M4=>W (i+1) (li++[y]) M4 else W (i+1) li M3
def jT{Q:V->Hp->Prop}{gv:TG}(hgl:∀v σ H Q,Qd K g v σ H Q->gv v σ H Q)(hs:cX K H δ σ)(hm:ul K H M)(q:kz wi g tt te n fr δ M Qe)(k:∀li xs H' M' p,aA K H' li xs->ul K H' M'->ar H H'->li.length<=sizeLine->H' p=none->Qe li M'->Q (.ref p) (u8 H' p (.lst xs))):sg (UY K wi) gv (Ff K tt) (up K te) n fr σ H Q:=by
 refine⟨δ,M,_,hs,hm,q,λ J H1 src M1 ok bM t1 q1=>?_⟩;obtain⟨B,W,w0,turn⟩:=q1;refine⟨λ i m xs H'=>m=B+1-i/\∃li M',aA K H' li xs/\ul K H' M'/\ar H1 H'/\W i li M',⟨B+1,rfl,[],M1,by rw[ao],bM,ar.refl _,w0⟩,?_⟩;rintro i m xs H' ⟨rfl,li,M',ju,fH,t',w'⟩;obtain⟨hB,hz,h⟩:=turn i li M' w';refine⟨by rw[ju.length];exact hz,?_⟩;cases ei:pc src M' with
 |none=>rw[ei]at h;exact h.elim
 |some ds=>
  rw[ei]at h;obtain⟨go,stop,Kr⟩:=ok H' M' ds t' fH ei;cases ed:ds[i]? with
  |none=>simp only[ed]at h;exact .inl ⟨stop i h.1,λ p hp=>k li xs H' M' p ju fH (t1.trans t') hz hp h.2⟩
  |some d=>
   simp only[ed]at h;have Pd:i<ds.length:=(c7.mp ed).1;refine .inr ⟨go i Pd,λ ys H2=>∃Oj M2,aA K H2 Oj ys/\ul K H2 M2/\ar H1 H2/\W (i+1) Oj M2,λ ys H2 ⟨Oj,M2,a,b,c,w2⟩=>⟨B+1-(i+1),(),rfl,Oj,M2,a,b,c,w2⟩,λ x H2 y=>?_⟩;obtain⟨t2,kU,d',e',sS⟩:=Kr i x H2 Pd y;rw[ed]at e';cases e';refine hgl _ _ _ _ ⟨d,kZ n fr δ,M',_,sS,Of (hs.mono (t1.trans (t'.trans t2))) n fr,kU,h,λ σ3 H3 δ3 M3 S0 NA t3 q3=>?_⟩;refine⟨δ3,M3,_,S0,NA,q3,λ b H4 M4 hm4 t4 q4=>?_⟩;cases b with
   |false=>rw[K3 o8]at q4 ⊢;exact⟨li,M4,aA.mono (t2.trans (t3.trans t4)) li ju,hm4,t'.trans (t2.trans (t3.trans t4)),q4⟩
   |true=>rw[K1 rfl]at q4 ⊢;exact⟨δ3,M4,_,S0.mono t4,hm4,q4,λ yv H5 y5 M5 hy5 hm5 t5 q5=>⟨li++[y5],M5,(aA.mono (t2.trans (t3.trans (t4.trans t5))) li ju).append (aA.one hy5),hm5,t'.trans (t2.trans (t3.trans (t4.trans t5))),q5⟩⟩
section
variable {g:jA}
abbrev QIf(X:Cx)(ifs:List Expr)(t:gn):Prop:=UJ X ifs (Ff X.K t)
structure XA(X:Cx)(e:List Expr)(t:gn):Prop where
 h:QIf X e t
def zt:gn:=λ _ M Q=>Q true M
def aZ:XA X [] zt:=⟨λ jp s σ H Q I h=>L9 jp s σ H Q I (by
 obtain⟨δ,M,Q2,hs,hm,q,k⟩:=h;exact k _ _ _ hm (ar.refl H) q)⟩
def oM{c:Expr}{t:gn}(h:WT X c t):XA X [c] t:=⟨have h:=h.h;L8 h⟩
def TgC(X:Cx)(scope:Scope)(cD:List Str)(fr:List Nat)(tg:Expr)(g2:jA):Prop:=
 ∃g:TG,(∀cl C fp s H,PG (bq X scope cl cD fr C fp s H) tg g)/\lr cD.length g/\∀v σ H Q,Qd X.K g2 v σ H Q->g v σ H Q
structure T7(X:Cx)(scope:Scope)(cD:List Str)(fr:List Nat)(tg:Expr)(g:jA):Prop where
 h:TgC X scope cD fr tg g
def FA{ps:Pos}(h:∀cl C fp s H,PG (bq X scope cl cD fr C fp s H) (.Name x ps) (fV i))(hi:i<cD.length):T7 X scope cD fr (.Name x ps) (rc i):=⟨⟨_,h,uW hi,mW⟩⟩
def JS(g:TG):Prop:=∀x σ H Q Q',(∀σ' H',Q σ' H'->Q' σ' H')->g x σ H Q->g x σ H Q'
def vG(g:C_):Prop:=∀xs σ H Q Q',(∀σ' H',Q σ' H'->Q' σ' H')->g xs σ H Q->g xs σ H Q'
def uV:JS (fV i):=λ x σ H Q Q' k q=>k _ _ q
def Jl:vG EB:=λ xs σ H Q Q' k q=>⟨q.1,k _ _ q.2⟩
def NJ{t:TG}{u:C_}(ht:JS t)(hu:vG u):vG (mq t u):=λ xs σ H Q Q' k ⟨v,r,e,q⟩=>⟨v,r,e,ht v σ H _ _ (λ σ' H' q'=>hu r σ' H' _ _ k q') q⟩
def Cv{t:TG}{u:C_}(h:lr n t)(k:pI n u)(ht:JS t)(hu:vG u):pI n (mq t u):=λ xs σ H Q ⟨v,r,e,q⟩=>by refine⟨v,r,e,ht v σ H _ _ (λ σ' H' ⟨q',l',k'⟩=>?_) (h v σ H _ q)⟩;refine hu r σ' H' _ _ (λ σ2 H2 ⟨q2,l2,k2⟩=>⟨q2,l2.trans l',λ j hj=>(k2 j hj).trans (k' j hj)⟩) (k r σ' H' _ q')
def Tv{t:C_}(h:pI m t):lr m (Jn K n t):=λ x σ H Q ⟨a,xs,e,hq,hl,q⟩=>⟨a,xs,e,hq,hl,h xs σ H _ q⟩
def DD:∀v σ H Q,Qd K (Jg 2 (mj (rc i) (mj (rc j) Jh))) v σ H Q->Jn K 2 (mq (fV i) (mq (fV j) EB)) v σ H Q:=λ v σ H Q ⟨d,δ,M,Q2,hd,hs,hm,q,k⟩=>by
 cases d with
 |tup ds=>
  obtain⟨p,xs,rfl,hq,hx⟩:=aR.mp hd;obtain⟨hl,q⟩:=q
  match ds,hl,hx,q with
  |[a,b],hl,hx,q=>obtain⟨x,r,rfl,ha,hx⟩:=af.mp hx;obtain⟨y,r,rfl,hb,hx⟩:=af.mp hx;cases(ao.mp hx);exact⟨p,[x,y],rfl,hq,rfl,x,[y],rfl,y,[],rfl,rfl,k _ H _ M ((hs.set ha).set hb) hm (ar.refl H) q⟩
 |_=>exact q.elim
def Fz{y:Str}{pt:Pos}(h:∀cl C fp s H,PG (bq X scope cl cD fr C fp s H) (.Tuple [.Name x px,.Name y py] k pt) (Jn X.K 2 (mq (fV i) (mq (fV j) EB))))(hi:i<cD.length)(hj:j<cD.length):T7 X scope cD fr (.Tuple [.Name x px,.Name y py] k pt) (Jg 2 (mj (rc i) (mj (rc j) Jh))):=⟨⟨_,h,Tv (Cv (uW hi) (Cv (uW hj) Tw uV Jl) uV (NJ uV Jl)),DD⟩⟩
def Ue(X:Cx)(scope:Scope)(cD:List Str)(fr:List Nat)(tg iter:Expr)(ifs:List Expr)(elt:Expr)(wi:oG)(g:jA)(tt:gn)(te:bT):Prop:=
 jC X scope fr/\X.calm=true/\(∀e s,X.xe e s->False)/\QI X tg iter wi/\TgC X scope cD fr tg g/\(∀cl C fp s H,QIf (bq X scope cl cD fr C fp s H) ifs tt)/\(∀cl C fp s H,QE (bq X scope cl cD fr C fp s H) elt te)
structure fm(X:Cx)(scope:Scope)(cD:List Str)(fr:List Nat)(tg iter:Expr)(ifs:List Expr)(elt:Expr)(wi:oG)(g:jA)(tt:gn)(te:bT):Prop where
 b:jC X scope fr
 calm:X.calm=true
 xe:∀e s,X.xe e s->False
 it:WI X tg iter wi
 UZ:T7 X scope cD fr tg g
 ifs:∀cl C fp s H,XA (bq X scope cl cD fr C fp s H) ifs tt
 elt:∀cl C fp s H,WE (bq X scope cl cD fr C fp s H) elt te
def fm.h(C:fm X scope cD fr tg iter ifs elt wi g tt te):Ue X scope cD fr tg iter ifs elt wi g tt te:=
 ⟨C.b,C.calm,C.xe,C.it.h,C.UZ.h,λ cl D fp s H=>(C.ifs cl D fp s H).h,λ cl D fp s H=>(C.elt cl D fp s H).h⟩
def Gm(wi:oG)(g:jA)(tt:gn)(te:bT)(n:Nat)(fr:List Nat):bT:=λ δ M Q=>kz wi g tt te n fr δ M λ ds M'=>∀p,M' p=none->Q (.ref p) (ag M' p (.lst ds))
def hX(C:fm X scope cD fr tg iter ifs elt wi g tt te)(hs:Oq X iter:=by intro _;rfl):WE X (.ListComp elt [⟨tg,iter,ifs,0⟩] scope pos) (Gm wi g tt te cD.length fr):=by replace C:=C.h;refine⟨?_⟩;obtain⟨B,hc,hE,hi,⟨gv,hg,gk,gl⟩,ht,he⟩:=C;refine bH (oV (tt:=Ff X.K tt) (te:=up X.K te) B hc hE hi hg gk ht he hs) ?_;rintro σ H Q ⟨δ,M,Q2,hs,hm,q,k⟩;exact jT gl hs hm q λ li xs H' M' p hd fH t' hz hp q'=>k _ _ (.ref p) _ (ay.mpr rfl) (dN hp hd fH) (t'.trans (ar.laid hp)) (q' p (fH.free hp))
def cB{y:Str}{py FV:Pos}(i:Nat)(C:fm X scope cD fr tg iter ifs elt wi g tt te)(hN:X.N.Nodup:=by exact nd)(hiy:X.N[i]?=some y:=by rfl)(hy:Loc X.env.scope y:=by first|exact Or.inl rfl|exact Or.inr rfl)(Z9:swapsWith (.ListComp elt [⟨tg,iter,ifs,0⟩] scope pos) (some (.Name y py)) FV.line X.env=pure true:=by rfl)(hf:Kp X y:=by first|exact .inl rfl|exact .inr rfl|assumption)(hs:Oq X iter:=by intro _;rfl):WS X (.Assign [.Name y py] (.ListComp elt [⟨tg,iter,ifs,0⟩] scope pos) FV) (Gn (Gm wi g tt te cD.length fr) (rc i)):=by replace C:=C.h;refine⟨?_⟩;obtain⟨B,hc,hE,hi,⟨gv,hg,gk,gl⟩,ht,he⟩:=C;refine lO (zI (tt:=Ff X.K tt) (te:=up X.K te) hN hiy hy B hc hE hi hg gk ht he Z9 hf hs) ?_;rintro E σ H ⟨δ,M,D2,hs,hm,q,k⟩;exact jT gl hs hm q λ li xs H' M' p hd fH t' hz hp q'=>k.nx _ _ _ _ (((hs.mono t').mono (ar.laid hp)).set (ay.mpr rfl)) (dN hp hd fH) (t'.trans (ar.laid hp)) (q' p (fH.free hp))
def K9(r3:List D->Mem->bF->Prop)(wi:oG)(g:jA)(tt:gn)(te:bT)(n:Nat)(fr:List Nat):bT:=λ δ M Q=>kz wi g tt te n fr δ M λ ds M'=>r3 ds M' Q
def yI(r2:List D->Mem->bF->Prop)(r3:List D->Mem->bF->Prop):Prop:=∀ds M p Q,M p=none->ds.length<=sizeLine->r3 ds M Q->r2 [.ref p] (ag M p (.lst ds)) (fin2 Q)
def xO{Q:VK}(k:ly K H Q2 Q):ly K H (fin2 Q2) Q:=λ v H' d M' hd hm t ⟨pH,s,q⟩=>k v H' d pH hd (hm.sub s) t q
variable {p:Pos}{id:String}
def vX(gl:∀v σ H Q,Qd X.K g v σ H Q->gv v σ H Q)(hr:Ua X.K r r2)(h3:yI r2 r3):∀σ H Q,up X.K (K9 r3 wi g tt te cD.length fr) σ H Q->XY r (FP (sg (UY X.K wi) gv (Ff X.K tt) (up X.K te) cD.length fr) Ql) σ H Q:=by rintro σ H Q ⟨δ,M,Q2,hs,hm,q,k⟩;show sg (UY X.K wi) gv (Ff X.K tt) (up X.K te) cD.length fr σ H (λ x H1=>r [x] H1 Q);refine jT gl hs hm q λ li xs H' M' p hd fH t' hz hp q'=>?_;exact hr [.ref p] [.ref p] _ _ (fin2 Q2) Q (aA.one (ay.mpr rfl)) (dN hp hd fH) (h3 li M' p Q2 (fH.free hp) hz q') (xO (k.mono (t'.trans (ar.laid hp))))
def PX(o:fZ X (.builtin id) r2)(h3:yI r2 r3)(hm:X.mg x=none)(C:fm X scope cD fr tg iter ifs elt wi g tt te)(hg:Gl X x:=by rfl)(hv:bootBuiltins x=some (.builtin id):=by decide+kernel)(hn:x≠"__name__":=by decide)(oC:rj x:=by decide)(hs:Oq X iter:=by intro _;rfl):WE X (.Call (.Name x p) [.ListComp elt [⟨tg,iter,ifs,0⟩] scope cL] [] pos) (K9 r3 wi g tt te cD.length fr):=by replace C:=C.h;refine⟨?_⟩;obtain⟨B,hc,hE,hi,⟨gv,WQ,gk,gl⟩,ht,he⟩:=C;obtain⟨r,ho,hr⟩:=o;exact bH (wM ho hg hm hv (ig (oV (tt:=Ff X.K tt) (te:=up X.K te) B hc hE hi WQ gk ht he hs) kH) hn oC) (vX gl hr h3)
def fL(o:fZ X (.type T) r2)(h3:yI r2 r3)(hm:X.mg x=none)(C:fm X scope cD fr tg iter ifs elt wi g tt te)(hg:Gl X x:=by rfl)(hv:bootBuiltins x=some (.type T):=by decide+kernel)(hn:x≠"__name__":=by decide)(oC:rj x:=by decide)(hs:Oq X iter:=by intro _;rfl):WE X (.Call (.Name x p) [.ListComp elt [⟨tg,iter,ifs,0⟩] scope cL] [] pos) (K9 r3 wi g tt te cD.length fr):=by replace C:=C.h;refine⟨?_⟩;obtain⟨B,hc,hE,hi,⟨gv,WQ,gk,gl⟩,ht,he⟩:=C;obtain⟨r,ho,hr⟩:=o;exact bH (jH ho hg hm hv (ig (oV (tt:=Ff X.K tt) (te:=up X.K te) B hc hE hi WQ gk ht he hs) kH) hn oC) (vX gl hr h3)
variable {o:Expr}{to:bT}
def OJ(T:String)(r3:D->List D->Mem->bF->Prop)(to:bT)(wi:oG)(g:jA)(tt:gn)(te:bT)(n:Nat)(fr:List Nat):bT:=λ δ M Q=>to δ M λ d M1=>Ox T d M1/\kz wi g tt te n fr δ M1 λ ds M'=>r3 d ds M' Q
def JR(r2:D->List D->Mem->bF->Prop)(r3:D->List D->Mem->bF->Prop):Prop:=∀d ds M p Q,M p=none->ds.length<=sizeLine->r3 d ds M Q->r2 d [.ref p] (ag M p (.lst ds)) (fin2 Q)
def PV{r2:D->List D->Mem->bF->Prop}(pa:PlainAttrs T)(slot:Slot T name id)(Eu:UL id)(hm:PH X id r2)(h3:JR r2 r3)(ho:WE X o to)(C:fm X scope cD fr tg iter ifs elt wi g tt te)(hs:Oq X iter:=by intro _;rfl)(gX:Ui X o name:=by rfl)(iq:((backTo pos (starEach [.ListComp elt [⟨tg,iter,ifs,0⟩] scope cL] X.env)).all (λ x=>!x.1)&&(backToKw pos (keywordEach [] X.env)).all (λ x=>x.1.isSome)
   &&decide (([.ListComp elt [⟨tg,iter,ifs,0⟩] scope cL]:List Expr).length+([]:List Keyword).length+(if([]:List Keyword).isEmpty then 0 else 1)<30))=true:=by rfl) (gW:Ud apos pos:=by rfl):WE X (.Call (.Attribute o name apos) [.ListComp elt [⟨tg,iter,ifs,0⟩] scope cL] [] pos) (OJ T r3 to wi g tt te cD.length fr):=by
 replace ho:=ho.h;replace C:=C.h;refine⟨?_⟩;obtain⟨B,hc,hE,hi,⟨gv,WQ,gk,gl⟩,ht,he⟩:=C;obtain⟨r,h1,hr⟩:=hm;refine bH (OY pa slot Eu h1 ho (ig (oV (tt:=Ff X.K tt) (te:=up X.K te) B hc hE hi WQ gk ht he hs) kH) gX iq gW) ?_;rintro σ H Q ⟨δ,M,Q2,hs,hm,q,k⟩;refine⟨δ,M,_,hs,hm,q,λ x H1 d M1 hd bM t1 q1=>⟨q1.1.v9 hd bM,?_⟩⟩;show sg (UY X.K wi) gv (Ff X.K tt) (up X.K te) cD.length fr σ H1 (λ y H2=>r x [y] H2 Q);refine jT gl (hs.mono t1) bM q1.2 λ li xs H' M' p xI fH t' hz hp q'=>?_;exact hr x [.ref p] d [.ref p] _ _ (fin2 Q2) Q (sB.mono (t'.trans (ar.laid hp)) d hd) (aA.one (ay.mpr rfl)) (dN hp xI fH) (h3 d li M' p Q2 (fH.free hp) hz q') (xO (k.mono (t1.trans (t'.trans (ar.laid hp)))))
end
def dI(C:Int->Int->Prop)(g:Int->Int->D):iR:=λ x y M Q=>match x,y with
 | .int i,.int j=>C i j/\Q (g i j) M
 |_,_=>False
def N8(g:Int->Int->D):iR:=λ x y M Q=>match x,y with
 | .int i,.int j=>Q (g i j) M
 |_,_=>False
def si{f:gV->gV->Sem gV}{g:Int->Int->Int}(h:gM X f (rI C λ i j=>.int (g i j))):iC X f (dI C λ i j=>.int (g i j)):=⟨_,h,λ x y d e H M Q2 Q hd he hm q k=>by
 cases d<;>cases e<;>first
  |exact q.elim
  |(cases(au.mp hd);cases(au.mp he);exact⟨_,_,rfl,rfl,q.1,k _ H _ M (au.mpr rfl) hm (ar.refl H) q.2⟩)⟩
def si0{f:gV->gV->Sem gV}{g:Int->Int->Int}(h:gM X f (J_ λ i j=>.int (g i j))):iC X f (N8 λ i j=>.int (g i j)):=⟨_,h,λ x y d e H M Q2 Q hd he hm q k=>by
 cases d<;>cases e<;>first
  |exact q.elim
  |(cases(au.mp hd);cases(au.mp he);exact⟨_,_,rfl,rfl,k _ H _ M (au.mpr rfl) hm (ar.refl H) q⟩)⟩
def Zd{f:gV->gV->Sem gV}{g:Int->Int->Bool}(h:gM X f (J_ λ i j=>.bl (g i j))):iC X f (N8 λ i j=>.bl (g i j)):=⟨_,h,λ x y d e H M Q2 Q hd he hm q k=>by
 cases d<;>cases e<;>first
  |exact q.elim
  |(cases(au.mp hd);cases(au.mp he);exact⟨_,_,rfl,rfl,k _ H _ M (aY.mpr rfl) hm (ar.refl H) q⟩)⟩
def BG:iC X (binaryOp .Sub) (N8 λ i j=>.int (i-j)):=si0 RB
def j_:iC X (binaryOp .Mod) (dI (λ _ j=>0<j) λ i j=>.int (i%j)):=si RH
def uo:iC X (binaryOp .FloorDiv) (dI Uh λ i j=>.int (i/j)):=si Mk
def VW:iC X (binaryOp .Pow) (dI XT λ i j=>.int (i^j.toNat)):=si RD
def VV:iC X (binaryOp .BitXor) (N8 λ i j=>.int (Builtin.bitXor i j)):=si0 RA
def zQ:iC X (compareOp .Lt) (N8 λ i j=>.bl (decide (i<j))):=Zd VO
def HS:iC X (compareOp .Gt) (N8 λ i j=>.bl (decide (j<i))):=Zd VP
def Zv:iC X (compareOp .GtE) (N8 λ i j=>.bl (decide (j<=i))):=Zd VQ
def N9:iR:=λ x y M Q=>match x,y with
 | .int i,.int j=>Q (.int (i+j)) M
 | .str i,.str j=>i.length+j.length<=sizeLine/\Q (.str (i++j)) M
 | .tup xs,.tup ys=>xs≠[]/\xs.length+ys.length<=sizeLine/\Q (.tup (xs++ys)) M
 | .ref a,.ref b=>match M a,M b with
  |some (.lst xs),some (.lst ys)=>xs.length+ys.length<=sizeLine/\∀p,M p=none->Q (.ref p) (ag M p (.lst (xs++ys)))
  |_,_=>False
 |_,_=>False
def VZ:iC X (binaryOp .Add) N9:=⟨_,RM.or (zP.or (RL.or Ml)),λ x y d e H M Q2 Q hd he hm q k=>by
 cases d with
 |int i=>
  cases e with
  |int j=>cases(au.mp hd);cases(au.mp he);exact .inl ⟨_,_,rfl,rfl,k _ H _ M (au.mpr rfl) hm (ar.refl H) q⟩
  |_=>exact q.elim
 |str i=>
  cases e with
  |str j=>cases(aU.mp hd);cases(aU.mp he);exact .inr (.inl ⟨_,_,rfl,rfl,q.1,k _ H _ M (aU.mpr rfl) hm (ar.refl H) q.2⟩)
  |_=>exact q.elim
 |tup xs=>
  cases e with
  |tup ys=>
   obtain⟨p,vs,rfl,hp,hx⟩:=aR.mp hd;obtain⟨p2,ws,rfl,eZ,hy⟩:=aR.mp he;obtain⟨iQ,hlen,q⟩:=q;refine .inr (.inr (.inr ⟨p,p2,vs,ws,rfl,rfl,hp,eZ,?_,by rw[hx.length,hy.length];exact hlen,?_⟩))
   ·intro z;have:=hx.length;rw[z]at this;exact iQ (i8.mp this.symm)
   ·refine⟨λ hz=>?_,λ hz p3 Us=>?_⟩
    ·have hy0:ys=[]:=by have:=hy.length;rw[hz]at this;exact i8.mp this.symm
     subst hy0;rw[A5]at q;exact k _ H _ M (aR.mpr ⟨p,vs,rfl,hp,hx⟩) hm (ar.refl H) q
    ·exact k _ _ _ M (h_ Us (hx.append hy)) (hm.laid Us) (ar.laid Us) q
  |_=>exact q.elim
 |ref a=>
  cases e with
  |ref b=>
   cases(ay.mp hd);cases(ay.mp he);have q:(match M a,M b with|some (.lst xs),some (.lst ys)=>xs.length+ys.length<=sizeLine/\∀p,M p=none->Q2 (.ref p) (ag M p (.lst (xs++ys)))|_,_=>False):=q;cases ea:M a with
   |none=>rw[ea]at q;exact q.elim
   |some oa=>
    cases eb:M b with
    |none=>rw[ea,eb]at q;cases oa<;>exact q.elim
    |some ob=>
     cases oa with
     |bX b kvs=>rw[ea,eb]at q;exact q.elim
     |eX x=>rw[ea,eb]at q;exact q.elim
     |lst xs=>
      cases ob with
      |bX b kvs=>rw[ea,eb]at q;exact q.elim
      |eX x=>rw[ea,eb]at q;exact q.elim
      |lst ys=>rw[ea,eb]at q;obtain⟨vs,hvs,vP⟩:=hm a _ ea;obtain⟨ws,ZV,dws⟩:=hm b _ eb;refine .inr (.inr (.inl ⟨a,b,vs,ws,rfl,rfl,hvs,ZV,by rw[vP.length,dws.length];exact q.1,λ p hp=>?_⟩));exact k _ _ (.ref p) _ (ay.mpr rfl) (dN hp (vP.append dws) hm) (ar.laid hp) (q.2 p (hm.free hp))
  |_=>exact q.elim
 |_=>exact q.elim⟩
def N7:iR:=λ x y M Q=>match x,y with
 | .int i,.int j=>vH i j/\Q (.int (i*j)) M
 | .str z,.int n=>MulOk z n/\Q (.str (Txt.mul z n)) M
 |_,_=>False
def VY:iC X (binaryOp .Mult) N7:=⟨_,RG.or zO,λ x y d e H M Q2 Q hd he hm q k=>by
 cases d<;>cases e<;>first
  |exact q.elim
  |(cases(au.mp hd);cases(au.mp he);exact .inl ⟨_,_,rfl,rfl,q.1,k _ H _ M (au.mpr rfl) hm (ar.refl H) q.2⟩)
  |(cases(aU.mp hd);cases(au.mp he);exact .inr ⟨_,_,rfl,rfl,q.1,k _ H _ M (aU.mpr rfl) hm (ar.refl H) q.2⟩)⟩
def qK:D->Option V
 | .bo=>some .bo
 | .bl b=>some (.bl b)
 | .int i=>some (.int i)
 | .str x=>some (.str x)
 |_=>none
def sZ{x:V}(e:qK d=some v)(h:sB K H d x):x=v:=by
 cases d with
 |bo=>cases e;exact dv.mp h
 |bl b=>cases e;exact aY.mp h
 |int i=>cases e;exact au.mp h
 |str z=>cases e;exact aU.mp h
 |ty n=>exact be e (by intro z;cases z)
 |ref a=>exact be e (by intro z;cases z)
 |tup xs=>exact be e (by intro z;cases z)
 |fl xs=>exact be e (by intro z;cases z)
def qJ(e:qK d=some v):iH v=true:=by
 cases d with
 |bo=>cases e;rfl
 |bl b=>cases e;rfl
 |int i=>cases e;rfl
 |str z=>cases e;rfl
 |ty n=>exact be e (by intro z;cases z)
 |ref a=>exact be e (by intro z;cases z)
 |tup xs=>exact be e (by intro z;cases z)
 |fl xs=>exact be e (by intro z;cases z)
def UC(neg:Bool):iR:=λ x y M Q=>match x,y with
 | .int i,.int j=>Q (.bl (xor neg (decide (i=j)))) M
 | .bl i,.bl j=>Q (.bl (xor neg (decide (i=j)))) M
 | .str i,.str j=>Q (.bl (xor neg (decide (i=j)))) M
 |_,_=>False
def Zw:iC X (compareOp .Eq) (UC false):=⟨_,VR,λ x y d e H M Q2 Q hd he hm q k=>by
 cases d<;>cases e<;>first
  |exact q.elim
  |(cases(au.mp hd);cases(au.mp he);refine⟨rfl,k _ H _ M (aY.mpr rfl) hm (ar.refl H) ?_⟩;have q:Q2 (.bl (xor false (decide (_=_)))) M:=q;simpa using q)
  |(cases(aY.mp hd);cases(aY.mp he);refine⟨rfl,k _ H _ M (aY.mpr rfl) hm (ar.refl H) ?_⟩;have q:Q2 (.bl (xor false (decide (_=_)))) M:=q;simpa using q)
  |(cases(aU.mp hd);cases(aU.mp he);refine⟨rfl,k _ H _ M (aY.mpr rfl) hm (ar.refl H) ?_⟩;have q:Q2 (.bl (xor false (decide (_=_)))) M:=q;simpa using q)⟩
def Zt:iC X (compareOp .NotEq) (UC true):=⟨_,VN,λ x y d e H M Q2 Q hd he hm q k=>by
 cases d<;>cases e<;>first
  |exact q.elim
  |(cases(au.mp hd);cases(au.mp he);refine⟨rfl,k _ H _ M (aY.mpr rfl) hm (ar.refl H) ?_⟩;have q:Q2 (.bl (xor true (decide (_=_)))) M:=q;simpa using q)
  |(cases(aY.mp hd);cases(aY.mp he);refine⟨rfl,k _ H _ M (aY.mpr rfl) hm (ar.refl H) ?_⟩;have q:Q2 (.bl (xor true (decide (_=_)))) M:=q;simpa using q)
  |(cases(aU.mp hd);cases(aU.mp he);refine⟨rfl,k _ H _ M (aY.mpr rfl) hm (ar.refl H) ?_⟩;have q:Q2 (.bl (xor true (decide (_=_)))) M:=q;simpa using q)⟩
def Av(neg:Bool):iR:=λ x y M Q=>match y with
 | .bo=>match x with
  | .bo=>Q (.bl (!neg)) M
  |_=>Q (.bl neg) M
 |_=>False
def x'{x:V}(h:sB K H d x):decide (x=.bo)=match d with| .bo=>true|_=>false:=by
 cases d with
 |bo=>cases(dv.mp h);rfl
 |bl b=>cases(aY.mp h);rfl
 |int b=>cases(au.mp h);rfl
 |str b=>cases(aU.mp h);rfl
 |ty b=>cases(TL.mp h);rfl
 |ref b=>cases(ay.mp h);rfl
 |tup b=>obtain⟨p,xs,rfl,_⟩:=aR.mp h;rfl
 |fl b=>obtain⟨p,xs,rfl,_⟩:=nz.mp h;rfl
def HQ:iC X (compareOp .Is) (Av false):=⟨_,RI,λ x y d e H M Q2 Q hd he hm q k=>by
 cases e with
 |bo=>refine⟨dv.mp he,?_⟩;rw[x' hd];refine k _ H _ M (aY.mpr rfl) hm (ar.refl H) ?_;cases d<;>exact q
 |_=>exact q.elim⟩
def R5:iC X (compareOp .IsNot) (Av true):=⟨_,Mi,λ x y d e H M Q2 Q hd he hm q k=>by
 cases e with
 |bo=>refine⟨dv.mp he,?_⟩;rw[x' hd];refine k _ H _ M (aY.mpr rfl) hm (ar.refl H) ?_;cases d<;>exact q
 |_=>exact q.elim⟩
def nZ:List D->Option (List V)
 |[]=>some []
 |d::r=>match qK d,nZ r with
  |some v,some vs=>some (v::vs)
  |_,_=>none
def qI:∀{ds:List D} {xs vs:List V},nZ ds=some vs->aA K H ds xs->xs=vs/\vs.all iH=true
 |[],xs,vs,e,h=>by cases e;exact⟨ao.mp h,rfl⟩
 |d::r,xs,vs,e,h=>by
  obtain⟨x,ys,rfl,hx,hy⟩:=af.mp h;unfold nZ at e;cases e1:qK d with
  |none=>rw[e1]at e;cases e
  |some v=>
   cases e2:nZ r with
   |none=>rw[e1,e2]at e;cases e
   |some ws=>rw[e1,e2]at e;cases e;obtain⟨h1,h2⟩:=qI e2 hy;exact⟨by rw[sZ e1 hx,h1],by rw[all_cons,qJ e1,h2];rfl⟩
def inD(x:D)(ds:List D):Option Bool:=match qK x,nZ ds with
 |some v,some vs=>some (Pa v vs)
 |_,_=>none
def YA:iR:=λ x y M Q=>match y with
 | .str j=>match x with
  | .str i=>Q (.bl (!(Builtin.Str.occurrences j i 0 j.length 1).isEmpty)) M
  |_=>False
 | .tup ds=>match inD x ds with
  |some b=>Q (.bl b) M
  |none=>False
 | .ref a=>match M a with
  |some (.lst ds)=>match inD x ds with
   |some b=>Q (.bl b) M
   |none=>False
  |_=>False
 |_=>False
def IL{x:V}(e:inD d ds=some b)(hd:sB K H d x)(hx:aA K H ds xs):iH x=true/\xs.all iH=true/\Pa x xs=b:=by
 unfold inD at e;cases e1:qK d with
 |none=>rw[e1]at e;cases e
 |some v=>
  cases e2:nZ ds with
  |none=>rw[e1,e2]at e;cases e
  |some vs=>rw[e1,e2]at e;have e:Pa v vs=b:=B0 e;obtain⟨rfl,h2⟩:=qI e2 hx;cases(sZ e1 hd);exact⟨qJ e1,h2,e⟩
def Zu:iC X (compareOp .In) YA:=⟨_,DW.or DX,λ x y d e H M Q2 Q hd he hm q k=>by
 cases e with
 |str j=>
  cases(aU.mp he);cases d with
  |str i=>cases(aU.mp hd);exact .inl ⟨_,_,rfl,rfl,k _ H _ M (aY.mpr rfl) hm (ar.refl H) q⟩
  |_=>exact q.elim
 |tup ds=>
  obtain⟨p,xs,rfl,hp,hx⟩:=aR.mp he;have q:(match inD d ds with|some b=>Q2 (.bl b) M|none=>False):=q;cases ei:inD d ds with
  |none=>rw[ei]at q;exact q.elim
  |some b=>rw[ei]at q;obtain⟨h1,h2,h3⟩:=IL ei hd hx;refine .inr ⟨p,xs,rfl,.inr hp,h1,h2,?_⟩;simp only[p5,J7];rw[h3];exact k _ H _ M (aY.mpr rfl) hm (ar.refl H) q
 |ref a=>
  cases(ay.mp he);have q:(match M a with|some (.lst ds)=>(match inD d ds with|some b=>Q2 (.bl b) M|none=>False)|_=>False):=q;cases ea:M a with
  |none=>rw[ea]at q;exact q.elim
  |some o=>
   cases o with
   |bX b kvs=>rw[ea]at q;exact q.elim
   |eX x=>rw[ea]at q;exact q.elim
   |lst ds=>
    rw[ea]at q;obtain⟨xs,hx,dx⟩:=hm a _ ea;cases ei:inD d ds with
    |none=>simp only[ei]at q
    |some b=>simp only[ei]at q;obtain⟨h1,h2,h3⟩:=IL ei hd dx;refine .inr ⟨a,xs,rfl,.inl (eO.of hx),h1,h2,?_⟩;simp only[p5,J7];rw[h3];exact k _ H _ M (aY.mpr rfl) hm (ar.refl H) q
 |_=>exact q.elim⟩
def Oi(h:aA K H ds xs){i:Int}(e:gN ds i=some d):∃x,gN xs i=some x/\sB K H d x:=by
 unfold gN at e ⊢;rw[h.length];cases q:Ab ds.length i with
 |none=>rw[q]at e;cases e
 |some j=>rw[q]at e;obtain⟨x,h1,h2⟩:=h.get (i:=j) e;exact⟨x,h1,h2⟩
def bD(M:Mem)(a:ap):Option (List D):=match M a with
 |some (.lst ds)=>some ds
 |_=>none
def fE(e:bD M a=some ds)(hm:ul K H M):∃xs,H a=some (.lst xs)/\aA K H ds xs:=by
 unfold bD at e;cases q:M a with
 |none=>rw[q]at e;cases e
 |some o=>
  cases o with
  |bX b kvs=>rw[q]at e;cases e
  |eX x=>rw[q]at e;cases e
  |lst es=>rw[q]at e;cases e;exact hm a _ q
def cR(M:Mem):D->Option (List D)
 | .tup ds=>some ds
 | .fl ds=>some ds
 | .ref a=>bD M a
 |_=>none
def iX(e:cR M d=some ds)(hd:sB K H d v)(hm:ul K H M):∃p xs,v=.ref p/\(eO K H p xs\/hG K H p xs)/\aA K H ds xs:=by
 cases d with
 |tup es=>cases e;obtain⟨p,xs,rfl,h,q⟩:=aR.mp hd;exact⟨p,xs,rfl,.inr h,q⟩
 |fl es=>cases e;obtain⟨p,xs,rfl,h,q⟩:=nz.mp hd;exact⟨p,xs,rfl,.inl h.sq,q⟩
 |ref a=>cases(ay.mp hd);obtain⟨xs,h,q⟩:=fE e hm;exact⟨a,xs,rfl,.inl (eO.of h),q⟩
 |_=>cases e
def TQ:iR:=λ x y M Q=>match y with
 | .int i=>match x with
  | .str z=>z.length<=sizeLine/\(match gN z.cps.toList i with
   |some c=>Q (.str ⟨#[c]⟩) M
   |none=>False)
  |x=>match cR M x with
   |some ds=>(match gN ds i with
    |some d=>Q d M
    |none=>False)
   |none=>False
 |_=>False
def uM{x:V}{i:Int}{Q:VK}(hd:sB K H d x)(hm:ul K H M)(k:ly K H Q2 Q)(q:match cR M d with|some ds=>(match gN ds i with|some d=>Q2 d M|none=>False)|none=>False):∃p xs v,x=.ref p/\(eO K H p xs\/hG K H p xs)/\gN xs i=some v/\Q v H:=by
 cases e:cR M d with
 |none=>rw[e]at q;exact q.elim
 |some ds=>
  rw[e]at q;cases ei:gN ds i with
  |none=>simp only[ei]at q
  |some d'=>simp only[ei]at q;obtain⟨p,xs,rfl,h,hx⟩:=iX e hd hm;obtain⟨v,h1,h2⟩:=Oi hx ei;exact⟨p,xs,v,rfl,h,h1,k v H d' M h2 hm (ar.refl H) q⟩
def aL:YH X TQ:=⟨_,L2.aL,λ x y d e H M Q2 Q hd he hm q k=>by
 cases e with
 |int i=>
  cases(au.mp he);cases d with
  |str z=>
   cases(aU.mp hd);obtain⟨hz,q⟩:=q;refine⟨hz,?_⟩;cases ei:gN z.cps.toList i with
   |none=>rw[ei]at q;exact q.elim
   |some c=>rw[ei]at q;exact⟨c,rfl,k _ H _ M (aU.mpr rfl) hm (ar.refl H) q⟩
  |tup ds=>obtain⟨p,xs,v,rfl,h⟩:=uM (d:=.tup ds) (i:=i) hd hm k q;exact⟨xs,v,h⟩
  |fl ds=>obtain⟨p,xs,v,rfl,h⟩:=uM (d:=.fl ds) (i:=i) hd hm k q;exact⟨xs,v,h⟩
  |ref a=>obtain⟨p,xs,v,rfl,h⟩:=uM (d:=.ref a) (i:=i) hd hm k q;exact⟨xs,v,h⟩
  |_=>exact q.elim
 |_=>exact q.elim⟩
def cutD(xs:List D)(lo hi:Option Int):List D:=(xs.drop (HT.cx xs.length 0 lo)).take (HT.cx xs.length xs.length hi-HT.cx xs.length 0 lo)
def yl(h:aA K H ds xs)(lo hi:Option Int):aA K H (cutD ds lo hi) (ym xs lo hi):=by unfold cutD ym;rw[h.length];exact(h.drop _).take _
def dSl:D->Option Int->Option Int->Mem->bF->Prop:=λ x lo hi M Q=>match x with
 | .str z=>z.length<=sizeLine/\Q (.str (rH z lo hi)) M
 | .tup ds=>¬(HT.cx ds.length 0 lo=0/\HT.cx ds.length ds.length hi=ds.length)/\Q (.tup (cutD ds lo hi)) M
 | .ref a=>match bD M a with
  |some ds=>∀p,M p=none->Q (.ref p) (ag M p (.lst (cutD ds lo hi)))
  |none=>False
 |_=>False
def gF:YF X dSl:=⟨_,L2.gF,λ x d lo hi H M Q2 Q hd hm q k=>by
 cases d with
 |str z=>cases(aU.mp hd);exact⟨q.1,k _ H _ M (aU.mpr rfl) hm (ar.refl H) q.2⟩
 |tup ds=>obtain⟨p,xs,rfl,h,hx⟩:=aR.mp hd;refine .inr ⟨p,xs,rfl,h,by rw[hx.length];exact q.1,λ p2 eZ=>?_⟩;exact k _ _ _ M (h_ eZ (yl hx lo hi)) (hm.laid eZ) (ar.laid eZ) q.2
 |ref a=>
  cases(ay.mp hd);have q:(match bD M a with|some ds=>∀p,M p=none->Q2 (.ref p) (ag M p (.lst (cutD ds lo hi)))|none=>False):=q;cases e:bD M a with
  |none=>rw[e]at q;exact q.elim
  |some ds=>rw[e]at q;obtain⟨xs,h,hx⟩:=fE e hm;exact .inl ⟨a,xs,rfl,eO.of h,λ p hp=>k _ _ (.ref p) _ (ay.mpr rfl) (dN hp (yl hx lo hi) hm) (ar.laid hp) (q p (hm.free hp))⟩
 |_=>exact q.elim⟩
def EK:List D->Mem->bF->Prop:=λ xs M Q=>match xs with
 |[.str z]=>z.length<=sizeLine/\Q (.int z.length) M
 |[x]=>match cR M x with
  |some ds=>Q (.int ds.length) M
  |none=>False
 |_=>False
def d_:fZ X (.builtin "len") EK:=⟨_,vn.or vo,λ xs ds H M Q2 Q hd hm q k=>by
 cases ds with
 |nil=>exact q.elim
 |cons d r=>
  cases r with
  |cons d2 r2=>cases d<;>exact q.elim
  |nil=>
   obtain⟨x,r,rfl,hx,hr⟩:=af.mp hd;cases(ao.mp hr);have seq:(match cR M d with|some ds=>Q2 (.int ds.length) M|none=>False)->∃p ys,[x]=[V.ref p]/\(eO X.K H p ys\/hG X.K H p ys)/\Q (.int ys.length) H:=λ q=>by
    cases e:cR M d with
    |none=>rw[e]at q;exact q.elim
    |some es=>rw[e]at q;obtain⟨p,ys,rfl,h,hy⟩:=iX e hx hm;refine⟨p,ys,rfl,h,?_⟩;rw[hy.length];exact k _ H _ M (au.mpr rfl) hm (ar.refl H) q
   cases d with
   |str z=>cases(aU.mp hx);exact .inl ⟨z,rfl,q.1,k _ H _ M (au.mpr rfl) hm (ar.refl H) q.2⟩
   |tup es=>exact .inr (seq q)
   |fl es=>exact .inr (seq q)
   |ref a=>exact .inr (seq q)
   |_=>exact q.elim⟩
def dList:List D->Mem->bF->Prop:=λ xs M Q=>match xs with
 |[x]=>match cR M x with
  |some ds=>∀p,M p=none->Q (.ref p) (ag M p (.lst ds))
  |none=>False
 |_=>False
def AG:fZ X (.type "list") dList:=⟨_,vm,λ xs ds H M Q2 Q hd hm q k=>by
 cases ds with
 |nil=>exact q.elim
 |cons d r=>
  cases r with
  |cons d2 r2=>exact q.elim
  |nil=>
   obtain⟨x,r,rfl,hx,hr⟩:=af.mp hd;cases(ao.mp hr);have q:(match cR M d with|some ds=>∀p,M p=none->Q2 (.ref p) (ag M p (.lst ds))|none=>False):=q;cases e:cR M d with
   |none=>rw[e]at q;exact q.elim
   |some es=>
    rw[e]at q;obtain⟨p,ys,rfl,h,hy⟩:=iX e hx hm;exact⟨p,ys,rfl,h,λ l hl=>k _ _ (.ref l) _ (ay.mpr rfl) (dN hl hy hm) (ar.laid hl) (q l (hm.free hl))⟩⟩
def u_:List D->Mem->bF->Prop:=λ xs M Q=>match xs with
 |[x]=>match cR M x with
  |some ds=>Q (.tup ds) M
  |none=>False
 |_=>False
def bK:fZ X (.type "tuple") u_:=⟨_,rJ,λ xs ds H M Q2 Q hd hm q k=>by
 cases ds with
 |nil=>exact q.elim
 |cons d r=>
  cases r with
  |cons d2 r2=>exact q.elim
  |nil=>
   obtain⟨x,r,rfl,hx,hr⟩:=af.mp hd;cases(ao.mp hr);have q:(match cR M d with|some ds=>Q2 (.tup ds) M|none=>False):=q;cases e:cR M d with
   |none=>rw[e]at q;exact q.elim
   |some es=>
    rw[e]at q;obtain⟨p,ys,rfl,h|h,hy⟩:=iX e hx hm
    ·exact⟨p,ys,rfl,.inl ⟨h,λ l hl=>k _ _ (.tup es) M (h_ hl hy) (hm.laid hl) (ar.laid hl) q⟩⟩
    ·exact⟨p,ys,rfl,.inr ⟨h,k _ H (.tup es) M (aR.mpr ⟨p,ys,rfl,h,hy⟩) hm (ar.refl H) q⟩⟩⟩
def ck:yI u_ (λ ds M Q=>Q (.tup ds) M):=λ ds M p Q hp hz q=>by
 show(match cR (ag M p (.lst ds)) (.ref p)with|some es=>fin2 Q (.tup es) (ag M p (.lst ds))|none=>False);have e:cR (ag M p (.lst ds)) (.ref p)=some ds:=by show bD (ag M p (.lst ds)) p=some ds;unfold bD;rw[ae]
 rw[e];exact⟨M,(qX.refl M).put hp,q⟩
def sJ:bD (ag M p (.lst ds)) p=some ds:=by unfold bD;rw[ae]
def Kx(M:Mem):D->Option String
 | .bo=>some "NoneType"
 | .bl _=>some "bool"
 | .int _=>some "int"
 | .str _=>some "str"
 | .tup _=>some "tuple"
 | .fl _=>some "list"
 | .ref a=>(bD M a).map λ _=>"list"
 |_=>none
def gQ:List D->Option (List Str)
 |[]=>some []
 | .str z::r=>(gQ r).map (z::·)
 |_::_=>none
def vZ:∀{ds:List D} {zs:List Str},gQ ds=some zs->ds=zs.map D.str
 |[],zs,e=>by cases e;rfl
 |d::r,zs,e=>by
  cases d with
  |str z=>
   unfold gQ at e;cases q:gQ r with
   |none=>rw[q]at e;cases e
   |some ys=>rw[q]at e;cases e;rw[vZ q];rfl
  |_=>cases e
def sj:∀(zs:List Str),gQ (zs.map D.str)=some zs
 |[]=>rfl
 |b::bs=>by rw[C8];unfold gQ;rw[sj bs];rfl
def qS:D->List D->Mem->bF->Prop:=λ x ds M Q=>match x with
 | .str z=>match gQ ds with
  |some ys=>(ys.map (·.length)).sum+ys.length*z.length<=16777216/\Q (.str (Txt.join z ys)) M
  |none=>False
 |_=>False
def Px:D->List D->Mem->bF->Prop:=λ x vs M Q=>match vs with
 |[.ref a]=>match bD M a with
  |some ds=>qS x ds M Q
  |none=>False
 |_=>False
def Sg:PH X "str.join" Px:=⟨_,MM,λ x xs d ds H M Q2 Q hx hd hm q k=>by
 cases ds with
 |nil=>exact q.elim
 |cons d1 r0=>
 cases r0 with
 |cons _ _=>cases d1<;>exact q.elim
 |nil=>
 cases d1 with
 |ref a=>
  obtain⟨y,r,rfl,hy,hr⟩:=af.mp hd;cases(ao.mp hr);cases(ay.mp hy);have q:(match bD M a with|some ds=>qS d ds M Q2|none=>False):=q;cases e:bD M a with
  |none=>rw[e]at q;exact q.elim
  |some es=>
   rw[e]at q;cases d with
   |str z=>
    have q:(match gQ es with|some ys=>(ys.map (·.length)).sum+ys.length*z.length<=16777216/\Q2 (.str (Txt.join z ys)) M|none=>False):=q;cases TC:gQ es with
    |none=>rw[TC]at q;exact q.elim
    |some ys=>rw[TC]at q;obtain⟨vs,h,hv⟩:=fE e hm;rw[vZ TC]at hv;exact⟨z,a,ys,aU.mp hx,rfl,eO.of (by rw[h,td hv]),q.1,k _ H _ M (aU.mpr rfl) hm (ar.refl H) q.2⟩
   |_=>exact q.elim
 |_=>exact q.elim⟩
def FN:JR Px qS:=λ d ds M p Q hp hz q=>by
 show(match bD (ag M p (.lst ds)) p with|some es=>qS d es (ag M p (.lst ds)) (fin2 Q)|none=>False);rw[sJ];cases d with
 |str z=>
  have q:(match gQ ds with|some ys=>(ys.map (·.length)).sum+ys.length*z.length<=16777216/\Q (.str (Txt.join z ys)) M|none=>False):=q;show(match gQ ds with|some ys=>(ys.map (·.length)).sum+ys.length*z.length<=16777216/\fin2 Q (.str (Txt.join z ys)) (ag M p (.lst ds))|none=>False);cases e:gQ ds with
  |none=>rw[e]at q;exact q.elim
  |some ys=>rw[e]at q;exact⟨q.1,M,(qX.refl M).put hp,q.2⟩
 |_=>exact q.elim
def N6:oo:=λ o i v M N=>match o,i with
 | .ref a,.int k=>match bD M a with
  |some ds=>(match Ab ds.length k with
   |some j=>N (ag M a (.lst (ds.set j v)))
   |none=>False)
  |none=>False
 |_,_=>False
def nQ:Ol X N6:=⟨_,set_list,λ o i v d j e H M Q2 Q hd hj he hm q k=>by
 cases d with
 |ref a=>
  cases j with
  |int n=>
   cases(ay.mp hd);cases(au.mp hj);have q:(match bD M a with|some ds=>(match Ab ds.length n with|some j=>Q2 (ag M a (.lst (ds.set j e)))|none=>False)|none=>False):=q;cases el:bD M a with
   |none=>rw[el]at q;exact q.elim
   |some ds=>
    rw[el]at q;cases ei:Ab ds.length n with
    |none=>simp only[ei]at q
    |some m=>simp only[ei]at q;obtain⟨xs,h,hx⟩:=fE el hm;refine⟨a,xs,n,m,rfl,rfl,h,by rw[hx.length];exact ei,?_⟩;exact k _ _ (hm.put (u:=.lst (ds.set m e)) (ar.lst h) ⟨_,aQ,aA.mono (ar.lst h) _ (hx.set he m)⟩) (ar.lst h) q
  |_=>exact q.elim
 |_=>exact q.elim⟩
section
variable {Q:bF}{tb tc:bT}{r r':iR}{E:ke}{t u:mH}{c c':gn}{tl:e_}{QL:List D->Mem->Prop}
def QJ(h:t {E with nx:=u E} δ M):K_ t u E δ M:=h
def GL(h:c δ M λ b M1=>if b=true then t E δ M1 else u E δ M1):Qu c t u E δ M:=h
def Ln(h:E.nx δ M):Gj E δ M:=h
def zC(h:ta δ M E.rt):Vd ta E δ M:=h
def Q3(h:ta δ M λ d M1=>g d δ M1 E.nx):Gn ta g E δ M:=h
def t_(h:ta δ M λ _ M1=>E.nx δ M1):Bl ta E δ M:=h
def jF(h:N (δ.set i (some d)) M):rc i d δ M N:=h
def QH{s:oo}(h:ta δ M λ o M1=>tb δ M1 λ j M2=>s o j d M2 λ M3=>N δ M3):hSub ta tb s d δ M N:=h
def Gw{k:Int}{v:D}{N:Mem->Prop}(h:M a=some (.lst ds))(e:Ab ds.length k=some j)(q:N (ag M a (.lst (ds.set j v)))):N6 (.ref a) (.int k) v M N:=by
 show(match bD M a with|some ds=>(match Ab ds.length k with|some j=>N (ag M a (.lst (ds.set j v)))|none=>False)|none=>False);have e1:bD M a=some ds:=by unfold bD;rw[h]
 rw[e1];simp only[e];exact q
def oQ(h:ta δ M λ d M1=>match d with| .bl k=>QB k M1|_=>False):sy ta δ M QB:=h
def Br(h:ta δ M λ d M1=>tb δ M1 λ e M2=>r d e M2 Q):K' r ta tb δ M Q:=h
def gG(e:δ[i]?=some (some d))(h:Q d M):ie i δ M Q:=by unfold ie;rw[e];exact h
def Vt(h:Q d M):sC d δ M Q:=h
def Q4(h:c δ M λ b M1=>if b=true then c' δ M1 QB else QB false M1):Vm c c' δ M QB:=h
def OQ(h:c δ M λ b M1=>if b=true then QB true M1 else c' δ M1 QB):Zf c c' δ M QB:=h
def QM(h:c δ M λ b M1=>QB (!b) M1):Ve c δ M QB:=h
def LK(h:ta δ M λ d M1=>match d with| .bl c=>(if c=true then tb δ M1 Q else Q (.bl false) M1)|_=>False):OO ta tb δ M Q:=h
def kB(h:QL [] M):rA δ M QL:=h
def lL(h:ta δ M λ d M1=>tl δ M1 λ ds M2=>QL (d::ds) M2):gS ta tl δ M QL:=h
def QD(h:tl δ M λ ds M1=>ds.length<=sizeLine/\Q (.tup ds) M1):Vc tl δ M Q:=h
def QR(h:tl δ M λ ds M1=>ds.length<=sizeLine/\∀p,M1 p=none->Q (.ref p) (ag M1 p (.lst ds))):Vf tl δ M Q:=h
def OT{s:List D->Mem->bF->Prop}(h:tl δ M λ ds M1=>s ds M1 Q):Vj s tl δ M Q:=h
def Zi{sp:dW}(h:tl δ M λ ds M1=>sp ds M1 Q):sD sp tl δ M Q:=h
def OP{s:D->Option Int->Option Int->Mem->bF->Prop}{l h':Kl}(h:ta δ M λ d M1=>l δ M1 λ i M2=>h' δ M2 λ j M3=>s d i j M3 Q):Ze s ta l h' δ M Q:=h
def sE{QO:Option Int->Mem->Prop}(h:QO none M):tV δ M QO:=h
def Lm{QO:Option Int->Mem->Prop}(h:ta δ M λ d M1=>match d with| .int i=>QO (some i) M1|_=>False):OK ta δ M QO:=h
def Bv{s:D->List D->Mem->bF->Prop}(h:ta δ M λ d M1=>Ox T d M1/\tl δ M1 λ ds M2=>s d ds M2 Q):Vl T s ta tl δ M Q:=h
def Q1{s:D->List D->Mem->bF->Prop}(h:ta δ M λ d M1=>Ox T d M1/\s d [] M1 Q):Vk T s ta δ M Q:=h
def mR(W:cY->Mem->Prop)(h1:∀N:cY->Mem->Prop,(∀δ' M',W δ' M'->N δ' M')->t {E with nx:=N} δ M)(h2:∀δ' M',W δ' M'->u E δ' M'):K_ t u E δ M:=h1 (u E) h2
set_option tactic.hygienic true in
def rV{o:MO}(h:M a=some o):ag M a o=M:=by
 funext b;unfold ag;split
 ·rename_i e;rw[e,h]
 ·rfl
def cq{i:Int}(h:M a=some (.lst ds))(e:gN ds i=some d)(q:Q d M):TQ (.ref a) (.int i) M Q:=by
 show(match bD M a with|some ds=>(match gN ds i with|some d=>Q d M|none=>False)|none=>False);have e1:bD M a=some ds:=by unfold bD;rw[h]
 rw[e1];simp only[e];exact q
def aO{i:Int}(e:gN ds i=some d)(q:Q d M):TQ (.tup ds) (.int i) M Q:=by show(match gN ds i with|some d=>Q d M|none=>False);rw[e];exact q
def zG{i:Int}{z:Str}{x:Nat}(hz:z.length<=sizeLine)(e:gN z.cps.toList i=some x)(q:Q (.str ⟨#[x]⟩) M):TQ (.str z) (.int i) M Q:=by refine⟨hz,?_⟩;show(match gN z.cps.toList i with|some c=>Q (.str ⟨#[c]⟩) M|none=>False);rw[e];exact q
def Zh{i j:Int}(h:C i j)(q:Q (g i j) M):dI C g (.int i) (.int j) M Q:=⟨h,q⟩
def zE{i j:Int}(h:0<j)(q:Q (g i j) M):dI (λ _ j=>0<j) g (.int i) (.int j) M Q:=⟨h,q⟩
def Q0{i j:Int}(h:0<j)(h2:j<1073741824)(q:Q (g i j) M):dI Uh g (.int i) (.int j) M Q:=⟨⟨h,h2⟩,q⟩
def JH{i j:Int}(h0: -1000000000000<=i)(h1:i<=1000000000000):vH i j:=.inl ⟨Int.lt_of_lt_of_le (by decide) h0,u3 h1 (by decide)⟩
def JG{i j:Int}(h0: -1000000000000<=j)(h1:j<=1000000000000):vH i j:=.inr ⟨Int.lt_of_lt_of_le (by decide) h0,u3 h1 (by decide)⟩
def OS{i j:Int}(q:Q (g i j) M):N8 g (.int i) (.int j) M Q:=q
def LM{b:ap}{xs ys:List D}(ha:M a=some (.lst xs))(hb:M b=some (.lst ys))(h:xs.length+ys.length<=sizeLine)(q:∀p,M p=none->Q (.ref p) (ag M p (.lst (xs++ys)))):N9 (.ref a) (.ref b) M Q:=by show(match M a,M b with|some (.lst xs),some (.lst ys)=>xs.length+ys.length<=sizeLine/\∀p,M p=none->Q (.ref p) (ag M p (.lst (xs++ys)))|_,_=>False);rw[ha,hb];exact⟨h,q⟩
def Lr{i j:Int}(h:vH i j)(q:Q (.int (i*j)) M):N7 (.int i) (.int j) M Q:=⟨h,q⟩
def Lp{i:Str}{j:Int}(h:MulOk i j)(q:Q (.str (Txt.mul i j)) M):N7 (.str i) (.int j) M Q:=⟨h,q⟩
def QZ{i j:Int}(q:Q (.bl (decide (i=j))) M):UC false (.int i) (.int j) M Q:=by show Q (.bl (xor false (decide (i=j)))) M;simpa using q
def QY{i j:Str}(q:Q (.bl (decide (i=j))) M):UC false (.str i) (.str j) M Q:=by show Q (.bl (xor false (decide (i=j)))) M;simpa using q
def QP{i j:Bool}(q:Q (.bl (!decide (i=j))) M):UC true (.bl i) (.bl j) M Q:=by show Q (.bl (xor true (decide (i=j)))) M;simpa using q
def tY(h:M a=some (.lst ds))(q:Q (.int ds.length) M):EK [.ref a] M Q:=by
 show(match bD M a with|some ds=>Q (.int ds.length) M|none=>False);have e1:bD M a=some ds:=by unfold bD;rw[h]
 rw[e1];exact q
def Bt(q:Q (.int ds.length) M):EK [.tup ds] M Q:=q
def QU{x:D}(e:inD x ds=some b)(q:Q (.bl b) M):YA x (.tup ds) M Q:=by show(match inD x ds with|some b=>Q (.bl b) M|none=>False);rw[e];exact q
def QV{x:D}(h:M a=some (.lst ds))(e:inD x ds=some b)(q:Q (.bl b) M):YA x (.ref a) M Q:=by show(match M a with|some (.lst ds)=>(match inD x ds with|some b=>Q (.bl b) M|none=>False)|_=>False);rw[h];simp only[e];exact q
def GH(q:∀p,M p=none->Q (.ref p) (ag M p (.lst ds))):dList [.fl ds] M Q:=q
def bE{P:Prop}{inst:Decidable P}{A B:Prop}(h1:P->A)(h2:¬P->B):if @decide P inst=true then A else B:=by
 by_cases h:P
 ·rw[B8 h,K1 rfl];exact h1 h
 ·rw[A7 h,K3 o8];exact h2 h
def Lw{A:Prop}(h:A):if true=true then A else B:=by rw[K1 rfl];exact h
def Bu{A:Prop}(h:B):if false=true then A else B:=by rw[K3 o8];exact h
def gu{A:Prop}(h1:b=true->A)(h2:b=false->B):if b=true then A else B:=by
 cases b with
 |true=>rw[K1 rfl];exact h1 rfl
 |false=>rw[K3 o8];exact h2 rfl
end
section
variable {g:jA}{tb:mH}{δc:cY}{E:ke}
def nE(Pv:Nat->List D->Mem->Prop)(h0:Pv 0 [] M1)(hz:∀i li M,i<=ds.length->Pv i li M->li.length<=sizeLine)(hs:∀i d li M,ds[i]?=some d->Pv i li M->g d δc M λ δ2 M2=>tt δ2 M2 λ b M3=>if b=true then te δ2 M3 λ y M4=>Pv (i+1) (li++[y]) M4 else Pv (i+1) li M3)(hd:∀li M,Pv ds.length li M->Qe li M):∃(B:Nat)(W:Nat->List D->Mem->Prop),W 0 [] M1/\∀i li M,W i li M->i<=B/\li.length<=sizeLine/\match pc (.fix ds) M with
   |none=>False
   |some ds=>match ds[i]? with
    |none=>i=ds.length/\Qe li M
    |some d=>g d δc M λ δ2 M2=>tt δ2 M2 λ b M3=>if b=true then te δ2 M3 λ y M4=>W (i+1) (li++[y]) M4 else W (i+1) li M3:=by
 refine⟨ds.length,λ i li M=>if i<=ds.length then Pv i li M else False,by dsimp only;rw[K1 (G9 _)];exact h0,?_⟩;intro i li M w;by_cases hi:i<=ds.length
 ·rw[K1 hi]at w;refine⟨hi,hz i li M hi w,?_⟩;show(match ds[i]? with
    |none=>i=ds.length/\Qe li M
    |some d=>g d δc M λ δ2 M2=>tt δ2 M2 λ b M3=>if b=true then te δ2 M3 λ y M4=>(if i+1<=ds.length then Pv (i+1) (li++[y]) M4 else False)else(if i+1<=ds.length then Pv (i+1) li M3 else False))
  cases e:ds[i]? with
  |none=>have:i=ds.length:=B6 hi (c8.mp e);subst this;exact⟨rfl,hd li M w⟩
  |some d=>have eB:i+1<=ds.length:=(c7.mp e).1;simp only[K1 eB];exact hs i d li M e w
 ·rw[K3 hi]at w;exact w.elim
def gL(Pv:Nat->cY->Mem->Prop)(h0:Pv 0 δ M1)(hs:∀i d δ M,ds[i]?=some d->Pv i δ M->g d δ M λ δ2 M2=>tb {E with nx:=Pv (i+1),ct:=Pv (i+1),bk:=E.nx} δ2 M2)(hd:∀δ M,Pv ds.length δ M->E.nx δ M):∃(B:Nat)(W:Nat->cY->Mem->Prop),W 0 δ M1/\∀i δ M,W i δ M->i<=B/\match pc (.fix ds) M with
   |none=>False
   |some ds=>match ds[i]? with
    |none=>i=ds.length/\E.nx δ M
    |some d=>g d δ M λ δ2 M2=>tb {E with nx:=W (i+1),ct:=W (i+1),bk:=E.nx} δ2 M2:=by
 refine⟨ds.length,λ i δ M=>if i<=ds.length then Pv i δ M else False,by dsimp only;rw[K1 (G9 _)];exact h0,?_⟩;intro i δ M w;by_cases hi:i<=ds.length
 ·rw[K1 hi]at w;refine⟨hi,?_⟩;show(match ds[i]? with
    |none=>i=ds.length/\E.nx δ M
    |some d=>g d δ M λ δ2 M2=>tb {E with nx:=(λ δ M=>if i+1<=ds.length then Pv (i+1) δ M else False),ct:=(λ δ M=>if i+1<=ds.length then Pv (i+1) δ M else False),bk:=E.nx} δ2 M2)
  cases e:ds[i]? with
  |none=>have:i=ds.length:=B6 hi (c8.mp e);subst this;exact⟨rfl,hd δ M w⟩
  |some d=>have eB:i+1<=ds.length:=(c7.mp e).1;simp only[K1 eB];exact hs i d δ M e w
 ·rw[K3 hi]at w;exact w.elim
def xM(Pv:Nat->cY->Mem->Prop)(h0:Pv 0 δ M1)(hl:∀i δ M,i<=ds.length->Pv i δ M->M a=some (.lst ds))(hs:∀i d δ M,ds[i]?=some d->Pv i δ M->g d δ M λ δ2 M2=>tb {E with nx:=Pv (i+1),ct:=Pv (i+1),bk:=E.nx} δ2 M2)(hd:∀δ M,Pv ds.length δ M->E.nx δ M):∃(B:Nat)(W:Nat->cY->Mem->Prop),W 0 δ M1/\∀i δ M,W i δ M->i<=B/\match pc (.at a) M with
   |none=>False
   |some ds=>match ds[i]? with
    |none=>i=ds.length/\E.nx δ M
    |some d=>g d δ M λ δ2 M2=>tb {E with nx:=W (i+1),ct:=W (i+1),bk:=E.nx} δ2 M2:=by
 refine⟨ds.length,λ i δ M=>if i<=ds.length then Pv i δ M else False,by dsimp only;rw[K1 (G9 _)];exact h0,?_⟩;intro i δ M w;by_cases hi:i<=ds.length
 ·rw[K1 hi]at w;refine⟨hi,?_⟩;have e0:pc (.at a) M=some ds:=by show(match M a with|some (.lst ds)=>some ds|_=>none)=some ds;rw[hl i δ M hi w]
  rw[e0];show(match ds[i]? with
    |none=>i=ds.length/\E.nx δ M
    |some d=>g d δ M λ δ2 M2=>tb {E with nx:=(λ δ M=>if i+1<=ds.length then Pv (i+1) δ M else False),ct:=(λ δ M=>if i+1<=ds.length then Pv (i+1) δ M else False),bk:=E.nx} δ2 M2)
  cases e:ds[i]? with
  |none=>have:i=ds.length:=B6 hi (c8.mp e);subst this;exact⟨rfl,hd δ M w⟩
  |some d=>have eB:i+1<=ds.length:=(c7.mp e).1;simp only[K1 eB];exact hs i d δ M e w
 ·rw[K3 hi]at w;exact w.elim
end
section
variable {Q:bF}{g:jA}{E:ke}{tb:mH}{tl:e_}
def QF(h:wi δ M λ src M1=>∃(B:Nat)(W:Nat->List D->Mem->Prop),W 0 [] M1/\∀i li M,W i li M->i<=B/\li.length<=sizeLine/\match pc src M with
   |none=>False
   |some ds=>match ds[i]? with
    |none=>i=ds.length/\r3 li M Q
    |some d=>g d (kZ n fr δ) M λ δ2 M2=>tt δ2 M2 λ b M3=>if b=true then te δ2 M3 λ y M4=>W (i+1) (li++[y]) M4 else W (i+1) li M3):K9 r3 wi g tt te n fr δ M Q:=h
def Lg(h:ta δ M λ d M1=>Ox T d M1/\kz wi g tt te n fr δ M1 λ ds M'=>r3 d ds M' Q):OJ T r3 ta wi g tt te n fr δ M Q:=h
def GR(h:wi δ M λ src M1=>∃(B:Nat)(W:Nat->List D->Mem->Prop),W 0 [] M1/\∀i li M,W i li M->i<=B/\li.length<=sizeLine/\match pc src M with
   |none=>False
   |some ds=>match ds[i]? with
    |none=>i=ds.length/\Qe li M
    |some d=>g d (kZ n fr δ) M λ δ2 M2=>tt δ2 M2 λ b M3=>if b=true then te δ2 M3 λ y M4=>W (i+1) (li++[y]) M4 else W (i+1) li M3):kz wi g tt te n fr δ M Qe:=h
def LG(h:kz wi g tt te n fr δ M λ ds M'=>∀p,M' p=none->Q (.ref p) (ag M' p (.lst ds))):Gm wi g tt te n fr δ M Q:=h
def QX(h:wi δ M λ src M1=>∃(B:Nat)(W:Nat->cY->Mem->Prop),W 0 δ M1/\∀i δ M,W i δ M->i<=B/\match pc src M with
   |none=>False
   |some ds=>match ds[i]? with
    |none=>i=ds.length/\E.nx δ M
    |some d=>g d δ M λ δ2 M2=>tb {E with nx:=W (i+1),ct:=W (i+1),bk:=E.nx} δ2 M2):Vh wi g tb E δ M:=h
def Ll(h:tl δ M λ ds M1=>match ds with|[.int j]=>InR j/\R (.fix (dh 0 j.toNat)) M1|_=>False):O9 tl δ M R:=h
def QC(h:QB true M):zt δ M QB:=h
def yG{xs:List α}{d:Int}(h0:0<=d)(h1:d<xs.length):∃c,gN xs d=some c:=by
 have hl:d.toNat<xs.length:=()
 have e:((d.toNat:Nat):Int)=d:=()
 have q:gN xs ((d.toNat:Nat):Int)=some xs[d.toNat]:=bc (by simp[hl]);rw[e]at q;exact⟨_,q⟩
end
def strsOf:List Expr->Option (List Str)
 |[]=>some []
 | .Constant (.str x) _ _::r=>(strsOf r).map (x::·)
 |_::_=>none
def Bj(zs:List Str):e_:=λ _ M Q=>Q (zs.map D.str) M
def Li{Q:List D->Mem->Prop}(h:Q (zs.map D.str) M):Bj zs δ M Q:=h
def Bx:∀{es:List Expr} {zs:List Str},strsOf es=some zs->QA X es (Bj zs)
 |[],zs,h=>by cases h;exact GY
 |e::es,zs,h=>by
  cases e with
  |Constant c j pos=>
   cases c with
   |str x=>
    unfold strsOf at h;cases q:strsOf es with
    |none=>rw[q]at h;cases h
    |some ys=>rw[q]at h;cases h;exact HB (By (ta:=sC (.str x)) (t:=Bj ys) OU (Bx q)) λ σ H Q h=>h
   |_=>exact be h (by unfold strsOf;intro z;cases z)
  |_=>exact be h (by unfold strsOf;intro z;cases z)
end L3
namespace L4
open PySem.Spec L2 L3
section
variable {a b c:Expr}{tb tc:bT}
def iE{i:_}:WE X (.Constant (.str i) j pos) (sC (.str i)):=⟨OU⟩
variable {tA tB:gn}
variable {t:e_}
def bO:WA X [] rA:=⟨GY⟩
def aH(ha:WE X e ta)(hr:WA X es t)(hs:oq X e es:=by rfl):WA X (e::es) (gS ta t):=⟨By (ha:=ha.h) (hr:=hr.h) (hs:=hs)⟩
variable {lo hi:Option Expr}{tl th:Kl}
variable {p:Pos}{id:String}
end
section
variable {o:Expr}{to:bT}{t:e_}{id:String}
end
section
variable {p:Pos}{t:e_}{sp:dW}
end
section
variable {rest:List Stmt}{t u:mH}
end
section
variable {l:Expr}{tl:bT}{ta:e_}{a b:Expr}{p:Pos}
end
section
variable {g:jA}{tb:mH}
end
section
variable {c:Expr}{tc:gn}{tb:mH}
end
section
variable {g:jA}
variable {p:Pos}{id:String}
variable {o:Expr}{to:bT}
end
def AV(h:strsOf es=some zs):WA X es (Bj zs):=⟨Bx h⟩
section
variable {y:Str}{px py pt:Pos}
def oN(fr:List Nat)(it:WI X (.Name x px) iter wi)(hi:∀{cl C fp s H},XA (bq X scope cl [x] fr C fp s H) ifs tt)(he:∀{cl C fp s H},WE (bq X scope cl [x] fr C fp s H) elt te)(b:jC X scope fr:=by exact JM (by kernel_rfl))(calm:X.calm=true:=by rfl)(xe:∀e s,X.xe e s->False:=by exact λ _ _ h=>h)(UZ:∀cl C fp s H,PG (bq X scope cl [x] fr C fp s H) (.Name x px) (fV 0):=by exact λ _ _ _ _ _=>oU (i:=0) (io (by kernel_rfl)) rfl (by first|exact Or.inl rfl|exact Or.inr rfl)):fm X scope [x] fr (.Name x px) iter ifs elt wi (rc 0) tt te:=
 ⟨b,calm,xe,it,FA UZ (by simp),λ _ _ _ _ _=>hi,λ _ _ _ _ _=>he⟩
def PU(fr:List Nat)(it:WI X (.Tuple [.Name x px,.Name y py] k pt) iter wi)(hi:∀{cl C fp s H},XA (bq X scope cl [x,y] fr C fp s H) ifs tt)(he:∀{cl C fp s H},WE (bq X scope cl [x,y] fr C fp s H) elt te)(b:jC X scope fr:=by exact JM (by kernel_rfl))(calm:X.calm=true:=by rfl)(xe:∀e s,X.xe e s->False:=by exact λ _ _ h=>h)(UZ:∀cl C fp s H,PG (bq X scope cl [x,y] fr C fp s H) (.Tuple [.Name x px,.Name y py] k pt) (Jn X.K 2 (mq (fV 0) (mq (fV 1) EB))):=by exact λ _ _ _ _ _=>Hr rfl (qi (oU (i:=0) (io (by kernel_rfl)) rfl (by first|exact Or.inl rfl|exact Or.inr rfl)) (qi (oU (i:=1) (io (by kernel_rfl)) rfl (by first|exact Or.inl rfl|exact Or.inr rfl)) BE))):fm X scope [x,y] fr (.Tuple [.Name x px,.Name y py] k pt) iter ifs elt wi (Jg 2 (mj (rc 0) (mj (rc 1) Jh))) tt te:=
 ⟨b,calm,xe,it,Fz UZ (by simp) (by simp),λ _ _ _ _ _=>hi,λ _ _ _ _ _=>he⟩
end
def kJ{f:ap}{fd:FuncData}{ps:List Str}{k:Nat}{sp:dW}(F:hW K x qual st f fd)(N:List Str) (eQ:∀(dj:gV)(A:Around)(outer:List Env)(s:am)(H:Hp)(E:XK)(ds:List D)(M:Mem)(Q:bF),N.Nodup->cw k (A.deeper (PyProof.Rows.envOfC qual (aB st) s.heap.objs.size f dj))->sp ds M Q->
   ∃t,Kk (rG dX P w K mg base N qual (aB st) f dj A outer s H E).ME (bw st) t/\t {nx:=λ _ M'=>fin2 Q .bo M',rt:=fin2 Q} (iU N ds) M) (len:∀ds M Q,sp ds M Q->ds.length=ps.length:=by intro ds M Q;walk_at "len") (S:iD N ps (aB st):=by exact⟨rfl,rfl,rfl,by decide+kernel,rfl,by decide+kernel,by decide+kernel⟩):bB P w K mg base dX (k+1) f fd ps (bZ K sp):=
 ok2 F S len λ dj A outer s H E ds M Q hr h=>let⟨t,a,b⟩:=eQ dj A outer s H E ds M Q S.nd hr h;⟨t,a.h,b⟩
end L4
namespace L5
open PySem.W PyProof.Rows
section
variable (n:Nat)(lt:Nat->Nat->Bool)
def kw{α:Type}:KasT α->(α->Prop)->Prop
 | .ret a,Q=>Q a
 | .ask i j k,Q=>i<n/\j<n/\kw (k (lt i j)) Q
variable {n lt}
def jM{f:α->KasT β}{Q:β->Prop}:∀{t:KasT α},kw n lt t (λ a=>kw n lt (f a) Q)->kw n lt (t.bind f) Q
 | .ret a,h=>h
 | .ask i j k,h=>⟨h.1,h.2.1,jM (t:=k (lt i j)) h.2.2⟩
def pg(p:Array Nat)(i:Nat):Nat:=p.getD i 0
def lR(p:Array Nat)(i:Nat):pg p i=(p[i]?).getD 0:=by unfold pg;rw[Array.getD_eq_getD_getElem?]
def Pm(n:Nat)(p:Array Nat):Prop:=p.Perm (List.toArray (List.range n))
def Pm.size{p:Array Nat}(h:Pm n p):p.size=n:=by have:=Array.Perm.size_eq h;simpa using this
def Pm.below{p:Array Nat}(h:Pm n p)(i:Nat)(hn:0<n):pg p i<n:=by
 rw[lR];cases e:p[i]? with
 |none=>exact hn
 |some x=>have hm:x∈p:=Array.mem_of_getElem? e;have:=(Array.Perm.mem_iff h (a:=x)).mp hm;simpa using this
def qj{p:Array Nat}(hj:j<=p.size)(k:Nat):pg (kas_rev p i j) k=if i<=k/\k<j then pg p (i+j-1-k)else pg p k:=by
 rw[lR];unfold kas_rev;rw[getElem?_mirror_all hj k];split
 ·rw[lR]
 ·rw[lR]
def Pm.rev{p:Array Nat}(h:Pm n p)(i j:Nat):Pm n (kas_rev p i j):=Array.Perm.trans (mirror_perm _ _ _ _) h
def Hs{p:Array Nat}{l:Nat}(hk:k<p.size)(hl:l<=k)(j:Nat):pg (bubble p k (k-l)) j=if j=l then pg p k else if l<j/\j<=k then pg p (j-1)else pg p j:=by
 have e0:k-(k-l)=l:=()
 rw[lR,getElem?_bubble hk (k-l) () j,e0];by_cases h1:j=l
 ·rw[K1 h1,K1 h1,lR]
 ·rw[K3 h1,K3 h1];by_cases h2:l<j/\j<=k
  ·rw[K1 h2,K1 h2,lR]
  ·rw[K3 h2,K3 h2,lR]
def Pm.bub{p:Array Nat}(h:Pm n p)(k d:Nat):Pm n (bubble p k d):=Array.Perm.trans (bubble_perm _ _ _) h
structure Ord(lt:Nat->Nat->Bool):Prop where
 EW:∀a b,lt a b=true->lt b a=false
 tr:∀a b c,lt a b=false->lt b c=false->lt a c=false
abbrev le(lt:Nat->Nat->Bool)(a b:Nat):Prop:=lt b a=false
def Ord.refl(O:Ord lt)(a:Nat):le lt a a:=by
 show lt a a=false;cases e:lt a a with
 |false=>rfl
 |true=>have:=O.EW a a e;rw[e]at this;cases this
def Ord.trans(O:Ord lt){a b c:Nat}(h1:le lt a b)(h2:le lt b c):le lt a c:=O.tr c b a h2 h1
def Up(lt:Nat->Nat->Bool)(p:Array Nat)(m:Nat):Prop:=∀i j,i<=j->j<m->le lt (pg p i) (pg p j)
def Dn(lt:Nat->Nat->Bool)(p:Array Nat)(m:Nat):Prop:=∀i j,i<=j->j<m->le lt (pg p j) (pg p i)
def Ev(lt:Nat->Nat->Bool)(a b:Nat):Prop:=le lt a b/\le lt b a
def Ord.Xc(O:Ord lt){a b c:Nat}(h:Ev lt a b)(q:Ev lt b c):Ev lt a c:=⟨O.trans h.1 q.1,O.trans q.2 h.2⟩
def Ev.sym{a b:Nat}(h:Ev lt a b):Ev lt b a:=⟨h.2,h.1⟩
def Up.one(O:Ord lt)(p:Array Nat):Up lt p 1:=λ i j h q=>by
 have:i=j:=()
 subst this;exact O.refl _
def Up.next(O:Ord lt){p:Array Nat}(h:Up lt p m)(hm:1<=m)(q:le lt (pg p (m-1)) (pg p m)):Up lt p (m+1):=λ i j yU hj=>by
 by_cases e:j=m
 ·subst e;by_cases e2:i=j
  ·subst e2;exact O.refl _
  ·exact O.trans (h i (j-1) () ()) q
 ·exact h i j yU ()
def Dn.next(O:Ord lt){p:Array Nat}(h:Dn lt p m)(hm:1<=m)(q:le lt (pg p m) (pg p (m-1))):Dn lt p (m+1):=λ i j yU hj=>by
 by_cases e:j=m
 ·subst e;by_cases e2:i=j
  ·subst e2;exact O.refl _
  ·exact O.trans q (h i (j-1) () ())
 ·exact h i j yU ()
def Dn.ev(O:Ord lt){p:Array Nat}(h:Dn lt p m)(e:∀k,k<m->Ev lt (pg p' k) (pg p k)):Dn lt p' m:=λ i j yU hj=>
 O.trans (e j hj).1 (O.trans (h i j yU hj) (e i ()).2)
def Up.VT{p:Array Nat}(hm:m<=p.size)(h:Dn lt p m):Up lt (kas_rev p 0 m) m:=λ i j yU hj=>by rw[qj hm,qj hm,K1 ⟨G9 _,()⟩,K1 ⟨G9 _,hj⟩];exact h _ _ () ()
def Al(O:Ord lt){p:Array Nat}(hj:j<=p.size)(he:∀k,i<=k->k<j->Ev lt (pg p k) (pg p (j-1)))(k:Nat):Ev lt (pg (kas_rev p i j) k) (pg p k):=by
 rw[qj hj];split
 case isTrue h=>exact O.Xc (he _ () ()) (he k h.1 h.2).sym
 case isFalse h=>exact⟨O.refl _,O.refl _⟩
def z_(O:Ord lt){p:Array Nat}(hp:Pm n p){Q:Nat->Prop}:∀(f a:Nat),1<=a->a+f<=n->Up lt p a->(∀m,a<=m->m<=a+f->Up lt p m->(m<a+f->lt (pg p m) (pg p (m-1))=true)->Q m)->kw n lt (kas_asc p f a) Q
 |0,a,h1,hn,hu,hq=>hq a (G7 _) (G7 _) hu λ h=>be h ()
 |f+1,a,h1,hn,hu,hq=>by
  refine⟨hp.below a (),hp.below (a-1) (),?_⟩;show kw n lt (if lt (pg p a) (pg p (a-1))=true then KasT.ret a else kas_asc p f (a+1)) Q;cases e:lt (pg p a) (pg p (a-1))with
  |true=>rw[K1 rfl];exact hq a (G7 _) () hu λ _=>e
  |false=>rw[K3 (by simp)];exact z_ O hp f (a+1) () () (hu.next O h1 e) λ m m1 m2 m3 m4=>hq m () () m3 λ q=>m4 ()
def oZ(O:Ord lt){Q:Array Nat×Nat×Nat->Prop}(Ja:0<n):∀(f:Nat)(p:Array Nat)(m q:Nat),Pm n p->1<=m->m+f<=n->q+1<=m->Dn lt p m->(∀k,m-(q+1)<=k->k<m->Ev lt (pg p k) (pg p (m-1)))-> (∀p' m' q',Pm n p'->m<=m'->m'<=m+f->q'+1<=m'->Dn lt p' m'->(∀k,m'-(q'+1)<=k->k<m'->Ev lt (pg p' k) (pg p' (m'-1)))->Q (p',m',q'))->kw n lt (kas_desc f p m q) Q
 |0,p,m,q,hp,h1,hf,Ke,hd,he,hQ=>hQ p m q hp (G7 _) (G7 _) Ke hd he
 |f+1,p,m,q,hp,h1,hf,Ke,hd,he,hQ=>by
  refine⟨hp.below m Ja,hp.below (m-1) Ja,?_⟩;show kw n lt (if lt (pg p m) (pg p (m-1))=true then(if q > 0 then kas_desc f (kas_rev p (m-(q+1)) m) (m+1) 0 else kas_desc f p (m+1) 0)else KasT.ask (pg p (m-1)) (pg p m) λ d=>if d=true then KasT.ret (p,m,q)else kas_desc f p (m+1) (q+1)) Q;have hz:=hp.size;cases e:lt (pg p m) (pg p (m-1))with
  |true=>
   rw[K1 rfl];by_cases hq:q > 0
   ·rw[K1 hq];have ev:=Al O (p:=p) (i:=m-(q+1)) (j:=m) () he;have em:pg (kas_rev p (m-(q+1)) m) m=pg p m:=by rw[qj (),K3 ()]
    refine oZ O Ja f _ (m+1) 0 (hp.rev _ _) () () () ((hd.ev O λ k _=>ev k).next O h1 ?_) (λ k k1 k2=>?_) λ p' m' q' a b c d g i=>hQ p' m' q' a () () d g i
    ·rw[em];exact O.trans (O.EW _ _ e) (ev (m-1)).2
    ·have:k=m:=()
     subst this;exact⟨O.refl _,O.refl _⟩
   ·rw[K3 hq];refine oZ O Ja f _ (m+1) 0 hp () () () (hd.next O h1 (O.EW _ _ e)) (λ k k1 k2=>?_) λ p' m' q' a b c d g i=>hQ p' m' q' a () () d g i;have:k=m:=()
    subst this;exact⟨O.refl _,O.refl _⟩
  |false=>
   rw[K3 (by simp)];refine⟨hp.below (m-1) Ja,hp.below m Ja,?_⟩;cases e2:lt (pg p (m-1)) (pg p m)with
   |true=>exact hQ p m q hp (G7 _) () Ke hd he
   |false=>
    refine oZ O Ja f p (m+1) (q+1) hp () () () (hd.next O h1 e2) (λ k k1 k2=>?_) λ p' m' q' a b c d g i=>hQ p' m' q' a () () d g i;have hE:Ev lt (pg p (m-1)) (pg p m):=⟨e,e2⟩;by_cases ek:k=m
    ·subst ek;exact⟨O.refl _,O.refl _⟩
    ·exact O.Xc (he k () ()) hE
def BZ(O:Ord lt){p:Array Nat}(hp:Pm n p)(h1:1<=m)(hm:m<=n)(hd:Dn lt p m){Q:Nat×Array Nat->Prop}(hQ:∀m' p',Pm n p'->1<=m'->m'<=n->Up lt p' m'->Q (m',p')):kw n lt (kas_tail3 m n p) Q:=by unfold kas_tail3;refine jM (z_ O (hp.rev _ _) (n-m) m h1 () (Up.VT (by rw[hp.size];exact hm) hd) λ m' a b c _=>?_);exact hQ m' _ (hp.rev _ _) () () c
def xp(O:Ord lt){p:Array Nat}(hp:Pm n p)(h1:1<=m)(hm:m+1<=n)(hd:Dn lt p (m+1)){Q:Nat×Array Nat->Prop}(hQ:∀m' p',Pm n p'->1<=m'->m'<=n->Up lt p' m'->Q (m',p')):kw n lt (kas_descPart m n p) Q:=by
 unfold kas_descPart;refine jM (oZ O () (n-(m+1)) p (m+1) 0 hp () () () hd (λ k k1 k2=>?_) λ p' m' q' a b c d g i=>?_)
 ·have:k=m:=()
  subst this;exact⟨O.refl _,O.refl _⟩
 ·show kw n lt (if q' > 0 then kas_tail3 m' n (kas_rev p' (m'-(q'+1)) m')else kas_tail3 m' n p') Q;by_cases hq:q' > 0
  ·rw[K1 hq];have hz:=a.size;exact BZ O (a.rev _ _) () () (g.ev O λ k _=>Al O () i k) hQ
  ·rw[K3 hq];exact BZ O a () () g hQ
def Ir(O:Ord lt){p:Array Nat}(hp:Pm n p)(hn:2<=n){Q:Nat×Array Nat->Prop}(hQ:∀m' p',Pm n p'->1<=m'->m'<=n->Up lt p' m'->Q (m',p')):kw n lt (kas_count n p) Q:=by
 unfold kas_count;refine jM (z_ O hp (n-1) 1 (G7 _) () (Up.one O p) λ m a b c d=>?_);have hz:=hp.size;by_cases e1:(m==n)=true
 ·rw[K1 e1];exact hQ m p hp a () c
 ·rw[K3 e1];have iQ:m≠n:=λ q=>e1 (by rw[q];exact beq_self_eq_true _);have hl:=d ();by_cases e2:m > 1
  ·rw[K1 e2];refine⟨hp.below 0 (),hp.below (m-1) (),?_⟩;show kw n lt (if lt (pg p 0) (pg p (m-1))=true then KasT.ret (m,p)else kas_descPart m n (kas_rev p 0 m)) Q;cases e3:lt (pg p 0) (pg p (m-1))with
   |true=>rw[K1 rfl];exact hQ m p hp a () c
   |false=>
    rw[K3 (by simp)];have Jf:∀k,0<=k->k<m->Ev lt (pg p k) (pg p (m-1)):=λ k _ hk=>⟨c k (m-1) () (),O.trans e3 (c 0 k () hk)⟩;have ev:=Al O (p:=p) (i:=0) (j:=m) () Jf;have em:pg (kas_rev p 0 m) m=pg p m:=by rw[qj (),K3 ()]
    refine xp O (hp.rev _ _) a () (Dn.next O (λ i j yU hj=>?_) a ?_) hQ
    ·exact O.trans (ev j).1 (O.trans (O.trans (Jf j (G9 _) hj).1 (Jf i (G9 _) ()).2) (ev i).2)
    ·rw[em];exact O.trans (O.EW _ _ hl) (ev (m-1)).2
  ·rw[K3 e2];have bM:m=1:=()
   subst bM;refine xp O hp (G7 _) () (Dn.next O (λ i j yU hj=>?_) (G7 _) (O.EW _ _ hl)) hQ;have:i=j:=()
   subst this;exact O.refl _
def qv(O:Ord lt){p:Array Nat}(hp:Pm n p)(hk:k<n){Q:Nat->Prop}(hQ:∀l,l<=k->(∀i,i<l->le lt (pg p i) (pg p k))->(∀i,l<=i->i<k->lt (pg p k) (pg p i)=true)->Q l)(hu:Up lt p k):∀(f l r:Nat),l<=r->r<=k->r-l<=f->(∀i,i<l->le lt (pg p i) (pg p k))->(∀i,r<=i->i<k->lt (pg p k) (pg p i)=true)->kw n lt (kas_place p k f l r) Q
 |0,l,r,h1,h2,h3,h4,h5=>by
  have:r=l:=()
  subst this;exact hQ r h2 h4 h5
 |f+1,l,r,h1,h2,h3,h4,h5=>by
  unfold kas_place;by_cases e:l ≥ r
  ·rw[K1 e];have:r=l:=()
   subst this;exact hQ r h2 h4 h5
  ·rw[K3 e];refine⟨hp.below k (),hp.below _ (),?_⟩;show kw n lt (if lt (pg p k) (pg p ((l+r)/2))=true then kas_place p k f l ((l+r)/2)else kas_place p k f ((l+r)/2+1) r) Q;cases e2:lt (pg p k) (pg p ((l+r)/2))with
   |true=>
    rw[K1 rfl];refine qv O hp hk hQ hu f l _ () () () h4 λ i i1 i2=>?_;cases e3:lt (pg p k) (pg p i)with
    |true=>rfl
    |false=>have:=O.tr _ _ _ e3 (hu ((l+r)/2) i i1 i2);rw[e2]at this;cases this
   |false=>rw[K3 (by simp)];exact qv O hp hk hQ hu f _ r () () () (λ i hi=>O.trans (hu i ((l+r)/2) () ()) e2) h5
def Iu(O:Ord lt){Q:Array Nat->Prop}(hQ:∀p,Pm n p->Up lt p n->Q p):∀(f:Nat)(p:Array Nat)(k:Nat),Pm n p->k+f=n->Up lt p k->kw n lt (kas_bin f p k) Q
 |0,p,k,hp,hf,hu=>hQ p hp (by rw[<- hf];exact hu)
 |f+1,p,k,hp,hf,hu=>by
  unfold kas_bin;have hz:=hp.size;refine jM (qv O hp () (λ l hl h4 h5=>?_) hu k 0 k (G9 _) (G7 _) () (λ i hi=>be hi ()) λ i a b=>be b ());refine Iu O hQ f _ (k+1) (hp.bub _ _) () λ i j yU hj=>?_;rw[Hs () hl,Hs () hl];by_cases e1:i=l
  ·rw[K1 e1];by_cases e2:j=l
   ·rw[K1 e2];exact O.refl _
   ·rw[K3 e2,K1 ⟨(),()⟩];exact O.EW _ _ (h5 (j-1) () ())
  ·rw[K3 e1];by_cases e2:j=l
   ·rw[K1 e2,K3 ()];exact h4 i ()
   ·rw[K3 e2];by_cases e3:l<i/\i<=k
    ·rw[K1 e3,K1 ⟨(),()⟩];exact hu _ _ () ()
    ·rw[K3 e3];by_cases e4:l<j/\j<=k
     ·rw[K1 e4];exact hu _ _ () ()
     ·rw[K3 e4];exact hu _ _ () ()
def Nc(O:Ord lt)(hn:2<=n){Q:Array Nat->Prop}(hQ:∀p,Pm n p->Up lt p n->Q p):kw n lt (kas_sort n) Q:=by
 unfold kas_sort;refine jM (Ir O (Array.Perm.refl _) hn λ m p hp h1 h2 hu=>?_);show kw n lt (if m<n then kas_bin (n-max m 1) p (max m 1)else KasT.ret p) Q;have hm:max m 1=m:=()
 rw[hm];by_cases e:m<n
 ·rw[K1 e];exact Iu O hQ (n-m) p m hp () hu
 ·rw[K3 e];have:m=n:=()
  subst this;exact hQ p hp hu
end
def eG(T:String)(h:Heap)(j l:ap)(i:Nat):Prop:=∃o,h.get? j=some o/\o.cls=.type T/\o.data=.fields #[.ref l,.int i 0]
def eG.keep{j l:ap}(x:eG T h j l i)(k:∀o,h.get? j=some o->h'.get? j=some o):eG T h' j l i:=let⟨o,a,r⟩:=x;⟨o,k o a,r⟩
structure NK(T:String)(Sq:Heap->ap->Array gV->Prop):Prop where
 keep:∀{h h':Heap} {l:ap} {vs:Array gV},Sq h l vs->(∀o,h.get? l=some o->h'.get? l=some o)->Sq h' l vs
 start:∀{prog:Program} {w:World} {A:Around} {E:gV->am->Prop} {s:am} {l:ap} {vs:Array gV} {Q:gV->am->Prop},Sq s.heap l vs->
  Q (.ref s.heap.objs.size) {s with heap:=s.heap.push {cls:=.type T,data:=.fields #[.ref l,.int 0 0]}}->wpAny (model prog w) A (pyIter (.ref l)) Q E s
 item:∀{prog:Program} {w:World} {A:Around} {E:gV->am->Prop} {s:am} {j l:ap} {i:Nat} {vs:Array gV} {x:gV} {Q:gV->am->Prop},eG T s.heap j l i->Sq s.heap l vs->vs[i]?=some x->
  (∀h',eG T h' j l (i+1)->Heap.SameBut j s.heap h'->Q x {s with heap:=h'})->wpAny (model prog w) A (Builtin.SmallTypes.nextOf (.ref j)) Q E s
 stop:∀{prog:Program} {w:World} {A:Around} {E:gV->am->Prop} {s:am} {j l:ap} {i:Nat} {vs:Array gV} {Q:gV->am->Prop},A.handled=none->eG T s.heap j l i->Sq s.heap l vs->vs[i]?=none->
  (∀h' e,Heap.ExtBut j s.heap h'->(∃o,h'.get? e=some o/\o.cls=.type "StopIteration")->E (.ref e) {s with heap:=h'})->wpAny (model prog w) A (Builtin.SmallTypes.nextOf (.ref j)) Q E s
def MI:NK "list_iterator" Heap.IsList where
 keep:=λ x k=>x.at k
 start:=λ x q=>x3 x q
 item:=λ a b c d=>wpAny_nextOf_list_item a b c d
 stop:=λ a b c d e=>wpAny_nextOf_list_end a b c d e
def R6{j:ap}{vs:Array gV}{x:gV}(ji:s.heap.IsTupleIter j q i)(jt:s.heap.IsTuple q vs)(jx:vs[i]?=some x)(k:∀h',h'.IsTupleIter j q (i+1)->Heap.SameBut j s.heap h'->Q x {s with heap:=h'}):wpAny (model prog w) A (Builtin.SmallTypes.nextOf (.ref j)) Q E s:=by obtain⟨ob,hb,kc,kd⟩:=id ji;obtain⟨ot,ht,_,nt,dt⟩:=jt;unfold Builtin.SmallTypes.nextOf;refine J1 (i7 (name:=cS "__next__") ji.typeIs b8 (y9 b8 ji.typeIs F.entry_tuple_iterator_next ?_ (F.args_tuple_iterator_next_1 _)));refine J1 (m:=field (.ref j) 0) (H9 hb kd (x:=.ref q) rfl ?_);show wpAny _ _ (if(Value.ref q==Value.none)=true then _ else _) _ _ s;rw[K3 (show(Value.ref q==Value.none)≠true from o8)];refine J1 (m:=field (.ref j) 1) (H9 hb kd (x:=.int i 0) rfl ?_);refine J1 (m:=seqItems? (.ref q)) (B9 ht dt ?_);simp only[u9,jx];refine J1 (wpAny_setField hb kd (by simp) (J3 ⟨x,rfl,J3 (k _ ?_ (l8 ..))⟩));refine⟨_,j7 _ hb (Obj.isFreed_of_fields (s9 kd _)),(Obj.cls_mapFields ..).trans kc,?_⟩;rw[s9 kd];simp[rawInt]
def Qq{j:ap}{vs:Array gV}(hA:A.handled=none)(ji:s.heap.IsTupleIter j q i)(jt:s.heap.IsTuple q vs)(jx:vs[i]?=none)(k:∀h' e,Heap.ExtBut j s.heap h'->(∃o,h'.get? e=some o/\o.cls=.type "StopIteration")->E (.ref e) {s with heap:=h'}):wpAny (model prog w) A (Builtin.SmallTypes.nextOf (.ref j)) Q E s:=by obtain⟨ob,hb,kc,kd⟩:=id ji;obtain⟨ot,ht,_,nt,dt⟩:=jt;unfold Builtin.SmallTypes.nextOf;refine J1 (i7 (name:=cS "__next__") ji.typeIs b8 (y9 b8 ji.typeIs F.entry_tuple_iterator_next ?_ (F.args_tuple_iterator_next_1 _)));refine J1 (m:=field (.ref j) 0) (H9 hb kd (x:=.ref q) rfl ?_);show wpAny _ _ (if(Value.ref q==Value.none)=true then _ else _) _ _ s;rw[K3 (show(Value.ref q==Value.none)≠true from o8)];refine J1 (m:=field (.ref j) 1) (H9 hb kd (x:=.int i 0) rfl ?_);refine J1 (m:=seqItems? (.ref q)) (B9 ht dt ?_);simp only[u9,jx];refine J1 (J4 (J1 (wpAny_setField hb kd (by simp) ?_)));refine J1 (m:=newExc (.type "StopIteration") []) ?_;simp only[newExc,newTuple];refine J1 (w5 (J1 (m:=firstArgMember _ _) (wpAny_of_eq (a:=Value.none) (by first|rfl|(simp only[firstArgMember];rfl)) (w5 ?_ (by size_fits)))) (by size_fits));simp only[raiseNew];refine J1 (wpAny_handled ?_);have hB:A.in1.handled=none:=hA;rw[hB];exact J1 (J3 (wpAny_throw (k _ _ (((l8 ..).extBut.push _).push _) ⟨_,n6 _ rfl,rfl⟩)))
def wX:NK "tuple_iterator" Heap.IsTuple where
 keep:=λ x k=>let⟨o,a,r⟩:=x;⟨o,k o a,r⟩
 start:=λ x q=>wpAny_pyIter_tuple x q
 item:=λ a b c d=>R6 a b c d
 stop:=λ a b c d e=>Qq a b c d e
structure Za(z u v a b l m:ap):Prop where
 uz:u≠z
 vz:v≠z
 az:a≠z
 bz:b≠z
 uv:u≠v
 ua:u≠a
 ub:u≠b
 va:v≠a
 vb:v≠b
 ab:a≠b
 lz:l≠z
 lv:l≠v
 la:l≠a
 lb:l≠b
 mz:m≠z
 mv:m≠v
 ma:m≠a
 mb:m≠b
section
variable {T1 T2:String}{S1 S2:Heap->ap->Array gV->Prop}
def Dk{z u v a b l m:ap}{i:Nat}{xs ys:Array gV}{x y c d:gV}{Q:gV->am->Prop}(k1:NK T1 S1)(k2:NK T2 S2)(D:Za z u v a b l m)(hz:IsZip s.heap z u v .none)(hu:IsPair s.heap u (.ref a) (.ref b))(hv:IsPair s.heap v c d)(ha:eG T1 s.heap a l i)(hb:eG T2 s.heap b m i)(hl:S1 s.heap l xs)(hm:S2 s.heap m ys)(hx:xs[i]?=some x)(hy:ys[i]?=some y) (k:∀h',IsZip h' z u v (rawInt s.heap.objs.size)->IsPair h' v x y->eG T1 h' a l (i+1)->eG T2 h' b m (i+1)->IsPair h' s.heap.objs.size x y->h'.objs.size=s.heap.objs.size+1->
   (∀f o,f≠z->f≠v->f≠a->f≠b->s.heap.get? f=some o->h'.get? f=some o)->Q (.ref s.heap.objs.size) {s with heap:=h'}):
  wpAny (model prog w) A (Builtin.«zip.__next__» ⟨[.ref z],[]⟩) (λ fin s'=>∃v,fin=.done (.ret v)/\Q v s') E s:=by
 refine J1 (m:=field (.ref z) 2) (H9 hz rfl (x:=.bool false) rfl ?_);refine J1 (m:=field (.ref z) 3) (H9 hz rfl (x:=.ref u) rfl ?_);refine J1 (B9 hu rfl ?_);refine J1 (m:=Builtin.SmallTypes.ownedTupleIsFree (.ref z)) ?_;unfold Builtin.SmallTypes.ownedTupleIsFree;refine J1 (m:=field (.ref z) 0) (H9 hz rfl (x:=.none) rfl (J3 ?_));simp only[K0];refine J1 (J4 (J1 (H9 hz rfl (x:=.ref v) rfl (J1 (p7 hz (by simp) λ g1 z1 s1=>?_)))));have z1:IsZip g1 z u v .ellipsis:=z1;refine J1 ?_;simp only[zipIdx_cons,zipIdx_nil,forIn_cons,forIn_nil];refine J1 (J1 (wpAny_onRaise (J1 (m:=Builtin.SmallTypes.nextOf (.ref a)) (k1.item (ha.keep λ o e=>s1.extBut _ _ D.az e) (k1.keep hl λ o e=>s1.extBut _ _ D.lz e) hx λ g2 a2 s2=>J3 ?_))));have v2:IsPair g2 v c d:=s2.extBut _ _ D.va (s1.extBut _ _ D.vz hv);refine J1 (B9 v2 rfl (J1 (wpAny_updateSeq_pair v2 λ g3 v3 s3=>J1 (J0 (J3 ?_)))));have v3:IsPair g3 v x d:=v3;have qy:∀f o,f≠z->f≠v->f≠a->s.heap.get? f=some o->g3.get? f=some o:=λ f o n1 n2 n3 e=>s3.extBut _ _ n2 (s2.extBut _ _ n3 (s1.extBut _ _ n1 e));refine J1 (J1 (wpAny_onRaise (J1 (m:=Builtin.SmallTypes.nextOf (.ref b)) (k2.item (hb.keep λ o e=>qy _ _ D.bz D.vb.symm D.ab.symm e) (k2.keep hm λ o e=>qy _ _ D.mz D.mv D.ma e) hy λ g4 b4 s4=>J3 ?_))));have v4:IsPair g4 v x d:=s4.extBut _ _ D.vb v3;refine J1 (B9 v4 rfl (J1 (wpAny_updateSeq_pair v4 λ g5 v5 s5=>J1 (J0 (J3 (J3 ?_))))));have v5:IsPair g5 v x y:=v5;refine J1 (B9 v5 rfl (J1 (wpAny_newTuple ?_)));have ez:g5.objs.size=s.heap.objs.size:=by rw[s5.1,s4.1,s3.1,s2.1,s1.1]
 have Wc:∀f o,f≠z->f≠v->f≠a->f≠b->s.heap.get? f=some o->g5.get? f=some o:=λ f o n1 n2 n3 n4 e=>s5.extBut _ _ n2 (s4.extBut _ _ n4 (qy f o n1 n2 n3 e));have z5:IsZip g5 z u v .ellipsis:=s5.extBut _ _ D.vz.symm (s4.extBut _ _ D.bz.symm (s3.extBut _ _ D.vz.symm (s2.extBut _ _ D.az.symm z1)));have a5:eG T1 g5 a l (i+1):=a2.keep λ o e=>s5.extBut _ _ D.va.symm (s4.extBut _ _ D.ab (s3.extBut _ _ D.va.symm e));have b5:eG T2 g5 b m (i+1):=b4.keep λ o e=>s5.extBut _ _ D.vb.symm e;have X9:z<g5.objs.size:=D7 z5;refine J1 (m:=Builtin.SmallTypes.ownedTupleHandOut (.ref z) (.ref g5.objs.size)) ?_;unfold Builtin.SmallTypes.ownedTupleHandOut;have z6:IsZip (g5.push {cls:=.type "tuple",data:=.seq #[x,y]}) z u v .ellipsis:=j5 _ z5;refine J1 (p7 z6 (by simp) λ g7 z7 s7=>p7 (show IsZip g7 z u v (rawInt g5.objs.size)from z7) (by simp) λ g8 z8 s8=>?_);have z8:IsZip g8 z u v (rawInt g5.objs.size):=z8;have go:∀f o,f≠z->g5.get? f=some o->g8.get? f=some o:=λ f o n1 e=>s8.extBut _ _ n1 (s7.extBut _ _ n1 (j5 _ e));have t8:IsPair g8 g5.objs.size x y:=s8.extBut _ _ (G4 X9) (s7.extBut _ _ (G4 X9) (n6 _ rfl));have e8:g8.objs.size=g5.objs.size+1:=by rw[s8.1,s7.1,C0]
 rw[ez]at z8 t8 e8;refine J3 ⟨_,rfl,?_⟩;show Q (.ref g5.objs.size) _;rw[ez];exact k g8 z8 (go _ _ D.vz v5) (a5.keep λ o e=>go _ o D.az e) (b5.keep λ o e=>go _ o D.bz e) t8 e8 λ f o n1 n2 n3 n4 e=>go f o n1 (Wc f o n1 n2 n3 n4 e)
def Fp{z u v b l m:ap}{xs ys:Array gV}{c d:gV}{Q:Fin->am->Prop}(hA:A.handled=none)(k1:NK T1 S1)(k2:NK T2 S2)(D:Za z u v a b l m)(hz:IsZip s.heap z u v .none)(hu:IsPair s.heap u (.ref a) (.ref b))(hv:IsPair s.heap v c d)(ha:eG T1 s.heap a l i)(hb:eG T2 s.heap b m i)(hl:S1 s.heap l xs)(hm:S2 s.heap m ys)(he:xs[i]?=none\/ys[i]?=none)(k:∀h' e,(∀f o,f≠z->f≠v->f≠a->f≠b->s.heap.get? f=some o->h'.get? f=some o)->(∃o,h'.get? e=some o/\o.cls=.type "StopIteration")->E (.ref e) {s with heap:=h'}):wpAny (model prog w) A (Builtin.«zip.__next__» ⟨[.ref z],[]⟩) Q E s:=by
 refine J1 (m:=field (.ref z) 2) (H9 hz rfl (x:=.bool false) rfl ?_);refine J1 (m:=field (.ref z) 3) (H9 hz rfl (x:=.ref u) rfl ?_);refine J1 (B9 hu rfl ?_);refine J1 (m:=Builtin.SmallTypes.ownedTupleIsFree (.ref z)) ?_;unfold Builtin.SmallTypes.ownedTupleIsFree;refine J1 (m:=field (.ref z) 0) (H9 hz rfl (x:=.none) rfl (J3 ?_));simp only[K0];refine J1 (J4 (J1 (H9 hz rfl (x:=.ref v) rfl (J1 (p7 hz (by simp) λ g1 z1 s1=>?_)))));have z1:IsZip g1 z u v .ellipsis:=z1;refine J1 ?_;simp only[zipIdx_cons,zipIdx_nil,forIn_cons,forIn_nil];have ha1:=ha.keep (h':=g1) λ o e=>s1.extBut _ _ D.az e;have Yl:=k1.keep (h':=g1) hl λ o e=>s1.extBut _ _ D.lz e;refine J1 (J1 (wpAny_onRaise ?_));cases hx:xs[i]? with
 |none=>
  refine J1 (m:=Builtin.SmallTypes.nextOf (.ref a)) (k1.stop hA ha1 Yl hx λ g2 e s2 oe=>?_);obtain⟨ob,NC,Kh⟩:=oe;have z2:IsZip g2 z u v .ellipsis:=s2 _ _ D.az.symm z1;have ne:e≠z:=λ q=>by subst q;rw[z2]at NC;cases NC;simp at Kh
  exact p7 z2 (by simp) λ g3 _ s3=>k g3 e (λ f o n1 _ n3 _ q=>s3.extBut _ _ n1 (s2 _ _ n3 (s1.extBut _ _ n1 q))) ⟨ob,s3.extBut _ _ ne NC,Kh⟩
 |some x=>
  have hy:ys[i]?=none:=by rcases he with q|q;rw[hx]at q;cases q;exact q
  refine J1 (m:=Builtin.SmallTypes.nextOf (.ref a)) (k1.item ha1 Yl hx λ g2 a2 s2=>J3 ?_);have v2:IsPair g2 v c d:=s2.extBut _ _ D.va (s1.extBut _ _ D.vz hv);refine J1 (B9 v2 rfl (J1 (wpAny_updateSeq_pair v2 λ g3 v3 s3=>J1 (J0 (J3 ?_)))));have qy:∀f o,f≠z->f≠v->f≠a->s.heap.get? f=some o->g3.get? f=some o:=λ f o n1 n2 n3 e=>s3.extBut _ _ n2 (s2.extBut _ _ n3 (s1.extBut _ _ n1 e));refine J1 (J1 (wpAny_onRaise (J1 (m:=Builtin.SmallTypes.nextOf (.ref b)) (k2.stop hA (hb.keep λ o e=>qy _ _ D.bz D.vb.symm D.ab.symm e) (k2.keep hm λ o e=>qy _ _ D.mz D.mv D.ma e) hy λ g4 e s4 oe=>?_))));obtain⟨ob,NC,Kh⟩:=oe;have z4:IsZip g4 z u v .ellipsis:=s4 _ _ D.bz.symm (s3.extBut _ _ D.vz.symm (s2.extBut _ _ D.az.symm z1));have ne:e≠z:=λ q=>by subst q;rw[z4]at NC;cases NC;simp at Kh
  exact p7 z4 (by simp) λ g5 _ s5=>k g5 e (λ f o n1 n2 n3 n4 q=>s5.extBut _ _ n1 (s4 _ _ n4 (qy f o n1 n2 n3 q))) ⟨ob,s5.extBut _ _ ne NC,Kh⟩
def Ia{z u v a b l m:ap}{i:Nat}{xs ys:Array gV}{x y c d:gV}{Q:Option gV->am->Prop}(k1:NK T1 S1)(k2:NK T2 S2)(D:Za z u v a b l m)(hz:IsZip s.heap z u v .none)(hu:IsPair s.heap u (.ref a) (.ref b))(hv:IsPair s.heap v c d)(ha:eG T1 s.heap a l i)(hb:eG T2 s.heap b m i)(hl:S1 s.heap l xs)(hm:S2 s.heap m ys)(hx:xs[i]?=some x)(hy:ys[i]?=some y) (k:∀h',IsZip h' z u v (rawInt s.heap.objs.size)->IsPair h' v x y->eG T1 h' a l (i+1)->eG T2 h' b m (i+1)->IsPair h' s.heap.objs.size x y->h'.objs.size=s.heap.objs.size+1->
   (∀f o,f≠z->f≠v->f≠a->f≠b->s.heap.get? f=some o->h'.get? f=some o)->Q (some (.ref s.heap.objs.size)) {s with heap:=h'}):wpAny (model prog w) A (pyNext (.ref z)) Q E s:=by
 have ty:s.TypeIs (.ref z) "zip":=⟨_,hz,rfl⟩;unfold pyNext;refine J1 (wpAny_attempt (i7 (name:=cS "__next__") ty F.slot_zip_next (y9 F.slot_zip_next ty F.entry_zip_next ?_ (F.args_zip_next_1 _))));exact Dk k1 k2 D hz hu hv ha hb hl hm hx hy λ h' a1 a2 a3 a4 a5 a6 a7=>J3 (k h' a1 a2 a3 a4 a5 a6 a7)
def Iq{z u v b l m:ap}{xs ys:Array gV}{c d:gV}{Q:Option gV->am->Prop}(hA:A.handled=none)(k1:NK T1 S1)(k2:NK T2 S2)(D:Za z u v a b l m)(hz:IsZip s.heap z u v .none)(hu:IsPair s.heap u (.ref a) (.ref b))(hv:IsPair s.heap v c d)(ha:eG T1 s.heap a l i)(hb:eG T2 s.heap b m i)(hl:S1 s.heap l xs)(hm:S2 s.heap m ys)(he:xs[i]?=none\/ys[i]?=none)(k:∀h',(∀f o,f≠z->f≠v->f≠a->f≠b->s.heap.get? f=some o->h'.get? f=some o)->Q none {s with heap:=h'}):wpAny (model prog w) A (pyNext (.ref z)) Q E s:=by have ty:s.TypeIs (.ref z) "zip":=⟨_,hz,rfl⟩;unfold pyNext;refine J1 (wpAny_attempt (i7 (name:=cS "__next__") ty F.slot_zip_next (y9 F.slot_zip_next ty F.entry_zip_next ?_ (F.args_zip_next_1 _))));refine Fp hA k1 k2 D hz hu hv ha hb hl hm he λ h' e q oe=>?_;obtain⟨ob,NC,Kh⟩:=oe;exact J1 (wpAny_isInstance (T:="StopIteration") (b:=true) ⟨ob,NC,Kh⟩ isSubtype_stop (J3 (k _ q)))
end
abbrev AO(T:String)(h:Heap)(l:ap):Heap:=h.push {cls:=.type T,data:=.fields #[.ref l,.int 0 0]}
abbrev UP(T1 T2:String)(h:Heap)(l m:ap):Heap:=(AO T2 (AO T1 h l) m).push {cls:=.type "tuple",data:=.seq #[.ref h.objs.size,.ref (AO T1 h l).objs.size]}
abbrev UO(T1 T2:String)(h:Heap)(l m:ap):Heap:=(UP T1 T2 h l m).push {cls:=.type "tuple",data:=.seq #[.none,.none]}
abbrev PQ(T1 T2:String)(h:Heap)(l m:ap):Heap:=(UO T1 T2 h l m).push {cls:=.type "zip",data:=.fields #[.none,.bool false,.bool false,.ref (AO T2 (AO T1 h l) m).objs.size,.ref (UP T1 T2 h l m).objs.size]}
def Dj(k1:NK T1 S1)(k2:NK T2 S2)(l m:ap)(xs ys:Array gV):Meets (Builtin.«zip.__new__» ⟨[.type "zip",.ref l,.ref m],[]⟩) (λ _ R s=>S1 s.heap l xs/\S2 s.heap m ys/\R (.ok (.ret (.ref (UO T1 T2 s.heap l m).objs.size))) {s with heap:=PQ T1 T2 s.heap l m}):=
 .of_wp λ prog w A R s h=>by
  obtain⟨hp,g,d,tk,os⟩:=s;obtain⟨a1,a2,h⟩:=h;have sz:=sub_zip;have b1:S1 (Shared.heap ⟨hp,g,d,tk,os⟩) l xs:=a1;have b2:S2 (Shared.heap ⟨hp.push {cls:=.type T1,data:=.fields #[.ref l,.int 0 0]},g,d,tk,os⟩) m ys:=k2.keep a2 λ o e=>j5 _ e
  wp_walk using k1.start b1,k2.start b2
  exact⟨_,rfl,h⟩
def Sf{E:gV->am->Prop}{s:am}{T1 T2:String}{S1 S2:Heap->ap->Array gV->Prop}(k1:NK T1 S1)(k2:NK T2 S2){l m:ap}{xs ys:Array gV}{Q:gV->am->Prop}(a1:S1 s.heap l xs)(a2:S2 s.heap m ys) (k:∀h',IsZip h' (s.heap.objs.size+4) (s.heap.objs.size+2) (s.heap.objs.size+3) .none->IsPair h' (s.heap.objs.size+2) (.ref s.heap.objs.size) (.ref (s.heap.objs.size+1))->IsPair h' (s.heap.objs.size+3) .none .none->
   eG T1 h' s.heap.objs.size l 0->eG T2 h' (s.heap.objs.size+1) m 0->h'.objs.size=s.heap.objs.size+5->(∀f o,s.heap.get? f=some o->h'.get? f=some o)->Q (.ref (s.heap.objs.size+4)) {s with heap:=h'}):
  wpAny (model prog w) A (call (.type "zip") [.ref l,.ref m]) Q E s:=by
 refine callType_new F.called_zip (by decide) (F.typeCall_zip_2 _ _) (F.newCall_zip_2 _ _) (λ ob=>F.args_object_init_3 ob _ _) F.entry_zip_new (Dj k1 k2 l m xs ys) ⟨a1,a2,?_⟩;have e1:(AO T1 s.heap l).objs.size=s.heap.objs.size+1:=C0 ..;have e2:(AO T2 (AO T1 s.heap l) m).objs.size=s.heap.objs.size+2:=by rw[C0,e1]
 have e3:(UP T1 T2 s.heap l m).objs.size=s.heap.objs.size+3:=by rw[C0,e2]
 have e4:(UO T1 T2 s.heap l m).objs.size=s.heap.objs.size+4:=by rw[C0,e3]
 have e5:(PQ T1 T2 s.heap l m).objs.size=s.heap.objs.size+5:=by rw[C0,e4]
 have up1:∀f o,(UO T1 T2 s.heap l m).get? f=some o->(PQ T1 T2 s.heap l m).get? f=some o:=λ f o e=>j5 _ e;have up2:∀f o,(UP T1 T2 s.heap l m).get? f=some o->(PQ T1 T2 s.heap l m).get? f=some o:=λ f o e=>up1 f o (j5 _ e);have up3:∀f o,(AO T2 (AO T1 s.heap l) m).get? f=some o->(PQ T1 T2 s.heap l m).get? f=some o:=λ f o e=>up2 f o (j5 _ e);have up4:∀f o,(AO T1 s.heap l).get? f=some o->(PQ T1 T2 s.heap l m).get? f=some o:=λ f o e=>up3 f o (j5 _ e);have g5:(PQ T1 T2 s.heap l m).get? (UO T1 T2 s.heap l m).objs.size=some _:=n6 _ rfl;have g4:=up1 _ _ (n6 (UP T1 T2 s.heap l m) rfl);have g3:=up2 _ _ (n6 (AO T2 (AO T1 s.heap l) m) rfl);have g2:=up3 _ _ (n6 (AO T1 s.heap l) rfl);have g1:=up4 _ _ (n6 (s.heap) rfl);show _/\_;rw[e2,e3,e4]at g5;rw[e1,e2]at g3;rw[e3]at g4;rw[e1]at g2;rw[e4];exact⟨⟨_,g5,rfl⟩,k _ g5 g3 g4 ⟨_,g1,rfl,rfl⟩ ⟨_,g2,rfl,rfl⟩ e5 λ f o x=>up4 f o (j5 _ x)⟩
end L5
namespace L2
open PySem.Spec PyProof.Rows
open HT (lexLt dA eM dO dP qd)
open PySem.SeqAt PySem.MeetsSeq PySem.MeetsSeq2 PySem.MeetsSeq3 PySem.SeqRoads2
open PySem.AutoSeq1 (wpAny_loadPart')
def pj(h:IntsAre vs ns)(hi:i<ns.length):∃t,vs[i]?=some (.int ns[i] t):=by
 induction h generalizing i with
 |nil=>simp at hi
 |cons n t h ih=>
  cases i with
  |zero=>exact⟨t,rfl⟩
  |succ i=>obtain⟨t',e⟩:=ih (i:=i) (by simpa using hi);exact⟨t',by simpa using e⟩
def MT(l b:ap)(xs ys:Array gV)(n k:Nat)(dd ee:Option ap)(sl tl:Array (Option gV))(ns ms:List Int)(hi:IntsAre xs.toList ns)(hj:IntsAre ys.toList ms)(f:Nat):∀i:Nat,ns.length-i=f->Meets (Builtin.«list.__eq__.loop» ⟨[.ref l,.ref b,rawInt i,rawInt 0],[]⟩)
   (λ A R s=>s.heap.get? l=some {cls:=.type "list",dict:=dd,data:=.seq xs n,slots:=sl}/\s.heap.get? b=some {cls:=.type "list",dict:=ee,data:=.seq ys k,slots:=tl}/\i<=ns.length/\i<=ms.length/\
    R (.ok (.ret (.bool (lexLt (ns.drop i) (ms.drop i))))) s):=by
 have z1:xs.size=ns.length:=by rw[<- hi.length];simp
 have z2:ys.size=ms.length:=by rw[<- hj.length];simp
 induction f with
 |zero=>
  intro i hf prog w A R s h;obtain⟨hp,g,d,tk,os⟩:=s;obtain⟨hl,hb,i1,i2,h⟩:=h
  wp_walk using A8 hl,A8 hb
  have e1:xs[((i:Nat):Int).toNat]?=none:=by simp;lia
  have d1:ns.drop i=[]:=by simp;lia
  rw[d1]at h;rw[e1];have fin:R (.ok (.ret (.bool (decide (xs.size<ys.size))))) ⟨hp,g,d,tk,os⟩:=by
   have q:lexLt [] (ms.drop i)=decide (xs.size<ys.size):=by
    cases e:ms.drop i with
    |nil=>
     have:ms.length<=i:=by simpa using e
     rw[eM];exact(A7 ()).symm
    |cons c r=>
     have:i<ms.length:=by refine y7 λ z=>?_;rw[drop_eq_nil_of_le z]at e;cases e
     rw[dO];exact(B8 ()).symm
   rw[<- q];exact h
  wp_walk using A8 hl,A8 hb
  exact fin
 |succ f ih=>
  intro i hf prog w A R s h;obtain⟨hp,g,d,tk,os⟩:=s;obtain⟨hl,hb,i1,i2,h⟩:=h;have a1:i<ns.length:=()
  obtain⟨t,e1⟩:=pj hi a1;have e1:xs[((i:Nat):Int).toNat]?=some (.int ns[i] t):=by simpa using e1
  by_cases a2:i<ms.length
  ·obtain⟨u,e2⟩:=pj hj a2;have e2:ys[((i:Nat):Int).toNat]?=some (.int ms[i] u):=by simpa using e2
   rw[c6 a1,c6 a2,dA]at h
   wp_walk using A8 hl,A8 hb
   rw[e1,e2];refine J1 (EqAt.int_int ns[i] t ms[i] u prog w _ _ ?_);have cc:((i:Int)+1)=((i+1:Nat):Int):=by push_cast;rfl
   by_cases q:ns[i]=ms[i]
   ·rw[K1 q]at h;have qb:(ns[i]==ms[i])=true:=by simp[q]
    rw[qb]
    wp_walk
    rw[cc];exact⟨D1 plain_eq_loop _,B2 entry_eq_loop (by rw[l5 plain_eq_loop _];exact ih (i+1) () prog w A R _ ⟨hl,hb,(),(),h⟩)⟩
   ·rw[K3 q]at h;have qb:(ns[i]==ms[i])=false:=by simp[q]
    rw[qb];have rl:=qd A.in1 ⟨hp,g,d,tk,os⟩ ns[i] t ms[i] u prog w
    wp_walk using A8 hl,A8 hb
    rw[e1,e2]
    wp_walk using rl
    exact h
  ·have e2:ys[((i:Nat):Int).toNat]?=none:=by simp;lia
   have d2:ms.drop i=[]:=by simp;lia
   rw[c6 a1,d2,dP]at h
   wp_walk using A8 hl,A8 hb
   rw[e1,e2]
   wp_walk using A8 hl,A8 hb
   have q:decide (xs.size<ys.size)=false:=A7 ();show R (.ok (.ret (.bool (decide (xs.size<ys.size))))) _;rw[q];exact h
def xj(l b:ap)(xs ys:Array gV)(n k:Nat)(dd ee:Option ap)(sl tl:Array (Option gV))(ns ms:List Int)(hi:IntsAre xs.toList ns)(hj:IntsAre ys.toList ms):
  Meets (Builtin.«list.__lt__» ⟨[.ref l,.ref b],[]⟩) (λ A R s=>s.heap.get? l=some {cls:=.type "list",dict:=dd,data:=.seq xs n,slots:=sl}/\s.heap.get? b=some {cls:=.type "list",dict:=ee,data:=.seq ys k,slots:=tl}/\
    R (.ok (.ret (.bool (lexLt ns ms)))) s):=by
 intro prog w A R s h;obtain⟨hp,g,d,tk,os⟩:=s;obtain⟨hl,hb,h⟩:=h;have f3:=AutoSeq1.sub_list_list
 wp_walk using A8 hl,A8 hb
 exact⟨D1 plain_eq_loop _,B2 entry_eq_loop (by rw[l5 plain_eq_loop _];exact MT l b xs ys n k dd ee sl tl ns ms hi hj _ 0 rfl prog w A R _ ⟨hl,hb,G9 _,G9 _,h⟩)⟩
def Ik{l b:ap}{xs ys:Array gV}{ms:List Int}(hl:s.heap.IsList l xs)(hb:s.heap.IsList b ys)(hi:IntsAre xs.toList ns)(hj:IntsAre ys.toList ms)(hu:A.units<cLine)(h:Q (.bool (lexLt ns ms)) s):wpAny (model prog w) A (compareOp .Lt (.ref l) (.ref b)) Q E s:=by
 obtain⟨⟨c1,dd,da,sl⟩,o1,k1,n,d1⟩:=id hl;obtain⟨⟨c2,ee,db,tl⟩,o2,k2,m,d2⟩:=id hb;simp only at k1 d1 k2 d2;subst k1 d1 k2 d2;exact richCompare_meets_room (op:=.Lt) ⟨_,o1,rfl⟩ ⟨_,o2,rfl⟩ PySem.F.slot_list_lt PySem.F.entry_list_lt (PySem.F.args_list_lt_2 _ _) (xj l b xs ys n m dd ee sl tl ns ms hi hj)
  ⟨o1,o2,show Value.bool (lexLt ns ms)≠Value.notImplemented/\Q (.bool (lexLt ns ms)) s from⟨(λ x=>nomatch x),h⟩⟩ hu
open L5
def Sq(b:Bool)(K:K6)(H:Hp)(a:ap)(xs:List V):Prop:=match b with
 |true=>hG K H a xs
 |false=>eO K H a xs
def XW(b:Bool):String:=match b with
 |true=>"tuple_iterator"
 |false=>"list_iterator"
def Aj(b:Bool):Heap->ap->Array gV->Prop:=match b with
 |true=>Heap.IsTuple
 |false=>Heap.IsList
def lX:∀b,NK (XW b) (Aj b)
 |true=>wX
 |false=>MI
section
variable {v:ap}
def fM(I:sn X jp σ H s):∀{b:Bool},Sq b X.K H a xs->∃aq:List gV,ut xs aq/\Aj b s.heap a aq.toArray
 |true,h=>let⟨aq,r,p,_⟩:=I.tuple h;⟨aq,r,p⟩
 |false,h=>let⟨aq,r,p,_⟩:=I.list h;⟨aq,r,p.isList⟩
def zq(I:sn X jp σ H s):∀{b:Bool},Sq b X.K H a xs->Sq b X.K H a ys->xs=ys
 |true,h,q=>I.rW h q
 |false,h,q=>I.xi h q
def Bq{u:HO}(h:Rd H a u):∃o,H a=some o:=by
 rcases h with h|⟨o,h⟩
 ·exact⟨_,h⟩
 ·exact⟨_,h⟩
def FT:∀{b:Bool} {K:K6},Sq b K H a xs->(∃o,H a=some o)\/∃o,K.lookup a=some o
 |true,K,h=>by
  rcases h with h|⟨o,aq,n,hk,_⟩
  ·exact .inl (Bq h)
  ·exact .inr ⟨o,hk⟩
 |false,K,h=>by
  rcases h with h|⟨o,aq,n,hk,_⟩
  ·exact .inl (Bq h)
  ·exact .inr ⟨o,hk⟩
def iV(I:sn X jp σ H s)(f:iP X jp H v)(h:Sq b X.K H a xs):a≠v:=λ e=>by
 subst e;rcases FT h with⟨o,q⟩|⟨o,q⟩
 ·rw[f.1]at q;cases q
 ·have q:=I.ok.mod.Wb a o q;rcases f.2.2.2.1 with z|z
  ·exact I.ok.Ec a o q z
  ·exact be (p9 (D7 q) (E6 I.ok.CW z)) (C7 _)
def nM(I:sn X jp σ H s)(k:∀b o,b∉ch->s.heap.get? b=some o->h'.get? b=some o)(hf:∀b∈ch,iP X jp H b):sn X jp σ H {s with heap:=h',toks:=t'}:=by
 have V1:∀b u,H b=some u->b∉ch:=λ b u e z=>by rw[(hf b z).1]at e;cases e
 refine I.step (g':=s.gens) (d':=s.drawn) (ch:=ch) (λ b hb=>?_) (λ b o _ _ hc e _=>k b o hc e) (λ b o _ _ hc e _=>⟨o.slots,k b o hc e⟩) (λ _ _ _ _ n=>n)
  (λ b o hc e=>⟨o,k b o hc e⟩) (λ _ _ e=>e) (λ _ _ _ e=>e) (λ b ps e=>⟨#[],by rw[e];simp⟩) (λ m hm=>?_) (λ b u e=>?_) I.bare
 ·obtain⟨f0,f1,f2,f3,f4,f5⟩:=hf b hb;exact⟨f3,f1,f4,f5⟩
 ·obtain⟨o,es,ep,ho,r⟩:=hm;exact⟨o,es,ep,k _ o (λ z=>(hf _ z).2.1 rfl) ho,r⟩
 ·refine(I.bu b u e).kr (λ c v hc q=>k c v ?_ q) (λ _ q=>q) λ _ _ q=>q;rcases hc with z|z
  ·rw[z];exact V1 b u e
  ·exact V1 c _ z
end
def YI(K:K6)(b1 b2:Bool)(l m:ap):It:=
 ⟨λ i H=>∃xs ys x y,Sq b1 K H l xs/\Sq b2 K H m ys/\xs[i]?=some x/\ys[i]?=some y,
  λ i H v H'=>∃(p:ap)(x y:V),H p=none/\v=.ref p/\H'=u8 H p (.tup [x,y])/\(∀xs,Sq b1 K H l xs->xs[i]?=some x)/\∀ys,Sq b2 K H m ys->ys[i]?=some y,
  λ i H=>∃xs ys,Sq b1 K H l xs/\Sq b2 K H m ys/\(xs.length<=i\/ys.length<=i)⟩
structure Zb(z u v a b:ap):Prop where
 uz:u≠z
 vz:v≠z
 az:a≠z
 bz:b≠z
 uv:u≠v
 ua:u≠a
 ub:u≠b
 va:v≠a
 vb:v≠b
 ab:a≠b
def tnZ(b1 b2:Bool)(z u v a b l m:ap)(i:Nat)(h:Heap):Prop:=IsZip h z u v .none/\IsPair h u (.ref a) (.ref b)/\(∃c d,IsPair h v c d)/\eG (XW b1) h a l i/\eG (XW b2) h b m i
def Ou{z u v b l m:ap}(I:sn X jp σ H s)(B:Zb z u v a b)(hf:∀c∈[z,u,v,a,b],iP X jp H c)(hl:Sq b1 X.K H l xs)(hm:Sq b2 X.K H m ys):Za z u v a b l m:=
 ⟨B.uz,B.vz,B.az,B.bz,B.uv,B.ua,B.ub,B.va,B.vb,B.ab,iV I (hf z (by simp)) hl,iV I (hf v (by simp)) hl,iV I (hf a (by simp)) hl,iV I (hf b (by simp)) hl,
  iV I (hf z (by simp)) hm,iV I (hf v (by simp)) hm,iV I (hf a (by simp)) hm,iV I (hf b (by simp)) hm⟩
def FL(b1 b2:Bool){z u v b:ap}(B:Zb z u v a b)(l m:ap):Turn P w K (.Tuple es k0 pos) (YI K b1 b2 l m) [z,u,v,a,b] z (tnZ b1 b2 z u v a b l m) where
 mem:=by simp
 obj:=λ i h st c hc=>by
  obtain⟨hz,hu,⟨x,y,hv⟩,⟨oa,ha,_,da⟩,⟨ob,hb,_,db⟩⟩:=st;rcases C9.mp hc with rfl|hc
  ·exact⟨_,hz,λ v z=>by cases z⟩
  rcases C9.mp hc with rfl|hc
  ·exact⟨_,hu,λ v z=>by cases z⟩
  rcases C9.mp hc with rfl|hc
  ·exact⟨_,hv,λ v z=>by cases z⟩
  rcases C9.mp hc with rfl|hc
  ·exact⟨_,ha,λ v z=>by rw[da]at z;cases z⟩
  rcases C9.mp hc with rfl|hc
  ·exact⟨_,hb,λ v z=>by rw[db]at z;cases z⟩
  ·cases hc
 keep:=λ i h h' st q=>by obtain⟨hz,hu,⟨x,y,hv⟩,ha,hb⟩:=st;exact⟨q z (by simp) _ hz,q u (by simp) _ hu,⟨x,y,q v (by simp) _ hv⟩,ha.keep λ o e=>q a (by simp) o e,hb.keep λ o e=>q b (by simp) o e⟩
 item:=by
  intro X hP hw hK hc i jp s σ H E I hf st hg;subst hP hw hK;obtain⟨xs,ys,x,y,hl,hm,hx,hy⟩:=hg;obtain⟨hz,hu,⟨c,d,hv⟩,ha,hb⟩:=st;obtain⟨SU,r1,p1⟩:=fM I hl;obtain⟨Ya,r2,p2⟩:=fM I hm;obtain⟨u1,e1,q1⟩:=r1.get hx;obtain⟨u2,e2,q2⟩:=r2.get hy;have D:=Ou I B hf hl hm;refine Ia (lX b1) (lX b2) D hz hu hv ha hb p1 p2 (x:=u1) (y:=u2) (by simpa using e1) (by simpa using e2) λ g g1 g2 g3 g4 g5 g6 g7=>?_;have hn:H s.heap.objs.size=none:=I.bu.fresh (G7 _);have Ez:∀c∈[z,v,a,b],iP X jp H c:=λ c hc=>hf c (by simp at hc ⊢;rcases hc with rfl|rfl|rfl|rfl<;>simp);have I1:sn X jp σ H {s with heap:=g}:=nM (t':=s.toks) I (λ c o hc e=>g7 c o (λ z=>hc (by simp[z])) (λ z=>hc (by simp[z])) (λ z=>hc (by simp[z])) (λ z=>hc (by simp[z])) e) Ez;refine⟨_,rfl,wpAny_letOwnedTupleGo_zip (s:={s with heap:=g}) g1 λ g' z' sb=>?_⟩;have I2:sn X jp σ H {s with heap:=g'}:=nM (s:={s with heap:=g}) (t':=s.toks) (ch:=[z]) I1 (λ c o hc e=>sb.extBut _ _ (λ z=>hc (by simp[z])) e) (λ c hc=>Ez c (by simp at hc ⊢;exact .inl hc));have fo:=I.mr (H':=H) (G7 s.heap.objs.size) hn;have X9:z<s.heap.objs.size:=D7 hz;have t5:IsPair g' s.heap.objs.size u1 u2:=sb.extBut _ _ (G4 X9) g5;have I3:sn X jp σ (u8 H s.heap.objs.size (.tup [x,y])) {s with heap:=g'}:=sn.rX I2 hn ⟨show 2<=sizeLine by decide,[u1,u2],.cons q1 (.cons q2 .nil),⟨_,t5,rfl,_,rfl⟩⟩ fo.2.1 (E6 I.sz (G7 _)) fo.2.2.2.2.1 fo.2.2.2.2.2;refine⟨.ref s.heap.objs.size,_,I3,rfl,⟨s.heap.objs.size,x,y,hn,rfl,rfl,λ Ks h'=>by rw[zq I h' hl];exact hx,λ US h'=>by rw[zq I h' hm];exact hy⟩,?_,λ c hc=>?_⟩
  ·exact⟨z',sb.extBut _ _ B.uz (g7 _ _ B.uz B.uv B.ua B.ub hu),⟨_,_,sb.extBut _ _ B.vz g2⟩,g3.keep λ o e=>sb.extBut _ _ B.az e,g4.keep λ o e=>sb.extBut _ _ B.bz e⟩
  ·have eB:∀c∈[z,u,v,a,b],c<s.heap.objs.size:=λ c hc=>by
    obtain⟨_,qa,_⟩:=ha;obtain⟨_,qb,_⟩:=hb;simp at hc;rcases hc with rfl|rfl|rfl|rfl|rfl
    ·exact D7 hz
    ·exact D7 hu
    ·exact D7 hv
    ·exact D7 qa
    ·exact D7 qb
   rw[aK (D6 (eB c hc))];exact(hf c hc).1
 done:=by
  intro X hP hw hK hc i jp s σ H E I hf st hg;subst hP hw hK;obtain⟨xs,ys,hl,hm,he⟩:=hg;obtain⟨hz,hu,⟨c,d,hv⟩,ha,hb⟩:=st;obtain⟨SU,r1,p1⟩:=fM I hl;obtain⟨Ya,r2,p2⟩:=fM I hm;have D:=Ou I B hf hl hm;have l1:=r1.length;have l2:=r2.length;refine Iq (I.ok.hd hc) (lX b1) (lX b2) D hz hu hv ha hb p1 p2 ?_ λ g g7=>⟨rfl,nM (t':=s.toks) (ch:=[z,v,a,b]) I (λ c o hc e=>g7 c o (λ z=>hc (by simp[z])) (λ z=>hc (by simp[z])) (λ z=>hc (by simp[z])) (λ z=>hc (by simp[z])) e) λ c hc=>hf c (by simp at hc ⊢;rcases hc with rfl|rfl|rfl|rfl<;>simp)⟩;rcases he with q|q
  ·exact .inl (by simp;lia)
  ·exact .inr (by simp;lia)
 self:=λ _ _ _ _ _ st h=>wpAny_pyIter_zip st.1 h
section
variable {k0:_}{a b:Expr}{ta:TA}{p:Pos}
def ZO(K:K6)(ta:TA):TI:=λ σ H R=>ta σ H λ vs H1=>∃(b1 b2:Bool)(l m:ap),vs=[.ref l,.ref m]/\(∃xs,Sq b1 K H1 l xs)/\(∃ys,Sq b2 K H1 m ys)/\R (YI K b1 b2 l m) H1
def Rk(hg:Gl X "zip")(hm:X.mg "zip"=none)(ha:PA X [a,b] ta)(hs:starEach [a,b] X.env=[(false,eval a X.env),(false,eval b X.env)]:=by rfl)(nk:starEach [b] X.env=[(false,eval b X.env)]:=by rfl):PI X (.Tuple es k0 tL) (.Call (.Name "zip" p) [a,b] [] pos) (ZO X.K ta):=by
 intro jp s σ H R I h;refine Call_ (jf I hg hm boot_zip (b7 (cZ (ha pos jp s σ H _ I h) λ us s1 ⟨vs,H1,I1,r1,q1⟩=>?_) (by show _=_;rw[hs,nk]) (by show _=_;rw[nk];rfl)));obtain⟨b1,b2,l,m,e,⟨xs,hl⟩,⟨ys,hm⟩,q⟩:=q1;subst e;obtain⟨u1,u2,rfl,r,r'⟩:=vals2 r1;cases(show u1=Value.ref l from r);cases(show u2=Value.ref m from r');obtain⟨SU,r1,p1⟩:=fM I1 hl;obtain⟨Ya,r2,p2⟩:=fM I1 hm;refine Sf (lX b1) (lX b2) p1 p2 λ g g1 g2 g3 g4 g5 g6 g7=>wpAny_pyIter_zip (s:={s1 with heap:=g}) g1 ?_;have I2:sn X jp σ H1 {s1 with heap:=g}:=I1.kept (t':=s1.toks) g7;have fr:∀c,s1.heap.objs.size<=c->iP X jp H1 c:=λ c hc=>I1.mr hc (I1.bu.fresh hc);refine⟨_,[s1.heap.objs.size+4,s1.heap.objs.size+2,s1.heap.objs.size+3,s1.heap.objs.size,s1.heap.objs.size+1],_,_,H1,rfl,I2,FL b1 b2 ⟨?_,?_,?_,?_,?_,?_,?_,?_,?_,?_⟩ l m,⟨g1,g2,⟨_,_,g3⟩,g4,g5⟩,λ c hc=>fr c ?_,q⟩
 any_goals (show(_:Nat)≠_;lia)
 simp at hc;rcases hc with rfl|rfl|rfl|rfl|rfl<;>lia
end
end L2
namespace L3
open PySem.Spec L2 L5
def kj(ds es:List D):List D:=(ds.zip es).map λ p=>D.tup [p.1,p.2]
def vS(ds es:List D):(kj ds es).length=min ds.length es.length:=by simp[kj]
end L3
namespace L5
open PySem.W PySem.Calls PyProof.Rows
def O5{Q:α->am->Prop}(hc:∀i j C,i<n->j<n->C (lt i j) s->wpAny (model prog w) A (keyLt' κ (ks.getD i Value.none) (ks.getD j Value.none)) C (λ _ _=>False) s):∀(t:KasT α),kw n lt t (λ a=>Q a s)->t.kasWp (kas_ask prog w A κ ks) Q s
 | .ret a,h=>h
 | .ask i j k,h=>hc i j _ h.1 h.2.1 (O5 hc (k (lt i j)) h.2.2)
def Out{α:Type}(lt:Nat->Nat->Bool)(vs:List α)(d:α)(out:List α):Prop:=∃p:Array Nat,Pm vs.length p/\Up lt p vs.length/\out=p.toList.map λ i=>vs.getD i d
def Mf(O:Ord lt){vs:List α}(d:α)(h:vs.length<2):Out lt vs d vs:=by
 refine⟨List.toArray (List.range vs.length),Array.Perm.refl _,λ i j yU hj=>?_,?_⟩
 ·have:i=j:=()
  subst this;exact O.refl _
 ·match vs,h with
  |[],_=>rfl
  |[v],_=>rfl
def Ca{e:Nat}{ks out:List gV}{st:SortSt}{P:PySem.Fin->am->Prop}(hk:s.heap.get? kS=some (seqObj "list" (List.toArray ks) e))(ha:s.heap.get? a=some (seqObj "list" #[] e1))(iQ:a≠kS)(hkz:ks.length<64)(hoz:out.length<64)
  (ho:(arrOf st).map (·.2)=List.toArray out) (hf:failedOf st=none)
  (h:∀h' c,h'.get? a=some (seqObj "list" (List.toArray out) c)->(∀b o,b≠a->b≠kS->s.heap.get? b=some o->h'.get? b=some o)->P (.done (.ret .none)) {s with heap:=h'}):wpAny (model prog w) A (ksk_tail a false e1 (.ref kS) st) P E s:=by
 unfold ksk_tail
 try dsimp only
 rw[ho];have s1:=l8 s.heap kS (Obj.mapSeq λ _=>(#[]:Array gV));have a1:(s.heap.update kS (Obj.mapSeq λ _=>(#[]:Array gV))).get? a=some (seqObj "list" #[] e1):=(s1.2 a iQ).trans ha;have s2:=l8 (s.heap.update kS (Obj.mapSeq λ _=>(#[]:Array gV))) a (Obj.mapSeq λ _=>List.toArray out);refine J1 (listUpdate_at hk rfl (J1 (J0 (J1 (seqEpoch_at a1 rfl (J1 (listUpdate_at a1 rfl ?_ (G9 _) ?_)))))) (by rw[x6,G8];lia) (G9 _))
 ·rw[hf];simp only[bne_self_eq_false,p5,J7];exact J3 (h _ _ (get?_update_seq a1 λ _=>List.toArray out) λ b o b1 b2 q=>(s2.2 b b1).trans ((s1.2 b b2).trans q))
 ·simp only[p5,J7];rw[x6,G8];lia
def Sz{e:Nat}{ks:List gV}{κ:SortKind}{lt:Nat->Nat->Bool}{P:PySem.Fin->am->Prop}(O:Ord lt)(hl:ks.length=vs.length)(xK:vs.length<64)(hk:s.heap.get? kS=some (seqObj "list" (List.toArray ks) e))(ha:s.heap.get? a=some (seqObj "list" #[] e1))(iQ:a≠kS)
  (Jb:2<=vs.length->∀C:SortKind->am->Prop,C κ s->wpAny (model prog w) A (keyKind' (List.toArray ks)) C E s)
  (hc:2<=vs.length->∀i j C,i<vs.length->j<vs.length->C (lt i j) s->wpAny (model prog w) A (keyLt' κ (ks.getD i Value.none) (ks.getD j Value.none)) C (λ _ _=>False) s)
  (h:∀out h' c,Out lt vs Value.none out->h'.get? a=some (seqObj "list" (List.toArray out) c)->(∀b o,b≠a->b≠kS->s.heap.get? b=some o->h'.get? b=some o)->P (.done (.ret .none)) {s with heap:=h'}):
  wpAny (model prog w) A (ksk_end a false vs.toArray e1 (.ref kS) (List.toArray ks)) P E s:=by
 unfold ksk_end
 try dsimp only
 simp only[p5,J7];by_cases h2:vs.length<2
 ·have z2:vs.toArray.size<2:=by rw[x6];exact h2
  rw[K1 z2,K1 z2];refine J1 (J3 (J1 ?_));rw[StateT.run_pure];refine J3 ?_;refine Ca hk ha iQ () xK (st:=SortSt.mk' general' ((List.toArray ks).zip vs.toArray) #[] 7 none) ?_ rfl λ h' c a1 a2=>h vs h' c (Mf O _ h2) a1 a2;show((List.toArray ks).zip vs.toArray).map (·.2)=_;apply Array.toList_inj.mp;simp;exact map_snd_zip ()
 ·have z2:¬vs.toArray.size<2:=by rw[x6];exact h2
  rw[K3 z2,K3 z2];refine J1 (Jb () _ ?_);refine J1 (J6 (kat_run (Q:=λ yP s'=>s'=s/\∃p:Array Nat,p.size=vs.length/\arrOf yP=p.map (kas_item ((List.toArray ks).zip vs.toArray))/\failedOf yP=none/\Pm vs.length p/\Up lt p vs.length)
   (G:=λ p s'=>s'=s/\Pm vs.length p/\Up lt p vs.length) hl () xK (λ p yP s' a1 a2 a3 a4=>⟨a4.1,p,a1,a2,a3,a4.2⟩) (O5 (hc ()) _ (Nc O () λ p p1 p2=>⟨rfl,p1,p2⟩))) ?_ λ _ _ x=>x)
  rintro⟨⟨⟩,yP⟩ s' ⟨rfl,p,hp,har,hf,p1,p2⟩
  try dsimp only
  refine Ca hk ha iQ () ?_ (kat_snds hl har) hf λ h' c a1 a2=>h _ h' c ⟨p,p1,p2,rfl⟩ a1 a2;rw[B3,n5,hp];exact xK
def Cb{kS q:ap}{body:gV->PUnit->Sem (ForInStep PUnit)}(hb:∀x ks e (s:am),J ks e s->vs[ks.length]?=some x->wpAny (model prog w) A (body x ⟨⟩) (λ r s'=>r=.yield ⟨⟩/\∃k c,J (ks++[k]) c s') E s):∀(r ks:List gV)(e:Nat)(s:am),vs.drop ks.length=r->ks.length<=vs.length->J ks e s->
   wpAny (model prog w) A (forIn r PUnit.unit body) (λ _ s'=>∃ks e,ks.length=vs.length/\J ks e s') E s
 |[],ks,e,s,hr,hl,h=>by rw[forIn_nil];exact J3 ⟨ks,e,B6 hl (by simpa using hr),h⟩
 |x::r,ks,e,s,hr,hl,h=>by
  rw[forIn_cons];have eB:ks.length<vs.length:=by refine y7 λ z=>?_;rw[drop_eq_nil_of_le z]at hr;cases hr
  rw[c6 eB]at hr;injection hr with e1 e2
  refine J1 (J6 (hb x ks e s h (by rw[g9 eB,e1])) (λ y s' hy=>?_) λ _ _ z=>z);obtain⟨rfl,k,c,h2⟩:=hy;exact Cb (kS:=kS) (q:=q) hb r (ks++[k]) c s' (by rw[p4,j9];exact e2) (by rw[p4,j9];lia) h2
def Nf{e1:Nat}{P:PySem.Fin->am->Prop}(xK:vs.length<64)(hJ:∀ks e s,J ks e s->s.heap.get? kS=some (seqObj "list" (List.toArray ks) e)/\ks.length<=vs.length)
  (WY:∀x ks e (s:am),J ks e s->vs[ks.length]?=some x->wpAny (model prog w) A (call (.ref q) [x]) (λ k s'=>s'.heap.get? kS=some (seqObj "list" (List.toArray ks) e)/\∀h' c,h'.get? kS=some (seqObj "list" (List.toArray (ks++[k])) c)->Heap.SameBut kS s'.heap h'->J (ks++[k]) c {s' with heap:=h'}) (λ _ _=>False) s)
  (h0:J [] 0 s) (aaK:∀ks e s,J ks e s->ks.length=vs.length->wpAny (model prog w) A (ksk_end a false vs.toArray e1 (.ref kS) (List.toArray ks)) P E s):wpAny (model prog w) A (ksk_rest a (.ref q) false vs.toArray e1 (.ref kS)) P E s:=by
 unfold ksk_rest;refine J1 (J4 ?_)
 first
  |rw[List.forIn_toArray]
  |(rw[<- u5];simp only[List.toList_toArray])
  |rw[<- u5]
 refine J1 (J6 (Cb (kS:=kS) (q:=q) (J:=J) (vs:=vs) (λ x ks e s' hj hx=>?_) vs [] 0 s rfl (G9 _) h0) (λ _ s' hd=>?_) λ _ _ x=>x)
 ·refine J1 (wpAny_attempt (J6 (WY x ks e s' hj hx) (λ k Vn hk=>?_) λ _ _ hF=>hF.elim));obtain⟨k1,k2⟩:=hk;have hz:=(hJ ks e s' hj).2;have s1:=l8 Vn.heap kS (Obj.mapSeq (·.push k));have ea:(List.toArray ks).push k=List.toArray (ks++[k]):=by simp
  try dsimp only
  refine J1 (listUpdate_at k1 rfl (J3 ⟨rfl,k,_,k2 _ _ (by rw[<- ea];exact get?_update_seq k1 (·.push k)) s1⟩) (by rw[x6,G8];lia) (E6 (G0 (Array.size_push ..)) (by rw[x6,G8];lia)))
 ·obtain⟨ks,e,hl,hj⟩:=hd
  try dsimp only
  exact J1 (listItems_at (hJ ks e s' hj).1 rfl (aaK ks e s' hj hl))
end L5
namespace L2
open PySem.Spec PyProof.Rows L5 PySem.W
open HT (lexLt dA eM dO dP)
def fN:∀{vs:List gV} {ns:List Int},IntsAre vs ns->ReadsAll h vs (ns.map PyData.int) []
 |_,_,.nil=>ReadsAll.nil
 |_,_,.cons n t r=>ReadsAll.cons (Reads.int n t) (fN r)
abbrev Ky:=Int×List Int
def klt(a b:Ky):Bool:=if a.1=b.1 then lexLt a.2 b.2 else decide (a.1<b.1)
def BV:∀a:List Int,lexLt a a=false
 |[]=>rfl
 |x::a=>by rw[dA,K1 rfl];exact BV a
def xl:∀a b:List Int,lexLt a b=true->lexLt b a=false
 |[],[],h=>by cases h
 |[],_::_,_=>rfl
 |_::_,[],h=>by cases h
 |x::a,y::b,h=>by
  rw[dA]at h ⊢;by_cases e:x=y
  ·rw[K1 e]at h;rw[K1 e.symm];exact xl a b h
  ·rw[K3 e]at h;rw[K3 (J9 e)];have:=io h;exact A7 ()
set_option tactic.hygienic true in
def Im:∀a b c:List Int,lexLt a b=false->lexLt b c=false->lexLt a c=false
 |_,_::_,[],_,_=>by rename_i a _ _ _ _;cases a<;>rfl
 |[],[],c,_,h=>h
 |_::_,[],[],_,_=>rfl
 |_::_,[],_::_,_,h=>by cases h
 |[],_::_,_::_,h,_=>by cases h
 |x::a,y::b,z::c,h,g=>by
  rw[dA]at h g ⊢;by_cases e:x=y
  ·rw[K1 e]at h;subst e;by_cases e2:x=z
   ·rw[K1 e2]at g ⊢;exact Im a b c h g
   ·rw[K3 e2]at g ⊢;exact g
  ·rw[K3 e]at h;have h:=r9 h;by_cases e2:y=z
   ·subst e2;rw[K3 e];exact A7 h
   ·rw[K3 e2]at g;have g:=r9 g;have:x≠z:=()
    rw[K3 this];exact A7 ()
def Iv(a b:Ky)(h:klt a b=true):klt b a=false:=by
 unfold klt at h ⊢;by_cases e:a.1=b.1
 ·rw[K1 e]at h;rw[K1 e.symm];exact xl _ _ h
 ·rw[K3 e]at h;rw[K3 (J9 e)];have:=io h;exact A7 ()
def SA(a b c:Ky)(h:klt a b=false)(g:klt b c=false):klt a c=false:=by
 unfold klt at h g ⊢;by_cases e:a.1=b.1
 ·rw[K1 e]at h;by_cases e2:b.1=c.1
  ·rw[K1 e2]at g;rw[K1 (e.trans e2)];exact Im _ _ _ h g
  ·rw[K3 e2]at g;rw[K3 (by rw[e];exact e2),e];exact g
 ·rw[K3 e]at h;have h:=r9 h;by_cases e2:b.1=c.1
  ·rw[K3 (by rw[<- e2];exact e),<- e2];exact A7 h
  ·rw[K3 e2]at g;have g:=r9 g;have:a.1≠c.1:=()
   rw[K3 this];exact A7 ()
def Ng(key:Nat->Ky):Ord λ i j=>klt (key i) (key j):=⟨λ a b h=>Iv _ _ h,λ a b c h g=>SA _ _ _ h g⟩
def qZ(K:K6)(b:Bool)(H:Hp)(k:V)(c:Ky):Prop:=∃t m,k=.ref t/\hG K H t [.int c.1,.ref m]/\Sq b K H m (c.2.map V.int)
def uK(I:sn X jp σ H s){k:V}{c:Ky}(h:qZ X.K b H k c)(r:sK k u):∃(t m:ap)(o:Obj)(tk:Tok)(n:Nat)(aq:List gV),u=.ref t/\s.heap.get? t=some o/\o.cls=.type "tuple"/\o.data=.seq #[.int c.1 tk,.ref m] n/\Aj b s.heap m aq.toArray/\IntsAre aq c.2:=by obtain⟨t,m,rfl,h1,h2⟩:=h;cases(show u=Value.ref t from r);obtain⟨aq,r1,⟨o,ho,hc,n,hd⟩,_⟩:=I.tuple h1;obtain⟨u1,u2,rfl,⟨tk,rfl⟩,q2⟩:=vals2 r1;cases(show u2=Value.ref m from q2);obtain⟨Ya,r2,p2⟩:=fM I h2;exact⟨t,m,o,tk,n,Ya,rfl,ho,hc,hd,p2,intsAre_of r2⟩
def NT{m:ap}{xs ys:List gV}{ms:List Int}(h1:Aj b s.heap m xs.toArray)(h2:Aj b s.heap m' ys.toArray)(i1:IntsAre xs ns)(i2:IntsAre ys ms)(hu:A.units+1<cLine):SeqAt.EqAt A s (.ref m) (.ref m') (decide (ns=ms)):=by
 have dp:∀l:List Int,PyData.depthAll (l.map PyData.int)=0:=λ l=>ke_depthAll l;cases b with
 |true=>obtain⟨o,ho,hc,n,hd⟩:=h1;obtain⟨o',mh,Je,n',ju⟩:=h2;have q:=y0 (.tuple (ns.map .int)) (.tuple (ms.map .int)) A s (.ref m) (.ref m') _ _ (reads_tuple_at ho hc hd (fN i1)) (reads_tuple_at mh Je ju (fN i2)) (by simp[PyData.canLay0,ke_canLayAll0]) (by simp[PyData.canLay0,ke_canLayAll0]) (by simp[PyData.depth,dp];lia);rw[show PyData.eqv (.tuple (ns.map .int)) (.tuple (ms.map .int))=decide (ns=ms) by simp only[PyData.eqv];exact ked_eqvAll ns ms]at q;exact q
 |false=>obtain⟨o,ho,hc,n,hd⟩:=h1;obtain⟨o',mh,Je,n',ju⟩:=h2;have q:=y0 (.list (ns.map .int)) (.list (ms.map .int)) A s (.ref m) (.ref m') _ _ (reads_list_at ho hc hd (fN i1)) (reads_list_at mh Je ju (fN i2)) (by simp[PyData.canLay0,ke_canLayAll0]) (by simp[PyData.canLay0,ke_canLayAll0]) (by simp[PyData.depth,dp];lia);rw[show PyData.eqv (.list (ns.map .int)) (.list (ms.map .int))=decide (ns=ms) by simp only[PyData.eqv];exact ked_eqvAll ns ms]at q;exact q
def MU{m:ap}{xs ys:List gV}{ms:List Int}(h1:Aj b s.heap m xs.toArray)(h2:Aj b s.heap m' ys.toArray)(i1:IntsAre xs ns)(i2:IntsAre ys ms)(hu:A.units<cLine)(h:Q (.bool (lexLt ns ms)) s):wpAny (model prog w) A (compareOp .Lt (.ref m) (.ref m')) Q E s:=by
 cases b with
 |true=>exact HT.zX (show IsTup s.heap m xs.toArray from h1) (show IsTup s.heap m' ys.toArray from h2) i1 i2 hu h
 |false=>exact Ik h1 h2 i1 i2 hu h
def SF(I:sn X jp σ H s)(hu:A.units+1<cLine){k:V}{c c':Ky}{u':gV}(h:qZ X.K b H k c)(h':qZ X.K b H k' c')(r:sK k u)(r':sK k' u'){C:Bool->am->Prop}(hC:C (klt c c') s):wpAny (model X.prog X.w) A (keyLt' (tuples' true) u u') C (λ _ _=>False) s:=by
 obtain⟨t,m,o,tk,n,aq,rfl,ho,_,hd,hm,hi⟩:=uK I h r;obtain⟨t',m',o',Oy,n',its',rfl,mh,_,ju,fH,Kf⟩:=uK I h' r';refine kat_lt ho hd mh ju (kat_cons (SeqAt.EqAt.int_int c.1 tk c'.1 Oy X.prog X.w _ _ ?_));unfold klt at hC;by_cases e:c.1=c'.1
 ·rw[K1 e]at hC;rw[show(c.1==c'.1)=true by simp[e]];refine kat_yes (kat_cons (NT hm fH hi Kf hu X.prog X.w _ _ ?_));by_cases e2:c.2=c'.2
  ·rw[B8 e2];rw[e2,BV]at hC;exact kat_yes (kat_nil hC)
  ·rw[A7 e2];exact kat_no (kat_one _ _ (MU hm fH hi Kf () hC))
 ·rw[K3 e]at hC;rw[show(c.1==c'.1)=false by simp[e]];exact kat_no (oneLt_int hC)
def xq(I:sn X jp σ H s):∀{kvs:List V} {ks:List gV} {key:Nat->Ky},ut kvs ks->(∀i k,kvs[i]?=some k->qZ X.K b H k (key i))->∃fs,KatTups s.heap ks fs/\fs.length=ks.length/\∀v∈fs,∃i t,v=Value.int i t
 |_,_,_,.nil,_=>⟨[],KatTups.nil,rfl,λ v hv=>by cases hv⟩
 |_,_,key,.cons (a:=k) r rr,h=>by
  obtain⟨fs,h1,h2,h3⟩:=xq I rr (key:=λ i=>key (i+1)) λ i k hk=>h (i+1) k (by simpa using hk);obtain⟨t,m,o,tk,n,aq,rfl,ho,hc,hd,_,_⟩:=uK I (h 0 _ rfl) r;refine⟨.int (key 0).1 tk::fs,KatTups.cons ho hc hd rfl h1,by simp[h2],λ v hv=>?_⟩;rcases C9.mp hv with rfl|hv
  ·exact⟨_,_,rfl⟩
  ·exact h3 v hv
def FI(r:ut ys aq)(p:List Nat):ut (p.map λ i=>ys.getD i V.bo) (p.map λ i=>aq.getD i Value.none):=by
 induction p with
 |nil=>exact .nil
 |cons i p ih=>
  refine .cons ?_ ih;show sK (ys.getD i V.bo) (aq.getD i Value.none);cases e:ys[i]? with
  |none=>have e2:=r.none_of e;rw[c3,c3,e,e2];rfl
  |some y=>obtain⟨u,hu,ru⟩:=r.get e;rw[c3,c3,e,hu];exact ru
end L2
namespace L5
def KD:fillsNumberSlot (.type "tuple") "mul"=pure false:=fillsNumberSlot_seq (id:="tuple.__mul__") (r:=some (.builtin "tuple.__rmul__")) F.slot_tuple_mul.lookup (by decide+kernel) F.slot_tuple_rmul.lookup (by decide+kernel)
def Qf:seqRepeat? (.type "tuple")=pure (some (.builtin "tuple.__mul__")):=by unfold seqRepeat?;rw[seqSlot_of (T:="tuple") (name:="__mul__") (id:="tuple.__mul__") F.slot_tuple_mul.lookup (by decide+kernel),seqSlot_of (T:="tuple") (name:="__rmul__") (id:="tuple.__rmul__") F.slot_tuple_rmul.lookup (by decide+kernel)];rfl
def Qh(a:Int)(t:Tok)(l:ap)(aq:Array gV)(n:Nat)(dd:Option ap)(sl:Array (Option gV)):Meets (Builtin.«int.__rmul__» ⟨[.int a t,.ref l],[]⟩) (λ _ R s=>s.heap.get? l=some {cls:=.type "tuple",dict:=dd,data:=.seq aq n,slots:=sl}/\R (.ok (.ret Value.notImplemented)) s):=
 .of_wp λ prog w A R s h=>by
  obtain⟨hp,g,d,tk,os⟩:=s;obtain⟨hl,h⟩:=h
  wp_walk
  exact⟨_,rfl,h⟩
def Qg(l:ap)(aq:Array gV)(n:Nat)(dd:Option ap)(sl:Array (Option gV))(u:Tok):Meets (Builtin.«tuple.__mul__» ⟨[.ref l,.int 1 u],[]⟩) (λ _ R s=>s.heap.get? l=some {cls:=.type "tuple",dict:=dd,data:=.seq aq n,slots:=sl}/\R (.ok (.ret (.ref l))) s):=
 .of_wp λ prog w A R s h=>by
  obtain⟨hp,g,d,tk,os⟩:=s;obtain⟨hl,h⟩:=h
  wp_walk
  exact⟨_,rfl,h⟩
def KC(l:ap)(aq:Array gV)(n:Nat)(dd:Option ap)(sl:Array (Option gV))(x:Int)(u:Tok)(hx:x≠1)(h1: -(2^63)<=x)(h2:x<2^63)(hi:aq.isEmpty=false)(hz:aq.size*x.toNat<=sizeLine):
  Meets (Builtin.«tuple.__mul__» ⟨[.ref l,.int x u],[]⟩) (λ _ R s=>s.heap.get? l=some {cls:=.type "tuple",dict:=dd,data:=.seq aq n,slots:=sl}/\
   R (.ok (.ret (.ref s.heap.objs.size))) {s with heap:=s.heap.push {cls:=.type "tuple",data:=.seq ((List.replicate x.toNat aq).foldl (·++·) #[])}}):=
 .of_wp λ prog w A R s h=>by
  obtain⟨hp,g,d,tk,os⟩:=s;obtain⟨hl,h⟩:=h
  wp_walk
  rw[K3 (by simp;lia)]
  wp_walk
  by_cases hx0:x<=0
  ·rw[K1 (by simp[hx0])]
   wp_walk
   have e:x.toNat=0:=()
   rw[e]at h;exact⟨_,rfl,h⟩
  ·rw[K3 (by simp[hi];lia)];have ez:((aq.size:Int)*x)=((aq.size*x.toNat:Nat):Int):=by rw[Int.natCast_mul,Int.toNat_of_nonneg ()]
   have ZQ:=hz;rw[G8]at ZQ;rw[K3 (by rw[ez];lia)]
   wp_walk
   rw[K3 (by unfold Builtin.Tuple.tupleTooMany;rw[ez,u7,G8];lia)];have hsz:(List.foldl (λ x1 x2=>x1++x2) #[] (List.replicate x.toNat aq)).size<=sizeLine:=by
    have f0:∀(m:Nat)(li:Array gV),(List.foldl (λ x1 x2=>x1++x2) li (List.replicate m aq)).size=li.size+m*aq.size:=by
     intro m
     induction m with
     |zero=>intro li;simp
     |succ m ih=>intro li;rw[m9,foldl_cons,ih,Array.size_append,Nat.succ_mul];lia
    rw[f0,Nat.mul_comm];simpa using hz
   wp_walk
   exact⟨_,rfl,h⟩
end L5
namespace L2
open PySem.Spec PyProof.Rows L5
def AZ(ns:List Int):∀n,n<=ns.length->preSum (λ i=>ns.getD i 0) n=(ns.take n).sum
 |0,_=>by simp[preSum]
 |n+1,h=>by
  have hn:n<ns.length:=()
  rw[preSum,AZ ns n (),take_succ_eq_append_getElem hn,sum_append];simp[c3,hn]
def rK(hc:X.calm=true):dr X (.builtin "sum") (λ xs H Q=>∃(b:Bool)(p:ap)(ns:List Int),xs=[.ref p]/\Sq b X.K H p (ns.map V.int)/\Q (.int ns.sum) H):=by
 intro jp s σ H xs us Q I r h;obtain⟨b,p,ns,rfl,hq,q⟩:=h;obtain⟨u,rfl,r1⟩:=vals1 r;cases r1;obtain⟨aq,rv,pl⟩:=fM I hq;have hi:IntsAre aq ns:=intsAre_of rv;have hlen:aq.length=ns.length:=by rw[<- rv.length,B3]
 have hA:X.A.in1.handled=none:=I.ok.hd hc;have hv:∀i v,aq.toArray[i]?=some v->∃t,v=Value.int (ns.getD i 0) t:=λ i v e=>by
  have e:aq[i]?=some v:=by simpa using e
  have h1:i<ns.length:=by rw[<- hlen];exact(c7.mp e).1
  obtain⟨t,e2⟩:=pj hi h1;rw[e]at e2;cases e2;exact⟨t,by simp[c3,h1]⟩
 have ht:preSum (λ i=>ns.getD i 0) aq.toArray.size=ns.sum:=by rw[x6,hlen,AZ ns _ (G7 _),y8]
 cases b with
 |false=>
  have pl:s.heap.IsList p aq.toArray:=pl;have iQ:p≠s.heap.objs.size:=by obtain⟨o,e,_⟩:=pl;exact D6 (D7 e)
  refine call_sum_walkG (x3 pl ⟨s.heap.objs.size,_,_,_,_,_,λ i=>ns.getD i 0,rfl,Walks.list hA s.heap.objs.size p iQ aq.toArray,⟨⟨_,n6 _ rfl,rfl,rfl⟩,pl.at λ o e=>j5 _ e⟩,?_,hv,λ h' tk t' hk=>?_⟩)
  ·intro b hb;have:s.heap.objs.size<(s.heap.push {cls:=.type "list_iterator",data:=.fields #[.ref p,.int 0 0]}).objs.size:=by rw[C0];lia
   obtain⟨o,e,_⟩:=pl;have h2:=D7 e;simp at hb;rcases hb with rfl|rfl
   ·exact this
   ·exact Nat.lt_trans h2 this
  ·rw[ht];exact⟨.int ns.sum,H,I.kept (t':=tk) λ b o e=>hk b o (by simpa using D6 (D7 e)) (j5 _ e),⟨_,rfl⟩,q⟩
 |true=>
  have pl:s.heap.IsTuple p aq.toArray:=pl;have iQ:p≠s.heap.objs.size:=by obtain⟨o,e,_⟩:=pl;exact D6 (D7 e)
  refine call_sum_walkG (wpAny_pyIter_tuple pl ⟨s.heap.objs.size,_,_,_,_,_,λ i=>ns.getD i 0,rfl,Walks.tuple hA s.heap.objs.size p iQ aq.toArray,⟨⟨_,n6 _ rfl,rfl,rfl⟩,wX.keep pl λ o e=>j5 _ e⟩,?_,hv,λ h' tk t' hk=>?_⟩)
  ·intro b hb;have:s.heap.objs.size<(s.heap.push {cls:=.type "tuple_iterator",data:=.fields #[.ref p,.int 0 0]}).objs.size:=by rw[C0];lia
   obtain⟨o,e,_⟩:=pl;have h2:=D7 e;simp at hb;rcases hb with rfl|rfl
   ·exact this
   ·exact Nat.lt_trans h2 this
  ·rw[ht];exact⟨.int ns.sum,H,I.kept (t':=tk) λ b o e=>hk b o (by simpa using D6 (D7 e)) (j5 _ e),⟨_,rfl⟩,q⟩
def Mh:gM X (binaryOp .Mult) (λ x y H Q=>∃l k xs,x=.ref l/\y=.int k/\hG X.K H l xs/\xs≠[]/\-(2^63)<=k/\k<2^63/\xs.length*k.toNat<=sizeLine/\(k=1->Q (.ref l) H)/\(k≠1->∀p,H p=none->Q (.ref p) (u8 H p (.tup (List.replicate k.toNat xs).flatten)))):=by
 intro jp s σ H x y v u Q I rx ry h;obtain⟨l,k,xs,rfl,rfl,hH,iQ,h1,h2,hz,q1,q2⟩:=h;cases rx;obtain⟨t,rfl⟩:=ry;obtain⟨aq,r,⟨⟨c,dd,da,sl⟩,e,hc,n,hd⟩,_⟩:=I.tuple hH;have hl:=r.length;cases(show c=.type "tuple" from hc);cases(show da=.seq aq.toArray n from hd);refine wpAny_binaryOp_repeat_ref (T:="tuple") (U:="int") (by decide) ⟨_,e,rfl⟩ (λ s'=>typeIs_int s' k t) KD F.fills_int_mul F.slot_int_rmul Qf F.slot_int_index.lookup
  (J5 F.slot_int_rmul (typeIs_int s k t) F.entry_int_rmul (F.args_int_rmul_2 _ _) (Qh k t l aq.toArray n dd sl) ⟨e,rfl,⟨_,e,rfl⟩,?_⟩)
 by_cases hk:k=1
 ·subst hk;exact J5 F.slot_tuple_mul ⟨_,e,rfl⟩ F.entry_tuple_mul (F.args_tuple_mul_2 _ _) (Qg l aq.toArray n dd sl t) ⟨e,.ref l,H,I,rfl,q1 rfl⟩
 ·refine J5 F.slot_tuple_mul ⟨_,e,rfl⟩ F.entry_tuple_mul (F.args_tuple_mul_2 _ _) (KC l aq.toArray n dd sl k t hk h1 h2 ?_ (by rw[x6,<- hl];exact hz)) ⟨e,?_⟩
  ·cases aq with
   |nil=>cases r;exact be rfl iQ
   |cons a b=>rfl
  ·have Td:List.foldl (λ x1 x2=>x1++x2) #[] (List.replicate k.toNat aq.toArray)=(List.replicate k.toNat aq).flatten.toArray:=by have:=foldl_rep aq k.toNat [];rw[nil_append]at this;exact this
   rw[Td];have fr:=I.fresh;refine⟨.ref s.heap.objs.size,_,I.laid (t':=s.toks) (o:=.tup (List.replicate k.toNat xs).flatten) (λ b o e=>j5 _ e) (G7 _) ⟨?_,_,r.rep k.toNat,⟨_,n6 _ rfl,rfl,_,rfl⟩⟩,rfl,q2 hk _ fr⟩;rw[len_rep,Nat.mul_comm];exact hz
end L2
namespace L3
open PySem.Spec L2 L5 PyProof.Rows
mutual
def toP:D->PyData
 | .bo=>.none
 | .bl b=>.bool b
 | .int i=>.int i
 | .str x=>.str x
 | .ty _=>.none
 | .ref _=>.none
 | .tup ds=>.tuple (toPs ds)
 | .fl ds=>.list (toPs ds)
def toPs:List D->List PyData
 |[]=>[]
 |d::ds=>toP d::toPs ds
end
mutual
def nr:D->Bool
 | .bo=>true
 | .bl _=>true
 | .int _=>true
 | .str _=>true
 | .ty _=>false
 | .ref _=>false
 | .tup ds=>qm ds
 | .fl ds=>qm ds
def qm:List D->Bool
 |[]=>true
 |d::ds=>nr d&&qm ds
end
section
variable {σ:L2.St}
mutual
theorem Vu(I:sn X jp σ H s):∀(d:D){x:V}{u:gV},nr d=true->sB X.K H d x->sK x u->∃as,Reads s.heap u (toP d) as
 | .bo,x,u,_,h,r=>by cases(dv.mp h);cases r;unfold toP;exact⟨_,Reads.none⟩
 | .bl b,x,u,_,h,r=>by cases(aY.mp h);cases r;unfold toP;exact⟨_,Reads.bool b⟩
 | .int i,x,u,_,h,r=>by cases(au.mp h);obtain⟨t,rfl⟩:=r;unfold toP;exact⟨_,Reads.int i t⟩
 | .str z,x,u,_,h,r=>by cases(aU.mp h);obtain⟨t,rfl⟩:=r;unfold toP;exact⟨_,Reads.str z t⟩
 | .ty _,x,u,n,h,r=>by unfold nr at n;cases n
 | .ref _,x,u,n,h,r=>by unfold nr at n;cases n
 | .tup ds,x,u,n,h,r=>by unfold nr at n;obtain⟨p,xs,rfl,hq,hd⟩:=aR.mp h;cases(show u=Value.ref p from r);obtain⟨aq,rv,⟨o,ho,hc,m,xI⟩,_⟩:=I.tuple hq;obtain⟨as,ra⟩:=wA I ds n hd rv;unfold toP;exact⟨_,reads_tuple_at ho hc xI ra⟩
 | .fl ds,x,u,n,h,r=>by unfold nr at n;obtain⟨p,xs,rfl,hq,hd⟩:=nz.mp h;cases(show u=Value.ref p from r);obtain⟨aq,rv,pl,_⟩:=I.list hq.sq;obtain⟨o,ho,hc,m,xI⟩:=pl.isList;obtain⟨as,ra⟩:=wA I ds n hd rv;unfold toP;exact⟨_,reads_list_at ho hc xI ra⟩
theorem wA(I:sn X jp σ H s):∀(ds:List D){xs:List V}{us:List gV},qm ds=true->aA X.K H ds xs->ut xs us->∃as,ReadsAll s.heap us (toPs ds) as
 |[],xs,us,_,h,r=>by cases(ao.mp h);cases r;unfold toPs;exact⟨_,ReadsAll.nil⟩
 |d::ds,xs,us,n,h,r=>by
  unfold qm at n;rw[A0]at n;obtain⟨x,Ks,rfl,h1,h2⟩:=af.mp h;cases r with
  |cons r1 r2=>obtain⟨as,a⟩:=Vu I d n.1 h1 r1;obtain⟨bs,b⟩:=wA I ds n.2 h2 r2;unfold toPs;exact⟨_,ReadsAll.cons a b⟩
end
end
def Ub(K:K6)(H:Hp)(x:V)(a:PyData):Prop:=(∃d,nr d=true/\sB K H d x/\toP d=a)\/∃p ds xs,x=.ref p/\eO K H p xs/\aA K H ds xs/\qm ds=true/\a=.list (toPs ds)
def rB(M:Mem)(d:D):Option PyData:=match d with
 | .ref a=>match M a with
  |some (.lst ds)=>if qm ds=true then some (.list (toPs ds))else none
  |_=>none
 |d=>if nr d=true then some (toP d)else none
def lM{x:V}{a:PyData}(e:rB M d=some a)(h:sB K H d x)(hm:ul K H M):Ub K H x a:=by
 cases d with
 |ref p=>
  cases(ay.mp h);unfold rB at e;cases q:M p with
  |none=>simp[q]at e
  |some o=>
   cases o with
   |bX b kvs=>simp[q]at e
   |eX x=>simp[q]at e
   |lst ds=>
    simp only[q]at e;by_cases n:qm ds=true
    ·rw[K1 n]at e;cases e;obtain⟨xs,hx,hd⟩:=hm p _ q;exact .inr ⟨p,ds,xs,rfl,eO.of hx,hd,n,rfl⟩
    ·rw[K3 n]at e;cases e
 |bo=>exact .inl ⟨_,rfl,h,by simpa[rB,nr]using e⟩
 |bl _=>exact .inl ⟨_,rfl,h,by simpa[rB,nr]using e⟩
 |int _=>exact .inl ⟨_,rfl,h,by simpa[rB,nr]using e⟩
 |str _=>exact .inl ⟨_,rfl,h,by simpa[rB,nr]using e⟩
 |ty _=>simp[rB,nr]at e
 |tup ds=>
  by_cases n:qm ds=true
  ·exact .inl ⟨.tup ds,by unfold nr;exact n,h,by simpa[rB,nr,n]using e⟩
  ·simp[rB,nr,n]at e
 |fl ds=>
  by_cases n:qm ds=true
  ·exact .inl ⟨.fl ds,by unfold nr;exact n,h,by simpa[rB,nr,n]using e⟩
  ·simp[rB,nr,n]at e
def fA(I:sn X jp σ H s){x:V}{a:PyData}(h:Ub X.K H x a)(r:sK x u):∃as,Reads s.heap u a as:=by
 rcases h with⟨d,n,hd,rfl⟩|⟨p,ds,xs,rfl,hq,hd,n,rfl⟩
 ·exact Vu I d n hd r
 ·cases(show u=Value.ref p from r);obtain⟨aq,rv,pl,_⟩:=I.list hq;obtain⟨o,ho,hc,m,xI⟩:=pl.isList;obtain⟨as,ra⟩:=wA I ds n hd rv;exact⟨_,reads_list_at ho hc xI ra⟩
def abk(neg:Bool):iR:=λ x y M Q=>∃a b,rB M x=some a/\rB M y=some b/\SeqAt.shaped a=true/\SeqAt.shaped b=true/\Q (.bl (if neg then !PyData.eqv a b else PyData.eqv a b)) M
def RK(hu:eU X):gM X (compareOp .Eq) (λ x y H Q=>∃a b,Ub X.K H x a/\Ub X.K H y b/\SeqAt.shaped a=true/\SeqAt.shaped b=true/\Q (.bl (PyData.eqv a b)) H):=by intro jp s σ H x y v u Q I rx ry h;obtain⟨a,b,ha,hb,sa,sb,q⟩:=h;obtain⟨as,ra⟩:=fA I ha rx;obtain⟨bs,rb⟩:=fA I hb ry;exact eq_dataH ra rb sa sb hu ⟨.bl (PyData.eqv a b),H,I,rfl,q⟩
def RE(hu:eU X):gM X (compareOp .NotEq) (λ x y H Q=>∃a b,Ub X.K H x a/\Ub X.K H y b/\SeqAt.shaped a=true/\SeqAt.shaped b=true/\Q (.bl (!PyData.eqv a b)) H):=by intro jp s σ H x y v u Q I rx ry h;obtain⟨a,b,ha,hb,sa,sb,q⟩:=h;obtain⟨as,ra⟩:=fA I ha rx;obtain⟨bs,rb⟩:=fA I hb ry;exact ne_dataH ra rb sa sb hu ⟨.bl (!PyData.eqv a b),H,I,rfl,q⟩
def iC.or{f:gV->gV->Sem gV}(h:iC X f r)(h':iC X f r'):iC X f (λ x y M Q=>r x y M Q\/r' x y M Q):=by
 obtain⟨a,h1,h2⟩:=h;obtain⟨b,g1,g2⟩:=h';refine⟨_,h1.or g1,λ x y d e H M Q2 Q hd he hm q k=>?_⟩;rcases q with q|q
 ·exact .inl (h2 x y d e H M Q2 Q hd he hm q k)
 ·exact .inr (g2 x y d e H M Q2 Q hd he hm q k)
def yi(neg:Bool):iR:=λ x y M Q=>UC neg x y M Q\/abk neg x y M Q
def iF(hu:eU X):iC X (compareOp .Eq) (yi false):=Zw.or ⟨_,RK hu,λ x y d e H M Q2 Q hd he hm q k=>by
 obtain⟨a,b,ha,hb,sa,sb,q⟩:=q;exact⟨a,b,lM ha hd hm,lM hb he hm,sa,sb,k _ H _ M (aY.mpr rfl) hm (ar.refl H) q⟩⟩
def lU(hu:eU X):iC X (compareOp .NotEq) (yi true):=Zt.or ⟨_,RE hu,λ x y d e H M Q2 Q hd he hm q k=>by
 obtain⟨a,b,ha,hb,sa,sb,q⟩:=q;exact⟨a,b,lM ha hd hm,lM hb he hm,sa,sb,k _ H _ M (aY.mpr rfl) hm (ar.refl H) q⟩⟩
def JD:D->List D->Mem->bF->Prop:=λ x vs M Q=>∃p ds y,x=.ref p/\vs=[y]/\M p=some (.lst ds)/\qm ds=true/\nr y=true/\PyData.canLayAll0 (toPs ds)=true/\(toP y).canLay0=true/\(toP y).depth<60/\Q (.int (ds.countP λ d=>PyData.eqv (toP d) (toP y):Nat)) M
def yo{v:gV}{y:PyData}(ry:Reads s.heap v y bs)(cy:y.canLay0=true)(hu:A.units+y.depth<cLine):∀{ds:List D} {us:List gV} {as:List ap},ReadsAll s.heap us (toPs ds) as->PyData.canLayAll0 (toPs ds)=true->
  ∃e:gV->Bool,(∀u∈us,SeqAt.EqAt A s u v (e u))/\us.countP e=ds.countP λ d=>PyData.eqv (toP d) y:=by
 intro ds us as ra cl;refine⟨λ u=>PyData.eqv (SeqAt.readOf s.heap u) y,λ u Uo=>?_,?_⟩
 ·obtain⟨d,bs',rd,cd,_⟩:=SeqAt.readsAll_mem _ _ _ cl ra u Uo;have e:=SeqAt.readOf_eq cd rd;dsimp only;rw[e];exact y0 d y A s u v _ _ rd ry cd cy ()
 ·have e:=SeqAt.readsAll_map _ _ _ cl ra;have f:∀(us:List gV)(ds:List D),us.map (SeqAt.readOf s.heap)=toPs ds->us.countP (λ u=>PyData.eqv (SeqAt.readOf s.heap u) y)=ds.countP λ d=>PyData.eqv (toP d) y:=by
   intro us
   induction us with
   |nil=>
    intro ds q;cases ds with
    |nil=>rfl
    |cons d r=>unfold toPs at q;cases q
   |cons u us ih=>
    intro ds q;cases ds with
    |nil=>unfold toPs at q;cases q
    |cons d r=>
     unfold toPs at q;rw[C8]at q;injection q with q1 q2
     rw[countP_cons,countP_cons,ih r q2,q1]
  exact f us ds e
def MS(hu:eU X):PH X "list.count" JD:=⟨λ x vs H Q=>∃p ds xs d y,x=.ref p/\vs=[y]/\eO X.K H p xs/\aA X.K H ds xs/\sB X.K H d y/\qm ds=true/\nr d=true/\PyData.canLayAll0 (toPs ds)=true/\(toP d).canLay0=true/\(toP d).depth<60/\Q (.int (ds.countP λ e=>PyData.eqv (toP e) (toP d):Nat)) H,by
  intro jp s σ H x xs v us Q I rx rv h;obtain⟨p,ds,zs,d,y,rfl,rfl,hq,hd,hy,n1,n2,c1,c2,dp,q⟩:=h;cases(show v=Value.ref p from rx);obtain⟨u,rfl,ru⟩:=rv.one;obtain⟨aq,rz,pl,_⟩:=I.list hq;obtain⟨as,ra⟩:=wA I ds n1 hd rz;obtain⟨bs,rb⟩:=Vu I d n2 hy ru;obtain⟨e,e1,e2⟩:=yo (A:=X.A.in1) rb c2 (by show X.A.units+1+_ < _;lia) ra c1;obtain⟨⟨c,dd,da,sl⟩,ho,hc,n,xI⟩:=pl.isList;cases(show c=.type "list" from hc);cases(show da=.seq aq.toArray n from xI);refine J5 PySem.F.slot_list_count ⟨_,ho,rfl⟩ PySem.F.entry_list_count (PySem.F.args_list_count_2 _ _) (SeqAt.list_countAt p aq.toArray n dd sl u e) ⟨ho,λ y hy=>e1 y (by simpa using hy),?_⟩;rw[show aq.toArray.toList=aq from rfl,e2];exact⟨.int _,H,I.tok _,⟨_,rfl⟩,q⟩,λ x xs d ds H M Q2 Q hx hd hm q k=>by
  obtain⟨p,es,y,rfl,rfl,hM,n1,n2,c1,c2,dp,q⟩:=q;cases(ay.mp hx);obtain⟨v,r,rfl,hv,hr⟩:=af.mp hd;cases(ao.mp hr);obtain⟨zs,hz,ju⟩:=hm p _ hM;exact⟨p,es,zs,y,v,rfl,rfl,eO.of hz,ju,hv,n1,n2,c1,c2,dp,k _ H _ M (au.mpr rfl) hm (ar.refl H) q⟩⟩
def pC:D->List D->Mem->bF->Prop:=λ x vs M Q=>∃p ds y,x=.ref p/\vs=[y]/\M p=some (.lst ds)/\ds.length<sizeLine/\Q .bo (ag M p (.lst (ds++[y])))
def bU:PH X "list.append" pC:=⟨Bw,Ef,λ x xs d ds H M Q2 Q hx hd hm q k=>by
 obtain⟨p,es,y,rfl,rfl,hM,hz,q⟩:=q;cases(ay.mp hx);obtain⟨v,r,rfl,hv,hr⟩:=af.mp hd;cases(ao.mp hr);obtain⟨zs,h1,h2⟩:=hm p _ hM;have t:=ar.lst (o:=.lst (zs++[v])) h1;refine⟨p,zs,v,rfl,rfl,h1,by rw[h2.length];exact hz,k _ _ .bo _ (dv.mpr rfl) (hm.put (u:=.lst (es++[y])) t ⟨_,aQ,?_⟩) t q⟩;exact(aA.mono t es h2).append (aA.one (sB.mono t y hv))⟩
def dC:∀{ns:List Int} {xs:List V},aA K H (ns.map D.int) xs->xs=ns.map V.int
 |[],xs,h=>by rw[G1,ao]at h;exact h
 |b::bs,xs,h=>by rw[C8,af]at h;obtain⟨x,r,rfl,a,q⟩:=h;rw[au]at a;rw[a,dC q];rfl
def Xk:List D->Mem->bF->Prop:=λ xs M Q=>∃(x:D)(ds:List D)(ns:List Int),xs=[x]/\cR M x=some ds/\ds=ns.map D.int/\Q (.int ns.sum) M
def Xx(hc:X.calm=true):fZ X (.builtin "sum") Xk:=⟨_,rK hc,λ xs ds H M Q2 Q hd hm q k=>by
 obtain⟨x,es,ns,rfl,e,rfl,q⟩:=q;obtain⟨v,r,rfl,hv,hr⟩:=af.mp hd;cases(ao.mp hr);obtain⟨p,ys,rfl,h,hy⟩:=iX e hv hm;rw[dC hy]at h;rcases h with h|h
 ·exact⟨false,p,ns,rfl,h,k _ H _ M (au.mpr rfl) hm (ar.refl H) q⟩
 ·exact⟨true,p,ns,rfl,h,k _ H _ M (au.mpr rfl) hm (ar.refl H) q⟩⟩
def Xo:List D->Mem->bF->Prop:=λ xs M Q=>∃i j,xs=[.int i,.int j]/\Q (.int (if j<i then j else i)) M
def PC(hc:X.calm=true):fZ X (.builtin "min") Xo:=⟨_,EN hc,λ xs ds H M Q2 Q hd hm q k=>by
 obtain⟨i,j,rfl,q⟩:=q;obtain⟨v,r,rfl,hv,hr⟩:=af.mp hd;obtain⟨v2,r2,rfl,Nq,S5⟩:=af.mp hr;cases(ao.mp S5);cases(au.mp hv);cases(au.mp Nq);exact⟨i,j,rfl,k _ H _ M (au.mpr rfl) hm (ar.refl H) q⟩⟩
def Xn:iR:=λ x y M Q=>∃ds k,x=.tup ds/\y=.int k/\ds≠[]/\-(2^63)<=k/\k<2^63/\ds.length*k.toNat<=sizeLine/\Q (.tup (List.replicate k.toNat ds).flatten) M
def qN(h:aA K H ds xs):∀k:Nat,aA K H (List.replicate k ds).flatten (List.replicate k xs).flatten
 |0=>by simp[ao]
 |k+1=>by rw[m9,m9,w6,w6];exact h.append (qN h k)
def yh:iR:=λ x y M Q=>N7 x y M Q\/Xn x y M Q
def RZ:iC X (binaryOp .Mult) yh:=VY.or ⟨_,Mh,λ x y d e H M Q2 Q hd he hm q k=>by
 obtain⟨ds,n,rfl,rfl,iQ,h1,h2,hz,q⟩:=q;obtain⟨p,xs,rfl,hq,hx⟩:=aR.mp hd;cases(au.mp he);refine⟨p,n,xs,rfl,rfl,hq,λ z=>?_,h1,h2,by rw[hx.length];exact hz,λ e1=>?_,λ _ l hl=>?_⟩
 ·have:=hx.length;rw[z]at this;exact iQ (i8.mp this.symm)
 ·subst e1;rw[show(1:Int).toNat=1 from rfl,show(List.replicate 1 ds).flatten=ds by simp]at q;exact k _ H _ M (aR.mpr ⟨p,xs,rfl,hq,hx⟩) hm (ar.refl H) q
 ·exact k _ _ (.tup _) M (h_ hl (qN hx _)) (hm.laid hl) (ar.laid hl) q⟩
def Oo(b:Bool)(M:Mem)(k:D)(c:Ky):Prop:=match b with
 |true=>k=.tup [.int c.1,.tup (c.2.map D.int)]
 |false=>∃m,k=.tup [.int c.1,.ref m]/\M m=some (.lst (c.2.map D.int))
def Oo.v9{k:D}{c:Ky}(h:Oo b M k c)(r:sB K H k v)(hm:ul K H M):qZ K b H v c:=by
 cases b with
 |true=>cases(show k=_ from h);obtain⟨p,xs,rfl,hq,hd⟩:=aR.mp r;obtain⟨x1,r1,rfl,h1,hd⟩:=af.mp hd;obtain⟨x2,r2,rfl,h2,hd⟩:=af.mp hd;cases(ao.mp hd);cases(au.mp h1);obtain⟨p2,ys,rfl,sT,hd2⟩:=aR.mp h2;rw[dC hd2]at sT;exact⟨p,p2,rfl,hq,sT⟩
 |false=>obtain⟨m,rfl,hM⟩:=h;obtain⟨p,xs,rfl,hq,hd⟩:=aR.mp r;obtain⟨x1,r1,rfl,h1,hd⟩:=af.mp hd;obtain⟨x2,r2,rfl,h2,hd⟩:=af.mp hd;cases(ao.mp hd);cases(au.mp h1);cases(ay.mp h2);obtain⟨ys,hy,hd2⟩:=hm m _ hM;rw[dC hd2]at hy;exact⟨p,m,rfl,hq,eO.of hy⟩
def tm(h:aA K H ds xs):∀p:List Nat,aA K H (p.map λ i=>ds.getD i D.bo) (p.map λ i=>xs.getD i V.bo)
 |[]=>by simp[ao]
 |i::p=>by
  rw[C8,C8,af];refine⟨_,_,rfl,?_,tm h p⟩;cases e:ds[i]? with
  |none=>
   have e2:xs[i]?=none:=by have:=h.length;have:=c8.mp e;exact k5 ()
   rw[c3,c3,e,e2];exact dv.mpr rfl
  |some d=>obtain⟨x,e2,hx⟩:=h.get e;rw[c3,c3,e,e2];exact hx
section
variable {Q:bF}
def LF{i j:Int}(q:Q (.bl (decide (i=j))) M):yi false (.int i) (.int j) M Q:=.inl (QZ q)
def LD{i j:Str}(q:Q (.bl (decide (i=j))) M):yi false (.str i) (.str j) M Q:=.inl (QY q)
def Bs{i j:Bool}(q:Q (.bl (!decide (i=j))) M):yi true (.bl i) (.bl j) M Q:=.inl (QP q)
def GD{i j:Int}(h:vH i j)(q:Q (.int (i*j)) M):yh (.int i) (.int j) M Q:=.inl (Lr h q)
def GC{i:Str}{j:Int}(h:MulOk i j)(q:Q (.str (Txt.mul i j)) M):yh (.str i) (.int j) M Q:=.inl (Lp h q)
def GB{k:Int}(h0:0<=k)(h1:k<=10000)(q:Q (.tup (List.replicate k.toNat d)) M):yh (.tup [d]) (.int k) M Q:=.inr ⟨[d],k,rfl,rfl,by simp,Int.le_trans (by decide) h0,u3 h1 (by decide),E6 (show 1*k.toNat<=10000 by lia) (by decide),by
 rw[show(List.replicate k.toNat [d]).flatten=List.replicate k.toNat d by simp];exact q⟩
def QQ{i j:Int}(q:Q (.int (if j<i then j else i)) M):Xo [.int i,.int j] M Q:=⟨i,j,rfl,q⟩
def Lh(q:Q (.int ns.sum) M):Xk [.tup (ns.map D.int)] M Q:=⟨_,_,ns,rfl,rfl,rfl,q⟩
def dJ{y:D}(h:M p=some (.lst ds))(hz:ds.length<sizeLine)(q:Q .bo (ag M p (.lst (ds++[y])))):pC (.ref p) [y] M Q:=⟨p,ds,y,rfl,rfl,h,hz,q⟩
abbrev row(ns:List Int):D:=.tup (ns.map D.int)
def toPs_ints:∀ns:List Int,toPs (ns.map D.int)=ns.map PyData.int
 |[]=>rfl
 |n::ns=>by rw[C8];unfold toPs;rw[toPs_ints ns];unfold toP;rfl
def toP_row(ns:List Int):toP (row ns)=.tuple (ns.map PyData.int):=by unfold row toP;rw[toPs_ints]
def lW:∀ns:List Int,qm (ns.map D.int)=true
 |[]=>rfl
 |n::ns=>by rw[C8];unfold qm;rw[lW ns];rfl
def R7(ns:List Int):nr (row ns)=true:=by unfold row nr;exact lW ns
def NS(ns ms:List Int):PyData.eqv (toP (row ns)) (toP (row ms))=decide (ns=ms):=by rw[toP_row,toP_row];simp only[PyData.eqv];exact PySem.W.ked_eqvAll ns ms
def MY(ns:List Int):(toP (row ns)).canLay0=true:=by rw[toP_row];simp[PyData.canLay0,PySem.W.ke_canLayAll0]
def NX(ns:List Int):(toP (row ns)).depth=1:=by rw[toP_row];simp[PyData.depth,PySem.W.ke_depthAll]
def ql:∀rs:List (List Int),qm (rs.map row)=true
 |[]=>rfl
 |r::rs=>by rw[C8];unfold qm;rw[R7,ql rs];rfl
def nW:∀rs:List (List Int),PyData.canLayAll0 (toPs (rs.map row))=true
 |[]=>rfl
 |r::rs=>by rw[C8];unfold toPs;rw[PyData.canLayAll0,MY,nW rs];rfl
def n_:∀rs:List (List Int),PyData.depthAll (toPs (rs.map row))<=1
 |[]=>by simp[toPs,PyData.depthAll]
 |r::rs=>by rw[C8];unfold toPs;rw[PyData.depthAll,NX];have:=n_ rs;lia
def nP(rs:List (List Int)):SeqAt.shaped (.list (toPs (rs.map row)))=true:=by unfold SeqAt.shaped;rw[show(PyData.list (toPs (rs.map row))).canLay0=true by simpa[PyData.canLay0]using nW rs,Bool.true_and];refine B8 ?_;have:=n_ rs;simp only[PyData.depth];lia
def xQ:∀rs qs:List (List Int),PyData.eqvAll (toPs (rs.map row)) (toPs (qs.map row))=decide (rs=qs)
 |[],[]=>rfl
 |[],q::qs=>by rw[C8];simp[toPs,PyData.eqvAll]
 |r::rs,[]=>by rw[C8];simp[toPs,PyData.eqvAll]
 |r::rs,q::qs=>by rw[C8,C8];unfold toPs;rw[PyData.eqvAll,NS,xQ rs qs];by_cases h:r=q<;>by_cases h':rs=qs<;>simp[h,h']
def Lk(neg:Bool){b:ap}{qs:List (List Int)}(ha:M a=some (.lst (rs.map row)))(hb:M b=some (.lst (qs.map row)))(q:Q (.bl (if neg then !decide (rs=qs)else decide (rs=qs))) M):yi neg (.ref a) (.ref b) M Q:=by
 refine .inr ⟨_,_,?_,?_,nP rs,nP qs,?_⟩
 ·unfold rB;simp only[ha];rw[K1 (ql rs)]
 ·unfold rB;simp only[hb];rw[K1 (ql qs)]
 ·rw[show PyData.eqv (.list (toPs (rs.map row))) (.list (toPs (qs.map row)))=decide (rs=qs) by simp only[PyData.eqv];exact xQ rs qs];exact q
def Lf{a b:D}(h:N ((δ.set i (some a)).set j (some b)) M):Jg 2 (mj (rc i) (mj (rc j) Jh)) (.tup [a,b]) δ M N:=⟨rfl,h⟩
def GI{A:Prop}(h:B):if(!true)=true then A else B:=by rw[Bool.not_true,K3 o8];exact h
def GJ{A:Prop}(h:A):if(!false)=true then A else B:=by rw[Bool.not_false,K1 rfl];exact h
def fO{c:gn}{E:ke}{δ:cY}(h:∃W:Nat->cY->Mem->Prop,(∃m,W m δ M)/\∀m δ M,W m δ M->c δ M λ b M1=>
  if b=true then ∃N:cY->Mem->Prop,(∀δ' M',N δ' M'->∃m',m'<m/\W m' δ' M')/\tb {E with nx:=N,ct:=N,bk:=E.nx} δ M1 else E.nx δ M1):Gi c tb E δ M:=h
def yr{g:jA}(Pv:Nat->List D->Mem->Prop)(h0:Pv 0 [] M1)(hl:∀i li M,i<=ds.length->Pv i li M->M a=some (.lst ds))(hz:∀i li M,i<=ds.length->Pv i li M->li.length<=sizeLine)(hs:∀i d li M,ds[i]?=some d->Pv i li M->g d δc M λ δ2 M2=>tt δ2 M2 λ b M3=>if b=true then te δ2 M3 λ y M4=>Pv (i+1) (li++[y]) M4 else Pv (i+1) li M3)(hd:∀li M,Pv ds.length li M->Qe li M):∃(B:Nat)(W:Nat->List D->Mem->Prop),W 0 [] M1/\∀i li M,W i li M->i<=B/\li.length<=sizeLine/\match pc (.at a) M with
   |none=>False
   |some ds=>match ds[i]? with
    |none=>i=ds.length/\Qe li M
    |some d=>g d δc M λ δ2 M2=>tt δ2 M2 λ b M3=>if b=true then te δ2 M3 λ y M4=>W (i+1) (li++[y]) M4 else W (i+1) li M3:=by
 refine⟨ds.length,λ i li M=>if i<=ds.length then Pv i li M else False,by dsimp only;rw[K1 (G9 _)];exact h0,?_⟩;intro i li M w;by_cases hi:i<=ds.length
 ·rw[K1 hi]at w;refine⟨hi,hz i li M hi w,?_⟩;have e0:pc (.at a) M=some ds:=by show(match M a with|some (.lst ds)=>some ds|_=>none)=some ds;rw[hl i li M hi w]
  rw[e0];show(match ds[i]? with
    |none=>i=ds.length/\Qe li M
    |some d=>g d δc M λ δ2 M2=>tt δ2 M2 λ b M3=>if b=true then te δ2 M3 λ y M4=>(if i+1<=ds.length then Pv (i+1) (li++[y]) M4 else False)else(if i+1<=ds.length then Pv (i+1) li M3 else False))
  cases e:ds[i]? with
  |none=>have:i=ds.length:=B6 hi (c8.mp e);subst this;exact⟨rfl,hd li M w⟩
  |some d=>have eB:i+1<=ds.length:=(c7.mp e).1;simp only[K1 eB];exact hs i d li M e w
 ·rw[K3 hi]at w;exact w.elim
def DN{i:Int}(ha:M a=some (.lst (ns.map D.int)))(q:Q (.int (ns.count i:Nat)) M):JD (.ref a) [.int i] M Q:=by
 refine⟨a,_,_,rfl,rfl,ha,lW ns,rfl,by rw[toPs_ints];exact PySem.W.ke_canLayAll0 ns,by simp[toP,PyData.canLay0],by simp[toP,PyData.depth],?_⟩;have e:(ns.map D.int).countP (λ d=>PyData.eqv (toP d) (toP (.int i)))=ns.count i:=by rw[countP_map,count_eq_countP];refine countP_congr λ x _=>?_;show PyData.eqv (toP (.int x)) (toP (.int i))=true↔_;simp[toP,PyData.eqv]
 rw[e];exact q
end
end L3
namespace L5
def uG:typeLookup (.type "list") "keys"=pure none:=by rw[typeLookup_type,builtinLookup_eq_fast];kernel_rfl
def MF{xs:Array gV}{Q:Option gV->am->Prop}(hx:s.heap.get? a=some {cls:=.type "list",dict:=none,data:=.seq xs k,slots:=sl})(hA:A.handled=none)(h:∀h' tk,(∀b o,s.heap.get? b=some o->h'.get? b=some o)->Q none {s with heap:=h',toks:=tk}):wpAny (model prog w) A (getAttr? (.ref a) "keys") Q E s:=by
 obtain⟨hp,g,d,tk,os⟩:=s;have ty:∀Oy,(⟨hp,g,d,Oy,os⟩:am).TypeIs (.ref a) "list":=λ _=>⟨_,hx,rfl⟩;have f1:=sub_AttributeError;have f3:=F.slot_list_getattribute.lookup;have f4:=F.slot_list_getattribute.bind (.ref a);have f5:=am_list_getattr_none;unfold getAttr? getAttrBy? getAttrBy
 repeat(any_goals (first|assumption|exact ty _|((with_reducible show wpAny _ _ (call (Value.builtin "list.__getattribute__") _ _) _ _ _);refine J5 F.slot_list_getattribute (ty _) am_entry_list_getattribute (F.args_list_getattribute_2 _ _) (meets_getattribute_miss_list a xs k sl _ _ uG (by decide+kernel) (by decide+kernel)) ⟨hx,hA,λ h' Oy e sS=>?_⟩)|wp_step))
 obtain⟨t',u',he⟩:=sS.there;show wpAny _ _ (getattributeRaised _ _ _ _ _ _ _) _ _ _;unfold getattributeRaised
 repeat(any_goals (first|assumption|wp_step))
 exact h _ _ sS.keeps
def xT:entryFor table "dict.update.loop"=some Builtin.«dict.update.loop»:=entryFor_of_tree (by kernel_rfl)
def oT:plainId "dict.update.loop"=true:=by decide+kernel
section
variable {R:Result->am->Prop}
abbrev TK(prog:Program)(w:World):HeapKind prog w (List L2.Key):=tupleKind (L2.cg prog w)
abbrev Ent:=List L2.Key×ap×gV
def zl{k:List L2.Key}(x:(TK prog w).is h k a):∃o,h.get? a=some o/\o.cls=.type "tuple":=let⟨o,aq,n,h1,h2,h3,h4⟩:=x;⟨o,h1,h2⟩
def tM{k:List L2.Key}(x:(TK prog w).is h k a)(q:∀o,h.get? a=some o->h'.get? a=some o):(TK prog w).is h' k a:=let⟨o,aq,n,h1,h2,h3,h4⟩:=x;⟨o,aq,n,q o h1,h2,h3,h4⟩
structure nI(prog:Program)(w:World)(h:Heap)(u:gV)(p:Ent):Prop where
 ex:∃t,u=.ref t/\h.IsTuple t #[.ref p.2.1,p.2.2]
 key:(TK prog w).is h p.1 p.2.1
def qW(h h':Heap):Prop:=∀b o,o.cls=.type "tuple"->h.get? b=some o->h'.get? b=some o
def nI.kr{p:Ent}(x:nI prog w h u p)(q:qW h h'):nI prog w h' u p:=by obtain⟨⟨t,rfl,o,ho,hc,n,hd⟩,key⟩:=x;obtain⟨oa,h1,h2⟩:=zl key;exact⟨⟨t,rfl,o,q t o hc ho,hc,n,hd⟩,tM key λ o' e=>by rw[h1]at e;cases e;exact q _ _ h2 h1⟩
def putAll(xs:List Ent)(ps:List Ent):List Ent:=ps.foldl (λ xs p=>storedH xs p.1 p.2.1 p.2.2) xs
def nO(xs:List Ent)(p:Ent):(storedH xs p.1 p.2.1 p.2.2).length<=xs.length+1:=by
 unfold storedH;split
 ·simp
 ·simp
def zL(hu:A.in1.units<cLine)(hA:A.handled=none)(d it l:ap)(hdi:d≠it)(hli:l≠it)(hld:l≠d)(aq:List gV)(ps:List Ent)(hlen:aq.length=ps.length)(WH:ps.length<=1000):∀(k i:Nat)(s:am)(xs:List Ent),ps.length-i=k->i<=ps.length->xs.length<=i->s.heap.IsListIter it l i->s.heap.IsList l aq.toArray->s.heap.DictOfH (TK prog w) d xs->
   (∀(j:Nat)(u:gV)(p:Ent),aq[j]?=some u->ps[j]?=some p->nI prog w s.heap u p)->
   (∀h' tk,(∀b o,b≠d->b≠it->s.heap.get? b=some o->h'.get? b=some o)->h'.DictOfH (TK prog w) d (putAll xs (ps.drop i))->R (.ok (.ret .none)) {s with heap:=h',toks:=tk})->
   codeAny (model prog w) A (.builtin "dict.update.loop" ⟨[.ref d,.ref it,rawInt i,.none],[]⟩) R s:=by
 intro k
 induction k with
 |zero=>
  intro i s xs hk hi Wj hit hl hd hp hR;have e:i=ps.length:=()
  subst e;refine B2 xT ?_;rw[l5 oT _];refine J1 (m:=pyNext (.ref it)) (wpAny_pyNext_list_end (show A.in1.handled=none from hA) hit hl (by simp;lia) λ h' eb=>?_);refine J1 (m:=Builtin.Dict.addKeywords d []) (J3 (J3 ?_));refine hR h' s.toks (λ b o _ n2 q=>eb b o n2 q) ?_;rw[drop_length];obtain⟨o,es,ep,ho,r1,r2,r3,r4,r5⟩:=hd;refine⟨o,es,ep,eb d o hdi ho,r1,r2,r3,λ x hx=>?_,r5⟩;obtain⟨oa,h1,h2⟩:=zl (r4 x hx);refine tM (r4 x hx) λ o' e=>eb _ _ (λ z=>?_) e;rw[z]at h1;obtain⟨oi,g1,g2,_⟩:=hit;rw[g1]at h1;cases h1;rw[g2]at h2;exact be h2 (by decide)
 |succ k ih=>
  intro i s xs hk hi Wj hit hl hd hp hR;have eB:i<ps.length:=()
  have e1:aq[i]?=some aq[i]:=g9 ();have e2:ps[i]?=some ps[i]:=g9 eB;refine B2 xT ?_;rw[l5 oT _];refine J1 (m:=pyNext (.ref it)) (wpAny_pyNext_list_item hit hl (x:=aq[i]) (by simpa using e1) λ g1 it1 s1=>?_);have YV:qW s.heap g1:=λ b o hc e=>s1.extBut _ _ (λ z=>by
   rw[z]at e;obtain⟨oi,q1,q2,_⟩:=hit;rw[q1]at e;cases e;rw[hc]at q2;exact be q2 (by decide)) e
  obtain⟨⟨t,et,⟨ct,dt,da,st⟩,ho,hc,n,xI⟩,key⟩:=(hp i _ _ e1 e2).kr YV;cases(show ct=.type "tuple" from hc);cases(show da=_ from xI);have Yl:g1.IsList l aq.toArray:=hl.at λ o e=>s1.extBut _ _ hli e;have hd1:g1.DictOfH (TK prog w) d xs:=by obtain⟨o,es,ep,ho,r1,r2,r3,r4,r5⟩:=hd;refine⟨o,es,ep,s1.extBut _ _ hdi ho,r1,r2,r3,λ x hx=>?_,r5⟩;obtain⟨oa,h1,h2⟩:=zl (r4 x hx);exact tM (r4 x hx) λ o' e=>by rw[h1]at e;cases e;exact YV _ _ h2 h1
  rw[et];refine J1 (C4 (J1 (C3 ?_)));unfold Builtin.Dict.pairItems;refine J1 (wpAny_typeOf (T:="tuple") ⟨_,ho,rfl⟩ ?_);rw[K1 (by decide)];refine J1 (B9 ho rfl (J3 ?_));show wpAny _ A.in1 (holding [Value.ref ps[i].2.1,ps[i].2.2] (dictSet d (.ref ps[i].2.1) ps[i].2.2)) _ _ _;refine C4 (wpAny_dictSet_heap (s:={s with heap:=g1}) (knd:=TK prog w) hu key hd1 (λ g2 d2 s2=>?_) (E6 (show xs.length<=1000 by lia) (by decide)));refine J3 ⟨D1 oT _,?_⟩;have od:∃o,g1.get? d=some o/\o.cls=.type "dict":=by obtain⟨o,es,ep,ho,r1,_⟩:=hd1;exact⟨o,ho,r1.1⟩
  have ts2:qW g1 g2:=λ b o hc e=>s2.extBut _ _ (λ z=>by
   rw[z]at e;obtain⟨oi,q1,q2⟩:=od;rw[q1]at e;cases e;rw[hc]at q2;exact be q2 (by decide)) e
  have hc1:((i:Int)+1)=((i+1:Nat):Int):=by push_cast;rfl
  show codeAny (model prog w) A (.builtin "dict.update.loop" ⟨[.ref d,.ref it,rawInt ((i:Int)+1),.none],[]⟩) R _;rw[hc1];refine ih (i+1) _ (storedH xs ps[i].1 ps[i].2.1 ps[i].2.2) () eB ?_ (it1.at λ o e=>s2.extBut _ _ (J9 hdi) e) (Yl.at λ o e=>s2.extBut _ _ hld e) d2 (λ j u p h1 h2=>((hp j u p h1 h2).kr YV).kr ts2) λ h' tk uT ju=>?_
  ·have:=nO xs ps[i];lia
  ·refine hR h' tk (λ b o n1 n2 e=>uT b o n1 n2 (s2.extBut _ _ n1 (s1.extBut _ _ n2 e))) ?_;rw[c6 eB];exact ju
end
open PySem.W PySem.Calls PyProof.Rows
def MP{l:ap}{ps:List Ent}(hu:A.units+2<cLine)(hA:A.handled=none)(hl:s.heap.IsList l aq.toArray)(gb:∃o,s.heap.get? l=some o/\o.dict=none)(hlen:aq.length=ps.length)(WH:ps.length<=1000)(hp:∀(j:Nat)(u:gV)(p:Ent),aq[j]?=some u->ps[j]?=some p->nI prog w s.heap u p)(h:∀h' tk,(∀b o,s.heap.get? b=some o->h'.get? b=some o)->h'.DictOfH (TK prog w) s.heap.objs.size (putAll [] ps)->s.heap.objs.size<h'.objs.size->Q (.ref s.heap.objs.size) {s with heap:=h',toks:=tk}):wpAny (model prog w) A (call (.type "dict") [.ref l]) Q E s:=by
 refine callType_codes (Q₁:=λ obj s₁=>obj=.ref s.heap.objs.size/\s₁={s with heap:=s.heap.push {cls:=.type "dict",data:=.dict #[]}}) F.kt_called_dict (F.kt_typeCall_dict_1 _) F.entry_dict_init (kt_code_dict_new _ ⟨rfl,rfl⟩) ?_;rintro obj s1 ⟨rfl,rfl⟩;have new:(s.heap.push {cls:=.type "dict",data:=.dict #[]}).DictOfH (TK prog w) s.heap.objs.size []:=Heap.DictOfH.new s.heap;refine⟨new.typeIs,F.args_dict_init_2 _ _,?_⟩;unfold Builtin.«dict.__init__»;refine J1 ?_;unfold Builtin.Dict.selfAndRest;refine J1 (wpAny_notOrdered_dict new.typeIs ?_);refine J3 (a:=(s.heap.objs.size,[Value.ref l])) ?_;obtain⟨ob,hob,hdn⟩:=gb;obtain⟨⟨c,dd,da,sl⟩,ho,hc,n,xI⟩:=id hl;rw[ho]at hob;cases hob;cases(show c=.type "list" from hc);cases(show da=.seq aq.toArray n from xI);cases(show dd=none from hdn);have Tc:(s.heap.push {cls:=.type "dict",data:=.dict #[]}).get? l=some {cls:=.type "list",dict:=none,data:=.seq aq.toArray n,slots:=sl}:=j5 _ ho;show wpAny _ _ (Builtin.Dict.updateFrom "dict.__init__" s.heap.objs.size (.ref l) [] .none) _ _ _;unfold Builtin.Dict.updateFrom;refine J1 (wpAny_typeOf (T:="list") ⟨_,Tc,rfl⟩ ?_);rw[K1 (by decide)];refine J1 (MF (s:={s with heap:=s.heap.push {cls:=.type "dict",data:=.dict #[]}}) Tc (show A.in1.handled=none from hA) λ g tk gk=>?_);rw[K1 (by rfl)];have k0:∀b o,s.heap.get? b=some o->g.get? b=some o:=λ b o e=>gk b o (j5 _ e);have Ut:g.IsList l aq.toArray:=hl.at λ o e=>k0 l o e;have dg:g.DictOfH (TK prog w) s.heap.objs.size []:=by obtain⟨o,es,ep,h1,r⟩:=new;exact⟨o,es,ep,gk _ _ h1,r.1,r.2.1,r.2.2.1,λ x hx=>be hx (by simp),r.2.2.2.2⟩
 have dlt:s.heap.objs.size<g.objs.size:=by obtain⟨o,es,ep,h1,_⟩:=dg;exact D7 h1
 refine J1 (J4 (J1 (x3 (s:={s with heap:=g,toks:=tk}) Ut ?_)));refine J3 ⟨D1 oT _,?_⟩;have up:∀b o,g.get? b=some o->(g.push {cls:=.type "list_iterator",data:=.fields #[.ref l,.int 0 0]}).get? b=some o:=λ b o e=>j5 _ e;have iQ:l≠s.heap.objs.size:=D6 (D7 ho);have eB:l<g.objs.size:=Nat.lt_trans (D7 ho) dlt;refine zL (prog:=prog) (w:=w) (A:=A.in1) (by show A.units+1+1<cLine;lia) (show A.in1.handled=none from hA) s.heap.objs.size g.objs.size l (D6 dlt) (D6 eB) iQ aq ps hlen WH _ 0 {s with heap:=g.push {cls:=.type "list_iterator",data:=.fields #[.ref l,.int 0 0]},toks:=tk} [] rfl (G9 _) (G7 _) ⟨_,n6 _ rfl,rfl,rfl⟩ (Ut.at λ o e=>up l o e) ?_ ?_ ?_
 ·obtain⟨o,es,ep,h1,r⟩:=dg;exact⟨o,es,ep,up _ _ h1,r.1,r.2.1,r.2.2.1,λ x hx=>be hx (by simp),r.2.2.2.2⟩
 ·intro j u p e1 e2;exact(hp j u p e1 e2).kr λ b o _ e=>up b o (k0 b o e)
 ·intro h' Oy uT ju;have aav:s.heap.objs.size<h'.objs.size:=by obtain⟨o,es,ep,h1,_⟩:=ju;exact D7 h1
  refine⟨rfl,h h' Oy (λ b o e=>uT b o (D6 (D7 e)) (D6 (Nat.lt_trans (D7 e) dlt)) (up b o (k0 b o e))) ju aav⟩
def Raw(g:Heap)(d:ap)(es:Array DictEntry)(ep:Nat):Prop:=∃b,g.get? d=some b/\b.ExactDict/\b.data=.dict es ep
def Raw.to{d:ap}{es:Array DictEntry}(x:Raw g d es ep)(q:∀b,g.get? d=some b->g'.get? d=some b):Raw g' d es ep:=let⟨b,h1,h2⟩:=x;⟨b,q b h1,h2⟩
def Raw.ty{d:ap}{es:Array DictEntry}(x:Raw s.heap d es ep):s.TypeIs (.ref d) "dict":=let⟨b,h1,h2,_⟩:=x;⟨b,h1,h2.1⟩
def Raw.lt{d:ap}{es:Array DictEntry}(x:Raw g d es ep):d<g.objs.size:=let⟨b,h1,_⟩:=x;D7 h1
def GV{d:ap}{es:Array DictEntry}(nd:(d==sysModules)=false)(x:Raw s.heap d es ep)(fin:Q (.ref s.heap.objs.size) {s with heap:=s.heap.push {cls:=.type "dict_keyiterator",data:=.fields #[.ref d,.int 0 0,.int es.size 0,.int ep 0]}}):wpAny (model prog w) A (pyIter (.ref d)) Q E s:=by obtain⟨b,hb,xb,db⟩:=id x;refine wpAny_pyIter_slot x.ty F.slot_dict_iter (y9 F.slot_dict_iter x.ty F.entry_dict_iter ?_ (F.args_dict_iter_1 _));unfold Builtin.«dict.__iter__»;refine J1 ?_;unfold Builtin.Dict.dictSlotNone;refine J1 (wpAny_notOrdered_dict x.ty ?_);refine J3 (a:=Value.ref d) ?_;show wpAny (model prog w) _ (Builtin.Dict.showsAll d>>=_) _ _ s;unfold Builtin.Dict.showsAll;rw[K3 (by simp[nd])];refine J1 (J3 (J1 (wpAny_dictEntries hb db (J1 (wpAny_dictEpoch hb db ?_)))));refine J1 (w5 (J3 ⟨_,rfl,"dict_keyiterator",_,⟨_,n6 _ rfl,rfl⟩,a9.lookup,?_⟩));simpa[rawInt]using fin
def wB{d:ap}{es:Array DictEntry}{Q:Option gV->am->Prop}(ki:s.heap.IsKeyIter it d i n ep)(x:Raw s.heap d es ep)(en:n=es.size)(hi:∀e:DictEntry,es[i]?=some e->∀g,g.IsKeyIter it d (i+1) n ep->Heap.SameBut it s.heap g->Q (some e.key) {s with heap:=g})(hn:A.handled=none)(he:es[i]?=none->∀g,Heap.ExtBut it s.heap g->Q none {s with heap:=g}):wpAny (model prog w) A (pyNext (.ref it)) Q E s:=by
 subst en;obtain⟨oi,gi,ci,di⟩:=id ki;obtain⟨b,hb,xb,db⟩:=id x;unfold pyNext;refine J1 (wpAny_attempt (i7 (name:=cS "__next__") ki.typeIs a9
  (y9 a9 ki.typeIs F.entry_dict_keyiterator_next ?_ (F.args_dict_keyiterator_next_1 _))))
 refine J1 (J3 (J1 (J1 ?_)))
 first|refine J1 (a8 ki.typeIs (J3 ?_))|refine J1 (wpAny_typeNameOf_keyiter ki.typeIs (J3 ?_))
 refine J1 (wpAny_fieldsOf gi di ?_);have own:Builtin.Dict_items.ownsTuple "dict_keyiterator"=false:=rfl;simp only[own,J7,p5];show wpAny (model prog w) _ (if(Value.ref d==Value.none)=true then _ else _) _ _ s;rw[K3 (by exact o8)];refine J1 (J3 (J1 (wpAny_dictEntries hb db ?_)));rw[K3 (by simp)];refine J1 (J3 (J1 (wpAny_dictEpoch hb db ?_)));rw[K3 (by simp)];refine J3 ?_;have nn:¬((i:Int)<0):=()
 by_cases lt:i<es.size
 ·simp only[nn,J7,u9,c5 lt];refine J1 ?_
  first|refine J1 (a8 ki.typeIs (J3 ?_))|refine J1 (wpAny_typeNameOf_keyiter ki.typeIs (J3 ?_))
  refine J1 (wpAny_isOneOf_keyiter ki.typeIs ?_);show wpAny (model prog w) _ (setField (.ref it) 1 (rawInt ((i:Int)+1))>>=_) _ _ s;refine J1 (wpAny_setField gi di (by simp) ?_);have k2:(s.heap.update it (Obj.mapFields (·.setIfInBounds 1 (rawInt ((i:Int)+1))))).IsKeyIter it d (i+1) es.size ep:=
   ⟨_,j7 _ gi (Obj.isFreed_of_fields (s9 di _)),(Obj.cls_mapFields ..).trans ci,by rw[s9 di];simp[rawInt]⟩
  refine J1 (C4 (J1 (wpAny_isOneOf_keyiter (s:={s with heap:=s.heap.update it (Obj.mapFields (·.setIfInBounds 1 (rawInt ((i:Int)+1))))}) k2.typeIs ?_)));show wpAny (model prog w) _ (pure es[i].key) _ _ _;exact J3 (J3 ⟨_,rfl,J3 (hi _ (c5 lt) _ k2 (l8 ..))⟩)
 ·have ge:es.size<=i:=y4 lt;simp only[nn,J7,u9,j0 ge];refine J1 ?_
  first|refine J1 (a8 ki.typeIs (J3 ?_))|refine J1 (wpAny_typeNameOf_keyiter ki.typeIs (J3 ?_))
  show wpAny (model prog w) _ (setField (.ref it) 0 .none>>=_) _ _ s;refine J1 (wpAny_setField gi di (by simp) ?_);show wpAny (model prog w) _ (newExc (.type "StopIteration") []>>=_) _ _ _;refine J1 ?_;simp only[newTuple,newExc];refine J1 (w5 ?_ (by size_fits));refine J1 (m:=firstArgMember _ _) (wpAny_of_eq (a:=Value.none) (by first|rfl|(simp only[firstArgMember];rfl)) (w5 ?_ (by size_fits)));simp only[raiseNew];refine J1 (wpAny_handled ?_);rw[show A.in1.handled=none from hn];refine J1 (J3 (wpAny_throw ?_));refine J1 (wpAny_isInstance (b:=true) (T:="StopIteration") ⟨_,n6 _ rfl,rfl⟩ isSubtype_stop ?_);exact J3 (he (j0 ge) _ (((l8 ..).extBut.push _).push _))
def GU(hn:A.handled=none)(I d:ap)(ne:d≠I)(es:Array DictEntry)(ep:Nat):Walks prog w A I [I,d] [I] es.size (λ i v=>∃e,es[i]?=some e/\v=e.key) (λ i g=>g.IsKeyIter I d i es.size ep/\Raw g d es ep) where
 sub:=λ b m=>by simp at m;simp[m]
 frame:=λ _ _ _ st k=>⟨st.1.at λ o e=>k I (by simp) o e,st.2.to λ o e=>k d (by simp) o e⟩
 item:=λ i s Q E lt st fin=>wB st.1 st.2 rfl (λ e ee g k2 sb=>fin e.key g s.toks ⟨e,ee,rfl⟩ ⟨k2,st.2.to λ o q=>sb.extBut d o ne q⟩ λ b o m q=>sb.extBut b o (λ z=>m (by simp[z])) q) hn λ e=>be e (by rw[c5 lt];exact λ z=>nomatch z)
 done:=λ s Q E st fin=>wB st.1 st.2 rfl (λ e ee=>be ee (by rw[j0 (G7 _)];exact λ z=>nomatch z)) hn λ _ g sb=>fin g s.toks λ b o m q=>sb b o (λ z=>m (by simp[z])) q
 self:=λ _ _ _ _ st fin=>wpAny_pyIter_keyiter st.1 fin
def LN{d:ap}{es:Array DictEntry}(nd:(d==sysModules)=false):KdlSrc prog w "dict" d d es.size (λ i v=>∃e,es[i]?=some e/\v=e.key) (λ g=>Raw g d es ep) where
 type:=λ _ x=>x.ty
 there:=λ _ x=>⟨x.lt,x.lt⟩
 keep:=λ _ _ x k=>x.to λ o e=>k d (.inl rfl) o e
 notList:=by decide
 notTuple:=by decide
 hint:=λ _ _ _ _ x q=>kdl_hint_dict x.ty q
 iter:=λ _ _ hn x=>⟨_,_,(λ _ _ q=>GV nd x q),GU hn _ d (D6 x.lt) es ep,⟨⟨_,n6 _ rfl,rfl,rfl⟩,x.to λ o e=>j5 _ e⟩⟩
def DO{es:Array DictEntry}(it:ItemsOf (λ i v=>∃e,es[i]?=some e/\v=e.key) li es.size):li.toList=es.toList.map (·.key):=by
 apply x8;intro i;by_cases lt:i<li.size
 ·have le:i<es.size:=by rw[<- it.1];exact lt
  obtain⟨e,e1,e2⟩:=it.2 i li[i] (c5 lt);rw[k3,c5 lt,u6,k3,e1,e2];rfl
 ·have le:¬i<es.size:=by rw[<- it.1];exact lt
  rw[k3,j0 (y4 lt),u6,k3,j0 (y4 le)];rfl
def yp{d:ap}{es:Array DictEntry}{R:List gV->am->Prop}(nd:(d==sysModules)=false)(hn:A.handled=none)(x:Raw s.heap d es ep)(hz:es.size<=sizeLine)(h:∀g tk,(∀b o,s.heap.get? b=some o->g.get? b=some o)->R (es.toList.map (·.key)) {s with heap:=g,toks:=tk}):wpAny (model prog w) A (collect (.ref d)) R E s:=by refine kdu_collect (LN nd) hn x hz λ g tk li k it=>?_;have e:=DO it;rw[e];exact h g tk k
def KU{d:ap}{es:Array DictEntry}{ep:Nat}{Q:gV->am->Prop}(nd:(d==sysModules)=false)(hn:A.handled=none)(x:Raw s.heap d es ep)(xK:es.size<64) (h:∀(Dd kS:ap)(g0 g:Heap)(tk e1:Nat),(∀b o,s.heap.get? b=some o->g0.get? b=some o)->Dd≠kS->g0.objs.size<=Dd->g0.objs.size<=kS->g.get? Dd=some (seqObj "list" #[] e1)->g.get? kS=some (seqObj "list" #[] 0)->(∀b o,s.heap.get? b=some o->g.get? b=some o)->
   wpAny (model prog w) A.in1.in1 (ksk_rest Dd (.ref q) false (es.toList.map (·.key)).toArray e1 (.ref kS)) (λ f s'=>f=.done (.ret .none)/\Q (.ref Dd) s') E {s with heap:=g,toks:=tk}):
  wpAny (model prog w) A (call (.builtin "sorted") [.ref d] [(cS "key",.ref q)]) Q E s:=by
 refine call_function_entry_kw kind_sorted plain_sorted entry_sorted (ksk_s1 _ _) ?_;unfold Builtin.«sorted»;have hlen:(es.toList.map (·.key)).length=es.size:=by simp
 refine J1 (m:=checkCount "sorted" 1 1 _) (J3 (J1 (yp nd (show A.in1.handled=none from hn) x (by rw[G8];lia) λ g tk gk=>J1 (wpAny_newList ?_ (by rw[hlen,G8];lia)))));generalize hvs:es.toList.map (·.key)=vs at*;have aap:g.objs.size≠g.objs.size+2:=()
 have g1:(g.push (seqObj "list" vs.toArray 0)).get? g.objs.size=some (seqObj "list" vs.toArray 0):=n6 _ rfl;refine J1 (C4 (wpAny_call_entry_kw slot_list_sort ⟨_,g1,rfl⟩ entry_list_sort ?body (ksk_l1 _ _)))
 case body=>
  show wpAny (model prog w) A.in1.in1 (Builtin.«list.sort» ⟨[.ref g.objs.size],[(cS "key",.ref q)]⟩) _ _ _;rw[ksk_t1];unfold ksk_tree;generalize hH:g.push (seqObj "list" vs.toArray 0)=H at*;have eH:H.objs.size=g.objs.size+1:=by rw[<- hH,size_push']
  obtain⟨c1,o1⟩:∃c1,(H.update g.objs.size (Obj.mapSeq λ _=>(#[]:Array gV))).get? g.objs.size=some (seqObj "list" #[] c1):=⟨_,get?_update_seq g1 λ _=>#[]⟩;refine J1 (listItems_at g1 rfl (J1 (listUpdate_at g1 rfl (J1 (seqEpoch_at o1 rfl (J1 (wpAny_newTuple (J1 (wpAny_newList (C4 ?_) (G9 _))) (by show vs.length<=_;rw[G8];lia))))) (by rw[x6,G8];lia) (G9 _))));have e2:(H.update g.objs.size (Obj.mapSeq λ _=>(#[]:Array gV))).objs.size=g.objs.size+1:=by rw[Heap.size_update,eH]
  have e3:((H.update g.objs.size (Obj.mapSeq λ _=>(#[]:Array gV))).push (seqObj "tuple" vs.toArray 0)).objs.size=g.objs.size+2:=by rw[size_push',e2]
  have g3:(((H.update g.objs.size (Obj.mapSeq λ _=>(#[]:Array gV))).push (seqObj "tuple" vs.toArray 0)).push (seqObj "list" #[] 0)).get? (g.objs.size+2)=some (seqObj "list" #[] 0):=by rw[<- e3];exact n6 _ rfl
  show wpAny (model prog w) A.in1.in1 (ksk_rest g.objs.size (.ref q) false vs.toArray c1 (.ref ((H.update g.objs.size (Obj.mapSeq λ _=>(#[]:Array gV))).push (seqObj "tuple" vs.toArray 0)).objs.size)) _ _ {s with heap:=((H.update g.objs.size (Obj.mapSeq λ _=>(#[]:Array gV))).push (seqObj "tuple" vs.toArray 0)).push (seqObj "list" #[] 0),toks:=tk};rw[e3];refine J6 (h g.objs.size (g.objs.size+2) g _ tk c1 gk aap (G7 _) (Nat.le_add_right _ _) (j5 _ (j5 _ o1)) g3 λ b o y=>j5 _ (j5 _ (by
   have hb:b<g.objs.size:=D7 (gk b o y);rw[Heap.get?_update_ne _ _ _ _ (D6 hb),<- hH];exact j5 _ (gk b o y)))) (λ f s' hf=>?_) λ _ _ z=>z
  obtain⟨rfl,hq⟩:=hf;exact⟨_,rfl,J3 ⟨_,rfl,hq⟩⟩
end L5
namespace L2
open PySem.Spec PyProof.Rows L5 PySem.W
def Goes(X:Cx)(q l:ap)(aq:List gV)(s:am):Prop:=∀(Q:gV->am->Prop),
 (∀(Dd kS:ap)(g0 g:Heap)(tk e1:Nat),(∀b o,s.heap.get? b=some o->g0.get? b=some o)->Dd≠kS->g0.objs.size<=Dd->g0.objs.size<=kS->g.get? Dd=some (seqObj "list" #[] e1)->g.get? kS=some (seqObj "list" #[] 0)->(∀b o,s.heap.get? b=some o->g.get? b=some o)->
  wpAny (model X.prog X.w) X.A.in1.in1 (ksk_rest Dd (.ref q) false aq.toArray e1 (.ref kS)) (λ f s'=>f=.done (.ret .none)/\Q (.ref Dd) s') X.xe {s with heap:=g,toks:=tk})->
 wpAny (model X.prog X.w) X.A (call (.builtin "sorted") [.ref l] [(cS "key",.ref q)]) Q X.xe s
def AE(F:bB X.prog X.w X.K X.mg X.base dX k q fd ps sp)(hb:Binds X.K fd ps [])(hr:cw (k+2) X.A){l:ap}{Q:VK}(I:sn X jp σ H s)(rv:ut ys aq)(go:Goes X q l aq s)(xK:ys.length<64)(R:List V->Hp->Prop)(key:Nat->Ky)(h0:R [] H)(hc:∀kvs H v,R kvs H->ys[kvs.length]?=some v->sp [v] H (λ k H'=>R (kvs++[k]) H') E0)(hk:∀kvs H,R kvs H->kvs.length=ys.length->(∀i k,kvs[i]?=some k->qZ X.K b H k (key i))/\∀p out,H p=none->Out (λ i j=>klt (key i) (key j)) ys V.bo out->Q (.ref p) (u8 H p (.lst out))):wpAny (model X.prog X.w) X.A (call (.builtin "sorted") [.ref l] [(cS "key",.ref q)]) (EP X jp σ Q) X.xe s:=by
 have hlen:=rv.length;have hu:=hr.units;have room:cw k X.A.in1.in1:=(hr.in1 (k:=k+1)).in1;refine go _ λ Dd kS g0 g tk e1 gk0 iQ lD lK gD gK gk=>?_;have I0:sn X jp σ H {s with heap:=g0,toks:=tk}:=I.kept (t':=tk) gk0;have f1:=I0.mr (H':=λ _=>none) (b:=Dd) lD rfl;have f3:=I0.mr (H':=λ _=>none) (b:=kS) lK rfl;refine Nf (J:=λ ks e s'=>∃kvs H',sn X ((kS,seqObj "list" (List.toArray ks) e)::(Dd,seqObj "list" #[] e1)::jp) σ H' s'/\ut kvs ks/\R kvs H'/\ks.length<=aq.length) () ?_ ?_ ?_ ?_
 ·rintro ks e s' ⟨kvs,H',I',rk,hR,uS⟩;exact⟨(I'.pin _ (j8 _ (.head _))).1,uS⟩
 ·rintro x ks e s' ⟨kvs,H',I',rk,hR,uS⟩ hx;have lk:=rk.length;obtain⟨y,hy,ry⟩:∃y,ys[kvs.length]?=some y/\sK y x:=by
   have hi:kvs.length<ys.length:=by have:=(c7.mp hx).1;lia
   obtain⟨u,Uo,ru⟩:=rv.get (g9 hi);rw[lk,hx]at Uo;cases Uo;exact⟨_,g9 hi,ru⟩
  have call:=hc kvs H' y hR hy;have r1:ut [y] [x]:=.cons ry .nil;have Ai:([x]++([]:List gV)).length=ps.length:=by have:=F.len _ _ _ _ call;simpa using this
  have en:lx X.prog X.w X.K X.mg X.base X.A.in1.in1 X.stack s' H':=I'.NV.in1.in1;have bt:=hb s' [x] I'.Nh Ai;rw[A5]at bt;refine wpAny_call (G3 (F.run X.A.in1.in1 X.stack s' H' ⟨[x],[]⟩ [x] [y] _ E0 room en bt r1 call) λ r s2 hq=>?_);cases r with
  |error e=>exact hq
  |ok fl=>
   cases fl with
   |ret u=>
    obtain⟨kv,H2,I2,ru,hR2⟩:=I'.after hq;have pk:=I2.pin _ (j8 _ (o7 ..));refine⟨pk.1,λ h' c hh' sb=>⟨kvs++[kv],H2,?_,rk.append (.cons ru .nil),hR2,?_⟩⟩
    ·have I3:sn X ((Dd,seqObj "list" #[] e1)::jp) σ H2 s2:=I2.fb λ p hp=>I2.pin p (j8 _ (.tail _ hp));have pd:=I2.pin _ (j8 _ (List.Mem.tail _ (o7 ..)));have fk:iP X ((Dd,seqObj "list" #[] e1)::jp) H2 (kS):=⟨pk.2.1,f3.2.1,f3.2.2.1,f3.2.2.2.1,f3.2.2.2.2.1,λ p hp=>by
      rcases B4.mp hp with z|z
      ·exact f3.2.2.2.2.2 p (k9 _ z)
      ·rcases C9.mp z with rfl|z
       ·exact iQ
       ·exact f3.2.2.2.2.2 p (j8 _ z)⟩
     have I4:sn X ((Dd,seqObj "list" #[] e1)::jp) σ H2 {s2 with heap:=h'}:=nM (t':=s2.toks) (ch:=[kS]) I3 (λ b o hb e=>(sb.2 b (λ z=>hb (by simp[z]))).trans e) λ b Pg=>by
      have:b=kS:=by simpa using Pg
      subst this;exact fk
     refine I4.fb λ p hp=>?_;rcases C9.mp hp with rfl|z
     ·exact⟨hh',pk.2.1,f3.2.1,f3.2.2.1,λ v z=>by cases z⟩
     ·exact I4.pin p (j8 _ z)
    ·have:=(c7.mp hx).1;rw[p4,j9];lia
   |next=>exact hq.elim
   |brk=>exact hq.elim
   |cont=>exact hq.elim
 ·have I5:sn X jp σ H {s with heap:=g,toks:=tk}:=I.kept (t':=tk) gk;have hn:∀b,g0.objs.size<=b->H b=none:=λ b hb=>I0.bu.fresh hb;refine⟨[],H,I5.fb λ p hp=>?_,.nil,h0,G9 _⟩;rcases C9.mp hp with rfl|z
  ·exact⟨gK,hn _ lK,f3.2.1,f3.2.2.1,λ v z=>by cases z⟩
  ·rcases C9.mp z with rfl|z
   ·exact⟨gD,hn _ lD,f1.2.1,f1.2.2.1,λ v z=>by cases z⟩
   ·exact I5.pin p (j8 _ z)
 ·rintro ks e s' ⟨kvs,H',I',rk,hR,_⟩ uS;have lk:=rk.length;obtain⟨qD,hQ⟩:=hk kvs H' hR ();have pk:=I'.pin _ (j8 _ (o7 ..));have pd:=I'.pin _ (j8 _ (List.Mem.tail _ (o7 ..)));have hu1:X.A.in1.in1.units+1<cLine:=by have:=room.units;lia
  refine Sz (κ:=tuples' true) (Ng key) uS () pk.1 pd.1 iQ (λ h2 C hC=>?_) (λ h2 i j C hi hj hC=>?_) λ out h' c ho hD WK=>⟨rfl,?_⟩
  ·obtain⟨fs,t1,t2,t3⟩:=xq I' rk qD;refine kat_kind (T:=.type "int") t1 () (λ v hv=>?_) rfl hC;obtain⟨i,t,rfl⟩:=t3 v hv;exact(show Looks _ s'.heap (pure (Value.type "int")) _ from .now)
  ·have gi:∀i,i<aq.length->∃k u,kvs[i]?=some k/\ks.getD i Value.none=u/\sK k u:=λ i hi=>by
    have Kf:i<kvs.length:=()
    obtain⟨u,e,r⟩:=rk.get (g9 Kf);exact⟨_,u,g9 Kf,by rw[c3,e];rfl,r⟩
   obtain⟨k1,u1,a1,a2,a3⟩:=gi i hi;obtain⟨k2,u2,b1,b2,b3⟩:=gi j hj;rw[a2,b2];exact SF I' hu1 (qD i k1 a1) (qD j k2 b1) a3 b3 hC
  ·obtain⟨p,p1,p2,p3⟩:=ho;subst p3;have I6:sn X jp σ H' s':=I'.fb λ p hp=>I'.pin p (j8 _ (.tail _ (.tail _ hp)));have I7:sn X jp σ H' {s' with heap:=h'}:=nM (t':=s'.toks) (ch:=[Dd,kS]) I6 (λ b o hb e=>WK b o (λ z=>hb (by simp[z])) (λ z=>hb (by simp[z])) e) λ b Pg=>by
    simp at Pg;rcases Pg with rfl|rfl
    ·exact⟨pd.2.1,f1.2⟩
    ·exact⟨pk.2.1,f3.2⟩
   have rv':ut (p.toList.map λ i=>ys.getD i V.bo) (p.toList.map λ i=>aq.getD i Value.none):=FI rv _;have ZQ:(p.toList.map λ i=>ys.getD i V.bo).length<=sizeLine:=by rw[B3,n5,p1.size,G8];lia
   refine⟨.ref (Dd),_,sn.rX (D:=Dd) (o:=.lst (p.toList.map λ i=>ys.getD i V.bo)) I7 pd.2.1 (show _/\∃(aq:List gV)(n:Nat),ut _ aq/\_ from⟨ZQ,_,c,rv',hD⟩) f1.2.1 (E6 I0.sz lD) f1.2.2.2.2.1 f1.2.2.2.2.2,rfl,hQ _ _ pd.2.1 ⟨p,by rw[hlen];exact p1,by rw[hlen];exact p2,rfl⟩⟩
end L2
namespace L5
section
variable {β γ:Type}[DecidableEq α][DecidableEq γ]
def mf(li:List (α×β))(p:α×β):List (α×β):=if p.1∈li.map (·.1)then li else li++[p]
def fW(ps:List (α×β)):List (α×β):=ps.foldl mf []
def jj(li:List γ)(r:γ):List γ:=if r∈li then li else li++[r]
def once(rs:List γ):List γ:=rs.foldl jj []
def Eg{p q:α×β}(h:q∈mf li p):q∈li\/q=p:=by
 unfold mf at h;split at h
 ·exact .inl h
 ·simpa using h
def xc:∀(ps li:List (α×β))(q:α×β),q∈ps.foldl mf li->q∈li\/q∈ps
 |[],_,_,h=>.inl h
 |p::ps,li,q,h=>by
  rcases xc ps _ q h with h|h
  ·rcases Eg h with h|h
   ·exact .inl h
   ·exact .inr (by simp[h])
  ·exact .inr (by simp[h])
def zU{ps:List (α×β)}{q:α×β}(h:q∈fW ps):q∈ps:=by
 rcases xc ps [] q h with h|h
 ·cases h
 ·exact h
def sY(F:γ->α)(inj:∀a b,F a=F b->a=b):∀(ps li:List (α×β))(rs ac:List γ),li.map (·.1)=ac.map F->ps.map (·.1)=rs.map F->(ps.foldl mf li).map (·.1)=(rs.foldl jj ac).map F
 |[],_,[],_,h,_=>h
 |[],_,_::_,_,_,e=>by simp at e
 |_::_,_,[],_,_,e=>by simp at e
 |p::ps,li,r::rs,ac,h,e=>by
  simp only[C8,List.cons.injEq]at e;refine sY F inj ps _ rs _ ?_ e.2;have iff:p.1∈li.map (·.1)↔r∈ac:=by
   rw[h,e.1,D8];constructor
   ·rintro⟨a,ha,hb⟩;rw[<- inj _ _ hb];exact ha
   ·exact λ ha=>⟨r,ha,rfl⟩
  unfold mf jj;by_cases m:r∈ac
  ·rw[K1 m,K1 (iff.mpr m)];exact h
  ·rw[K3 m,K3 (λ z=>m (iff.mp z))];simp[h,e.1]
def xN(F:γ->α)(inj:∀a b,F a=F b->a=b){ps:List (α×β)}(e:ps.map (·.1)=rs.map F):(fW ps).map (·.1)=(once rs).map F:=sY F inj ps [] rs [] rfl e
def sI:∀(rs li:List γ)(q:γ),q∈rs.foldl jj li->q∈li\/q∈rs
 |[],_,_,h=>.inl h
 |p::ps,li,q,h=>by
  rcases sI ps _ q h with h|h
  ·unfold jj at h;split at h
   ·exact .inl h
   ·rcases B4.mp h with h|h
    ·exact .inl h
    ·exact .inr (by simp at h;simp[h])
  ·exact .inr (by simp[h])
def w_{q:γ}(h:q∈once rs):q∈rs:=by
 rcases sI rs [] q h with h|h
 ·cases h
 ·exact h
def sM:∀(rs li:List γ),(rs.foldl jj li).length<=li.length+rs.length
 |[],_=>by simp
 |p::ps,li=>by
  have h:=sM ps (jj li p);have h2:(jj li p).length<=li.length+1:=by unfold jj;split<;>simp
  simp only[foldl_cons,y6];lia
def Io(rs:List γ):(once rs).length<=rs.length:=by have:=sM rs [];simpa[once]using this
end
def ka(x:Ent):List L2.Key×ap:=(x.1,x.2.1)
def SI(k:List L2.Key)(v:gV)(x:Ent):ka (putAt k v x)=ka x:=by unfold putAt ka;split<;>rfl
def JO(xs:List Ent)(k:List L2.Key):(atKey xs k).isSome=true↔k∈(xs.map ka).map (·.1):=by
 unfold atKey;rw[x5,find?_isSome];constructor
 ·rintro⟨x,hx,e⟩;refine D8.mpr ⟨ka x,D8.mpr ⟨x,hx,rfl⟩,io e⟩
 ·intro h;obtain⟨p,hp,e⟩:=D8.mp h;obtain⟨x,hx,rfl⟩:=D8.mp hp;exact⟨x,hx,B8 e⟩
def Eo(xs:List Ent)(p:Ent):(storedH xs p.1 p.2.1 p.2.2).map ka=mf (xs.map ka) (ka p):=by
 unfold storedH mf;by_cases h:(atKey xs p.1).isSome=true
 ·rw[K1 h,K1 (show(ka p).1∈_ from(JO xs p.1).mp h),D9];exact n9 λ x _=>SI _ _ x
 ·rw[K3 h,K3 (show ¬(ka p).1∈(xs.map ka).map (·.1)from λ z=>h ((JO xs p.1).mpr z)),B5];rfl
def Iy:∀(ps xs:List Ent),(putAll xs ps).map ka=(ps.map ka).foldl mf (xs.map ka)
 |[],_=>rfl
 |p::ps,xs=>by show(putAll (storedH xs p.1 p.2.1 p.2.2) ps).map ka=_;rw[Iy ps,Eo];rfl
def BX:∀(ps xs:List Ent),(putAll xs ps).length<=xs.length+ps.length
 |[],_=>by simp[putAll]
 |p::ps,xs=>by have h:=BX ps (storedH xs p.1 p.2.1 p.2.2);have h2:=nO xs p;have e:putAll xs (p::ps)=putAll (storedH xs p.1 p.2.1 p.2.2) ps:=rfl;rw[e,y6];lia
end L5
namespace L2
open PySem.Spec PyProof.Rows L5 PySem.W
def lh(K:K6)(H:Hp):List V->List (List Key×ap)->Prop
 |[],[]=>True
 |y::ys,p::ps=>(∃(t:ap)(v:V)(r:List Int),y=.ref t/\hG K H t [.ref p.2,v]/\p.1=r.map Sum.inl/\hG K H p.2 (r.map V.int))/\lh K H ys ps
 |_,_=>False
def lh.row:∀{ys:List V} {ps:List (List Key×ap)},lh K H ys ps->∀p∈ps,∃r:List Int,p.1=r.map Sum.inl/\hG K H p.2 (r.map V.int)
 |[],[],_,_,m=>by cases m
 |[],_::_,h,_,_=>h.elim
 |_::_,[],h,_,_=>h.elim
 |y::ys,q::ps,⟨⟨t,v,r,_,_,h1,h2⟩,h⟩,p,m=>by
  rcases C9.mp m with rfl|m
  ·exact⟨r,h1,h2⟩
  ·exact lh.row h p m
def qB:∀{aq:List gV} {r:List Int},ut (r.map V.int) aq->ItemsAre (cg prog w) (r.map Sum.inl) aq
 |aq,[],h=>by cases h;exact .nil
 |aq,i::r,h=>by
  cases h with
  |cons h1 h2=>obtain⟨t,rfl⟩:=h1;exact .cons (nV prog w i t) (qB h2)
def qk(I:sn X jp σ H s):∀{ys:List V} {kp:List (List Key×ap)} {aq:List gV},lh X.K H ys kp->ut ys aq->∃ps:List Ent,ps.map ka=kp/\aq.length=ps.length/\∀(j:Nat)(u:gV)(p:Ent),aq[j]?=some u->ps[j]?=some p->nI X.prog X.w s.heap u p
 |[],[],_,_,.nil=>⟨[],rfl,rfl,λ j u p h=>by simp at h⟩
 |[],_::_,_,h,_=>h.elim
 |_::_,[],_,h,_=>h.elim
 |y::ys,q::kp,_,h0,.cons (b:=u0) e0 er=>by
  obtain⟨⟨t,v,r,rfl,h1,h2,h3⟩,h⟩:=h0;obtain⟨ps,p1,p2,p3⟩:=qk I h er;cases(show u0=Value.ref t from e0);obtain⟨i2,r2,⟨o,ho,hc,n,hd⟩,_⟩:=I.tuple h1;obtain⟨u1,u2,rfl,q1,q2⟩:=vals2 r2;cases(show u1=Value.ref q.2 from q1);obtain⟨i3,r3,⟨o3,ho3,hc3,n3,WU⟩,_⟩:=I.tuple h3;refine⟨(q.1,q.2,u2)::ps,by simp[ka,p1],by simp[p2],λ j u p e1 e2=>?_⟩;cases j with
  |zero=>simp at e1 e2;subst e1 e2;refine⟨⟨t,rfl,o,ho,hc,n,hd⟩,o3,i3.toArray,n3,ho3,hc3,WU,?_⟩;rw[h2];exact qB r3
  |succ j=>exact p3 j u p (by simpa using e1) (by simpa using e2)
section
variable {te:TE}{p gj fp kp:Pos}{f:Str}
def ue(K:K6)(sp:Sp)(x:V)(H:Hp)(Q:VK):Prop:=∃(l:ap)(ys zs:List V)(kp:List (List Key×ap))(b:Bool)(R:List V->Hp->Prop)(key:Nat->Ky),x=.ref l/\eO K H l ys/\ys.length<64/\lh K H ys kp/\zs=(fW kp).map (λ p=>V.ref p.2)/\R [] H/\
 (∀kvs H v,R kvs H->zs[kvs.length]?=some v->sp [v] H (λ k H'=>R (kvs++[k]) H') E0)/\
 ∀kvs H,R kvs H->kvs.length=zs.length->(∀i k,kvs[i]?=some k->qZ K b H k (key i))/\∀p out,H p=none->Out (λ i j=>klt (key i) (key j)) zs V.bo out->Q (.ref p) (u8 H p (.lst out))
def rT:∀as:List ap,ut (as.map V.ref) (as.map Value.ref)
 |[]=>.nil
 |a::as=>.cons rfl (rT as)
def wK(d:gC X.prog X.w X.K X.mg X.base k f ps sp)(hr:cw (k+2) X.A)(hg:Gl X "sorted")(hm:X.mg "sorted"=none)(hgd:Gl X "dict")(hmd:X.mg "dict"=none)(hgf:Gl X f)(he:PE X e te)(ND:rj f:=by decide)(hs:starEach [.Call (.Name "dict" p2) [e] [] gj] X.env=[(false,eval (.Call (.Name "dict" p2) [e] [] gj) X.env)]:=by rfl)(xE:backTo pos (starEach [.Call (.Name "dict" p2) [e] [] gj] X.env)=(false,eval (.Call (.Name "dict" p2) [e] [] gj) X.env)::backTo pos (starEach [] X.env):=by rfl)(nk:(backTo pos (starEach [.Call (.Name "dict" p2) [e] [] gj] X.env)).any (·.1)=false:=by rfl)(ht:starEach [e] X.env=[(false,eval e X.env)]:=by rfl)(Z7:oq X e []:=by rfl)(Z6:(backTo gj (starEach [] X.env)).any (·.1)=false:=by rfl):PE X (.Call (.Name "sorted" p) [.Call (.Name "dict" p2) [e] [] gj] [⟨some "key",.Name f fp,kp⟩] pos) (λ σ H Q=>te σ H λ x H1=>ue X.K sp x H1 Q):=by
 intro jp s σ H Q I h;obtain⟨q,fd,G,hmf,kq,bd⟩:=d.ex;refine q9 (jf I hg hm PyProof.Rows.boot_sorted ?_ (by decide) (by decide));refine PyProof.Rows.callWith_kw ?_ xE nk;rw[hs];show wpAny _ _ (spliced ((false,eval (.Call (.Name "dict" p2) [e] [] gj) X.env)::[])) _ _ s;refine Calls.spliced_cons (q9 (jf I hgd hmd PyProof.Rows.boot_dict ?_ (by decide) (by decide)));refine b7 (cZ ((ig he kH (by show _=_;rw[ht];rfl)) gj jp s σ H (λ vs H1=>match vs with|[x]=>ue X.K sp x H1 Q|_=>False) I h) λ us s1 ⟨vs,H1,I1,r1,q1⟩=>?_) Z7 Z6;cases vs with
 |nil=>exact q1.elim
 |cons x vs=>
  cases vs with
  |cons _ _=>exact q1.elim
  |nil=>
  have q1:ue X.K sp x H1 Q:=q1;obtain⟨u,rfl,ru⟩:=vals1 r1;obtain⟨l,ys,zs,Kc,b,R,key,rfl,hl,xK,hp,rfl,h0,hc,hk⟩:=q1;cases(show u=Value.ref l from ru);obtain⟨aq,rv,pl,hz⟩:=I1.list hl;have hlen:=rv.length;obtain⟨es,e1,e2,e3⟩:=qk I1 hp rv;have hu:=hr.un;have ol:∃o,s1.heap.get? l=some o/\o.dict=none:=by obtain⟨o,n,a1,a2,a3,a4⟩:=pl;exact⟨o,a1,a3⟩
  have two:(s1.heap.objs.size==sysModules)=false:=by
   obtain⟨o,n,a1,a2,a3,a4⟩:=pl;obtain⟨m,⟨o',b1,b2,b3,b4,_⟩,_⟩:=I1.loc;have ne:l≠X.env.locals:=λ z=>by rw[z,b3]at a1;cases a1;rw[a4]at b4;cases b4
   have l1:l<s1.heap.objs.size:=D7 a1;have l2:X.env.locals<s1.heap.objs.size:=D7 b3;refine beq_eq_false_iff_ne.mpr λ z=>?_;have z:s1.heap.objs.size=1:=z;have:∀a b:Nat,a≠b->a<1->b<1->False:=λ a b _ _ _=>by lia
   exact this l X.env.locals ne (z▸l1) (z▸l2)
  refine MP () hr.hd pl.isList ol e2 () e3 λ g tk gk gd gz=>?_;have I2:sn X jp σ H1 {s1 with heap:=g,toks:=tk}:=I1.kept (t':=tk) gk;refine Calls.spliced_nil ?_;show wpAny _ _ (evalAll ((do let v <- eval (.Name f fp) X.env;standAt pos;pure v)::[])) _ _ _;refine wpAny_evalAll_cons (J1 (uI I2 hgf hmf (J1 (wpAny_standAt (J3 (wpAny_evalAll_nil ?_)))) ND));obtain⟨o,Xh,ep,o1,o2,o3,o4,o5,o6⟩:=gd;have ek:(putAll [] es).map ka=fW Kc:=by rw[Iy,e1];rfl
  have ev:Xh.toList.map (·.key)=((fW Kc).map (·.2)).map Value.ref:=by rw[o4,<- ek,D9,D9,D9];rfl
  have hsz:Xh.size<64:=by
   have a:=BX es [];have b:Xh.toList.length=(putAll [] es).length:=by rw[o4,B3]
   rw[n5]at b;simp at a;lia
  have ez:(fW Kc).map (λ p=>V.ref p.2)=((fW Kc).map (·.2)).map V.ref:=by rw[D9];rfl
  have lz:((fW Kc).map (λ p=>V.ref p.2)).length<64:=by
   have b:(fW Kc).length=Xh.size:=by have:=J8 List.length ev;simpa using this.symm
   rw[B3,b];exact hsz
  have go:Goes X q s1.heap.objs.size (((fW Kc).map (·.2)).map Value.ref) {s1 with heap:=g,toks:=tk}:=by intro Q' hQ;refine KU (s:={s1 with heap:=g,toks:=tk}) two hr.hd (⟨o,o1,o2,o3⟩:Raw g _ Xh ep) hsz λ Dd kS g0 g' Oy Xe a1 a2 a3 a4 a5 a6 a7=>?_;rw[ev];exact hQ Dd kS g0 g' Oy Xe a1 a2 a3 a4 a5 a6 a7
  exact AE G bd hr I2 (by rw[ez];exact rT _) go lz R key h0 hc hk
end
end L2
namespace L3
open PySem.Spec L2 L5
def DI(r:List Int):D:=.tup (r.map D.int)
def pairD(r:List Int):D:=.tup [DI r,.bl true]
def uO:∀a b:List Int,(a.map Sum.inl:List Key)=b.map Sum.inl->a=b
 |[],[],_=>rfl
 |[],_::_,h=>by cases h
 |_::_,[],h=>by cases h
 |x::a,y::b,h=>by simp only[C8,List.cons.injEq,Sum.inl.injEq]at h;rw[h.1,uO a b h.2]
def wN:∀{kt:List (List Int)} {ys:List V},aA K H (kt.map pairD) ys->∃kp,lh K H ys kp/\kp.map (·.1)=kt.map λ r=>(r.map Sum.inl:List Key)
 |[],ys,h=>by cases(ao.mp h);exact⟨[],trivial,rfl⟩
 |r::kt,ys,h=>by obtain⟨y,ys,rfl,h1,h2⟩:=af.mp h;obtain⟨kp,a1,a2⟩:=wN h2;obtain⟨t,xs,rfl,hq,hd⟩:=aR.mp h1;obtain⟨x1,r1,rfl,b1,hd⟩:=af.mp hd;obtain⟨x2,r2,rfl,b2,hd⟩:=af.mp hd;cases(ao.mp hd);obtain⟨m,zs,rfl,sT,hd2⟩:=aR.mp b1;rw[dC hd2]at sT;exact⟨((r.map Sum.inl:List Key),m)::kp,⟨⟨t,x2,r,rfl,hq,rfl,sT⟩,a1⟩,by simp[a2]⟩
def oh:∀{fs:List (List Key×ap)} {rs:List (List Int)},(∀p∈fs,∃r:List Int,p.1=r.map Sum.inl/\hG K H p.2 (r.map V.int))->fs.map (·.1)=rs.map (λ r=>(r.map Sum.inl:List Key))->aA K H (rs.map DI) (fs.map λ p=>V.ref p.2)
 |[],[],_,_=>by simp[ao]
 |[],_::_,_,h=>by cases h
 |_::_,[],_,h=>by cases h
 |p::fs,r::rs,h,e=>by simp only[C8,List.cons.injEq]at e;obtain⟨r',e1,e2⟩:=h p (by simp);have er:r'=r:=uO _ _ (e1.symm.trans e.1);subst er;rw[C8,C8,af];refine⟨_,_,rfl,aR.mpr ⟨p.2,_,rfl,e2,jR r'⟩,oh (λ q m=>h q (by simp[m])) e.2⟩
def vc(sp:dW)(d:D)(M:Mem)(Q:bF):Prop:=∃(l:ap)(kt:List (List Int))(b:Bool)(R:List D->Mem->Prop)(key:Nat->Ky),d=.ref l/\M l=some (.lst (kt.map pairD))/\kt.length<64/\R [] M/\
 (∀mK M e,R mK M->((once kt).map DI)[mK.length]?=some e->sp [e] M (λ k M'=>R (mK++[k]) M'))/\
 ∀mK M,R mK M->mK.length=(once kt).length->(∀i k,mK[i]?=some k->Oo b M k (key i))/\∀p out,M p=none->Out (λ i j=>klt (key i) (key j)) ((once kt).map DI) D.bo out->Q (.ref p) (ag M p (.lst out))
def Bk(sp:dW)(te:bT):bT:=λ δ M Q=>te δ M λ d M1=>vc sp d M1 Q
section
variable {p gj fp kp:Pos}{f:Str}{sp:dW}
def zi(d:bY X.prog X.w X.K X.mg X.base k f ps sp)(hr:cw (k+2) X.A)(hg:Gl X "sorted")(hm:X.mg "sorted"=none)(hgd:Gl X "dict")(hmd:X.mg "dict"=none)(hgf:Gl X f)(he:WE X e te)(ND:rj f:=by decide)(hs:starEach [.Call (.Name "dict" p2) [e] [] gj] X.env=[(false,eval (.Call (.Name "dict" p2) [e] [] gj) X.env)]:=by rfl)(xE:backTo pos (starEach [.Call (.Name "dict" p2) [e] [] gj] X.env)=(false,eval (.Call (.Name "dict" p2) [e] [] gj) X.env)::backTo pos (starEach [] X.env):=by rfl)(nk:(backTo pos (starEach [.Call (.Name "dict" p2) [e] [] gj] X.env)).any (·.1)=false:=by rfl)(ht:starEach [e] X.env=[(false,eval e X.env)]:=by rfl)(Z7:oq X e []:=by rfl)(Z6:(backTo gj (starEach [] X.env)).any (·.1)=false:=by rfl):WE X (.Call (.Name "sorted" p) [.Call (.Name "dict" p2) [e] [] gj] [⟨some "key",.Name f fp,kp⟩] pos) (Bk sp te):=by
 replace he:=he.h;refine⟨?_⟩;refine bH (wK d hr hg hm hgd hmd hgf he ND hs xE nk ht Z7 Z6) ?_;rintro σ H Q ⟨δ,M,Q2,hs,hm,q,k⟩;refine⟨δ,M,_,hs,hm,q,λ x H1 d M1 hd bM t1 q1=>?_⟩;obtain⟨l,kt,b,R,key,rfl,hM,xK,h0,hc,hk⟩:=q1;cases(ay.mp hd);obtain⟨ys,hy,Yn⟩:=bM l _ hM;have hlen:=Yn.length;rw[B3]at hlen;obtain⟨Kc,p1,p2⟩:=wN Yn;have hd2:aA X.K H1 ((once kt).map DI) ((fW Kc).map λ p=>V.ref p.2):=oh (λ p m=>p1.row p (zU m)) (xN _ uO p2);have hlz:=hd2.length;rw[B3 (f:=DI)]at hlz;refine⟨l,ys,_,Kc,b,λ kvs H'=>∃mK M',aA X.K H' mK kvs/\ul X.K H' M'/\ar H1 H'/\R mK M',key,rfl,eO.of hy,(),p1,rfl,⟨[],M1,by rw[ao],bM,ar.refl _,h0⟩,?_,?_⟩
 ·rintro kvs H2 v ⟨mK,M2,h1,h2,t2,hR⟩ hv;have hl2:=h1.length;obtain⟨e,e1,e2⟩:=(aA.mono t2 _ hd2).uX hv;refine⟨[e],M2,_,aA.one e2,h2,hc mK M2 e hR (by rw[<- hl2];exact e1),λ w H3 d3 M3 WU NA t3 q3=>?_⟩;exact⟨mK++[d3],M3,(aA.mono t3 mK h1).append (aA.one WU),NA,t2.trans t3,q3⟩
 ·rintro kvs H2 ⟨mK,M2,h1,h2,t2,hR⟩ hl;have hl2:=h1.length;obtain⟨a1,a2⟩:=hk mK M2 hR ();refine⟨λ i w hw=>?_,λ p out hp ho=>?_⟩
  ·obtain⟨d3,e3,WU⟩:=h1.uX hw;exact(a1 i d3 e3).v9 WU h2
  ·obtain⟨π,p1,p2,rfl⟩:=ho;rw[hlz]at p1 p2;refine k _ _ (.ref p) _ (ay.mpr rfl) (dN hp (tm (aA.mono t2 _ hd2) π.toList) h2) (t1.trans (t2.trans (ar.laid hp))) (a2 p _ (h2.free hp) ⟨π,by rw[B3];exact p1,by rw[B3];exact p2,rfl⟩)
end
def Gu{sp:dW}{Q:bF}(h:te δ M λ d M1=>vc sp d M1 Q):Bk sp te δ M Q:=h
end L3
namespace L4
open PySem.Spec L2 L3 L5
section
variable {p gj fp kp:Pos}{f:Str}{sp:dW}
end
end L4
namespace L5
open PySem.AutoSeq1 (wpAny_loadPart')
abbrev Yz(T:String)(h:Heap)(l:ap):Heap:=h.push {cls:=.type T,data:=.fields #[.ref l,.int 0 0]}
abbrev eh2(T:String)(h:Heap)(l:ap):Heap:=(Yz T h l).push {cls:=.type "enumerate",data:=.fields #[.none,.bool false,.ref h.objs.size,rawInt 0,.none,.none]}
set_option tactic.hygienic true in
def An(k:NK T S)(l:ap)(vs:Array gV):Meets (Builtin.«enumerate.__new__» ⟨[.type "enumerate",.ref l],[]⟩) (λ _ R s=>S s.heap l vs/\R (.ok (.ret (.ref (Yz T s.heap l).objs.size))) {s with heap:=eh2 T s.heap l}):=
 .of_wp λ prog w A R s h=>by
  obtain⟨hp,g,d,tk,os⟩:=s;obtain⟨a1,h⟩:=h;have se:=sub_enumerate;have aT:S (Shared.heap ⟨hp,g,d,tk,os⟩) l vs:=a1
  wp_walk using k.start aT
  refine wpAny_stack_any λ st=>J3 ?_;split
  ·rename_i c _ _ _ _ _;cases(c==Value.type "enumerate")
   all_goals
    wp_walk using k.start aT
    exact⟨_,rfl,h⟩
  ·wp_walk using k.start aT
   exact⟨_,rfl,h⟩
def MN(kk:NK T S){l:ap}{vs:Array gV}(a1:S s.heap l vs)(k:∀h',IsEnum h' (s.heap.objs.size+1) s.heap.objs.size 0 .none->eG T h' s.heap.objs.size l 0->(∀f o,s.heap.get? f=some o->h'.get? f=some o)->Q (.ref (s.heap.objs.size+1)) {s with heap:=h'}):wpAny (model prog w) A (call (.type "enumerate") [.ref l]) Q E s:=by refine callType_new F.called_enumerate (by decide) (F.typeCall_enumerate_1 _) (F.newCall_enumerate_1 _) (λ ob=>F.args_object_init_2 ob _) F.entry_enumerate_new (An kk l vs) ⟨a1,?_⟩;have e1:(Yz T s.heap l).objs.size=s.heap.objs.size+1:=C0 ..;have g2:(eh2 T s.heap l).get? (Yz T s.heap l).objs.size=some _:=n6 _ rfl;have g1:(eh2 T s.heap l).get? s.heap.objs.size=some _:=j5 _ (n6 s.heap rfl);rw[e1]at g2;show _/\_;rw[e1];exact⟨⟨_,g2,rfl⟩,k _ g2 ⟨_,g1,rfl,rfl⟩ λ f o x=>j5 _ (j5 _ x)⟩
def HY(k:NK T S)(hA:A.handled=none)(j l:ap)(ne:l≠j)(vs:Array gV):Draws prog w A j [j,l] vs.size (λ i v=>vs[i]?=some v) (λ i h=>eG T h j l i/\S h l vs) where
 live:=λ _ _ st=>let⟨⟨o,ho,_⟩,_⟩:=st;⟨o,ho⟩
 frame:=λ _ _ _ st q=>let⟨⟨o,ho,r⟩,su⟩:=st;⟨⟨o,q j (by simp) o ho,r⟩,k.keep su λ o e=>q l (by simp) o e⟩
 item:=λ i s Q E hi st kk=>k.item st.1 st.2 (c5 hi) λ h' a b=>kk _ h' s.toks (c5 hi) ⟨a,k.keep st.2 λ o e=>b.extBut _ _ ne e⟩ b
 done:=λ s Q E st kk=>k.stop hA st.1 st.2 (j0 (G7 _)) kk
end L5
namespace L2
open PySem.Spec PyProof.Rows L5
def YL(K:K6)(b:Bool)(l:ap):It:=
 ⟨λ i H=>∃xs x,Sq b K H l xs/\xs[i]?=some x,
  λ i H v H'=>∃(p:ap)(x:V),H p=none/\v=.ref p/\H'=u8 H p (.tup [.int i,x])/\∀xs,Sq b K H l xs->xs[i]?=some x,
  λ i H=>∃xs,Sq b K H l xs/\xs.length<=i⟩
def tnE(b:Bool)(e j l:ap)(i:Nat)(h:Heap):Prop:=(∃old,IsEnum h e j i old)/\eG (XW b) h j l i
def DC{e j:ap}(b:Bool)(B:e≠j)(l:ap):Turn P w K (.Tuple es k0 pos) (YL K b l) [e,j] e (tnE b e j l) where
 mem:=by simp
 obj:=λ i h st c hc=>by
  obtain⟨⟨old,he⟩,⟨oa,ha,_,da⟩⟩:=st;rcases C9.mp hc with rfl|hc
  ·exact⟨_,he,λ v z=>by cases z⟩
  rcases C9.mp hc with rfl|hc
  ·exact⟨_,ha,λ v z=>by rw[da]at z;cases z⟩
  ·cases hc
 keep:=λ i h h' st q=>by obtain⟨⟨old,he⟩,⟨oa,ha,r⟩⟩:=st;exact⟨⟨old,q e (by simp) _ he⟩,⟨oa,q j (by simp) _ ha,r⟩⟩
 item:=by
  intro X hP hw hK hc i jp s σ H E I hf st hg;subst hP hw hK;obtain⟨xs,x,hl,hx⟩:=hg;obtain⟨⟨old,he⟩,hj⟩:=st;obtain⟨SU,r1,p1⟩:=fM I hl;obtain⟨u1,e1,q1⟩:=r1.get hx;have lj:l≠j:=iV I (hf j (by simp)) hl;have le:l≠e:=iV I (hf e (by simp)) hl;have hi:i<SU.toArray.size:=by have:=(c7.mp e1).1;simpa using this
  refine wpAny_pyNext_enum_itemD (HY (lX b) (A:=X.A.in1) (I.ok.hd hc) j l lj SU.toArray) he ⟨hj,p1⟩ hi B (by simp;exact⟨B,J9 le⟩) λ y g tk g1 g2 g3 g4 g5 g6=>?_;have ey:y=u1:=by rw[getElem?_toArray,e1]at g1;cases g1;rfl
  subst ey;have hn:H s.heap.objs.size=none:=I.bu.fresh (G7 _);have I1:sn X jp σ H {s with heap:=g,toks:=tk+1}:=nM (t':=tk+1) I (ch:=[e,j]) (λ c o hc e=>g6 c o (λ z=>hc (by simp[z])) (λ z=>hc (by simp[z])) e) hf;refine⟨_,rfl,wpAny_letOwnedTupleGo_enum (s:={s with heap:=g,toks:=tk+1}) g2 λ g' e' sb=>?_⟩;have I2:sn X jp σ H {s with heap:=g',toks:=tk+1}:=nM (s:={s with heap:=g,toks:=tk+1}) (t':=tk+1) (ch:=[e]) I1 (λ c o hc q=>sb.extBut _ _ (λ z=>hc (by simp[z])) q) (λ c hc=>hf c (by simp at hc ⊢;exact .inl hc));have fo:=I.mr (H':=H) (G7 s.heap.objs.size) hn;have lte:e<s.heap.objs.size:=D7 he;have ltj:j<s.heap.objs.size:=let⟨_,q,_⟩:=hj;D7 q
  have t5:=sb.extBut _ _ (G4 lte) g4;have I3:sn X jp σ (u8 H s.heap.objs.size (.tup [.int i,x])) {s with heap:=g',toks:=tk+1}:=sn.rX I2 hn ⟨show 2<=sizeLine by decide,[.int i tk,y],.cons ⟨tk,rfl⟩ (.cons q1 .nil),⟨_,t5,rfl,_,rfl⟩⟩ fo.2.1 (E6 I.sz (G7 _)) fo.2.2.2.2.1 fo.2.2.2.2.2;refine⟨.ref s.heap.objs.size,_,I3,rfl,⟨s.heap.objs.size,x,hn,rfl,rfl,λ Ks h'=>by rw[zq I h' hl];exact hx⟩,⟨⟨_,by simpa using e'⟩,?_⟩,λ c hc=>?_⟩
  ·obtain⟨o,ho,r⟩:=g3.1;exact⟨o,sb.extBut _ _ (J9 B) ho,r⟩
  ·have eB:c<s.heap.objs.size:=by
    simp at hc;rcases hc with rfl|rfl
    ·exact lte
    ·exact ltj
   rw[aK (D6 eB)];exact(hf c hc).1
 done:=by intro X hP hw hK hc i jp s σ H E I hf st hg;subst hP hw hK;obtain⟨xs,hl,hx⟩:=hg;obtain⟨⟨old,he⟩,hj⟩:=st;obtain⟨SU,r1,p1⟩:=fM I hl;have l1:=r1.length;have lj:l≠j:=iV I (hf j (by simp)) hl;have hT:s.TypeIs (.ref e) "enumerate":=⟨_,he,rfl⟩;unfold pyNext;refine J1 (wpAny_attempt (i7 (name:=cS "__next__") hT F.slot_enumerate_next (y9 F.slot_enumerate_next hT F.entry_enumerate_next ?_ (F.args_enumerate_next_1 _))));refine J1 (m:=field (.ref e) 2) (H9 he rfl (x:=.ref j) rfl ?_);refine J1 ((lX b).stop (A:=X.A.in1) (I.ok.hd hc) hj p1 (j0 (by simp;lia)) λ g c g1 g2=>?_);obtain⟨o,ho,Je⟩:=g2;refine J1 (wpAny_isInstance (T:="StopIteration") (b:=true) ⟨o,ho,Je⟩ isSubtype_stop (J3 ⟨rfl,?_⟩));exact nM (t':=s.toks) (ch:=[j]) I (λ b o hb q=>g1 b o (λ z=>hb (by simp[z])) q) λ b hb=>hf b (by simp at hb ⊢;exact .inr hb)
 self:=λ _ _ _ _ _ st h=>wpAny_pyIter_enum st.1.choose_spec h
section
variable {k0:_}{a:Expr}{ta:TA}{p:Pos}
def Wh(K:K6)(ta:TA):TI:=λ σ H R=>ta σ H λ vs H1=>∃(b:Bool)(l:ap),vs=[.ref l]/\(∃xs,Sq b K H1 l xs)/\R (YL K b l) H1
def L_(hg:Gl X "enumerate")(hm:X.mg "enumerate"=none)(ha:PA X [a] ta)(hs:starEach [a] X.env=[(false,eval a X.env)]:=by rfl)(nk:starEach [] X.env=[]:=by rfl):PI X (.Tuple es k0 tL) (.Call (.Name "enumerate" p) [a] [] pos) (Wh X.K ta):=by
 intro jp s σ H R I h;refine Call_ (jf I hg hm boot_enumerate (b7 (cZ (ha pos jp s σ H _ I h) λ us s1 ⟨vs,H1,I1,r1,q1⟩=>?_) (by show _=_;rw[hs,nk]) (by show _=_;rw[nk];rfl)));obtain⟨b,l,e,⟨xs,hl⟩,q⟩:=q1;subst e;obtain⟨u1,rfl,r⟩:=vals1 r1;cases(show u1=Value.ref l from r);obtain⟨SU,r1,p1⟩:=fM I1 hl;refine MN (lX b) p1 λ g g1 g2 g7=>wpAny_pyIter_enum (s:={s1 with heap:=g}) g1 ?_;have I2:sn X jp σ H1 {s1 with heap:=g}:=I1.kept (t':=s1.toks) g7;have fr:∀c,s1.heap.objs.size<=c->iP X jp H1 c:=λ c hc=>I1.mr hc (I1.bu.fresh hc);have ne:s1.heap.objs.size+1≠s1.heap.objs.size:=()
 refine⟨_,[s1.heap.objs.size+1,s1.heap.objs.size],_,_,H1,rfl,I2,DC b ne l,⟨⟨_,g1⟩,g2⟩,λ c hc=>fr c ?_,q⟩;simp at hc;rcases hc with rfl|rfl<;>lia
end
end L2
namespace L3
open PySem.Spec L2 L5
def dZ(ds:List D):List D:=(List.range ds.length).map λ(i:Nat)=>D.tup [.int (i:Int),ds.getD i D.bo]
def bJ(ds:List D):(dZ ds).length=ds.length:=by simp[dZ]
def kindB:D->Bool
 | .tup _=>true
 |_=>false
def ib{x:V}(e:cR M d=some ds)(h:sB K H d x)(hm:ul K H M):∃p xs,x=.ref p/\Sq (kindB d) K H p xs/\aA K H ds xs:=by
 cases d with
 |tup es=>cases(show some es=some ds from e);obtain⟨p,xs,rfl,h1,h2⟩:=aR.mp h;exact⟨p,xs,rfl,h1,h2⟩
 |fl es=>cases(show some es=some ds from e);obtain⟨p,xs,rfl,h1,h2⟩:=nz.mp h;exact⟨p,xs,rfl,h1.sq,h2⟩
 |ref a=>cases(ay.mp h);obtain⟨xs,h1,h2⟩:=fE (show bD M a=some ds from e) hm;exact⟨a,xs,rfl,eO.of h1,h2⟩
 |_=>cases e
def gy(x:D)(M:Mem):Option (List D):=(cR M x).map dZ
def Er{x:D}(hx:sB K H1 x (.ref a)):rN K H1 (YL K (kindB x) a) (.fn (gy x)):=λ H M fs t hm e=>by
 have e:(cR M x).map dZ=some fs:=e;cases e1:cR M x with
 |none=>rw[e1]at e;cases e
 |some ds=>rw[e1]at e;cases e;obtain⟨p,xs,e3,q1,x1⟩:=ib e1 (sB.mono t x hx) hm;cases e3;have l1:=x1.length;rw[bJ];refine⟨λ i hi=>⟨xs,xs[i]'(),q1,by simp⟩,λ i hi=>⟨xs,q1,()⟩,λ i v H' hi y=>?_⟩;obtain⟨p,v,hp,rfl,rfl,hx⟩:=y;obtain⟨d,d1,d2⟩:=x1.uX (hx xs q1);refine⟨ar.laid hp,hm.laid hp,.tup [.int i,d],?_,h_ hp (af.mpr ⟨.int i,[v],rfl,au.mpr rfl,aA.one d2⟩)⟩;obtain⟨z1,w1⟩:=c7.mp d1;simp[dZ,z1,w1]
def O_(ta:e_):oG:=λ δ M R=>ta δ M λ ds M1=>match ds with
 |[.tup xs]=>R (.fix (dZ xs)) M1
 |[x]=>(∃zs,cR M1 x=some zs)/\R (.fn (gy x)) M1
 |_=>False
section
variable {k0:_}{a:Expr}{ta:e_}{p:Pos}
def eJ(hm:X.mg "enumerate"=none)(ha:WA X [a] ta)(hg:Gl X "enumerate":=by rfl)(hs:starEach [a] X.env=[(false,eval a X.env)]:=by rfl)(nk:starEach [] X.env=[]:=by rfl):WI X (.Tuple es k0 tL) (.Call (.Name "enumerate" p) [a] [] pos) (O_ ta):=⟨have ha:=ha.h;BD (L_ hg hm ha hs nk) λ σ H R ⟨δ,M,R2,hs,hm,q,k⟩=>by
 refine⟨δ,M,_,hs,hm,q,λ xs H1 ds M1 hd bM t1 q1=>?_⟩;have go:∀x,ds=[x]->(∃zs,cR M1 x=some zs)->(∀J,rN X.K H1 J (.fn (gy x))->R J H1)->∃(b:Bool)(l:ap),xs=[.ref l]/\(∃xs,Sq b X.K H1 l xs)/\R (YL X.K b l) H1:=by rintro x rfl ⟨zs,hz⟩ hR;obtain⟨vx,r,rfl,hx,hr⟩:=af.mp hd;cases(ao.mp hr);obtain⟨p,vs,rfl,q1,_⟩:=ib hz hx bM;exact⟨_,p,rfl,⟨vs,q1⟩,hR _ (Er hx)⟩
 match ds,q1 with
 |[x],q1=>
  by_cases ht:∃xs,x=.tup xs
  ·obtain⟨xs,rfl⟩:=ht;exact go _ rfl ⟨_,rfl⟩ λ J hJ=>k J H1 (.fix (dZ xs)) M1 (λ H M ds t hm e=>hJ H M ds t hm e) bM t1 q1
  ·have q2:(∃zs,cR M1 x=some zs)/\R2 (.fn (gy x)) M1:=by cases x<;>first|exact q1|exact be ⟨_,rfl⟩ ht
   exact go x rfl q2.1 λ J hJ=>k J H1 _ M1 hJ bM t1 q2.2
 |[],q1=>exact q1.elim
 |x::y::r,q1=>cases x<;>exact q1.elim⟩
end
end L3
namespace L4
open PySem.Spec L2 L3 L5
section
variable {k0:_}{a:Expr}{ta:e_}{p:Pos}
end
end L4
namespace L2
open PySem.Spec PyProof.Rows
def Mm:gM X (binaryOp .Add) (λ x y H Q=>∃a b ys,x=.ref a/\y=.ref b/\hG X.K H a []/\hG X.K H b ys/\Q (.ref b) H):=by intro jp s σ H x y v u Q I rx ry h;obtain⟨a,b,ys,rfl,rfl,ha,hb,q⟩:=h;cases rx;cases ry;obtain⟨i1,r1,p1,_⟩:=I.tuple ha;obtain⟨i2,r2,p2,_⟩:=I.tuple hb;cases r1;obtain⟨⟨c1,d1,a1,l1⟩,o1,k1,n1,e1⟩:=id p1;obtain⟨⟨c2,d2,a2,l2⟩,o2,k2,n2,e2⟩:=id p2;cases(show c1=.type "tuple" from k1);cases(show a1=_ from e1);cases(show c2=.type "tuple" from k2);cases(show a2=_ from e2);exact concat_meets ⟨_,o1,rfl⟩ ⟨_,o2,rfl⟩ noFill_tuple_add seq_tuple_add PySem.F.slot_tuple_add PySem.F.entry_tuple_add (PySem.F.args_tuple_add_2 _ _) (tuple_addW0 a b #[] i2.toArray n1 n2 d1 d2 l1 l2 rfl) ⟨o1,o2,⟨.ref b,H,I,rfl,q⟩⟩
end L2
namespace L3
open PySem.Spec L2
def yj:iR:=λ x y M Q=>N9 x y M Q\/∃ys,x=.tup []/\y=.tup ys/\Q (.tup ys) M
def bA:iC X (binaryOp .Add) yj:=by
 obtain⟨r,h1,h2⟩:=(VZ:iC X (binaryOp .Add) N9);refine⟨_,h1.or Mm,λ x y d e H M Q2 Q hd he hm q k=>?_⟩;rcases q with q|⟨ys,rfl,rfl,q⟩
 ·exact .inl (h2 x y d e H M Q2 Q hd he hm q k)
 ·obtain⟨p,vs,rfl,hp,hx⟩:=aR.mp hd;obtain⟨p2,ws,rfl,eZ,hy⟩:=aR.mp he;cases(ao.mp hx);exact .inr ⟨p,p2,ws,rfl,rfl,hp,eZ,k _ H _ M (aR.mpr ⟨p2,ws,rfl,eZ,hy⟩) hm (ar.refl H) q⟩
section
variable {Q:bF}
def wz{i j:Int}(q:Q (.int (i+j)) M):yj (.int i) (.int j) M Q:=.inl q
def wx{i j:Str}(h:i.length+j.length<=sizeLine)(q:Q (.str (i++j)) M):yj (.str i) (.str j) M Q:=.inl ⟨h,q⟩
def wy{b:ap}{xs ys:List D}(ha:M a=some (.lst xs))(hb:M b=some (.lst ys))(h:xs.length+ys.length<=sizeLine)(q:∀p,M p=none->Q (.ref p) (ag M p (.lst (xs++ys)))):yj (.ref a) (.ref b) M Q:=.inl (LM ha hb h q)
def wu{xs ys:List D}(h:xs.length+ys.length<=sizeLine)(q:Q (.tup (xs++ys)) M):yj (.tup xs) (.tup ys) M Q:=by
 cases xs with
 |nil=>exact .inr ⟨ys,rfl,rfl,q⟩
 |cons x xs=>exact .inl ⟨by simp,h,q⟩
end
section
variable {g:jA}{δc:cY}
def Zc(h:n<=10000):n<=sizeLine:=E6 h (by decide)
def kY{β:Type}{xs:List α}(Ao:β->D)(I:List β->Mem->Prop)(hn:xs.length<=10000)(h0:I [] M1)(hs:∀(i:Nat)(x:α)(ys:List β)(M:Mem)(N:D->Mem->Prop),xs[i]?=some x->ys.length=i->I ys M->(∀b M',I (ys++[b]) M'->N (Ao b) M')->g (enc x) δc M λ δ2 M2=>te δ2 M2 N)(hd:∀ys M,ys.length=xs.length->I ys M->Qe (ys.map Ao) M):∃(B:Nat)(W:Nat->List D->Mem->Prop),W 0 [] M1/\∀i li M,W i li M->i<=B/\li.length<=sizeLine/\match pc (.fix (xs.map enc)) M with
   |none=>False
   |some ds=>match ds[i]? with
    |none=>i=ds.length/\Qe li M
    |some d=>g d δc M λ δ2 M2=>zt δ2 M2 λ b M3=>if b=true then te δ2 M3 λ y M4=>W (i+1) (li++[y]) M4 else W (i+1) li M3:=by
 refine nE (λ i li M=>∃ys:List β,li=ys.map Ao/\ys.length=i/\I ys M) ⟨[],rfl,rfl,h0⟩ (λ i li M hi h=>?_) (λ i d li M hd h=>?_) (λ li M h=>?_)
 ·obtain⟨ys,rfl,h1,_⟩:=h;rw[B3]at hi ⊢;exact Zc ()
 ·obtain⟨ys,rfl,h1,h2⟩:=h;rw[u6]at hd;cases e:xs[i]? with
  |none=>rw[e]at hd;cases hd
  |some x=>rw[e]at hd;cases hd;refine hs i x ys M _ e h1 h2 λ b M' hb=>⟨ys++[b],by rw[B5];rfl,by simp[h1],hb⟩
 ·obtain⟨ys,rfl,h1,h2⟩:=h;rw[B3]at h1;exact hd ys M h1 h2
def mE{β:Type}{xs:List α}(enc:α->D)(Ao:β->D)(I:List β->Mem->Prop)(hn:xs.length<=10000)(h0:I [] M1)(hl:∀ys M,I ys M->M a=some (.lst (xs.map enc)))(hs:∀(i:Nat)(x:α)(ys:List β)(M:Mem)(N:D->Mem->Prop),xs[i]?=some x->ys.length=i->I ys M->(∀b M',I (ys++[b]) M'->N (Ao b) M')->g (enc x) δc M λ δ2 M2=>te δ2 M2 N)(hd:∀ys M,ys.length=xs.length->I ys M->Qe (ys.map Ao) M):∃(B:Nat)(W:Nat->List D->Mem->Prop),W 0 [] M1/\∀i li M,W i li M->i<=B/\li.length<=sizeLine/\match pc (.at a) M with
   |none=>False
   |some ds=>match ds[i]? with
    |none=>i=ds.length/\Qe li M
    |some d=>g d δc M λ δ2 M2=>zt δ2 M2 λ b M3=>if b=true then te δ2 M3 λ y M4=>W (i+1) (li++[y]) M4 else W (i+1) li M3:=by
 refine yr (ds:=xs.map enc) (λ i li M=>∃ys:List β,li=ys.map Ao/\ys.length=i/\I ys M) ⟨[],rfl,rfl,h0⟩ (λ i li M hi h=>?_) (λ i li M hi h=>?_) (λ i d li M hd h=>?_) (λ li M h=>?_)
 ·obtain⟨ys,rfl,h1,h2⟩:=h;exact hl ys M h2
 ·obtain⟨ys,rfl,h1,_⟩:=h;rw[B3]at hi ⊢;exact Zc ()
 ·obtain⟨ys,rfl,h1,h2⟩:=h;rw[u6]at hd;cases e:xs[i]? with
  |none=>rw[e]at hd;cases hd
  |some x=>rw[e]at hd;cases hd;refine hs i x ys M _ e h1 h2 λ b M' hb=>⟨ys++[b],by rw[B5];rfl,by simp[h1],hb⟩
 ·obtain⟨ys,rfl,h1,h2⟩:=h;rw[B3]at h1;exact hd ys M h1 h2
def take_one{l:List α}{a:α}(h:l[i]?=some a):l.take (i+1)=l.take i++[a]:=by rw[take_add_one,h];rfl
def fj{xs:List α}(out:α->D)(hn:xs.length<=10000)(hs:∀(i:Nat)(x:α)(N:D->Mem->Prop),xs[i]?=some x->N (out x) M1->g (enc x) δc M1 λ δ2 M2=>te δ2 M2 N)(hd:Qe (xs.map out) M1):∃(B:Nat)(W:Nat->List D->Mem->Prop),W 0 [] M1/\∀i li M,W i li M->i<=B/\li.length<=sizeLine/\match pc (.fix (xs.map enc)) M with
   |none=>False
   |some ds=>match ds[i]? with
    |none=>i=ds.length/\Qe li M
    |some d=>g d δc M λ δ2 M2=>zt δ2 M2 λ b M3=>if b=true then te δ2 M3 λ y M4=>W (i+1) (li++[y]) M4 else W (i+1) li M3:=by
 refine kY (β:=α) out (λ ys M=>M=M1/\ys=xs.take ys.length) hn ⟨rfl,rfl⟩ (λ i x ys M N hx hy h k=>?_) (λ ys M hy h=>?_)
 ·obtain⟨rfl,h⟩:=h;refine hs i x N hx (k x M ⟨rfl,?_⟩);rw[p4,j9,take_one (a:=x) (by rw[hy];exact hx),<- h]
 ·obtain⟨rfl,h⟩:=h;rw[hy,y8]at h;rw[h];exact hd
abbrev Zp(p:Int×Int):D:=.tup [.int p.1,.int p.2]
def zip_map(as bs:List Int):kj (as.map D.int) (bs.map D.int)=(as.zip bs).map Zp:=by unfold kj Zp;rw[List.zip_map,D9];rfl
def TV(out:Int×Int->D)(hn:as.length<=10000)(hs:∀(i:Nat)(x:Int×Int)(N:D->Mem->Prop),(as.zip bs)[i]?=some x->N (out x) M1->g (Zp x) δc M1 λ δ2 M2=>te δ2 M2 N)(hd:Qe ((as.zip bs).map out) M1):∃(B:Nat)(W:Nat->List D->Mem->Prop),W 0 [] M1/\∀i li M,W i li M->i<=B/\li.length<=sizeLine/\match pc (.fix (kj (as.map D.int) (bs.map D.int))) M with
   |none=>False
   |some ds=>match ds[i]? with
    |none=>i=ds.length/\Qe li M
    |some d=>g d δc M λ δ2 M2=>zt δ2 M2 λ b M3=>if b=true then te δ2 M3 λ y M4=>W (i+1) (li++[y]) M4 else W (i+1) li M3:=by
 rw[zip_map];exact fj out (by rw[length_zip];lia) hs hd
def tw{xs:List α}(enc out:α->D)(hn:xs.length<=10000)(hl:M1 a=some (.lst (xs.map enc)))(hs:∀(i:Nat)(x:α)(N:D->Mem->Prop),xs[i]?=some x->N (out x) M1->g (enc x) δc M1 λ δ2 M2=>te δ2 M2 N)(hd:Qe (xs.map out) M1):∃(B:Nat)(W:Nat->List D->Mem->Prop),W 0 [] M1/\∀i li M,W i li M->i<=B/\li.length<=sizeLine/\match pc (.at a) M with
   |none=>False
   |some ds=>match ds[i]? with
    |none=>i=ds.length/\Qe li M
    |some d=>g d δc M λ δ2 M2=>zt δ2 M2 λ b M3=>if b=true then te δ2 M3 λ y M4=>W (i+1) (li++[y]) M4 else W (i+1) li M3:=by
 refine mE (β:=α) enc out (λ ys M=>M=M1/\ys=xs.take ys.length) hn ⟨rfl,rfl⟩ (λ ys M h=>by rw[h.1];exact hl) (λ i x ys M N hx hy h k=>?_) (λ ys M hy h=>?_)
 ·obtain⟨rfl,h⟩:=h;refine hs i x N hx (k x M ⟨rfl,?_⟩);rw[p4,j9,take_one (a:=x) (by rw[hy];exact hx),<- h]
 ·obtain⟨rfl,h⟩:=h;rw[hy,y8]at h;rw[h];exact hd
end
abbrev Lb(i:Nat):D:=.int ((0:Int)+(i:Nat))
def eh(n:Nat):dh 0 n=(List.range n).map Lb:=rfl
def T6(R:Src->Mem->Prop)(d:D)(M1:Mem):Prop:=match d with
 | .str z=>R (.fix (mO z)) M1
 | .tup ds=>R (.fix ds) M1
 | .fl ds=>R (.fix ds) M1
 | .ref a=>(match M1 a with
  |some (.lst _)=>R (.at a) M1
  |_=>False)
 |_=>False
def LI(h:ta δ M (T6 R)):We ta δ M R:=h
def LJ(h:R (.fix ds) M):T6 R (.tup ds) M:=h
def jG(hM:M a=some (.lst ds))(h:R (.at a) M):T6 R (.ref a) M:=by show(match M a with|some (.lst _)=>R (.at a) M|_=>False);rw[hM];exact h
end L3
namespace KK
open L3 L4 L5
open L2 hiding aL gF
def Pq(c:ap)(p b sd ct:Int):List D:=[.ref c,.int p,.int b,.int sd,.int ct]
structure Flow(M:Mem)(f c:ap):Prop where
 ex:∃(ns:List Int)(p b sd ct:Int),M f=some (.lst (Pq c p b sd ct))/\M c=some (.lst (ns.map D.int))/\c≠f/\0<=p/\0<=b/\0<=sd/\sd<2147483647
def iW:dW:=λ ds M Q=>∃(f c:ap)(n:Int),ds=[.ref f,.int n]/\Flow M f c/\0<n/\n<1073741824/\∀(d:Int)(o:MO),0<=d->d<n->Flow (ag M f o) f c->Q (.int d) (ag M f o)
structure Fl(f c:ap)(M M':Mem):Prop where
 bS:Flow M' f c
 mv:∀b o,b≠f->M b=some o->M' b=some o
def Fl.trans(a:Fl f c M M1)(b:Fl f c M1 M2):Fl f c M M2:=⟨b.bS,λ c o h e=>b.mv c o h (a.mv c o h e)⟩
def Fl.pick{o:MO}(h:Flow (ag M f o) f c):Fl f c M (ag M f o):=⟨h,λ b o' hb e=>by rw[ah hb];exact e⟩
def Flow.there(h:Flow M f c):∃o,M f=some o:=by obtain⟨ns,p,b,sd,ct,h,_⟩:=h;exact⟨_,h⟩
def Flow.Qi(h:Flow M f c):∃o,M c=some o:=by obtain⟨ns,p,b,sd,ct,_,h,_⟩:=h;exact⟨_,h⟩
def Flow.put{o:MO}(h:Flow M f c)(n:M q=none):Flow (ag M q o) f c:=by obtain⟨ns,p,b,sd,ct,h1,h2,h3⟩:=h;exact⟨ns,p,b,sd,ct,by rw[ah (λ z=>by rw[z,n]at h1;cases h1)];exact h1,by rw[ah (λ z=>by rw[z,n]at h2;cases h2)];exact h2,h3⟩
def Fl.put{o:MO}(h:Flow M f c)(n:M q=none):Fl f c M (ag M q o):=⟨h.put n,λ b o' hb e=>by rw[ah (λ z=>by rw[z,n]at e;cases e)];exact e⟩
def Flow.ne(h:Flow M f c)(n:M q=none):q≠f/\q≠c:=by
 constructor
 ·intro z;subst z;obtain⟨o,e⟩:=h.there;rw[n]at e;cases e
 ·intro z;subst z;obtain⟨o,e⟩:=h.Qi;rw[n]at e;cases e
def Fl.own{o:MO}(h:Fl f c M M')(h0:Flow M f c)(n:M q=none):Fl f c M (ag M' q o):=by obtain⟨n1,n2⟩:=h0.ne n;obtain⟨ns,p,b,sd,ct,h1,h2,h3⟩:=h.bS;refine⟨⟨ns,p,b,sd,ct,by rw[ah (J9 n1)];exact h1,by rw[ah (J9 n2)];exact h2,h3⟩,λ b o' hb e=>?_⟩;rw[ah (λ z=>by rw[z,n]at e;cases e)];exact h.mv b o' hb e
def OH(B:Nat):dW:=λ ds M Q=>∃f c,ds=[.ref f]/\Flow M f c/\∀(z:Str)(M':Mem),z.length<=B->Fl f c M M'->Q (.str z) M'
def small(h:n<=10000):n<=sizeLine:=E6 h (by decide)
def len_app(x y:Str):(x++y).length=x.length+y.length:=by show(x.cps++y.cps).size=x.cps.size+y.cps.size;simp
def yF{d:Int}(h0:0<=d)(h1:d<zs.length):∃z,z∈zs/\gN (zs.map D.str) d=some (.str z):=by
 have hl:d.toNat<zs.length:=()
 have e:((d.toNat:Nat):Int)=d:=()
 have q:gN (zs.map D.str) ((d.toNat:Nat):Int)=some (.str zs[d.toNat]):=bc (by simp[hl]);rw[e]at q;exact⟨_,A2 hl,q⟩
def fz(h:(dh lo n)[i]?=some d):i<n/\d=.int (lo+(i:Nat)):=by
 have hi:i<n:=by have:=(c7.mp h).1;rwa [bj]at this
 rw[qe hi]at h;exact⟨hi,(B0 h).symm⟩
def Iz:∀zs:List Str,(Txt.join (cS "") zs).length=(zs.map (·.length)).sum:=by
 intro zs;show(Builtin.Str.glued (cS "") zs).length=_;rw[StrLaws.glued_eq_join,show cS ""=⟨#[]⟩ by decide+kernel]
 induction zs with
 |nil=>rfl
 |cons z zs ih=>rw[PyProof.Rows.join_nil_cons,len_app,ih,C8,D3]
def yK(li:List D)(i:Nat):Prop:=∃zs:List Str,li=zs.map D.str/\(zs.map (·.length)).sum<=i/\zs.length=i
def yK.nil:yK [] 0:=⟨[],rfl,G7 _,rfl⟩
def yK.snoc(h:yK li i){z:Str}(hz:z.length<=1):yK (li++[.str z]) (i+1):=by obtain⟨zs,rfl,h1,h2⟩:=h;refine⟨zs++[z],by simp,?_,by simp[h2]⟩;rw[B5,sum_append];simp only[C8,G1,D3,sum_nil];lia
def Ni(h:yK li n)(hn:n<=1000){Q:bF}(q:∀z:Str,z.length<=n->Q (.str z) M):qS (.str (cS "")) li M Q:=by
 obtain⟨zs,rfl,h1,h2⟩:=h;show(match gQ (zs.map D.str)with|some ys=>(ys.map (·.length)).sum+ys.length*(cS "").length<=16777216/\Q (.str (Txt.join (cS "") ys)) M|none=>False);rw[sj];refine⟨?_,q _ ?_⟩
 ·have e:(cS "").length=0:=by decide+kernel
  rw[e];lia
 ·rw[Iz];exact h1
def plus(as bs:List Int):List Int:=List.zipWith (·+·) as bs
def OI:dW:=λ ds M Q=>∃as bs:List Int,ds=[row as,row bs]/\as.length=bs.length/\as.length<=1000/\Q (row (plus as bs)) M
def PN{bs:List Int}(h:(kj (as.map D.int) (bs.map D.int))[i]?=some d):∃a b,as[i]?=some a/\bs[i]?=some b/\d=.tup [.int a,.int b]:=by
 unfold kj at h;rw[u6]at h;cases e:((as.map D.int).zip (bs.map D.int))[i]? with
 |none=>rw[e]at h;cases h
 |some p=>
  rw[e]at h;obtain⟨e1,e2⟩:=getElem?_zip_eq_some.mp e;rw[u6]at e1 e2;cases e3:as[i]? with
  |none=>rw[e3]at e1;cases e1
  |some a=>
   cases e4:bs[i]? with
   |none=>rw[e4]at e2;cases e2
   |some b=>rw[e3]at e1;rw[e4]at e2;have e1:D.int a=p.1:=B0 e1;have e2:D.int b=p.2:=B0 e2;refine⟨a,b,rfl,rfl,?_⟩;rw[e1,e2];exact(B0 h).symm
def BA{x y:Int}(h:as[i]?=some x)(q:bs[i]?=some y):(plus as bs)[i]?=some (x+y):=by unfold plus;rw[getElem?_zipWith,h,q]
def take_snoc{l:List α}{a:α}(h:l[i]?=some a):l.take (i+1)=l.take i++[a]:=by rw[take_add_one,h];rfl
def Kq(as bs:List Int):(kj (as.map D.int) (bs.map D.int)).length=(plus as bs).length:=by rw[vS];simp[plus]
def less(as:List Int)(i:Nat):List Int:=as.take i++[as.getD i 0-1]++as.drop (i+1)
def jd(h:i<as.length):(less as i).length=as.length:=by unfold less;simp only[p4,A1,j9,length_drop];lia
def O6(as:List Int):L2.Ky:=(as.sum,as.map λ a=>0-a)
def Gd:dW:=λ ds M Q=>∃as:List Int,ds=[row as]/\as.length<=1000/\Q (.tup [.int as.sum,row (as.map λ a=>0-a)]) M
def mF(h:i<ns.length):gN (ns.map D.int) (i:Int)=some (.int (ns.getD i 0)):=by refine bc ?_;simp[c3,h]
def c_{Q:bF}(h:M p=some (.lst ds))(q:Q (.tup ds) M):u_ [.ref p] M Q:=by show(match bD M p with|some ds=>Q (.tup ds) M|none=>False);unfold bD;rw[h];exact q
def back{v:D}{Q:bF}(h:∀b o,M b=some o->M1 b=some o)(q:Q v M):fin2 Q v M1:=⟨M,λ a o e=>h a o e,q⟩
def Ii(h:∀b o,M b=some o->M' b=some o)(n:M' q=none)(x:MO):∀b o,M b=some o->ag M' q x b=some o:=λ b o e=>by rw[ah (λ z=>by rw[<- z,h b o e]at n;cases n)];exact h b o e
def SQ{d:Int}(h0:0<=d)(h1:d<n):Ab n d=some d.toNat:=by unfold Ab;rw[K1 h0,K1 h1]
abbrev aW:=Str×List (List Int)
def fG:aW:=(cS "",[])
def qE(h:aW):D:=.tup [.str h.1,.tup (h.2.map row)]
def j'(g:List aW):D:=.tup (g.map qE)
structure vF(n i:Nat)(r:List Int):Prop where
 len:r.length=n
 pos:∀x∈r,0<=x
 sum:r.sum<=4
 low:∀j,i<=j->r.getD j 0=0
structure eI(n:Nat)(g:List aW):Prop where
 len:g.length=n
 gw:n<=12
 opts:∀i,i<n->(g.getD i fG).2.length<=63/\∀r∈(g.getD i fG).2,vF n i r
def eC(ns:List Int)(n:Nat):List Int:=(List.range n).map λ(h:Nat)=>((ns.count (h:Int):Nat):Int)
def qU(ns:List Int)(n:Nat):(eC ns n).length=n:=by simp[eC]
def qT:∀x∈eC ns n,0<=x:=λ x hx=>by obtain⟨h,_,rfl⟩:=D8.mp hx;lia
def yq(ns:List Int):∀n:Nat,(eC ns n).sum=(ns.countP λ x=>decide (0<=x/\x<(n:Int)):Nat)
 |0=>by
  have:ns.countP (λ x=>decide (0<=x/\x<((0:Nat):Int)))=0:=countP_eq_zero.mpr λ x _=>by simp
  rw[this];rfl
 |n+1=>by
  have ih:=yq ns n;unfold eC at ih ⊢;rw[range_succ,B5,sum_append,ih];simp only[C8,G1,D3,sum_nil];have:ns.countP (λ x=>decide (0<=x/\x<((n+1:Nat):Int)))=ns.countP (λ x=>decide (0<=x/\x<(n:Int)))+ns.count (n:Int):=by
   clear ih
   induction ns with
   |nil=>rfl
   |cons y ys ih=>
    rw[countP_cons,countP_cons,count_cons,ih];generalize List.countP _ ys=A;generalize List.count _ ys=B;by_cases h1:0<=y/\y<(n:Int)
    ·have h2:0<=y/\y<((n+1:Nat):Int):=()
     have h3:¬(y=(n:Int)):=()
     rw[K1 (B8 h2),K1 (B8 h1),K3 (by simpa using h3)];lia
    ·by_cases h3:y=(n:Int)
     ·rw[K1 (B8 ()),K3 (by simpa using h1),K1 (by simpa using h3)];lia
     ·rw[K3 (by simp only[u7];lia),K3 (by simpa using h1),K3 (by simpa using h3)];lia
  rw[this];lia
def qV:(eC ns n).sum<=ns.length:=by rw[yq];have:=countP_le_length (p:=λ x=>decide (0<=x/\x<(n:Int))) (l:=ns);lia
def JF(h:∀x∈ns,x<(i:Int))(j:Nat)(hj:i<=j):(eC ns n).getD j 0=0:=by
 unfold eC;rw[c3,u6];by_cases hn:j<n
 ·rw[l9 hn];have:ns.count (j:Int)=0:=count_eq_zero.mpr λ z=>by have:=h _ z;lia
  simp[this]
 ·rw[k5 (by simpa using hn)];rfl
def pW:dW:=λ ds M Q=>∃(a:ap)(ns:List Int)(n:Nat),ds=[.ref a,.int n]/\M a=some (.lst (ns.map D.int))/\n<=1000/\Q (row (eC ns n)) M
def FW:dW:=λ ds M Q=>∃(f c:ap)(n:Nat)(m:Int),ds=[.ref f,.int n,.int m]/\Flow M f c/\n<=1000/\0<=m/\m<=1000/\∀(ns:List Int)(M':Mem),(ns.length:Int)<=m->(∀x∈ns,0<=x/\x<(n:Int))->Fl f c M M'->Q (row (eC ns n)) M'
def qH:∀zs:List Str,nZ (zs.map D.str)=some (zs.map V.str)
 |[]=>rfl
 |z::zs=>by rw[C8];show(match qK (D.str z),nZ (zs.map D.str)with|some v,some vs=>some (v::vs)|_,_=>none)=_;rw[qH zs];rfl
def xw(z:Str):∀zs:List Str,Pa (.str z) (zs.map V.str)=zs.contains z
 |[]=>rfl
 |y::ys=>by have ih:=xw z ys;unfold Pa at ih ⊢;rw[C8,any_cons,ih,contains_cons];congr 1;show(y==z)=(z==y);rw[A4,beq_iff_eq,beq_iff_eq];exact eq_comm
def IJ(z:Str)(zs:List Str):inD (.str z) (zs.map D.str)=some (zs.contains z):=by unfold inD;rw[qH];show some (Pa (.str z) (zs.map V.str))=_;rw[xw]
def zS(c:Nat):MulOk ⟨#[c]⟩ 1:=⟨by decide,λ _ h=>(by have z:true=false:=h;cases z),λ _ h=>(by have z:true=false:=h;cases z)⟩
def yD:List Nat:=(cS "zyxwvutsrqponmlkjihgfedcba").cps.toList
def vj(j:Nat):Str:=Txt.mul ⟨#[yD.getD j 0]⟩ 1
def AD:((List.range 26).map vj).Nodup:=by decide+kernel
def wV:∀{l zs:List Str},l.Nodup->(∀x∈l,x∈zs)->l.length<=zs.length
 |[],zs,_,_=>G9 _
 |a::l,zs,hn,hs=>by rw[nodup_cons]at hn;have ha:a∈zs:=hs a (o7 ..);have h1:=wV (l:=l) (zs:=zs.erase a) hn.2 λ x hx=>(mem_erase_of_ne (λ z=>hn.1 (by rw[<- z];exact hx))).mpr (hs x (k7 _ hx));rw[length_erase_of_mem ha]at h1;have:=length_pos_of_mem ha;rw[y6];lia
def JJ{sp:Nat}(h26:sp<=26)(h:∀j,j<sp->vj j∈zs):sp<=zs.length:=by
 have e:((List.range sp).map vj).Nodup:=by
  refine List.Sublist.nodup (List.Sublist.map vj ?_) AD;have:List.range sp=(List.range 26).take sp:=by rw[take_range,Nat.min_eq_left h26]
  rw[this];exact take_sublist _ _
 have:=wV e (zs:=zs) λ x hx=>by obtain⟨j,hj,rfl⟩:=D8.mp hx;exact h j (by simpa using hj)
 simpa using this
def Be:dW:=λ ds M Q=>∃(f c:ap)(n:Nat),ds=[.ref f,.int n]/\Flow M f c/\n<=12/\∀(p:ap)(zs:List Str)(M':Mem),zs.length=n->M p=none->M' p=some (.lst (zs.map D.str))->Fl f c M M'->Q (.ref p) M'
def tX{Q:bF}(h:Kx M d≠some "NoneType")(q:Q (.bl false) M):Av false d .bo M Q:=by
 cases d with
 |bo=>exact be rfl h
 |_=>exact q
def ZF(as:List Int)(h:Nat)(o:List Int)(k:Nat):D:=.tup [.int (h:Int),.int (k:Int),row (plus (less as h) o)]
def wY(as:List Int)(h:Nat)(os:List (List Int))(i:Nat):List D:=(List.range i).map λ k=>ZF as h (os.getD k []) k
def opt(as:List Int)(h:Nat)(l:List D):List D:=if 0<as.getD h 0 then l else[]
def vK(g:List aW)(as:List Int):Nat->List D
 |0=>[]
 |i+1=>vK g as i++opt as i (wY as i (g.getD i fG).2 (g.getD i fG).2.length)
def uA(as:List Int)(h:Nat)(os:List (List Int))(i:Nat):(wY as h os i).length=i:=by simp[wY]
def Ig(as:List Int)(h:Nat)(os:List (List Int))(i:Nat):wY as h os (i+1)=wY as h os i++[ZF as h (os.getD i []) i]:=by unfold wY;rw[range_succ,B5];rfl
def eI.at(G:eI n g)(hi:i<n):(g.getD i fG).2.length<=63/\∀r∈(g.getD i fG).2,r.length=n:=⟨(G.opts i hi).1,λ r hr=>((G.opts i hi).2 r hr).len⟩
def ux(G:eI n g)(as:List Int):∀i,i<=n->(vK g as i).length<=i*63
 |0,_=>by simp[vK]
 |i+1,h=>by
  have h1:=ux G as i ();have h2:=(G.at (i:=i) ()).1;show(vK g as i++opt as i _).length<=_;rw[p4];have h3:(opt as i (wY as i (g.getD i fG).2 (g.getD i fG).2.length)).length<=63:=by
   unfold opt;split
   ·rw[uA];exact h2
   ·simp
  lia
def gx(h:(dZ ds)[i]?=some d):i<ds.length/\d=.tup [.int (i:Int),ds.getD i D.bo]:=by
 have hi:i<ds.length:=by have:=(c7.mp h).1;rwa [bJ]at this
 refine⟨hi,?_⟩;unfold dZ at h;rw[u6,l9 hi]at h;exact(B0 h).symm
def EA{g:List aW}(h:i<g.length):(g.map qE).getD i D.bo=qE (g.getD i fG):=by simp[c3,h]
def Jm(h:i<os.length):(os.map row).getD i D.bo=row (os.getD i []):=by simp[c3,h]
def getD_mem(h:i<os.length):os.getD i []∈os:=by rw[c3,g9 h];exact A2 _
def sw(M M':Mem):Prop:=∀b o,M b=some o->M' b=some o
def sw.own(h:sw M M'){x:MO}(n:M q=none):sw M (ag M' q x):=λ b o e=>by rw[ah (λ z=>by rw[z,n]at e;cases e)];exact h b o e
def Bf:dW:=λ ds M Q=>∃(n:Nat)(g:List aW)(as:List Int),ds=[j' g,row as]/\eI n g/\as.length=n/\∀(p:ap)(M':Mem),M p=none->M' p=some (.lst (vK g as n))->sw M M'->Q (.ref p) M'
def Hi(as bs:List Int):(as.zip bs).map (λ p=>D.int (p.1+p.2))=(plus as bs).map D.int:=by unfold plus;rw[List.zip,map_zipWith,map_zipWith]
def jc(hh:h<as.length):less as h=as.set h (as.getD h 0-1):=by unfold less;rw[set_eq_take_append_cons_drop,K1 hh];simp
def DR{o:List Int}(hh:h<as.length)(hl:o.length=as.length):(plus as o).set h ((plus as o).getD h 0-1)=plus (less as h) o:=by
 refine x8 λ i=>?_;rw[jc hh];unfold plus;rw[getElem?_set,length_zipWith];have ho:h<o.length:=()
 by_cases e:h=i
 ·subst e;rw[K1 rfl,K1 (),getElem?_zipWith,getElem?_set,K1 rfl,K1 hh,g9 ho];simp[c3,getElem?_zipWith,hh,ho];lia
 ·rw[K3 e,getElem?_zipWith,getElem?_zipWith,getElem?_set,K3 e]
end KK
variable {g:List KK.aW}
namespace HT
open PySem.Spec PyProof.Rows
def jW{t:ap}{vl vu:gV}{lo hi:Option Int}(ht:IsTup s.heap t pc)(hs:s.heap.IsSliceOf sl vl vu .none)(pl:IsPart vl lo)(pu:IsPart vu hi)(hw:cx pc.size 0 lo=0/\cx pc.size pc.size hi=pc.size)(h:Q (.ref t) s):wpAny (model prog w) A (getItem (.ref t) (.ref sl)) Q E s:=by
 obtain⟨os,Ex,Cn,Jd⟩:=id hs;have hTs:s.TypeIs (.ref sl) "slice":=⟨os,Ex,Cn⟩;unfold getItem
 try with_reducible refine C4 ?_
 first|refine J1 (J3 ?_)|skip
 refine J1 (wpAny_sequenceKey ht.typeIs (by decide) ?_);refine J1 (i7 (name:=cS "__getitem__") ht.typeIs a0
  (y9 a0 ht.typeIs entry_tuple_getitem ?_ (args_tuple_getitem _ _)))
 show wpAny _ _ (Builtin.Tuple.tupleItemsOf (.ref t)>>=_) _ _ s;refine J1 (tupleItemsOf_ ht ?_);refine J1 (wpAny_typeOf hTs ?_);rw[K1 (by decide)];refine J1 (gR hs pl pu ?_);have ZS:(((cx pc.size 0 lo:Nat):Int)==0&&(1:Int)==1&&(cx pc.size pc.size hi-cx pc.size 0 lo)==pc.size)=true:=by rw[hw.1,hw.2];simp
 show wpAny _ _ (if(((cx pc.size 0 lo:Nat):Int)==0&&(1:Int)==1&&(cx pc.size pc.size hi-cx pc.size 0 lo)==pc.size)=true then _ else _) _ _ s;rw[K1 ZS];unfold Builtin.Tuple.tupleIsExact;refine J1 (J1 (wpAny_typeOf ht.typeIs (J3 ?_)));rw[K1 (by decide)];exact J1 (J4 (J3 ⟨_,rfl,J3 h⟩))
end HT
namespace L2
open PySem.Spec PyProof.Rows
def KW:Dc X (λ x lo hi H Q=>∃a xs,x=.ref a/\hG X.K H a xs/\(HT.cx xs.length 0 lo=0/\HT.cx xs.length xs.length hi=xs.length)/\Q (.ref a) H):=by
 intro jp s σ H x v vl vu lo hi sl Q I rx hs pl pu h;obtain⟨a,xs,rfl,hx,hw,q⟩:=h;cases rx;obtain⟨aq,r,ht,hz⟩:=I.tuple hx;have hlen:aq.toArray.size=xs.length:=by rw[x6];exact r.length.symm
 exact⟨"tuple",_,a0.lookup,ht.typeIs,HT.jW ht hs pl pu (by rw[hlen];exact hw) ⟨.ref a,H,I,rfl,q⟩⟩
end L2
namespace L3
open PySem.Spec L2
def vd:D->Option Int->Option Int->Mem->bF->Prop:=λ x lo hi M Q=>match x with
 | .str z=>z.length<=sizeLine/\Q (.str (rH z lo hi)) M
 | .tup ds=>Q (.tup (cutD ds lo hi)) M
 | .ref a=>match bD M a with
  |some ds=>∀p,M p=none->Q (.ref p) (ag M p (.lst (cutD ds lo hi)))
  |none=>False
 |_=>False
def sx:YF X vd:=by
 obtain⟨r,h1,h2⟩:=(gF:YF X dSl);refine⟨_,h1.or KW,λ x d lo hi H M Q2 Q hd hm q k=>?_⟩;cases d with
 |tup ds=>
  by_cases hw:HT.cx ds.length 0 lo=0/\HT.cx ds.length ds.length hi=ds.length
  ·have q:Q2 (.tup (cutD ds lo hi)) M:=q;have e:cutD ds lo hi=ds:=by unfold cutD;rw[hw.1,hw.2];simp
   rw[e]at q;obtain⟨p,xs,rfl,h,hx⟩:=aR.mp hd;exact .inr ⟨p,xs,rfl,h,by rw[hx.length];exact hw,k _ H _ M (aR.mpr ⟨p,xs,rfl,h,hx⟩) hm (ar.refl H) q⟩
  ·exact .inl (h2 x (.tup ds) lo hi H M Q2 Q hd hm ⟨hw,q⟩ k)
 |str z=>exact .inl (h2 x (.str z) lo hi H M Q2 Q hd hm q k)
 |ref a=>exact .inl (h2 x (.ref a) lo hi H M Q2 Q hd hm q k)
 |_=>exact q.elim
section
variable {Q:bF}
def CQ{i:Int}(h0:0<=i):cutD ds none (some i)=ds.take i.toNat:=by
 unfold cutD;have e:HT.cx ds.length ds.length (some i)=min i.toNat ds.length:=by show(if i<0 then(i+(ds.length:Int)).toNat else min i.toNat ds.length)=_;rw[K3 ()]
 rw[e];show(ds.drop 0).take (min i.toNat ds.length-0)=_;rw[drop_zero,Nat.sub_zero,take_eq_take_iff];lia
def tp{i:Int}(h0:0<=i):cutD ds (some i) none=ds.drop i.toNat:=by
 unfold cutD;have e:HT.cx ds.length 0 (some i)=min i.toNat ds.length:=by show(if i<0 then(i+(ds.length:Int)).toNat else min i.toNat ds.length)=_;rw[K3 ()]
 rw[e];show(ds.drop (min i.toNat ds.length)).take (ds.length-min i.toNat ds.length)=_;rw[i9 (by rw[length_drop];lia)];by_cases h:i.toNat<=ds.length
 ·rw[Nat.min_eq_left h]
 ·rw[Nat.min_eq_right (),drop_length,drop_of_length_le ()]
def Gv{i:Int}(h0:0<=i)(q:Q (.tup (ds.take i.toNat)) M):vd (.tup ds) none (some i) M Q:=by show Q (.tup (cutD ds none (some i))) M;rw[CQ h0];exact q
def zA{i:Int}(h0:0<=i)(q:Q (.tup (ds.drop i.toNat)) M):vd (.tup ds) (some i) none M Q:=by show Q (.tup (cutD ds (some i) none)) M;rw[tp h0];exact q
def Lj{z:Str}{lo:Option Int}(h:z.length<=sizeLine)(q:Q (.str (rH z lo hi)) M):vd (.str z) lo hi M Q:=⟨h,q⟩
def tW{lo:Option Int}(h:M a=some (.lst ds))(q:∀p,M p=none->Q (.ref p) (ag M p (.lst (cutD ds lo hi)))):vd (.ref a) lo hi M Q:=by show(match bD M a with|some ds=>∀p,M p=none->Q (.ref p) (ag M p (.lst (cutD ds lo hi)))|none=>False);unfold bD;rw[h];exact q
def sA{i:Int}(h:M a=some (.lst ds))(h0:0<=i)(q:∀p,M p=none->Q (.ref p) (ag M p (.lst (ds.take i.toNat)))):vd (.ref a) none (some i) M Q:=by refine tW h ?_;rw[CQ h0];exact q
def wj{i:Int}(h:M a=some (.lst ds))(h0:0<=i)(q:∀p,M p=none->Q (.ref p) (ag M p (.lst (ds.drop i.toNat)))):vd (.ref a) (some i) none M Q:=by refine tW h ?_;rw[tp h0];exact q
end
open L5
section
variable {g:jA}{tb:mH}{δc:cY}{E:ke}
def TB(Pv:Nat->cY->Mem->Prop)(h0:Pv 0 δ M1)(hl:∀i δ M,i<=ds.length->Pv i δ M->pc src M=some ds)(hs:∀i d δ M,ds[i]?=some d->Pv i δ M->g d δ M λ δ2 M2=>tb {E with nx:=Pv (i+1),ct:=Pv (i+1),bk:=E.nx} δ2 M2)(hd:∀δ M,Pv ds.length δ M->E.nx δ M):∃(B:Nat)(W:Nat->cY->Mem->Prop),W 0 δ M1/\∀i δ M,W i δ M->i<=B/\match pc src M with
   |none=>False
   |some ds=>match ds[i]? with
    |none=>i=ds.length/\E.nx δ M
    |some d=>g d δ M λ δ2 M2=>tb {E with nx:=W (i+1),ct:=W (i+1),bk:=E.nx} δ2 M2:=by
 refine⟨ds.length,λ i δ M=>if i<=ds.length then Pv i δ M else False,by dsimp only;rw[K1 (G9 _)];exact h0,?_⟩;intro i δ M w;by_cases hi:i<=ds.length
 ·rw[K1 hi]at w;refine⟨hi,?_⟩;rw[hl i δ M hi w];show(match ds[i]? with
    |none=>i=ds.length/\E.nx δ M
    |some d=>g d δ M λ δ2 M2=>tb {E with nx:=(λ δ M=>if i+1<=ds.length then Pv (i+1) δ M else False),ct:=(λ δ M=>if i+1<=ds.length then Pv (i+1) δ M else False),bk:=E.nx} δ2 M2)
  cases e:ds[i]? with
  |none=>have:i=ds.length:=B6 hi (c8.mp e);subst this;exact⟨rfl,hd δ M w⟩
  |some d=>have eB:i+1<=ds.length:=(c7.mp e).1;simp only[K1 eB];exact hs i d δ M e w
 ·rw[K3 hi]at w;exact w.elim
def Ax(Pv:Nat->List D->Mem->Prop)(h0:Pv 0 [] M1)(hl:∀i li M,i<=ds.length->Pv i li M->pc src M=some ds)(hz:∀i li M,i<=ds.length->Pv i li M->li.length<=sizeLine)(hs:∀i d li M,ds[i]?=some d->Pv i li M->g d δc M λ δ2 M2=>tt δ2 M2 λ b M3=>if b=true then te δ2 M3 λ y M4=>Pv (i+1) (li++[y]) M4 else Pv (i+1) li M3)(hd:∀li M,Pv ds.length li M->Qe li M):∃(B:Nat)(W:Nat->List D->Mem->Prop),W 0 [] M1/\∀i li M,W i li M->i<=B/\li.length<=sizeLine/\match pc src M with
   |none=>False
   |some ds=>match ds[i]? with
    |none=>i=ds.length/\Qe li M
    |some d=>g d δc M λ δ2 M2=>tt δ2 M2 λ b M3=>if b=true then te δ2 M3 λ y M4=>W (i+1) (li++[y]) M4 else W (i+1) li M3:=by
 refine⟨ds.length,λ i li M=>if i<=ds.length then Pv i li M else False,by dsimp only;rw[K1 (G9 _)];exact h0,?_⟩;intro i li M w;by_cases hi:i<=ds.length
 ·rw[K1 hi]at w;refine⟨hi,hz i li M hi w,?_⟩;rw[hl i li M hi w];show(match ds[i]? with
    |none=>i=ds.length/\Qe li M
    |some d=>g d δc M λ δ2 M2=>tt δ2 M2 λ b M3=>if b=true then te δ2 M3 λ y M4=>(if i+1<=ds.length then Pv (i+1) (li++[y]) M4 else False)else(if i+1<=ds.length then Pv (i+1) li M3 else False))
  cases e:ds[i]? with
  |none=>have:i=ds.length:=B6 hi (c8.mp e);subst this;exact⟨rfl,hd li M w⟩
  |some d=>have eB:i+1<=ds.length:=(c7.mp e).1;simp only[K1 eB];exact hs i d li M e w
 ·rw[K3 hi]at w;exact w.elim
end
def ow(x y:D)(M:Mem):Option (List D):=match cR M x,cR M y with
 |some xs,some ys=>some (kj xs ys)
 |_,_=>none
def O8(ta:e_):oG:=λ δ M R=>ta δ M λ ds M1=>match ds with
 |[.tup xs,.tup ys]=>R (.fix (kj xs ys)) M1
 |[x,y]=>(∃zs,ow x y M1=some zs)/\R (.fn (ow x y)) M1
 |_=>False
def rQ{x y:D}{zs:List D}(h:ow x y M=some zs):∃xs ys,cR M x=some xs/\cR M y=some ys/\zs=kj xs ys:=by
 unfold ow at h;cases e1:cR M x with
 |none=>rw[e1]at h;cases h
 |some xs=>
  cases e2:cR M y with
  |none=>rw[e1,e2]at h;cases h
  |some ys=>rw[e1,e2]at h;cases h;exact⟨xs,ys,rfl,rfl,rfl⟩
def Ep{b:ap}{x y:D}(hx:sB K H1 x (.ref a))(hy:sB K H1 y (.ref b)):rN K H1 (YI K (kindB x) (kindB y) a b) (.fn (ow x y)):=λ H M zs t hm e=>by obtain⟨ds,es,e1,e2,rfl⟩:=rQ (show ow x y M=some zs from e);obtain⟨p,xs,e3,q1,x1⟩:=ib e1 (sB.mono t x hx) hm;cases e3;obtain⟨p,ys,e3,q2,x2⟩:=ib e2 (sB.mono t y hy) hm;cases e3;have l1:=x1.length;have l2:=x2.length;rw[vS];refine⟨λ i hi=>⟨xs,ys,xs[i]'(),ys[i]'(),q1,q2,by simp,by simp⟩,λ i hi=>⟨xs,ys,q1,q2,()⟩,λ i v H' hi z=>?_⟩;obtain⟨p,vx,vy,hp,rfl,rfl,sS,Fh⟩:=z;obtain⟨d,d1,d2⟩:=x1.uX (sS xs q1);obtain⟨e,e1,e2⟩:=x2.uX (Fh ys q2);refine⟨ar.laid hp,hm.laid hp,.tup [d,e],?_,h_ hp (af.mpr ⟨vx,[vy],rfl,d2,aA.one e2⟩)⟩;obtain⟨z1,w1⟩:=c7.mp d1;obtain⟨z2,w2⟩:=c7.mp e1;simp[kj,hi,w1,w2,z1,z2]
section
variable {k0:_}{a b:Expr}{ta:e_}{p:Pos}
def AU(hm:X.mg "zip"=none)(ha:WA X [a,b] ta)(hg:Gl X "zip":=by rfl)(hs:starEach [a,b] X.env=[(false,eval a X.env),(false,eval b X.env)]:=by rfl)(nk:starEach [b] X.env=[(false,eval b X.env)]:=by rfl):WI X (.Tuple es k0 tL) (.Call (.Name "zip" p) [a,b] [] pos) (O8 ta):=⟨have ha:=ha.h;BD (Rk hg hm ha hs nk) λ σ H R ⟨δ,M,R2,hs,hm,q,k⟩=>by
 refine⟨δ,M,_,hs,hm,q,λ xs H1 ds M1 hd bM t1 q1=>?_⟩;have go:∀x y,ds=[x,y]->(∃zs,ow x y M1=some zs)->(∀J,rN X.K H1 J (.fn (ow x y))->R J H1)->∃(b1 b2:Bool)(l m:ap),xs=[.ref l,.ref m]/\(∃xs,Sq b1 X.K H1 l xs)/\(∃ys,Sq b2 X.K H1 m ys)/\R (YI X.K b1 b2 l m) H1:=by rintro x y rfl ⟨zs,hz⟩ hR;obtain⟨vx,r,rfl,hx,hr⟩:=af.mp hd;obtain⟨vy,r,rfl,hy,hr⟩:=af.mp hr;cases(ao.mp hr);obtain⟨xs,ys,e1,e2,_⟩:=rQ hz;obtain⟨p,vs,rfl,q1,_⟩:=ib e1 hx bM;obtain⟨p2,ws,rfl,q2,_⟩:=ib e2 hy bM;exact⟨_,_,p,p2,rfl,⟨vs,q1⟩,⟨ws,q2⟩,hR _ (Ep hx hy)⟩
 match ds,q1 with
 |[x,y],q1=>
  by_cases ht:∃xs ys,x=.tup xs/\y=.tup ys
  ·obtain⟨xs,ys,rfl,rfl⟩:=ht;refine go _ _ rfl ⟨_,rfl⟩ λ J hJ=>k J H1 (.fix (kj xs ys)) M1 (λ H M ds t hm e=>hJ H M ds t hm e) bM t1 q1
  ·have q2:(∃zs,ow x y M1=some zs)/\R2 (.fn (ow x y)) M1:=by cases x<;>first|exact q1|(cases y<;>first|exact q1|exact be ⟨_,_,rfl,rfl⟩ ht)
   exact go x y rfl q2.1 λ J hJ=>k J H1 _ M1 hJ bM t1 q2.2
 |[],q1=>exact q1.elim
 |[x],q1=>cases x<;>exact q1.elim
 |x::y::z::r,q1=>cases x<;>first|exact q1.elim|(cases y<;>exact q1.elim)⟩
end
end L3
namespace L4
open PySem.Spec L2 L3 L5
section
variable {k0:_}{a b:Expr}{ta:e_}{p:Pos}
end
end L4
namespace L3
open PySem.Spec L2 L5 PyProof.Rows
def Pl:Nat->D->Prop
 |0,d=>d=.bo\/(∃i,d=.int i)\/∃x,d=.str x/\PyData.strOk x=true
 |k+1,d=>d=.bo\/(∃i,d=.int i)\/(∃x,d=.str x/\PyData.strOk x=true)\/∃ds,d=.tup ds/\∀e∈ds,Pl k e
def cV(k:Nat)(i:Int):Pl k (.int i):=by
 cases k with
 |zero=>exact .inr (.inl ⟨i,rfl⟩)
 |succ k=>exact .inr (.inl ⟨i,rfl⟩)
def qh(h:∀e∈ds,Pl k e):Pl (k+1) (.tup ds):=.inr (.inr (.inr ⟨ds,rfl,h⟩))
def dM{xs:List α}(h:∀x∈xs,Pl k (enc x)):∀e∈xs.map enc,Pl k e:=λ e he=>by obtain⟨x,hx,rfl⟩:=D8.mp he;exact h x hx
structure PlF(k:Nat)(d:D):Prop where
 nr:nr d=true
 lay:(toP d).canLay0=true
 dep:(toP d).depth<=k
structure abt(k:Nat)(ds:List D):Prop where
 nr:qm ds=true
 lay:PyData.canLayAll0 (toPs ds)=true
 dep:PyData.depthAll (toPs ds)<=k
def lQ:∀{ds:List D},(∀e∈ds,PlF k e)->abt k ds
 |[],_=>⟨by unfold qm;rfl,by unfold toPs;simp[PyData.canLayAll0],by unfold toPs;simp[PyData.depthAll]⟩
 |d::ds,h=>by
  have h1:=h d (o7 ..);have h2:=lQ (ds:=ds) λ e he=>h e (k7 _ he);refine⟨?_,?_,?_⟩
  ·unfold qm;rw[h1.nr,h2.nr];rfl
  ·unfold toPs;simp only[PyData.canLayAll0];rw[h1.lay,h2.lay];rfl
  ·unfold toPs;simp only[PyData.depthAll];exact Nat.max_le.mpr ⟨h1.dep,h2.dep⟩
def Pl.f9:∀{k:Nat} {d:D},Pl k d->PlF k d
 |0,d,h=>by
  rcases h with rfl|⟨i,rfl⟩|⟨x,rfl,hx⟩
  ·exact⟨by unfold L3.nr;rfl,by unfold toP;simp[PyData.canLay0],by unfold toP;simp[PyData.depth]⟩
  ·exact⟨by unfold L3.nr;rfl,by unfold toP;simp[PyData.canLay0],by unfold toP;simp[PyData.depth]⟩
  ·exact⟨by unfold L3.nr;rfl,by unfold toP;simp[PyData.canLay0,hx],by unfold toP;simp[PyData.depth]⟩
 |k+1,d,h=>by
  rcases h with rfl|⟨i,rfl⟩|⟨x,rfl,hx⟩|⟨ds,rfl,h⟩
  ·exact⟨by unfold L3.nr;rfl,by unfold toP;simp[PyData.canLay0],by unfold toP;simp[PyData.depth]⟩
  ·exact⟨by unfold L3.nr;rfl,by unfold toP;simp[PyData.canLay0],by unfold toP;simp[PyData.depth]⟩
  ·exact⟨by unfold L3.nr;rfl,by unfold toP;simp[PyData.canLay0,hx],by unfold toP;simp[PyData.depth]⟩
  ·have q:=lQ λ e he=>Pl.f9 (h e he);refine⟨?_,?_,?_⟩
   ·unfold L3.nr;exact q.nr
   ·unfold toP;simp only[PyData.canLay0];exact q.lay
   ·unfold toP;simp only[PyData.depth];have:=q.dep;lia
def qL(ih:∀x y:D,Pl k x->Pl k y->(PyData.eqv (toP x) (toP y)=true↔x=y)):∀{ds es:List D},(∀e∈ds,Pl k e)->(∀e∈es,Pl k e)->(PyData.eqvAll (toPs ds) (toPs es)=true↔ds=es)
 |[],[],_,_=>by unfold toPs;simp[PyData.eqvAll]
 |[],e::es,_,_=>by unfold toPs;simp[PyData.eqvAll]
 |d::ds,[],_,_=>by unfold toPs;simp[PyData.eqvAll]
 |d::ds,e::es,h1,h2=>by have a:=ih d e (h1 d (o7 ..)) (h2 e (o7 ..));have b:=qL ih (ds:=ds) (es:=es) (λ x hx=>h1 x (k7 _ hx)) (λ x hx=>h2 x (k7 _ hx));unfold toPs;simp only[PyData.eqvAll,A0,a,b,List.cons.injEq]
def jQ:∀{k:Nat} (x y:D),Pl k x->Pl k y->(PyData.eqv (toP x) (toP y)=true↔x=y)
 |0,x,y,hx,hy=>by rcases hx with rfl|⟨i,rfl⟩|⟨z,rfl,_⟩<;>rcases hy with rfl|⟨j,rfl⟩|⟨w,rfl,_⟩<;>simp[toP,PyData.eqv]
 |k+1,x,y,hx,hy=>by
  rcases hx with rfl|⟨i,rfl⟩|⟨z,rfl,_⟩|⟨ds,rfl,hd⟩<;>rcases hy with rfl|⟨j,rfl⟩|⟨w,rfl,_⟩|⟨es,rfl,he⟩<;>first
   |(simp[toP,PyData.eqv];done)
   |(have:=qL (λ x y=>jQ (k:=k) x y) hd he
     unfold toP;simp only[PyData.eqv,D.tup.injEq];exact this)
def xR{x y:D}(hx:Pl k x)(hy:Pl k y)(hb:b=true↔x=y):PyData.eqv (toP x) (toP y)=b:=by rw[A4];exact(jQ x y hx hy).trans hb.symm
def sv(h:Pl k d)(hk:k<=60):SeqAt.shaped (toP d)=true:=by have f:=h.f9;unfold SeqAt.shaped;rw[f.lay,B8 (by have:=f.dep;lia)];rfl
def pY(h:∀e∈ds,Pl k e)(hk:k<=60):SeqAt.shaped (.list (toPs ds))=true:=by
 have f:=lQ λ e he=>(h e he).f9;have h1:(PyData.list (toPs ds)).canLay0=true:=by simp only[PyData.canLay0];exact f.lay
 have h2:(PyData.list (toPs ds)).depth<=64:=by simp only[PyData.depth];have:=f.dep;lia
 unfold SeqAt.shaped;rw[h1,B8 h2];rfl
def G_(h:Pl k d):rB M d=some (toP d):=by
 have f:=h.f9.nr;cases d with
 |ref a=>unfold nr at f;cases f
 |_=>unfold rB;dsimp only;rw[K1 f]
section
variable {Q:bF}
def Lo{x y:D}(hx:Pl k x)(hy:Pl k y)(hk:k<=60)(hb:b=true↔x=y)(q:Q (.bl (!b)) M):yi true x y M Q:=by refine .inr ⟨_,_,G_ hx,G_ hy,sv hx hk,sv hy hk,?_⟩;rw[xR hx hy hb];exact q
def Bz(hM:M p=some (.lst ds))(h:∀e∈ds,Pl k e):rB M (.ref p)=some (.list (toPs ds)):=by have f:=lQ λ e he=>(h e he).f9;unfold rB;simp only[hM];rw[K1 f.nr]
def EC{es:List D}(h1:∀e∈ds,Pl k e)(h2:∀e∈es,Pl k e)(hb:b=true↔ds=es):PyData.eqv (.list (toPs ds)) (.list (toPs es))=b:=by rw[A4];have:=qL (λ x y=>jQ (k:=k) x y) h1 h2;simp only[PyData.eqv];exact this.trans hb.symm
def oR{p2:ap}{es:List D}(hM:M p=some (.lst ds))(hM2:M p2=some (.lst es))(h1:∀e∈ds,Pl k e)(h2:∀e∈es,Pl k e)(hk:k<=60)(hb:b=true↔ds=es)(q:Q (.bl (!b)) M):yi true (.ref p) (.ref p2) M Q:=by refine .inr ⟨_,_,Bz hM h1,Bz hM2 h2,pY h1 hk,pY h2 hk,?_⟩;rw[EC h1 h2 hb];exact q
end
def mY{v:gV}{y:PyData}(ry:Reads s.heap v y bs)(cy:y.canLay0=true)(hu:A.units+y.depth<cLine):∀{ds:List D} {us:List gV} {as:List ap},ReadsAll s.heap us (toPs ds) as->PyData.canLayAll0 (toPs ds)=true->
  ∃e:gV->Bool,(∀u∈us,SeqAt.EqAt A s u v (e u))/\us.map e=ds.map λ d=>PyData.eqv (toP d) y:=by
 intro ds us as ra cl;refine⟨λ u=>PyData.eqv (SeqAt.readOf s.heap u) y,λ u Uo=>?_,?_⟩
 ·obtain⟨d,bs',rd,cd,_⟩:=SeqAt.readsAll_mem _ _ _ cl ra u Uo;have e:=SeqAt.readOf_eq cd rd;dsimp only;rw[e];exact y0 d y A s u v _ _ rd ry cd cy ()
 ·have e:=SeqAt.readsAll_map _ _ _ cl ra;have f:∀(us:List gV)(ds:List D),us.map (SeqAt.readOf s.heap)=toPs ds->us.map (λ u=>PyData.eqv (SeqAt.readOf s.heap u) y)=ds.map λ d=>PyData.eqv (toP d) y:=by
   intro us
   induction us with
   |nil=>
    intro ds q;cases ds with
    |nil=>rfl
    |cons d r=>unfold toPs at q;cases q
   |cons u us ih=>
    intro ds q;cases ds with
    |nil=>unfold toPs at q;cases q
    |cons d r=>
     unfold toPs at q;rw[C8]at q;injection q with q1 q2
     rw[C8,C8,ih r q2,q1]
  exact f us ds e
structure XN(K:K6)(H:Hp)(b:Bool)(p:ap)(xs:List V)(ds:List D)(x:V)(d:D):Prop where
 sq:Sq b K H p xs
 NZ:aA K H ds xs
 dat:sB K H d x
 ns:qm ds=true
 n:nr d=true
 Ek:PyData.canLayAll0 (toPs ds)=true
 lay:(toP d).canLay0=true
 dep:(toP d).depth<62
def any_map(us:List α)(e:α->Bool)(bs:List Bool)(h:us.map e=bs):us.any e=bs.any id:=by rw[<- h,List.any_map];rfl
def RJ(neg:Bool)(hu:eU X):gM X (compareOp (if neg then .NotIn else .In)) (λ x y H Q=>∃(b:Bool)(p:ap)(xs:List V)(ds:List D)(d:D),y=.ref p/\XN X.K H b p xs ds x d/\Q (.bl (if neg then !ds.any (λ e=>PyData.eqv (toP e) (toP d))else ds.any λ e=>PyData.eqv (toP e) (toP d))) H):=by
 intro jp s σ H x y v u Q I rx ry h;obtain⟨b,p,xs,ds,d,rfl,ok,q⟩:=h;cases ry;obtain⟨bs,rb⟩:=Vu I d ok.n ok.dat rx;have hd:=ok.dep;cases b with
 |false=>
  obtain⟨aq,r,pl,hz⟩:=I.list ok.sq;obtain⟨as,ra⟩:=wA I ds ok.ns ok.NZ r;obtain⟨e,e1,e2⟩:=mY (A:=X.A.in1) rb ok.lay (by show X.A.units+1+_ < _;lia) ra ok.Ek;have e3:aq.toArray.any e=ds.any λ e=>PyData.eqv (toP e) (toP d):=by rw[show aq.toArray.any e=aq.any e by simp,any_map _ _ _ e2,List.any_map];rfl
  cases neg with
  |false=>exact SeqAt.in_listAt e pl.isList (λ w hw=>e1 w (by simpa using hw)) ⟨.bl _,H,I,rfl,by rw[e3];exact q⟩
  |true=>exact SeqAt.notIn_listAt e pl.isList (λ w hw=>e1 w (by simpa using hw)) ⟨.bl _,H,I,rfl,by rw[e3];exact q⟩
 |true=>
  obtain⟨aq,r,pl,hz⟩:=I.tuple ok.sq;obtain⟨as,ra⟩:=wA I ds ok.ns ok.NZ r;obtain⟨e,e1,e2⟩:=mY (A:=X.A.in1) rb ok.lay (by show X.A.units+1+_ < _;lia) ra ok.Ek;have e3:aq.toArray.any e=ds.any λ e=>PyData.eqv (toP e) (toP d):=by rw[show aq.toArray.any e=aq.any e by simp,any_map _ _ _ e2,List.any_map];rfl
  cases neg with
  |false=>exact SeqAt.in_tupleAt e pl (λ w hw=>e1 w (by simpa using hw)) ⟨.bl _,H,I,rfl,by rw[e3];exact q⟩
  |true=>exact SeqAt.notIn_tupleAt e pl (λ w hw=>e1 w (by simpa using hw)) ⟨.bl _,H,I,rfl,by rw[e3];exact q⟩
end L3
namespace L2
open PySem.Spec PyProof.Rows L5
def yz(hc:X.calm=true):dr X (.builtin "any") (λ xs H Q=>∃(p:ap)(bs:List Bool),xs=[.ref p]/\eO X.K H p (bs.map V.bl)/\Q (.bl (bs.any id)) H):=by
 intro jp s σ H xs us Q I r h;obtain⟨p,bs,rfl,hq,q⟩:=h;obtain⟨u,rfl,r1⟩:=vals1 r;cases r1;obtain⟨aq,rv,pl,hz⟩:=I.list hq;refine call_any_walk (x3 pl.isList ?_);have iQ:p≠s.heap.objs.size:=by obtain⟨o,n,e,_⟩:=pl;exact D6 (D7 e)
 have hlen:aq.length=bs.length:=by rw[<- rv.length,B3]
 refine⟨s.heap.objs.size,_,_,_,_,_,λ i=>(bs[i]?).getD false,rfl,Walks.list (A:=X.A.in1) (show X.A.in1.handled=none from I.ok.hd hc) s.heap.objs.size p iQ aq.toArray,⟨⟨_,n6 _ rfl,rfl,rfl⟩,pl.isList.at λ o e=>j5 _ e⟩,?_,λ h' tk hk=>?_⟩
 ·intro i v s' Q' E' hP hQ;have Pj:aq[i]?=some v:=by simpa using hP
  have hi:i<bs.length:=by rw[<- hlen];exact(c7.mp Pj).1
  have hb:(bs.map V.bl)[i]?=some (V.bl bs[i]):=by simp[hi]
  obtain⟨u,hu,ru⟩:=rv.get hb;rw[Pj]at hu;cases hu;have e:v=Value.bool bs[i]:=ru;subst e;have:(bs[i]?).getD false=bs[i]:=by simp[hi]
  dsimp only at hQ;rw[this]at hQ;exact w9 hQ
 ·refine⟨.bl (bs.any id),H,I.kept (t':=tk) λ b o e=>hk b o (by simpa using D6 (D7 e)) (j5 _ e),?_,q⟩;show Value.bool _=Value.bool _;congr 1;rw[x6,hlen];rw[A4];simp only[List.any_eq_true,dL,id];constructor
  ·rintro⟨i,hi,h⟩;exact⟨bs[i],A2 hi,by simpa[hi]using h⟩
  ·rintro⟨b,hb,h⟩;obtain⟨i,hi,rfl⟩:=mem_iff_getElem.mp hb;exact⟨i,hi,by simpa[hi]using h⟩
end L2
namespace L3
open PySem.Spec L2 L5 PyProof.Rows
def Xt:List D->Mem->bF->Prop:=λ xs M Q=>∃(a:ap)(bs:List Bool),xs=[.ref a]/\bD M a=some (bs.map D.bl)/\Q (.bl (bs.any id)) M
def Xz(hc:X.calm=true):fZ X (.builtin "any") Xt:=⟨_,yz hc,λ xs ds H M Q2 Q hd hm q k=>by
 obtain⟨a,bs,rfl,hM,q⟩:=q;obtain⟨x,r,rfl,hx,hr⟩:=af.mp hd;cases(ao.mp hr);cases(ay.mp hx);obtain⟨ys,h,hy⟩:=fE hM hm;exact⟨a,bs,rfl,eO.of (by rw[h,x_ hy]),k _ H _ M (aY.mpr rfl) hm (ar.refl H) q⟩⟩
def Xs:List D->Mem->bF->Prop:=λ ds M Q=>∃bs:List Bool,ds=bs.map D.bl/\Q (.bl (bs.any id)) M
def KA:yI Xt Xs:=λ ds M p Q hp hz q=>by obtain⟨bs,rfl,q⟩:=q;exact⟨p,bs,rfl,sJ,M,(qX.refl M).put hp,q⟩
def Pw:List D->Mem->bF->Prop:=λ xs M Q=>∃i j,xs=[.int i,.int j]/\Q (.int (max i j)) M
def Xy(hc:X.calm=true):fZ X (.builtin "max") Pw:=⟨_,ER hc,λ xs ds H M Q2 Q hd hm q k=>by
 obtain⟨i,j,rfl,q⟩:=q;obtain⟨v,r,rfl,hv,hr⟩:=af.mp hd;obtain⟨v2,r2,rfl,Nq,S5⟩:=af.mp hr;cases(ao.mp S5);cases(au.mp hv);cases(au.mp Nq);refine⟨i,j,rfl,k _ H _ M (au.mpr rfl) hm (ar.refl H) ?_⟩;have e:(if j > i then j else i)=max i j:=by split<;>lia
 rw[e];exact q⟩
def Py:List D->Mem->bF->Prop:=λ xs M Q=>(∃b,xs=[.bl b]/\Q (.int (if b then 1 else 0)) M)\/∃i,xs=[.int i]/\Q (.int i) M
def vp:fZ X (.type "int") Py:=⟨_,ET,λ xs ds H M Q2 Q hd hm q k=>by
 rcases q with⟨b,rfl,q⟩|⟨b,rfl,q⟩
 ·obtain⟨v,r,rfl,hv,hr⟩:=af.mp hd;cases(ao.mp hr);cases(aY.mp hv);exact .inr ⟨b,rfl,k _ H _ M (au.mpr rfl) hm (ar.refl H) q⟩
 ·obtain⟨v,r,rfl,hv,hr⟩:=af.mp hd;cases(ao.mp hr);cases(au.mp hv);exact .inl ⟨b,rfl,k _ H _ M (au.mpr rfl) hm (ar.refl H) q⟩⟩
def Xl:iR:=λ x y M Q=>∃l k ds,x=.ref l/\y=.int k/\M l=some (.lst ds)/\-(2^63)<=k/\k<2^63/\ds.length*k.toNat<=sizeLine/\∀p,M p=none->Q (.ref p) (ag M p (.lst (List.replicate k.toNat ds).flatten))
def yg:iR:=λ x y M Q=>yh x y M Q\/Xl x y M Q
def i_:iC X (binaryOp .Mult) yg:=RZ.or ⟨_,RC,λ x y d e H M Q2 Q hd he hm q k=>by
 obtain⟨l,n,ds,rfl,rfl,hM,h1,h2,hz,q⟩:=q;cases(ay.mp hd);cases(au.mp he);obtain⟨xs,hx,Yo⟩:=hm l _ hM;exact⟨l,n,xs,rfl,rfl,hx,h1,h2,by rw[Yo.length];exact hz,λ p hp=>k _ _ (.ref p) _ (ay.mpr rfl) (dN hp (qN Yo n.toNat) hm) (ar.laid hp) (q p (hm.free hp))⟩⟩
structure InD(M:Mem)(x y:D)(ds:List D):Prop where
 sq:cR M y=some ds
 ns:qm ds=true
 n:nr x=true
 Ek:PyData.canLayAll0 (toPs ds)=true
 lay:(toP x).canLay0=true
 dep:(toP x).depth<62
def TR(neg:Bool):iR:=λ x y M Q=>∃ds,InD M x y ds/\Q (.bl (if neg then !ds.any (λ e=>PyData.eqv (toP e) (toP x))else ds.any λ e=>PyData.eqv (toP e) (toP x))) M
def O1(neg:Bool)(hu:eU X):iC X (compareOp (if neg then .NotIn else .In)) (TR neg):=⟨_,RJ neg hu,λ x y d e H M Q2 Q hd he hm q k=>by
 obtain⟨ds,ok,q⟩:=q;obtain⟨p,xs,rfl,q1,x1⟩:=ib ok.sq he hm;exact⟨_,p,xs,ds,d,rfl,⟨q1,x1,hd,ok.ns,ok.n,ok.Ek,ok.lay,ok.dep⟩,k _ H _ M (aY.mpr rfl) hm (ar.refl H) q⟩⟩
def EL:iR:=λ x y M Q=>YA x y M Q\/TR false x y M Q
def wR(hu:eU X):iC X (compareOp .In) EL:=Zu.or (O1 false hu)
def CO:iR:=λ x y M Q=>∃i j,x=.str i/\y=.str j/\Q (.bl (!(!(Builtin.Str.occurrences j i 0 j.length 1).isEmpty))) M
def HN:iC X (compareOp .NotIn) CO:=⟨_,uk,λ x y d e H M Q2 Q hd he hm q k=>by
 obtain⟨i,j,rfl,rfl,q⟩:=q;cases(aU.mp hd);cases(aU.mp he);exact⟨i,j,rfl,rfl,k _ H _ M (aY.mpr rfl) hm (ar.refl H) q⟩⟩
def mD:iR:=λ x y M Q=>CO x y M Q\/TR true x y M Q
def lT(hu:eU X):iC X (compareOp .NotIn) mD:=HN.or (O1 true hu)
structure XJ(ds:List D)(y:D)(j:Nat):Prop where
 lt:j<ds.length
 hit:∀e,ds[j]?=some e->PyData.eqv (toP e) (toP y)=true
 no:∀m e,m<j->ds[m]?=some e->PyData.eqv (toP e) (toP y)=false
def Aw:D->List D->Mem->bF->Prop:=λ x vs M Q=>∃p ds y j,x=.ref p/\vs=[y]/\M p=some (.lst ds)/\InD M y x ds/\XJ ds y j/\Q (.int (j:Nat)) M
def lY(hu:eU X):PH X "list.index" Aw:=⟨λ x vs H Q=>∃p ds xs d y j,x=.ref p/\vs=[y]/\XN X.K H false p xs ds y d/\XJ ds d j/\Q (.int (j:Nat)) H,by
  intro jp s σ H x xs v us Q I rx rv h;obtain⟨p,ds,zs,d,y,j,rfl,rfl,ok,ix,q⟩:=h;cases(show v=Value.ref p from rx);obtain⟨u,rfl,ru⟩:=rv.one;have hd:=ok.dep;obtain⟨bs,rb⟩:=Vu I d ok.n ok.dat ru;obtain⟨aq,r,pl,hz⟩:=I.list ok.sq;obtain⟨as,ra⟩:=wA I ds ok.ns ok.NZ r;obtain⟨e,e1,e2⟩:=mY (A:=X.A.in1) rb ok.lay (by show X.A.units+1+_ < _;lia) ra ok.Ek;obtain⟨⟨c,dd,da,sl⟩,ho,hc,n,xI⟩:=pl.isList;cases(show c=.type "list" from hc);cases(show da=.seq aq.toArray n from xI);have l1:=r.length;have l2:=ok.NZ.length;have eB:=ix.lt;have at_:∀m (hm:m<aq.length) (kU:m<ds.length),e aq[m]=PyData.eqv (toP ds[m]) (toP d):=λ m hm kU=>by have:=J8 (·[m]?) e2;simp only[u6,g9 hm,g9 kU,Option.map_some,Option.some.injEq]at this;exact this
  have hs:ds.length<=16777216:=by
   have h2:zs.length<=sizeLine:=hz;have h3:sizeLine=16777216:=by decide
   lia
  refine J5 PySem.F.slot_list_index ⟨_,ho,rfl⟩ PySem.F.entry_list_index (PySem.F.args_list_index_2 _ _) (SeqAt.list_indexAt p aq.toArray n dd sl u e j (by simp;lia) () ?_ ?_) ⟨ho,λ y hy=>e1 y (by simpa using hy),?_⟩
  ·have:=at_ j () eB;simp only[getElem_toArray];rw[this];exact ix.hit _ (g9 eB)
  ·intro m hm hmj;have fH:m<aq.length:=by simpa using hm
   have:=at_ m fH ();simp only[getElem_toArray];rw[this];exact ix.no m _ hmj (g9 ())
  ·exact⟨.int _,H,I.tok _,⟨_,rfl⟩,q⟩,λ x xs d ds H M Q2 Q hx hd hm q k=>by
  obtain⟨p,es,y,j,rfl,rfl,hM,ok,ix,q⟩:=q;cases(ay.mp hx);obtain⟨v,r,rfl,hv,hr⟩:=af.mp hd;cases(ao.mp hr);obtain⟨zs,hz,ju⟩:=hm p _ hM;exact⟨p,es,zs,y,v,j,rfl,rfl,⟨eO.of hz,ju,hv,ok.ns,ok.n,ok.Ek,ok.lay,ok.dep⟩,ix,k _ H _ M (au.mpr rfl) hm (ar.refl H) q⟩⟩
def TM:D->List D->Mem->bF->Prop:=λ x vs M Q=>(∃p ds y,x=.ref p/\vs=[]/\M p=some (.lst ds)/\ds[ds.length-1]?=some y/\Q y (ag M p (.lst ds.dropLast)))\/
 ∃p ds i k y,x=.ref p/\vs=[.int i]/\M p=some (.lst ds)/\-(2^63)<=i/\i<2^63/\seqIndex? i ds.length=some k/\ds[k]?=some y/\Q y (ag M p (.lst (ds.eraseIdx k)))
def aA.eraseIdx:∀{ds:List D} {xs:List V} (n:Nat),aA K H ds xs->aA K H (ds.eraseIdx n) (xs.eraseIdx n)
 |[],xs,n,h=>by rw[ao]at h;subst h;simp[ao]
 |d::ds,xs,0,h=>by obtain⟨x,r,rfl,a,b⟩:=af.mp h;exact b
 |d::ds,xs,n+1,h=>by obtain⟨x,r,rfl,a,b⟩:=af.mp h;rw[eraseIdx_cons_succ,eraseIdx_cons_succ,af];exact⟨x,_,rfl,a,b.eraseIdx n⟩
def aA.dropLast(h:aA K H ds xs):aA K H ds.dropLast xs.dropLast:=by rw[dropLast_eq_take,dropLast_eq_take,h.length];exact h.take _
def PJ.or{id:String}(h:PJ X id r)(h':PJ X id r'):PJ X id (λ x vs H Q=>r x vs H Q\/r' x vs H Q):=by
 intro jp s σ H x xs v us Q I a b q;rcases q with q|q
 ·exact h jp s σ H x xs v us Q I a b q
 ·exact h' jp s σ H x xs v us Q I a b q
def O3:PH X "list.pop" TM:=⟨_,PJ.or Sd Ih,λ x xs d ds H M Q2 Q hx hd hm q k=>by
 rcases q with⟨p,es,y,rfl,rfl,hM,hy,q⟩|⟨p,es,i,j,y,rfl,rfl,hM,h1,h2,hs,hy,q⟩
 ·cases(ay.mp hx);cases(ao.mp hd);obtain⟨zs,h1,h2⟩:=hm p _ hM;obtain⟨v,hv,Z3⟩:=h2.get hy;have t:=ar.lst (o:=.lst zs.dropLast) h1;exact .inl ⟨p,zs,v,rfl,rfl,h1,by rw[h2.length];exact hv,k _ _ y _ (sB.mono t y Z3) (hm.put (u:=.lst es.dropLast) t ⟨_,aQ,aA.mono t _ h2.dropLast⟩) t q⟩
 ·cases(ay.mp hx);obtain⟨v0,r,rfl,hv0,hr⟩:=af.mp hd;cases(ao.mp hr);cases(au.mp hv0);obtain⟨zs,g1,g2⟩:=hm p _ hM;obtain⟨v,hv,Z3⟩:=g2.get hy;have t:=ar.lst (o:=.lst (zs.eraseIdx j)) g1;exact .inr ⟨p,zs,i,j,v,rfl,rfl,g1,h1,h2,by rw[g2.length];exact hs,hv,k _ _ y _ (sB.mono t y Z3) (hm.put (u:=.lst (es.eraseIdx j)) t ⟨_,aQ,aA.mono t _ (g2.eraseIdx j)⟩) t q⟩⟩
section
variable {Q:bF}
def Lu{i j:Int}(q:Q (.int (max i j)) M):Pw [.int i,.int j] M Q:=⟨i,j,rfl,q⟩
def GK(q:Q (.int (if b then 1 else 0)) M):Py [.bl b] M Q:=.inl ⟨b,rfl,q⟩
def lH{i j:Int}(h:vH i j)(q:Q (.int (i*j)) M):yg (.int i) (.int j) M Q:=.inl (GD h q)
def Gz{i:Str}{j:Int}(h:MulOk i j)(q:Q (.str (Txt.mul i j)) M):yg (.str i) (.int j) M Q:=.inl (GC h q)
def Gy{k:Int}(h0:0<=k)(h1:k<=10000)(q:Q (.tup (List.replicate k.toNat d)) M):yg (.tup [d]) (.int k) M Q:=.inl (GB h0 h1 q)
def GA{k:Int}(hM:M p=some (.lst [d]))(h0:0<=k)(h1:k<=10000)(q:∀p,M p=none->Q (.ref p) (ag M p (.lst (List.replicate k.toNat d)))):yg (.ref p) (.int k) M Q:=by
 refine .inr ⟨p,k,[d],rfl,rfl,hM,Int.le_trans (by decide) h0,u3 h1 (by decide),?_,?_⟩
 ·have:[d].length*k.toNat<=10000:=by simp;lia
  exact Zc this
 ·have e:(List.replicate k.toNat [d]).flatten=List.replicate k.toNat d:=by
   generalize k.toNat=n
   induction n with
   |zero=>rfl
   |succ n ih=>rw[m9,w6,ih,m9];rfl
  rw[e];exact q
def LA{x:D}(e:inD x ds=some b)(q:Q (.bl b) M):EL x (.tup ds) M Q:=.inl (QU e q)
def LB{x:D}(h:M a=some (.lst ds))(e:inD x ds=some b)(q:Q (.bl b) M):EL x (.ref a) M Q:=.inl (QV h e q)
def dq(h:M a=some (.lst ds)):cR M (.ref a)=some ds:=by show bD M a=some ds;unfold bD;rw[h]
def ni{x y:D}(hs:cR M y=some ds)(hx:Pl k x)(hd:∀e∈ds,Pl k e)(hk:k<=60):InD M x y ds:=by have f:=lQ λ e he=>(hd e he).f9;exact⟨hs,f.nr,hx.f9.nr,f.lay,hx.f9.lay,by have:=hx.f9.dep;lia⟩
def JP{x:D}(hx:Pl k x)(hd:∀e∈ds,Pl k e)(hb:b=true↔x∈ds):(ds.any λ e=>PyData.eqv (toP e) (toP x))=b:=by
 rw[A4,hb,List.any_eq_true];constructor
 ·rintro⟨e,he,h⟩;rw[<- (jQ e x (hd e he) hx).mp h];exact he
 ·intro h;exact⟨x,h,(jQ x x hx hx).mpr rfl⟩
def tZ{x y:D}(hs:cR M y=some ds)(hx:Pl k x)(hd:∀e∈ds,Pl k e)(hk:k<=60)(hb:b=true↔x∈ds)(q:Q (.bl b) M):EL x y M Q:=by refine .inr ⟨ds,ni hs hx hd hk,?_⟩;rw[JP hx hd hb];exact q
def qc{x y:D}(hs:cR M y=some ds)(hx:Pl k x)(hd:∀e∈ds,Pl k e)(hk:k<=60)(hb:b=true↔x∈ds)(q:Q (.bl (!b)) M):mD x y M Q:=by refine .inr ⟨ds,ni hs hx hd hk,?_⟩;rw[JP hx hd hb];exact q
def uC{xs:List α}{enc:α->D}(inj:∀a b,enc a=enc b->a=b)(a:α):enc a∈xs.map enc↔a∈xs:=by
 rw[D8];constructor
 ·rintro⟨b,hb,e⟩;rw[<- inj _ _ e];exact hb
 ·intro h;exact⟨a,h,rfl⟩
def lJ[DecidableEq α]{xs:List α}{a:α}(enc:α->D)(inj:∀a b,enc a=enc b->a=b)(hM:M p=some (.lst (xs.map enc)))(ha:a∈xs)(hp:∀a,Pl k (enc a))(hk:k<=60)(q:Q (.int (xs.idxOf a:Nat)) M):Aw (.ref p) [enc a] M Q:=by
 have eB:xs.idxOf a<xs.length:=idxOf_lt_length_of_mem ha;refine⟨p,xs.map enc,enc a,xs.idxOf a,rfl,rfl,hM,ni (dq hM) (hp a) (dM λ x _=>hp x) hk,⟨by rw[B3];exact eB,λ e he=>?_,λ m e hm he=>?_⟩,q⟩
 ·rw[u6,g9 eB,getElem_idxOf]at he;cases he;exact(jQ _ _ (hp a) (hp a)).mpr rfl
 ·rw[u6,g9 ()]at he;cases he;refine xR (hp _) (hp a) ⟨(λ z=>by cases z),λ z=>?_⟩;have:=inj _ _ z;have iQ:=not_of_lt_findIdx (p:=(·==a)) (xs:=xs) (i:=m) hm;exact be (show(xs[m]==a)=true by rw[this];simp) (by simpa using iQ)
def QK{y:D}(hM:M p=some (.lst (ds++[y])))(q:Q y (ag M p (.lst ds))):TM (.ref p) [] M Q:=by refine .inl ⟨p,ds++[y],y,rfl,rfl,hM,by simp,?_⟩;rw[dropLast_concat];exact q
def Gx{y:D}(hM:M p=some (.lst ds))(hj:ds[j]?=some y)(hz:ds.length<=10000)(q:Q y (ag M p (.lst (ds.eraseIdx j)))):TM (.ref p) [.int (j:Int)] M Q:=by have hl:j<ds.length:=(c7.mp hj).1;exact .inr ⟨p,ds,j,j,y,rfl,rfl,hM,Int.le_trans (by decide) (Int.natCast_nonneg j),u3 (show(j:Int)<=10000 by lia) (by decide),by rw[seqIndex_of () ()];simp,hj,q⟩
end
end L3
namespace L5
open PyProof.Rows
abbrev TH(d:gV):List (Str×gV):=[(cS "default",d)]
def EX(a d:gV):argsOk "max" ⟨[a],TH d⟩:=by unfold argsOk;kernel_rfl
section
variable {R:Result->am->Prop}{I:ap}{wr:List ap}{P:Nat->gV->Prop}{St:Nat->Heap->Prop}{d:gV}
def ur:(toString "max"++toString ".loop":String)="max.loop":=by decide
abbrev vq(xs:Array gV)(c:Nat):Obj:={cls:=.type "list",dict:=none,data:=.seq xs c,slots:=#[]}
def Ij(W:Walks prog w A.in1 I fp wr n P St){S:ap}(Uy:S∉wr){c:Nat}(yT:St n s.heap)(hS:s.heap.get? S=some (vq #[vb,vb] c))(hR:∀h' tk,(∀b o,b∉wr->b≠S->s.heap.get? b=some o->h'.get? b=some o)->R (.ok (.ret vb)) {s with heap:=h',toks:=tk}):codeAny (model prog w) A (.builtin "max.loop" ⟨[.ref I,.none,.ref S],TH d⟩) R s:=by refine B2 F.entry_max_loop ?_;rw[l5 z9 _];show wpAny _ A.in1 (seqItems? (.ref S)>>=_) _ _ s;refine J1 (B9 hS rfl ?_);show wpAny _ A.in1 (tryCatch (pyNext (.ref I)) _>>=_) _ _ s;refine J1 (C3 (W.done s _ _ yT λ h' tk hk=>?_));have Ph:=hk S _ Uy hS;show wpAny _ A.in1 (updateSeq S (λ _=>#[])>>=_) _ _ _;refine J1 (wpAny_updateSeq Ph rfl (J1 (J0 (J3 ?_))));exact hR _ tk λ b o Fj NF e=>(j6 _ _ (J9 NF)).trans (hk b o Fj e)
def Eh(W:Walks prog w A.in1 I fp wr n P St)(bt:Nat->Nat->Bool)(To:CmpOf prog w A.in1 .Gt P bt)(S:ap)(Uz:S∉fp):∀(k j:Nat)(s:am)(vb:gV)(c:Nat),n-(j+1)=k->j+1<=n->St (j+1) s.heap->P (argBest bt j) vb->s.heap.get? S=some (vq #[vb,vb] c)->
  (∀v h' tk,P (argBest bt (n-1)) v->(∀b o,b∉wr->b≠S->s.heap.get? b=some o->h'.get? b=some o)->R (.ok (.ret v)) {s with heap:=h',toks:=tk})->
  codeAny (model prog w) A (.builtin "max.loop" ⟨[.ref I,.none,.ref S],TH d⟩) R s:=by
 have Uy:S∉wr:=λ h=>Uz (W.sub _ h);intro k
 induction k with
 |zero=>
  intro j s vb c hk hj yT Yt hS hR;have e:j+1=n:=()
  exact Ij W Uy (e▸yT) hS λ h' tk q=>hR vb h' tk (by rw[<- e];exact Yt) q
 |succ k ih=>
  intro j s vb c hk hj yT Yt hS hR;have eB:j+1<n:=()
  refine B2 F.entry_max_loop ?_;rw[l5 z9 _];show wpAny _ A.in1 (seqItems? (.ref S)>>=_) _ _ s;refine J1 (B9 hS rfl ?_);show wpAny _ A.in1 (tryCatch (pyNext (.ref I)) _>>=_) _ _ s;refine J1 (C3 (W.item (j+1) s _ _ eB yT λ v h' tk hP Nr uT=>?_));have Ph:=uT S _ Uy hS;show wpAny _ A.in1 (tryCatch (holding [v,v] (richCompare .Gt v vb>>=_)) _>>=_) _ _ _;refine J1 (C3 (C4 (J1 (To (j+1) (argBest bt j) v vb _ _ _ hP Yt (J1 (C4 (w9 (J1 (J0 (J3 ?_))))))))));cases hb:bt (j+1) (argBest bt j)with
  |true=>simp only[K0];refine J1 (wpAny_updateSeq Ph rfl (J1 (J0 ?_)));rw[ur];refine J3 ⟨D1 z9 _,ih (j+1) _ v _ () eB (W.frame _ _ _ Nr λ b hbf o e=>(j6 _ _ (λ h:S=b=>Uz (by rw[h];exact hbf))).trans e) (by simp only[argBest,hb,K0];exact hP) (j7 _ Ph rfl) λ v' h2 t2 Pj WL=>?_⟩;exact hR v' h2 t2 Pj λ b o Fj NF e=>WL b o Fj NF ((j6 _ _ (J9 NF)).trans (uT b o Fj e))
  |false=>simp only[p5,J7];refine J1 (J0 ?_);rw[ur];exact J3 ⟨D1 z9 _,ih (j+1) _ vb c () eB Nr (by simp only[argBest,hb,p5,J7];exact Yt) Ph λ v' h2 t2 Pj WL=>hR v' h2 t2 Pj λ b o Fj NF e=>WL b o Fj NF (uT b o Fj e)⟩
def zV(W:Walks prog w A.in1 I fp wr n P St)(bt:Nat->Nat->Bool)(To:CmpOf prog w A.in1 .Gt P bt)(S:ap)(Uz:S∉fp){c:Nat}(yT:St 0 s.heap)(hS:s.heap.get? S=some (vq #[] c))(h0:n=0->∀h' tk,(∀b o,b∉wr->b≠S->s.heap.get? b=some o->h'.get? b=some o)->R (.ok (.ret d)) {s with heap:=h',toks:=tk})(hR:0<n->∀v h' tk,P (argBest bt (n-1)) v->(∀b o,b∉wr->b≠S->s.heap.get? b=some o->h'.get? b=some o)->R (.ok (.ret v)) {s with heap:=h',toks:=tk}):codeAny (model prog w) A (.builtin "max.loop" ⟨[.ref I,.none,.ref S],TH d⟩) R s:=by
 have Uy:S∉wr:=λ h=>Uz (W.sub _ h);refine B2 F.entry_max_loop ?_;rw[l5 z9 _];show wpAny _ A.in1 (seqItems? (.ref S)>>=_) _ _ s;refine J1 (B9 hS rfl ?_);show wpAny _ A.in1 (tryCatch (pyNext (.ref I)) _>>=_) _ _ s;by_cases hn:0<n
 ·refine J1 (C3 (W.item 0 s _ _ hn yT λ v h' tk hP Nr uT=>?_));have Ph:=uT S _ Uy hS;show wpAny _ A.in1 (updateSeq S (λ _=>#[v,v])>>=_) _ _ _;refine J1 (wpAny_updateSeq Ph rfl ?_);rw[ur];refine J3 ⟨D1 z9 _,Eh W bt To S Uz _ 0 _ v _ rfl hn (W.frame _ _ _ Nr λ b hbf o e=>(j6 _ _ (λ h:S=b=>Uz (by rw[h];exact hbf))).trans e) hP (j7 _ Ph rfl) λ v' h2 t2 Pj WL=>?_⟩;exact hR hn v' h2 t2 Pj λ b o Fj NF e=>WL b o Fj NF ((j6 _ _ (J9 NF)).trans (uT b o Fj e))
 ·have e:n=0:=()
  refine J1 (C3 (W.done s _ _ (e▸yT) λ h' tk hk=>?_));exact J1 (J4 (J3 (h0 e h' tk λ b o Fj _ q=>hk b o Fj q)))
end
def EV(d:gV):Builtin.Builtins.bindParams "max" ["key","default"] 0 ⟨[],TH d⟩=pure [none,some d]:=by kernel_rfl
def vk{id:String}{b:Builtin}{kw:List (Str×gV)}{Q:gV->am->Prop}(hk:builtinKind id=none)(hp:plainId id=true)(hb:entryFor table id=some b)(ha:argsOk id ⟨args,kw⟩) (hc:wpAny (model prog w) A.in1 (b ⟨args,kw⟩) (λ fin s'=>match fin with
   | .done f=>(match(Except.ok f:Result)with| .ok (.ret v)=>Q v s'| .ok _=>False| .error e=>E e s')
   | .again c'=>c'.quiet=true/\codeAny (model prog w) A c' (λ r s'=>match r with| .ok (.ret v)=>Q v s'| .ok _=>False| .error e=>E e s') s') E s):wpAny (model prog w) A (call (.builtin id) args kw) Q E s:=by
 refine wpAny_call (codeAny_call_builtin hp hb ?_);simp only[checkBuiltinCall,hk];cases Z_:Manifest.signature? id with
 |none=>exact J3 hc
 |some sig=>have ha':Bind.checkArgs id sig ⟨args,kw⟩=pure .unit:=by{simpa only[argsOk,Z_]using ha};simp only[ha'];exact J3 hc
def EO(hA:A.in1.handled=none){l:ap}{d:gV}(hl:s.heap.IsList l aq.toArray)(hi:IntsAre aq ns)(h0:ns=[]->∀h' tk,(∀b o,s.heap.get? b=some o->h'.get? b=some o)->Q d {s with heap:=h',toks:=tk})(hR:∀m t h' tk,m∈ns->(∀x∈ns,x<=m)->(∀b o,s.heap.get? b=some o->h'.get? b=some o)->Q (.int m t) {s with heap:=h',toks:=tk}):wpAny (model prog w) A (call (.builtin "max") [.ref l] (TH d)) Q E s:=by
 have eB:l<s.heap.objs.size:=by obtain⟨o,e,_⟩:=hl;exact D7 e
 have iQ:l≠s.heap.objs.size:=D6 eB;have hlen:aq.length=ns.length:=hi.length;refine vk F.kind_max F.plain_max F.entry_max (EX _ _) ?_;show wpAny _ A.in1 (Builtin.Builtins.bindParams "max" ["key","default"] 0 ⟨[],TH d⟩>>=_) _ _ s;refine J1 (wpAny_of_eq (EV d) (J1 (J3 ?_)));refine J1 (x3 hl (J1 (w5 ?_)));rw[ur];have uR:∀i v,aq.toArray[i]?=some v->∃t,v=Value.int (ns.getD i 0) t:=λ i v e=>by
  have e:aq[i]?=some v:=by simpa using e
  have h1:i<ns.length:=by rw[<- hlen];exact(c7.mp e).1
  obtain⟨t,e2⟩:=L2.pj hi h1;rw[e]at e2;cases e2;exact⟨t,by simp[c3,h1]⟩
 have sz:(s.heap.push {cls:=.type "list_iterator",data:=.fields #[.ref l,.int 0 0]}).objs.size=s.heap.objs.size+1:=C0 ..;have W:=Walks.list (prog:=prog) (w:=w) hA s.heap.objs.size l iQ aq.toArray;refine J3 ⟨D1 z9 _,zV (d:=d) W (λ i j=>decide (ns.getD i 0 > ns.getD j 0)) (CmpOf.ints_gt _ uR) _ ?_ ?_ (n6 _ rfl) ?_ ?_⟩
 ·show(s.heap.push {cls:=.type "list_iterator",data:=.fields #[.ref l,.int 0 0]}).objs.size∉_;rw[sz];simp only[C9,not_mem_nil,or_false,not_or];exact⟨Nat.succ_ne_self _,G4 (x9 eB)⟩
 ·refine W.frame _ _ _ ⟨⟨_,n6 _ rfl,rfl,rfl⟩,hl.at λ o e=>j5 _ e⟩ λ b _ o e=>j5 _ e
 ·intro hn h' tk hk;have e:ns=[]:=i8.mp (by rw[<- hlen];simpa using hn);refine h0 e h' tk λ b o q=>hk b o ?_ ?_ (j5 _ (j5 _ q))
  ·simpa using D6 (D7 q)
  ·have:=D7 q;show b≠(s.heap.push _).objs.size;rw[sz];exact D6 (x9 (D7 q))
 ·intro hn v h' tk hP hk;have hn:0<aq.length:=by simpa using hn
  obtain⟨b1,b2⟩:=argBest_gt (λ i=>ns.getD i 0) (aq.length-1);obtain⟨t,rfl⟩:=uR _ _ hP;have hm:argBest (λ i j=>decide (ns.getD i 0 > ns.getD j 0)) (aq.toArray.size-1)<ns.length:=by simp only[x6];lia
  refine hR _ t h' tk ?_ ?_ λ b o q=>hk b o ?_ ?_ (j5 _ (j5 _ q))
  ·rw[c3,g9 hm];exact A2 _
  ·intro x hx;obtain⟨j,hj,rfl⟩:=mem_iff_getElem.mp hx;have:=b2 j ();simp only[x6];simpa[c3,hj]using this
  ·simpa using D6 (D7 q)
  ·have:=D7 q;show b≠(s.heap.push _).objs.size;rw[sz];exact D6 (x9 (D7 q))
end L5
namespace L2
open PySem.Spec PyProof.Rows L5
def ip(d:Int):List Int->Int
 |[]=>d
 |n::ns=>ns.foldl max n
def foldl_max:∀(ns:List Int)(n:Int),n<=ns.foldl max n/\(∀x∈ns,x<=ns.foldl max n)/\(ns.foldl max n=n\/ns.foldl max n∈ns)
 |[],n=>⟨Int.le_refl _,(λ x h=>by cases h),.inl rfl⟩
 |m::ns,n=>by
  obtain⟨h1,h2,h3⟩:=foldl_max ns (max n m);rw[foldl_cons];refine⟨(),λ x hx=>?_,?_⟩
  ·rcases C9.mp hx with rfl|hx
   ·lia
   ·exact h2 x hx
  ·rcases h3 with h3|h3
   ·by_cases e:n<=m
    ·exact .inr (by rw[h3];simp[Int.max_eq_right e])
    ·exact .inl (by rw[h3];lia)
   ·exact .inr (k7 _ h3)
def MQ{d:Int}{m:Int}(h1:m∈ns)(h2:∀x∈ns,x<=m):ip d ns=m:=by
 cases ns with
 |nil=>cases h1
 |cons n ns=>
  obtain⟨g1,g2,g3⟩:=foldl_max ns n;show ns.foldl max n=m;refine Int.le_antisymm ?_ ?_
  ·rcases g3 with g3|g3
   ·rw[g3];exact h2 n (o7 ..)
   ·exact h2 _ (k7 _ g3)
  ·rcases C9.mp h1 with rfl|h1
   ·exact g1
   ·exact g2 m h1
section
variable {c:Expr}{te tc:TE}{p kp:Pos}
def L'(hc:X.calm=true)(hg:Gl X "max")(hm:X.mg "max"=none)(he:PE X e te)(hd:PE X c tc)(hs:starEach [e] X.env=[(false,eval e X.env)]:=by rfl)(xE:backTo pos (starEach [e] X.env)=(false,eval e X.env)::backTo pos (starEach [] X.env):=by rfl)(nk:(backTo pos (starEach [e] X.env)).any (·.1)=false:=by rfl):PE X (.Call (.Name "max" p) [e] [⟨some "default",c,kp⟩] pos) (λ σ H Q=>te σ H λ x H1=>tc σ H1 λ y H2=>∃(l:ap)(ns:List Int)(d:Int),x=.ref l/\y=.int d/\eO X.K H2 l (ns.map V.int)/\Q (.int (ip d ns)) H2):=by
 intro jp s σ H Q I h;refine q9 (jf I hg hm PyProof.Rows.boot_max ?_ (by decide) (by decide));refine PyProof.Rows.callWith_kw (cZ ((ig he kH (by show _=_;rw[hs];rfl)) pos jp s σ H (λ vs H1=>match vs with|[x]=>tc σ H1 (λ y H2=>∃(l:ap)(ns:List Int)(d:Int),x=.ref l/\y=.int d/\eO X.K H2 l (ns.map V.int)/\Q (.int (ip d ns)) H2)|_=>False) I h) λ us s1 ⟨vs,H1,I1,r1,q1⟩=>?_) xE nk;cases vs with
 |nil=>exact q1.elim
 |cons x vs=>
  cases vs with
  |cons _ _=>exact q1.elim
  |nil=>
  refine cZ ((L7 hd Rj) pos jp s1 σ H1 (λ vs H2=>match vs with|[y]=>∃(l:ap)(ns:List Int)(d:Int),x=.ref l/\y=.int d/\eO X.K H2 l (ns.map V.int)/\Q (.int (ip d ns)) H2|_=>False) I1 q1) λ ws s2 ⟨zs,H2,I2,rz,e2⟩=>?_;cases zs with
  |nil=>exact e2.elim
  |cons y zs=>
   cases zs with
   |cons _ _=>exact e2.elim
   |nil=>
   obtain⟨l,ns,d,rfl,rfl,hl,q⟩:=e2;obtain⟨u,rfl,ru⟩:=vals1 r1;obtain⟨v,rfl,t,rfl⟩:=vals1 rz;cases(show u=Value.ref l from ru);obtain⟨aq,rv,pl,hz⟩:=I2.list hl;refine EO (I2.ok.hd hc) pl.isList (intsAre_of rv) (λ e h' tk hk=>?_) (λ m t h' tk m1 m2 hk=>?_)
   ·subst e;exact⟨.int d,H2,I2.kept (t':=tk) hk,⟨_,rfl⟩,q⟩
   ·rw[MQ m1 m2]at q;exact⟨.int m,H2,I2.kept (t':=tk) hk,⟨_,rfl⟩,q⟩
end
end L2
namespace L3
open PySem.Spec L2 L5 PyProof.Rows
def JB(k:Int)(d:D)(M:Mem)(Q:bF):Prop:=∃(l:ap)(ns:List Int),d=.ref l/\M l=some (.lst (ns.map D.int))/\Q (.int (ip k ns)) M
def OL(k:Int)(te:bT):bT:=λ δ M Q=>te δ M λ d M1=>JB k d M1 Q
section
variable {p kp Wf:Pos}{g:jA}{k:Int}{j:_}
def PY(hc:X.calm=true)(hg:Gl X "max")(hm:X.mg "max"=none)(he:WE X e te)(hs:starEach [e] X.env=[(false,eval e X.env)]:=by rfl)(xE:backTo pos (starEach [e] X.env)=(false,eval e X.env)::backTo pos (starEach [] X.env):=by rfl)(nk:(backTo pos (starEach [e] X.env)).any (·.1)=false:=by rfl):WE X (.Call (.Name "max" p) [e] [⟨some "default",.Constant (.int k) j Wf,kp⟩] pos) (OL k te):=by replace he:=he.h;refine⟨?_⟩;refine bH (L' hc hg hm he Hw hs xE nk) ?_;rintro σ H Q ⟨δ,M,Q2,hs,hm,q,kk⟩;refine⟨δ,M,_,hs,hm,q,λ x H1 d M1 hd bM t1 q1=>?_⟩;obtain⟨l,ns,rfl,hM,q1⟩:=q1;cases(ay.mp hd);obtain⟨ys,hy,hd2⟩:=bM l _ hM;rw[dC hd2]at hy;exact⟨l,ns,k,rfl,rfl,eO.of hy,kk _ _ (.int _) M1 (au.mpr rfl) bM t1 q1⟩
end
section
variable {Q:bF}{g:jA}{k:Int}
def Ls(h:te δ M λ d M1=>JB k d M1 Q):OL k te δ M Q:=h
def GF{l:ap}(hM:M l=some (.lst (ns.map D.int)))(q:Q (.int (ip k ns)) M):JB k (.ref l) M Q:=⟨l,ns,rfl,hM,q⟩
end
end L3
namespace L4
open PySem.Spec L2 L3 L5
section
variable {p kp Wf:Pos}{g:jA}{k:Int}{j:_}
end
end L4
namespace L3
open PySem.Spec L2 L5 PyProof.Rows
def ON(i:Nat)(te:bT):mH:=λ E δ M=>∃a,δ[i]?=some (some (.int a))/\te δ M λ d M1=>∃b,d=.int b/\E.nx (δ.set i (some (.int (a+b)))) M1
def Kw(i:Nat)(he:WE X e te)(hN:X.N.Nodup:=by exact nd)(hi:X.N[i]?=some x:=by rfl)(hx:Loc X.env.scope x:=by first|exact Or.inl rfl|exact Or.inr rfl)(hf:Kp X x:=by first|exact .inl rfl|exact .inr rfl|assumption):WS X (.AugAssign (.Name x pos') .Add e pos) (ON i te):=⟨have he:=he.h;lO (Rg hN hi hx he SV hf) λ E σ H ⟨δ,M,D2,hs,hm,⟨a,ea,q⟩,k⟩=>by
 obtain⟨v,ev,hv⟩:=hs.get i _ ea;cases(au.mp hv);refine⟨_,ev,δ,M,_,hs,hm,q,λ y H1 d M1 hd bM t1 q1=>?_⟩;obtain⟨b,rfl,q1⟩:=q1;cases(au.mp hd);exact⟨_,_,rfl,rfl,k.nx _ _ _ _ ((hs.mono t1).set (au.mpr rfl)) bM t1 q1⟩⟩
def LH{E:ke}{a:Int}(ea:δ[i]?=some (some (.int a)))(h:te δ M λ d M1=>∃b,d=.int b/\E.nx (δ.set i (some (.int (a+b)))) M1):ON i te E δ M:=⟨a,ea,h⟩
def Js(R:Src->Mem->Prop)(ds:List D)(M1:Mem):Prop:=match ds with
 |[.tup xs]=>R (.fix (dZ xs)) M1
 |[x]=>(∃zs,cR M1 x=some zs)/\R (.fn (gy x)) M1
 |_=>False
def GO{ta:e_}(h:ta δ M (Js R)):O_ ta δ M R:=h
def GP{xs:List D}(h:R (.fix (dZ xs)) M):Js R [.tup xs] M:=h
def GQ{xs:List D}(hM:M a=some (.lst xs))(h:R (.fn (gy (.ref a))) M):Js R [.ref a] M:=⟨⟨xs,dq hM⟩,h⟩
def UN(R:Src->Mem->Prop)(ds:List D)(M1:Mem):Prop:=match ds with
 |[.tup xs,.tup ys]=>R (.fix (kj xs ys)) M1
 |[x,y]=>(∃zs,ow x y M1=some zs)/\R (.fn (ow x y)) M1
 |_=>False
def Le{ta:e_}(h:ta δ M (UN R)):O8 ta δ M R:=h
def Gs{xs ys:List D}(h:R (.fix (kj xs ys)) M):UN R [.tup xs,.tup ys] M:=h
end L3
namespace L4
open PySem.Spec L2 L3 L5
end L4
namespace L2
open PySem.Spec PyProof.Rows
def Zm(K:K6)(x y:V)(H:Hp)(Q:Bool->Prop):Prop:=(∃a o,y=.ref a/\rO H a x o/\Q o.isSome)\/∃a b kvs k,y=.ref a/\x=.ref b/\nJ K H a kvs/\k.dep<=5/\gI K H k (.ref b)/\Q (gP kvs k).isSome
def Mj(neg:Bool)(hu:eU X):gM X (compareOp (if neg then .NotIn else .In)) (λ x y H Q=>Zm X.K x y H λ b=>Q (.bl (if neg then !b else b)) H):=by
 intro jp s σ H x y v u Q I rx ry h;rcases h with⟨a,o,rfl,g,q⟩|⟨a,b,kvs,k,rfl,rfl,d,hk,sV,q⟩
 ·cases(show u=Value.ref a from ry);cases neg with
  |false=>exact abj () I g rx λ s3 I3=>⟨.bl o.isSome,H,I3,rfl,q⟩
  |true=>exact N5 () I g rx λ s3 I3=>⟨.bl (!o.isSome),H,I3,rfl,q⟩
 ·cases(show u=Value.ref a from ry);cases(show v=Value.ref b from rx);cases neg with
  |false=>exact YX hu I d hk sV λ s3 I3=>⟨.bl (gP kvs k).isSome,H,I3,rfl,q⟩
  |true=>exact KJ hu I d hk sV λ s3 I3=>⟨.bl (!(gP kvs k).isSome),H,I3,rfl,q⟩
def VD(K:K6)(x y:V)(H:Hp)(Q:VK):Prop:=(∃a v,x=.ref a/\rO H a y (some v)/\Q v H)\/∃a b kvs k v,x=.ref a/\y=.ref b/\nJ K H a kvs/\k.dep<=5/\gI K H k (.ref b)/\gP kvs k=some v/\Q v H
def SO(hu:eU X):AL X (λ x y H Q=>VD X.K x y H Q):=by
 intro value slice jp s σ H x y v u Q I rx ry h hs;rcases h with⟨a,w,rfl,g,q⟩|⟨a,b,kvs,k,w,rfl,rfl,d,hk,sV,g,q⟩
 ·cases(show v=Value.ref a from rx);refine tail_any (ops:=[.ref a,u]) (xX I g) PySem.F.slot_dict_getitem.lookup ?_ hs;exact EJ () I g ry λ w' s3 I3 oz=>⟨w,H,I3,oz,q⟩
 ·cases(show v=Value.ref a from rx);cases(show u=Value.ref b from ry);obtain⟨_,_,xs,_,dd⟩:=d.of I;refine tail_any (ops:=[.ref a,.ref b]) dd.typeIs PySem.F.slot_dict_getitem.lookup ?_ hs;exact DF hu I d hk sV g λ w' s3 I3 oz=>⟨w,H,I3,oz,q⟩
def VC(K:K6):Fc:=λ o i v H Q=>(∃a H',o=.ref a/\JT H a i v H'/\Q H')\/∃a b kvs k,o=.ref a/\i=.ref b/\nJ K H a kvs/\k.dep<=5/\gI K H k (.ref b)/\kvs.length<sizeLine/\Q (u8 H a (oD a (iM kvs k b v)))
def KZ(hu:eU X):vE X (VC X.K):=by
 intro jp s σ H o i v ov iv u Q I ro ri rv h;rcases h with⟨a,H',rfl,g,q⟩|⟨a,b,kvs,k,rfl,rfl,d,hk,sV,hl,q⟩
 ·cases(show ov=Value.ref a from ro);exact EE () I g ri rv λ s3 I3=>⟨H',I3,q⟩
 ·cases(show ov=Value.ref a from ro);cases(show iv=Value.ref b from ri);exact DE hu I d hk sV hl rv λ s3 I3=>⟨_,I3,q⟩
def AF:dr X (.builtin "len") (λ xs H Q=>∃a,xs=[.ref a]/\((∃kvs,H a=some (.dK kvs)/\Q (.int kvs.length) H)\/∃kvs,H a=some (oD a kvs)/\Q (.int kvs.length) H)):=by
 intro jp s σ H xs us Q I r h;obtain⟨a,rfl,h⟩:=h;obtain⟨u,rfl,ru⟩:=vals1 r;cases(show u=Value.ref a from ru);rcases h with⟨kvs,e,q⟩|⟨kvs,e,q⟩
 ·exact Xi I (.inl e) λ t s' I'=>⟨.int kvs.length,H,I',⟨t,rfl⟩,q⟩
 ·exact U0 I e λ t s' I'=>⟨.int kvs.length,H,I',⟨t,rfl⟩,q⟩
end L2
namespace L3
open PySem.Spec L2 L5 PyProof.Rows
noncomputable instance afM:DecidableEq D:=λ a b=>Classical.propDecidable (a=b)
noncomputable def cF(kvs:List (D×D))(k:D):Option D:=(kvs.find? λ p=>decide (p.1=k)).map (·.2)
noncomputable def putD(kvs:List (D×D))(k v:D):List (D×D):=if(cF kvs k).isSome=true then kvs.map (λ p=>if p.1=k then(p.1,v)else p)else kvs++[(k,v)]
def iJ(t:Bool)(x:D):Prop:=match t with
 |false=>∃k:Key,x=kM k
 |true=>∃ks:List IK,x=oB (.t ks)/\(IK.t ks).dep<=5
def AN(K:K6)(H:Hp):Option D->Option V->Prop
 |none,none=>True
 |some d,some v=>sB K H d v
 |_,_=>False
def JU.look{kvs:List (D×D)}{xs:List (Key×V)}(h:JU K H kvs xs)(k:Key):AN K H (cF kvs (kM k)) (km xs k):=by
 induction h with
 |nil=>exact True.intro
 |@cons p q ps qs jo t ih=>
  obtain⟨h1,h2⟩:=jo;unfold cF km at ih ⊢;by_cases e:q.1=k
  ·have e':p.1=kM k:=by rw[h1,e]
   simp only[A6,B8 e,B8 e',Option.map_some];exact h2
  ·have e':¬p.1=kM k:=λ z=>e (xr (h1.symm.trans z));simp only[A6,A7 e,A7 e'];exact ih
def Fe.look{kvs:List (D×D)}{xs:List fu}(h:Fe K H kvs xs)(k:IK):AN K H (cF kvs (oB k)) (gP xs k):=by
 induction h with
 |nil=>exact True.intro
 |@cons p q ps qs jo t ih=>
  obtain⟨h1,_,_,h2⟩:=jo;unfold cF gP at ih ⊢;by_cases e:q.1=k
  ·have e':p.1=oB k:=by rw[h1,e]
   simp only[A6,B8 e,B8 e',Option.map_some];exact h2
  ·have e':¬p.1=oB k:=λ z=>e (uQ (h1.symm.trans z));simp only[A6,A7 e,A7 e'];exact ih
def AN.isSome{o:Option D}{u:Option V}(h:AN K H o u):o.isSome=u.isSome:=by
 cases o with
 |none=>cases u with
  |none=>rfl
  |some _=>exact(show False from h).elim
 |some _=>cases u with
  |none=>exact(show False from h).elim
  |some _=>rfl
def AN.some_of{u:Option V}(h:AN K H (some d) u):∃v,u=some v/\sB K H d v:=by
 cases u with
 |none=>exact(show False from h).elim
 |some v=>exact⟨v,rfl,h⟩
def Fe.keys{kvs:List (D×D)}{xs:List fu}(h:Fe K H kvs xs)(e:H a=some (oD a xs)):nJ K H a xs:=by
 refine⟨e,?_⟩;clear e
 induction h with
 |nil=>intro p hp;cases hp
 |@cons p q ps qs jo t ih=>
  intro x hx;rcases C9.mp hx with rfl|hx
  ·obtain⟨h1,h2,h3,_⟩:=jo;rw[h1]at h3;exact⟨h2,nv _ h3⟩
  ·exact ih x hx
def G'(xs:List (Key×V))(k:Key)(v:V):putK xs k v=if(km xs k).isSome=true then xs.map (λ kv=>if kv.1=k then(kv.1,v)else kv)else xs++[(k,v)]:=by unfold putK;rw[pO]
def JU.put{kvs:List (D×D)}{xs:List (Key×V)}(h:JU K H kvs xs)(k:Key)(hd:sB K H d v):JU K H (putD kvs (kM k) d) (putK xs k v):=by
 rw[G'];unfold putD;rw[(h.look k).isSome];by_cases e:(km xs k).isSome=true
 ·rw[K1 e,K1 e];clear e
  induction h with
  |nil=>exact .nil
  |@cons p q ps qs jo t ih=>
   rw[C8,C8];refine .cons ?_ ih;obtain⟨h1,h2⟩:=jo;by_cases e:q.1=k
   ·rw[K1 e,K1 (by rw[h1,e])];exact⟨h1,hd⟩
   ·rw[K3 e,K3 (λ z=>e (xr (h1.symm.trans z)))];exact⟨h1,h2⟩
 ·rw[K3 e,K3 e];exact Paired.snoc h ⟨rfl,hd⟩
def Fe.put{kvs:List (D×D)}{xs:List fu}(h:Fe K H kvs xs)(k:IK){b:ap}(hk:k.dep<=5)(hb:sB K H (oB k) (.ref b))(hd:sB K H d v):Fe K H (putD kvs (oB k) d) (iM xs k b v):=by
 unfold putD iM;rw[(h.look k).isSome];by_cases e:(gP xs k).isSome=true
 ·rw[K1 e,K1 e];clear e
  induction h with
  |nil=>exact .nil
  |@cons p q ps qs jo t ih=>
   rw[C8,C8];refine .cons ?_ ih;obtain⟨h1,h2,h3,h4⟩:=jo;by_cases e:q.1=k
   ·rw[K1 e,K1 (by rw[h1,e])];exact⟨h1,h2,h3,hd⟩
   ·rw[K3 e,K3 (λ z=>e (uQ (h1.symm.trans z)))];exact⟨h1,h2,h3,h4⟩
 ·rw[K3 e,K3 e];exact Paired.snoc h ⟨rfl,hk,hb,hd⟩
def TU(neg:Bool):iR:=λ x y M Q=>∃a t kvs,y=.ref a/\M a=some (.bX t kvs)/\iJ t x/\Q (.bl (if neg then !(cF kvs x).isSome else(cF kvs x).isSome)) M
def oO(h:sB K H (oB (.t ks)) v):∃b,v=.ref b:=by unfold oB at h;obtain⟨p,xs,rfl,_⟩:=aR.mp h;exact⟨p,rfl⟩
def HR(neg:Bool)(hu:eU X):iC X (compareOp (if neg then .NotIn else .In)) (TU neg):=⟨_,Mj neg hu,λ x y d e H M Q2 Q hd he hm q k=>by
 obtain⟨a,t,kvs,rfl,hM,ok,q⟩:=q;cases(ay.mp he);have hr:=hm a _ hM;cases t with
 |false=>obtain⟨xs,hx,rel⟩:=hr;obtain⟨kk,rfl⟩:=ok;rw[pB hd];refine .inl ⟨a,_,rfl,rO.k9 hx,k _ H _ M (aY.mpr rfl) hm (ar.refl H) ?_⟩;rw[<- (rel.look kk).isSome];exact q
 |true=>
  obtain⟨xs,hx,rel⟩:=hr;obtain⟨ks,rfl,mi⟩:=ok;obtain⟨b,rfl⟩:=oO hd;refine .inr ⟨a,b,xs,_,rfl,rfl,rel.keys hx,mi,nv _ hd,k _ H _ M (aY.mpr rfl) hm (ar.refl H) ?_⟩;rw[<- (rel.look _).isSome];exact q⟩
def Xp:iR:=λ x y M Q=>EL x y M Q\/TU false x y M Q
def wQ(hu:eU X):iC X (compareOp .In) Xp:=(wR hu).or (HR false hu)
def CP:iR:=λ x y M Q=>mD x y M Q\/TU true x y M Q
def lS(hu:eU X):iC X (compareOp .NotIn) CP:=(lT hu).or (HR true hu)
def Xr:iR:=λ x y M Q=>∃a t kvs d,x=.ref a/\M a=some (.bX t kvs)/\iJ t y/\cF kvs y=some d/\Q d M
def TN:iR:=λ x y M Q=>TQ x y M Q\/Xr x y M Q
def bN(hu:eU X):YH X TN:=by
 obtain⟨r,h1,h2⟩:=(L3.aL:YH X TQ);refine⟨_,h1.or (SO hu),λ x y d e H M Q2 Q hd he hm q k=>?_⟩;rcases q with q|⟨a,t,kvs,w,rfl,hM,ok,hl,q⟩
 ·exact .inl (h2 x y d e H M Q2 Q hd he hm q k)
 ·cases(ay.mp hd);have hr:=hm a _ hM;cases t with
  |false=>obtain⟨xs,hx,rel⟩:=hr;obtain⟨kk,rfl⟩:=ok;have hv:=rel.look kk;rw[hl]at hv;obtain⟨v,e1,e2⟩:=hv.some_of;rw[pB he];exact .inr (.inl ⟨a,v,rfl,by rw[<- e1];exact rO.k9 hx,k _ H _ M e2 hm (ar.refl H) q⟩)
  |true=>obtain⟨xs,hx,rel⟩:=hr;obtain⟨ks,rfl,mi⟩:=ok;have hv:=rel.look (.t ks);rw[hl]at hv;obtain⟨v,e1,e2⟩:=hv.some_of;obtain⟨b,rfl⟩:=oO he;exact .inr (.inr ⟨a,b,xs,_,v,rfl,rfl,rel.keys hx,mi,nv _ he,e1,k _ H _ M e2 hm (ar.refl H) q⟩)
def Xq:oo:=λ o i v M N=>∃a t kvs,o=.ref a/\M a=some (.bX t kvs)/\iJ t i/\kvs.length<sizeLine/\N (ag M a (.bX t (putD kvs i v)))
def Pu:oo:=λ o i v M N=>N6 o i v M N\/Xq o i v M N
def vE.or{t u:Fc}(h:vE X t)(g:vE X u):vE X (λ o i v H Q=>t o i v H Q\/u o i v H Q):=by
 intro jp s σ H o i v ov iv uu Q I ro ri rv q;rcases q with q|q
 ·exact h jp s σ H o i v ov iv uu Q I ro ri rv q
 ·exact g jp s σ H o i v ov iv uu Q I ro ri rv q
def pZ(hu:eU X):Ol X Pu:=by
 obtain⟨r,h1,h2⟩:=(nQ:Ol X N6);refine⟨_,vE.or h1 (KZ hu),λ o i v d j e H M Q2 Q hd hj he hm q k=>?_⟩;rcases q with q|⟨a,t,kvs,rfl,hM,ok,hl,q⟩
 ·exact .inl (h2 o i v d j e H M Q2 Q hd hj he hm q k)
 ·cases(ay.mp hd);have hr:=hm a _ hM;cases t with
  |false=>obtain⟨xs,hx,rel⟩:=hr;obtain⟨kk,rfl⟩:=ok;rw[pB hj];have t:=ar.mut (o:=.dK (putK xs kk v)) hx (λ _ z=>by cases z) (λ _ _ z=>by cases z);refine .inr (.inl ⟨a,_,rfl,JT.k9 hx (by rw[<- C5 rel];exact hl),k _ _ (hm.put (u:=.bX false (putD kvs (kM kk) e)) t ⟨_,aQ,(rel.put kk he).mono t⟩) t q⟩)
  |true=>obtain⟨xs,hx,rel⟩:=hr;obtain⟨ks,rfl,mi⟩:=ok;obtain⟨b,rfl⟩:=oO hj;have t:=ar.mut (o:=oD a (iM xs (.t ks) b v)) hx (λ _ z=>by cases z) (λ _ _ z=>by cases z);refine .inr (.inr ⟨a,b,xs,_,rfl,rfl,rel.keys hx,mi,nv _ hj,by rw[<- C5 rel];exact hl,k _ _ (hm.put (u:=.bX true (putD kvs (oB (.t ks)) e)) t ⟨_,aQ,(rel.put (.t ks) mi hj he).mono t⟩) t q⟩)
def JC:List D->Mem->bF->Prop:=λ xs M Q=>EK xs M Q\/∃a t kvs,xs=[.ref a]/\M a=some (.bX t kvs)/\Q (.int (kvs.length:Nat)) M
def nF:fZ X (.builtin "len") JC:=by
 obtain⟨r,h1,h2⟩:=(L3.d_:fZ X (.builtin "len") EK);refine⟨_,h1.or AF,λ xs ds H M Q2 Q hd hm q k=>?_⟩;rcases q with q|⟨a,t,kvs,rfl,hM,q⟩
 ·exact .inl (h2 xs ds H M Q2 Q hd hm q k)
 ·obtain⟨x,r,rfl,hx,hr⟩:=af.mp hd;cases(ao.mp hr);cases(ay.mp hx);have hr:=hm a _ hM;cases t with
  |false=>obtain⟨xs,hx,rel⟩:=hr;exact .inr ⟨a,rfl,.inl ⟨xs,hx,by rw[<- C5 rel];exact k _ H _ M (au.mpr rfl) hm (ar.refl H) q⟩⟩
  |true=>obtain⟨xs,hx,rel⟩:=hr;exact .inr ⟨a,rfl,.inr ⟨xs,hx,by rw[<- C5 rel];exact k _ H _ M (au.mpr rfl) hm (ar.refl H) q⟩⟩
def Vi(t:Bool):bT:=λ _ M Q=>∀p,M p=none->Q (.ref p) (ag M p (.bX t []))
def FH(t:Bool):WE X (.Dict [] [] pos) (Vi t):=by
 refine⟨?_⟩;cases t with
 |false=>refine bH Hx λ σ H Q ⟨δ,M,Q2,hs,hm,q,k⟩ p hp=>?_;exact k _ _ (.ref p) _ (ay.mpr rfl) (hm.put (u:=.bX false []) (ar.laid hp) ⟨[],aQ,.nil⟩) (ar.laid hp) (q p (hm.free hp))
 |true=>refine bH wL λ σ H Q ⟨δ,M,Q2,hs,hm,q,k⟩ p hp=>?_;exact k _ _ (.ref p) _ (ay.mpr rfl) (hm.put (u:=.bX true []) (ar.laid hp) ⟨[],aQ,.nil⟩) (ar.laid hp) (q p (hm.free hp))
end L3
namespace L4
open PySem.Spec L2 L3 L5
end L4
namespace L2
open PySem.Spec PySem.W PyProof.Rows L5
def Hy{k v:Expr}{tv:TE}(hu:eU X)(hk:PE X k tk)(hv:PE X v tv):PE X (.Dict [some k] [v] pos) (λ σ H Q=>∀p,H p=none->tk σ (u8 H p (oD p [])) λ x H1=>tv σ H1 λ y H2=>∃b ik,x=.ref b/\H2 p=some (oD p [])/\ik.dep<=5/\gI X.K H2 ik (.ref b)/\Q (.ref p) (u8 H2 p (oD p (iM [] ik b y)))):=by
 intro jp s σ H Q I h;refine wpAny_Dict_any rfl rfl (by simp) (by simp) ?_;have I0:=I.laid (a:=s.heap.objs.size) (o:=oD s.heap.objs.size []) (t':=s.toks) (λ _ _ q=>j5 _ q) (G7 _) (qM (CA s.heap I.big));refine pairTrees_cons_walk (cZ (hk jp _ σ _ _ I0 (h _ (I.bu.fresh (G7 _)))) λ kv s1 ⟨x,H1,I1,r1,q1⟩=>cZ (hv jp s1 σ H1 _ I1 q1) λ vv s2 ⟨y,H2,I2,r2,q2⟩=>pairTrees_nil_walk ?_);obtain⟨b,ik,rfl,hp,hd,sV,q⟩:=q2;cases(show kv=Value.ref b from r1);generalize s.heap.objs.size=p at*;obtain⟨z,nm,xs,rel,dd⟩:=nJ.of I2 (kvs:=[]) ⟨hp,λ _ z=>by cases z⟩;cases rel;have uS:(iM [] ik b y).length<=sizeLine:=by have:=qg [] ik b y;exact E6 this (by decide)
 unfold storeAll;rw[forIn_cons];refine J1 (J1 (wpAny_dictSet_heap (knd:=iT X.prog X.w) (hsz:=G9 _) (show X.A.units+8<cLine by lia) ⟨hd,nX I2 ik sV rfl⟩ dd λ h' ED hs=>J3 ?_));dsimp only;rw[forIn_nil];obtain⟨q',es,ep,hq,h2,h3,h4,_,h5⟩:=ED;exact J3 ⟨.ref p,_,jS I2 (by rw[hp];exact True.intro) hs ⟨q',hq⟩ (qM ⟨uS,nm,_,Fm.put .nil ik r2,q',es,ep,hq,h2,h3,h4,h5⟩),rfl,q⟩
end L2
namespace L3
open PySem.Spec L2 L5 PyProof.Rows
def Qv(tk tv:bT):bT:=λ δ M Q=>∀p,M p=none->tk δ (ag M p (.bX true [])) λ x M1=>tv δ M1 λ y M2=>M2 p=some (.bX true [])/\iJ true x/\Q (.ref p) (ag M2 p (.bX true [(x,y)]))
def LO{k v:Expr}{tv:bT}(hu:eU X)(hk:QE X k tk)(hv:QE X v tv):QE X (.Dict [some k] [v] pos) (Qv tk tv):=by refine bH (Hy hu hk hv) ?_;rintro σ H Q ⟨δ,M,Q2,hs,hm,q,k⟩ p hp;have t0:ar H (u8 H p (oD p [])):=ar.laid hp;refine⟨δ,ag M p (.bX true []),_,hs.mono t0,hm.put (u:=.bX true []) t0 ⟨[],aQ,.nil⟩,q p (hm.free hp),λ x H1 d M1 hd bM t1 q1=>?_⟩;refine⟨δ,M1,_,(hs.mono t0).mono t1,bM,q1,λ y H2 e M2 he kU t2 q2=>?_⟩;obtain⟨eZ,⟨ks,rfl,mi⟩,q2⟩:=q2;have hd2:=sB.mono t2 _ hd;obtain⟨b,rfl⟩:=oO hd2;obtain⟨xs,hx,rel⟩:=kU p _ eZ;cases rel;have t:=ar.mut (o:=oD p (iM [] (.t ks) b y)) hx (λ _ z=>by cases z) (λ _ _ z=>by cases z);exact⟨b,.t ks,rfl,hx,mi,nv _ hd2,k _ _ _ _ (ay.mpr rfl) (kU.put (u:=.bX true [(oB (.t ks),e)]) t ⟨_,aQ,((Fe.put (kvs:=[]) .nil (.t ks) mi hd2 he):Fe X.K H2 [(oB (.t ks),e)] (iM [] (.t ks) b y)).mono t⟩) ((t0.trans t1).trans (t2.trans t)) q2⟩
section
variable {Q:bF}{kvs:List (D×D)}{x y v:D}{t:Bool}{N:Mem->Prop}{xs:List D}
def mQ(h:M a=some (.bX t kvs))(hk:iJ t x)(q:Q (.bl (!(cF kvs x).isSome)) M):CP x (.ref a) M Q:=.inr ⟨a,t,kvs,rfl,h,hk,q⟩
def ba(h:TQ x y M Q):TN x y M Q:=.inl h
def kC(h:M a=some (.bX t kvs))(hk:iJ t x)(e:cF kvs x=some d)(q:Q d M):TN (.ref a) x M Q:=.inr ⟨a,t,kvs,d,rfl,h,hk,e,q⟩
def lG(h:M a=some (.bX t kvs))(hk:iJ t x)(hl:kvs.length<sizeLine)(q:N (ag M a (.bX t (putD kvs x v)))):Pu (.ref a) x v M N:=.inr ⟨a,t,kvs,rfl,h,hk,hl,q⟩
def gT(h:EK xs M Q):JC xs M Q:=.inl h
end
inductive UI(K:K6)(H:Hp):List V->List PyData->Prop
 |nil:UI K H [] []
 |cons {x:V} {a:PyData} {xs:List V} {as:List PyData}:Ub K H x a->UI K H xs as->UI K H (x::xs) (a::as)
def lay_ints:∀hs:List Int,PyData.canLayAll0 (hs.map PyData.int)=true
 |[]=>by simp[PyData.canLayAll0]
 |h::hs=>by rw[C8,PyData.canLayAll0,lay_ints hs];simp[PyData.canLay0]
def xY:∀hs:List Int,PyData.depthAll (hs.map PyData.int)=0
 |[]=>by simp[PyData.depthAll]
 |h::hs=>by rw[C8,PyData.depthAll,xY hs];simp[PyData.depth]
def DP(I:sn X jp σ H s){as:List PyData}(h:UI X.K H xs as):∀{us:List gV},ut xs us->∃rs,ReadsAll s.heap us as rs:=by
 induction h with
 |nil=>intro us r;cases r;exact⟨_,ReadsAll.nil⟩
 |cons h1 h2 ih=>
  intro us r;cases r with
  |cons r1 r2=>obtain⟨a,ra⟩:=fA I h1 r1;obtain⟨b,rb⟩:=ih r2;exact⟨_,ReadsAll.cons ra rb⟩
def RF(hu:eU X):gM X (compareOp .NotEq) (λ x y H Q=>∃p b xs as,x=.ref p/\y=.ref b/\eO X.K H p xs/\eO X.K H b []/\UI X.K H xs as/\SeqAt.shaped (.list as)=true/\Q (.bl (!as.isEmpty)) H):=by
 intro jp s σ H x y v u Q I rx ry h;obtain⟨p,b,xs,as,rfl,rfl,hp,hb,hy,sh,q⟩:=h;cases(show v=Value.ref p from rx);obtain⟨aq,rv,pl,_⟩:=I.list hp;obtain⟨o,ho,hc,m,xI⟩:=pl.isList;obtain⟨rs,ra⟩:=DP I hy rv;obtain⟨as2,rb⟩:=fA I (x:=.ref b) (a:=.list []) (.inr ⟨b,[],[],rfl,hb,ao.mpr rfl,rfl,rfl⟩) ry;have e:PyData.eqv (.list as) (.list [])=as.isEmpty:=by cases as<;>simp[PyData.eqv,PyData.eqvAll]
 rw[<- e]at q;exact ne_dataH (reads_list_at ho hc xI ra) rb sh (by decide) hu ⟨.bl (!PyData.eqv (.list as) (.list [])),H,I,rfl,q⟩
def Xm:iR:=λ x y M Q=>∃(a b:ap)(qs:List ap),x=.ref a/\y=.ref b/\M a=some (.lst (qs.map D.ref))/\M b=some (.lst [])/\(∀q∈qs,∃hs:List Int,M q=some (.lst (hs.map D.int)))/\Q (.bl (!qs.isEmpty)) M
def GZ(hm:ul K H M):∀{qs:List ap} {xs:List V},aA K H (qs.map D.ref) xs->(∀q∈qs,∃hs:List Int,M q=some (.lst (hs.map D.int)))->∃as,UI K H xs as/\as.isEmpty=qs.isEmpty/\PyData.canLayAll0 as=true/\PyData.depthAll as<=2
 |[],xs,h,_=>by cases(ao.mp h);exact⟨[],.nil,rfl,by simp[PyData.canLayAll0],by simp[PyData.depthAll]⟩
 |q::qs,xs,h,k=>by
  obtain⟨x,r,rfl,hx,hr⟩:=af.mp h;obtain⟨as,h1,_,h3,h4⟩:=GZ hm hr λ q hq=>k q (k7 _ hq);obtain⟨hs,hq⟩:=k q (o7 ..);have e:rB M (.ref q)=some (.list (hs.map PyData.int)):=by unfold rB;simp only[hq];rw[K1 (lW hs),toPs_ints]
  refine⟨_::as,.cons (lM e hx hm) h1,rfl,?_,?_⟩
  ·rw[PyData.canLayAll0,h3];simp[PyData.canLay0,lay_ints]
  ·rw[PyData.depthAll];simp only[PyData.depth,xY];lia
def VX(hu:eU X):iC X (compareOp .NotEq) Xm:=⟨_,RF hu,λ x y d e H M Q2 Q hd he hm q k=>by
 obtain⟨a,b,qs,rfl,rfl,hM,hb,hq,q⟩:=q;cases(ay.mp hd);cases(ay.mp he);obtain⟨xs,hx,Yo⟩:=hm a _ hM;obtain⟨ys,hy,hdy⟩:=hm b _ hb;cases(ao.mp hdy);obtain⟨as,h1,h2,h3,h4⟩:=GZ hm Yo hq;refine⟨a,b,xs,as,rfl,rfl,.inl (.inl hx),.inl (.inl hy),h1,?_,?_⟩
 ·unfold SeqAt.shaped;rw[A0,u7];exact⟨by simp only[PyData.canLay0];exact h3,by simp only[PyData.depth];lia⟩
 ·rw[h2];exact k _ H _ M (aY.mpr rfl) hm (ar.refl H) q⟩
def QN{Q:bF}{b:ap}{qs:List ap}(ha:M a=some (.lst (qs.map D.ref)))(hb:M b=some (.lst []))(hq:∀q∈qs,∃hs:List Int,M q=some (.lst (hs.map D.int)))(q:Q (.bl (!qs.isEmpty)) M):Xm (.ref a) (.ref b) M Q:=⟨a,b,qs,rfl,rfl,ha,hb,hq,q⟩
end L3
namespace KK
open L3 L4 L5
open L2 hiding aL gF
abbrev Row:=List Int
def Bo{a b:Row}(h:row a=row b):a=b:=by
 have h:a.map D.int=b.map D.int:=by injection h
 exact(List.map_inj_right (λ x y e=>by injection e)).mp h
def IM:∀r:Row,nj (r.map IK.i)=r.map D.int
 |[]=>by unfold nj;rfl
 |x::r=>by rw[C8,C8];show oB (IK.i x)::nj (r.map IK.i)=_;rw[IM r];unfold oB;rfl
def IS:∀r:Row,IK.jy (r.map IK.i)=0
 |[]=>by unfold IK.jy;rfl
 |x::r=>by rw[C8];show max (IK.dep (IK.i x)) (IK.jy (r.map IK.i))=0;rw[IS r];unfold IK.dep;rfl
def o_(r:Row):iJ true (row r):=by
 refine⟨r.map IK.i,?_,?_⟩
 ·unfold oB row;rw[IM]
 ·unfold IK.dep;rw[IS];decide
def pA(kvs:List (Row×D)):List (D×D):=kvs.map λ p=>(row p.1,p.2)
def xh(kvs:List (Row×D))(x:Row):cF (pA kvs) (row x)=(kvs.find? λ p=>p.1==x).map (·.2):=by
 unfold cF pA;rw[find?_map,Option.map_map];have e:((λ p:D×D=>decide (p.1=row x))∘λ p:Row×D=>(row p.1,p.2))=λ p:Row×D=>p.1==x:=by funext p;show decide (row p.1=row x)=(p.1==x);rw[A4,u7,beq_iff_eq];exact⟨Bo,λ h=>by rw[h]⟩
 rw[e];rfl
def uF(kvs:List (Row×D))(x:Row):(cF (pA kvs) (row x)).isSome=decide (x∈kvs.map (·.1)):=by
 rw[xh,x5,A4,u7,find?_isSome,D8];constructor
 ·rintro⟨p,h1,h2⟩;exact⟨p,h1,by simpa using h2⟩
 ·rintro⟨p,h1,h2⟩;exact⟨p,h1,by simpa using h2⟩
def LS{kvs:List (Row×D)}{x:Row}(v:D)(h:x∉kvs.map (·.1)):putD (pA kvs) (row x) v=pA (kvs++[(x,v)]):=by unfold putD;rw[uF,K3 (by simpa using h)];simp[pA]
def CG(kvs:List (Row×D)):(pA kvs).length=kvs.length:=by simp[pA]
def J'(g:List aW)(as:Row):Nat->List Row
 |0=>[]
 |i+1=>J' g as i++if 0<as.getD i 0 then(g.getD i fG).2.map λ o=>plus (less as i) o else[]
def ij(g:List aW)(as:Row):∀i,(J' g as i).length=(vK g as i).length
 |0=>rfl
 |i+1=>by
  show(J' g as i++_).length=(vK g as i++_).length;rw[p4,p4,ij g as i];unfold opt;split
  ·rw[uA,B3]
  ·rfl
set_option tactic.hygienic true in
def Ie(g:List aW)(as:Row):∀(i j:Nat)(d:D),(vK g as i)[j]?=some d->∃(h k:Int)(b:Row),d=.tup [.int h,.int k,row b]/\(J' g as i)[j]?=some b
 |0,j,d,e=>by simp[vK]at e
 |i+1,j,d,e=>by
  have e:(vK g as i++opt as i (wY as i (g.getD i fG).2 (g.getD i fG).2.length))[j]?=some d:=e;show ∃h k b,_/\(J' g as i++if 0<as.getD i 0 then(g.getD i fG).2.map (λ o=>plus (less as i) o)else[])[j]?=some b;by_cases hj:j<(vK g as i).length
  ·rw[c4 hj]at e;obtain⟨h,k,b,e1,e2⟩:=Ie g as i j d e;exact⟨h,k,b,e1,by rw[c4 (by rw[ij];exact hj)];exact e2⟩
  ·rw[b9 ()]at e;rw[b9 (by rw[ij];lia),ij];generalize j-(vK g as i).length=m at*;unfold opt at e;split at e
   ·rename_i hp;rw[K1 hp];unfold wY at e;rw[u6]at e;by_cases hm:m<(g.getD i fG).2.length
    ·rw[l9 hm]at e;refine⟨(i:Int),(m:Int),plus (less as i) ((g.getD i fG).2.getD m []),(B0 e).symm,?_⟩;generalize(g.getD i fG).2=os at*;rw[u6,c3,g9 hm];rfl
    ·rw[k5 (by simpa using hm)]at e;cases e
   ·simp at e
def wH{as bs:Row}(h:as.length=n)(g:bs.length=n):(plus as bs).length=n:=by unfold plus;rw[length_zipWith,h,g,Nat.min_self]
def MD(G:eI n g)(as:Row):(J' g as n).length<=756:=by rw[ij];have:=ux G as n (G7 _);have:=G.gw;lia
def Bef(a b:Row):Prop:=klt (O6 b) (O6 a)=false
def HC(h:Out (λ i j=>klt (O6 (rs.getD i [])) (O6 (rs.getD j []))) (rs.map row) D.bo outD):∃out:List Row,outD=out.map row/\out.Perm rs/\out.Pairwise Bef:=by
 obtain⟨p,p1,p2,rfl⟩:=h;rw[B3]at p1 p2;have Nz:∀i∈p.toList,i<rs.length:=λ i hi=>by have:=(Array.Perm.mem_iff p1 (a:=i)).mp (by simpa using hi);simpa using this
 refine⟨p.toList.map λ i=>rs.getD i [],?_,?_,?_⟩
 ·rw[D9];refine n9 λ i hi=>?_;have:=Nz i hi;simp[c3,this]
 ·have q:p.toList.Perm (List.range rs.length):=by have:=Array.perm_iff_toList_perm.mp p1;simpa using this
  have q2:=q.map λ i=>rs.getD i [];have e:(List.range rs.length).map (λ i=>rs.getD i [])=rs:=by
   apply x8;intro i;by_cases hi:i<rs.length
   ·simp[hi,c3]
   ·simp[hi]
  rw[e]at q2;exact q2
 ·rw[pairwise_map,pairwise_iff_getElem];intro i j hi hj yU;have hz:=p1.size;have Uu:j<rs.length:=by rw[<- hz];simpa using hj
  have:=p2 i j (G5 yU) Uu;have g:∀k (hk:k<p.toList.length),pg p k=p.toList[k]:=λ k hk=>by
   rw[lR];have uT:k<p.size:=by simpa using hk
   simp[uT]
  rw[g i hi,g j hj]at this;exact this
end KK
variable {kt r U:List KK.Row}{ls:KK.Row}{b_:List (List KK.Row)}
namespace KK
open L3 L4 L5
open L2 hiding aL gF
def sw.free(h:sw M M')(hp:M' p=none):M p=none:=by
 cases e:M p with
 |none=>rfl
 |some o=>rw[h p o e]at hp;cases hp
def sw.trans(h:sw M M1)(g:sw M1 M2):sw M M2:=λ b o e=>g b o (h b o e)
def sw.new(h:sw M M')(hp:M' p=none)(x:MO):sw M (ag M' p x):=Ii h hp x
def aM{x:MO}(h:M p=some x)(g:M q=none):p≠q:=λ z=>by subst z;rw[h]at g;cases g
def HE(hl:hs.length<=4)(hx:∀x∈hs,0<=x/\x<(i:Int)):vF n i (eC hs n):=by refine⟨qU _ _,qT,?_,JF λ x h=>(hx x h).2⟩;have:=qV (ns:=hs) (n:=n);lia
def Vq{ds:List α}{X:Prop}(h:ds.length<=16)(q:X):ds.length<=sizeLine/\X:=⟨E6 h (by decide),q⟩
def wo{Q:bF}(q:Q (.bl true) M):Av false .bo .bo M Q:=q
def NQ{sp:dW}(h:∀ds M Q,¬sp ds M Q):bB P w K mg base dX k f fd ps (bZ K sp):=
 ⟨λ _ _ _ _ ⟨ds,M,Q,_,_,q,_⟩=>be q (h ds M Q),λ _ _ _ _ _ _ _ _ _ _ _ _ _ ⟨ds,M,Q,_,_,q,_⟩=>be q (h ds M Q)⟩
def xm{as:Row}(hp:∀x∈as,0<=x)(h0:0<as.getD h 0):∀x∈less as h,0<=x:=λ x hx=>by
 unfold less at hx;rcases B4.mp hx with z|z
 ·rcases B4.mp z with z|z
  ·exact hp x (mem_of_mem_take z)
  ·rw[q8.mp z];lia
 ·exact hp x (mem_of_mem_drop z)
def xd:List Int->List Nat->Nat
 |c::cs,v::vs=>(if c%2=1 then v else 0)^^^xd cs vs
 |_,_=>0
def yX(cs:List Int):xd cs []=0:=by cases cs<;>rfl
def YS(a b c d:Nat):a^^^b^^^(c^^^d)=a^^^c^^^(b^^^d):=by rw[C6,C6,<- C6 b c d,<- C6 c b d,Nat.xor_comm b c]
def AS:∀{as bs:List Int} (vs:List Nat),as.length=bs.length->xd (plus as bs) vs=xd as vs^^^xd bs vs
 |[],[],vs,_=>by simp[xd,plus]
 |a::as,b::bs,[],_=>by rw[yX,yX,yX];rfl
 |a::as,b::bs,v::vs,h=>by
  have ih:=AS (as:=as) (bs:=bs) vs (by simpa using h);unfold plus at ih ⊢;rw[zipWith_cons_cons,xd,xd,xd,ih,YS];congr 1;have ha:=Int.emod_two_eq a;have hb:=Int.emod_two_eq b;rcases ha with ha|ha<;>rcases hb with hb|hb
  ·rw[K3 (),K3 (),K3 ()];rfl
  ·rw[K1 (),K3 (),K1 (),Nat.zero_xor]
  ·rw[K1 (),K1 (),K3 (),Nat.xor_zero]
  ·rw[K3 (),K1 (),K1 (),D5]
 |a::as,[],vs,h=>by simp at h
 |[],b::bs,vs,h=>by simp at h
def yW:∀{as:List Int} {vs:List Nat} {h:Nat},h<as.length->h<vs.length->xd (as.set h (as.getD h 0-1)) vs=xd as vs^^^vs.getD h 0
 |a::as,v::vs,0,_,_=>by
  rw[set_cons_zero,xd,xd];simp only[getD_cons_zero];rw[C6,Nat.xor_comm (xd as vs) v,<- C6];congr 1;rcases Int.emod_two_eq a with ha|ha
  ·rw[K1 (),K3 (),Nat.zero_xor]
  ·rw[K3 (),K1 (),D5]
 |a::as,v::vs,h+1,h1,h2=>by rw[set_cons_succ,xd,xd];have:=yW (as:=as) (vs:=vs) (h:=h) (by simpa using h1) (by simpa using h2);simp only[getD_cons_succ];rw[this,C6]
 |[],vs,h,h1,_=>by simp at h1
 |a::as,[],h,_,h2=>by simp at h2
def pJ:∀{as:List Int} {vs:List Nat} {b:Nat},(xd as vs).testBit b=true->∃h,h<as.length/\h<vs.length/\as.getD h 0%2=1/\(vs.getD h 0).testBit b=true
 |[],vs,b,h=>by simp[xd]at h
 |a::as,[],b,h=>by simp[xd]at h
 |a::as,v::vs,b,h=>by
  rw[xd,Nat.testBit_xor]at h;by_cases e:((if a%2=1 then v else 0).testBit b)=true
  ·by_cases ha:a%2=1
   ·rw[K1 ha]at e;exact⟨0,by simp,by simp,by simpa using ha,by simpa using e⟩
   ·rw[K3 ha]at e;simp at e
  ·rw[Bool.not_eq_true]at e;rw[e,Bool.false_xor]at h;obtain⟨i,h1,h2,h3,h4⟩:=pJ h;exact⟨i+1,by simpa using h1,by simpa using h2,by simpa using h3,by simpa using h4⟩
def Fq{x b:Nat}(hx:x<2^(b+1))(hb:x.testBit b=true)(hy:y.testBit b=true):y^^^x<y:=by
 refine y7 λ h=>?_;have hd:(y^^^x)/2^(b+1)=y/2^(b+1):=by rw[Nat.xor_div_two_pow,Nat.div_eq_of_lt hx,Nat.xor_zero]
 have hm:(y^^^x)%2^(b+1)<y%2^(b+1):=by
  have h1:((y^^^x)%2^(b+1))<2^b:=by
   refine Nat.lt_pow_two_of_testBit _ λ i hi=>?_;rw[Nat.testBit_mod_two_pow,Nat.testBit_xor];by_cases e:i<b+1
   ·have:i=b:=()
    subst this;rw[hb,hy];simp
   ·simp[e]
  have h2:2^b<=y%2^(b+1):=by refine Nat.ge_two_pow_of_testBit ?_;rw[Nat.testBit_mod_two_pow,hy];simp
  lia
 have e1:=Nat.div_add_mod (y^^^x) (2^(b+1));have e2:=Nat.div_add_mod y (2^(b+1));rw[hd]at e1;lia
def AQ{a b:Nat}:a^^^b=0↔a=b:=by
 constructor
 ·intro h;have:a^^^b^^^b=b:=by rw[h,Nat.zero_xor]
  rwa [C6,D5,Nat.xor_zero]at this
 ·rintro rfl;exact D5 _
def Kt(a:Nat):∀b:Nat,(a^^^b)+2*(a&&& b)=a+b:=by
 induction a using Nat.strongRecOn with
 |ind a ih=>
  intro b;by_cases h:a=0
  ·subst h;simp
  ·have h1:=ih (a/2) () (b/2);rw[<- Nat.xor_div_two,<- Nat.and_div_two]at h1;have x1:(a^^^b)%2=1↔¬(a%2=1↔b%2=1):=Nat.xor_mod_two_eq_one;have x2:(a&&& b)%2=1↔a%2=1/\b%2=1:=Nat.and_mod_two_eq_one;lia
def AH(a b:Nat):Builtin.bitXor (a:Int) (b:Int)=((a^^^b:Nat):Int):=by rw[PyProof.Rows.bitXor_and,PyProof.Rows.bitAnd_pp () ()];have:=Kt a b;simp only[u9];lia
def zD{Q:bF}{bs:List Bool}(h:M a=some (.lst (bs.map D.bl)))(q:Q (.bl (!bs.any id)) M):mD (.bl true) (.ref a) M Q:=by
 have h1:∀bs:List Bool,qm (bs.map D.bl)=true:=λ bs=>by
  induction bs with
  |nil=>rfl
  |cons b bs ih=>rw[C8];unfold qm;rw[ih];rfl
 have h2:∀bs:List Bool,PyData.canLayAll0 (toPs (bs.map D.bl))=true:=λ bs=>by
  induction bs with
  |nil=>simp[toPs,PyData.canLayAll0]
  |cons b bs ih=>rw[C8];unfold toPs;rw[PyData.canLayAll0,ih];simp[toP,PyData.canLay0]
 refine .inr ⟨bs.map D.bl,⟨dq h,h1 bs,rfl,h2 bs,by simp[toP,PyData.canLay0],by simp[toP,PyData.depth]⟩,?_⟩;have e:((bs.map D.bl).any λ e=>PyData.eqv (toP e) (toP (.bl true)))=bs.any id:=by rw[List.any_map];congr 1;funext b;cases b<;>simp[toP,PyData.eqv]
 rw[K1 rfl,e];exact q
structure Tb(m h:Nat)(kt:List Row):Prop where
 len:kt.length=m
 pos:0<m
 gw:m<=300
 xP:h<=12
 row:∀r∈kt,r.length=h/\∀x∈r,0<=x/\x<(m:Int)
def cp(kt:List Row)(ls:Row):D:=.tup [.tup (kt.map row),row ls]
def ax(kt:List Row)(h x:Nat):Nat:=((kt.getD x []).getD h 0).toNat
def Tb.at(T:Tb m h kt){x:Nat}(hx:x<m)(hi:i<h):(kt.getD x []).length=h/\(kt.getD x []).getD i 0=(ax kt i x:Int)/\ax kt i x<m:=by
 have sS:x<kt.length:=by rw[T.len];exact hx
 have e:kt.getD x []=kt[x]:=by rw[c3,g9 sS];rfl
 have hr:=T.row _ (A2 sS);unfold ax;rw[e];have Kf:i<(kt[x]).length:=by rw[hr.1];exact hi
 have e2:(kt[x]).getD i 0=(kt[x])[i]:=by rw[c3,g9 Kf];rfl
 have hb:=hr.2 _ (A2 Kf);rw[e2];exact⟨hr.1,(),()⟩
def f_(f:Nat->Nat):Nat->Nat->Nat
 |0,x=>x
 |n+1,x=>f_ f n (f x)
def ph(f:Nat->Nat):∀a b x,f_ f (a+b) x=f_ f b (f_ f a x)
 |0,b,x=>by rw[E8];rfl
 |a+1,b,x=>by rw[Nat.succ_add];exact ph f a b (f x)
def IF(f:Nat->Nat)(n x:Nat):f_ f (n+1) x=f (f_ f n x):=ph f n 1 x
def qA{f:Nat->Nat}(hf:∀x,x<m->f x<m):∀n x,x<m->f_ f n x<m
 |0,x,h=>h
 |n+1,x,h=>qA hf n (f x) (hf x h)
def Es{f:Nat->Nat}{x a L:Nat}(ha:a<L)(e:f_ f L x=f_ f a x)(hn:L<=n):f_ f (a+(n-a)%(L-a)) x=f_ f n x:=by
 have hp:0<L-a:=()
 have one:∀k y,f_ f (a+y+k*(L-a)) x=f_ f (a+y) x:=by
  intro k
  induction k with
  |zero=>intro y;rw[Nat.zero_mul];rfl
  |succ k ih=>intro y;rw[Nat.succ_mul,show a+y+(k*(L-a)+(L-a))=L+(y+k*(L-a)) by lia,ph,e,<- ph,show a+(y+k*(L-a))=a+y+k*(L-a) by lia];exact ih y
 have h:=one ((n-a)/(L-a)) ((n-a)%(L-a));rw[<- h];congr 1;have:=Nat.div_add_mod (n-a) (L-a);rw[Nat.mul_comm]at this;lia
def lE(kt:List Row):Nat->Nat->Row->Nat
 |_,x,[]=>x
 |i,x,c::cs=>lE kt (i+1) (f_ (ax kt i) c.toNat x) cs
def Tb.mN(T:Tb m h kt)(hi:i<h):∀x,x<m->ax kt i x<m:=λ x hx=>(T.at hx hi).2.2
def FO(T:Tb m h kt):∀(cs:Row)(i x:Nat),i+cs.length<=h->x<m->lE kt i x cs<m
 |[],i,x,_,hx=>hx
 |c::cs,i,x,hi,hx=>by rw[y6]at hi;exact FO T cs (i+1) _ () (qA (T.mN ()) _ _ hx)
def vY(kt:List Row):∀(cs:Row)(i x:Nat)(c:Int),lE kt i x (cs++[c])=f_ (ax kt (i+cs.length)) c.toNat (lE kt i x cs)
 |[],i,x,c=>rfl
 |d::cs,i,x,c=>by show lE kt (i+1) _ (cs++[c])=_;rw[vY kt cs (i+1),y6,show i+1+cs.length=i+(cs.length+1) by lia];rfl
end KK
namespace L2
open PySem.Spec PyProof.Rows
def DA{x:V}(r:ut (x::xs) us):∃u ws,us=u::ws/\sK x u/\ut xs ws:=by
 cases r with
 |cons a b=>exact⟨_,_,rfl,a,b⟩
open PySem.W PySem.Calls L5
def IW:∀(vs:List gV)(ns:List Int),vs.length=ns.length->(∀(j:Nat)(v:gV)(n:Int),vs[j]?=some v->ns[j]?=some n->∃t:Tok,v=Value.int n t)->IntsAre vs ns
 |[],[],_,_=>.nil
 |[],_::_,h,_=>by cases h
 |_::_,[],h,_=>by cases h
 |v::vs,n::ns,h,k=>by obtain⟨t,rfl⟩:=k 0 v n rfl rfl;exact .cons n t (IW vs ns (by simpa using h) λ j v n a b=>k (j+1) v n (by simpa using a) (by simpa using b))
def xC(h:IntsAre vs ns):ut (ns.map V.int) vs:=by
 induction h with
 |nil=>exact .nil
 |cons n t _ ih=>exact .cons ⟨t,rfl⟩ ih
def xD:∀{ns:List Int} {vs:List gV},ut (ns.map V.int) vs->IntsAre vs ns
 |[],_,h=>by cases h;exact .nil
 |n::ns,_,h=>by obtain⟨u,us,rfl,ru,r⟩:=DA h;obtain⟨t,rfl⟩:=ru;exact .cons n t (xD r)
def yw(hc:X.calm=true):dr X (.builtin "sorted") (λ xs H Q=>∃(a:ap)(kvs:List (Key×V))(ns:List Int),xs=[.ref a]/\H a=some (.dK kvs)/\kvs.map (·.1)=ns.map Sum.inl/\ns.length<64/\∀(iG:List Int)(p:ap),iG.Perm ns->iG.Pairwise (·<=·)->H p=none->Q (.ref p) (u8 H p (.lst (iG.map V.int)))):=by
 intro jp s σ H xs us Q I r ⟨a,kvs,ns,e,hd,hk,xK,q⟩;subst e;obtain⟨u,rfl,rx⟩:=vals1 r;cases(show u=Value.ref a from rx);obtain⟨z,nm,vs,rel,dd⟩:=Ju I.bu hd;obtain⟨ep,Tr⟩:=dd.dictAt;have len:vs.length=ns.length:=by rw[<- C5 rel];have:=J8 List.length hk;simpa using this
 refine call_function_entry kind_sorted plain_sorted entry_sorted (args_sorted1 _) ?_;unfold Builtin.«sorted»;refine J1 (m:=checkCount "sorted" 1 1 _) (J3 (J1 (kdu_collect (A:=X.A.in1) (kdl_dict (knd:=cg X.prog X.w) (kvs:=vs) (ep:=ep) nm) (show X.A.in1.handled=none from I.ok.hd hc) Tr (by rw[G8];lia) λ h' tk li hkp Ak=>?_)));have hl:li.toList.length=ns.length:=by rw[n5,Ak.1,len]
 have keys:vs.map (·.1)=ns.map Sum.inl:=by
  rw[<- hk];clear hk hd Tr dd Ak len q z
  induction rel with
  |nil=>rfl
  |cons p _ ih=>rw[C8,C8,ih,p.1]
 have hI:IntsAre li.toList ns:=IW _ _ hl λ j v n a b=>by
  obtain⟨k,x,e1,e2⟩:=Ak.2 j v (by rw[<- k3];exact a);have e3:k=Sum.inl n:=by have:=J8 (λ l=>l[j]?) keys;simp only[u6,e1,b,Option.map_some,Option.some.injEq]at this;exact this
  subst e3;rcases bQ (show qx (Sum.inl n) v=true from e2)with⟨i,t,h1,rfl⟩|⟨x,t,h1,rfl⟩
  ·cases h1;exact⟨t,rfl⟩
  ·cases h1
 refine J1 (wpAny_newList ?_ (by rw[hl,G8];lia));have WB:(h'.push (seqObj "list" li.toList.toArray 0)).get? h'.objs.size=some (seqObj "list" li.toList.toArray 0):=n6 _ rfl;refine J1 (C4 (y9 slot_list_sort ⟨_,WB,rfl⟩ entry_list_sort (list_sort_tree WB hI () λ out iG a1 a2 a3=>⟨_,rfl,?_⟩) (args_list_sort _)));refine J3 ⟨_,rfl,?_⟩;obtain⟨c,Ux⟩:=sortedHeap_at (out:=out) WB;have I0:sn X jp σ H {s with heap:=h',toks:=tk}:=I.kept (t':=tk) hkp;have kp:∀b o,h'.get? b=some o->(sortedHeap (h'.push (seqObj "list" li.toList.toArray 0)) h'.objs.size li.toList out).get? b=some o:=λ b o e=>by rw[sortedHeap_old (D6 (D7 e)) (by rw[size_push'];exact x9 (D7 e))];exact j5 _ e
 exact⟨.ref h'.objs.size,_,I0.laid (t':=tk) kp (G7 _) (show bR X.prog X.w _ _ _ (.lst (iG.map V.int))from⟨by rw[B3,a2.length_eq,G8];lia,out.toList,c,xC a1,by rw[Array.toArray_toList];exact Ux⟩),rfl,q iG _ a2 a3 (I0.bu.fresh (G7 _))⟩
def yu:dr X (.builtin "sorted") (λ xs H Q=>∃(a:ap)(ns:List Int),xs=[.ref a]/\eO X.K H a (ns.map V.int)/\ns.length<64/\∀(iG:List Int)(p:ap),iG.Perm ns->iG.Pairwise (·<=·)->H p=none->Q (.ref p) (u8 H p (.lst (iG.map V.int)))):=by intro jp s σ H xs us Q I r ⟨a,ns,e,hq,xK,q⟩;subst e;obtain⟨u,rfl,rx⟩:=vals1 r;cases(show u=Value.ref a from rx);obtain⟨aq,r',pl,hz⟩:=I.list hq;have hI:=xD r';have hl:=r'.length;rw[B3]at hl;refine sorted_ints pl.isList hI () λ out iG a1 a2 a3=>?_;obtain⟨c,Ux⟩:=sortedAll_at s.heap aq out;exact⟨.ref (s.heap.objs.size+1),_,I.laid (t':=s.toks) (λ _ _=>sortedAll_old) (Nat.le_succ _) (show bR X.prog X.w _ _ _ (.lst (iG.map V.int))from⟨by rw[B3,a2.length_eq,G8];lia,out.toList,c,xC a1,by rw[Array.toArray_toList];exact Ux⟩),rfl,q iG _ a2 a3 (I.bu.fresh (Nat.le_succ _))⟩
end L2
namespace L3
open PySem.Spec L2 L5 PyProof.Rows
def JA:List D->Mem->bF->Prop:=λ xs M Q=>∃(a:ap)(ns:List Int),xs=[.ref a]/\((∃kvs,M a=some (.bX false kvs)/\kvs.map (·.1)=ns.map D.int)\/M a=some (.lst (ns.map D.int)))/\ns.length<64/\∀(iG:List Int)(p:ap),iG.Perm ns->iG.Pairwise (·<=·)->M p=none->Q (.ref p) (ag M p (.lst (iG.map D.int)))
def sO:∀{xs:List Key} {ns:List Int},xs.map kM=ns.map D.int->xs=ns.map Sum.inl
 |[],[],_=>rfl
 |[],_::_,h=>by cases h
 |_::_,[],h=>by cases h
 |x::xs,n::ns,h=>by
  rw[C8,C8,List.cons.injEq]at h;rw[C8,sO h.2];cases x with
  |inl i=>have:=h.1;simp only[kM,D.int.injEq]at this;rw[this]
  |inr i=>have:=h.1;simp[kM]at this
def Od(hc:X.calm=true):fZ X (.builtin "sorted") JA:=⟨_,(yw hc).or yu,λ xs ds H M Q2 Q hd hm q k=>by
 obtain⟨a,ns,rfl,hs,xK,q⟩:=q;obtain⟨x,r,rfl,hx,hr⟩:=af.mp hd;cases(ao.mp hr);cases(ay.mp hx);have fin:∀(iG:List Int)(p:ap),iG.Perm ns->iG.Pairwise (·<=·)->H p=none->Q (.ref p) (u8 H p (.lst (iG.map V.int))):=λ iG p a1 a2 hp=>k _ _ (.ref p) _ (ay.mpr rfl) (dN hp (jR iG) hm) (ar.laid hp) (q iG p a1 a2 (hm.free hp));rcases hs with⟨kvs,hM,hk⟩|hM
 ·obtain⟨ys,hy,rel⟩:=hm a _ hM;refine .inl ⟨a,ys,ns,rfl,hy,?_,xK,fin⟩;refine sO ?_;rw[<- hk];clear hk hy hM q fin
  induction rel with
  |nil=>rfl
  |cons p _ ih=>rw[C8,C8,C8,ih,p.1]
 ·obtain⟨ys,hy,Yn⟩:=hm a _ hM;rw[dC Yn]at hy;exact .inr ⟨a,ns,rfl,eO.of hy,xK,fin⟩⟩
def DK{Q:bF}(ns:List Int)(h:M a=some (.lst (ns.map D.int)))(xK:ns.length<64)(q:∀(iG:List Int)(p:ap),iG.Perm ns->iG.Pairwise (·<=·)->M p=none->Q (.ref p) (ag M p (.lst (iG.map D.int)))):JA [.ref a] M Q:=⟨a,ns,rfl,.inr h,xK,q⟩
end L3
namespace L4
open L2 L3
def lnS{A:Type}{P:List A->Prop}(h:∀a t,t.length=n->P (a::t)):∀us:List A,us.length=n+1->P us
 |[],e=>nomatch e
 |a::t,e=>h a t (Nat.succ.inj e)
def ln1{A:Type}{P:List A->Prop}(h:∀a,P [a]):∀us:List A,us.length=1->P us:=lnS λ a t e=>by rw[eq_nil_of_length_eq_zero e];exact h a
def ln2{A:Type}{P:List A->Prop}(h:∀a b,P [a,b]):∀us:List A,us.length=2->P us:=lnS λ a=>ln1 (P:=λ t=>P (a::t)) (h a)
end L4
namespace L2
open PySem.Spec PyProof.Rows
def zx(lo:Int)(n:Nat):List V:=(List.range n).map λ(i:Nat)=>V.int (lo+(i:Int))
def DJ(h:ItemsOf (λ i v=>∃t,v=Value.int (lo+(i:Int)*1) t) li n):ut (zx lo n) li.toList:=by
 obtain⟨hl,hv⟩:=h;have go:∀(m:Nat)(vs:List gV)(k:Nat),vs.length=m->(∀j v,vs[j]?=some v->∃t,v=Value.int (lo+((k+j:Nat):Int)) t)->ut ((List.range' k m).map λ(i:Nat)=>V.int (lo+(i:Int))) vs:=by
  intro m
  induction m with
  |zero=>intro vs k hl _;rw[eq_nil_of_length_eq_zero hl];exact .nil
  |succ m ih=>
   intro vs k hl hv;cases vs with
   |nil=>cases hl
   |cons v vs=>rw[range'_succ,C8];obtain⟨t,rfl⟩:=hv 0 v rfl;refine .cons ⟨t,by simp⟩ (ih vs (k+1) (by simpa using hl) λ j u hj=>?_);obtain⟨t,e⟩:=hv (j+1) u (by simpa using hj);refine⟨t,?_⟩;rw[e];congr 1;lia
 have:=go n li.toList 0 (by simpa using hl) (λ j v hj=>by
  obtain⟨t,e⟩:=hv j v (by simpa using hj);refine⟨t,?_⟩;rw[e,E8,Int.mul_one])
 rw[<- range_eq_range']at this;exact this
def EM:dr X (.type "range") (λ xs H Q=>∃i j:Int,xs=[.int i,.int j]/\∀r,H r=none->Q (.ref r) (u8 H r (.Qz i j))):=by intro jp s σ H xs us Q I rr ⟨i,j,e,q⟩;subst e;obtain⟨u,u2,rfl,⟨t,rfl⟩,⟨t2,rfl⟩⟩:=vals2 rr;refine call_range_2 ⟨.ref s.heap.objs.size,_,I.laid (t':=s.toks+1) (o:=.Qz i j) (λ b o e=>j5 _ e) (G7 _) ⟨_,_,_,n6 _ rfl⟩,rfl,q _ (I.bu.fresh (G7 _))⟩
end L2
namespace L3
open PySem.Spec PyProof.Rows L2
section
variable {a:Expr}{ta:e_}{p gj:Pos}
def Jy(lo:Int)(n:Nat):aA K H (dh lo n) (zx lo n):=by
 unfold dh zx;generalize List.range n=l
 induction l with
 |nil=>exact ao.mpr rfl
 |cons x l ih=>exact af.mpr ⟨_,_,rfl,au.mpr rfl,ih⟩
end
end L3
namespace L2
open PySem.Spec PyProof.Rows
def ES(hc:X.calm=true):dr X (.type "list") (λ xs H Q=>∃r lo hi,xs=[.ref r]/\H r=some (.Qz lo hi)/\(-100000000<=lo/\lo<=100000000)/\(-100000000<=hi/\hi<=100000000)/\(hi-lo).toNat<=10000/\∀p,H p=none->Q (.ref p) (u8 H p (.lst (zx lo (hi-lo).toNat)))):=by
 intro jp s σ H xs us Q I rr ⟨r,lo,hi,e,hr,h1,h2,hn,q⟩;subst e;obtain⟨u,rfl,rx⟩:=vals1 rr;cases rx;obtain⟨t,u,v,ho⟩:=I.bu r _ hr;have es:Builtin.Range.rangeSize lo hi 1=(((hi-lo).toNat:Nat):Int):=by rw[rangeSize_one];split<;>lia
 refine call_list_range (a:=lo) (b:=hi) (c:=1) (t:=t) (u:=u) (v:=v) (n:=(hi-lo).toNat) (I.ok.hd hc) ho (small_one () () () ()) es () λ h' tk li c' kp hS Ak=>?_;have hf:=I.bu.fresh (G7 s.heap.objs.size);have fo:=I.mr (H':=H) (G7 s.heap.objs.size) hf;have I2:sn X jp σ (u8 H s.heap.objs.size (.lst (zx lo (hi-lo).toNat))) {s with heap:=h',toks:=tk}:=
  sn.rX (I.kept (t':=tk) kp) hf ⟨by unfold zx;rw[B3,x4];exact E6 hn (by decide),li.toList,c',DJ Ak,by rw[show li.toList.toArray=li by simp];exact hS⟩ fo.2.1 I.sz fo.2.2.2.2.1 fo.2.2.2.2.2
 exact⟨.ref s.heap.objs.size,_,I2,rfl,q _ hf⟩
end L2
namespace L3
open PySem.Spec PyProof.Rows L2 L5
section
variable {e1 e2 e3:Expr}{ta:e_}{p gj:Pos}
def OM(ta:e_):bT:=λ δ M Q=>ta δ M λ ds M1=>∃i j:Int,ds=[.int i,.int j]/\(-10000<=i/\i<=10000)/\(-10000<=j/\j<=10000)/\(j-i).toNat<=10000/\∀p,M1 p=none->Q (.ref p) (ag M1 p (.lst (dh i (j-i).toNat)))
def PZ(hc:X.calm=true)(hg:Gl X "list")(hm:X.mg "list"=none)(Pe:Gl X "range")(hmr:X.mg "range"=none)(ha:WA X [e1,e2] ta)(hs:starEach [e1,e2] X.env=[(false,eval e1 X.env),(false,eval e2 X.env)]:=by rfl)(nk:starEach [e2] X.env=[(false,eval e2 X.env)]:=by rfl):WE X (.Call (.Name "list" p) [.Call (.Name "range" p2) [e1,e2] [] gj] [] pos) (OM ta):=by replace ha:=ha.h;refine⟨?_⟩;refine bH (jH (ES hc) hg hm (by decide+kernel) (ig (jH EM Pe hmr (by decide+kernel) ha (by decide) (by decide) (by show _=_;rw[hs,nk]) (by show _=_;rw[nk];rfl)) kH)) ?_;rintro σ H Q ⟨δ,M,Q2,hs,hm,q,k⟩;refine⟨δ,M,_,hs,hm,q,λ xs H1 ds M1 hd bM t1 ⟨i,j,e,hi,hj,hn,q1⟩=>?_⟩;subst e;obtain⟨x,r,rfl,hx,hr⟩:=af.mp hd;obtain⟨y,r2,rfl,hy,S5⟩:=af.mp hr;cases(ao.mp S5);cases(au.mp hx);cases(au.mp hy);refine⟨i,j,rfl,λ r IY=>?_⟩;refine⟨r,i,j,rfl,aQ,⟨(),()⟩,⟨(),()⟩,hn,λ p hp=>?_⟩;have t2:ar H1 (u8 H1 r (.Qz i j)):=ar.laid IY;have t3:=ar.laid (o:=.lst (zx i (j-i).toNat)) hp;exact k _ _ _ _ (ay.mpr rfl) ((bM.laid IY).put (u:=.lst (dh i (j-i).toNat)) t3 ⟨_,aQ,Jy i _⟩) (t1.trans (t2.trans t3)) (q1 p ((bM.laid IY).free hp))
end
end L3
namespace L4
open L2 L3
section
variable {e1 e2 e3:Expr}{ta:e_}{p gj:Pos}
end
def Lv{ta:e_}{Q:bF}(h:ta δ M λ ds M1=>∃i j:Int,ds=[.int i,.int j]/\(-10000<=i/\i<=10000)/\(-10000<=j/\j<=10000)/\(j-i).toNat<=10000/\∀p,M1 p=none->Q (.ref p) (ag M1 p (.lst (dh i (j-i).toNat)))):OM ta δ M Q:=h
end L4
namespace L2
open PySem.Spec PyProof.Rows
abbrev jB:=ap->Option (Obj×V)
def kW(H:Hp)(C:jB):Hp:=λ b=>match C b with
 |some p=>some (iA p.1 b p.2)
 |none=>H b
def iL(H:Hp)(C:jB):Hp:=λ b=>match C b with
 |some _=>none
 |none=>H b
def jP{C:jB}{b:ap}{p:Obj×V}(e:C b=some p):kW H C b=some (iA p.1 b p.2):=by unfold kW;rw[e]
def bI{C:jB}{b:ap}(e:C b=none):kW H C b=H b:=by unfold kW;rw[e]
def hZ{C:jB}{b:ap}{p:Obj×V}(e:C b=some p):iL H C b=none:=by unfold iL;rw[e]
def bh{C:jB}{b:ap}(e:C b=none):iL H C b=H b:=by unfold iL;rw[e]
def aG(C:jB)(b:ap):C b=none\/∃p,C b=some p:=by
 cases e:C b with
 |none=>exact .inl rfl
 |some p=>exact .inr ⟨p,rfl⟩
def rg(C:jB)(h:Heap):Prop:=∀b p,C b=some p->h.get? b=some p.1/\JI b p.2 h
def CU{b:ap}(x:JI b v h)(k:∀o,h.get? b=some o->h'.get? b=some o):JI b v h':=by obtain⟨u,r,o,h1,h2⟩:=x;exact⟨u,r,o,k _ h1,h2⟩
def rg.obj{C:jB}(c:rg C h){b:ap}{p:Obj×V}(e:C b=some p):bR P w H h b (iA p.1 b p.2):=
 ⟨(c b p e).1,(c b p e).1,(c b p e).2,⟨_,(c b p e).1⟩,λ h1 h2 x k=>CU x k⟩
section
variable {s':am}{C:jB}
def iO.FJ(x:iO P w H h)(hC:∀b p,C b=some p->∃o u,H b=some (.du o u)):iO P w (iL H C) h:=λ b u e=>by
 rcases aG C b with z|⟨p,z⟩
 ·rw[bh z]at e;refine(x b u e).kr (λ c v _ q=>q) (λ c q=>?_) λ c xs q=>?_
  ·rcases aG C c with y|⟨p,y⟩
   ·rw[bh y];exact q
   ·obtain⟨o,u,r⟩:=hC c p y;rw[r]at q;cases q
  ·rcases aG C c with y|⟨p,y⟩
   ·rw[bh y];exact q
   ·obtain⟨o,u,r⟩:=hC c p y;rw[r]at q;cases q
 ·rw[hZ z]at e;cases e
def iO.du(x:iO P w H h)(hC:∀b p,C b=some p->H b=none)(c:rg C h):iO P w (kW H C) h:=λ b u e=>by
 rcases aG C b with z|⟨p,z⟩
 ·rw[bI z]at e;refine(x b u e).kr (λ c v _ q=>q) (λ c q=>?_) λ c xs q=>?_
  ·rcases aG C c with y|⟨p,y⟩
   ·rw[bI y];exact q
   ·rw[hC c p y]at q;cases q
  ·rcases aG C c with y|⟨p,y⟩
   ·rw[bI y];exact q
   ·rw[hC c p y]at q;cases q
 ·rw[jP z]at e;cases e;exact c.obj z
def lx.du(e:lx P w K mg base A outer s H)(hC:∀b p,C b=some p->H b=none/\base.get? b=none/\b∉vO outer)(c:rg C s.heap):lx P w K mg base A outer s (kW H C):=by
 refine⟨e.frames,e.mod,λ b o q=>?_,e.CW,e.jX,λ b hb=>?_,e.bu.du (λ b p z=>(hC b p z).1) c,e.bare⟩
 ·rcases aG C b with z|⟨p,z⟩
  ·rw[bI z];exact e.bs b o q
  ·rw[(hC b p z).2.1]at q;cases q
 ·rcases aG C b with z|⟨p,z⟩
  ·rw[bI z];exact e.Ki b hb
  ·exact be hb (hC b p z).2.2
def CE.FJ{Q:VK}(h:CE outer P w (kW H C) s Q u s')(hC:∀b p,C b=some p->H b=none/\b∉vO outer)(c:rg C s.heap):CE outer P w H s (λ v H2=>∃H',H2=iL H' C/\(∀b p,C b=some p->H' b=some (iA p.1 b p.2))/\Q v H') u s':=by
 obtain⟨v,H',os,bare,un,bu,r,q⟩:=h;have hf:∀b p,C b=some p->H' b=some (iA p.1 b p.2):=λ b p z=>un.nu b _ _ (jP z);have ne:∀b o,H b=some o->C b=none:=λ b o e=>by
  rcases aG C b with z|⟨p,z⟩
  ·exact z
  ·rw[(hC b p z).1]at e;cases e
 refine⟨v,iL H' C,os,bare,⟨λ b o e n hb hx=>?_,λ b o e n hb hx=>?_,λ b o e n hx=>?_,un.there,λ b xs e=>?_,λ b o x e=>?_,λ b ps e=>?_⟩,bu.FJ λ b p z=>⟨_,_,hf b p z⟩,r,H',rfl,hf,q⟩
 ·rcases aG C b with z|⟨p,z⟩
  ·exact un.keep b o e (by rw[bI z];exact n) hb hx
  ·rw[(c b p z).1]at e;cases e;exact(bu b _ (hf b p z)).1
 ·rcases aG C b with z|⟨p,z⟩
  ·exact un.slot b o e (by rw[bI z];exact n) hb hx
  ·exact be hb (hC b p z).2
 ·rcases aG C b with z|⟨p,z⟩
  ·rw[bh z];exact un.free b o e (by rw[bI z];exact n) hx
  ·exact hZ z
 ·rw[bh (ne b _ e)];exact un.pQ b xs (by rw[bI (ne b _ e)];exact e)
 ·rw[bh (ne b _ e)];exact un.nu b o x (by rw[bI (ne b _ e)];exact e)
 ·rw[bh (ne b _ e)];exact un.ox b ps (by rw[bI (ne b _ e)];exact e)
def lx.FJ(e:lx P w K mg base A outer s H)(hC:∀b p,C b=some p->H b=some (iA p.1 b p.2)):lx P w K mg base A outer s (iL H C):=by
 refine⟨e.frames,e.mod,λ b o q=>⟨(e.bs b o q).1,?_⟩,e.CW,e.jX,λ b hb=>?_,e.bu.FJ λ b p z=>⟨_,_,hC b p z⟩,e.bare⟩
 ·rcases aG C b with z|⟨p,z⟩
  ·rw[bh z];exact(e.bs b o q).2
  ·exact hZ z
 ·rcases aG C b with z|⟨p,z⟩
  ·rw[bh z];exact e.Ki b hb
  ·exact hZ z
def CE.du{Q:VK}(h:CE outer P w (iL H C) s (λ v H'=>(∀b p,C b=some p->H' b=none)->Q v (kW H' C)) u s')(Nx:iO P w H s.heap)(hC:∀b p,C b=some p->H b=some (iA p.1 b p.2))(Fi:∀b∈vO outer,H b=none):CE outer P w H s Q u s':=by
 obtain⟨v,H',os,bare,un,bu,r,q⟩:=h;have nf:∀b p,C b=some p->b∉vO outer:=λ b p z hb=>by have:=hC b p z;rw[Fi b hb]at this;cases this
 have kc:∀b p,C b=some p->s'.heap.get? b=some p.1:=λ b p z=>un.keep b _ (Nx b _ (hC b p z)).1 (hZ z) (nf b p z) (by simp);have fr:∀b p,C b=some p->H' b=none:=λ b p z=>un.free b _ (Nx b _ (hC b p z)).1 (hZ z) (by simp);have ne:∀b,H b=none->C b=none:=λ b e=>by
  rcases aG C b with z|⟨p,z⟩
  ·exact z
  ·rw[hC b p z]at e;cases e
 have co:rg C s'.heap:=λ b p z=>⟨kc b p z,CU (Nx b _ (hC b p z)).2.2.1 λ o e=>by rw[(Nx b _ (hC b p z)).1]at e;cases e;exact kc b p z⟩;refine⟨v,kW H' C,os,bare,⟨λ b o e n hb hx=>un.keep b o e (by rw[bh (ne b n)];exact n) hb hx,λ b o e n hb hx=>un.slot b o e (by rw[bh (ne b n)];exact n) hb hx,λ b o e n hx=>by rw[bI (ne b n)];exact un.free b o e (by rw[bh (ne b n)];exact n) hx,un.there,λ b xs e=>?_,λ b o x e=>?_,λ b ps e=>?_⟩,bu.du fr co,r,q fr⟩
 ·rcases aG C b with z|⟨p,z⟩
  ·rw[bI z];exact un.pQ b xs (by rw[bh z];exact e)
  ·rw[hC b p z]at e;cases e
 ·rcases aG C b with z|⟨p,z⟩
  ·rw[bI z];exact un.nu b o x (by rw[bh z];exact e)
  ·rw[hC b p z]at e;rw[jP z];exact e
 ·rcases aG C b with z|⟨p,z⟩
  ·rw[bI z];exact un.ox b ps (by rw[bh z];exact e)
  ·rw[hC b p z]at e;cases e
end
structure mI(ps fv:List Str)(sc:Scope):Prop where
 kind:sc.kind=.function
 co:sc.isCoroutine=false
 gen:sc.isGenerator=false
 nd:(ps++fv).Nodup
 par:∀x∈ps,sc.names.lookup x=some .local
 HV:∀y∈sc.names,y.2≠.cell
 Tz:∀x∈fv,sc.names.lookup x=some .free
 all:∀x,sc.names.lookup x=some .free->x∈fv
def yk(P:Program)(w:World)(K:K6)(mg:Str->Option gV)(base:Heap)(N:List Str)(qual:Str)(scope:Scope)(f c:ap)(cl:List (Str×ap))(A:Around)(outer:List Env)(s:am)(H:Hp):Cx where
 prog:=P
 w:=w
 K:=K
 mg:=mg
 base:=base
 A:=A.deeper (PySem.W.envX qual scope s.heap.objs.size f (.ref c) cl)
 N:=N
 s₀:=s
 H₀:=H
 env:=PySem.W.envX qual scope s.heap.objs.size f (.ref c) cl
 outer:=outer
 stack:=PySem.W.envX qual scope s.heap.objs.size f (.ref c) cl::outer
 ex:=[]
 calm:=true
 fn:=λ _=>false
 pn:=[]
 xe:=λ _ _=>False
abbrev XB:=List V->List V->Hp->VK->Prop
structure Ug(h:Heap)(H:Hp)(cl:List (Str×ap))(fv:List Str)(iN:List V):Prop where
 len:iN.length=fv.length
 val:∀(i:Nat)(x:Str)(v:V),fv[i]?=some x->iN[i]?=some v->∃d,cl.lookup x=some d/\JI d v h
 inj:∀x y d,cl.lookup x=some d->cl.lookup y=some d->x=y
 free:∀x d,cl.lookup x=some d->x∈fv/\H d=none
structure tI(P:Program)(w:World)(K:K6)(mg:Str->Option gV)(base:Heap)(k:Nat)(L:lp)(ps fv:List Str)(sp:XB):Prop where
 len:∀vs iN H Q,sp vs iN H Q->vs.length=ps.length
 run:∀(A:Around)(outer:List Env)(s:am)(H:Hp)(f c:ap)(cl:List (Str×ap))(us:List gV)(vs iN:List V)(Q:VK),cw k A->lx P w K mg base A outer s H->nh f L c cl s.heap->vf c L.qual s.heap->Ug s.heap H cl fv iN->ut vs us->sp vs iN H Q->
  codeAny (model P w) A (.call (.ref f) ⟨us,[]⟩) (CR (λ _ _ _ _ _ _=>False) outer P w H s Q λ _ _ _=>False) s
def PM:∀{ps:List Str} {us:List gV} {i:Nat},ps.Nodup->ps[i]?=some x->us[i]?=some u->(ps.zip us).reverse.lookup x=some u:=by
 intro ps us i nd h1 h2;have mem:(x,u)∈ps.zip us:=by have:(ps.zip us)[i]?=some (x,u):=getElem?_zip_eq_some.mpr ⟨h1,h2⟩;exact k8 this
 have un:∀v,(x,v)∈ps.zip us->v=u:=λ v hv=>by obtain⟨j,hj⟩:=mem_iff_getElem?.mp hv;obtain⟨a,b⟩:=getElem?_zip_eq_some.mp hj;have:=ja nd h1 a;subst this;rw[h2]at b;exact(B0 b).symm
 have go:∀l:List (Str×gV),(x,u)∈l->(∀v,(x,v)∈l->v=u)->l.lookup x=some u:=by
  intro l
  induction l with
  |nil=>intro h;cases h
  |cons p l ih=>
   intro h hu;obtain⟨y,v⟩:=p;rw[y3];cases hy:x==y with
   |true=>
    have:x=y:=by simpa using hy
    subst this;rw[hu v (.head _)]
   |false=>
    rcases C9.mp h with e|h
    ·cases e;simp at hy
    ·exact ih h λ w hw=>hu w (.tail _ hw)
 exact go _ (mem_reverse.mpr mem) λ v hv=>un v (mem_reverse.mp hv)
def So{mg:Str->Option gV}{base:Heap}{k:Nat}{L:lp}{ps fv:List Str}{sp:XB}(S:mI ps fv L.scope)(len:∀vs iN H Q,sp vs iN H Q->vs.length=ps.length)(qF:∀(cl:List (Str×ap))(c:ap)(pE:gV)(us:List gV),us.length=ps.length->bindArgs (PySem.W.kla_fn "<lambda>" L.qual L.params L.body L.scope cl L.pm (.ref c) pE) ⟨us,[]⟩=pure (ps.zip us)) (eQ:∀(A:Around)(outer:List Env)(s:am)(H:Hp)(f c:ap)(cl:List (Str×ap))(vs iN:List V)(Q:VK),cw k (A.deeper (PySem.W.envX L.qual L.scope s.heap.objs.size f (.ref c) cl))->sp vs iN H Q->
   ∃t,PE (yk P w K mg base (ps++fv) L.qual L.scope f c cl A outer s H) L.body t/\t ((vs++iN).map some) H Q):tI P w K mg base (k+1) L ps fv sp:=by
 refine⟨len,λ A outer s H f c cl us vs iN Q hr e0 hf hc hC r Ck=>?_⟩;have hl:=len _ _ _ _ Ck;have lim:s.heap.NoLimit:=e0.mod.nolimit.keeps λ b o e=>(e0.bs b o e).1;obtain⟨pE,ef⟩:=hf;refine PySem.W.kla_callFunE hr.depth ef rfl S.co S.gen rfl hc ?_;rw[qF cl c pE us (by rw[<- r.length];exact hl)];refine J3 (wpAny_newFunctionEnv S.HV (λ y hy=>S.par _ (of_mem_zip (show(y.1,y.2)∈ps.zip us from hy)).1) (λ h1 hns Nu=>⟨lim.fresh _ Nu,?_⟩) S.kind);show codeAny _ _ (.expr L.body (PySem.W.envX L.qual L.scope s.heap.objs.size f (.ref c) cl)) _ _;have Tf:∀b o,s.heap.get? b=some o->h1.get? b=some o:=λ b o e=>Nu.extBut b o (D6 (D7 e)) (j5 _ e);obtain⟨t,ht,hq⟩:=eQ A outer s H f c cl vs iN Q (hr.deeper _) Ck;have I:sn (yk P w K mg base (ps++fv) L.qual L.scope f c cl A outer s H) [] ((vs++iN).map some) H {s with heap:=h1,toks:=s.toks+(ps.zip us).length}:=by
  have HW:∀b:ap,b∉(yk P w K mg base (ps++fv) L.qual L.scope f c cl A outer s H).ex:=λ b z=>be (show b∈([]:List ap)from z) (by simp);refine⟨⟨e0.mod,S.kind,rfl,rfl,G7 _,hC.inj,λ y hy=>?_,λ y d z=>(by cases z),λ _=>hr.hd,Around.frames_deeper e0.frames,.inr ⟨rfl,rfl⟩,λ b z=>be z (HW b),e0.bs,e0.CW,λ b _ _=>HW b,λ b z=>be z (HW b),e0.jX,e0.Ki⟩,
   rfl,e0.bare,Un.kept Tf,⟨_,hns,λ i y v q1 q2 q3=>?_⟩,λ y d q=>?_,e0.bu.fresh (G7 _),λ y d q=>(hC.free y d q).2,λ p hp=>be (show p∈([]:List (ap×Obj))from hp) (by simp),e0.bu.kept Tf,?_⟩
  ·have hy:L.scope.names.lookup y=some .cell\/L.scope.names.lookup y=some .free:=hy;rcases hy with hy|hy
   ·exact be rfl (S.HV _ (m8 hy))
   ·obtain⟨i,hi⟩:=mem_iff_getElem?.mp (S.all y hy);have lt:i<iN.length:=by rw[hC.len];exact(c7.mp hi).1
    obtain⟨d,q,_⟩:=hC.val i y _ hi (g9 lt);exact⟨d,q⟩
  ·have q2:(vs++iN)[i]?=some v:=by
    rw[u6]at q2;cases z:(vs++iN)[i]? with
    |none=>rw[z]at q2;cases q2
    |some a=>rw[z]at q2;cases q2;rfl
   have q1:(ps++fv)[i]?=some y:=q1;by_cases hi:i<ps.length
   ·rw[c4 hi]at q1;rw[c4 (by rw[hl];exact hi)]at q2;obtain⟨u,hu,rv⟩:=r.get q2;exact⟨u,rv,.inl ⟨S.par y (k8 q1),PM (nodup_append.mp S.nd).1 q1 hu⟩⟩
   ·rw[b9 ()]at q1;rw[b9 (),hl]at q2;obtain⟨d,q,u,rv,ic⟩:=hC.val _ y v q1 q2;exact⟨u,rv,.inr ⟨.inr (S.Tz y (k8 q1)),d,q,let⟨o,a,b⟩:=ic;⟨o,Tf _ _ a,b⟩⟩⟩
  ·obtain⟨i,hi⟩:=mem_iff_getElem?.mp (hC.free y d q).1;have lt:i<iN.length:=by rw[hC.len];exact(c7.mp hi).1
   obtain⟨d',q',u,_,ic⟩:=hC.val i y _ hi (g9 lt);have:d'=d:=B0 (q'.symm.trans q);subst this;exact⟨some u,let⟨o,a,b⟩:=ic;⟨o,Tf _ _ a,b⟩⟩
  ·show _=(ps++fv).length;rw[B3,p4,p4,hl,hC.len]
 refine PySem.W.kla_codeExpr (J6 (ht [] _ _ H Q I hq) (λ u s' hs=>?_) λ e s' hs=>False.elim hs);obtain⟨v,H',J,rv,q⟩:=hs;exact⟨v,H',J.os,J.bare,J.base,J.bu,rv,q⟩
structure XS(cells:List (Str×ap))(cn:List (Str×Nat))(σ:St)(C:jB):Prop where
 has:∀x j,(x,j)∈cn->∃d o v,cells.lookup x=some d/\σ[j]?=some (some v)/\C d=some (o,v)
 only:∀d p,C d=some p->∃x j,(x,j)∈cn/\cells.lookup x=some d
def sn.Xv(I:sn X jp σ H s):∀(cn:List (Str×Nat)),(∀x j,(x,j)∈cn->X.env.kindOf x=some .cell/\X.N[j]?=some x/\∃v,σ[j]?=some (some v))->X.N.Nodup->∃C,XS X.env.cells cn σ C/\rg C s.heap
 |[],_,_=>⟨λ _=>none,⟨(λ _ _ h=>nomatch h),(λ _ _ h=>nomatch h)⟩,(λ _ _ h=>nomatch h)⟩
 |(x,j)::cn,h,nd=>by
  obtain⟨C,h1,h2⟩:=I.Xv cn (λ y i hy=>h y i (.tail _ hy)) nd;obtain⟨hk,hN,v,hv⟩:=h x j (.head _);obtain⟨m,hn,hl⟩:=I.loc;obtain⟨u,r,lk⟩:=hl j x v hN hv (.inr (.inl hk));rcases lk with⟨q,_⟩|⟨_,d,hd,hc⟩
  ·rw[hk]at q;cases q
  obtain⟨o,ho,hz⟩:=Ob r hc;refine⟨λ b=>if b=d then some (o,v)else C b,⟨λ y i hy=>?_,λ b p hb=>?_⟩,λ b p hb=>?_⟩
  ·rcases C9.mp hy with e|hy2
   ·cases e;exact⟨d,o,v,hd,hv,K1 rfl⟩
   ·obtain⟨d',o',v',e1,e2,e3⟩:=h1.has y i hy2;by_cases z:d'=d
    ·subst z;have exy:y=x:=I.ok.inj _ _ _ e1 hd;subst exy;obtain⟨_,hN',_⟩:=h y i (.tail _ hy2);have:i=j:=ja nd hN' hN;subst this;exact⟨d',o,v,hd,hv,K1 rfl⟩
    ·exact⟨d',o',v',e1,e2,(K3 z).trans e3⟩
  ·by_cases z:b=d
   ·subst z;exact⟨x,j,.head _,hd⟩
   ·have hb:C b=some p:=(K3 z).symm.trans hb;obtain⟨y,i,m1,m2⟩:=h1.only b p hb;exact⟨y,i,.tail _ m1,m2⟩
  ·by_cases z:b=d
   ·subst z;have hb:some (o,v)=some p:=(K1 rfl).symm.trans hb;cases hb;exact⟨ho,u,r,hc⟩
   ·exact h2 b p ((K3 z).symm.trans hb)
section
variable {vP:List V}{ds:List gV}{p:Pos}
def Qo(sp:Sp)(vP:List V)(cells:List (Str×ap))(cn:List (Str×Nat))(t:TA):TE:=λ σ H Q=>t σ H λ vs H1=>(∀x j,(x,j)∈cn->∃v,σ[j]?=some (some v))/\
 ∀C,XS cells cn σ C->(∀x j y i b,(x,j)∈cn->(y,i)∈cn->cells.lookup x=some b->cells.lookup y=some b->j=i)->(∀b p,C b=some p->H1 b=none)->sp (vs++vP) (kW H1 C) (λ v H'=>Q v (iL H' C)) E0
def HA(F:bB X.prog X.w X.K X.mg X.base dX k f fd ps sp)(hr:cw k X.A)(hg:Gl X x)(hm:X.mg x=some (.ref f))(hk:PySem.W.keepIn X.K (.ref f)=true)(hb:Binds X.K fd ps ds)(hd:ut vP ds)(vN:∀x j,(x,j)∈cn->X.env.kindOf x=some .cell/\X.N[j]?=some x/\X.fn x=true)(hN:X.N.Nodup)(ha:PA X (e::es) t)(oC:rj x:=by decide)(he:oq X e es:=by rfl)(gb:vR X pos es:=by rfl):PE X (.Call (.Name x p) (e::es) [] pos) (Qo sp vP X.env.cells cn t):=by
 intro jp s σ H Q I h;refine q9 (uI I hg hm ?_ oC);refine PySem.W.callWith_K (h₀:=X.base) I.ok.mod.Wb hk (cZ (ha pos jp s σ H _ I h) λ us s1 ⟨vs,H1,I1,r,hv,q⟩=>⟨I1.Nh,?_⟩) he gb;obtain⟨C,hC,cok⟩:=I1.Xv cn (λ x j hx=>⟨(vN x j hx).1,(vN x j hx).2.1,hv x j hx⟩) hN;have fr:∀b p,C b=some p->H1 b=none/\X.base.get? b=none/\b∉vO X.stack:=λ b p hb=>by
  obtain⟨y,j,m1,m2⟩:=hC.only b p hb;have ge:=I1.ok.UD y b (vN y j m1).2.2 m2;refine⟨I1.gY y b m2,Heap.get?_none_of_le (E6 I1.ok.CW ge),λ z=>?_⟩;rcases C9.mp (I1.pV b z)with z|z
  ·exact I1.Pz y b m2 z
  ·obtain⟨_,o,ho,_⟩:=I1.ok.jX.mem z;exact be (D7 ho) (Nat.not_lt.mpr ge)
 have q:=q C hC (λ y j z i b m1 m2 e1 e2=>by have:=I1.ok.inj _ _ _ e1 e2;subst this;exact ja hN (vN _ _ m1).2.1 (vN _ _ m2).2.1) λ b p hb=>(fr b p hb).1;have r2:ut (vs++vP) (us++ds):=r.append hd;have hl:(us++ds).length=ps.length:=by rw[<- r2.length];exact F.len _ _ _ _ q
 refine wpAny_call (G3 (F.run X.A X.stack s1 (kW H1 C) ⟨us,[]⟩ (us++ds) (vs++vP) _ E0 hr (I1.NV.du fr cok) (hb s1 us I1.Nh hl) r2 q) λ r s' hq=>?_);cases r with
 |error e=>exact False.elim hq
 |ok fl=>
  cases fl with
  |ret u=>have hq:=CE.FJ hq (λ b p hb=>⟨(fr b p hb).1,(fr b p hb).2.2⟩) cok;obtain⟨v,H2,I2,rv,H',e,hf,q⟩:=I1.after hq;exact⟨v,H2,I2,rv,by rw[e];exact q⟩
  |next=>exact False.elim hq
  |brk=>exact False.elim hq
  |cont=>exact False.elim hq
end
section
variable {p:Pos}
structure XH(H:Hp)(f:ap)(L:lp)(fv:List Str)(iN:List V)(C:jB):Prop where
 ex:∃c cl,(∃o,H f=some (.du o (.ext (nh f L c cl))))/\(∃o,H c=some (.du o (.ext (vf c L.qual))))/\(∀x y d,cl.lookup x=some d->cl.lookup y=some d->x=y)/\(∀x d,cl.lookup x=some d->x∈fv/\∃p,C d=some p)/\
  ∀(i:Nat)(x:Str)(v:V),fv[i]?=some x->iN[i]?=some v->∃d o,cl.lookup x=some d/\C d=some (o,v)
 len:iN.length=fv.length
 du:∀b p,C b=some p->H b=some (iA p.1 b p.2)
def tFn(P:Program)(w:World)(K:K6)(mg:Str->Option gV)(base:Heap)(k:Nat)(i:Nat)(t:TA):TE:=λ σ H Q=>∃f,σ[i]?=some (some (.ref f))/\(∃o L c cl,H f=some (.du o (.ext (nh f L c cl))))/\t σ H λ vs H1=>∃(L:lp)(ps fv:List Str)(sp:XB)(iN:List V)(C:jB),
 tI P w K mg base k L ps fv sp/\XH H1 f L fv iN C/\sp vs iN (iL H1 C) λ v H'=>(∀b p,C b=some p->H' b=none)->Q v (kW H' C)
def Pp(bu:iO P w H h)(e:H f=some (.du o (.ext (nh f L c cl)))):nh f L c cl h:=(bu f _ e).2.1
def Cz(x:nh f L c cl h):PySem.W.FnAt f h:=let⟨pE,e⟩:=x;⟨_,_,_,_,e⟩
def Hz(hr:cw k X.A)(hi:X.N[i]?=some x)(hv:T8 X.env.scope x)(ha:PA X (e::es) t)(hd:rj x:=by decide)(sW:XE x:=by decide)(he:oq X e es:=by rfl)(gb:vR X pos es:=by rfl):PE X (.Call (.Name x p) (e::es) [] pos) (tFn X.prog X.w X.K X.mg X.base k i t):=by
 intro jp s σ H Q I h;obtain⟨f,ef,⟨o0,L0,c0,cl0,e0⟩,h⟩:=h;refine q9 (cZ (Hu hi hv hd sW jp s σ H (λ v H'=>v=.ref f/\H'=H) I ⟨.ref f,ef,rfl,rfl⟩) λ u s0 ⟨v,H0,I0,rv,ev,eH⟩=>?_);subst ev;subst eH;cases(show u=Value.ref f from rv);have hf0:=Pp I0.bu e0;refine PySem.W.callWith_F (Cz hf0) (cZ (ha pos jp s0 σ H0 _ I0 h) λ us s1 ⟨vs,H1,I1,r,L,ps,fv,sp,iN,C,ok,at',q⟩=>?_) he gb;obtain⟨c,cl,⟨o1,h1⟩,⟨o2,h2⟩,inj,Tz,val⟩:=at'.ex;have hf1:=Pp I1.bu h1;have hc1:vf c L.qual s1.heap:=(I1.bu c _ h2).2.1;refine⟨Cz hf1,wpAny_call (G3 (ok.run X.A X.stack s1 (iL H1 C) f c cl us vs iN _ hr (I1.NV.FJ at'.du) hf1 hc1 ⟨at'.len,λ i x v a b=>?_,inj,λ x d z=>?_⟩ r q) λ r s' hq=>?_)⟩
 ·obtain⟨d,o,e1,e2⟩:=val i x v a b;exact⟨d,e1,(I1.bu d _ (at'.du d _ e2)).2.2.1⟩
 ·obtain⟨a,b,z2⟩:=Tz x d z;exact⟨a,hZ z2⟩
 ·cases r with
  |error e=>exact False.elim hq
  |ok fl=>
   cases fl with
   |ret u=>exact I1.after (CE.du hq I1.bu at'.du I1.tQ)
   |next=>exact False.elim hq
   |brk=>exact False.elim hq
   |cont=>exact False.elim hq
end
end L2
namespace L3
open PySem.Spec PyProof.Rows L2 L5
abbrev CM:=ap->Option D
def g_(M:Mem)(C:CM):Mem:=λ b=>match C b with
 |some d=>some (.eX (.vh d))
 |none=>M b
def fi(M:Mem)(C:CM):Mem:=λ b=>match C b with
 |some _=>none
 |none=>M b
def mG{C:CM}{b:ap}(e:C b=some d):g_ M C b=some (.eX (.vh d)):=by unfold g_;rw[e]
def iB{C:CM}{b:ap}(e:C b=none):g_ M C b=M b:=by unfold g_;rw[e]
def NY{C:CM}{b:ap}(e:C b=some d):fi M C b=none:=by unfold fi;rw[e]
def my{C:CM}{b:ap}(e:C b=none):fi M C b=M b:=by unfold fi;rw[e]
def cJ(C:CM)(b:ap):C b=none\/∃d,C b=some d:=by
 cases e:C b with
 |none=>exact .inl rfl
 |some p=>exact .inr ⟨p,rfl⟩
structure JX(K:K6)(H:Hp)(C:jB)(M:CM):Prop where
 l:∀b p,C b=some p->∃d,M b=some d/\sB K H d p.2
 r:∀b d,M b=some d->∃p,C b=some p
def JX.none{C:jB}{M:CM}(h:JX K H C M)(b:ap):C b=Option.none↔M b=Option.none:=by
 constructor
 ·intro e;rcases cJ M b with z|⟨d,z⟩
  ·exact z
  ·obtain⟨p,q⟩:=h.r b d z;rw[q]at e;cases e
 ·intro e;rcases aG C b with z|⟨p,z⟩
  ·exact z
  ·obtain⟨d,q,_⟩:=h.l b p z;rw[q]at e;cases e
section
variable {C:jB}{N:CM}
def tP(hC:∀b p,C b=some p->∃o v,H b=some (iA o b v)):Fb H (iL H C):=by
 have ne:∀b u,H b=some u->(∀o v,u≠iA o b v)->C b=none:=λ b u e n=>by
  rcases aG C b with z|⟨p,z⟩
  ·exact z
  ·obtain⟨o,v,q⟩:=hC b p z;rw[q]at e;exact be (B0 e).symm (n o v)
 exact⟨λ b xs e=>by rw[bh (ne b _ e λ o v z=>by cases z)];exact e,λ b o xs e=>by rw[bh (ne b _ e λ o v z=>by cases z)];exact e,λ b o xs e=>by rw[bh (ne b _ e λ o v z=>by cases z)];exact e⟩
def pz(hC:∀b p,C b=some p->H b=none):ar H (kW H C):=by
 have ne:∀b u,H b=some u->C b=none:=λ b u e=>by
  rcases aG C b with z|⟨p,z⟩
  ·exact z
  ·rw[hC b p z]at e;cases e
 exact⟨λ b xs e=>by rw[bI (ne b _ e)];exact e,λ b o xs e=>by rw[bI (ne b _ e)];exact e⟩
def rM.FJ{o:MO}(h:rM K H a o)(hC:∀b p,C b=some p->∃o v,H b=some (iA o b v))(ha:C a=none):rM K (iL H C) a o:=by
 have ts:=tP hC;have kp:∀b u,H b=some u->(∀o v,u≠iA o b v)->iL H C b=some u:=λ b u e n=>by
  rcases aG C b with z|⟨p,z⟩
  ·rw[bh z];exact e
  ·obtain⟨o,v,q⟩:=hC b p z;rw[q]at e;exact be (B0 e).symm (n o v)
 have ea:iL H C a=H a:=bh ha;cases o with
 |lst ds=>obtain⟨xs,h,q⟩:=h;exact⟨xs,ea.trans h,aA.mon ts ds q⟩
 |bX b kvs=>
  cases b with
  |false=>obtain⟨xs,h,q⟩:=h;exact⟨xs,ea.trans h,Paired.uE q λ p q z=>⟨z.1,sB.mon ts _ z.2⟩⟩
  |true=>obtain⟨xs,h,q⟩:=h;exact⟨xs,ea.trans h,Paired.uE q λ p q z=>⟨z.1,z.2.1,sB.mon ts _ z.2.2.1,sB.mon ts _ z.2.2.2⟩⟩
 |eX x=>
  cases x with
  |lam L cl=>obtain⟨c,⟨o,h⟩,o',h'⟩:=h;exact⟨c,⟨o,ea.trans h⟩,o',kp _ _ h' λ o v z=>by cases z⟩
  |vh d=>obtain⟨o,v,h,q⟩:=h;exact⟨o,v,ea.trans h,sB.mon ts d q⟩
  |mM q=>obtain⟨cs,h1,h2⟩:=h;exact⟨cs,ea.trans h1,λ p hp=>let⟨o,z⟩:=h2 p hp;⟨o,kp _ _ z λ o v y=>by cases y⟩⟩
  |vA kvs=>obtain⟨xs,h,q⟩:=h;exact⟨xs,ea.trans h,Paired.uE q λ p q z=>⟨z.1,sB.mon ts _ z.2.1,sB.mon ts _ z.2.2⟩⟩
def ul.du(h:ul K H M)(hC:∀b p,C b=some p->H b=none)(c:JX K H C N):ul K (kW H C) (g_ M N):=λ a o e=>by
 have t:=pz hC;rcases cJ N a with z|⟨d,z⟩
 ·rw[iB z]at e;exact(h a o e).mono t (bI ((c.none a).mpr z))
 ·rw[mG z]at e;cases e;obtain⟨p,q⟩:=c.r a d z;obtain⟨d',q',r⟩:=c.l a p q;rw[z]at q';cases q';exact⟨_,_,jP q,sB.mono t _ r⟩
def ul.FJ(h:ul K H M)(hC:∀b p,C b=some p->∃o v,H b=some (iA o b v))(c:∀b,C b=none↔N b=none):ul K (iL H C) (fi M N):=λ a o e=>by
 rcases cJ N a with z|⟨d,z⟩
 ·rw[my z]at e;exact(h a o e).FJ hC ((c a).mpr z)
 ·rw[NY z]at e;cases e
end
section
variable {P:ap}
def Vg(P:ap)(L:lp)(cells:List (Str×ap)):bT:=λ _ M Q=>M P=some (.eX (.mM L.qual))/\∀f,M f=none->(∀x d,cells.lookup x=some d->d≠f)->Q (.ref f) (ag M f (.eX (.lam L (bp cells L.scope.names []))))
def FF(Co:X.env.code=.ref c)(B:Om X.mg X.base c P)(Tj:defaultsOf L.params X.env=([],[]))(Yg:L.pm=(X.mg "__name__").getD .none)(hq:X.env.qual++"<lambda>"=L.qual)(Fi:∀n,(n,NameKind.free)∈L.scope.names->X.env.kindOf n=some .cell\/X.env.kindOf n=some .free):WE X (.Lambda L.params L.body L.scope pos) (Vg P L X.env.cells):=by
 refine⟨?_⟩;refine bH (Rt Co B Tj Yg hq Fi) ?_;rintro σ H Q ⟨δ,M,Q2,hs,hm,⟨hP,q⟩,k⟩;have tb:PD H P L.qual:=hm P _ hP;obtain⟨cs,eP,Cn⟩:=id tb;refine⟨tb,λ f c H' nf hf old tb' hc hl=>?_⟩;have t:ar H H':=⟨λ b xs e=>old b _ (λ z=>by rw[z,eP]at e;cases e) e,λ b o u e=>old b _ (λ z=>by rw[z,eP]at e;cases e) e⟩;refine k _ H' _ _ (ay.mpr rfl) (λ a o e=>?_) t (q f (hm.free nf) hf);by_cases z:a=f
 ·subst z;rw[ae]at e;cases e;exact⟨c,hl,hc⟩
 ·rw[ah z]at e;by_cases y:a=P
  ·subst y;rw[hP]at e;cases e;exact tb'
  ·obtain⟨u,hu⟩:=(hm a o e).there;exact(hm a o e).mono t (by rw[hu];exact old a u y hu)
end
structure JV(cells:List (Str×ap))(cn:List (Str×Nat))(δ:cY)(C:CM):Prop where
 has:∀x j,(x,j)∈cn->∃b d,cells.lookup x=some b/\δ[j]?=some (some d)/\C b=some d
 only:∀b d,C b=some d->∃x j,(x,j)∈cn/\cells.lookup x=some b
 inj:∀x j y i b,(x,j)∈cn->(y,i)∈cn->cells.lookup x=some b->cells.lookup y=some b->x=y
section
variable {p:Pos}{t:e_}{sp:dW}
def sDC(sp:dW)(cells:List (Str×ap))(cn:List (Str×Nat))(t:e_):bT:=λ δ M Q=>t δ M λ ds M1=>(∀x j,(x,j)∈cn->∃d,δ[j]?=some (some d))/\∀C,JV cells cn δ C->(∀b d,C b=some d->M1 b=none)->sp ds (g_ M1 C) λ d M'=>Q d (fi M' C)
set_option tactic.hygienic true in
def AY(d:bY X.prog X.w X.K X.mg X.base k x ps sp)(hr:cw k X.A)(hg:Gl X x)(vN:∀x j,(x,j)∈cn->X.env.kindOf x=some .cell/\X.N[j]?=some x/\X.fn x=true)(hN:X.N.Nodup)(ha:WA X (e::es) t)(oC:rj x:=by decide)(he:oq X e es:=by rfl)(gb:vR X pos es:=by rfl):WE X (.Call (.Name x p) (e::es) [] pos) (sDC sp X.env.cells cn t):=by
 replace ha:=ha.h;refine⟨?_⟩;obtain⟨f,fd,G,hm,kp,b⟩:=d.ex;refine bH (HA (cn:=cn) G hr hg hm kp b .nil vN hN ha oC he gb) ?_;rintro σ H Q ⟨δ,M,Q2,hs,hm,q,k⟩;refine⟨δ,M,_,hs,hm,q,λ vs H1 ds M1 hd bM t1 ⟨hv,q1⟩=>⟨λ x j hx=>?_,λ C hC un hn=>?_⟩⟩
 ·obtain⟨d,e⟩:=hv x j hx;obtain⟨v,e',_⟩:=hs.get j d e;exact⟨v,e'⟩
 ·have ex:∀b p,C b=some p->∃d,(∃x j,(x,j)∈cn/\X.env.cells.lookup x=some b/\δ[j]?=some (some d))/\sB X.K H1 d p.2:=λ b p hb=>by obtain⟨y,i,m1,m2⟩:=hC.only b p hb;obtain⟨b',o,v,l1,l2,l3⟩:=hC.has y i m1;rw[m2]at l1;cases l1;rw[hb]at l3;cases l3;obtain⟨d,e⟩:=hv y i m1;obtain⟨v',e',r⟩:=hs.get i d e;rw[l2]at e';cases e';exact⟨d,⟨y,i,m1,m2,e⟩,sB.mono t1 d r⟩
  let N:CM:=λ b=>match h:C b with
   |some p=>some (ex b p h).choose
   |none=>none
  have N1:∀b p (h:C b=some p),N b=some (ex b p h).choose:=λ b p h=>by
   show(match h:C b with|some p=>some (ex b p h).choose|none=>none)=_;split
   ·rename_i p' h';have:=h.symm.trans h';cases this;rfl
   ·rename_i h';rw[h]at h';cases h'
  have N2:∀b,C b=none->N b=none:=λ b h=>by
   show(match h:C b with|some p=>some (ex b p h).choose|none=>none)=_;split
   ·rename_i p' h';rw[h]at h';cases h'
   ·rfl
  have cr:JX X.K H1 C N:=⟨λ b p h=>⟨_,N1 b p h,(ex b p h).choose_spec.2⟩,λ b d h=>by
   rcases aG C b with z|⟨p,z⟩
   ·rw[N2 b z]at h;cases h
   ·exact⟨p,z⟩⟩
  have cm:JV X.env.cells cn δ N:=by
   refine⟨λ y i hy=>?_,λ b d hb=>?_,λ x1 j1 y1 i1 b h1 h2 h3 h4=>by
    have e1:=(vN x1 j1 h1).2.1;rw[un x1 j1 y1 i1 b h1 h2 h3 h4,(vN y1 i1 h2).2.1]at e1;exact(B0 e1).symm⟩
   ·obtain⟨b,o,v,l1,l2,l3⟩:=hC.has y i hy;obtain⟨⟨y',i',m1,m2,m3⟩,_⟩:=(ex b (o,v) l3).choose_spec;refine⟨b,(ex b (o,v) l3).choose,l1,?_,N1 b _ l3⟩;have:i'=i:=un y' i' y i b m1 hy m2 l1;rw[<- this];exact m3
   ·obtain⟨p,z⟩:=cr.r b d hb;obtain⟨y,i,m1,m2⟩:=hC.only b p z;exact⟨y,i,m1,m2⟩
  have hn2:∀b d,N b=some d->M1 b=none:=λ b d hb=>let⟨p,z⟩:=cr.r b d hb;bM.free (hn b p z)
  have cN:∀b,C b=none↔N b=none:=cr.none;refine⟨ds,g_ M1 N,_,?_,bM.du hn cr,q1 N cm hn2,λ v H' d M' ju fH t' q'=>?_⟩
  ·rw[A5];exact aA.mono (pz hn) ds hd
  ·have hf:∀b p,C b=some p->∃o v,H' b=some (iA o b v):=λ b p z=>⟨_,_,t'.du _ _ _ (jP z)⟩;have ts:=tP hf;refine k v (iL H' C) d (fi M' N) (sB.mon ts d ju) (fH.FJ hf cN) (t1.trans ?_) q';have tt:=(pz hn).trans t';have ne:∀b u,H1 b=some u->C b=none:=λ b u e=>by
    rcases aG C b with z|⟨p,z⟩
    ·exact z
    ·rw[hn b p z]at e;cases e
   exact⟨λ b xs e=>by rw[bh (ne b _ e)];exact tt.tup b xs e,λ b o u e=>by rw[bh (ne b _ e)];exact tt.du b o u e⟩
end
abbrev nG:=List D->List D->Mem->bF->Prop
def UX(K:K6)(sp:nG):XB:=λ vs iN H Q=>∃ds cs M Q2,aA K H ds vs/\aA K H cs iN/\ul K H M/\sp ds cs M Q2/\ly K H Q2 Q
abbrev qY(P:Program)(w:World)(K:K6)(mg:Str->Option gV)(base:Heap)(k:Nat)(L:lp)(ps fv:List Str)(sp:nG):Prop:=tI P w K mg base k L ps fv (UX K sp)
structure oJ(M:Mem)(f:ap)(L:lp)(fv:List Str)(cs:List D)(C:CM):Prop where
 ex:∃cl,M f=some (.eX (.lam L cl))/\(∀x y b,cl.lookup x=some b->cl.lookup y=some b->x=y)/\(∀x b,cl.lookup x=some b->x∈fv/\∃d,C b=some d)/\∀(i:Nat)(x:Str)(d:D),fv[i]?=some x->cs[i]?=some d->∃b,cl.lookup x=some b/\C b=some d
 len:cs.length=fv.length
 vh:∀b d,C b=some d->M b=some (.eX (.vh d))
def CH:∀{ds:List D} {vs:List V},ds.length=vs.length->(∀(i:Nat)(d:D)(v:V),ds[i]?=some d->vs[i]?=some v->sB K H d v)->aA K H ds vs
 |[],[],_,_=>ao.mpr rfl
 |d::ds,v::vs,hl,h=>af.mpr ⟨v,vs,rfl,h 0 d v rfl rfl,CH (by simpa using hl) λ i d' v' a b=>h (i+1) d' v' (by simpa using a) (by simpa using b)⟩
section
variable {p:Pos}{t:e_}
def Zg(P:Program)(w:World)(K:K6)(mg:Str->Option gV)(base:Heap)(k:Nat)(i:Nat)(t:e_):bT:=λ δ M Q=>∃f,δ[i]?=some (some (.ref f))/\(∃L cl,M f=some (.eX (.lam L cl)))/\t δ M λ ds M1=>∃(L:lp)(ps fv:List Str)(sp:nG)(cs:List D)(C:CM),
 qY P w K mg base k L ps fv sp/\oJ M1 f L fv cs C/\sp ds cs (fi M1 C) λ d M'=>Q d (g_ M' C)
set_option tactic.hygienic true in
def AX(hr:cw k X.A)(hi:X.N[i]?=some x)(hv:T8 X.env.scope x)(ha:WA X (e::es) t)(hd:rj x:=by decide)(sW:XE x:=by decide)(he:oq X e es:=by rfl)(gb:vR X pos es:=by rfl):WE X (.Call (.Name x p) (e::es) [] pos) (Zg X.prog X.w X.K X.mg X.base k i t):=by
 replace ha:=ha.h;refine⟨?_⟩;refine bH (Hz hr hi hv ha hd sW he gb) ?_;rintro σ H Q ⟨δ,M,Q2,hs,hm,⟨f,ef,⟨L0,cl0,el⟩,q⟩,kk⟩;obtain⟨v,ev,rv⟩:=hs.get i _ ef;cases(ay.mp rv);obtain⟨c0,⟨o0,h0⟩,_⟩:=hm f _ el;refine⟨f,ev,⟨o0,L0,c0,cl0,h0⟩,δ,M,_,hs,hm,q,λ vs H1 ds M1 hd bM t1 ⟨L,ps,fv,sp,cs,C,ok,at',q1⟩=>?_⟩;obtain⟨cl,hl,inj,Tz,val⟩:=at'.ex;obtain⟨c,hf,hc⟩:=bM f _ hl;have ex:∀b d,C b=some d->∃p:Obj×V,H1 b=some (iA p.1 b p.2)/\sB X.K H1 d p.2:=λ b d z=>let⟨o,v,a,r⟩:=bM b _ (at'.vh b d z);⟨(o,v),a,r⟩
 let N:jB:=λ b=>match h:C b with
  |some d=>some (ex b d h).choose
  |none=>none
 have N1:∀b d (h:C b=some d),N b=some (ex b d h).choose:=λ b d h=>by
  show(match h:C b with|some d=>some (ex b d h).choose|none=>none)=_;split
  ·rename_i p' h';have:=h.symm.trans h';cases this;rfl
  ·rename_i h';rw[h]at h';cases h'
 have N2:∀b,C b=none->N b=none:=λ b h=>by
  show(match h:C b with|some d=>some (ex b d h).choose|none=>none)=_;split
  ·rename_i p' h';rw[h]at h';cases h'
  ·rfl
 have Nb:∀b p,N b=some p->∃d,C b=some d/\H1 b=some (iA p.1 b p.2)/\sB X.K H1 d p.2:=λ b p h=>by
  rcases cJ C b with z|⟨d,z⟩
  ·rw[N2 b z]at h;cases h
  ·rw[N1 b d z]at h;cases h;exact⟨d,z,(ex b d z).choose_spec⟩
 have hN:∀b,N b=none↔C b=none:=λ b=>by
  constructor
  ·intro h;rcases cJ C b with z|⟨d,z⟩
   ·exact z
   ·rw[N1 b d z]at h;cases h
  ·exact N2 b
 have WX:∀b p,N b=some p->∃o v,H1 b=some (iA o b v):=λ b p h=>let⟨_,_,a,_⟩:=Nb b p h;⟨_,_,a⟩
 have ts:=tP WX;let iN:List V:=fv.map λ y=>((cl.lookup y).bind N).elim V.bo (·.2)
 have cv:∀(j:Nat)(y:Str)(d:D),fv[j]?=some y->cs[j]?=some d->∃b p,cl.lookup y=some b/\C b=some d/\N b=some p/\iN[j]?=some p.2:=λ j y d h1 h2=>by obtain⟨b,a1,a2⟩:=val j y d h1 h2;refine⟨b,_,a1,a2,N1 b d a2,?_⟩;show(fv.map _)[j]?=_;rw[u6,h1];show some (((cl.lookup y).bind N).elim V.bo (·.2))=_;rw[a1];show some ((N b).elim V.bo (·.2))=_;rw[N1 b d a2];rfl
 have lc:iN.length=fv.length:=B3 ..;refine⟨L,ps,fv,_,iN,N,ok,⟨⟨c,cl,hf,hc,inj,λ y b h=>?_,λ j y v h1 h2=>?_⟩,lc,λ b p h=>(Nb b p h).choose_spec.2.1⟩,ds,cs,fi M1 C,_,aA.mon ts ds hd,?_,bM.FJ WX hN,q1,λ v H' d M' ju fH t' q' Fi=>?_⟩
 ·obtain⟨a,d,b'⟩:=Tz y b h;exact⟨a,_,N1 b d b'⟩
 ·have lt:j<cs.length:=by rw[at'.len];exact(c7.mp h1).1
  obtain⟨b,p,a1,a2,a3,a4⟩:=cv j y _ h1 (g9 lt);rw[h2]at a4;cases a4;exact⟨b,p.1,a1,a3⟩
 ·refine CH (by rw[lc,at'.len]) λ j d v h1 h2=>?_;have lt:j<fv.length:=by rw[<- at'.len];exact(c7.mp h1).1
  obtain⟨b,p,a1,a2,a3,a4⟩:=cv j _ d (g9 lt) h1;rw[h2]at a4;cases a4;obtain⟨d',z1,_,z2⟩:=Nb b p a3;rw[a2]at z1;cases z1;exact sB.mon ts d z2
 ·have cr:JX X.K H' N C:=⟨λ b p h=>let⟨d,z,_,r⟩:=Nb b p h;⟨d,z,sB.mono t' d (sB.mon ts d r)⟩,λ b d z=>⟨_,N1 b d z⟩⟩;have t2:=pz Fi;refine kk v (kW H' N) d (g_ M' C) (sB.mono t2 d ju) (fH.du Fi cr) (t1.trans ⟨λ b xs e=>?_,λ b o u e=>?_⟩) q'
  ·rcases aG N b with z|⟨p,z⟩
   ·rw[bI z];exact t'.tup b xs (by rw[bh z];exact e)
   ·obtain⟨_,_,a,_⟩:=Nb b p z;rw[a]at e;cases e
  ·rcases aG N b with z|⟨p,z⟩
   ·rw[bI z];exact t'.du b o u (by rw[bh z];exact e)
   ·obtain⟨_,_,a,_⟩:=Nb b p z;rw[a]at e;rw[jP z];exact e
end
def Na{mg:Str->Option gV}{base:Heap}{k:Nat}{L:lp}{ps fv:List Str}{sp:nG}(S:mI ps fv L.scope)(len:∀ds cs M Q,sp ds cs M Q->ds.length=ps.length)(qF:∀(cl:List (Str×ap))(c:ap)(pE:gV)(us:List gV),us.length=ps.length->bindArgs (PySem.W.kla_fn "<lambda>" L.qual L.params L.body L.scope cl L.pm (.ref c) pE) ⟨us,[]⟩=pure (ps.zip us)) (eQ:∀(A:Around)(outer:List Env)(s:am)(H:Hp)(f c:ap)(cl:List (Str×ap))(ds cs:List D)(M:Mem)(Q:bF),cw k (A.deeper (PySem.W.envX L.qual L.scope s.heap.objs.size f (.ref c) cl))->sp ds cs M Q->
   ∃t,QE (yk P w K mg base (ps++fv) L.qual L.scope f c cl A outer s H) L.body t/\t ((ds++cs).map some) M Q):qY P w K mg base (k+1) L ps fv sp:=by
 refine So S (λ vs iN H Q h=>?_) qF λ A outer s H f c cl vs iN Q hr h=>?_
 ·obtain⟨ds,cs,M,Q2,hd,_,_,hs,_⟩:=h;rw[hd.length];exact len ds cs M Q2 hs
 ·obtain⟨ds,cs,M,Q2,hd,hc,hm,hs,kk⟩:=h;obtain⟨t,ht,q⟩:=eQ A outer s H f c cl ds cs M Q2 hr hs;refine⟨_,ht,(ds++cs).map some,M,Q2,⟨?_,λ i d e=>?_⟩,hm,q,kk⟩
  ·rw[B3,B3,(hd.append hc).length]
  ·rw[u6]at e;cases z:(ds++cs)[i]? with
   |none=>rw[z]at e;cases e
   |some d'=>rw[z]at e;cases e;obtain⟨v,a,r⟩:=(hd.append hc).get z;exact⟨v,by rw[u6,a];rfl,r⟩
end L3
namespace L2
open PySem.Spec PyProof.Rows
structure jZ(K:K6)(x qual:Str)(st:Stmt)(dV:gV)(c f:ap)(fd:FuncData):Prop where
 ex:∃(oc:gV)(od:Option ap)(kV doc pm:gV)(an:Option ap)(ct:gV)(zN:Array (Option gV)),
  fd=PySem.W.fnOf x qual (bW st) (bw st) (aB st) dV kV doc pm an (.ref c) ct/\K.lookup f=some ⟨oc,od,.func fd,zN⟩/\PySem.W.codeIn K (.ref c) qual=true
 kp:PySem.W.keepIn K (.ref f)=true
def jZ.ok{dV:gV}{c f:ap}{fd:FuncData}{N ps:List Str}{k:Nat}{sp:Sp}(F:jZ K x qual st dV c f fd)(S:iD N ps (aB st))(len:∀vs H Q E,sp vs H Q E->vs.length=ps.length) (eQ:∀(A:Around)(outer:List Env)(s:am)(H:Hp)(vs:List V)(Q:VK)(E:XK),cw k (A.deeper (envOfC qual (aB st) s.heap.objs.size f (.ref c)))->sp vs H Q E->
   ∃t,yJ (rG dX P w K mg base N qual (aB st) f (.ref c) A outer s H E).ME (bw st) t/\t {nx:=λ _ H'=>Q .bo H',rt:=Q} (start N vs) H):bB P w K mg base dX (k+1) f fd ps sp:=by
 obtain⟨oc,od,kV,doc,pm,an,ct,zN,rfl,lk,sW⟩:=F.ex;refine Po lk sW S len λ A outer s H vs Q E hr Ck=>?_;obtain⟨t,h,q⟩:=eQ A outer s H vs Q E hr Ck;exact⟨t,h.ME,q⟩
def NM{kV doc pm ct:gV}(l:K.lookup f=some ⟨oc,od,.func (PySem.W.fnOf x qual (bW st) (bw st) (aB st) dV kV doc pm an (.ref c) ct),zN⟩)(e:PySem.W.codeIn K (.ref c) qual=true)(k:PySem.W.keepIn K (.ref f)=true):jZ K x qual st dV c f (PySem.W.fnOf x qual (bW st) (bw st) (aB st) dV kV doc pm an (.ref c) ct):=⟨⟨oc,od,kV,doc,pm,an,ct,zN,rfl,l,e⟩,k⟩
def jZ.binds{ds:List gV}(F:jZ K x qual st dV c f fd)(h:∀(kV doc pm:gV)(an:Option ap)(ct:gV)(s:am),K.In s.heap->∀(us:List gV),(us++ds).length=ps.length->BindsTo s (PySem.W.fnOf x qual (bW st) (bw st) (aB st) dV kV doc pm an (.ref c) ct) ⟨us,[]⟩ (ps.zip (us++ds))):Binds K fd ps ds:=by obtain⟨oc,od,kV,doc,pm,an,ct,zN,rfl,lk,sW⟩:=F.ex;exact λ s us hk hl=>h kV doc pm an ct s hk us hl
def gC.VU(F:jZ K x qual st dV c f fd)(G:bB P w K mg base dX k f fd ps sp)(hm:mg x=some (.ref f))(b:Binds K fd ps []):gC P w K mg base k x ps sp:=⟨f,fd,G,hm,F.kp,b⟩
def l_(s:Stmt)(j:Nat)(q:Str)(mg:Str->Option gV):lp:=match bw s with
 |ss=>match ss.getLast? with
  |some (.Return (some (.Call _ es _ _)) _)=>match es[j]? with
   |some (.Lambda a b c _)=>⟨q,a,b,c,(mg "__name__").getD .none⟩
   |_=>⟨q,bW s,.Constant .none 0 ⟨0,0,0,0⟩,aB s,.none⟩
  |_=>⟨q,bW s,.Constant .none 0 ⟨0,0,0,0⟩,aB s,.none⟩
end L2
namespace L4
open PySem.Spec L2 L3
def Zs{dV:gV}{c f:ap}{fd:FuncData}{ps:List Str}{k:Nat}{sp:dW}(F:jZ K x qual st dV c f fd)(N:List Str) (eQ:∀(A:Around)(outer:List Env)(s:am)(H:Hp)(E:XK)(ds:List D)(M:Mem)(Q:bF),N.Nodup->cw k (A.deeper (PyProof.Rows.envOfC qual (aB st) s.heap.objs.size f (.ref c)))->sp ds M Q->
   ∃t,Kk (rG dX P w K mg base N qual (aB st) f (.ref c) A outer s H E).ME (bw st) t/\t {nx:=λ _ M'=>fin2 Q .bo M',rt:=fin2 Q} (iU N ds) M) (len:∀ds M Q,sp ds M Q->ds.length=ps.length:=by intro ds M Q;walk_at "len") (S:iD N ps (aB st):=by exact⟨rfl,rfl,rfl,by decide+kernel,rfl,by decide+kernel,by decide+kernel⟩):bB P w K mg base dX (k+1) f fd ps (bZ K sp):=by
 refine F.ok S (λ vs H Q E h=>?_) (λ A outer s H vs Q E hr h=>?_)
 ·obtain⟨ds,M,Q2,hd,_,hs,_⟩:=h;rw[hd.length];exact len ds M Q2 hs
 ·obtain⟨ds,M,Q2,hd,hm,hs,kk⟩:=h;obtain⟨t,ht,q⟩:=eQ A outer s H E ds M Q2 S.nd hr hs;refine⟨_,ht.h,iU N ds,M,_,sm hd,hm,q,⟨?_,?_,?_,?_⟩⟩
  ·exact λ σ' H' δ' M' _ fH t' ⟨pH,s,q⟩=>kk _ H' .bo pH (dv.mpr rfl) (fH.sub s) t' q
  ·exact λ v H' d M' ju fH t' ⟨pH,s,q⟩=>kk v H' d pH ju (fH.sub s) t' q
  ·exact λ σ' H' δ' M' _ fH t' q=>q
  ·exact λ σ' H' δ' M' _ fH t' q=>q
def Ss{fv:List Str}{sp:nG}(S:mI ps fv L.scope)(len:∀ds cs M Q,sp ds cs M Q->ds.length=ps.length)(qF:∀(cl:List (Str×ap))(c:ap)(pE:gV)(us:List gV),us.length=ps.length->bindArgs (PySem.W.kla_fn "<lambda>" L.qual L.params L.body L.scope cl L.pm (.ref c) pE) ⟨us,[]⟩=pure (ps.zip us)) (eQ:∀(A:Around)(outer:List Env)(s:am)(H:Hp)(f c:ap)(cl:List (Str×ap))(ds cs:List D)(M:Mem)(Q:bF),cw k (A.deeper (PySem.W.envX L.qual L.scope s.heap.objs.size f (.ref c) cl))->sp ds cs M Q->
   ∃t,WE (yk P w K mg base (ps++fv) L.qual L.scope f c cl A outer s H) L.body t/\t ((ds++cs).map some) M Q):qY P w K mg base (k+1) L ps fv sp:=
 Na S len qF λ A outer s H f c cl ds cs M Q hr h=>let⟨t,a,b⟩:=eQ A outer s H f c cl ds cs M Q hr h;⟨t,a.h,b⟩
section
variable {P:ap}{p:Pos}{t:e_}{sp:dW}
end
def zF{P:ap}{Q:bF}(h:M P=some (.eX (.mM L.qual)))(q:∀f,M f=none->(∀x d,cells.lookup x=some d->d≠f)->Q (.ref f) (ag M f (.eX (.lam L (bp cells L.scope.names []))))):Vg P L cells δ M Q:=⟨h,q⟩
def Vr{sp:dW}{t:e_}{Q:bF}(h:t δ M λ ds M1=>(∀x j,(x,j)∈cn->∃d,δ[j]?=some (some d))/\∀C,JV cells cn δ C->(∀b d,C b=some d->M1 b=none)->sp ds (g_ M1 C) λ d M'=>Q d (fi M' C)):sDC sp cells cn t δ M Q:=h
def GN{t:e_}{Q:bF}(e:δ[i]?=some (some (.ref f)))(hl:∃L cl,M f=some (.eX (.lam L cl)))(h:t δ M λ ds M1=>∃(L:lp)(ps fv:List Str)(sp:nG)(cs:List D)(C:CM),qY P w K mg base k L ps fv sp/\oJ M1 f L fv cs C/\sp ds cs (fi M1 C) λ d M'=>Q d (g_ M' C)):Zg P w K mg base k i t δ M Q:=⟨f,e,hl,h⟩
end L4
namespace L2
open PySem.Spec PyProof.Rows
def Dg(H:Hp)(ts:List ap):Prop:=(∀b,H b=none\/(∃o xs,H b=some (.du o (.lst xs)))\/H b=some (.mM #[]))/\∀t∈ts,H t=some (.mM #[])
def El(KX:K.In s₁.heap)(hns:s₁.heap.Ns mainGlobals mg)(hb:s₁.heap.Ns builtinsNs mb)(hbb:∀x:Str,x≠"__name__"->mb x=bootBuiltins x)(aay:s₁.heap.NoLimit)(hg:s₁.gens=#[])(hbm:∃bm ob,mg "__builtins__"=some (.ref bm)/\bm≠builtinsNs/\s₁.heap.get? bm=some ob/\ob.cls=.type "module"/\ob.dict=some builtinsNs/\ob.data=.plain)(hT:∀q∈tabs,s₁.heap.get? q.2=some (PySem.W.tabObj #[])/\K.lookup q.2=none/\PySem.W.CodeHd s₁.heap q.1 q.2)(ha:s₁.heap.get? a=some {cls:=.type "list",data:=.seq vs.toArray})(hi:IntsAre vs ns)(hl:ns.length<=sizeLine)(hr:cw k callerA)(F:∀base:Heap,K.In base->(∀q∈tabs,Om mg base q.1 q.2)->bB P w K mg base CX k fa fd [x] sp)(qF:∀(s:am)(u:gV),BindsTo s fd ⟨[u],[]⟩ [(x,u)])(Ck:∀H:Hp,Dg H (tabs.map (·.2))->eO K H a (ns.map V.int)->sp [.ref a] H (λ v _=>v=.bl true) λ _ _ _=>False)(hCX:∀H e s',CX [] H s₁ (λ _ _ _=>False) e s'->False):codeAny (model P w) callerA (.call (.ref fa) ⟨[.ref a],[]⟩) (λ r s'=>r=.ok (.ret (.bool true))/\OldK s₁.heap s'.heap/\s'.os=s₁.os/\AllBare s'.gens) s₁:=by
 have rv:=rU hi;have ZH:=hi.length;have tg:∀t∈tabs.map (·.2),s₁.heap.get? t=some (PySem.W.tabObj #[])/\K.lookup t=none:=λ t ht=>by obtain⟨q,hq,rfl⟩:=D8.mp ht;exact⟨(hT q hq).1,(hT q hq).2.1⟩
 have at':a∉tabs.map (·.2):=λ h=>by have:=(tg a h).1;rw[ha]at this;cases this
 have core:∀H:Hp,Dg H (tabs.map (·.2))->eO K H a (ns.map V.int)->iO P w H s₁.heap->(∀b,H b≠none->b=a\/b∈tabs.map (·.2))->(H a≠none->K.lookup a=none)->
   codeAny (model P w) callerA (.call (.ref fa) ⟨[.ref a],[]⟩) (λ r s'=>r=.ok (.ret (.bool true))/\OldK s₁.heap s'.heap/\s'.os=s₁.os/\AllBare s'.gens) s₁:=by
  intro H hO hS bu hA hK;have pG:∀{b:ap} {o:Obj},s₁.heap.get? b=some o->H b=none->(rD s₁.heap H).get? b=some o:=λ e n=>Jc e n;have HW:∀{b:ap} {o:Obj},s₁.heap.get? b=some o->o≠PySem.W.tabObj #[]->(∀us n,o.data≠.seq us n)->H b=none:=λ{b o} e d1 d2=>by
   cases q:H b with
   |none=>rfl
   |some u=>
    rcases hA b (by rw[q];simp)with e'|e'
    ·subst e';rw[ha]at e;cases e;exact be rfl (d2 _ _)
    ·rw[(tg b e').1]at e;cases e;exact be rfl d1
  have noD:∀{b:ap} {o:Obj} {es:Array DictEntry} {ep:Nat},s₁.heap.get? b=some o->o.data=.dict es ep->H b=none:=λ{b o es ep} e d=>HW e (λ z=>by rw[z]at d;cases d) λ us n z=>by rw[d]at z;cases z
  have Zy:∀{b:ap} {m:Str->Option gV},s₁.heap.Ns b m->(rD s₁.heap H).Ns b m:=λ{b m} ⟨o,es,ep,e,d,r⟩=>⟨o,es,ep,pG e (noD e d),d,r⟩;have hKb:K.In (rD s₁.heap H):=λ b o e=>pG (KX b o e) (by
   cases q:H b with
   |none=>rfl
   |some u=>
    rcases hA b (by rw[q];simp)with e'|e'
    ·subst e';rw[hK (by rw[q];simp)]at e;cases e
    ·rw[(tg b e').2]at e;cases e)
  have hM:Mod K mg (rD s₁.heap H):=⟨hKb,Zy hns,⟨mb,Zy hb,hbb⟩,let⟨mc,h1,h2⟩:=aay;⟨mc,Zy h1,h2⟩⟩;have Pn:∀q∈tabs,Om mg (rD s₁.heap H) q.1 q.2:=λ q hq=>by
   refine⟨?_,?_⟩
   ·obtain⟨bm,ob,b1,b2,b3,b4,b5,b6⟩:=hbm;exact⟨bm,ob,b1,b2,pG b3 (HW b3 (λ z=>by rw[z]at b4;cases b4) λ us n z=>by rw[b6]at z;cases z),b4,b5,b6⟩
   ·obtain⟨o,vs,file,tf,flags,tg,Yc,text,tt,e,e1,e2,r⟩:=(hT q hq).2.2;exact⟨o,vs,file,tf,flags,tg,Yc,text,tt,pG e (HW e (λ z=>by rw[z]at e1;cases e1) λ us n z=>by rw[e2]at z;cases z),e1,e2,r⟩
  have e0:lx P w K mg (rD s₁.heap H) callerA [] s₁ H:=⟨rfl,hM,λ b o e=>MC e,G0 (Ey _ _),trivial,λ b hb=>be (show b∈([]:List ap)from hb) (by simp),bu,.of_eq hg⟩;refine G3 ((F _ hKb Pn).run callerA [] s₁ H ⟨[.ref a],[]⟩ [.ref a] [.ref a] _ _ hr e0 (qF s₁ (.ref a)) (.cons rfl .nil) (Ck H hO hS)) λ r s' h=>?_;cases r with
  |error e=>exact(hCX H e s' h).elim
  |ok fl=>
   cases fl with
   |next=>exact False.elim h
   |brk=>exact False.elim h
   |cont=>exact False.elim h
   |ret u=>
    obtain⟨v,H',os,bare,un,Wz,r',q⟩:=h;have q':v=.bl true:=q;subst q';obtain rfl:u=Value.bool true:=r';refine⟨rfl,⟨λ b o e=>?_,λ b o e=>un.there b o e (by simp)⟩,os,bare⟩;cases q:H b with
    |none=>exact .inl (un.keep b o e q (by intro z;exact be (show b∈([]:List ap)from z) (by simp)) (by simp))
    |some u=>
     rcases hO.1 b with z|⟨ob,xs,z⟩|z
     ·rw[q]at z;cases z
     ·have z2:=un.nu b ob _ z;obtain⟨e1,_⟩:=bu b _ z;obtain⟨e2,_⟩:=Wz b _ z2;rw[e]at e1;cases e1;exact .inl e2
     ·obtain⟨more,z2⟩:=un.ox b _ z;have e1:s₁.heap.get? b=some (PySem.W.tabObj #[]):=bu b _ z;have e2:s'.heap.get? b=some (PySem.W.tabObj (#[]++more)):=Wz b _ z2;rcases hA b (by rw[q];simp)with e'|e'
      ·subst e';rw[ha]at e1;cases e1
      ·obtain⟨t,ht,rfl⟩:=D8.mp e';rw[e]at e1;cases e1;exact .inr (.inl ⟨((hT t ht).2.2.tab (hT t ht).1).isCodeTable,rfl,#[],more,rfl,e2⟩)
 cases hk:K.lookup a with
 |some o=>
  have e:=KX a o hk;rw[ha]at e;cases e;refine core (λ b=>if b∈tabs.map (·.2)then some (.mM #[])else none) ⟨λ b=>?_,λ t ht=>K1 ht⟩ (.inr ⟨_,vs.toArray,_,hk,rfl,rfl,rfl,by rw[x6,ZH];exact hl,by simpa using rv⟩) (λ b u z=>?_) (λ b z=>?_) λ z=>be (K3 at') z
  ·by_cases hb:b∈tabs.map (·.2)
   ·exact .inr (.inr (K1 hb))
   ·exact .inl (K3 hb)
  ·by_cases hb:b∈tabs.map (·.2)
   ·have z':=(K1 hb).symm.trans z;cases z';exact(tg b hb).1
   ·have z':=(K3 hb).symm.trans z;cases z'
  ·by_cases hb:b∈tabs.map (·.2)
   ·exact .inr hb
   ·exact be (K3 hb) z
 |none=>
  refine core (λ b=>if b=a then some (.du {cls:=.type "list",data:=.seq vs.toArray} (.lst (ns.map V.int)))else if b∈tabs.map (·.2)then some (.mM #[])else none) ⟨λ b=>?_,λ t ht=>?_⟩ (.inl (.inr ⟨{cls:=.type "list",data:=.seq vs.toArray},K1 rfl⟩)) (λ b u z=>?_) (λ b z=>?_) λ _=>hk
  ·by_cases hb:b=a
   ·exact .inr (.inl ⟨_,_,K1 hb⟩)
   ·by_cases ht:b∈tabs.map (·.2)
    ·exact .inr (.inr ((K3 hb).trans (K1 ht)))
    ·exact .inl ((K3 hb).trans (K3 ht))
  ·exact(K3 (λ z=>at' (by rw[<- z];exact ht))).trans (K1 ht)
  ·by_cases hb:b=a
   ·have z':=(K1 hb).symm.trans z;cases z';subst hb;exact⟨ha,by rw[B3];exact hl,vs,_,rv,ha⟩
   ·have z:=(K3 hb).symm.trans z;by_cases ht:b∈tabs.map (·.2)
    ·have z':=(K1 ht).symm.trans z;cases z';exact(tg b ht).1
    ·have z':=(K3 ht).symm.trans z;cases z'
  ·by_cases hb:b=a
   ·exact .inl hb
   ·by_cases ht:b∈tabs.map (·.2)
    ·exact .inr ht
    ·exact be ((K3 hb).trans (K3 ht)) z
def FE{q:Program}{loose:List Str}{XP:(Str->Option gV)->Heap->Prop}{YP:World->Heap->Prop}{d:DefRec}{K:Params->K6}{CX:World->JW}{sp:World->Sp}{x:Str}{tabs:List (ap×ap)}
  (hn:l.most=some n) (hn2:n<=sizeLine) (ND:d.params.defaults=[]) (hr:cw k callerA)
  (hY:∀(w:World)(h:Heap),YP w h->(K w.params).In h/\∀q∈tabs,h.get? q.2=some (PySem.W.tabObj #[])/\(K w.params).lookup q.2=none/\PySem.W.CodeHd h q.1 q.2)
  (F:∀(w:World)(mg:Str->Option gV)(fa:ap)(h:Heap),(K w.params).In h->h.Ns mainGlobals mg->mg d.name=some (.ref fa)->
   ∃fd:FuncData,(∀(s:am)(u:gV),BindsTo s fd ⟨[u],[]⟩ [(x,u)])/\
    ∀base:Heap,(K w.params).In base->(∀q∈tabs,Om mg base q.1 q.2)->bB l.prog w (K w.params) mg base (CX w) k fa fd [x] (sp w))
  (Ck:∀(w:World)(H:Hp)(a:ap)(ns:List Int),ns.length<=n->Dg H (tabs.map (·.2))->eO (K w.params) H a (ns.map V.int)->sp w [.ref a] H (λ v _=>v=.bl true) λ _ _ _=>False)
  (hCX:∀(w:World)(H:Hp)(s:am)(e:gV)(s':am),CX w [] H s (λ _ _ _=>False) e s'->False):
  PySem.W.WalkO q loose XP YP l.row.toRowW d [] (λ f vs=>PySem.call f vs):=by
 refine Att.yE hn ND λ w s₀ s₁ mg mb fa o pm cd doc a vs ns G Y ho hd sW WD I_ hints hlen hg=>?_;obtain⟨KX,hT⟩:=hY w _ Y;obtain⟨fd,hb,hF⟩:=F w mg fa _ KX G.T.g WD;exact El KX G.T.g G.T.b G.T.builtins G.T.nolimit hg G.T.bmain hT I_ hints (E6 hlen hn2) hr hF hb (λ H hO hS=>Ck w H a ns hlen hO hS) λ H e s'=>hCX w H s₁ e s'
def Oa(X:Cx)(cn:List (Str×Nat)):Bool:=cn.all λ p=>X.env.kindOf p.1==some .cell&&X.N[p.2]?==some p.1&&X.fn p.1
def PB(h:Oa X cn=true):∀x j,(x,j)∈cn->X.env.kindOf x=some .cell/\X.N[j]?=some x/\X.fn x=true:=λ x j hx=>by have:=A3.mp h _ hx;rw[A0,A0]at this;exact⟨by simpa using this.1.1,by simpa using this.1.2,this.2⟩
def NP(X:Cx)(ns:List (Str×NameKind)):Bool:=ns.all λ y=>y.2 != .free||X.env.kindOf y.1==some .cell||X.env.kindOf y.1==some .free
def Jo{ns:List (Str×NameKind)}(h:NP X ns=true):∀n,(n,NameKind.free)∈ns->X.env.kindOf n=some .cell\/X.env.kindOf n=some .free:=λ n hn=>by
 have:=A3.mp h _ hn;rw[im,im]at this;rcases this with(h|h)|h
 ·cases h
 ·exact .inl (by simpa using h)
 ·exact .inr (by simpa using h)
def tI.mono{sp:XB}(h:tI P w K mg base j L ps fv sp)(hk:j<=k):tI P w K mg base k L ps fv sp:=
 ⟨h.len,λ A outer s H f c cl us vs iN Q hr=>h.run A outer s H f c cl us vs iN Q (hr.mono hk)⟩
open PySem.W L5
def Ry{t u:TE}(h:PE X e t)(g:PE X e u):PE X e (λ σ H Q=>t σ H Q\/u σ H Q):=λ jp s σ H Q I q=>q.elim (h jp s σ H Q I) (g jp s σ H Q I)
def DT{k v:Expr}{tv:TE}(hk:PE X k tk)(hv:PE X v tv):PE X (.Dict [some k] [v] pos) (λ σ H Q=>∀p,H p=none->tk σ (u8 H p (.dK [])) λ x H1=>tv σ H1 λ y H2=>∃ky,x=kV ky/\H2 p=some (.dK [])/\Q (.ref p) (u8 H2 p (.dK (putK [] ky y)))):=by
 intro jp s σ H Q I h;refine wpAny_Dict_any rfl rfl (by simp) (by simp) ?_;have I0:sn X jp σ (u8 H s.heap.objs.size (.dK [])) {s with heap:=s.heap.push {cls:=.type "dict",data:=.dict #[]}}:=I.laid (a:=s.heap.objs.size) (o:=.dK []) (t':=s.toks) (λ _ _ q=>j5 _ q) (G7 _) (xW s.heap I.big);refine pairTrees_cons_walk (cZ (hk jp _ σ _ _ I0 (h _ (I.bu.fresh (G7 _)))) λ kv s1 ⟨x,H1,I1,r1,q1⟩=>cZ (hv jp s1 σ H1 _ I1 q1) λ vv s2 ⟨y,H2,I2,r2,q2⟩=>pairTrees_nil_walk ?_);obtain⟨ky,rfl,hp,q⟩:=q2;generalize s.heap.objs.size=p at*;obtain⟨z,nm,xs,rel,dd⟩:=Ju I2.bu hp;cases rel;have uS:(putK [] ky y).length<=sizeLine:=by have:=je [] ky y;exact E6 this (by decide)
 unfold storeAll;rw[forIn_cons];refine J1 (J1 (wpAny_dictSet_pairs (hsz:=G9 _) (sP r1) dd λ h' ED hs=>J3 ?_));dsimp only;rw[forIn_nil];have he:∃q,h'.get? p=some q:=let⟨q,_,_,hq,_⟩:=ED;⟨q,hq⟩
 exact J3 ⟨.ref p,_,jS I2 (by rw[hp];exact True.intro) hs he (Jv uS nm (KV.put .nil ky r2) ED),rfl,q⟩
end L2
namespace L3
open PySem.Spec L2 L5 PyProof.Rows
def Gk(tk tv:bT):bT:=λ δ M Q=>∃t:Bool,∀p,M p=none->tk δ (ag M p (.bX t [])) λ x M1=>tv δ M1 λ y M2=>M2 p=some (.bX t [])/\iJ t x/\Q (.ref p) (ag M2 p (.bX t [(x,y)]))
def AW{k v:Expr}{tv:bT}(hu:eU X)(hk:WE X k tk)(hv:WE X v tv):WE X (.Dict [some k] [v] pos) (Gk tk tv):=by
 replace hk:=hk.h;replace hv:=hv.h;refine⟨?_⟩;refine bH (Ry (LO (pos:=pos) hu hk hv) (DT (pos:=pos) hk hv)) ?_;rintro σ H Q ⟨δ,M,Q2,hs,hm,⟨t,q⟩,k⟩;cases t with
 |true=>exact .inl ⟨δ,M,Q2,hs,hm,q,k⟩
 |false=>refine .inr λ p hp=>?_;have t0:ar H (u8 H p (.dK [])):=ar.laid hp;refine⟨δ,ag M p (.bX false []),_,hs.mono t0,hm.put (u:=.bX false []) t0 ⟨[],aQ,.nil⟩,q p (hm.free hp),λ x H1 d M1 hd bM t1 q1=>?_⟩;refine⟨δ,M1,_,(hs.mono t0).mono t1,bM,q1,λ y H2 e M2 he kU t2 q2=>?_⟩;obtain⟨eZ,⟨ky,rfl⟩,q2⟩:=q2;obtain⟨xs,hx,rel⟩:=kU p _ eZ;cases rel;have t:=ar.mut (o:=.dK (putK [] ky y)) hx (λ _ z=>by cases z) (λ _ _ z=>by cases z);exact⟨ky,pB hd,hx,k _ _ _ _ (ay.mpr rfl) (kU.put (u:=.bX false [(kM ky,e)]) t ⟨_,aQ,((JU.put (kvs:=[]) .nil ky he):JU X.K H2 [(kM ky,e)] (putK [] ky y)).mono t⟩) ((t0.trans t1).trans (t2.trans t)) q2⟩
end L3
namespace L4
open PySem.Spec L2 L3 L5
def wq{Q:bF}(t:Bool)(h:∀p,M p=none->tk δ (ag M p (.bX t [])) λ x M1=>tv δ M1 λ y M2=>M2 p=some (.bX t [])/\iJ t x/\Q (.ref p) (ag M2 p (.bX t [(x,y)]))):Gk tk tv δ M Q:=⟨t,h⟩
end L4
namespace L2
open PySem.Spec PyProof.Rows
def ff(ps fv:List Str)(sc:Scope):Bool:=sc.kind==.function&&!sc.isCoroutine&&!sc.isGenerator&&(ps.all λ x=>sc.names.lookup x==some .local)&&(fv.all λ x=>sc.names.lookup x==some .free)&&sc.names.all λ y=>y.2 != .cell&&(y.2 != .free||fv.contains y.1)
def Il(h:ff ps fv sc=true)(nd:(ps++fv).Nodup):mI ps fv sc:=by unfold ff at h;simp only[A0,A3]at h;obtain⟨⟨⟨⟨⟨h1,h2⟩,h3⟩,h4⟩,h5⟩,h6⟩:=h;refine⟨by simpa using h1,by simpa using h2,by simpa using h3,nd,λ x hx=>by simpa using h4 x hx,λ y hy=>by simpa using(h6 y hy).1,λ x hx=>by simpa using h5 x hx,λ x hx=>?_⟩;have:=(h6 _ (m8 hx)).2;simpa using this
def JN{T:ap}{pc:Array gV}{k:Option (Array gV)->Sem (List (Str×gV))}(hk:K.In s.heap)(hd:fd.defaults=.ref T)(l:K.lookup T=some o)(hs:o.data=.seq pc n)(h1:bindArgs fd args=seqItems? fd.defaults>>=k)(h2:k (some pc)=pure binds):BindsTo s fd args binds:=.of_defaults hd (hk _ _ l) hs h1 h2
end L2
namespace L3
open L2
def Jw{C:CM}(h:∀b o,g_ M C b=some o->M' b=some o)(n:∀b d,C b=some d->M b=none):∀b o,M b=some o->fi M' C b=some o:=λ b o e=>by
 rcases cJ C b with z|⟨d,z⟩
 ·rw[my z];exact h b o (by rw[iB z];exact e)
 ·rw[n b d z]at e;cases e
end L3
namespace L2
def jZ.AI(F:jZ K x qual st dV c f fd)(h:∀(kV doc pm:gV)(an:Option ap)(ct:gV)(s:am),K.In s.heap->∀(us:List gV),us.length=ps.length->BindsTo s (PySem.W.fnOf x qual (bW st) (bw st) (aB st) dV kV doc pm an (.ref c) ct) ⟨us,[]⟩ (ps.zip us)):Binds K fd ps []:=
 F.binds λ kV doc pm an ct s hk us hl=>by rw[A5]at hl ⊢;exact h kV doc pm an ct s hk us hl
end L2
namespace KK
abbrev Cs:=List Nat
def inc:Cs->Nat->Cs
 |[],_=>[]
 |a::as,0=>(a+1)::as
 |a::as,l+1=>a::inc as l
def fh:∀(p:Cs)(l:Nat),(inc p l).length=p.length
 |[],_=>rfl
 |a::as,0=>rfl
 |a::as,l+1=>by show(inc as l).length+1=_;rw[fh as l];rfl
def fg:∀{p:Cs} {l:Nat},l<p.length->(inc p l).sum=p.sum+1
 |a::as,0,_=>by show a+1+as.sum=a+as.sum+1;lia
 |a::as,l+1,h=>by have:=fg (p:=as) (l:=l) (by simpa using h);show a+(inc as l).sum=a+as.sum+1;lia
def zY:Cs->Cs->Prop
 |a::as,b::bs=>b<a\/(a=b/\zY as bs)
 |_,_=>False
def uH:∀p:Cs,¬zY p p
 |[],h=>h
 |a::as,h=>h.elim (λ h=>C7 _ h) λ h=>uH as h.2
def sL:∀{p q r:Cs},zY p q->zY q r->zY p r
 |a::as,b::bs,c::cs,h,g=>by
  rcases h with h|⟨rfl,h⟩
  ·rcases g with g|⟨rfl,g⟩
   ·exact .inl ()
   ·exact .inl h
  ·rcases g with g|⟨rfl,g⟩
   ·exact .inl g
   ·exact .inr ⟨rfl,sL h g⟩
 |[],_,_,h,_=>h.elim
 |_::_,[],_,h,_=>h.elim
 |_::_,_::_,[],_,g=>g.elim
def BR:∀{p q:Cs},p.length=q.length->p=q\/zY p q\/zY q p
 |[],[],_=>.inl rfl
 |a::as,b::bs,h=>by
  rcases Nat.lt_trichotomy a b with z|z|z
  ·exact .inr (.inr (.inl z))
  ·subst z;rcases BR (p:=as) (q:=bs) (by simpa using h)with e|e|e
   ·exact .inl (by rw[e])
   ·exact .inr (.inl (.inr ⟨rfl,e⟩))
   ·exact .inr (.inr (.inr ⟨rfl,e⟩))
  ·exact .inr (.inl (.inl z))
def BU:∀{p q:Cs} {l:Nat},zY p q->zY (inc p l) (inc q l)
 |a::as,b::bs,0,h=>by
  rcases h with h|⟨rfl,h⟩
  ·exact .inl ()
  ·exact .inr ⟨rfl,h⟩
 |a::as,b::bs,l+1,h=>by
  rcases h with h|⟨rfl,h⟩
  ·exact .inl h
  ·exact .inr ⟨rfl,BU h⟩
 |[],_,_,h=>h.elim
 |_::_,[],_,h=>h.elim
def xk:∀{p:Cs} {i j:Nat},i<j->i<p.length->zY (inc p i) (inc p j)
 |a::as,0,j+1,_,_=>.inl ()
 |a::as,i+1,j+1,h,g=>.inr ⟨rfl,xk () (by simpa using g)⟩
def zb(p:Cs)(l:Nat):Prop:=∀j,l<j->p.getD j 0=0
def UQ{a:Nat}{as:Cs}{l:Nat}(h:zb (a::as) (l+1)):zb as l:=λ j g=>by
 have:=h (j+1) ()
 rwa [getD_cons_succ]at this
def UR:∀{as:Cs},(∀j,as.getD j 0=0)->as.sum=0
 |[],_=>rfl
 |a::as,h=>by
  have h0:=h 0;rw[getD_cons_zero]at h0;have:=UR (as:=as) λ j=>by have:=h (j+1);rwa [getD_cons_succ]at this
  show a+as.sum=0;lia
def O4:∀{p q:Cs},p.sum=0->¬zY p q
 |a::as,b::bs,h,g=>by
  have h:a+as.sum=0:=h;rcases g with g|⟨rfl,g⟩
  ·lia
  ·exact O4 () g
 |[],_,_,h=>h.elim
 |_::_,[],_,h=>h.elim
def BS:∀{a p:Cs} {h l:Nat},zY a p->a.sum=p.sum->zb p l->zY (inc a h) (inc p l)
 |a::as,b::bs,h,0,g,e,z=>by
  have e:a+as.sum=b+bs.sum:=e;have:bs.sum=0:=UR λ j=>by have:=z (j+1) ();rwa [getD_cons_succ]at this
  rcases g with g|⟨rfl,g⟩
  ·lia
  ·exact be g (O4 ())
 |a::as,b::bs,h,l+1,g,e,z=>by
  have e:a+as.sum=b+bs.sum:=e;cases h with
  |zero=>exact .inl (by rcases g with g|g<;>lia)
  |succ h=>
   rcases g with g|⟨rfl,g⟩
   ·exact .inl g
   ·exact .inr ⟨rfl,BS g () (UQ z)⟩
 |[],_,_,_,h,_,_=>h.elim
 |_::_,[],_,_,h,_,_=>h.elim
def Ah(p q:Cs):Prop:=p.sum<q.sum\/(p.sum=q.sum/\zY p q)
def Ah.Yb{p:Cs}(h:Ah p p):False:=h.elim (λ h=>C7 _ h) λ h=>uH _ h.2
def Ah.trans{p q r:Cs}(h:Ah p q)(g:Ah q r):Ah p r:=by
 rcases h with h|⟨e,h⟩
 ·rcases g with g|⟨f,g⟩
  ·exact .inl ()
  ·exact .inl ()
 ·rcases g with g|⟨f,g⟩
  ·exact .inl ()
  ·exact .inr ⟨(),sL h g⟩
def Ah.not{p q:Cs}(h:Ah p q)(g:Ah q p):False:=(h.trans g).Yb
def Ah.tri{p q:Cs}(h:p.length=q.length):p=q\/Ah p q\/Ah q p:=by
 rcases Nat.lt_trichotomy p.sum q.sum with z|z|z
 ·exact .inr (.inl (.inl z))
 ·rcases BR h with e|e|e
  ·exact .inl e
  ·exact .inr (.inl (.inr ⟨z,e⟩))
  ·exact .inr (.inr (.inr ⟨z.symm,e⟩))
 ·exact .inr (.inr (.inl z))
def Ah.inc{p q:Cs}{l:Nat}(h:Ah p q)(hp:l<p.length)(hq:l<q.length):Ah (inc p l) (inc q l):=by
 have a:=fg hp;have b:=fg hq;rcases h with h|⟨e,h⟩
 ·exact .inl ()
 ·exact .inr ⟨(),BU h⟩
def Ah.par{a p:Cs}{l:Nat}(g:Ah a p)(z:zb p l)(hh:h<a.length)(hl:l<p.length):Ah (KK.inc a h) (KK.inc p l):=by
 have x:=fg hh;have y:=fg hl;rcases g with g|⟨e,g⟩
 ·exact .inl ()
 ·exact .inr ⟨(),BS g e z⟩
def Ah.ZN{p:Cs}(h:i<j)(hj:j<p.length):Ah (KK.inc p i) (KK.inc p j):=
 .inr ⟨by rw[fg hj,fg ()],xk h ()⟩
def lastOf:∀{q:Cs},0<q.sum->∃p l,l<q.length/\p.length=q.length/\q=inc p l/\zb p l
 |[],h=>be h (by decide)
 |c::cs,h=>by
  have h:0<c+cs.sum:=h;by_cases z:cs.sum=0
  ·refine⟨(c-1)::cs,0,by simp,by simp,?_,λ j hj=>?_⟩
   ·show c::cs=(c-1+1)::cs;rw[show c-1+1=c by lia]
   ·obtain⟨j,rfl⟩:∃k,j=k+1:=⟨j-1,()⟩;rw[getD_cons_succ,c3];cases e:cs[j]? with
    |none=>rfl
    |some v=>
     have hv:=k8 e;have:∀{xs:Cs},xs.sum=0->∀v∈xs,v=0:=λ{xs}=>by
      induction xs with
      |nil=>intro _ v hv;cases hv
      |cons x xs ih=>
       intro h v hv;have h:x+xs.sum=0:=h;rcases C9.mp hv with rfl|hv
       ·lia
       ·exact ih () v hv
     exact this z v hv
  ·obtain⟨p,l,hl,hp,e,zz⟩:=lastOf (q:=cs) ();refine⟨c::p,l+1,by simp;lia,by simp[hp],by rw[e];rfl,λ j hj=>?_⟩;obtain⟨j,rfl⟩:∃k,j=k+1:=⟨j-1,()⟩;rw[getD_cons_succ];exact zz j ()
def Xf(T:Nat):List Nat:=(List.range (T+1)).map (T - ·)
def nN:Nat->Nat->List Cs
 |0,T=>if T=0 then[[]]else[]
 |k+1,T=>(Xf T).flatMap λ n=>(nN k (T-n)).map (n::·)
def BM{T:Nat}:n∈Xf T↔n<=T:=by
 unfold Xf;rw[D8];constructor
 ·rintro⟨a,_,rfl⟩;lia
 ·intro h;exact⟨T-n,dL.mpr (),()⟩
set_option tactic.hygienic true in
def fB:∀{k T:Nat} {p:Cs},p∈nN k T↔p.length=k/\p.sum=T
 |0,T,p=>by
  unfold nN;split
  ·rename_i h;subst h;rw[q8];exact⟨λ h=>by subst h;exact⟨rfl,rfl⟩,λ h=>i8.mp h.1⟩
  ·rename_i h;refine⟨λ h=>(by cases h),λ g=>?_⟩;have:=i8.mp g.1;subst this;exact be g.2.symm h
 |k+1,T,p=>by
  unfold nN;rw[mem_flatMap];constructor
  ·rintro⟨n,hn,h⟩;rw[D8]at h;obtain⟨r,hr,rfl⟩:=h;rw[fB]at hr;rw[BM]at hn;refine⟨by simp[hr.1],?_⟩;show n+r.sum=T;lia
  ·rintro⟨hl,hs⟩;cases p with
   |nil=>cases hl
   |cons n r=>have hs:n+r.sum=T:=hs;refine⟨n,BM.mpr (),D8.mpr ⟨r,fB.mpr ⟨by simpa using hl,()⟩,rfl⟩⟩
def Q8(T:Nat):(Xf T).Pairwise (· > ·):=by unfold Xf;rw[pairwise_map];have h:(List.range (T+1)).Pairwise (· < ·):=pairwise_lt_range;refine List.Pairwise.imp_of_mem (λ{a b} ha hb Ys=>?_) h;rw[dL]at hb;show T-b<T-a;lia
def wC:∀(k T:Nat),(nN k T).Pairwise zY
 |0,T=>by unfold nN;split<;>simp
 |k+1,T=>by
  unfold nN;rw[pairwise_flatMap];refine⟨λ n _=>?_,?_⟩
  ·rw[pairwise_map];exact(wC k (T-n)).imp λ h=>.inr ⟨rfl,h⟩
  ·refine(Q8 T).imp λ{a b} h x hx y hy=>?_;rw[D8]at hx hy;obtain⟨r,_,rfl⟩:=hx;obtain⟨s,_,rfl⟩:=hy;exact .inl h
def EY(h T:Nat):List Cs:=(List.range T).flatMap (nN h)
def fR{T:Nat}{p:Cs}:p∈EY h T↔p.length=h/\p.sum<T:=by
 unfold EY;rw[mem_flatMap];constructor
 ·rintro⟨n,hn,hp⟩;rw[fB]at hp;rw[dL]at hn;exact⟨hp.1,()⟩
 ·rintro⟨a,b⟩;exact⟨p.sum,dL.mpr b,fB.mpr ⟨a,rfl⟩⟩
def LR(h T:Nat):(EY h T).Pairwise Ah:=by
 unfold EY;rw[pairwise_flatMap];refine⟨λ n _=>?_,?_⟩
 ·refine List.Pairwise.imp_of_mem (λ{a b} ha hb Ys=>?_) (wC h n);rw[fB]at ha hb;exact .inr ⟨(),Ys⟩
 ·refine(pairwise_lt_range (n:=T)).imp λ{a b} h x hx y hy=>?_;rw[fB]at hx hy;exact .inl ()
def wD{R:α->α->Prop}{Q:α->Prop}:∀{l:List α},l.Pairwise R->(∃x∈l,Q x)->∃x∈l,Q x/\∀y∈l,Q y->y=x\/R x y
 |[],_,h=>by obtain⟨x,hx,_⟩:=h;cases hx
 |a::l,hp,h=>by
  rw[pairwise_cons]at hp;by_cases ha:Q a
  ·refine⟨a,by simp,ha,λ y hy _=>?_⟩;rcases C9.mp hy with z|z
   ·exact .inl z
   ·exact .inr (hp.1 y z)
  ·obtain⟨x,hx,hq,hm⟩:=wD hp.2 (by
    obtain⟨x,hx,hq⟩:=h;rcases C9.mp hx with rfl|z
    ·exact be hq ha
    ·exact⟨x,z,hq⟩)
   refine⟨x,k7 _ hx,hq,λ y hy Fh=>?_⟩;rcases C9.mp hy with rfl|z
   ·exact be Fh ha
   ·exact hm y z Fh
end KK
variable {lm:List (KK.Cs×Nat)}
namespace KK
def dQ{α:Type}(f:α->α):Nat->α->α
 |0,x=>x
 |n+1,x=>dQ f n (f x)
def qz(f:α->α):∀(n:Nat)(x:α),dQ f (n+1) x=f (dQ f n x)
 |0,x=>rfl
 |n+1,x=>by show dQ f (n+1) (f x)=_;rw[qz f n];rfl
def aP{α:Type}(F:Nat->α->α):Nat->α->Cs->α
 |_,s,[]=>s
 |i,s,c::cs=>aP F (i+1) (dQ (F i) c s) cs
structure kg{α:Type}(S:α->Prop)(h:Nat)(F:Nat->α->α):Prop where
 cl:∀s i,i<h->S s->S (F i s)
 cm:∀s i j,i<h->j<h->S s->F i (F j s)=F j (F i s)
section
variable {S:α->Prop}{h:Nat}{F:Nat->α->α}
def kg.dQ(C:kg S h F)(hi:i<h):∀(n:Nat)(s:α),S s->S (dQ (F i) n s)
 |0,s,hs=>hs
 |n+1,s,hs=>C.dQ hi n _ (C.cl s i hi hs)
def kg.itc(C:kg S h F)(hi:i<h)(hj:j<h):∀(n:Nat)(s:α),S s->KK.dQ (F i) n (F j s)=F j (KK.dQ (F i) n s)
 |0,s,hs=>rfl
 |n+1,s,hs=>by show KK.dQ (F i) n (F i (F j s))=F j (KK.dQ (F i) n (F i s));rw[C.cm s i j hi hj hs,C.itc hi hj n _ (C.cl s i hi hs)]
def kg.aP(C:kg S h F):∀(cs:Cs)(i:Nat)(s:α),i+cs.length<=h->S s->S (aP F i s cs)
 |[],i,s,_,hs=>hs
 |c::cs,i,s,hl,hs=>by rw[y6]at hl;exact C.aP cs (i+1) _ () (C.dQ () _ _ hs)
def kg.gst(C:kg S h F)(hj:j<h):∀(cs:Cs)(i:Nat)(s:α),i+cs.length<=h->S s->KK.aP F i (F j s) cs=F j (KK.aP F i s cs)
 |[],i,s,_,hs=>rfl
 |c::cs,i,s,hl,hs=>by rw[y6]at hl;show KK.aP F (i+1) (KK.dQ (F i) c (F j s)) cs=F j (KK.aP F (i+1) (KK.dQ (F i) c s) cs);rw[C.itc () hj c s hs,C.gst hj cs (i+1) _ () (C.dQ () _ _ hs)]
def kg.inc(C:kg S h F):∀(cs:Cs)(i l:Nat)(s:α),i+cs.length<=h->l<cs.length->S s->KK.aP F i s (KK.inc cs l)=F (i+l) (KK.aP F i s cs)
 |c::cs,i,0,s,hl,_,hs=>by rw[y6]at hl;show KK.aP F (i+1) (KK.dQ (F i) (c+1) s) cs=F i (KK.aP F (i+1) (KK.dQ (F i) c s) cs);rw[qz,C.gst () cs (i+1) _ () (C.dQ () _ _ hs)]
 |c::cs,i,l+1,s,hl,hc,hs=>by rw[y6]at hl hc;show KK.aP F (i+1) (KK.dQ (F i) c s) (KK.inc cs l)=F (i+(l+1)) (KK.aP F (i+1) (KK.dQ (F i) c s) cs);rw[C.inc cs (i+1) l _ () () (C.dQ () _ _ hs),show i+1+l=i+(l+1) by lia]
def gO(F:Nat->α->α)(s0:α)(h:Nat)(p:Cs):Prop:=p.length=h/\∀q:Cs,q.length=h->Ah q p->aP F 0 s0 q≠aP F 0 s0 p
def gO.uniq{p q:Cs}(a:gO F s0 h p)(b:gO F s0 h q)(e:aP F 0 s0 p=aP F 0 s0 q):p=q:=by
 rcases Ah.tri (p:=p) (q:=q) (by rw[a.1,b.1])with z|z|z
 ·exact z
 ·exact be e (b.2 p a.1 z)
 ·exact be e.symm (a.2 q b.1 z)
def gO.ex(F:Nat->α->α)(s0:α)(h:Nat){p:Cs}(hp:p.length=h):∃q,gO F s0 h q/\aP F 0 s0 q=aP F 0 s0 p/\(p=q\/Ah q p):=by
 obtain⟨q,hq,e,hm⟩:=wD (Q:=λ q=>aP F 0 s0 q=aP F 0 s0 p) (LR h (p.sum+1)) ⟨p,fR.mpr ⟨hp,()⟩,rfl⟩;have hq':=fR.mp hq;refine⟨q,⟨hq'.1,λ r hr ha er=>?_⟩,e,hm p (fR.mpr ⟨hp,()⟩) rfl⟩;have hs:r.sum<=q.sum:=by rcases ha with z|z<;>lia
 rcases hm r (fR.mpr ⟨hr,()⟩) (er.trans e)with z|z
 ·subst z;exact ha.Yb
 ·exact ha.not z
def gO.dn(C:kg S h F)(h0:S s0){p:Cs}{l:Nat}(hl:l<p.length)(a:gO F s0 h (KK.inc p l)):gO F s0 h p:=by
 have hp:p.length=h:=by rw[<- fh p l];exact a.1
 refine⟨hp,λ q hq ha e=>?_⟩;refine a.2 (KK.inc q l) (by rw[fh];exact hq) (ha.inc () hl) ?_;rw[C.inc q 0 l s0 () () h0,C.inc p 0 l s0 () hl h0,e]
def mL(h:Nat):Cs:=List.replicate h 0
def tJ:∀{p:Cs},p.sum=0->p=mL p.length
 |[],_=>rfl
 |a::as,e=>by have e:a+as.sum=0:=e;have:=tJ (p:=as) ();show a::as=List.replicate (as.length+1) 0;rw[m9,show a=0 by lia];exact J8 _ this
def lB(h:Nat):(mL h).sum=0:=by unfold mL;simp
def jO(F:Nat->α->α)(s:α):∀(h i:Nat),aP F i s (mL h)=s
 |0,i=>rfl
 |h+1,i=>by show aP F (i+1) s (mL h)=s;exact jO F s h (i+1)
def gO.mL(F:Nat->α->α)(s0:α)(h:Nat):gO F s0 h (mL h):=by
 refine⟨by simp[KK.mL],λ q hq ha=>?_⟩;rcases ha with z|z
 ·rw[lB]at z;lia
 ·rw[lB]at z;have:=tJ z.1;rw[hq]at this;rw[this]at z;exact be z.2 (uH _)
def gO.par(C:kg S h F)(h0:S s0){q:Cs}(a:gO F s0 h q)(hz:q≠KK.mL h):∃p l,l<h/\p.length=h/\q=KK.inc p l/\zb p l/\gO F s0 h p/\p.sum<q.sum:=by
 have hs:0<q.sum:=Nat.pos_of_ne_zero λ z=>hz (by have:=tJ z;rwa [a.1]at this);obtain⟨p,l,hl,hp,e,z⟩:=lastOf hs;have uS:l<p.length:=()
 subst e;refine⟨p,l,by rw[<- a.1];exact hl,by rw[hp];exact a.1,rfl,z,a.dn C h0 uS,by rw[fg uS];lia⟩
structure AM(F:Nat->α->α)(s0:α)(h:Nat)(lm:List (Cs×α)):Prop where
 ent:∀e∈lm,gO F s0 h e.1/\aP F 0 s0 e.1=e.2
 U_:(lm.map (·.1)).Pairwise Ah
 low:∀q,gO F s0 h q->q∉lm.map (·.1)->∀k∈lm.map (·.1),Ah k q
 gp:lm[0]?=some (KK.mL h,s0)
structure vI(F:Nat->α->α)(s0:α)(h:Nat)(lm:List (Cs×α))(d i:Nat):Prop where
 eY:AM F s0 h lm
 up:∀q p l,gO F s0 h q->q∉lm.map (·.1)->q=KK.inc p l->p.length=h->l<h->zb p l->∀j e,lm[j]?=some e->e.1=p->d<j\/(j=d/\i<=l)
def vI.start(F:Nat->α->α)(s0:α)(h:Nat):vI F s0 h [(KK.mL h,s0)] 0 0:=by
 refine⟨⟨λ e he=>?_,by simp,λ q hq hn k hk=>?_,rfl⟩,λ q p l _ _ _ _ _ _ j e hj _=>?_⟩
 ·rw[q8.mp he];exact⟨gO.mL F s0 h,jO F s0 h 0⟩
 ·rw[map_singleton,q8]at hk hn;subst hk;rcases Ah.tri (p:=q) (q:=KK.mL h) (by rw[hq.1];simp[KK.mL])with z|z|z
  ·exact be z hn
  ·rcases z with z|z
   ·rw[lB]at z;lia
   ·rw[lB]at z;have:=tJ z.1;rw[hq.1]at this;exact be this hn
  ·exact z
 ·cases j with
  |zero=>exact .inr ⟨rfl,()⟩
  |succ j=>exact .inl ()
def vI.turn{lm:List (Cs×α)}{d:Nat}(b:vI F s0 h lm d h):vI F s0 h lm (d+1) 0:=
 ⟨b.eY,λ q p l hq hn e hp hl hz j x hj hx=>by
  rcases b.up q p l hq hn e hp hl hz j x hj hx with z|z
  ·by_cases g:j=d+1
   ·exact .inr ⟨g,()⟩
   ·exact .inl ()
  ·lia⟩
def AM.at{lm:List (Cs×α)}(b:AM F s0 h lm){x y:Cs×α}(hi:lm[i]?=some x)(hj:lm[j]?=some y)(l:i<j):Ah x.1 y.1:=by
 have Kf:(lm.map (·.1))[i]?=some x.1:=by rw[u6,hi];rfl
 have Uu:(lm.map (·.1))[j]?=some y.1:=by rw[u6,hj];rfl
 obtain⟨a,ha⟩:=c7.mp Kf;obtain⟨c,hc⟩:=c7.mp Uu;have:=pairwise_iff_getElem.mp b.U_ i j a c l;rw[ha,hc]at this;exact this
def vI.next(C:kg S h F)(h0:S s0){lm:List (Cs×α)}{d:Nat}(b:vI F s0 h lm d i)(hi:i<h){a:Cs}{s:α}(hd:lm[d]?=some (a,s)){q:Cs}(hq:gO F s0 h q)(hn:q∉lm.map (·.1)):q=KK.inc a i\/Ah (KK.inc a i) q:=by
 have hz:q≠KK.mL h:=λ z=>hn (by
  rw[D8];exact⟨_,k8 b.eY.gp,z.symm⟩)
 have ha:=(b.eY.ent _ (k8 hd)).1;have Yq:a.length=h:=ha.1;obtain⟨p,l,hl,hp,e,z,fp,_⟩:=hq.par C h0 hz;subst e;have key:Ah a p->Ah (KK.inc a i) (KK.inc p l):=λ g=>g.par z () ();by_cases hm:p∈lm.map (·.1)
 ·obtain⟨x,hx,rfl⟩:=D8.mp hm;obtain⟨j,hj⟩:=ga hx;rcases b.up _ x.1 l hq hn rfl hp hl z j x hj rfl with g|⟨rfl,g⟩
  ·exact .inr (key (b.eY.at hd hj g))
  ·rw[hd]at hj;cases hj;by_cases e:i=l
   ·exact .inl (by rw[e])
   ·exact .inr (Ah.ZN () ())
 ·exact .inr (key (b.eY.low p fp hm a (D8.mpr ⟨_,k8 hd,rfl⟩)))
def vI.old(C:kg S h F)(h0:S s0){lm:List (Cs×α)}{d:Nat}(b:vI F s0 h lm d i)(hi:i<h){a:Cs}{s:α}(hd:lm[d]?=some (a,s))(hk:F i s∈lm.map (·.2)):vI F s0 h lm d (i+1):=by
 refine⟨b.eY,λ q p l hq hn e hp hl hz j x hj hx=>?_⟩;have ha:=b.eY.ent _ (k8 hd);have Yq:a.length=h:=ha.1.1;rcases b.up q p l hq hn e hp hl hz j x hj hx with z|⟨rfl,z⟩
 ·exact .inl z
 ·refine .inr ⟨rfl,?_⟩;by_cases g:i=l
  ·exfalso;subst g;rw[hd]at hj;cases hj;subst hx;obtain⟨y,hy,ey⟩:=D8.mp hk;have Fh:=b.eY.ent y hy;refine hn (D8.mpr ⟨y,hy,Fh.1.uniq hq ?_⟩);rw[Fh.2,ey,e,C.inc a 0 i s0 () () h0,ha.2,E8]
  ·lia
def vI.new(C:kg S h F)(h0:S s0){lm:List (Cs×α)}{d:Nat}(b:vI F s0 h lm d i)(hi:i<h){a:Cs}{s:α}(hd:lm[d]?=some (a,s))(hk:F i s∉lm.map (·.2)):vI F s0 h (lm++[(KK.inc a i,F i s)]) d (i+1):=by
 have ha:=b.eY.ent _ (k8 hd);have Yq:a.length=h:=ha.1.1;have hc:aP F 0 s0 (KK.inc a i)=F i s:=by rw[C.inc a 0 i s0 () () h0,ha.2,E8]
 have Cp:(KK.inc a i).length=h:=by rw[fh];exact Yq
 have fc:gO F s0 h (KK.inc a i):=by
  obtain⟨q,fq,e,hq⟩:=gO.ex F s0 h Cp;have hn:q∉lm.map (·.1):=λ hm=>by obtain⟨y,hy,rfl⟩:=D8.mp hm;refine hk (D8.mpr ⟨y,hy,?_⟩);rw[<- (b.eY.ent y hy).2,e,hc]
  rcases b.next C h0 hi hd fq hn with z|z
  ·rw[<- z];exact fq
  ·rcases hq with g|g
   ·rw[g];exact fq
   ·exact(z.not g).elim
 have vN:KK.inc a i∉lm.map (·.1):=λ hm=>by obtain⟨y,hy,e⟩:=D8.mp hm;exact hk (D8.mpr ⟨y,hy,by rw[<- (b.eY.ent y hy).2,e,hc]⟩)
 have hdl:d<lm.length:=(c7.mp hd).1;refine⟨⟨λ e he=>?_,?_,λ q fq hn k uT=>?_,?_⟩,λ q p l hq hn e hp hl hz j x hj hx=>?_⟩
 ·rcases B4.mp he with z|z
  ·exact b.eY.ent e z
  ·rw[q8.mp z];exact⟨fc,hc⟩
 ·rw[B5,pairwise_append];refine⟨b.eY.U_,by simp,λ x hx y hy=>?_⟩;rw[map_singleton,q8]at hy;subst hy;exact b.eY.low _ fc vN x hx
 ·rw[B5,B4]at hn uT;rw[not_or]at hn;rcases uT with z|z
  ·exact b.eY.low q fq hn.1 k z
  ·rw[map_singleton,q8]at z;subst z;rcases b.next C h0 hi hd fq hn.1 with g|g
   ·exact be (by rw[g];simp) hn.2
   ·exact g
 ·rw[c4 ()];exact b.eY.gp
 ·rw[B5,B4,not_or]at hn;by_cases g:j<lm.length
  ·rw[c4 g]at hj;rcases b.up q p l hq hn.1 e hp hl hz j x hj hx with z|⟨rfl,z⟩
   ·exact .inl z
   ·refine .inr ⟨rfl,?_⟩;by_cases g:i=l
    ·exfalso;subst g;rw[hd]at hj;cases hj;subst hx;exact hn.2 (by rw[e];simp)
    ·lia
  ·exact .inl ()
def vI.all(C:kg S h F)(h0:S s0){lm:List (Cs×α)}{d:Nat}(b:vI F s0 h lm d 0)(hd:lm.length<=d):∀(n:Nat)(q:Cs),q.sum<n->gO F s0 h q->q∈lm.map (·.1)
 |0,q,hs,_=>by lia
 |n+1,q,hs,fq=>by
  refine Decidable.byContradiction λ hn=>?_;have hz:q≠KK.mL h:=λ z=>hn (by
   rw[D8];exact⟨_,k8 b.eY.gp,z.symm⟩)
  obtain⟨p,l,hl,hp,e,z,fp,jV⟩:=fq.par C h0 hz;have:=b.all C h0 hd n p () fp;obtain⟨x,hx,ex⟩:=D8.mp this;obtain⟨j,hj⟩:=ga hx;have hjl:j<lm.length:=(c7.mp hj).1;rcases b.up q p l fq hn e hp hl z j x hj ex with g|g<;>lia
def AM.nd{lm:List (Cs×α)}(b:AM F s0 h lm):(lm.map (·.2)).Nodup:=by
 have h2:(lm.map (·.1)).Pairwise λ x y=>x≠y:=b.U_.imp λ a e=>by subst e;exact a.Yb
 have h1:lm.Pairwise λ x y=>x.1≠y.1:=pairwise_map.mp h2;unfold List.Nodup;rw[pairwise_map];refine List.Pairwise.imp_of_mem (λ{x y} hx hy ZU=>?_) h1;intro e;have a:=b.ent x hx;have c:=b.ent y hy;exact ZU (a.1.uniq c.1 (by rw[a.2,c.2,e]))
def gO.gw(C:kg S h F)(h0:S s0){U:List α}(hU:∀s,S s->s∈U){p:Cs}(a:gO F s0 h p):p.sum<U.length:=by
 have key:∀(n:Nat)(p:Cs),p.sum=n->gO F s0 h p->∃L:List Cs,L.length=p.sum+1/\L.Nodup/\∀q∈L,gO F s0 h q/\q.sum<=p.sum:=λ n=>by
  induction n with
  |zero=>exact λ p e fp=>⟨[p],by simp[e],by simp,λ q hq=>by rw[q8.mp hq];exact⟨fp,G7 _⟩⟩
  |succ n ih=>
   intro p e fp;obtain⟨p',l,hl,hp,e',z,fp',hs⟩:=fp.par C h0 (λ z=>by rw[z,lB]at e;lia);have es:p.sum=p'.sum+1:=by rw[e',fg ()]
   obtain⟨L,hL,nd,hm⟩:=ih p' () fp';refine⟨p::L,by rw[y6,hL];lia,nodup_cons.mpr ⟨λ hp=>?_,nd⟩,λ q hq=>?_⟩
   ·have:=(hm p hp).2;lia
   ·rcases C9.mp hq with rfl|g
    ·exact⟨fp,G7 _⟩
    ·have:=hm q g;exact⟨this.1,()⟩
 obtain⟨L,hL,nd,hm⟩:=key p.sum p rfl a;have ZE:(L.map (aP F 0 s0)).Nodup:=by unfold List.Nodup;rw[pairwise_map];refine List.Pairwise.imp_of_mem (λ{x y} hx hy ZU e=>?_) nd;exact ZU ((hm x hx).1.uniq (hm y hy).1 e)
 have:=bv ZE (l₂:=U) λ s hs=>by obtain⟨q,hq,rfl⟩:=D8.mp hs;exact hU _ (C.aP q 0 s0 (by rw[(hm q hq).1.1];lia) h0)
 rw[B3]at this;lia
end
open L3 L4 L5
inductive jY{α:Type}(F:Nat->α->α)(h:Nat)(s0:α):α->Prop
 |zero:jY F h s0 s0
 |step {s:α} {i:Nat}:jY F h s0 s->i<h->jY F h s0 (F i s)
set_option tactic.hygienic true in
def jY.sum{S:α->Prop}{s0:α}(C:kg S h F)(h0:S s0){s:α}(r:jY F h s0 s):∃p:Cs,p.length=h/\aP F 0 s0 p=s:=by
 induction r with
 |zero=>exact⟨mL h,by simp[mL],jO F s0 h 0⟩
 |step r hi ih=>obtain⟨p,hp,e⟩:=ih;rename_i i;exact⟨inc p i,by rw[fh];exact hp,by rw[C.inc p 0 i s0 () () h0,e,E8]⟩
def jY.ok{S:α->Prop}{s0:α}(C:kg S h F)(h0:S s0){s:α}(r:jY F h s0 s):S s:=by
 induction r with
 |zero=>exact h0
 |step r hi ih=>exact C.cl _ _ hi ih
structure cz(m h:Nat)(kt:List Row):Prop where
 tb:Tb m h kt
 fI:kg (·<m) h (ax kt)
 ud:∀x,x<m->jY (ax kt) h 0 x
structure cA{α:Type}(F:Nat->α->α)(aD:List α)(s:α)(i:Nat)(r:Row):Prop where
 len:r.length=i
 at':∀j,j<i->∃k:Nat,r[j]?=some (k:Int)/\aD[k]?=some (F j s)
def cA.app{s:α}{r:Row}(a:cA F aD s i r):cA F (aD++ts) s i r:=
 ⟨a.len,λ j hj=>by
  obtain⟨k,e,h⟩:=a.at' j hj;exact⟨k,e,by rw[c4 (c7.mp h).1];exact h⟩⟩
def cA.next{s:α}{r:Row}(a:cA F aD s i r)(hk:aD[k]?=some (F i s)):cA F aD s (i+1) (r++[(k:Int)]):=by
 refine⟨by simp[a.len],λ j hj=>?_⟩;by_cases g:j<i
 ·obtain⟨k,e,h⟩:=a.at' j g;exact⟨k,by rw[c4 (by rw[a.len];exact g)];exact e,h⟩
 ·have:j=i:=()
  subst this;refine⟨k,?_,hk⟩;rw[b9 (by rw[a.len];exact G7 _),a.len,Nat.sub_self];rfl
def cA.nil(F:Nat->α->α)(aD:List α)(s:α):cA F aD s 0 []:=⟨rfl,λ j hj=>be hj ()⟩
structure mJ{α:Type}(F:Nat->α->α)(s0:α)(h:Nat)(U aD:List α)(kt:List Row):Prop where
 nd:aD.Nodup
 gp:aD[0]?=some s0
 ud:∀s∈aD,jY F h s0 s
 sub:∀s∈aD,s∈U
 row:∀(d:Nat)(r:Row),kt[d]?=some r->∃s,aD[d]?=some s/\cA F aD s h r
section
variable {F:Nat->α->α}{s0:α}{h:Nat}{U aD:List α}
def mJ.start(hU:s0∈U):mJ F s0 h U [s0] []:=
 ⟨by simp,rfl,λ s hs=>by rw[q8.mp hs];exact .zero,λ s hs=>by rw[q8.mp hs];exact hU,λ d r e=>by cases e⟩
def mJ.add(e:mJ F s0 h U aD kt){d:Nat}{s:α}(hd:aD[d]?=some s)(hi:i<h)(hU:F i s∈U)(hn:F i s∉aD):mJ F s0 h U (aD++[F i s]) kt:=by
 refine⟨nodup_append.mpr ⟨e.nd,by simp,λ a ha b hb z=>hn (by rw[<- q8.mp hb,<- z];exact ha)⟩,?_,λ t ht=>?_,λ t ht=>?_,λ j r hj=>?_⟩
 ·rw[c4 (c7.mp e.gp).1];exact e.gp
 ·rcases B4.mp ht with z|z
  ·exact e.ud t z
  ·rw[q8.mp z];exact .step (e.ud s (k8 hd)) hi
 ·rcases B4.mp ht with z|z
  ·exact e.sub t z
  ·rw[q8.mp z];exact hU
 ·obtain⟨t,ht,hr⟩:=e.row j r hj;exact⟨t,by rw[c4 (c7.mp ht).1];exact ht,hr.app⟩
def mJ.next(e:mJ F s0 h U aD kt){s:α}{r:Row}(hd:aD[kt.length]?=some s)(hr:cA F aD s h r):mJ F s0 h U aD (kt++[r]):=by
 refine⟨e.nd,e.gp,e.ud,e.sub,λ j q hj=>?_⟩;by_cases g:j<kt.length
 ·rw[c4 g]at hj;exact e.row j q hj
 ·have hl:=(c7.mp hj).1;rw[p4,j9]at hl;have:j=kt.length:=()
  subst this;rw[b9 (G7 _),Nat.sub_self]at hj;cases hj;exact⟨s,hd,hr⟩
def mJ.gw(e:mJ F s0 h U aD kt):aD.length<=U.length:=bv e.nd e.sub
def qp{l:List α}(h:l.Nodup){x:α}(a:l[i]?=some x)(b:l[j]?=some x):i=j:=by obtain⟨hi,_⟩:=c7.mp a;exact(getElem?_inj hi h).mp (a.trans b.symm)
def mJ.at(e:mJ F s0 h U aD kt)(hl:kt.length=aD.length){d:Nat}{s:α}(hd:aD[d]?=some s)(hi:i<h):aD[ax kt i d]?=some (F i s):=by have hdl:=(c7.mp hd).1;obtain⟨t,ht,hr⟩:=e.row d kt[d] (g9 ());rw[hd]at ht;cases ht;obtain⟨k,e1,e2⟩:=hr.at' i hi;unfold ax;rw[c3 (l:=kt),g9 (l:=kt) (i:=d) ()];show aD[((kt[d]).getD i 0).toNat]?=_;rw[c3,e1];exact e2
def mJ.tb{S:α->Prop}(C:kg S h F)(h0:S s0)(e:mJ F s0 h U aD kt)(hl:kt.length=aD.length)(hU:U.length<=300)(hh:h<=12):cz kt.length h kt:=by
 have h1:0<aD.length:=(c7.mp e.gp).1;have lt:∀{d i:Nat},d<kt.length->i<h->ax kt i d<kt.length:=λ{d i} hd hi=>by rw[hl];exact(c7.mp (e.at hl (g9 (show d<aD.length by lia)) hi)).1
 refine⟨⟨rfl,(),by have:=e.gw;lia,hh,λ r hr=>?_⟩,⟨λ x i hi hx=>lt hx hi,λ x i j hi hj hx=>?_⟩,λ x hx=>?_⟩
 ·obtain⟨d,hd⟩:=ga hr;obtain⟨s,hs,S7⟩:=e.row d r hd;refine⟨S7.len,λ x hx=>?_⟩;obtain⟨j,hj⟩:=ga hx;have hjl:=(c7.mp hj).1;obtain⟨k,e1,e2⟩:=S7.at' j (by rw[<- S7.len];exact hjl);rw[hj]at e1;cases e1;have:=(c7.mp e2).1;lia
 ·have hs:=g9 (show x<aD.length by lia);have ss:=(e.ud _ (k8 hs)).ok C h0;refine qp e.nd (x:=F i (F j aD[x])) (e.at hl (e.at hl hs hj) hi) ?_;rw[C.cm _ i j hi hj ss];exact e.at hl (e.at hl hs hi) hj
 ·have hs:=g9 (show x<aD.length by lia);have key:∀s,jY F h s0 s->∃k,aD[k]?=some s/\jY (ax kt) h 0 k:=λ s r=>by
   induction r with
   |zero=>exact⟨0,e.gp,.zero⟩
   |step r hi ih=>obtain⟨k,hk,hr⟩:=ih;exact⟨_,e.at hl hk hi,.step hr hi⟩
  obtain⟨k,hk,hr⟩:=key _ (e.ud _ (k8 hs));rw[qp e.nd hs hk];exact hr
end
def FsF(m h:Nat)(kt:List Row)(f:Nat->Cs):Prop:=∀x,x<m->gO (ax kt) 0 h (f x)/\aP (ax kt) 0 0 (f x)=x
def cz.fst(T:cz m h kt):∃f,FsF m h kt f:=by
 have:∀x:Nat,∃p:Cs,x<m->gO (ax kt) 0 h p/\aP (ax kt) 0 0 p=x:=λ x=>by
  by_cases hx:x<m
  ·obtain⟨p,hp,e⟩:=(T.ud x hx).sum T.fI T.tb.pos;obtain⟨q,fq,eq,_⟩:=gO.ex (ax kt) 0 h hp;exact⟨q,λ _=>⟨fq,by rw[eq,e]⟩⟩
  ·exact⟨[],λ g=>be g hx⟩
 exact⟨λ x=>Classical.choose (this x),λ x hx=>Classical.choose_spec (this x) hx⟩
abbrev nD(v:Nat):D:=.int (v:Int)
def gc(p:Cs):D:=.tup (p.map nD)
def dw(p:Cs):gc p=row (p.map λ v:Nat=>(v:Int)):=by unfold gc row;rw[D9];rfl
def dH(kt:List Row):∀(p:Cs)(i x:Nat),lE kt i x (p.map λ v:Nat=>(v:Int))=aP (ax kt) i x p
 |[],i,x=>rfl
 |c::cs,i,x=>by
  have e:∀n y,f_ (ax kt i) n y=dQ (ax kt i) n y:=λ n=>by
   induction n with
   |zero=>exact λ y=>rfl
   |succ n ih=>exact λ y=>by show f_ (ax kt i) n (ax kt i y)=_;rw[ih];rfl
  show lE kt (i+1) (f_ (ax kt i) c x) (cs.map _)=aP (ax kt) (i+1) (dQ (ax kt i) c x) cs;rw[dH kt cs,e]
open L2 hiding aL gF
def jw(h:sw M M')(F:Flow M f c):Fl f c M M':=by obtain⟨ns,p,b,sd,ct,h1,h2,h3⟩:=F;exact⟨⟨ns,p,b,sd,ct,h _ _ h1,h _ _ h2,h3⟩,λ b o _ e=>h b o e⟩
def sw.rfl:sw M M:=λ _ _ e=>e
structure Enc{α:Type}(k:Nat)(enc:α->D):Prop where
 inj:∀a b,enc a=enc b->a=b
 pl:∀a,Pl k (enc a)
structure Sx{α:Type}(enc:α->D)(F:Nat->α->α)(s0:α)(h:Nat)(U:List α)(p q:ap)(aD:List α)(kt:List Row)(M0 M:Mem):Prop where
 ext:sw M0 M
 np:M0 p=none
 nq:M0 q=none
 pq:p≠q
 st:M p=some (.lst (aD.map enc))
 oz:M q=some (.lst (kt.map row))
 ex:mJ F s0 h U aD kt
 le:kt.length<=aD.length
section
variable {enc:α->D}{F:Nat->α->α}{s0:α}{h:Nat}{U:List α}{r:ap}{aD:List α}{M0:Mem}
def Sx.new(x:Sx enc F s0 h U p q aD kt M0 M)(hr:M r=none)(o:MO):Sx enc F s0 h U p q aD kt M0 (ag M r o):=
 ⟨x.ext.new hr o,x.np,x.nq,x.pq,by rw[ah (aM x.st hr)];exact x.st,by rw[ah (aM x.oz hr)];exact x.oz,x.ex,x.le⟩
def Sx.free(x:Sx enc F s0 h U p q aD kt M0 M)(hr:M r=none):M0 r=none/\p≠r/\q≠r:=⟨x.ext.free hr,aM x.st hr,aM x.oz hr⟩
def Sx.own(x:Sx enc F s0 h U p q aD kt M0 M)(hr:M0 r=none/\p≠r/\q≠r)(o:MO):Sx enc F s0 h U p q aD kt M0 (ag M r o):=
 ⟨x.ext.own hr.1,x.np,x.nq,x.pq,by rw[ah hr.2.1];exact x.st,by rw[ah hr.2.2];exact x.oz,x.ex,x.le⟩
def Sx.add(x:Sx enc F s0 h U p q aD kt M0 M){d:Nat}{s:α}(hd:aD[d]?=some s)(hi:i<h)(hU:F i s∈U)(hn:F i s∉aD):Sx enc F s0 h U p q (aD++[F i s]) kt M0 (ag M p (.lst (aD.map enc++[enc (F i s)]))):=
 ⟨x.ext.own x.np,x.np,x.nq,x.pq,by rw[ae,B5];rfl,by rw[ah (J9 x.pq)];exact x.oz,x.ex.add hd hi hU hn,by rw[p4];have:=x.le;lia⟩
def Sx.next(x:Sx enc F s0 h U p q aD kt M0 M){s:α}{r:Row}(hd:aD[kt.length]?=some s)(hr:cA F aD s h r):Sx enc F s0 h U p q aD (kt++[r]) M0 (ag M q (.lst (kt.map row++[row r]))):=
 ⟨x.ext.own x.nq,x.np,x.nq,x.pq,by rw[ah x.pq];exact x.st,by rw[ae,B5];rfl,x.ex.next hd hr,by
  have:=(c7.mp hd).1;rw[p4,j9];lia⟩
def Sx.gw(x:Sx enc F s0 h U p q aD kt M0 M):aD.length<=U.length/\kt.length<=U.length:=by have:=x.ex.gw;have:=x.le;lia
end
def fU[DecidableEq α]{xs:List α}{a:α}(h:a∈xs):xs[xs.idxOf a]?=some a:=by rw[g9 (idxOf_lt_length_of_mem h),getElem_idxOf]
def lA(m:Nat)(ls:Row):Prop:=ls.Pairwise (· < ·)/\∀x∈ls,0<=x/\x<(m:Int)
def lA.nil(m:Nat):lA m []:=⟨.nil,λ x h=>by cases h⟩
def lA.up(h:lA m ls):lA (m+1) ls:=⟨h.1,λ x hx=>by have:=h.2 x hx;lia⟩
def lA.add(h:lA m ls):lA (m+1) (ls++[(m:Int)]):=by
 refine⟨pairwise_append.mpr ⟨h.1,by simp,λ x hx y hy=>?_⟩,λ x hx=>?_⟩
 ·rw[q8.mp hy];exact(h.2 x hx).2
 ·rcases B4.mp hx with z|z
  ·have:=h.2 x z;lia
  ·rw[q8.mp z];lia
def lA.gw:∀{ls:Row},lA m ls->ls.length<=m:=λ{ls} h=>by
 have nd:(ls.map Int.toNat).Nodup:=by unfold List.Nodup;rw[pairwise_map];refine List.Pairwise.imp_of_mem (λ{a b} ha hb Ys=>?_) h.1;have:=h.2 a ha;have:=h.2 b hb;lia
 have:=bv nd (l₂:=List.range m) λ x hx=>by obtain⟨y,hy,rfl⟩:=D8.mp hx;have:=h.2 y hy;exact dL.mpr ()
 rwa [B3,x4]at this
def Ba[DecidableEq α]{h:Nat}{U:List α}{pw:ap}{aD:List α}{M0:Mem}{r:Row}{s:α}{jt js jr:Nat}{E:ke}(en:Enc k enc)(hk:k<=60)(X:Sx enc F s0 h U p q aD kt M0 M)(hb:U.length<=300)(hh:h<=12)(fw:M0 pw=none/\p≠pw/\q≠pw)(hw:M pw=some (.lst (r.map D.int)))(hr:cA F aD s i r)(hd:aD[kt.length]?=some s)(hi:i<h)(hU:F i s∈U)(et:δ[jt]?=some (some (enc (F i s))))(es:δ[js]?=some (some (.ref p)))(er:δ[jr]?=some (some (.ref pw)))(kk:∀(ko:List α)(r':Row)(M':Mem),Sx enc F s0 h U p q ko kt M0 M'->M' pw=some (.lst (r'.map D.int))->cA F ko s (i+1) r'->ko[kt.length]?=some s->E.nx δ M'):K_ (Qu (sy (K' mD (ie jt) (ie js))) (Bl (Vl "list" pC (ie js) (gS (ie jt) rA))) Gj) (Bl (Vl "list" pC (ie jr) (gS (Vl "list" Aw (ie js) (gS (ie jt) rA)) rA))) E δ M:=by
 have vt:∀{M:Mem} {Q:bF},Q (enc (F i s)) M->ie jt δ M Q:=λ q=>gG et q;have vs:∀{M:Mem} {Q:bF},Q (.ref p) M->ie js δ M Q:=λ q=>gG es q;have vr:∀{M:Mem} {Q:bF},Q (.ref pw) M->ie jr δ M Q:=λ q=>gG er q;refine mR (λ δ' M'=>δ'=δ/\∃ko,Sx enc F s0 h U p q ko kt M0 M'/\M' pw=some (.lst (r.map D.int))/\cA F ko s i r/\ko[kt.length]?=some s/\F i s∈ko) (λ N hN=>?_) ?_
 ·refine GL (oQ (Br (vt (vs ?_))));refine qc (k:=k) (b:=decide (F i s∈aD)) (ds:=aD.map enc) (dq X.st) (en.pl _) (dM λ x _=>en.pl x) hk (by rw[bn];exact(uC en.inj _).symm) ?_;refine gu (λ hn=>?_) (λ hn=>?_)
  ·have hn:F i s∉aD:=by simpa using hn
   refine t_ (Bv (vs ⟨⟨rfl,_,X.st⟩,lL (vt (kB ?_))⟩));refine dJ X.st (by rw[B3];have:=X.gw;exact p8 (show aD.length<=300 by lia) (by decide)) ?_;exact hN _ _ ⟨rfl,aD++[F i s],X.add hd hi hU hn,by rw[ah (J9 fw.2.1)];exact hw,hr.app,by rw[c4 (c7.mp hd).1];exact hd,by simp⟩
  ·have hn:F i s∈aD:=by simpa using hn
   exact hN _ _ ⟨rfl,aD,X,hw,hr,hd,hn⟩
 ·rintro δ' M' ⟨rfl,ko,X,hw,hr,hd,hm⟩;refine t_ (Bv (vr ⟨⟨rfl,_,hw⟩,lL (Bv (vs ⟨⟨rfl,_,X.st⟩,lL (vt (kB ?_))⟩))⟩));refine lJ enc en.inj X.st hm en.pl hk ?_;refine kB (dJ hw (by rw[B3,hr.len];exact p8 (show i<=300 by lia) (by decide)) ?_);exact kk ko (r++[((ko.idxOf (F i s):Nat):Int)]) _ (X.own fw _) (by rw[ae,B5];rfl) (hr.next (fU hm)) hd
def cE:Enc 0 nD:=⟨λ a b z=>Int.ofNat.inj (D.int.inj z),λ a=>cV 0 _⟩
def pD(p:Nat×Nat):D:=.tup [.int (p.1:Int),.int (p.2:Int)]
def Jt:Enc 1 pD:=by
 refine⟨λ a b z=>?_,λ a=>qh λ e he=>?_⟩
 ·have:=D.tup.inj z;injection this with h1 h2
  injection h2 with h2 _
  exact Prod.ext (cE.inj _ _ h1) (cE.inj _ _ h2)
 ·rcases C9.mp he with rfl|he
  ·exact cV 0 _
  ·rw[q8.mp he];exact cV 0 _
def stN(L:Nat)(sz:Cs)(i:Nat)(s:Nat×Nat):Nat×Nat:=(s.1^^^sz.getD i 0,max s.2 (if 1<sz.getD i 0 then 1 else 0)*L)
def JL:List (Nat×Nat):=(List.range 8).flatMap λ a=>(List.range 2).map λ b=>(a,b)
def BN{s:Nat×Nat}:s∈JL↔s.1<8/\s.2<2:=by
 unfold JL;rw[mem_flatMap];constructor
 ·rintro⟨a,ha,h⟩;obtain⟨b,hb,rfl⟩:=D8.mp h;exact⟨dL.mp ha,dL.mp hb⟩
 ·rintro⟨h1,h2⟩;exact⟨s.1,dL.mpr h1,D8.mpr ⟨s.2,dL.mpr h2,rfl⟩⟩
def KP{L:Nat}(hL:L<=1)(hs:∀x∈sz,x<5):kg (λ s=>s∈JL) h (stN L sz):=by
 have hz:∀i,sz.getD i 0<5:=λ i=>by
  rw[c3];cases e:sz[i]? with
  |none=>decide
  |some v=>exact hs v (k8 e)
 refine⟨λ s i _ hs=>?_,λ s i j _ _ _=>?_⟩
 ·rw[BN]at hs ⊢;refine⟨Nat.xor_lt_two_pow (n:=3) hs.1 (by have:=hz i;show sz.getD i 0<8;lia),?_⟩;show max s.2 (if 1<sz.getD i 0 then 1 else 0)*L<2;have:max s.2 (if 1<sz.getD i 0 then 1 else 0)<=1:=by refine Nat.max_le.mpr ⟨(),?_⟩;split<;>lia
  exact p8 (Nat.mul_le_mul this hL) (by decide)
 ·unfold stN;dsimp only;refine Prod.ext ?_ ?_
  ·show s.1^^^_^^^_=s.1^^^_^^^_;rw[C6,C6,Nat.xor_comm (sz.getD j 0)]
  ·show max (max s.2 _*L) _*L=max (max s.2 _*L) _*L;rcases Nat.le_one_iff_eq_zero_or_eq_one.mp hL with e|e
   ·subst e;simp
   ·subst e;simp only[Nat.mul_one];rw[Nat.max_assoc,Nat.max_assoc,Nat.max_comm (if 1<sz.getD j 0 then 1 else 0)]
def JZ(kt:List Row)(w:Nat)(ws:Cs)(i:Nat)(s:Nat×Nat):Nat×Nat:=(ax kt i s.1,(s.2+ws.getD i 0)%w)
def EU(m w:Nat):List (Nat×Nat):=(List.range m).flatMap λ a=>(List.range w).map λ b=>(a,b)
def oY{w:Nat}{s:Nat×Nat}:s∈EU m w↔s.1<m/\s.2<w:=by
 unfold EU;rw[mem_flatMap];constructor
 ·rintro⟨a,ha,h⟩;obtain⟨b,hb,rfl⟩:=D8.mp h;exact⟨dL.mp ha,dL.mp hb⟩
 ·rintro⟨h1,h2⟩;exact⟨s.1,dL.mpr h1,D8.mpr ⟨s.2,dL.mpr h2,rfl⟩⟩
def Oe(m w:Nat):(EU m w).length=m*w:=by unfold EU;rw[length_flatMap];simp only[B3,x4];rw[map_const',x4,sum_replicate_nat]
def KQ{w:Nat}(T:cz m h kt)(hw:0<w):kg (λ s=>s∈EU m w) h (JZ kt w ws):=by
 refine⟨λ s i hi hs=>?_,λ s i j hi hj hs=>?_⟩
 ·rw[oY]at hs ⊢;exact⟨T.fI.cl _ _ hi hs.1,Nat.mod_lt _ hw⟩
 ·rw[oY]at hs;refine Prod.ext (T.fI.cm _ _ _ hi hj hs.1) ?_;show((s.2+ws.getD j 0)%w+ws.getD i 0)%w=((s.2+ws.getD i 0)%w+ws.getD j 0)%w;rw[Nat.mod_add_mod,Nat.mod_add_mod,Nat.add_right_comm]
def tN(T:Tb m h kt){x:Nat}(hx:x<m)(hi:i<h):gN (kt.map row) (x:Int)=some (row (kt.getD x []))/\gN ((kt.getD x []).map D.int) (i:Int)=some (.int (ax kt i x)):=by
 have sS:x<kt.length:=by rw[T.len];exact hx
 have a:=T.at hx hi;refine⟨bc (by rw[u6,g9 sS,c3,g9 sS];rfl),?_⟩;rw[mF (by rw[a.1];exact hi),a.2.1]
def Vp(T:cz m h kt)(hp:ord.Perm (List.range m))(h0:ord[0]?=some 0)(hl:dE.length=m)(hr:∀(d:Nat)(r:Row),dE[d]?=some r->∃x,ord[d]?=some x/\cA (ax kt) ord x h r):cz m h dE:=by
 have e:mJ (ax kt) 0 h (List.range m) ord dE:=⟨hp.nodup_iff.mpr nodup_range,h0,λ s hs=>T.ud s (dL.mp (hp.mem_iff.mp hs)),λ s hs=>hp.mem_iff.mp hs,hr⟩;have ol:ord.length=m:=by rw[hp.length_eq,x4]
 have:=e.tb T.fI T.tb.pos (by rw[hl,ol]) (by rw[x4];exact T.tb.gw) T.tb.xP
 rwa [hl]at this
def GG{Q:bF}(h:M p=some (.lst ds))(q:∀p,M p=none->Q (.ref p) (ag M p (.lst ds))):dList [.ref p] M Q:=by show(match cR M (.ref p)with|some ds=>∀p,M p=none->Q (.ref p) (ag M p (.lst ds))|none=>False);rw[dq h];exact q
def Sj{xs:Row}(h:xs.Pairwise (·<=·))(nd:xs.Nodup)(hb:∀x∈xs,0<=x/\x<(m:Int)):lA m xs:=by refine⟨?_,hb⟩;have:=List.Pairwise.and h nd;exact this.imp λ{a b} z=>by have:=z.1;have:=z.2;lia
def HD(hm:0<m){ns:List Nat}(h:ns.Perm ((List.range (m-1)).map (·+1))):(0::ns).Perm (List.range m):=by obtain⟨k,rfl⟩:∃k,m=k+1:=⟨m-1,()⟩;rw[range_succ_eq_map];exact h.cons 0
def dU(ord:List Nat)(r:Row):Row:=r.map λ y=>(ord.idxOf y.toNat:Int)
def Ld(G:cz m h kt)(hp:ord.Perm (List.range m)){x:Nat}(hx:x<m):cA (ax kt) ord x h (dU ord (kt.getD x [])):=by
 have sS:x<kt.length:=by rw[G.tb.len];exact hx
 have e:(kt.getD x []).length=h:=by rw[c3,g9 sS];exact(G.tb.row _ (A2 sS)).1
 refine⟨by unfold dU;rw[B3];exact e,λ j hj=>⟨ord.idxOf (ax kt j x),?_,fU (hp.mem_iff.mpr (dL.mpr (G.fI.cl _ _ hj hx)))⟩⟩;unfold dU ax;rw[u6,g9 (),c3 (l:=kt.getD x []),g9 ()];rfl
def Gq{xs:Row}(hp:ord.Perm (List.range m))(L:lA m ls)(h:xs.Perm (dU ord ls))(hs:xs.Pairwise (·<=·)):lA m xs:=by
 have IZ:ord.length=m:=by rw[hp.length_eq,x4]
 have jq:∀y∈ls,y.toNat∈ord:=λ y hy=>hp.mem_iff.mpr (dL.mpr (by have:=L.2 y hy;lia));refine Sj hs (h.nodup_iff.mpr ?_) λ x hx=>?_
 ·unfold dU List.Nodup;rw[pairwise_map];refine List.Pairwise.imp_of_mem (λ{a b} ha hb Ys=>?_) L.1;intro e;have e:ord.idxOf a.toNat=ord.idxOf b.toNat:=()
  have h1:=fU (jq a ha);rw[e,fU (jq b hb)]at h1;have:=B0 h1;have:=L.2 a ha;have:=L.2 b hb;lia
 ·obtain⟨y,hy,rfl⟩:=D8.mp (h.mem_iff.mp hx);have:=idxOf_lt_length_of_mem (jq y hy);lia
def Ic{ns:List Nat}(h:b=true↔ns=[]):b=true↔ns.map nD=[]:=by rw[h,map_eq_nil_iff]
def BP{β:Type}(f:α->β):∀(l:List α)(j:Nat),(l.map f).eraseIdx j=(l.eraseIdx j).map f
 |[],_=>rfl
 |a::l,0=>rfl
 |a::l,j+1=>by show f a::(l.map f).eraseIdx j=f a::(l.eraseIdx j).map f;rw[BP f l j]
def wJ:∀{l:List α} {j:Nat} (h:j<l.length),([l[j]]++l.eraseIdx j).Perm l
 |a::l,0,_=>.refl _
 |a::l,j+1,h=>by have:=wJ (l:=l) (j:=j) (by simpa using h);show(l[j]'(by simpa using h)::a::l.eraseIdx j).Perm (a::l);exact(List.Perm.swap _ _ _).trans (this.cons a)
def og{α:Type}(enc:α->D)(kvs:List (α×D)):List (D×D):=kvs.map λ p=>(enc p.1,p.2)
section
variable [DecidableEq α]{enc:α->D}
def qu(inj:∀a b,enc a=enc b->a=b)(x:α):∀kvs:List (α×D),cF (og enc kvs) (enc x)=(kvs.find? λ p=>decide (p.1=x)).map (·.2)
 |[]=>rfl
 |p::kvs=>by
  have ih:=qu inj x kvs;unfold cF og at ih ⊢;rw[C8,A6,A6];by_cases z:p.1=x
  ·rw[B8 z,B8 (by rw[z])];rfl
  ·rw[A7 z,A7 (λ h=>z (inj _ _ h))];exact ih
def m_(inj:∀a b,enc a=enc b->a=b){kvs:List (α×D)}{x:α}(h:x∉kvs.map (·.1)):cF (og enc kvs) (enc x)=none:=by
 rw[qu inj,find?_eq_none.mpr]
 ·rfl
 ·intro p hp;rw[bn];exact λ e=>h (D8.mpr ⟨p,hp,e⟩)
def mZ(inj:∀a b,enc a=enc b->a=b){kvs:List (α×D)}{x:α}(nd:(kvs.map (·.1)).Nodup)(h:(x,d)∈kvs):cF (og enc kvs) (enc x)=some d:=by
 rw[qu inj];cases e:kvs.find? λ p=>decide (p.1=x)with
 |none=>have:=find?_eq_none.mp e _ h;simp at this
 |some q=>
  have h1:=find?_some e;have h2:=mem_of_find?_eq_some e;rw[bn]at h1;obtain⟨i,hi⟩:=ga h;obtain⟨j,hj⟩:=ga h2;have e1:(kvs.map (·.1))[i]?=some x:=by rw[u6,hi];rfl
  have e2:(kvs.map (·.1))[j]?=some x:=by rw[u6,hj,<- h1];rfl
  have:=qp nd e1 e2;subst this;rw[hi]at hj;cases hj;rfl
def uf(inj:∀a b,enc a=enc b->a=b){kvs:List (α×D)}{x:α}(v:D)(h:x∉kvs.map (·.1)):putD (og enc kvs) (enc x) v=og enc (kvs++[(x,v)]):=by unfold putD;rw[m_ inj h,K3 (by simp)];unfold og;rw[B5];rfl
end
def eT(x:Nat):iJ false (nD x):=⟨.inl x,rfl⟩
def II:∀{p:Cs} {i c:Nat},p[i]?=some c->p.take i++[c+1]++p.drop (i+1)=inc p i
 |a::p,0,c,h=>by cases h;rfl
 |a::p,i+1,c,h=>by have:=II (p:=p) (i:=i) (c:=c) (by simpa using h);show a::(p.take i++[c+1]++p.drop (i+1))=a::inc p i;rw[this]
def kX{α:Type}(enc:α->D)(e:Cs×α):D:=.tup [gc e.1,enc e.2]
def sw.vh{C:CM}(h:∀b d,C b=some d->M1 b=some (.eX (.vh d)))(e:sw (fi M1 C) M'):sw M1 (g_ M' C):=λ b o eo=>by
 rcases cJ C b with z|⟨d,z⟩
 ·rw[iB z];exact e b o (by rw[my z];exact eo)
 ·rw[mG z,<- h b d z];exact eo
def md{C:CM}(h:oJ M f L fv cs C)(e:sw M M1):oJ M1 f L fv cs C:=by obtain⟨cl,h1,h2⟩:=h.ex;exact⟨⟨cl,e _ _ h1,h2⟩,h.len,λ b d z=>e _ _ (h.vh b d z)⟩
structure yM{α:Type}(F:Nat->α->α)(s0:α)(h:Nat)(most:Nat)(lm:List (Cs×α)):Prop where
 eY:AM F s0 h lm
 Xd:most<=lm.length\/∀q,gO F s0 h q->q∈lm.map (·.1)
end KK
namespace L2
open PySem.Spec PyProof.Rows
def iz:∀(names:List (Str×NameKind))(li:List (Str×ap))(x:Str)(c:ap),(bp cells names li).lookup x=some c->(x,NameKind.free)∈names\/li.lookup x=some c
 |[],li,x,c,e=>.inr e
 |(n,k)::r,li,x,c,e=>by
  unfold bp at e;by_cases z:(k==NameKind.free)=true
  ·rw[K1 z]at e;have z:k=.free:=by simpa using z
   subst z;rcases iz r _ x c e with h|h
   ·exact .inl (k7 _ h)
   ·by_cases y:x=n
    ·subst y;exact .inl (o7 ..)
    ·rw[y3]at h;have:(x==n)=false:=by simpa using y
     rw[this]at h;exact .inr h
  ·rw[K3 z]at e;rcases iz r _ x c e with h|h
   ·exact .inl (k7 _ h)
   ·exact .inr h
end L2
namespace L3
open L2
def M_{C:CM}(h:ff ps fv L.scope=true)(vN:fv=cn.map (·.1))(hl:cs.length=cn.length)(Cn:∀(i:Nat)(x:Str)(j:Nat)(d:D),cn[i]?=some (x,j)->cs[i]?=some d->δ[j]?=some (some d))(hC:JV cells cn δ C)(hM:M lf=some (.eX (.lam L (bp cells L.scope.names []))))(hn:∀b d,C b=some d->M b=none):oJ (g_ M C) lf L fv cs C:=by
 unfold ff at h;simp only[A0,A3]at h;obtain⟨⟨_,h5⟩,h6⟩:=h;have fr:∀x,(x,NameKind.free)∈L.scope.names->x∈fv:=λ x hx=>by simpa using(h6 _ hx).2
 have Nl:∀x∈fv,∃j,(x,j)∈cn:=λ x hx=>by rw[vN]at hx;obtain⟨p,hp,rfl⟩:=D8.mp hx;exact⟨p.2,hp⟩
 have hc:∀n,(n,NameKind.free)∈L.scope.names->∃c,cells.lookup n=some c:=λ n hx=>by obtain⟨j,hj⟩:=Nl n (fr n hx);obtain⟨b,_,e,_⟩:=hC.has n j hj;exact⟨b,e⟩
 have look:=fX (cells:=cells) L.scope.names [] hc λ x c e=>by simp at e
 have free:=λ x c e=>(iz (cells:=cells) L.scope.names [] x c e).elim (fr x) λ z=>by simp at z
 have NB:C lf=none:=by
  rcases cJ C lf with z|⟨d,z⟩
  ·exact z
  ·rw[hn lf d z]at hM;cases hM
 refine⟨⟨bp cells L.scope.names [],by rw[iB NB];exact hM,λ x y b e1 e2=>?_,λ x b e=>⟨free x b e,?_⟩,λ i x d ex ed=>?_⟩,by rw[hl,vN,B3],λ b d e=>mG e⟩
 ·obtain⟨j,hj⟩:=Nl x (free x b e1);obtain⟨i,hi⟩:=Nl y (free y b e2);exact hC.inj x j y i b hj hi (look x b e1) (look y b e2)
 ·obtain⟨j,hj⟩:=Nl x (free x b e);obtain⟨b',d,e1,_,e3⟩:=hC.has x j hj;rw[look x b e]at e1;cases e1;exact⟨d,e3⟩
 ·rw[vN,u6]at ex;obtain⟨p,hp,rfl⟩:=ce.mp ex;have hx:p.1∈fv:=by rw[vN];exact D8.mpr ⟨p,k8 hp,rfl⟩
  have hm:(p.1,NameKind.free)∈L.scope.names:=by have:=h5 _ hx;exact m8 (by simpa using this)
  obtain⟨b,hb⟩:=Option.isSome_iff_exists.mp (gZ (cells:=cells) L.scope.names [] hm);obtain⟨b',d',e1,e2,e3⟩:=hC.has p.1 p.2 (k8 hp);rw[look _ b hb]at e1;cases e1;rw[Cn i p.1 p.2 d hp ed]at e2;cases e2;exact⟨b,hb,e3⟩
def sw.Ow{C:CM}(e:∀b o,g_ M C b=some o->M' b=some o)(n:∀b d,C b=some d->M b=none):∀b o,M b=some o->fi M' C b=some o:=Jw e n
def TJ{C:CM}{b:ap}{o:MO}(h:M' b=some o)(n:C b=none):fi M' C b=some o:=by rw[my n];exact h
end L3
namespace KK
open L3 L4 L5
def yM.len(G:cz m h kt)(f:yM (ax kt) 0 h m lm):lm.length=m:=by
 have eB:∀e∈lm,e.2<m:=λ e he=>by have:=f.eY.ent e he;rw[<- this.2];exact G.fI.aP e.1 0 0 (by rw[this.1.1];lia) G.tb.pos
 have h1:=bv f.eY.nd (l₂:=List.range m) λ x hx=>by obtain⟨e,he,rfl⟩:=D8.mp hx;exact dL.mpr (eB e he)
 rw[B3,x4]at h1;rcases f.Xd with h2|h2
 ·lia
 ·obtain⟨g,hg⟩:=G.fst;have h3:=bv (nodup_range (n:=m)) (l₂:=lm.map (·.2)) λ x hx=>by have hx:=dL.mp hx;obtain⟨e,he,ee⟩:=D8.mp (h2 _ (hg x hx).1);have:=(f.eY.ent e he).2;rw[ee,(hg x hx).2]at this;exact D8.mpr ⟨e,he,this.symm⟩
  rw[B3,x4]at h3;lia
def Bh:dW:=λ ds M Q=>∃ns:List Int,ds=[.fl (ns.map D.int)]/\∀f c M',Flow M' f c->sw M M'->Q (.ref f) M'
def zM{b:ap}{x:XM}(F:Fl f c M M')(h:M b=some (.eX x))(hf:Flow M f c):M' b=some (.eX x):=by refine F.mv b _ (λ z=>?_) h;subst z;obtain⟨ns,p,bb,sd,ct,h1,_⟩:=hf;rw[h]at h1;cases h1
open L2 hiding aL gF
abbrev kd(K:List Nat)(x:Nat):Nat:=K.getD x 0
abbrev kI(v:Nat):Int:=v
def xu{K:List Nat}{x:Nat}(h:x<K.length):K[x]?=some (kd K x):=by unfold kd;rw[c3,g9 h];rfl
def kd_mem{K:List Nat}{x:Nat}(h:x<K.length):kd K x∈K:=k8 (xu h)
structure XI(m h:Nat)(kt:List Row)(K:List Nat):Prop where
 len:K.length=m
 lt:∀x,x<m->kd K x<m
 SY:∀x,x<m->kd K (kd K x)=kd K x
 gp:kd K 0=0
 U8:∀x z i,x<m->z<m->i<h->kd K x=kd K z->kd K (ax kt i x)=kd K (ax kt i z)
section
variable {h:Nat}{K:List Nat}
def XI.fI(G:cz m h kt)(k:XI m h kt K):kg (λ s=>s<m/\kd K s=s) h (λ i s=>kd K (ax kt i s)):=by
 refine⟨λ x i hi hx=>?_,λ x i j hi hj hx=>?_⟩
 ·have:=G.fI.cl x i hi hx.1;exact⟨k.lt _ this,k.SY _ this⟩
 ·have a:=G.fI.cl x i hi hx.1;have b:=G.fI.cl x j hj hx.1;show kd K (ax kt i (kd K (ax kt j x)))=kd K (ax kt j (kd K (ax kt i x)));rw[k.U8 _ (ax kt j x) i (k.lt _ b) b hi (k.SY _ b),k.U8 _ (ax kt i x) j (k.lt _ a) a hj (k.SY _ a),G.fI.cm x i j hi hj hx.1]
set_option tactic.hygienic true in
def XI.rcd(G:cz m h kt)(k:XI m h kt K){x:Nat}(r:jY (ax kt) h 0 x):x<m/\jY (λ i s=>kd K (ax kt i s)) h 0 (kd K x):=by
 induction r with
 |zero=>exact⟨G.tb.pos,by rw[k.gp];exact .zero⟩
 |step r hi ih=>
  rename_i s i;refine⟨G.fI.cl _ _ hi ih.1,?_⟩;have:=jY.step ih.2 hi
  rwa [k.U8 _ s i (k.lt _ ih.1) ih.1 hi (k.SY _ ih.1)]at this
end
def SJ{α:Type}[DecidableEq α](T:List α)(t:α):Nat:=T.idxOf t
def jI{α:Type}[DecidableEq α](T:List α):List Nat:=T.map λ t=>SJ T t
def xB[DecidableEq α](t:α)(l:List α):(t::l).idxOf t=0:=idxOf_cons_self
def oX[DecidableEq α](T:List α):(jI T).length=T.length:=by simp[jI]
def kL[DecidableEq α]{T:List α}{x:Nat}{t:α}(h:T[x]?=some t):kd (jI T) x=SJ T t:=by have lt:=(c7.mp h).1;have:=xu (K:=jI T) (x:=x) (by rw[oX];exact lt);unfold jI at this;rw[u6,h]at this;exact(B0 this).symm
def mT[DecidableEq α]{T:List α}{x:Nat}{t:α}(h:T[x]?=some t):T[kd (jI T) x]?=some t:=by rw[kL h];exact fU (k8 h)
def mP(G:Tb m h kt){x:Nat}(hx:x<m):gN (kt.map row) (x:Int)=some (.tup ((kt.getD x []).map D.int))/\(kt.getD x []).length=h/\∀y∈kt.getD x [],0<=y/\y<(m:Int):=by
 have h0:x<kt.length:=by rw[G.len];exact hx
 rw[c3,g9 h0];exact⟨bc (by rw[u6,g9 h0];rfl),G.row _ (A2 h0)⟩
def Iw{K:List Nat}{x:Nat}(h:x<K.length):gN (K.map nD) (x:Int)=some (nD (kd K x)):=bc (by rw[u6,xu h];rfl)
def Bp(x:Nat):Lb x=nD x:=by show D.int (0+(x:Int))=_;rw[D4]
def wg{x:Nat}(h:(List.range n)[i]?=some x):x<n:=dL.mp (k8 h)
end KK
namespace L2
open PySem.Spec PyProof.Rows
def Qk(t:TE):TO:=λ σ H Q=>t σ H λ x H1=>(∃i,x=.int i/\Q (some i) H1)\/(x=.bo/\Q none H1)
def Hg{te:TE}(h:PE X e te):PO X (some e) (Qk te):=by
 intro jp s σ H Q I hw;rw[evalPart_some];refine cZ (h jp s σ H _ I hw) λ u s1 ⟨x,H1,I1,r1,q1⟩=>?_;rcases q1 with⟨i,rfl,q⟩|⟨rfl,q⟩
 ·obtain⟨t,rfl⟩:=r1;exact⟨some i,H1,I1,.int i t,q⟩
 ·cases(show u=Value.none from r1);exact⟨none,H1,I1,.none,q⟩
end L2
namespace L3
open PySem.Spec PyProof.Rows L2 L5
def zu(t:bT):Kl:=λ δ M Q=>t δ M λ d M1=>match d with
 | .int i=>Q (some i) M1
 | .bo=>Q none M1
 |_=>False
def FD(h:WE X e ta):WO X (some e) (zu ta):=⟨have h:=h.h;Hh (Hg h) λ σ H Q ⟨δ,M,Q2,hs,hm,q,k⟩=>by
 refine⟨δ,M,_,hs,hm,q,λ x H1 d M1 hd bM t1 q1=>?_⟩;cases d with
 |int i=>exact .inl ⟨i,au.mp hd,k _ _ _ bM t1 q1⟩
 |bo=>exact .inr ⟨dv.mp hd,k _ _ _ bM t1 q1⟩
 |_=>exact q1.elim⟩
end L3
namespace L4
open L2 L3
def wm{QO:Option Int->Mem->Prop}(h:ta δ M λ d M1=>match d with| .int i=>QO (some i) M1| .bo=>QO none M1|_=>False):zu ta δ M QO:=h
end L4
namespace KK
open L2 L3 L4
def zy{Q:bF}(h:M a=some (.lst ds))(q:∀p,M p=none->Q (.ref p) (ag M p (.lst ds))):vd (.ref a) none none M Q:=tW h λ p hp=>by
 have e:cutD ds none none=ds:=by show(ds.drop 0).take (ds.length-0)=ds;rw[drop_zero,Nat.sub_zero,y8]
 rw[e];exact q p hp
end KK
namespace L2
open PySem.Spec PyProof.Rows
section
variable {κ:Type}[DecidableEq κ]{knd:HeapKind prog w κ}
def oy{d:ap}{xs:List (κ×ap×gV)}{k:κ}{v:gV}(hu:knd.room A)(qD:knd.is s.heap k a)(hm:s.heap.DictOfH knd d xs)(h1:∀p,atKey xs k=some p->Q p.2 {s with toks:=s.toks+knd.draws k})(h2:atKey xs k=none->∀h',h'.DictOfH knd d (storedH xs k a v)->Heap.SameBut d s.heap h'->Q v {s with heap:=h',toks:=s.toks+knd.draws k})(hsz:xs.length<=sizeLine):wpAny (model prog w) A (dictSetDefault d (.ref a) v) Q E s:=by
 obtain⟨o,es,ep,ho,hc,hd,he,his,hn⟩:=hm;unfold dictSetDefault
 try with_reducible refine C4 ?_
 refine J1 (knd.pyHash hu qD ?_);refine J1 (wpAny_dictFind_heap (s:={s with toks:=s.toks+knd.draws k}) hu qD ho hd he his hn ?_ ?_)
 ·intro Yi;have aao:k∉xs.map (·.1):=not_mem_keys_of_get Yi;have Yr:=atKey_none_of_get Yi;refine J1 (J4 (J1 (wpAny_updateDictKeys (hz:=by have e:=size_of_entries he;lia) (s:={s with toks:=s.toks+knd.draws k}) ho hd (J3 (h2 Yr _ ⟨_,_,ep+1,j7 _ ho (Obj.isFreed_of_dict (Obj.data_mapDictKeys hd _)),
   hc.mapDictKeys _,Obj.data_mapDictKeys hd _,?_,?_,?_⟩ (l8 ..))))))
  ·rw[storedH_new Yr];simp[he,entryOfKey]
  ·rw[storedH_new Yr];intro x hx;rcases B4.mp hx with hx|hx
   ·exact knd.keeps (his x hx) ho hd (l8 ..)
   ·rw[q8.mp hx];exact knd.keeps qD ho hd (l8 ..)
  ·rw[storedH_new Yr,B5,nodup_append];refine⟨hn,by simp,λ x hx y hy=>?_⟩;simp only[C8,G1,q8]at hy;subst hy;exact λ e=>aao (e▸hx)
 ·intro j p hj;refine J1 (wpAny_dictEntries (s:={s with toks:=s.toks+knd.draws k}) ho hd ?_);have e1:es[j]?=some (entryOfKey knd (k,p)):=by rw[<- k3,he,u6,hj];rfl
  rw[e1];exact J1 (J4 (J3 (h1 p (atKey_of_get hn hj))))
def rC(d a:ap){k:κ}(hd:(d==sysModules)=false)(v:gV):
  MeetsIn prog w (Builtin.«dict.setdefault» ⟨[.ref d,.ref a,v],[]⟩) (λ A R s=>knd.room A.in1/\∃xs,knd.is s.heap k a/\s.heap.DictOfH knd d xs/\xs.length<=sizeLine/\
   (∀p,atKey xs k=some p->R (.ok (.ret p.2)) {s with toks:=s.toks+knd.draws k})/\
   (atKey xs k=none->∀h',h'.DictOfH knd d (storedH xs k a v)->Heap.SameBut d s.heap h'->R (.ok (.ret v)) {s with heap:=h',toks:=s.toks+knd.draws k})):=
 .of_wp λ A R s ⟨hu,xs,hk,hm,hz,h1,h2⟩=>by unfold Builtin.«dict.setdefault»;refine J1 ?_;unfold Builtin.Dict.keyAndDefault;refine J1 (wpAny_notOrdered_dict hm.typeIs ?_);show wpAny _ _ (pure (d,Value.ref a,some v)) _ _ s;refine J3 ?_;show wpAny _ _ (if(d==sysModules)=true then _ else(dictSetDefault d (.ref a) v>>=_)) _ _ s;rw[K3 (by rw[hd];exact o8)];exact J1 (oy hu hk hm (λ p hp=>J3 ⟨_,rfl,h1 p hp⟩) (λ hn h' fH jV=>J3 ⟨v,rfl,h2 hn h' fH jV⟩) hz)
end
def GX(K:K6):V->List V->Hp->VK->Prop:=λ x vs H Q=>∃a b kvs k v,x=.ref a/\vs=[.ref b,v]/\nJ K H a kvs/\k.dep<=5/\gI K H k (.ref b)/\kvs.length<sizeLine/\(∀u,gP kvs k=some u->Q u H)/\(gP kvs k=none->Q v (u8 H a (oD a (iM kvs k b v))))
def zT(hu:eU X):UK X "dict.setdefault" (GX X.K):=by
 intro jp s σ H x xs v us Q I rx rs ⟨a,b,kvs,k,y,e1,e2,dk,hk,sV,hz,q1,q2⟩;subst e1;subst e2;cases(show v=Value.ref a from rx);obtain⟨u,r,rfl,ru,rr⟩:=vals2 rs;cases(show u=Value.ref b from ru);obtain⟨z,hd,vs,rel,dd⟩:=dk.of I;have hv:=rel.val k;refine call_meetsIn PySem.F.slot_dict_setdefault dd.typeIs PySem.F.entry_dict_setdefault (PySem.F.args_dict_setdefault_3 _ _ _) (rC (knd:=iT X.prog X.w) (k:=k) a b hd r) ⟨iY hu,vs,⟨hk,nX I k sV rfl⟩,dd,by rw[<- C5 rel];exact z,λ p hp=>?_,λ hn h' ED hs=>?_⟩
 ·rw[hp]at hv;cases ev:gP kvs k with
  |none=>rw[ev]at hv;exact(show False from hv).elim
  |some w=>rw[ev]at hv;exact⟨w,H,I.tok _,hv,q1 w ev⟩
 ·rw[hn]at hv;cases ev:gP kvs k with
  |some w=>rw[ev]at hv;exact(show False from hv).elim
  |none=>
   have uS:(iM kvs k b y).length<=sizeLine:=by have:=qg kvs k b y;lia
   obtain⟨q,es,ep,hq,h2,h3,h4,_,h5⟩:=ED;exact⟨y,_,jS I (by rw[dk.at_];exact True.intro) hs ⟨q,hq⟩ (qM ⟨uS,hd,_,rel.put k rr,q,es,ep,hq,h2,h3,h4,h5⟩),rr,q2 ev⟩
def Y8(r:V->List V->Hp->VK->Prop)(to:TE)(t:TA):TE:=λ σ H Q=>to σ H λ x H1=>(∃a kvs,x=.ref a/\H1 a=some (oD a kvs))/\t σ H1 λ xs H2=>r x xs H2 Q
def Rv{o:Expr}{id:String}{r:V->List V->Hp->VK->Prop}(slot:Slot "dict" name id)(Eu:UL id)(hm:UK X id r)(ho:PE X o to)(ha:PA X (e::es) t)(gX:Ui X o name:=by rfl)(iq:YM X cL e es:=by rfl)(gW:Ud apos cL:=by rfl)(hs:oq X e es:=by rfl)(kR:vR X cL es:=by rfl):PE X (.Call (.Attribute o name apos) (e::es) [] cL) (Y8 r to t):=by intro jp s σ H Q I h;refine wpAny_Call_method_late gX iq gW rfl (cZ (ho jp s σ H _ I h) λ v s1 ⟨x,H1,I1,r1,⟨a,kvs,ex,ea⟩,q1⟩=>?_);subst ex;cases(show v=Value.ref a from r1);obtain⟨⟨_,_,_,_,ob,_,_,e1,e2,_⟩,_,_⟩:=(show bR X.prog X.w H1 s1.heap a (oD a kvs)from I1.bu a _ ea);refine⟨"dict",id,PySem.F.plainAttrs_dict,slot,Eu,⟨ob,e1,e2.1⟩,λ b eb=>by cases eb;exact⟨ob,e1,e2.2.1⟩,?_⟩;have hA:=ha cL jp s1 σ H1 _ I1 q1;rw[hs]at hA ⊢;refine Calls.callWith_builtin (by show(false||(backTo cL (starEach es X.env)).any (·.1))=false;rw[kR]<;>rfl) (Calls.evalArgs_plain ?_);exact cZ hA λ us s2 ⟨vs,H2,I2,r2,q2⟩=>hm jp s2 σ H2 (.ref a) vs (.ref a) us Q I2 rfl r2 q2
end L2
namespace L3
open PySem.Spec PyProof.Rows L2 L5
def lZ(kvs:List (List Bool×D))(k:List Bool):Option D:=(kvs.find? λ p=>decide (p.1=k)).map (·.2)
def Oh{as:List Bool}(h:CZ as=CZ bs):as=bs:=by
 have h:=IK.t.inj h;refine List.map_inj_right (λ a b e=>?_) |>.mp h
 have e:=IK.i.inj e;cases a<;>cases b<;>first|rfl|(simp[L2.b2i]at e)
def CY(bs:List Bool):(CZ bs).dep<=5:=by
 unfold CZ IK.dep;have:∀l:List Bool,IK.jy (l.map λ b=>IK.i (L2.b2i b))=0:=by
  intro l
  induction l with
  |nil=>rw[G1];unfold IK.jy;rfl
  |cons b l ih=>rw[C8];unfold IK.jy;rw[ih];unfold IK.dep;rfl
 rw[this];decide
def CJ:∀(bs:List Bool){xs:List V},aA K H (bs.map D.bl) xs->jh K H (bs.map λ b=>IK.i (L2.b2i b)) xs
 |[],xs,h=>by rw[G1]at h ⊢;unfold jh;exact ao.mp h
 |b::bs,xs,h=>by rw[C8]at h ⊢;obtain⟨x,r,rfl,h1,h2⟩:=af.mp h;unfold jh;refine⟨x,r,rfl,?_,CJ bs h2⟩;unfold gI;exact .inr ⟨b,aY.mp h1,rfl⟩
def CK(h:sB K H (UE bs) v):∃b,v=.ref b/\gI K H (CZ bs) v:=by obtain⟨p,xs,rfl,hq,hx⟩:=aR.mp h;refine⟨p,rfl,?_⟩;unfold CZ gI;exact⟨p,xs,rfl,hq,CJ bs hx⟩
def Ot.look{kvs:List (List Bool×D)}{xs:List fu}(h:Ot K H kvs xs)(k:List Bool):AN K H (lZ kvs k) (gP xs (CZ k)):=by
 induction h with
 |nil=>exact True.intro
 |@cons p q ps qs jo t ih=>
  obtain⟨h1,_,h2⟩:=jo;unfold lZ gP at ih ⊢;by_cases e:p.1=k
  ·have e':q.1=CZ k:=by rw[h1,e]
   simp only[A6,B8 e,B8 e',Option.map_some];exact h2
  ·have e':¬q.1=CZ k:=λ z=>e (Oh (h1.symm.trans z));simp only[A6,A7 e,A7 e'];exact ih
def Ot.ok{kvs:List (List Bool×D)}{xs:List fu}(h:Ot K H kvs xs)(e:H a=some (oD a xs)):nJ K H a xs:=by
 refine⟨e,?_⟩;clear e
 induction h with
 |nil=>intro p hp;cases hp
 |@cons p q ps qs jo t ih=>
  intro x hx;rcases C9.mp hx with rfl|hx
  ·obtain⟨h1,h2,_⟩:=jo;rw[h1];exact⟨CY _,(CK h2).choose_spec.2⟩
  ·exact ih x hx
section
variable {o:Expr}{to:bT}{t:e_}
def yf:D->List D->Mem->bF->Prop:=λ d ds M Q=>∃a kvs bs v,d=.ref a/\ds=[UE bs,v]/\M a=some (.eX (.vA kvs))/\kvs.length<sizeLine/\(∀u,lZ kvs bs=some u->Q u M)/\(lZ kvs bs=none->Q v (ag M a (.eX (.vA (kvs++[(bs,v)])))))
def we(to:bT)(t:e_):bT:=λ δ M Q=>to δ M λ d M1=>(∃a kvs,d=.ref a/\M1 a=some (.eX (.vA kvs)))/\t δ M1 λ ds M2=>yf d ds M2 Q
def Dz(hu:eU X)(ho:WE X o to)(ha:WA X (e::es) t)(gX:Ui X o "setdefault":=by rfl)(iq:YM X cL e es:=by rfl)(gW:Ud apos cL:=by rfl)(hs:oq X e es:=by rfl)(kR:vR X cL es:=by rfl):WE X (.Call (.Attribute o "setdefault" apos) (e::es) [] cL) (we to t):=by
 replace ho:=ho.h;replace ha:=ha.h;refine⟨?_⟩;refine bH (Rv PySem.F.slot_dict_setdefault PySem.F.type_dict_setdefault (zT hu) ho ha gX iq gW hs kR) ?_;rintro σ H Q ⟨δ,M,Q2,hs,hm,q,k⟩;refine⟨δ,M,_,hs,hm,q,λ x H1 d M1 hd bM t1 ⟨⟨a,kvs,e,hM⟩,q1⟩=>⟨?_,δ,M1,_,hs.mono t1,bM,q1,λ xs H2 ds M2 Jd kU t2 q2=>?_⟩⟩
 ·subst e;cases(ay.mp hd);obtain⟨xs,hx,_⟩:=bM a _ hM;exact⟨a,xs,rfl,hx⟩
 ·obtain⟨a',cT,bs,v,e2,e3,hM2,hz,q3,q4⟩:=q2;subst e2;subst e3;cases(ay.mp hd);obtain⟨x1,r1,rfl,Tf,IY⟩:=af.mp Jd;obtain⟨x2,r2,rfl,Nq,S5⟩:=af.mp IY;cases(ao.mp S5);obtain⟨b,rfl,sV⟩:=CK Tf;obtain⟨ys,hy,rel⟩:=kU a' _ hM2;have lk:=rel.look bs;refine⟨a',b,ys,CZ bs,x2,rfl,rfl,rel.ok hy,CY bs,sV,by rw[<- C5 rel];exact hz,λ u hu=>?_,λ hn=>?_⟩
  ·rw[hu]at lk;cases el:lZ cT bs with
   |none=>rw[el]at lk;exact(show False from lk).elim
   |some d'=>rw[el]at lk;exact k _ H2 d' M2 lk kU (t1.trans t2) (q3 d' el)
  ·rw[hn]at lk;cases el:lZ cT bs with
   |some d'=>rw[el]at lk;exact(show False from lk).elim
   |none=>
    have pt:iM ys (CZ bs) b x2=ys++[(CZ bs,b,x2)]:=by unfold iM;rw[hn];rfl
    rw[pt];have t:=ar.mut (o:=oD a' (ys++[(CZ bs,b,x2)])) hy (λ _ z=>by cases z) (λ _ _ z=>by cases z);exact k _ _ _ _ (sB.mono t _ Nq) (kU.put (u:=.eX (.vA (cT++[(bs,v)]))) t ⟨_,aQ,Ot.mono t (Paired.snoc rel ⟨rfl,Tf,Nq⟩)⟩) ((t1.trans t2).trans t) (q4 el)
def Bm:bT:=λ _ M Q=>∀p,M p=none->Q (.ref p) (ag M p (.eX (.vA [])))
def FG:WE X (.Dict [] [] pos) Bm:=by refine⟨?_⟩;refine bH wL ?_;rintro σ H Q ⟨δ,M,Q2,hs,hm,q,k⟩ p hp;exact k _ _ (.ref p) _ (ay.mpr rfl) (hm.put (u:=.eX (.vA [])) (ar.laid hp) ⟨[],aQ,.nil⟩) (ar.laid hp) (q p (hm.free hp))
end
end L3
namespace L4
open L2 L3
def zB{t:e_}{Q:bF}(h:to δ M λ d M1=>(∃a kvs,d=.ref a/\M1 a=some (.eX (.vA kvs)))/\t δ M1 λ ds M2=>yf d ds M2 Q):we to t δ M Q:=h
def DM{Q:bF}(h:∀p,M p=none->Q (.ref p) (ag M p (.eX (.vA [])))):Bm δ M Q:=h
end L4
namespace KK
open L3 L4 L5
open L2 hiding aL gF
def FR(r q:List Row)(i:Nat)(p:Nat×Nat):Nat×Nat:=(ax r i p.1,ax q i p.2)
def Pr(r q:List Row)(h x y v:Nat):Prop:=jY (FR r q) h (0,x) (y,v)
def wG{q:List Row}(G:cz m h r)(T:Tb m2 h q){x:Nat}(hx:x<m2){p:Nat×Nat}(R:jY (FR r q) h (0,x) p):p.1<m/\p.2<m2:=by
 induction R with
 |zero=>exact⟨G.tb.pos,hx⟩
 |step R hi ih=>exact⟨G.fI.cl _ _ hi ih.1,T.mN hi _ ih.2⟩
def VH{q:List Row}(G:cz m h r)(x:Nat)(hy:y<m):∃v,Pr r q h x y v:=by
 have:∀y,jY (ax r) h 0 y->∃v,Pr r q h x y v:=λ y R=>by
  induction R with
  |zero=>exact⟨x,.zero⟩
  |step R hi ih=>obtain⟨v,hv⟩:=ih;exact⟨_,.step hv hi⟩
 exact this y (G.ud y hy)
section
variable {h:Nat}
set_option tactic.hygienic true in
def uh{p:Nat×Nat}(R:jY (FR r r) h (0,0) p):p.2=p.1:=by
 induction R with
 |zero=>rfl
 |step R hi ih=>rename_i s i;show ax r i s.2=ax r i s.1;rw[ih]
set_option tactic.hygienic true in
def ui(G:cz m h r){x:Nat}(hx:x<m)(hi:i<h){p:Nat×Nat}(R:jY (FR r r) h (0,ax r i x) p):∃v,Pr r r h x p.1 v/\v<m/\p.2=ax r i v:=by
 induction R with
 |zero=>exact⟨x,.zero,hx,rfl⟩
 |step R hj ih=>rename_i s j;obtain⟨v,h1,h2,h3⟩:=ih;refine⟨ax r j v,.step h1 hj,G.fI.cl _ _ hj h2,?_⟩;show ax r j s.2=_;rw[h3,G.fI.cm v j i hj hi h2]
set_option tactic.hygienic true in
def Ri(G:cz m h r):∀{x:Nat},jY (ax r) h 0 x->∀y v,Pr r r h x y v->Pr r r h y x v:=λ{x} R=>by
 induction R with
 |zero=>intro y v P;have:=uh P;cases(show v=y from this);exact .zero
 |step R hi ih=>rename_i s i;intro y v P;have hs:s<m:=R.ok G.fI G.tb.pos;obtain⟨v0,h1,h2,h3⟩:=ui G hs hi P;have:=jY.step (ih y v0 h1) hi;rw[show v=ax r i v0 from h3];exact this
set_option tactic.hygienic true in
def LY(G:cz m h r):∀{x:Nat},jY (ax r) h 0 x->∀y v v',Pr r r h x y v->Pr r r h x y v'->v=v':=λ{x} R=>by
 induction R with
 |zero=>intro y v v' P P';rw[show v=y from uh P,show v'=y from uh P']
 |step R hi ih=>rename_i s i;intro y v v' P P';have hs:s<m:=R.ok G.fI G.tb.pos;obtain⟨v0,h1,h2,h3⟩:=ui G hs hi P;obtain⟨v1,g1,g2,g3⟩:=ui G hs hi P';rw[show v=ax r i v0 from h3,show v'=ax r i v1 from g3,ih y v0 v1 h1 g1]
noncomputable def mul(r:List Row)(h x y:Nat):Nat:=Classical.epsilon λ v=>Pr r r h x y v
def zR(G:cz m h r){x:Nat}(hy:y<m):Pr r r h x y (mul r h x y):=by exact Classical.epsilon_spec (VH G x hy)
def mX(G:cz m h r){x v:Nat}(hx:x<m)(P:Pr r r h x y v):v=mul r h x y:=LY G (G.ud x hx) y v _ P (zR G (wG G G.tb hx P).1)
def mul_0(G:cz m h r){x:Nat}(hx:x<m):mul r h x 0=x:=(mX G hx .zero).symm
def uB(G:cz m h r){x:Nat}(hx:x<m)(hy:y<m)(hi:i<h):mul r h x (ax r i y)=ax r i (mul r h x y):=(mX G hx (.step (zR G hy) hi)).symm
def BL(G:cz m h r){x:Nat}(hx:x<m)(hy:y<m):mul r h x y=mul r h y x:=mX G hy (Ri G (G.ud x hx) y _ (zR G hy))
def BJ(G:cz m h r){x:Nat}(hx:x<m)(hy:y<m)(hi:i<h):mul r h (ax r i x) y=ax r i (mul r h x y):=by rw[BL G (G.fI.cl _ _ hi hx) hy,uB G hy hx hi,BL G hy hx]
def BK(G:cz m h r){x:Nat}(hx:x<m)(hi:i<h):∀(n y:Nat),y<m->f_ (ax r i) n (mul r h x y)=mul r h x (f_ (ax r i) n y)
 |0,y,_=>rfl
 |n+1,y,hy=>by show f_ (ax r i) n (ax r i (mul r h x y))=mul r h x (f_ (ax r i) n (ax r i y));rw[<- uB G hx hy hi];exact BK G hx hi n _ (G.fI.cl _ _ hi hy)
def BI(G:cz m h r){x:Nat}(hx:x<m):∀(cs:Row)(i y:Nat),i+cs.length<=h->y<m->lE r i (mul r h x y) cs=mul r h x (lE r i y cs)
 |[],i,y,_,_=>rfl
 |c::cs,i,y,hl,hy=>by rw[y6]at hl;show lE r (i+1) (f_ (ax r i) c.toNat (mul r h x y)) cs=mul r h x (lE r (i+1) (f_ (ax r i) c.toNat y) cs);rw[BK G hx () _ y hy];exact BI G hx cs (i+1) _ () (qA (G.tb.mN ()) _ _ hy)
def KH(G:cz m h r){x:Nat}(hx:x<m){cs:Row}(hl:cs.length=h):lE r 0 x cs=mul r h x (lE r 0 0 cs):=by
 have:=BI G hx cs 0 0 () G.tb.pos
 rwa [mul_0 G hx]at this
end
structure Dh(r q:List Row)(h x:Nat)(kv:List (Nat×Nat))(ws:List Nat):Prop where
 nd:(kv.map (·.1)).Nodup
 pr:∀e∈kv,Pr r q h x e.1 e.2
 gp:(0,x)∈kv
 wt:∀y∈ws,y∈kv.map (·.1)
 dn:∀y∈kv.map (·.1),y∉ws->∀i,i<h->ax r i y∈kv.map (·.1)
section
variable {h m2 x:Nat}{q:List Row}{ws:List Nat}
def Dh.start(r q:List Row)(h x:Nat):Dh r q h x [(0,x)] [0]:=⟨by simp,λ e he=>by rw[q8.mp he];exact .zero,by simp,λ y hy=>by simpa using hy,λ y hy n=>be (by simpa using hy) (by simpa using n)⟩
def Dh.gw(G:cz m h r)(T:Tb m2 h q)(hx:x<m2)(c:Dh r q h x kv ws):kv.length<=m:=by
 have:=bv c.nd (l₂:=List.range m) λ y hy=>by obtain⟨e,he,rfl⟩:=D8.mp hy;exact dL.mpr (wG G T hx (c.pr e he)).1
 rwa [B3,x4]at this
def Dh.all(G:cz m h r)(c:Dh r q h x kv [])(hy:y<m):y∈kv.map (·.1):=by
 have:∀y,jY (ax r) h 0 y->y∈kv.map (·.1):=λ y R=>by
  induction R with
  |zero=>exact D8.mpr ⟨_,c.gp,rfl⟩
  |step R hi ih=>exact c.dn _ ih (by simp) _ hi
 exact this y (G.ud y hy)
end
structure rP(r q:List Row)(h x:Nat)(kv:List (Nat×Nat))(ws:List Nat)(y v i:Nat):Prop where
 nd:(kv.map (·.1)).Nodup
 pr:∀e∈kv,Pr r q h x e.1 e.2
 gp:(0,x)∈kv
 wt:∀y∈ws,y∈kv.map (·.1)
 dn:∀z∈kv.map (·.1),z∉ws->z≠y->∀i,i<h->ax r i z∈kv.map (·.1)
 at':(y,v)∈kv
 so:∀j,j<i->ax r j y∈kv.map (·.1)
section
variable {h x v:Nat}{q:List Row}{ws:List Nat}
def Dh.pop(c:Dh r q h x kv (ws++[y])):∃v,rP r q h x kv ws y v 0:=by obtain⟨e,he,rfl⟩:=D8.mp (c.wt y (by simp));exact⟨e.2,c.nd,c.pr,c.gp,λ z hz=>c.wt z (k9 _ hz),λ z hz n ne=>c.dn z hz (by rw[B4,q8];exact λ o=>o.elim n ne),he,λ j hj=>be hj ()⟩
def rP.old(c:rP r q h x kv ws y v i)(hn:ax r i y∈kv.map (·.1)):rP r q h x kv ws y v (i+1):=
 ⟨c.nd,c.pr,c.gp,c.wt,c.dn,c.at',λ j hj=>by
  by_cases z:j=i
  ·rw[z];exact hn
  ·exact c.so j ()⟩
def rP.new(c:rP r q h x kv ws y v i)(hi:i<h)(hn:ax r i y∉kv.map (·.1)):rP r q h x (kv++[(ax r i y,ax q i v)]) (ws++[ax r i y]) y v (i+1):=by
 have up:∀z,z∈kv.map (·.1)->z∈(kv++[(ax r i y,ax q i v)]).map (·.1):=λ z hz=>by rw[B5];exact k9 _ hz
 have nw:ax r i y∈(kv++[(ax r i y,ax q i v)]).map (·.1):=by simp
 refine⟨?_,λ e he=>?_,k9 _ c.gp,λ z hz=>?_,λ z hz n ne j hj=>?_,k9 _ c.at',λ j hj=>?_⟩
 ·rw[B5];exact nodup_append.mpr ⟨c.nd,by simp,λ a ha b hb z=>hn (by rw[z,q8.mp hb]at ha;exact ha)⟩
 ·rcases B4.mp he with he|he
  ·exact c.pr e he
  ·rw[q8.mp he];exact jY.step (c.pr _ c.at') hi
 ·rcases B4.mp hz with hz|hz
  ·exact up z (c.wt z hz)
  ·rw[q8.mp hz];exact nw
 ·rw[B4,q8,not_or]at n;rw[B5]at hz;rcases B4.mp hz with hz|hz
  ·exact up _ (c.dn z hz n.1 ne j hj)
  ·exact be (by simpa using hz) n.2
 ·by_cases z:j=i
  ·rw[z];exact nw
  ·exact up _ (c.so j ())
def rP.done(c:rP r q h x kv ws y v h):Dh r q h x kv ws:=
 ⟨c.nd,c.pr,c.gp,c.wt,λ z hz n i hi=>by
  by_cases e:z=y
  ·rw[e];exact c.so i hi
  ·exact c.dn z hz n e i hi⟩
end
structure Crd(m:Nat)(r q:List Row)(h x:Nat)(kv:List (Nat×Nat)):Prop where
 nd:(kv.map (·.1)).Nodup
 pr:∀e∈kv,Pr r q h x e.1 e.2
 all:∀y,y<m->∃v,(y,v)∈kv
 gw:kv.length<=m
 gp:(0,x)∈kv
def Dh.crd{x:Nat}{q:List Row}(G:cz m h r)(T:Tb m2 h q)(hx:x<m2)(c:Dh r q h x kv []):Crd m r q h x kv:=
 ⟨c.nd,c.pr,λ y hy=>by
  obtain⟨e,he,e2⟩:=D8.mp (c.all G hy);subst e2;exact⟨e.2,he⟩,c.gw G T hx,c.gp⟩
def cU(ls:Row)(x:Nat):Bool:=decide ((x:Int)∈ls)
noncomputable def vM(m:Nat)(r:List Row)(h:Nat)(ls:Row)(x:Nat):List Bool:=(List.range m).map λ y=>cU ls (mul r h x y)
noncomputable def ia(m:Nat)(r:List Row)(h:Nat)(ls:Row):List (List Bool):=(List.range m).map (vM m r h ls)
def dG{x:Nat}(hx:x<m):(ia m r h ls)[x]?=some (vM m r h ls x):=by unfold ia;rw[u6,l9 hx];rfl
def Ip{x:Nat}(hy:y<m):(vM m r h ls x)[y]?=some (cU ls (mul r h x y)):=by unfold vM;rw[u6,l9 hy];rfl
def uJ{x z:Nat}:vM m r h ls x=vM m r h ls z↔∀y,y<m->cU ls (mul r h x y)=cU ls (mul r h z y):=by
 constructor
 ·intro e y hy;have:=Ip (r:=r) (h:=h) (ls:=ls) (x:=x) hy;rw[e,Ip hy]at this;exact(B0 this).symm
 ·intro e;unfold vM;exact n9 λ y hy=>e y (dL.mp hy)
def fT(ls:Row)(G:cz m h r):XI m h r (jI (ia m r h ls)):=by
 have tl:(ia m r h ls).length=m:=by simp[ia]
 have tt:∀x z,x<m->z<m->(kd (jI (ia m r h ls)) x=kd (jI (ia m r h ls)) z↔vM m r h ls x=vM m r h ls z):=λ x z hx hz=>by
  constructor
  ·intro e;have a:=mT (dG (r:=r) (h:=h) (ls:=ls) hx);rw[e,mT (dG hz)]at a;exact(B0 a).symm
  ·intro e;rw[kL (dG hx),kL (dG hz),e]
 have lt:∀x,x<m->kd (jI (ia m r h ls)) x<m:=λ x hx=>by have:=(c7.mp (mT (dG (r:=r) (h:=h) (ls:=ls) hx))).1;lia
 refine⟨by rw[oX];exact tl,lt,λ x hx=>?_,?_,λ x z i hx hz hi e=>?_⟩
 ·refine(tt _ _ (lt x hx) hx).mpr ?_;have a:=mT (dG (r:=r) (h:=h) (ls:=ls) hx);rw[dG (lt x hx)]at a;exact B0 a
 ·rw[kL (dG G.tb.pos)];have a:=dG (r:=r) (h:=h) (ls:=ls) G.tb.pos;cases hc:ia m r h ls with
  |nil=>rw[hc]at tl;have:=G.tb.pos;simp at tl;lia
  |cons t l=>rw[hc]at a;rw[<- B0 a];exact xB t l
 ·rw[tt _ _ (G.fI.cl _ _ hi hx) (G.fI.cl _ _ hi hz)];rw[tt x z hx hz,uJ]at e;refine uJ.mpr λ y hy=>?_;rw[BJ G hx hy hi,BJ G hz hy hi,<- uB G hx hy hi,<- uB G hz hy hi];exact e _ (G.fI.cl _ _ hi hy)
def O7{x z:Nat}(hx:x<m)(hz:z<m):kd (jI (ia m r h ls)) x=kd (jI (ia m r h ls)) z↔vM m r h ls x=vM m r h ls z:=by
 constructor
 ·intro e;have a:=mT (dG (r:=r) (h:=h) (ls:=ls) hx);rw[e,mT (dG hz)]at a;exact(B0 a).symm
 ·intro e;rw[kL (dG hx),kL (dG hz),e]
structure q_(m h:Nat)(r:List Row)(ls:Row)(m2:Nat)(q:List Row)(dF:Row)(g:Nat->Nat):Prop where
 lt:∀x,x<m->g x<m2
 gp:g 0=0
 st:∀x i,x<m->i<h->g (ax r i x)=ax q i (g x)
 ls:∀x,x<m->cU ls x=cU dF (g x)
section
variable {h m2:Nat}{q:List Row}{dF:Row}{g:Nat->Nat}
set_option tactic.hygienic true in
def q_.pr(G:cz m h r)(H:q_ m h r ls m2 q dF g){p:Nat×Nat}(R:jY (FR r q) h (0,0) p):p.2=g p.1:=by
 have:p.1<m/\p.2=g p.1:=by
  induction R with
  |zero=>exact⟨G.tb.pos,H.gp.symm⟩
  |step R hi ih=>rename_i s i;refine⟨G.fI.cl _ _ hi ih.1,?_⟩;show ax q i s.2=g (ax r i s.1);rw[H.st _ _ ih.1 hi,ih.2]
 exact this.2
def q_.f_(G:cz m h r)(H:q_ m h r ls m2 q dF g)(hi:i<h):∀(n x:Nat),x<m->g (f_ (ax r i) n x)=KK.f_ (ax q i) n (g x)
 |0,x,_=>rfl
 |n+1,x,hx=>by show g (KK.f_ (ax r i) n (ax r i x))=KK.f_ (ax q i) n (ax q i (g x));rw[q_.f_ G H hi n _ (G.fI.cl _ _ hi hx),H.st x i hx hi]
def q_.lE(G:cz m h r)(H:q_ m h r ls m2 q dF g):∀(cs:Row)(i x:Nat),i+cs.length<=h->x<m->g (lE r i x cs)=KK.lE q i (g x) cs
 |[],i,x,_,_=>rfl
 |c::cs,i,x,hl,hx=>by rw[y6]at hl;show g (KK.lE r (i+1) (KK.f_ (ax r i) c.toNat x) cs)=KK.lE q (i+1) (KK.f_ (ax q i) c.toNat (g x)) cs;rw[q_.lE G H cs (i+1) _ () (qA (G.tb.mN ()) _ _ hx),H.f_ G () _ _ hx]
def q_.Zr(G2:cz m2 h q)(H:q_ m h r ls m2 q dF g)(G:cz m h r){d:Nat}(hd:d<m2):∃x,x<m/\g x=d:=by
 have:∀d,jY (ax q) h 0 d->∃x,x<m/\g x=d:=λ d R=>by
  induction R with
  |zero=>exact⟨0,G.tb.pos,H.gp⟩
  |step R hi ih=>obtain⟨x,hx,rfl⟩:=ih;exact⟨_,G.fI.cl _ _ hi hx,H.st x _ hx hi⟩
 exact this d (G2.ud d hd)
def q_.le(G2:cz m2 h q)(H:q_ m h r ls m2 q dF g)(G:cz m h r):m2<=m:=by
 have:=bv (nodup_range (n:=m2)) (l₂:=(List.range m).map g) λ d hd=>by obtain⟨x,hx,e⟩:=H.Zr G2 G (dL.mp hd);exact D8.mpr ⟨x,dL.mpr hx,e⟩
 rwa [x4,B3,x4]at this
end
structure Lst(m h:Nat)(r:List Row)(ls:Row)(aD:List Nat)(kt:List Row)(dF:Row):Prop where
 ex:mJ (λ i s=>kd (jI (ia m r h ls)) (ax r i s)) 0 h (List.range m) aD kt
 len:kt.length=aD.length
 Kb:lA aD.length dF
 mem:∀d s,aD[d]?=some s->cU dF d=cU ls s
section
variable {h:Nat}{aD:List Nat}{dF:Row}
def Lst.tb(G:cz m h r)(L:Lst m h r ls aD kt dF):cz aD.length h kt:=by
 have:=L.ex.tb ((fT ls G).fI G) ⟨G.tb.pos,(fT ls G).gp⟩ L.len (by rw[x4];exact G.tb.gw) G.tb.xP
 rwa [L.len]at this
def Lst.all(G:cz m h r)(L:Lst m h r ls aD kt dF){x:Nat}(hx:x<m):kd (jI (ia m r h ls)) x∈aD:=by
 have k:=fT ls G;have:∀s,jY (λ i s=>kd (jI (ia m r h ls)) (ax r i s)) h 0 s->s∈aD:=λ s R=>by
  induction R with
  |zero=>exact k8 L.ex.gp
  |step R hi ih=>obtain⟨d,hd⟩:=ga ih;exact k8 (L.ex.at L.len hd hi)
 exact this _ (k.rcd G (G.ud x hx)).2
noncomputable def goL(m h:Nat)(r:List Row)(ls:Row)(aD:List Nat)(x:Nat):Nat:=aD.idxOf (kd (jI (ia m r h ls)) x)
def Lst.go(G:cz m h r)(L:Lst m h r ls aD kt dF){x:Nat}(hx:x<m):aD[goL m h r ls aD x]?=some (kd (jI (ia m r h ls)) x):=fU (L.all G hx)
def Lst.lsk{x:Nat}(G:cz m h r)(hx:x<m):cU ls (kd (jI (ia m r h ls)) x)=cU ls x:=by
 have k:=fT ls G;have e:=(O7 (ls:=ls) (k.lt x hx) hx).mp (k.SY x hx);have:=uJ.mp e 0 G.tb.pos
 rwa [mul_0 G (k.lt x hx),mul_0 G hx]at this
def Lst.hom(G:cz m h r)(L:Lst m h r ls aD kt dF):q_ m h r ls aD.length kt dF (goL m h r ls aD):=by
 have k:=fT ls G;refine⟨λ x hx=>(c7.mp (L.go G hx)).1,?_,λ x i hx hi=>?_,λ x hx=>?_⟩
 ·refine qp L.ex.nd (L.go G G.tb.pos) ?_;rw[k.gp];exact L.ex.gp
 ·refine qp L.ex.nd (L.go G (G.fI.cl _ _ hi hx)) ?_;have:=L.ex.at L.len (L.go G hx) hi
  rwa [k.U8 _ x i (k.lt x hx) hx hi (k.SY x hx)]at this
 ·rw[L.mem _ _ (L.go G hx),Lst.lsk G hx]
end
end KK
namespace L4
open L2 L3
def vV{p:Pos}{t:e_}(h1:X.prog=P)(h2:X.w=w)(h3:X.K=K)(h4:X.mg=mg)(h5:X.base=base)(hr:cw k X.A)(hi:X.N[i]?=some x)(hv:T8 X.env.scope x)(ha:WA X (e::es) t)(hd:rj x:=by decide)(sW:XE x:=by decide)(he:oq X e es:=by rfl)(gb:vR X pos es:=by rfl):WE X (.Call (.Name x p) (e::es) [] pos) (Zg P w K mg base k i t):=by subst h1;subst h2;subst h3;subst h4;subst h5;exact AX hr hi hv ha hd sW he gb
end L4
namespace L2
open PySem.Spec PyProof.Rows
structure rf(P:Program)(w:World)(K:K6)(mg:Str->Option gV)(base:Heap)(k:Nat)(x:Str)(ps:List Str)(sp:Sp):Prop where
 ex:∃(f:ap)(fd:FuncData),bB P w K mg base dX k f fd ps sp/\mg x=some (.ref f)/\PySem.W.keepIn K (.ref f)=true/\Binds K fd ps [.none]
def rf.VU(F:jZ K x qual st dV c f fd)(G:bB P w K mg base dX k f fd ps sp)(hm:mg x=some (.ref f))(b:Binds K fd ps [.none]):rf P w K mg base k x ps sp:=⟨f,fd,G,hm,F.kp,b⟩
def jZ.TZ(F:jZ K x qual st dV c f fd)(hn:ps.length=n+1)(h:∀(kV doc pm:gV)(an:Option ap)(ct:gV)(s:am),K.In s.heap->∀(us:List gV),us.length=n->BindsTo s (PySem.W.fnOf x qual (bW st) (bw st) (aB st) dV kV doc pm an (.ref c) ct) ⟨us,[]⟩ (ps.zip (us++[.none]))):Binds K fd ps [.none]:=
 F.binds λ kV doc pm an ct s hk us hl=>h kV doc pm an ct s hk us (by rw[p4,j9]at hl;lia)
section
variable {p:Pos}
def Mc(d:rf X.prog X.w X.K X.mg X.base k x ps sp)(hr:cw k X.A)(hg:Gl X x)(ha:PA X (e::es) t)(oC:rj x:=by decide)(he:oq X e es:=by rfl)(gb:vR X pos es:=by rfl):PE X (.Call (.Name x p) (e::es) [] pos) (λ σ H Q=>t σ H λ vs H1=>sp (vs++[.bo]) H1 Q E0):=by obtain⟨f,fd,G,hm,kp,b⟩:=d.ex;exact BF (E:=E0) G hr hg hm kp b (.cons rfl .nil) OZ ha oC he gb
end
end L2
namespace L3
open PySem.Spec PyProof.Rows L2 L5
def sDD(sp:dW)(t:e_):bT:=λ δ M Q=>t δ M λ ds M1=>sp (ds++[.bo]) M1 Q
abbrev PL(P:Program)(w:World)(K:K6)(mg:Str->Option gV)(base:Heap)(k:Nat)(x:Str)(ps:List Str)(sp:dW):Prop:=rf P w K mg base k x ps (bZ K sp)
def tj:∀{ds:List D} {vs:List V} {d:D} {v:V},aA K H ds vs->sB K H d v->aA K H (ds++[d]) (vs++[v])
 |[],vs,d,v,h,g=>by cases(ao.mp h);exact af.mpr ⟨v,[],rfl,g,ao.mpr rfl⟩
 |a::ds,vs,d,v,h,g=>by obtain⟨x,r,rfl,h1,h2⟩:=af.mp h;exact af.mpr ⟨x,r++[v],rfl,h1,tj h2 g⟩
def P0{p:Pos}{t:e_}{sp:dW}(d:PL X.prog X.w X.K X.mg X.base k x ps sp)(ha:WA X (e::es) t)(hr:cw k X.A:=by exact hr.mono (by first|decide|lia))(hg:Gl X x:=by rfl)(oC:rj x:=by decide)(he:oq X e es:=by rfl)(gb:vR X pos es:=by rfl):WE X (.Call (.Name x p) (e::es) [] pos) (sDD sp t):=by replace ha:=ha.h;refine⟨?_⟩;refine bH (Mc d hr hg ha oC he gb) ?_;rintro σ H Q ⟨δ,M,Q2,hs,hm,q,k⟩;exact⟨δ,M,_,hs,hm,q,λ xs H1 ds M1 hd bM t1 q1=>⟨ds++[.bo],M1,Q2,tj hd (dv.mpr rfl),bM,q1,k.mono t1⟩⟩
end L3
namespace L4
open L2 L3
def Vs{sp:dW}{t:e_}{Q:bF}(h:t δ M λ ds M1=>sp (ds++[.bo]) M1 Q):sDD sp t δ M Q:=h
end L4
namespace L3
open L2
def xo{C:CM}(h:ff ps fv L.scope=true)(hl:cs.length=fv.length)(Cn:∀(i:Nat)(x:Str),fv[i]?=some x->∃j,(x,j)∈cn/\∀d,cs[i]?=some d->δ[j]?=some (some d))(hC:JV cells cn δ C)(hM:M lf=some (.eX (.lam L (bp cells L.scope.names []))))(hn:∀b d,C b=some d->M b=none):oJ (g_ M C) lf L fv cs C:=by
 unfold ff at h;simp only[A0,A3]at h;obtain⟨⟨_,h5⟩,h6⟩:=h;have fr:∀x,(x,NameKind.free)∈L.scope.names->x∈fv:=λ x hx=>by simpa using(h6 _ hx).2
 have Nl:∀x∈fv,∃j,(x,j)∈cn:=λ x hx=>by obtain⟨i,hi⟩:=ga hx;obtain⟨j,hj,_⟩:=Cn i x hi;exact⟨j,hj⟩
 have hc:∀n,(n,NameKind.free)∈L.scope.names->∃c,cells.lookup n=some c:=λ n hx=>by obtain⟨j,hj⟩:=Nl n (fr n hx);obtain⟨b,_,e,_⟩:=hC.has n j hj;exact⟨b,e⟩
 have look:=fX (cells:=cells) L.scope.names [] hc λ x c e=>by simp at e
 have free:=λ x c e=>(iz (cells:=cells) L.scope.names [] x c e).elim (fr x) λ z=>by simp at z
 have NB:C lf=none:=by
  rcases cJ C lf with z|⟨d,z⟩
  ·exact z
  ·rw[hn lf d z]at hM;cases hM
 refine⟨⟨bp cells L.scope.names [],by rw[iB NB];exact hM,λ x y b e1 e2=>?_,λ x b e=>⟨free x b e,?_⟩,λ i x d ex ed=>?_⟩,hl,λ b d e=>mG e⟩
 ·obtain⟨j,hj⟩:=Nl x (free x b e1);obtain⟨i,hi⟩:=Nl y (free y b e2);exact hC.inj x j y i b hj hi (look x b e1) (look y b e2)
 ·obtain⟨j,hj⟩:=Nl x (free x b e);obtain⟨b',d,e1,_,e3⟩:=hC.has x j hj;rw[look x b e]at e1;cases e1;exact⟨d,e3⟩
 ·obtain⟨j,hj,hd⟩:=Cn i x ex;have hm:(x,NameKind.free)∈L.scope.names:=m8 (by simpa using h5 _ (k8 ex));obtain⟨b,hb⟩:=Option.isSome_iff_exists.mp (gZ (cells:=cells) L.scope.names [] hm);obtain⟨b',d',e1,e2,e3⟩:=hC.has x j hj;rw[look _ b hb]at e1;cases e1;rw[hd d ed]at e2;cases e2;exact⟨b,hb,e3⟩
def oJ.no{C:CM}(h:oJ M f L fv cs C)(e:∀b o,M b=some o->M1 b=some o)(ha:M1 a=some (.lst ds)):fi M1 C a=some (.lst ds):=by
 rcases cJ C a with z|⟨d,z⟩
 ·rw[my z];exact ha
 ·have:=e _ _ (h.vh a d z);rw[ha]at this;cases this
end L3
namespace KK
open L3 L4 L5
open L2 hiding aL gF
def ug(r:List Row)(ls:Row)(x y:Nat)(p:Cs):Prop:=cU ls (aP (ax r) 0 x p)≠cU ls (aP (ax r) 0 y p)
structure LP(h:Nat)(r:List Row)(ls:Row)(x y:Nat)(p:Cs):Prop where
 len:p.length=h
 par:ug r ls x y p
 low:∀q:Cs,q.length=h->Ah q p->¬ug r ls x y q
section
variable {h:Nat}{x:Nat}
def eN(G:cz m h r)(hx:x<m){p:Cs}(hp:p.length=h):aP (ax r) 0 x p=mul r h x (aP (ax r) 0 0 p):=by
 have:=KH G hx (cs:=p.map λ v:Nat=>(v:Int)) (by rw[B3];exact hp)
 rwa [dH,dH]at this
def dB(G:cz m h r)(hx:x<m){p:Cs}(hp:p.length=h):aP (ax r) 0 x p<m:=G.fI.aP p 0 x () hx
def mS(G:cz m h r)(hx:x<m)(hy:y<m){p q:Cs}(hp:p.length=h)(hq:q.length=h)(e:aP (ax r) 0 0 p=aP (ax r) 0 0 q):ug r ls x y p↔ug r ls x y q:=by unfold ug;rw[eN G hx hp,eN G hy hp,eN G hx hq,eN G hy hq,e]
def Cw(G:cz m h r)(F:yM (ax r) 0 h m lm){q:Cs}(fq:gO (ax r) 0 h q):∃(j:Nat)(e:Cs×Nat),lm[j]?=some e/\e.1=q:=by
 have len:=F.len G;have lt:∀e∈lm,e.2<m:=λ e he=>by have:=F.eY.ent e he;rw[<- this.2];exact G.fI.aP e.1 0 0 (by rw[this.1.1];lia) G.tb.pos
 have nd:=F.eY.nd;have tq:aP (ax r) 0 0 q<m:=dB G G.tb.pos fq.1;have mem:aP (ax r) 0 0 q∈lm.map (·.2):=by
  refine Decidable.byContradiction λ n=>?_;have:=bv (nodup_cons.mpr ⟨n,nd⟩) (l₂:=List.range m) λ z hz=>by
   rcases C9.mp hz with rfl|hz
   ·exact dL.mpr tq
   ·obtain⟨e,he,rfl⟩:=D8.mp hz;exact dL.mpr (lt e he)
  rw[y6,B3,x4]at this;lia
 obtain⟨e,he,ee⟩:=D8.mp mem;obtain⟨j,hj⟩:=ga he;have a:=F.eY.ent e he;exact⟨j,e,hj,a.1.uniq fq (by rw[a.2,ee])⟩
def zK(G:cz m h r)(F:yM (ax r) 0 h m lm)(hx:x<m)(hy:y<m){e:Cs×Nat}(he:lm[j]?=some e)(hp:ug r ls x y e.1)(T5:∀(i:Nat)(d:Cs×Nat),i<j->lm[i]?=some d->¬ug r ls x y d.1):LP h r ls x y e.1:=by
 have a:=F.eY.ent e (k8 he);refine⟨a.1.1,hp,λ q hq hA pq=>?_⟩;obtain⟨p',f',e',o'⟩:=gO.ex (ax r) 0 h hq;have pp:ug r ls x y p':=(mS G hx hy f'.1 hq e').mpr pq;have Ap:Ah p' e.1:=by
  rcases o' with rfl|o'
  ·exact hA
  ·exact o'.trans hA
 obtain⟨i,d,hd,rfl⟩:=Cw G F f';rcases Nat.lt_trichotomy i j with z|z|z
 ·exact T5 i d z hd pp
 ·subst z;rw[hd]at he;cases he;exact Ap.Yb
 ·exact(F.eY.at he hd z).not Ap
def DU(G:cz m h r)(F:yM (ax r) 0 h m lm)(hx:x<m)(hy:y<m)(no:∀(i:Nat)(d:Cs×Nat),lm[i]?=some d->¬ug r ls x y d.1):∀q:Cs,q.length=h->¬ug r ls x y q:=λ q hq pq=>by obtain⟨p',f',e',o'⟩:=gO.ex (ax r) 0 h hq;obtain⟨i,d,hd,rfl⟩:=Cw G F f';exact no i d hd ((mS G hx hy f'.1 hq e').mpr pq)
def EZ(G:cz m h r)(hx:x<m)(hy:y<m):(∀q:Cs,q.length=h->¬ug r ls x y q)↔∀z,z<m->cU ls (mul r h x z)=cU ls (mul r h y z):=by
 constructor
 ·intro no z hz;obtain⟨p,hp,e⟩:=(G.ud z hz).sum G.fI G.tb.pos;have:=no p hp;unfold ug at this;rw[eN G hx hp,eN G hy hp,e]at this;exact Decidable.not_not.mp this
 ·intro al q hq pq;unfold ug at pq;rw[eN G hx hq,eN G hy hq]at pq;exact pq (al _ (dB G G.tb.pos hq))
end
section
variable {h x:Nat}{p:Cs}
def LP.fst(G:cz m h r)(hx:x<m)(hy:y<m)(a:LP h r ls x y p):gO (ax r) 0 h p:=⟨a.len,λ q hq hA e=>a.low q hq hA ((mS G hx hy hq a.len e).mpr a.par)⟩
def LP.gw(G:cz m h r)(hx:x<m)(hy:y<m)(a:LP h r ls x y p):p.sum<m:=by
 have:=(a.fst G hx hy).gw G.fI G.tb.pos (U:=List.range m) (λ s hs=>dL.mpr hs)
 rwa [x4]at this
end
def oS(p q:Cs):Cs:=List.zipWith (·+·) p q
def zo{R:α->α->Prop}(as:∀a b,R a b->¬R b a):∀{a b:List α},a.Pairwise R->b.Pairwise R->(∀x,x∈a↔x∈b)->a=b
 |[],[],_,_,_=>rfl
 |[],y::b,_,_,h=>be ((h y).mpr o7) (by simp)
 |x::a,[],_,_,h=>be ((h x).mp o7) (by simp)
 |x::a,y::b,ha,hb,h=>by
  obtain⟨a1,a2⟩:=pairwise_cons.mp ha;obtain⟨b1,b2⟩:=pairwise_cons.mp hb;have e:x=y:=by
   rcases C9.mp ((h x).mp o7)with z|z
   ·exact z
   ·rcases C9.mp ((h y).mpr o7)with w|w
    ·exact w.symm
    ·exact be (a1 y w) (as _ _ (b1 x z))
  subst e;rw[zo as a2 b2 λ z=>?_];constructor
  ·intro hz;rcases C9.mp ((h z).mp (k7 _ hz))with w|w
   ·subst w;exact be (a1 z hz) (as _ _ (a1 z hz))
   ·exact w
  ·intro hz;rcases C9.mp ((h z).mpr (k7 _ hz))with w|w
   ·subst w;exact be (b1 z hz) (as _ _ (b1 z hz))
   ·exact w
section
variable {S:α->Prop}{h:Nat}{F:Nat->α->α}
def Cd(f:α->α):∀(a b:Nat)(x:α),dQ f (a+b) x=dQ f b (dQ f a x)
 |0,b,x=>by rw[E8];rfl
 |a+1,b,x=>by rw[Nat.add_right_comm];exact Cd f a b (f x)
def kg.git(C:kg S h F)(hj:j<h)(cs:Cs)(i:Nat)(hl:i+cs.length<=h):∀(n:Nat)(s:α),S s->KK.aP F i (KK.dQ (F j) n s) cs=KK.dQ (F j) n (KK.aP F i s cs)
 |0,s,_=>rfl
 |n+1,s,hs=>by show KK.aP F i (KK.dQ (F j) n (F j s)) cs=KK.dQ (F j) n (F j (KK.aP F i s cs));rw[C.git hj cs i hl n _ (C.cl s j hj hs),C.gst hj cs i s hl hs]
def kg.oS(C:kg S h F):∀(p q:Cs)(i:Nat)(s:α),p.length=q.length->i+p.length<=h->S s->KK.aP F i (KK.aP F i s p) q=KK.aP F i s (KK.oS p q)
 |[],[],i,s,_,_,_=>rfl
 |c::p,d::q,i,s,e,hl,hs=>by rw[y6]at hl;have jV:=C.dQ (i:=i) () c s hs;show KK.aP F (i+1) (KK.dQ (F i) d (KK.aP F (i+1) (KK.dQ (F i) c s) p)) q=KK.aP F (i+1) (KK.dQ (F i) (c+d) s) (KK.oS p q);rw[<- C.git () p (i+1) () d _ jV,C.oS p q (i+1) _ (by simpa using e) () (C.dQ () d _ jV),Cd]
def mJ.dQ{U:List α}(e:mJ F s0 h U aD kt)(hl:kt.length=aD.length)(hi:i<h):∀(n d:Nat)(s:α),aD[d]?=some s->aD[KK.dQ (ax kt i) n d]?=some (KK.dQ (F i) n s)
 |0,d,s,hd=>hd
 |n+1,d,s,hd=>e.dQ hl hi n _ _ (e.at hl hd hi)
def mJ.aP{U:List α}(e:mJ F s0 h U aD kt)(hl:kt.length=aD.length):∀(p:Cs)(i d:Nat)(s:α),i+p.length<=h->aD[d]?=some s->aD[KK.aP (ax kt) i d p]?=some (KK.aP F i s p)
 |[],i,d,s,_,hd=>hd
 |c::p,i,d,s,hp,hd=>by rw[y6]at hp;exact e.aP hl p (i+1) _ _ () (e.dQ hl () c d s hd)
end
def Sk{a b:Row}(A:lA m a)(B:lA m b)(e:∀d,d<m->cU a d=cU b d):a=b:=by
 refine zo (R:=(· < ·)) (λ a b h1 h2=>by lia) A.1 B.1 λ x=>?_;have t:∀{a b:Row},lA m a->(∀d,d<m->cU a d=cU b d)->x∈a->x∈b:=λ{a b} A e hx=>by have:=A.2 x hx;have z:=e x.toNat ();unfold cU at z;rw[show((x.toNat:Nat):Int)=x by lia,B8 hx]at z;exact io z.symm
 exact⟨t A e,t B λ d hd=>(e d hd).symm⟩
def Kz{a:α}{b:β}{h m m':Nat}{lm:List (Cs×α)}{cO:List (Cs×β)}(E:∀p q:Cs,p.length=h->q.length=h->(aP F 0 a p=aP F 0 a q↔aP F' 0 b p=aP F' 0 b q))(T:AM F a h lm)(T':AM F' b h cO)(all:∀q,gO F a h q->q∈lm.map (·.1))(abp:∀q,gO F' b h q->q∈cO.map (·.1)):lm.map (·.1)=cO.map (·.1):=by
 have fs:∀p,gO F a h p↔gO F' b h p:=λ p=>⟨λ f=>⟨f.1,λ q hq hA e=>f.2 q hq hA ((E q p hq f.1).mpr e)⟩,λ f=>⟨f.1,λ q hq hA e=>f.2 q hq hA ((E q p hq f.1).mp e)⟩⟩;refine zo (λ a b x y=>x.not y) T.U_ T'.U_ λ p=>⟨λ z=>?_,λ z=>?_⟩
 ·obtain⟨e,he,rfl⟩:=D8.mp z;exact abp _ ((fs _).mp (T.ent e he).1)
 ·obtain⟨e,he,rfl⟩:=D8.mp z;exact all _ ((fs _).mpr (T'.ent e he).1)
def La{a:α}{b:β}{h:Nat}{S:α->Prop}{S':β->Prop}{lm:List (Cs×α)}{cO:List (Cs×β)}{U:List α}{U':List β}{dE:List Row}(E:∀p q:Cs,p.length=h->q.length=h->(aP F 0 a p=aP F 0 a q↔aP F' 0 b p=aP F' 0 b q))(C:kg S h F)(C':kg S' h F')(ha:S a)(hb:S' b)(T:AM F a h lm)(T':AM F' b h cO)(te:lm.map (·.1)=cO.map (·.1))(X:mJ F a h U (lm.map (·.2)) kt)(X':mJ F' b h U' (cO.map (·.2)) dE)(hl:kt.length=lm.length)(uS:dE.length=cO.length):kt=dE:=by
 have tl:lm.length=cO.length:=by simpa using J8 List.length te
 refine x8 λ d=>?_;by_cases hd:d<lm.length
 ·have r1:=g9 (show d<kt.length by lia);have r2:=g9 (show d<dE.length by lia);obtain⟨s,s1,R⟩:=X.row d _ r1;obtain⟨s',s2,R'⟩:=X'.row d _ r2;rw[r1,r2];refine J8 some (x8 λ j=>?_);by_cases hj:j<h
  ·obtain⟨k,k1,k2⟩:=R.at' j hj;obtain⟨k',k1',k2'⟩:=R'.at' j hj;rw[k1,k1'];have YC:∀{γ:Type} {G:Nat->γ->γ} {c:γ} {t:List (Cs×γ)} {k:Nat} {x:γ},AM G c h t->(t.map (·.2))[k]?=some x->∃p,(t.map (·.1))[k]?=some p/\p.length=h/\aP G 0 c p=x:=λ{γ G c t k x} I e=>by rw[u6]at e;obtain⟨y,hy,rfl⟩:=ce.mp e;have:=I.ent y (k8 hy);exact⟨y.1,by rw[u6,hy];rfl,this.1.1,this.2⟩
   obtain⟨p,p1,p2,p3⟩:=YC T s1;obtain⟨p',p1',p2',p3'⟩:=YC T' s2;obtain⟨q,q1,q2,q3⟩:=YC T k2;obtain⟨q',q1',q2',q3'⟩:=YC T' k2';rw[te,p1']at p1;cases p1;have e1:aP F 0 a q=aP F 0 a (inc p j):=by rw[q3,C.inc p 0 j a () () ha,p3,E8]
   have e2:aP F' 0 b q'=aP F' 0 b (inc p j):=by rw[q3',C'.inc p 0 j b () () hb,p3',E8]
   have e3:=(E q (inc p j) q2 (by rw[fh];exact p2)).mp e1;rw[te]at q1;obtain⟨y,y1,y2⟩:=ce.mp (by rw[u6]at q1;exact q1);obtain⟨y',y1',y2'⟩:=ce.mp (by rw[u6]at q1';exact q1');have f1:=T'.ent y (k8 y1);have f2:=T'.ent y' (k8 y1');have ek:k=k':=by refine(getElem?_inj (l:=cO.map (·.2)) (by rw[B3];exact(c7.mp y1).1) T'.nd).mp ?_;rw[u6,u6,y1,y1'];show some y.2=some y'.2;rw[<- f1.2,<- f2.2,show y.1=q from y2,show y'.1=q' from y2',e3,e2]
   rw[ek]
  ·rw[k5 (by rw[R.len];lia),k5 (by rw[R'.len];lia)]
 ·rw[k5 (),k5 ()]
def De(h:Nat)(r:List Row)(ls:Row)(q:List Row)(dF:Row):Prop:=∀p:Cs,p.length=h->cU ls (aP (ax r) 0 0 p)=cU dF (aP (ax q) 0 0 p)
def De.trans{q w:List Row}{dF ls3:Row}(s:De h r ls q dF)(t:De h q dF w ls3):De h r ls w ls3:=λ p hp=>(s p hp).trans (t p hp)
def q_.sam{q:List Row}{dF:Row}{g:Nat->Nat}(G:cz m h r)(H:q_ m h r ls m2 q dF g):De h r ls q dF:=λ p hp=>by have:=H.lE G (p.map λ v:Nat=>(v:Int)) 0 0 (by rw[B3];lia) G.tb.pos;rw[dH,dH,H.gp]at this;rw[<- this];exact H.ls _ (dB G G.tb.pos hp)
section
variable {h m2:Nat}{q:List Row}{dF:Row}
noncomputable def stK(m h:Nat)(r:List Row)(ls:Row)(i s:Nat):Nat:=kd (jI (ia m r h ls)) (ax r i s)
def Ct(G:cz m h r):∀(p:Cs)(i x:Nat),i+p.length<=h->x<m->aP (stK m h r ls) i (kd (jI (ia m r h ls)) x) p=kd (jI (ia m r h ls)) (aP (ax r) i x p)
 |[],i,x,_,_=>rfl
 |c::p,i,x,hp,hx=>by
  rw[y6]at hp;have K:=fT ls G;have it:∀(n y:Nat),y<m->dQ (stK m h r ls i) n (kd (jI (ia m r h ls)) y)=kd (jI (ia m r h ls)) (dQ (ax r i) n y):=by
   intro n
   induction n with
   |zero=>intro y _;rfl
   |succ n ih=>intro y hy;show dQ (stK m h r ls i) n (kd (jI (ia m r h ls)) (ax r i (kd (jI (ia m r h ls)) y)))=kd (jI (ia m r h ls)) (dQ (ax r i) n (ax r i y));rw[K.U8 _ y i (K.lt y hy) hy () (K.SY y hy),ih _ (G.fI.cl _ _ () hy)]
  show aP (stK m h r ls) (i+1) (dQ (stK m h r ls i) c (kd (jI (ia m r h ls)) x)) p=kd (jI (ia m r h ls)) (aP (ax r) (i+1) (dQ (ax r i) c x) p);rw[it c x hx,Ct G p (i+1) _ () (G.fI.dQ () c x hx)]
def tR(G:cz m h r){p:Cs}(hp:p.length=h)(Ew:p'.length=h):aP (stK m h r ls) 0 0 p=aP (stK m h r ls) 0 0 p'↔∀s:Cs,s.length=h->cU ls (aP (ax r) 0 0 (oS p s))=cU ls (aP (ax r) 0 0 (oS p' s)):=by have K:=fT ls G;have z:=Ct (ls:=ls) G p 0 0 () G.tb.pos;have z':=Ct (ls:=ls) G p' 0 0 () G.tb.pos;rw[K.gp]at z z';rw[z,z',O7 (dB G G.tb.pos hp) (dB G G.tb.pos Ew),uJ,<- EZ G (dB G G.tb.pos hp) (dB G G.tb.pos Ew)];refine forall_congr' λ s=>forall_congr' λ hs=>?_;unfold ug;rw[G.fI.oS p s 0 0 () () G.tb.pos,G.fI.oS p' s 0 0 () () G.tb.pos];exact Decidable.not_not
def K7(G:cz m h r)(G2:cz m2 h q)(s:De h r ls q dF):∀p p':Cs,p.length=h->p'.length=h->(aP (stK m h r ls) 0 0 p=aP (stK m h r ls) 0 0 p'↔aP (stK m2 h q dF) 0 0 p=aP (stK m2 h q dF) 0 0 p'):=λ p p' hp Ew=>by
 rw[tR G hp Ew,tR G2 hp Ew];refine forall_congr' λ t=>forall_congr' λ ht=>?_;have l:∀p:Cs,p.length=h->(oS p t).length=h:=λ p hp=>by unfold oS;rw[length_zipWith,hp,ht,Nat.min_self]
 rw[s _ (l p hp),s _ (l p' Ew)]
structure Fd(m h:Nat)(r:List Row)(ls:Row)(lm:List (Cs×Nat))(kt:List Row)(dF:Row):Prop where
 lst:Lst m h r ls (lm.map (·.2)) kt dF
 eY:AM (stK m h r ls) 0 h lm
 all:∀p,gO (stK m h r ls) 0 h p->p∈lm.map (·.1)
def Fd.eq{l l':Row}(G:cz m h r)(G2:cz m2 h q)(s:De h r ls q dF)(A:Fd m h r ls lm kt l)(B:Fd m2 h q dF cO dE l'):kt=dE/\l=l':=by
 have E:=K7 G G2 s;have K:=fT ls G;have K2:=fT dF G2;have te:=Kz (m:=0) (m':=0) E A.eY B.eY A.all B.all;have tl:lm.length=cO.length:=by simpa using J8 List.length te
 have a1:=A.lst.len;have b1:=B.lst.len;rw[B3]at a1 b1;refine⟨La E (K.fI G) (K2.fI G2) ⟨G.tb.pos,K.gp⟩ ⟨G2.tb.pos,K2.gp⟩ A.eY B.eY te A.lst.ex B.lst.ex a1 b1,?_⟩;have a2:=A.lst.Kb;have b2:=B.lst.Kb;rw[B3]at a2 b2;rw[<- tl]at b2;refine Sk a2 b2 λ d hd=>?_;have x1:=g9 hd;have x2:=g9 (show d<cO.length by lia);rw[A.lst.mem d lm[d].2 (by rw[u6,x1];rfl),B.lst.mem d cO[d].2 (by rw[u6,x2];rfl)];have f1:=A.eY.ent _ (A2 hd);have f2:=B.eY.ent _ (A2 (show d<cO.length by lia));have ep:lm[d].1=cO[d].1:=by have:=J8 (λ l:List Cs=>l[d]?) te;simp only[u6,x1,x2,Option.map_some,Option.some.injEq]at this;exact this
 have z:∀{m:Nat} {r:List Row} {ls:Row} {p:Cs} (G:cz m h r),p.length=h->cU ls (aP (stK m h r ls) 0 0 p)=cU ls (aP (ax r) 0 0 p):=λ{m r ls p} G hp=>by have:=Ct (ls:=ls) G p 0 0 () G.tb.pos;rw[(fT ls G).gp]at this;rw[this,Lst.lsk G (dB G G.tb.pos hp)]
 rw[<- f1.2,<- f2.2,z G f1.1.1,z G2 f2.1.1,<- ep];exact s _ f1.1.1
end
structure yL{α:Type}(aD:List α)(gU:α->Bool)(i:Nat)(ls:Row):Prop where
 Kb:lA i ls
 is:∀d x,d<i->aD[d]?=some x->cU ls d=gU x
section
variable {aD:List α}{gU:α->Bool}
def yL.nil(aD:List α)(gU:α->Bool):yL aD gU 0 []:=⟨lA.nil 0,λ d x z=>be z ()⟩
def yL.out(c:yL aD gU i ls){d:Nat}(h:i<=d):cU ls d=false:=A7 λ z=>by have:=(c.Kb.2 _ z).2;lia
def yL.yes(c:yL aD gU i ls){x:α}(hx:aD[i]?=some x)(l:gU x=true):yL aD gU (i+1) (ls++[(i:Int)]):=by
 refine⟨c.Kb.add,λ d y hd hy=>?_⟩;by_cases z:d=i
 ·subst z;rw[hx]at hy;cases hy;rw[l];exact B8 (by simp)
 ·rw[<- c.is d y () hy];have:(d:Int)≠(i:Int):=()
  simp[cU,this]
def yL.no(c:yL aD gU i ls){x:α}(hx:aD[i]?=some x)(l:gU x=false):yL aD gU (i+1) ls:=by
 refine⟨c.Kb.up,λ d y hd hy=>?_⟩;by_cases z:d=i
 ·subst z;rw[hx]at hy;cases hy;rw[l,c.out (G7 _)]
 ·exact c.is d y () hy
end
def Bb(r:List Row)(w:Nat)(ws:Cs):∀(p:Cs)(i:Nat)(s:Nat×Nat),(aP (JZ r w ws) i s p).1=aP (ax r) i s.1 p
 |[],i,s=>rfl
 |c::p,i,s=>by
  have it:∀(n:Nat)(s:Nat×Nat),(dQ (JZ r w ws i) n s).1=dQ (ax r i) n s.1:=by
   intro n
   induction n with
   |zero=>intro s;rfl
   |succ n ih=>intro s;exact ih _
  show(aP (JZ r w ws) (i+1) (dQ (JZ r w ws i) c s) p).1=aP (ax r) (i+1) (dQ (ax r i) c s.1) p;rw[Bb r w ws p (i+1),it]
def A_{U aD:List α}{gU:α->Bool}(e:mJ F s0 h U aD kt)(hl:kt.length=aD.length)(c:yL aD gU aD.length ls){p:Cs}(hp:p.length=h):cU ls (aP (ax kt) 0 0 p)=gU (aP F 0 s0 p):=by have a:=e.aP hl p 0 0 s0 () e.gp;exact c.is _ _ (c7.mp a).1 a
def Lc{xs:Row}{ord:List Nat}(T:cz m h kt)(hp:ord.Perm (List.range m))(h0:ord[0]?=some 0)(hl:dE.length=m)(hr:∀(d:Nat)(r:Row),dE[d]?=some r->∃x,ord[d]?=some x/\cA (ax kt) ord x h r)(L:lA m ls)(hx:xs.Perm (dU ord ls)):De h kt ls dE xs:=λ p hq=>by
 have nd:ord.Nodup:=hp.nodup_iff.mpr nodup_range;have e:mJ (ax kt) 0 h (List.range m) ord dE:=⟨nd,h0,λ s hs=>T.ud s (dL.mp (hp.mem_iff.mp hs)),λ s hs=>hp.mem_iff.mp hs,hr⟩;have a:=e.aP (by rw[hl,hp.length_eq,x4]) p 0 0 0 () h0;have lt:=dB T T.tb.pos hq;generalize aP (ax kt) 0 0 p=x at*;generalize aP (ax dE) 0 0 p=d at*;unfold cU;refine decide_eq_decide.mpr ?_;rw[hx.mem_iff];unfold dU;rw[D8];constructor
 ·intro z;refine⟨_,z,?_⟩;rw[u9];have b:=fU (k8 a);exact J8 _ ((getElem?_inj (c7.mp b).1 nd).mp (b.trans a.symm))
 ·rintro⟨y,hy,e⟩;have yb:=L.2 y hy;have b:=fU (hp.mem_iff.mpr (dL.mpr (show y.toNat<m by lia)));rw[show ord.idxOf y.toNat=d by lia,a]at b;have:=B0 b;rw[show(x:Int)=y by lia];exact hy
end KK
namespace L4
open PySem.Spec L2 L3
section
variable {a b c:Expr}{tb tc:bT}
def bC(ha:WE X a ta)(hs:oq X a []:=by rfl):WA X [a] (gS ta rA):=aH ha bO hs
def dm(ha:WE X a ta)(hb:WE X b tb)(hs:starEach [a,b] X.env=(false,eval a X.env)::starEach [b] X.env:=by rfl)(nk:oq X b []:=by rfl):WA X [a,b] (gS ta (gS tb rA)):=aH ha (bC hb nk) hs
def Ov(ha:WE X a ta)(hb:WE X b tb)(hc:WE X c tc)(hs:starEach [a,b,c] X.env=(false,eval a X.env)::starEach [b,c] X.env:=by rfl)(xE:starEach [b,c] X.env=(false,eval b X.env)::starEach [c] X.env:=by rfl)(nk:oq X c []:=by rfl):WA X [a,b,c] (gS ta (gS tb (gS tc rA))):=aH ha (dm hb hc xE nk) hs
end
end L4
namespace KK
open L3 L4 L5
open L2 hiding aL gF
local macro_rules|`(tactic|walk_at "mem")=>`(tactic|first|assumption|exact ae|(rw[ah (by assumption)];assumption)|(rw[ah (by assumption),ah (by assumption)];assumption)|(rw[ah (by assumption)];exact ae))
local macro_rules|`(tactic|walk_at "rd1")=>`(tactic|first|(with_reducible first|refine QJ ?_|refine GL ?_|refine Ln ?_|refine zC ?_|refine Q3 ?_|refine t_ ?_|refine jF ?_|refine QH ?_|refine oQ ?_|refine Br ?_)|((with_reducible refine' gG ?k1 ?_);(case k1=>rfl))|(with_reducible first|refine Vt ?_|refine Q4 ?_|refine OQ ?_|refine QM ?_|refine LK ?_|refine kB ?_|refine lL ?_|refine QD ?_|refine QR ?_|refine QF ?_|refine Lg ?_|refine LG ?_|refine GR ?_|refine QX ?_|refine Ll ?_|refine LI ?_|refine LJ ?_)|((with_reducible refine' jG ?k1 ?_);(case k1=>walk_at "mem"))|(with_reducible first|refine QC ?_|refine Li ?_|refine OT ?_|refine Zi ?_|refine Vs ?_|refine OP ?_|refine sE ?_|refine Lm ?_|refine wm ?_|refine Bv ?_|refine Q1 ?_)|((with_reducible refine zE ?k1 ?_);(case k1=>first|assumption|decide))|((with_reducible refine Q0 ?k1 ?k2 ?_);(case k1=>first|assumption|decide);(case k2=>first|assumption|decide|lia))|((with_reducible refine lH ?k1 ?_);(case k1=>exact JG (by decide) (by decide)))|(with_reducible first|refine Le ?_|refine Gs ?_|refine Lu ?_|refine GK ?_|refine Ls ?_)|((with_reducible refine' LH ?k1 ?_);(case k1=>rfl))|((with_reducible refine' GF ?k1 ?_);(case k1=>walk_at "mem"))|(with_reducible first|refine OS ?_|refine wz ?_|refine GO ?_|refine GP ?_)|((with_reducible refine' GQ ?k1 ?_);(case k1=>walk_at "mem"))|(with_reducible first|refine Gu ?_|refine LF ?_|refine LD ?_|refine Bs ?_|refine Lf ?_|refine QQ ?_|refine Bt ?_)|((with_reducible refine' cq ?k1 ?k2 ?_);(case k1=>walk_at "mem");(case k2=>rfl))|((with_reducible refine' aO ?k2 ?_);(case k2=>rfl))|((with_reducible refine' tY ?k1 ?_);(case k1=>walk_at "mem"))|((with_reducible refine' Gw ?k1 ?k2 ?_);(case k1=>walk_at "mem");(case k2=>rfl))|(with_reducible first|refine Lv ?_|refine zB ?_|refine DM ?_|refine Vr ?_|refine GI ?_|refine GJ ?_|refine Lw ?_|refine Bu ?_))
local macro_rules|`(tactic|walk_at "rd")=>`(tactic|repeat(walk_at "rd1"))
local macro_rules|`(tactic|symm)=>`(tactic|walk_at "rd")
local macro_rules|`(tactic|walk_at "rx")=>`(tactic|repeat(first|walk_at "rd1"|((with_reducible refine' Vq ?k1 ?_);(case k1=>exact Nat.le_of_ble_eq_true rfl))))
local macro_rules|`(tactic|rfl')=>`(tactic|walk_at "rx")
local macro_rules|`(tactic|walk_at "len")=>`(tactic|first|(rintro⟨e,_⟩;subst e;rfl)|(rintro⟨_,h⟩;revert h;walk_at "len"))
abbrev qo:List Str:=[cS "rows",cS "tow",cS "takes",cS "nones",cS "ones",cS "twos",cS "ass",cS "heaps",cS "on",cS "t",cS "ro",cS "a"]
def top(i:Nat):Stmt:=PySem.Challenge.pw_lastloser_k34_whole_right_tables_agree.main.body.getD i (.Pass ⟨0,0,0,0⟩)
structure iK(K:K6)(mg:Str->Option gV):Prop where
 any:mg "any"=none
 dict:mg "dict"=none
 enumerate:mg "enumerate"=none
 int:mg "int"=none
 len:mg "len"=none
 list:mg "list"=none
 max:mg "max"=none
 min:mg "min"=none
 range:mg "range"=none
 sorted:mg "sorted"=none
 sum:mg "sum"=none
 tuple:mg "tuple"=none
 zip:mg "zip"=none
def wa:dW:=λ ds M Q=>∃ns:List Int,ds=[.fl (ns.map D.int)]/\M 38=some (.eX (.mM "first_things.<locals>.<lambda>"))/\M 93=some (.eX (.mM "least.<locals>.<lambda>"))/\∀M',Q (.bl true) M'
def Mp(F:hW K "_law_pick" "_law_pick" (top 25) f fd)(T:iK K mg):bB P w K mg base dX 1 f fd ["_law_flow_here","_law_many"] (bZ K iW):=by
 refine kJ F ["_law_flow_here","_law_many","_law_cell","_law_digit"] (λ dj A outer s H E ds M Q nd hr h=>?_)
 ·obtain⟨a,c,n,rfl,⟨ns,p,b,sd,ct,hf,hc,iQ,hp,hb,Cm,xE⟩,Ja,hn1,k⟩:=h;refine⟨_,(aa (cM (tK (aN (iF hr.units) (aF aL (ai 0) ak) ak) (oK (aN zQ (aF aL (ai 0) ak) (aX d_ T.len (bC (aF aL (ai 0) ak)))))).pt
 (aa (aw 2 (aF aL (aF aL (ai 0) ak) (aF aL (ai 0) ak)))
 (aa (dz (bx bA (aF aL (ai 0) ak) ak) (eR (ai 0) ak nQ))
 (aj (cM (aN Zv (ai 2) (bx VW ak ak))
 (aj (dz (ai 2) (eR (ai 0) ak nQ)))
 (aj (dz (bx j_ (bx bA (bx bA (bx i_ (aF aL (ai 0) ak) ak) (bx j_ (ai 2) ak)) ak) ak) (eR (ai 0) ak nQ)))))))
 br)
 (aa (cM (aN HS (aF aL (ai 0) ak) ak)
 (aa (aw 3 (bx j_ (aF aL (ai 0) ak) (ai 1)))
 (aa (dz (bx uo (aF aL (ai 0) ak) (ai 1)) (eR (ai 0) ak nQ))
 (aj (aJ (ai 3)))))
 br)
 (aa (dz (bx bA (aF aL (ai 0) ak) ak) (eR (ai 0) ak nQ))
 (aa (dz (bx j_ (bx bA (bx bA (bx i_ (aF aL (ai 0) ak) ak) ak) (aF aL (ai 0) ak)) ak) (eR (ai 0) ak nQ))
 (aj (aJ (bx j_ (bx uo (bx j_ (bx i_ (bx bA (bx j_ (aF aL (ai 0) ak) ak) ak) (bx bA (bx uo (aF aL (ai 0) ak) ak) ak)) ak) ak) (ai 1)))))))),?_⟩
  refine mR (λ δ' M'=>∃(p b sd ct:Int)(v:Option D),δ'=[some (.ref a),some (.int n),v,none]/\M'=ag M a (.lst (Pq c p b sd ct))/\0<=p/\0<=b/\0<=sd/\sd<2147483647) (λ N hN=>?_) ?_
  ·symm;refine bE (λ W2=>?_) (λ W2=>?_)
   ·symm;refine bE (λ gb=>?_) (λ gb=>?_)
    ·obtain⟨x,hx⟩:∃x:Int,gN (ns.map D.int) p=some (.int x):=by
      have hl:p.toNat<ns.length:=by rw[B3]at gb;lia
      refine⟨ns[p.toNat],?_⟩;have e:((p.toNat:Nat):Int)=p:=()
      have q:gN (ns.map D.int) ((p.toNat:Nat):Int)=some (.int ns[p.toNat]):=bc (by simp[hl]);rw[e]at q;exact q
     symm;refine cq hc hx ?_;symm;refine Zh ⟨by decide,by decide,by decide⟩ ?_;symm;refine bE (λ Tp=>?_) (λ Tp=>?_)
     ·symm;rw[dD];refine hN _ _ ⟨p+1,x,sd,ct,_,rfl,rfl,(),?_,Cm,xE⟩;have Tp:(10:Int)^(18:Int).toNat<=x:=Tp;have e:(10:Int)^(18:Int).toNat=1000000000000000000:=by decide
      lia
     ·symm;rw[dD];refine hN _ _ ⟨p+1,b,_,ct,_,rfl,rfl,(),hb,A9 _ (by decide),p6 _ (by decide)⟩
    ·symm;exact hN _ _ ⟨p,b,sd,ct,none,rfl,(rV hf).symm,hp,hb,Cm,xE⟩
   ·symm;exact hN _ _ ⟨p,b,sd,ct,none,rfl,(rV hf).symm,hp,hb,Cm,xE⟩
  ·rintro δ' M' ⟨p,b,sd,ct,v,rfl,rfl,hp,hb,Cm,xE⟩;symm;refine bE (λ W2=>?_) (λ W2=>?_)
   ·symm;rw[dD];refine av (k _ _ (A9 _ ()) (p6 _ Ja) ⟨ns,p,_,sd,ct,ae,by rw[ah iQ];exact hc,iQ,hp,Int.ediv_nonneg hb (),Cm,xE⟩)
   ·symm;refine lH (JH ?_ ?_) ?_
    ·have:=A9 ((sd*48271+12820163+(ct+1))%2147483647) (show(65521:Int)≠0 by decide);lia
    ·have:=p6 ((sd*48271+12820163+(ct+1))%2147483647) (show(0:Int)<65521 by decide);lia
    symm;rw[dD,dD];exact av (k _ _ (A9 _ ()) (p6 _ Ja) ⟨ns,p,b,_,_,ae,by rw[ah iQ];exact hc,iQ,hp,hb,A9 _ (by decide),p6 _ (by decide)⟩)
def Mz(F:hW K "_law_flow" "_law_flow" (top 24) f fd)(T:iK K mg):bB P w K mg base dX 1 f fd ["_law_script"] (bZ K Bh):=by
 refine kJ F ["_law_script"] (λ dj A outer s H E ds M Q nd hr h=>?_)
 ·obtain⟨ns,rfl,k⟩:=h;refine⟨_,(aj (aJ (cj (aH (cb AG T.list (bC (ai 0))) (aH ak (aH ak (aH ak (aH ak bO)))))))),?_⟩;symm;refine GH λ c vN=>?_;symm;refine⟨small (by show 5<=10000;decide),λ fl Ym=>?_⟩;have iQ:c≠fl:=λ z=>by subst z;rw[ae]at Ym;cases Ym
  exact av (k fl c _ ⟨ns,0,0,1,0,ae,by rw[ah iQ];exact ae,iQ,by decide,by decide,by decide,by decide⟩ (sw.new (sw.new sw.rfl vN _) Ym _))
def Mt(F:hW K "_law_name" "_law_name" (top 27) f fd)(T:iK K mg)(aE:bY P w K mg base 1 "_law_pick" ["_law_flow_here","_law_many"] iW):bB P w K mg base dX 2 f fd ["_law_flow_here"] (bZ K (OH 6)):=by
 refine kJ F ["_law_flow_here","_law_letters","_law_near","_law_name_here"] (λ dj A outer s H E ds M Q nd hr h=>?_)
 ·obtain⟨a,cc,rfl,hF,k⟩:=h;refine⟨_,(aa (aw 1 iE)
 (aa (aw 2 (cj (AV (zs:=qo) (by kernel_rfl))))
 (aa (aw 3 (PV PySem.F.plainAttrs_str PySem.F.slot_str_join PySem.F.type_str_join Sg FN iE (oN [1,0] (bf T.range (bC (bx bA ak (aI aE (dm (ai 0) ak))))) aZ (aF aL (ai 1) (aI aE (dm (ai 2) ak))))))
 (aa (cM (aN (iF hr.units) (aI aE (dm (ai 0) ak)) ak)
 (aj (aw 3 (aF aL (ai 2) (aI aE (dm (ai 0) ak)))))
 br)
 (aa (cM (aN (wR hr.units) (ai 3) (dY (AV (zs:=[cS "row",cS "to",cS "take",cS "none",cS "one",cS "two",cS "as",cS "heap"]) (by kernel_rfl))))
 (aj (aw 3 (bx bA (jE sx (ai 3) jD (lC ak)) iE)))
 br)
 (aj (aJ (bx bA (ai 3) (aF aL (cj (Ov iE iE (aF aL iE (aI aE (dm (ai 0) ak))))) (aI aE (dm (ai 0) ak))))))))))),?_⟩
  symm;refine⟨by decide,λ q hq=>?_⟩;have Uq:q≠a:=λ z=>by obtain⟨o,e⟩:=hF.there;rw[<- z,hq]at e;cases e
  have F0:Fl a cc M (ag M q (.lst (qo.map D.str))):=Fl.put hF hq;have Pk:(ag M q (.lst (qo.map D.str))) q=some (.lst (qo.map D.str)):=ae;generalize ag M q (.lst (qo.map D.str))=M1 at F0 Pk ⊢;symm;refine⟨rfl,?_⟩;symm;refine⟨a,cc,5,rfl,F0.bS,by decide,by decide,λ m o h0 h1 NG=>?_⟩;have F1:Fl a cc M1 _:=Fl.pick NG;symm;refine⟨cW () (),?_⟩;refine nE (λ i li M'=>yK li i/\Fl a cc M1 M') ⟨yK.nil,F1⟩ (λ i li M' hi h=>?_) (λ i d' li M' hd h=>?_) (λ li M' h=>?_)
  ·obtain⟨⟨zs,rfl,_,h2⟩,_⟩:=h;rw[bj]at hi;rw[B3];exact small ()
  ·symm;refine⟨a,cc,26,rfl,h.2.bS,by decide,by decide,λ d2 o2 h2 h3 W_=>?_⟩;obtain⟨c,hc⟩:=yG (xs:=(cS "abcdefghijklmnopqrstuvwxyz").cps.toList) h2 (by
    have e:(cS "abcdefghijklmnopqrstuvwxyz").cps.toList.length=26:=by decide+kernel
    rw[e];exact h3)
   refine zG (by decide+kernel) hc ?_;exact⟨h.1.snoc (by show 1<=1;decide),h.2.trans (Fl.pick W_)⟩
  ·obtain⟨h1',Yw⟩:=h;rw[bj]at h1';refine Ni h1' () λ z hz=>?_;have Yd:z.length<=5:=()
   have F2:=F0.trans Yw;have Pk:=Yw.mv q _ Uq Pk;clear hz h1' Yw
   with_reducible refine jF ?_
   with_reducible refine mR (λ δ' M2=>∃z:Str,δ'=[some (.ref a),some (.str (cS "abcdefghijklmnopqrstuvwxyz")),some (.ref q),some (.str z)]/\z.length<=5/\Fl a cc M M2) (λ N hN=>?_) ?_
   ·symm;refine⟨a,cc,6,rfl,F2.bS,by decide,by decide,λ d3 o3 h4 h5 hF3=>?_⟩;symm;refine bE (λ _=>?_) (λ _=>?_)
    ·symm;refine⟨a,cc,12,rfl,hF3,by decide,by decide,λ d4 o4 h6 h7 hF4=>?_⟩;obtain⟨y,hy,ZT⟩:=yF (zs:=qo) h6 (by show d4<12;exact h7);have hyl:y.length<=5:=by
      have all:∀y∈qo,y.length<=5:=by decide+kernel
      exact all y hy
     refine cq (by rw[ah Uq,ah Uq];exact Pk) ZT ?_;symm;exact hN _ _ ⟨y,rfl,hyl,(F2.trans (Fl.pick hF3)).trans (Fl.pick hF4)⟩
    ·symm;exact hN _ _ ⟨z,rfl,Yd,F2.trans (Fl.pick hF3)⟩
   ·rintro δ' M2 ⟨z,rfl,Yd,F2⟩
    with_reducible refine mR (λ δ' M3=>∃z:Str,δ'=[some (.ref a),some (.str (cS "abcdefghijklmnopqrstuvwxyz")),some (.ref q),some (.str z)]/\z.length<=5/\Fl a cc M M3) (λ N hN=>?_) ?_
    ·symm;refine⟨by decide,?_⟩;refine LA rfl ?_;refine gu (λ _=>?_) (λ _=>?_)
     ·symm;refine Lj (small ()) ?_;symm;have c1:=N_ z none (some 4);have e:(cS "q").length=1:=by decide+kernel
      have c2:(rH z none (some 4)).length<=4:=by
       show((z.cps.toList.drop 0).take (HT.cx z.length z.length (some 4)-0)).toArray.size<=4;rw[x6,A1];have:HT.cx z.length z.length (some 4)<=4:=by show(if(4:Int)<0 then((4:Int)+(z.length:Int)).toNat else min (4:Int).toNat z.length)<=4;rw[K3 (by decide)];exact Nat.min_le_left _ _
       lia
      refine wx (small ()) ?_;symm;exact hN _ _ ⟨_,rfl,by rw[len_app];lia,F2⟩
     ·symm;exact hN _ _ ⟨z,rfl,Yd,F2⟩
    ·rintro δ' M3 ⟨z,rfl,Yd,F3⟩;symm;refine⟨a,cc,9,rfl,F3.bS,by decide,by decide,λ d5 o5 h8 h9 UA=>?_⟩;obtain⟨c,hc⟩:=yG (xs:=(cS "123456789").cps.toList) h8 (by
      have e:(cS "123456789").cps.toList.length=9:=by decide+kernel
      rw[e];exact h9)
     refine zG (by decide+kernel) hc ?_;symm;refine⟨small (by show 3<=10000;decide),λ q2 sT=>?_⟩;have F5:=F3.trans (Fl.pick UA);have aae:q2≠a:=λ z=>by subst z;obtain⟨o,e⟩:=UA.there;rw[sT]at e;cases e
     symm;refine⟨a,cc,3,rfl,UA.put sT,by decide,by decide,λ d6 o6 Yx h11 W9=>?_⟩;obtain⟨y,hy,ZT⟩:=yF (zs:=[cS "",cS "",⟨#[c]⟩]) Yx (by show d6<3;exact h11);have hyl:y.length<=1:=by
      have e:(cS "").length=0:=by decide+kernel
      simp only[C9,not_mem_nil,or_false]at hy;rcases hy with rfl|rfl|rfl
      ·lia
      ·lia
      ·show 1<=1;decide
     refine cq (by rw[ah aae];exact ae) ZT ?_;refine wx (small ()) ?_;exact av (k _ _ (by rw[len_app];lia) ((F5.trans (Fl.put UA sT)).trans (Fl.pick W9)))
def Mw(F:hW K "_law_added" "_law_added" (top 39) f fd)(T:iK K mg):bB P w K mg base dX 1 f fd ["_law_one","_law_other"] (bZ K OI):=by
 refine kJ F ["_law_one","_law_other"] (λ dj A outer s H E ds M Q nd hr h=>?_)
 ·obtain⟨as,bs,rfl,hl,hz,k⟩:=h;refine⟨_,(aj (aJ (fL bK ck T.tuple (PU [] (AU T.zip (dm (ai 0) (ai 1))) aZ (bx bA (ai 0) (ai 1)))))),?_⟩;symm;have hp:(plus as bs).length<=1000:=by simp[plus];lia
  refine nE (λ i li M'=>M'=M/\li=((plus as bs).take i).map D.int) ⟨rfl,by simp⟩ (λ i li M' hi h=>?_) (λ i d li M' hd h=>?_) (λ li M' h=>?_)
  ·obtain⟨_,rfl⟩:=h;rw[B3,A1];exact small ()
  ·obtain⟨rfl,rfl⟩:=h;obtain⟨x,y,e1,e2,rfl⟩:=PN hd;symm;refine⟨rfl,?_⟩;rw[take_snoc (a:=x+y) (BA e1 e2),B5];rfl
  ·obtain⟨rfl,rfl⟩:=h;rw[Kq,y8];exact av k
def RY(F:hW K "_law_key" "_law_key" (top 30) f fd)(T:iK K mg):bB P w K mg base dX 1 f fd ["_law_counts_here"] (bZ K Gd):=by
 refine kJ F ["_law_counts_here"] (λ dj A outer s H E ds M Q nd hr h=>?_)
 ·obtain⟨as,rfl,hz,k⟩:=h;refine⟨_,(aj (aJ (dY (dm (aX (Xx rfl) T.sum (bC (ai 0))) (fL bK ck T.tuple (oN [] (cK (ai 0)) aZ (bx BG ak (ai 0)))))))),?_⟩;symm;refine Lh ?_;symm;refine nE (λ i li M'=>M'=M/\li=((as.map λ a=>0-a).take i).map D.int) ⟨rfl,by simp⟩ (λ i li M' hi h=>?_) (λ i d li M' hd h=>?_) (λ li M' h=>?_)
  ·obtain⟨_,rfl⟩:=h;rw[B3,A1];rw[B3]at hi;exact small ()
  ·obtain⟨rfl,rfl⟩:=h;rw[u6]at hd;cases e:as[i]? with
   |none=>rw[e]at hd;cases hd
   |some a=>rw[e]at hd;cases hd;symm;refine⟨rfl,?_⟩;rw[take_snoc (a:=0-a) (by simp[e]),B5];rfl
  ·obtain⟨rfl,rfl⟩:=h;symm;refine⟨by show 2<=sizeLine;decide,av ?_⟩;have e:(as.map λ a=>0-a).take (as.map D.int).length=as.map λ a=>0-a:=by rw[B3];exact i9 (by simp)
   rw[e];exact k
def HF[DecidableEq γ]{q:γ}(h:q∈rs):q∈once rs:=by
 have:∀(rs li:List γ),(q∈li\/q∈rs)->q∈rs.foldl jj li:=by
  intro rs
  induction rs with
  |nil=>intro li h;exact h.elim id λ z=>by cases z
  |cons r rs ih=>
   intro li h;refine ih _ ?_;unfold jj;rcases h with h|h
   ·split
    ·exact .inl h
    ·exact .inl (k9 _ h)
   ·rcases C9.mp h with rfl|h
    ·split
     ·next z=>exact .inl z
     ·exact .inl (by simp)
    ·exact .inr h
 exact this rs [] (.inr h)
def wb:dW:=λ ds M Q=>∃(x:D)(rs:List (List Int)),ds=[x]/\(x=.tup (rs.map row)\/∃l,x=.ref l/\M l=some (.lst (rs.map row)))/\rs.length<64/\(∀r∈rs,r.length<=1000)/\∀out:List (List Int),(∀r∈out,r∈rs)->(∀r∈rs,r∈out)->out.length<=rs.length->Q (.tup (out.map row)) M
def HL(F:hW K "_law_in_order" "_law_in_order" (top 31) f fd)(T:iK K mg)(EH:bY P w K mg base 1 "_law_key" ["_law_counts_here"] Gd):bB P w K mg base dX 4 f fd ["_law_sums"] (bZ K wb):=by
 refine kJ F ["_law_sums"] (λ dj A outer s H E ds M Q nd hr h=>?_)
 ·obtain⟨x,rs,rfl,hx,xK,hz,k⟩:=h;refine⟨_,(aj (aJ (cb bK T.tuple (bC (zi EH (hr.mono (by decide)) (by rfl) T.sorted (by rfl) T.dict (by rfl) (hX (oN [] (cK (ai 0)) aZ (dY (dm (ai 0) rn))))))))),?_⟩;have go:∀(N:bF),(∀(p:ap)(out:List (List Int))(M':Mem),(∀b o,M b=some o->M' b=some o)->M' p=some (.lst (out.map row))->(∀r∈out,r∈rs)->(∀r∈rs,r∈out)->out.length<=rs.length->N (.ref p) M')->∀p,M p=none->vc Gd (.ref p) (ag M p (.lst (rs.map pairD))) N:=by
   intro N hN p hp;have h0:=Ii (λ b o e=>e) hp (.lst (rs.map pairD));refine⟨p,rs,true,λ mK M'=>M'=ag M p (.lst (rs.map pairD))/\mK.length<=(once rs).length/\∀i k,mK[i]?=some k->Oo true M' k (O6 ((once rs).getD i [])),λ i=>O6 ((once rs).getD i []),rfl,ae,xK,⟨rfl,G9 _,λ i k e=>by simp at e⟩,?_,?_⟩
   ·rintro mK M' e ⟨rfl,h2,h3⟩ he;rw[u6]at he;cases er:(once rs)[mK.length]? with
    |none=>rw[er]at he;cases he
    |some r=>
     rw[er]at he;cases he;have eB:mK.length<(once rs).length:=(c7.mp er).1;refine⟨r,rfl,hz r (w_ (k8 er)),rfl,?_,λ i k e=>?_⟩
     ·rw[p4,j9];lia
     ·by_cases hi:i<mK.length
      ·rw[c4 hi]at e;exact h3 i k e
      ·rw[b9 ()]at e;have WN:i-mK.length=0:=by have:=(c7.mp e).1;simp at this;lia
       rw[WN]at e;have e:D.tup [.int r.sum,row (r.map λ a=>0-a)]=k:=by simpa using e
       have hik:i=mK.length:=()
       subst hik;show k=.tup [.int (O6 ((once rs).getD mK.length [])).1,.tup ((O6 ((once rs).getD mK.length [])).2.map D.int)];rw[<- e,c3,er];rfl
   ·rintro mK M' ⟨rfl,h2,h3⟩ hl;refine⟨h3,λ p2 outD eZ ho=>?_⟩;obtain⟨out,rfl,o1,_⟩:=HC (rs:=once rs) ho;exact hN p2 out _ (Ii h0 eZ _) ae (λ r hr=>w_ (o1.mem_iff.mp hr)) (λ r hr=>o1.mem_iff.mpr (HF hr)) (by rw[o1.length_eq];exact Io rs)
  have fin:∀(p:ap)(out:List (List Int))(M':Mem),(∀b o,M b=some o->M' b=some o)->M' p=some (.lst (out.map row))->(∀r∈out,r∈rs)->(∀r∈rs,r∈out)->out.length<=rs.length->u_ [.ref p] M' (fin2 Q):=λ p out M' h1 h2 h3 h4 h5=>c_ h2 (back h1 (k out h3 h4 h5));rcases hx with rfl|⟨l,rfl,hl⟩
  ·symm;refine nE (λ i li M'=>M'=M/\li=(rs.take i).map pairD) ⟨rfl,by simp⟩ (λ i li M' hi h=>?_) (λ i d li M' hd h=>?_) (λ li M' h=>?_)
   ·obtain⟨_,rfl⟩:=h;rw[B3,A1];exact small ()
   ·obtain⟨rfl,rfl⟩:=h;rw[u6]at hd;cases e:rs[i]? with
    |none=>rw[e]at hd;cases hd
    |some r=>rw[e]at hd;cases hd;symm;refine⟨by show 2<=sizeLine;decide,rfl,?_⟩;rw[take_snoc e,B5];rfl
   ·obtain⟨rfl,rfl⟩:=h;rw[B3,y8];intro p hp;exact go _ fin p hp
  ·symm;refine yr (ds:=rs.map row) (λ i li M'=>M'=M/\li=(rs.take i).map pairD) ⟨rfl,by simp⟩ (λ i li M' hi h=>?_) (λ i li M' hi h=>?_) (λ i d li M' hd h=>?_) (λ li M' h=>?_)
   ·obtain⟨rfl,_⟩:=h;exact hl
   ·obtain⟨_,rfl⟩:=h;rw[B3,A1];exact small ()
   ·obtain⟨rfl,rfl⟩:=h;rw[u6]at hd;cases e:rs[i]? with
    |none=>rw[e]at hd;cases hd
    |some r=>rw[e]at hd;cases hd;symm;refine⟨by show 2<=sizeLine;decide,rfl,?_⟩;rw[take_snoc e,B5];rfl
   ·obtain⟨rfl,rfl⟩:=h;rw[B3,y8];intro p hp;exact go _ fin p hp
def D_(F:hW K "_law_counts" "_law_counts" (top 29) f fd)(T:iK K mg):bB P w K mg base dX 1 f fd ["_law_heaps","_law_many"] (bZ K pW):=by
 refine kJ F ["_law_heaps","_law_many"] (λ dj A outer s H E ds M Q nd hr h=>?_)
 ·obtain⟨a,ns,n,rfl,hM,hz,k⟩:=h;refine⟨_,(aj (aJ (fL bK ck T.tuple (oN [0] (bf T.range (bC (ai 1))) aZ (gf i5 PySem.F.slot_list_count PySem.F.type_list_count (MS hr.units) (ai 1) (bC (ai 0))))))),?_⟩;symm;refine⟨cW () (),?_⟩;rw[u9];refine fj (xs:=List.range n) (enc:=Lb) (λ h=>D.int ((ns.count (h:Int):Nat):Int)) (by simp;lia) (λ i x N hx hN=>?_) ?_
  ·symm;refine⟨⟨rfl,_,hM⟩,?_⟩;symm;refine DN hM ?_;rw[D4];exact hN
  ·refine av ?_;unfold row eC at k;rw[D9]at k;exact k
def Mn(F:hW K "_law_some_sum" "_law_some_sum" (top 38) f fd)(T:iK K mg)(aE:bY P w K mg base 1 "_law_pick" ["_law_flow_here","_law_many"] iW)(iw:bY P w K mg base 1 "_law_counts" ["_law_heaps","_law_many"] pW):bB P w K mg base dX 2 f fd ["_law_flow_here","_law_many","_law_most"] (bZ K FW):=by
 refine kJ F ["_law_flow_here","_law_many","_law_most","_law_heaps"] (λ dj A outer s H E ds M Q nd hr h=>?_)
 ·obtain⟨a,cc,n,m,rfl,hF,hz,m0,m1,k⟩:=h;refine⟨_,(aa (cB 3 (oN [0,1] (bf T.range (bC (bx i_ (aX (PC rfl) T.min (dm (ai 1) ak)) (aI aE (dm (ai 0) (bx bA (ai 2) ak)))))) aZ (aI aE (dm (ai 1) (ai 2)))))
 (aj (aJ (aI iw (dm (ai 3) (ai 1)))))),?_⟩
  symm;refine⟨a,cc,m+1,rfl,hF,(),(),λ d o h0 h1 NG=>?_⟩;have aat:(if(1:Int)<(n:Int)then(1:Int)else(n:Int))=if 1<=n then 1 else 0:=by split<;>split<;>lia
  rw[aat];refine lH (JH (by split<;>lia) (by split<;>lia)) ?_;have hle:(if 1<=n then(1:Int)else 0)*d<=m/\0<=(if 1<=n then(1:Int)else 0)*d/\(n=0->(if 1<=n then(1:Int)else 0)*d=0):=by
   split
   ·rw[Int.one_mul];exact⟨(),h0,λ z=>by lia⟩
   ·rw[Int.zero_mul];exact⟨(),(),λ _=>rfl⟩
  generalize(if 1<=n then(1:Int)else 0)*d=c at hle ⊢;obtain⟨c1,c0,cn⟩:=hle;refine⟨cW () (),?_⟩;have F1:Fl a cc M _:=Fl.pick NG;refine kY (xs:=List.range c.toNat) (enc:=Lb) D.int (λ ns M'=>Fl a cc M M'/\∀x∈ns,0<=x/\x<(n:Int)) (by simp;lia) ⟨F1,λ x h=>by cases h⟩ (λ i x ys M' N hx hy h hN=>?_) (λ ns M' hl h=>?_)
  ·obtain⟨F2,h2⟩:=h;have hi:=(c7.mp hx).1;rw[x4]at hi;have hn:n≠0:=λ z=>by have:=cn z;lia
   symm;refine⟨a,cc,n,rfl,F2.bS,(),(),λ d2 o2 Yw h3 W_=>hN _ _ ⟨F2.trans (Fl.pick W_),λ x hx=>?_⟩⟩;rcases B4.mp hx with q|q
   ·exact h2 x q
   ·have:x=d2:=by simpa using q
    lia
  ·obtain⟨F2,h2⟩:=h;rw[x4]at hl;intro p hp;symm;refine⟨p,ns,n,rfl,ae,hz,av (k ns _ () h2 (F2.trans (Fl.put F2.bS hp)))⟩
def HJ(F:hW K "_law_names" "_law_names" (top 28) f fd)(T:iK K mg)(As:bY P w K mg base 2 "_law_name" ["_law_flow_here"] (OH 6)):bB P w K mg base dX 3 f fd ["_law_flow_here","_law_many"] (bZ K Be):=by
 refine kJ F ["_law_flow_here","_law_many","_law_names_here","_law_k","_law_name_here","_law_spare"] (λ dj A outer s H E ds M Q nd hr h=>?_)
 ·obtain⟨a,cc,n,rfl,hF,hz,k⟩:=h;refine⟨_,(aa (aw 2 (cj bO))
 (aa (df (bf T.range (bC (ai 1))) (aS 3)
 (aa (aw 4 (aI As (bC (ai 0))))
 (aa (aw 5 ak)
 (aa (fJ (aN (wR hr.units) (ai 4) (ai 2))
 (aa (aw 4 (bx i_ (aF aL iE (bx j_ (ai 5) ak)) (bx bA ak (bx uo (ai 5) ak))))
 (aj (aw 5 (bx bA (ai 5) ak)))))
 (aj (cC (gf i5 c9 i4 bU (ai 2) (bC (ai 4)))))))))
 (aj (aJ (ai 2))))),?_⟩
  symm;refine⟨by decide,λ p hp=>?_⟩;have Ur:=(hF.ne hp).1;symm;refine⟨cW () (),?_⟩;rw[u9];refine gL (λ i δ M'=>∃(v1 v2 v3:Option D)(zs:List Str),δ=[some (.ref a),some (.int n),some (.ref p),v1,v2,v3]/\zs.length=i/\M' p=some (.lst (zs.map D.str))/\Fl a cc M M') ⟨none,none,none,[],rfl,rfl,ae,Fl.put hF hp⟩ (λ i d δ M' hd h=>?_) (λ δ M' h=>?_)
  ·obtain⟨v1,v2,v3,zs,rfl,h2,h3,F1⟩:=h;obtain⟨hi,rfl⟩:=fz hd;symm;refine⟨a,cc,rfl,F1.bS,λ z M1 hz6 F2=>?_⟩;have F3:=F1.trans F2;have h3:=F2.mv p _ Ur h3;symm;refine fO ⟨λ m δ M'=>M'=M1/\∃(z:Str)(sp:Nat),δ=[some (.ref a),some (.int n),some (.ref p),some (.int (0+(i:Nat))),some (.str z),some (.int sp)]/\m=zs.length+2-sp/\sp<=zs.length+1/\(0<sp->z=vj (sp-1))/\∀j,j+1<sp->vj j∈zs,⟨_,rfl,z,0,rfl,rfl,G9 _,λ q=>be q (),λ j q=>be q ()⟩,?_⟩;rintro m δ M' ⟨rfl,z,sp,rfl,rfl,Ck,hz1,hz2⟩;symm;refine LB h3 (IJ z zs) ?_;refine gu (λ jq=>?_) (λ jq=>?_)
   ·have jq:z∈zs:=by simpa using jq
    have all:∀j,j<sp->vj j∈zs:=λ j hj=>by
     by_cases e:j+1<sp
     ·exact hz2 j e
     ·have:j=sp-1:=()
      rw[this,<- hz1 ()];exact jq
    have Nt:sp<=zs.length:=JJ () all;refine⟨λ δ' M2=>M2=M'/\δ'=[some (.ref a),some (.int n),some (.ref p),some (.int (0+(i:Nat))),some (.str (vj sp)),some (.int ((sp+1:Nat):Int))],?_,?_⟩
    ·rintro δ' M2 ⟨rfl,rfl⟩;exact⟨zs.length+2-(sp+1),(),rfl,vj sp,sp+1,rfl,rfl,(),λ _=>rfl,λ j hj=>all j ()⟩
    ·symm;have em:(sp:Int)%26=(sp:Int):=Int.emod_eq_of_lt () ();have ed:(sp:Int)/26=0:=Int.ediv_eq_zero_of_lt () ();have bl:yD.length=26:=by decide+kernel
     have hc:gN (cS "zyxwvutsrqponmlkjihgfedcba").cps.toList ((sp:Int)%26)=some (yD.getD sp 0):=by
      rw[em];refine bc ?_;show yD[sp]?=_;rw[c3];have:sp<yD.length:=()
      simp[this]
     refine zG (by decide+kernel) hc ?_;symm;rw[ed];refine Gz (zS _) ?_;symm;exact⟨rfl,rfl⟩
   ·symm;refine⟨⟨rfl,_,h3⟩,?_⟩;symm;refine dJ h3 (by rw[B3];exact p8 (show zs.length<=12 by lia) (by decide)) ?_;symm;exact⟨_,_,_,zs++[z],rfl,by simp[h2],by rw[ae,B5];rfl,F3.own hF hp⟩
  ·obtain⟨v1,v2,v3,zs,rfl,h2,h3,F1⟩:=h;rw[bj]at h2;symm;exact av (k p zs _ h2 hp h3 F1)
def fe(g:List aW)(n:Nat):Row->List Row:=λ b=>J' g b n
def DZ(F:hW K "_law_moves" "_law_moves" (top 36) f fd)(T:iK K mg):bB P w K mg base dX 2 f fd ["_law_game","_law_counts_here"] (bZ K Bf):=by
 refine kJ F ["_law_game","_law_counts_here","_law_found","_law_h","_law_heap","_law_k","_law_more","_law_later"] (λ dj A outer s H E ds M Q nd hr h=>?_)
 ·obtain⟨n,g,as,rfl,G,ha,k⟩:=h;have iq:=G.gw;refine⟨_,(aa (aw 2 (cj bO))
 (aa (df (eJ T.enumerate (bC (ai 0))) (gE (n:=2) (bg (aS 3) (bg (aS 4) eK)))
 (aj (df (eJ T.enumerate (bC (aF aL (ai 4) ak))) (gE (n:=2) (bg (aS 5) (bg (aS 6) eK)))
 (aj (cM (aN HS (aF aL (ai 1) (ai 3)) ak)
 (aa (cB 7 (PU [] (AU T.zip (dm (ai 1) (ai 6))) aZ (bx bA (ai 0) (ai 1))))
 (aa (dz (bx BG (aF aL (ai 7) (ai 3)) ak) (eR (ai 7) (ai 3) nQ))
 (aj (cC (gf i5 c9 i4 bU (ai 2) (bC (dY (Ov (ai 3) (ai 5) (cb bK T.tuple (bC (ai 7)))))))))))
 br)))))
 (aj (aJ (ai 2))))),?_⟩
  symm;refine⟨by decide,λ p hp=>?_⟩;symm;refine gL (λ i δ M'=>∃(v1 v2 v3 v4 v5:Option D),δ=[some (j' g),some (row as),some (.ref p),v1,v2,v3,v4,v5]/\M' p=some (.lst (vK g as i))/\sw M M') ⟨none,none,none,none,none,rfl,ae,Ii (λ b o e=>e) hp _⟩ (λ i d δ M' hd h=>?_) (λ δ M' h=>?_)
  ·obtain⟨v1,v2,v3,v4,v5,rfl,h3,hM⟩:=h;obtain⟨hi,rfl⟩:=gx hd;rw[B3]at hi;rw[EA hi];have jq:i<n:=by rw[<- G.len];exact hi
   obtain⟨ho,IY⟩:=G.at jq;generalize Ex:g.getD i fG=hp at*;obtain⟨nm,os⟩:=hp;have ho:os.length<=63:=ho;have IY:∀r∈os,r.length=n:=IY;have ml:=ux G as i ();have step:vK g as (i+1)=vK g as i++opt as i (wY as i os os.length):=by show vK g as i++opt as i (wY as i (g.getD i fG).2 (g.getD i fG).2.length)=_;rw[Ex]
   symm;refine gL (λ j δ M'=>∃(v3 v4 v5:Option D),δ=[some (j' g),some (row as),some (.ref p),some (.int (i:Int)),some (qE (nm,os)),v3,v4,v5]/\M' p=some (.lst (vK g as i++opt as i (wY as i os j)))/\sw M M') ⟨_,_,_,rfl,?_,hM⟩ (λ j d δ M1 hd h=>?_) (λ δ M1 h=>?_)
   ·have:opt as i (wY as i os 0)=[]:=by unfold opt wY;split<;>rfl
    rw[this,A5];exact h3
   ·obtain⟨v3,v4,v5,rfl,h3,hM⟩:=h;obtain⟨hj,rfl⟩:=gx hd;rw[B3]at hj;rw[Jm hj];have hl:=IY _ (getD_mem hj);symm;refine aO (mF ()) ?_;symm;refine bE (λ xF=>?_) (λ xF=>?_)
    ·have eo:opt as i (wY as i os (j+1))=opt as i (wY as i os j)++[ZF as i (os.getD j []) j]:=by unfold opt;rw[K1 xF,K1 xF,Ig]
     have eo2:(opt as i (wY as i os j)).length=j:=by unfold opt;rw[K1 xF,uA]
     symm;generalize os.getD j []=o at*;refine TV (as:=as) (bs:=o) (λ p=>D.int (p.1+p.2)) () (λ _ x N hx hN=>?_) ?_
     ·symm;exact hN
     rw[Hi];intro q hq;have gb:(plus as o).length=n:=by unfold plus;rw[length_zipWith];lia
     have jo:p≠q:=λ z=>by subst z;rw[h3]at hq;cases hq
     symm;refine cq ae (mF ()) ?_;symm;refine Gw ae (by rw[B3];exact SQ () ()) ?_;rw[dD];symm;refine⟨⟨rfl,_,by rw[ah jo];exact h3⟩,?_⟩;symm;refine c_ ae ?_;symm;refine⟨by show 3<=sizeLine;decide,?_⟩;symm;refine dJ (by rw[ah jo];exact h3) (by rw[p4,eo2];exact p8 (show _<=10000 by lia) (by decide)) ?_;symm;refine⟨_,_,_,rfl,?_,sw.own (Ii hM hq _) hp⟩;rw[ae,eo,u9];have e:((plus as o).map D.int).set i (.int ((plus as o).getD i 0-1))=(plus (less as i) o).map D.int:=by rw[<- DR () (),map_set]
     rw[e,append_assoc];rfl
    ·symm;refine⟨_,_,_,rfl,?_,hM⟩;have eo:∀l,opt as i l=[]:=λ l=>K3 xF;rw[eo]at h3 ⊢;exact h3
   ·obtain⟨v3,v4,v5,rfl,h3,hM⟩:=h;rw[bJ,B3]at h3;symm;exact⟨_,_,_,_,_,rfl,by rw[step];exact h3,hM⟩
  ·obtain⟨v1,v2,v3,v4,v5,rfl,h3,hM⟩:=h;rw[bJ,B3,G.len]at h3;symm;exact av (k p M' hp h3 hM)
def dot(as bs:List Int):Int:=(List.zipWith (·*·) as bs).sum
def yQ(b_:List (List (List Int))):Nat->List Int
 |0=>[]
 |i+1=>yQ b_ i++[ip 0 ((b_.getD i []).map λ o=>1+dot o (yQ b_ i))]
def BC(b_:List (List (List Int))):∀i,(yQ b_ i).length=i
 |0=>rfl
 |i+1=>by show(yQ b_ i++[_]).length=_;rw[p4,BC b_ i];rfl
structure AK(b_:List (List (List Int))):Prop where
 gw:b_.length<=12
 opts:∀i,i<b_.length->(b_.getD i []).length<=63/\∀o∈b_.getD i [],(∀x∈o,0<=x)/\o.sum<=4/\o.length<=1000
def eS(g:List aW):List (List (List Int)):=g.map (·.2)
def sG(g:List aW)(i:Nat):(eS g).getD i []=(g.getD i fG).2:=by unfold eS;rw[c3,c3,u6];cases g[i]?<;>rfl
def eI.Rz(G:eI n g):AK (eS g):=by
 have hl:(eS g).length=n:=by unfold eS;rw[B3];exact G.len
 refine⟨by rw[hl];exact G.gw,λ i hi=>?_⟩;rw[sG];rw[hl]at hi;exact⟨(G.opts i hi).1,λ o ho=>⟨((G.opts i hi).2 o ho).pos,((G.opts i hi).2 o ho).sum,by rw[((G.opts i hi).2 o ho).len];have:=G.gw;lia⟩⟩
def cu(g:List aW)(i:Nat):List Int:=yQ (eS g) i
def fQ(g:List aW)(i:Nat):(cu g i).length=i:=BC _ i
def nR(g:List aW)(i:Nat):cu g (i+1)=cu g i++[ip 0 ((g.getD i fG).2.map λ o=>1+dot o (cu g i))]:=by show yQ (eS g) i++[ip 0 (((eS g).getD i []).map λ o=>1+dot o (yQ (eS g) i))]=_;rw[sG];rfl
def uD{b:Int}:∀{ns:List Int},0<=b->(∀x∈ns,x<=b)->ip 0 ns<=b:=λ{ns} hb h=>by
 cases ns with
 |nil=>exact hb
 |cons n ns=>
  rcases(foldl_max ns n).2.2 with e|e
  ·show ns.foldl max n<=b;rw[e];exact h n (o7 ..)
  ·exact h _ (k7 _ e)
def BO{x:Int}(h:x∈ns):x<=ip 0 ns:=by
 cases ns with
 |nil=>cases h
 |cons n ns=>
  show x<=ns.foldl max n;rcases C9.mp h with rfl|h
  ·exact(foldl_max ns x).1
  ·exact(foldl_max ns n).2.1 x h
def xf(h:∀x∈ns,0<=x):0<=ip 0 ns:=by
 cases ns with
 |nil=>exact Int.le_refl _
 |cons n ns=>exact Int.le_trans (h n (o7 ..)) (BO (o7 ..))
def ir(as:List Int):dot as []=0:=by unfold dot;rw[zipWith_nil_right];rfl
def cI(a b:Int)(as bs:List Int):dot (a::as) (b::bs)=a*b+dot as bs:=by unfold dot;rw[zipWith_cons_cons,D3]
def uY:∀{as bs:List Int},(∀x∈as,0<=x)->(∀x∈bs,0<=x)->0<=dot as bs
 |[],bs,_,_=>by unfold dot;simp
 |a::as,[],_,_=>by rw[ir];exact Int.le_refl _
 |a::as,b::bs,h,q=>by rw[cI];have:=uY (as:=as) (bs:=bs) (λ x hx=>h x (k7 _ hx)) (λ x hx=>q x (k7 _ hx));have:=Int.mul_nonneg (h a (o7 ..)) (q b (o7 ..));lia
def uZ(hB:0<=B):∀{as bs:List Int},(∀x∈as,0<=x)->(∀x∈bs,x<=B)->dot as bs<=as.sum*B
 |[],bs,_,_=>by unfold dot;simp
 |a::as,[],h,_=>by
  rw[ir];refine Int.mul_nonneg ?_ hB;have:∀l:List Int,(∀x∈l,0<=x)->0<=l.sum:=λ l=>by
   induction l with
   |nil=>intro _;simp
   |cons x l ih=>intro h;rw[D3];have:=ih λ y hy=>h y (k7 _ hy);have:=h x (o7 ..);lia
  exact this _ h
 |a::as,b::bs,h,q=>by rw[cI,D3,Int.add_mul];have h1:=uZ hB (as:=as) (bs:=bs) (λ x hx=>h x (k7 _ hx)) (λ x hx=>q x (k7 _ hx));have h2:=Int.mul_le_mul_of_nonneg_left (q b (o7 ..)) (h a (o7 ..));lia
def OX{b_:List (List (List Int))}(G:AK b_):∀i,i<=b_.length->∀x∈yQ b_ i,0<=x/\x<=5^i
 |0,_,x,hx=>by cases hx
 |i+1,hi,x,hx=>by
  have ih:=OX G i ();have hp5:(0:Int)<5^i:=Int.pow_pos (by decide);have e5:(5:Int)^(i+1)=5*5^i:=by rw[Int.pow_succ,Int.mul_comm]
  have hx:x∈yQ b_ i++[ip 0 ((b_.getD i []).map λ o=>1+dot o (yQ b_ i))]:=hx;rcases B4.mp hx with q|q
  ·have:=ih x q;lia
  ·have e:x=ip 0 ((b_.getD i []).map λ o=>1+dot o (yQ b_ i)):=by simpa using q
   have ho:=(G.opts i ()).2;subst e;constructor
   ·refine xf λ y hy=>?_;obtain⟨o,Tc,rfl⟩:=D8.mp hy;have:=uY (ho o Tc).1 λ z hz=>(ih z hz).1;lia
   ·refine uD () λ y hy=>?_;obtain⟨o,Tc,rfl⟩:=D8.mp hy;have h1:=uZ (B:=5^i) () (ho o Tc).1 λ z hz=>(ih z hz).2;have h2:=(ho o Tc).2.1;have h3:o.sum*5^i<=4*5^i:=Int.mul_le_mul_of_nonneg_right h2 ();lia
def Zq(h:i<=12):(5:Int)^i<=1000000000:=by
 have:∀j:Fin 13,(5:Int)^(j:Nat)<=1000000000:=by decide
 exact this ⟨i,()⟩
def Hm{b_:List (List (List Int))}(G:AK b_)(hi:i<=b_.length):∀x∈yQ b_ i,0<=x/\x<=1000000000:=λ x hx=>by have h:=OX G i hi x hx;have:=Zq (i:=i) (by have:=G.gw;lia);lia
def wI(G:eI n g)(hi:i<=n):∀x∈cu g i,0<=x/\x<=1000000000:=Hm G.Rz (by unfold eS;rw[B3,G.len];exact hi)
def vL(g:List aW)(n:Nat)(as:List Int):Int:=dot as (cu g n)
def iI:∀{as bs:List Int} (i:Nat),bs.length=i->(∀j,i<=j->as.getD j 0=0)->∀cs:List Int,dot as (bs++cs)=dot as bs
 |[],bs,i,_,_,cs=>by unfold dot;simp
 |a::as,[],i,hl,hz,cs=>by
  rw[ir,nil_append];have hi:i=0:=by simpa using hl.symm
  subst hi;have all:∀(l m:List Int),(∀j,l.getD j 0=0)->dot l m=0:=λ l=>by
   induction l with
   |nil=>intro m _;unfold dot;simp
   |cons x l ih=>
    intro m h;cases m with
    |nil=>exact ir _
    |cons y m=>
     rw[cI,ih m λ j=>by simpa using h (j+1)];have:x=0:=by simpa using h 0
     rw[this];simp
  exact all _ _ λ j=>hz j (G9 _)
 |a::as,b::bs,i,hl,hz,cs=>by
  rw[cons_append,cI,cI];have hl:bs.length+1=i:=by simpa using hl
  rw[iI (bs.length) rfl (λ j hj=>by simpa using hz (j+1) ()) cs]
def kG(b_:List (List (List Int)))(i:Nat):∀k,∃cs,yQ b_ (i+k)=yQ b_ i++cs
 |0=>⟨[],by simp⟩
 |k+1=>by obtain⟨cs,e⟩:=kG b_ i k;refine⟨cs++[ip 0 ((b_.getD (i+k) []).map λ o=>1+dot o (yQ b_ (i+k)))],?_⟩;show yQ b_ (i+k)++[_]=_;rw[<- append_assoc,<- e];rfl
def Hk(h:i<n):(cu g n).getD i 0=ip 0 ((g.getD i fG).2.map λ o=>1+dot o (cu g i)):=by
 obtain⟨cs,e⟩:=kG (eS g) (i+1) (n-(i+1));have e:cu g n=cu g (i+1)++cs:=by unfold cu;rw[<- e];congr 1;lia
 rw[e,nR,append_assoc,c3,b9 (by rw[fQ];exact G7 _),fQ];simp
def NW{o:List Int}(h:i<=n)(ho:vF n i o):dot o (cu g n)=dot o (cu g i):=by
 obtain⟨cs,e⟩:=kG (eS g) i (n-i);have e:cu g n=cu g i++cs:=by unfold cu;rw[<- e];congr 1;lia
 rw[e];exact iI i (fQ g i) ho.low cs
def xV:∀{as bs ps:List Int},as.length=bs.length->dot (plus as bs) ps=dot as ps+dot bs ps
 |[],[],ps,_=>by unfold dot plus;simp
 |a::as,b::bs,[],_=>by rw[ir,ir,ir];rfl
 |a::as,b::bs,p::ps,h=>by have:=xV (as:=as) (bs:=bs) (ps:=ps) (by simpa using h);unfold plus at this ⊢;rw[zipWith_cons_cons,cI,cI,cI,this,Int.add_mul];lia
 |a::as,[],ps,h=>by simp at h
 |[],b::bs,ps,h=>by simp at h
def CB:∀{as ps:List Int} {h:Nat},h<as.length->h<ps.length->dot (as.set h (as.getD h 0-1)) ps=dot as ps-ps.getD h 0
 |a::as,p::ps,0,_,_=>by rw[set_cons_zero,cI,cI];simp only[getD_cons_zero];rw[Int.sub_mul,Int.one_mul];lia
 |a::as,p::ps,h+1,h1,h2=>by rw[set_cons_succ,cI,cI];have:=CB (as:=as) (ps:=ps) (h:=h) (by simpa using h1) (by simpa using h2);simp only[getD_cons_succ];rw[this];lia
 |[],ps,h,h1,_=>by simp at h1
 |a::as,[],h,_,h2=>by simp at h2
def bP(as:List Int)(h:Nat)(o:List Int):List Int:=plus (less as h) o
def V5(as:List Int)(h:Nat)(os:List (List Int)):List (List Int):=if 0<as.getD h 0 then os.map (bP as h)else[]
def Ee(g:List aW)(as:List Int):Nat->List (List Int)
 |0=>[]
 |i+1=>Ee g as i++V5 as i (g.getD i fG).2
def Ej(G:eI n g)(ha:as.length=n)(hh:h<n){o:List Int}(ho:o∈(g.getD h fG).2):vL g n (bP as h o)+1=vL g n as-(cu g n).getD h 0+(1+dot o (cu g h)):=by have hr:=(G.opts h hh).2 o ho;unfold vL bP;rw[xV (by rw[jd (),hr.len,ha]),jc (),CB () (by rw[fQ];exact hh),NW () hr];lia
set_option tactic.hygienic true in
def xa{l:List Int}:∀{i:Nat},l∈Ee g as i↔∃h o,h<i/\0<as.getD h 0/\o∈(g.getD h fG).2/\l=bP as h o
 |0=>by simp[Ee]
 |i+1=>by
  show l∈Ee g as i++V5 as i (g.getD i fG).2↔_;rw[B4,xa];constructor
  ·rintro(⟨h,o,h1,h2,h3,h4⟩|q)
   ·exact⟨h,o,(),h2,h3,h4⟩
   ·unfold V5 at q;split at q
    ·rename_i hp;obtain⟨o,ho,rfl⟩:=D8.mp q;exact⟨i,o,(),hp,ho,rfl⟩
    ·cases q
  ·rintro⟨h,o,h1,h2,h3,h4⟩;by_cases e:h<i
   ·exact .inl ⟨h,o,e,h2,h3,h4⟩
   ·have:h=i:=()
    subst this;refine .inr ?_;unfold V5;rw[K1 h2];exact D8.mpr ⟨o,h3,h4.symm⟩
def jv(hp:∀x∈as,0<=x)(j:Nat):0<=as.getD j 0:=by
 rw[c3];cases e:as[j]? with
 |none=>exact Int.le_refl _
 |some x=>exact hp x (k8 e)
def O2(g:List aW)(as:Row):∀i,J' g as i=Ee g as i
 |0=>rfl
 |i+1=>by show J' g as i++_=Ee g as i++V5 as i _;rw[O2 g as i];rfl
def jb{as l:Row}:l∈fe g n as↔∃h o,h<n/\0<as.getD h 0/\o∈(g.getD h fG).2/\l=bP as h o:=by unfold fe;rw[O2];exact xa
structure k_(n:Nat)(as:Row):Prop where
 len:as.length=n
 pos:∀x∈as,0<=x
def Hj{as bs:Row}(ha:∀x∈as,0<=x)(hb:∀x∈bs,0<=x):∀x∈plus as bs,0<=x:=λ x hx=>by unfold plus at hx;rw[<- map_uncurry_zip_eq_zipWith]at hx;obtain⟨p,hp,rfl⟩:=D8.mp hx;have h1:=ha _ (of_mem_zip hp).1;have h2:=hb _ (of_mem_zip hp).2;show 0<=p.1+p.2;lia
def mU(G:eI n g){as c:Row}(ha:k_ n as)(hc:c∈fe g n as):k_ n c:=by
 obtain⟨h,o,hh,h0,ho,rfl⟩:=jb.mp hc;have hr:=(G.opts h hh).2 o ho;have h1:h<as.length:=by rw[ha.len];exact hh
 exact⟨wH (by rw[jd h1,ha.len]) hr.len,Hj (xm ha.pos h0) hr.pos⟩
def jK(G:eI n g){as:Row}(ha:k_ n as):0<=vL g n as:=uY ha.pos λ x hx=>(wI G (G7 _) x hx).1
def uq(G:eI n g){as c:Row}(ha:k_ n as)(hc:c∈fe g n as):vL g n c<vL g n as:=by obtain⟨h,o,hh,h0,ho,rfl⟩:=jb.mp hc;have e:=Ej G ha.len hh ho;have gb:=Hk (g:=g) (n:=n) hh;have:=BO (ns:=(g.getD h fG).2.map λ o=>1+dot o (cu g h)) (D8.mpr ⟨o,ho,rfl⟩);lia
def fS(nx:Row->List Row)(w:Bool):Nat->Row->Bool
 |0,_=>false
 |f+1,r=>if nx r=[]then w else !((nx r).any (fS nx w f))
def xg(G:eI n g)(w:Bool):∀(f f':Nat)(r:Row),k_ n r->vL g n r<(f:Int)->vL g n r<(f':Int)->fS (fe g n) w f r=fS (fe g n) w f' r
 |0,_,r,hr,h,_=>be (jK G hr) ()
 |_,0,r,hr,_,h=>be (jK G hr) ()
 |f+1,f'+1,r,hr,h,h'=>by
  show(if fe g n r=[]then w else !((fe g n r).any (fS (fe g n) w f)))=if fe g n r=[]then w else !((fe g n r).any (fS (fe g n) w f'))
  have e:∀c∈fe g n r,fS (fe g n) w f c=fS (fe g n) w f' c:=λ c hc=>by have:=uq G hr hc;exact xg G w f f' c (mU G hr hc) () ()
  have e2:(fe g n r).any (fS (fe g n) w f)=(fe g n r).any (fS (fe g n) w f'):=by rw[A4,List.any_eq_true,List.any_eq_true];exact⟨λ⟨c,h1,h2⟩=>⟨c,h1,by rw[<- e c h1];exact h2⟩,λ⟨c,h1,h2⟩=>⟨c,h1,by rw[e c h1];exact h2⟩⟩
  rw[e2]
def gH(g:List aW)(n:Nat)(w:Bool)(r:Row):Bool:=fS (fe g n) w ((vL g n r).toNat+1) r
def BQ(G:eI n g)(w:Bool){r:Row}(hr:k_ n r):gH g n w r=if fe g n r=[]then w else !((fe g n r).any (gH g n w)):=by
 unfold gH;show(if fe g n r=[]then w else !((fe g n r).any (fS (fe g n) w (vL g n r).toNat)))=_;have e2:(fe g n r).any (fS (fe g n) w (vL g n r).toNat)=(fe g n r).any λ c=>fS (fe g n) w ((vL g n c).toNat+1) c:=by
  have e:∀c∈fe g n r,fS (fe g n) w (vL g n r).toNat c=fS (fe g n) w ((vL g n c).toNat+1) c:=λ c hc=>by have h1:=uq G hr hc;have h2:=jK G (mU G hr hc);exact xg G w _ _ c (mU G hr hc) () ()
  rw[A4,List.any_eq_true,List.any_eq_true];exact⟨λ⟨c,h1,h2⟩=>⟨c,h1,by rw[<- e c h1];exact h2⟩,λ⟨c,h1,h2⟩=>⟨c,h1,by rw[e c h1];exact h2⟩⟩
 rw[e2]
def O0(os:List (List Int)):D:=.tup (os.map row)
def NL(hn:n<=12)(hz:zs.length=n)(ho:b_.length=n)(h:∀i os,b_[i]?=some os->os.length<=20/\∀r∈os,vF n i r):eI n (zs.zip b_):=by
 refine⟨by rw[length_zip];lia,hn,λ i hi=>?_⟩;have e:(zs.zip b_).getD i fG=(zs[i]'(),b_[i]'()):=by rw[c3,g9 (by rw[length_zip];lia)];simp
 rw[e];have:=h i _ (g9 ());exact⟨by have:=this.1;show(b_[i]'_).length<=63;lia,this.2⟩
def Fo(hz:zs.length=n)(ho:b_.length=n):(List.range n).map (λ i=>qE (zs.getD i (cS ""),b_.getD i []))=(zs.zip b_).map qE:=by
 refine x8 λ i=>?_;by_cases hi:i<n
 ·rw[u6,u6,l9 hi,g9 (by rw[length_zip];lia)];simp[c3,hz,ho,hi]
 ·rw[k5 (by simpa using hi),k5 (by rw[B3,length_zip];lia)]
def Mg{os:List Row}(h:∀i os,b_[i]?=some os->os.length<=20/\∀r∈os,vF n i r)(h1:os.length<=20)(h2:∀r∈os,vF n b_.length r):∀i DV,(b_++[os])[i]?=some DV->DV.length<=20/\∀r∈DV,vF n i r:=λ i DV e=>by
 by_cases eB:i<b_.length
 ·rw[c4 eB]at e;exact h i DV e
 ·rw[b9 ()]at e;have WN:i-b_.length=0:=by have:=(c7.mp e).1;simp at this;lia
  rw[WN]at e;have e:os=DV:=by simpa using e
  subst e;have:i=b_.length:=()
  subst this;exact⟨h1,h2⟩
def big(as:Row)(sz:Cs):Bool:=(List.range sz.length).any λ j=>decide (0<as.getD j 0)&&decide (1<sz.getD j 0)
def cQ{as:Row}:big as sz=true↔∃j,0<as.getD j 0/\1<sz.getD j 0:=by
 unfold big;rw[List.any_eq_true];constructor
 ·rintro⟨j,_,h⟩;rw[A0,bn,bn]at h;exact⟨j,h⟩
 ·rintro⟨j,h1,h2⟩;refine⟨j,dL.mpr (y7 λ z=>?_),by rw[B8 h1,B8 h2];rfl⟩;rw[c3,k5 z]at h2;exact be h2 (by decide)
structure rL(n:Nat)(g:List aW)(sz:Cs):Prop where
 len:sz.length=n
 opt:∀h o,h<n->o∈(g.getD h fG).2->∃v,v<sz.getD h 0/\xd o sz=v/\(big o sz=true↔1<v)
 Kj:∀h v,h<n->v<sz.getD h 0->∃o∈(g.getD h fG).2,xd o sz=v/\(big o sz=true↔1<v)
 one:∀h o,h<n->o∈(g.getD h fG).2->o.sum<=1
def il(w:Bool)(as:Row)(sz:Cs):Prop:=xd as sz=if(w||big as sz)=true then 0 else 1
instance (w:Bool)(as:Row)(sz:Cs):Decidable (il w as sz):=by unfold il;infer_instance
section
variable {h:Nat}{sz:Cs}{as o c:Row}{w:Bool}
def jJ(G:eI n g)(N:rL n g sz)(ha:as.length=n)(hh:h<n)(ho:o∈(g.getD h fG).2):xd (bP as h o) sz=xd as sz^^^sz.getD h 0^^^xd o sz:=by have hr:=(G.opts h hh).2 o ho;unfold bP;rw[AS _ (by rw[jd (),hr.len,ha]),jc (),yW () (by rw[N.len];exact hh)]
def BW(hh:h<as.length)(j:Nat):(less as h).getD j 0=if j=h then as.getD h 0-1 else as.getD j 0:=by
 rw[jc hh,c3,getElem?_set];by_cases e:h=j
 ·subst e;rw[K1 rfl,K1 hh,K1 rfl];rfl
 ·rw[K3 e,K3 (J9 e),c3]
def jU(G:eI n g)(ha:k_ n as)(hh:h<n)(h0:0<as.getD h 0)(ho:o∈(g.getD h fG).2):big (bP as h o) sz=true↔big (less as h) sz=true\/big o sz=true:=by
 have hr:=(G.opts h hh).2 o ho;have hl:h<as.length:=by rw[ha.len];exact hh
 have ll:=jd hl;rw[ha.len]at ll;have e:∀j,(bP as h o).getD j 0=(less as h).getD j 0+o.getD j 0:=λ j=>by
  unfold bP;by_cases hj:j<n
  ·have:=BA (g9 (l:=less as h) (i:=j) ()) (g9 (l:=o) (i:=j) (by rw[hr.len];exact hj));rw[c3,this,c3,g9 (),c3,g9 (by rw[hr.len];exact hj)];rfl
  ·rw[c3,k5 (by rw[wH ll hr.len];lia),c3,k5 (),c3,k5 (by rw[hr.len];lia)];rfl
 have p1:=λ j=>jv (xm ha.pos h0) j;have p2:=λ j=>jv hr.pos j;rw[cQ,cQ,cQ];constructor
 ·rintro⟨j,h1,h2⟩;rw[e j]at h1;by_cases z:0<(less as h).getD j 0
  ·exact .inl ⟨j,z,h2⟩
  ·have:=p1 j;exact .inr ⟨j,(),h2⟩
 ·rintro(⟨j,h1,h2⟩|⟨j,h1,h2⟩)
  ·have:=p2 j;exact⟨j,by rw[e];lia,h2⟩
  ·have:=p1 j;exact⟨j,by rw[e];lia,h2⟩
def um{a:Int}(h:0<=a)(e:a%2=1):0<a:=()
def T4(ha:∀x∈as,0<=x)(b:¬big as sz=true):xd as sz<=1:=y4 λ z=>b<|by
 have h0:xd as sz≠0:=()
 obtain⟨j,_,_,j3,j4⟩:=pJ (Nat.testBit_log2 h0);have l1:1<=(xd as sz).log2:=Nat.pos_of_ne_zero λ e=>by have:=Nat.lt_log2_self (n:=xd as sz);rw[e]at this;lia
 have:=Nat.ge_two_pow_of_testBit j4;have l2:2^1<=2^(xd as sz).log2:=Nat.pow_le_pow_right (by decide) l1;exact cQ.mpr ⟨j,um (jv ha j) j3,()⟩
def yB(ha:as.length=n)(hh:h<n)(b:big (less as h) sz=true):big as sz=true:=by
 obtain⟨j,h1,h2⟩:=cQ.mp b;rw[BW ()]at h1;refine cQ.mpr ⟨j,?_,h2⟩;split at h1
 ·next e=>rw[e];lia
 ·exact h1
def yC(ha:as.length=n)(hh:h<n)(b:big as sz=true)(nb:¬big (less as h) sz=true):1<sz.getD h 0:=by
 obtain⟨j,h1,h2⟩:=cQ.mp b;by_cases e:j=h
 ·rw[<- e];exact h2
 ·exact be (cQ.mpr ⟨j,by rw[BW (),K3 e];exact h1,h2⟩) nb
def HZ(G:eI n g)(N:rL n g sz)(ha:k_ n as)(hc:c∈fe g n as)(p:il w as sz):¬il w c sz:=by
 obtain⟨h,o,hh,h0,ho,rfl⟩:=jb.mp hc;obtain⟨v,v1,v2,v3⟩:=N.opt h o hh ho;have bl:=jU (sz:=sz) G ha hh h0 ho;intro q;unfold il at p q;rw[jJ G N ha.len hh ho,v2]at q;by_cases B:(w||big as sz)=true
 ·rw[K1 B]at p;rw[p,Nat.zero_xor]at q;by_cases B':(w||big (bP as h o) sz)=true
  ·rw[K1 B']at q;have:=AQ.mp q;lia
  ·rw[K3 B']at q;rw[im]at B B';have w0:¬w=true:=λ z=>B' (.inl z);have nb:¬big (bP as h o) sz=true:=λ z=>B' (.inr z);have gg:=yC ha.len hh (B.resolve_left w0) λ z=>nb (bl.mpr (.inl z));have vl:v<=1:=y4 λ z=>nb (bl.mpr (.inr (v3.mpr z)));have e:sz.getD h 0=1^^^v:=by rw[<- q,C6,D5,Nat.xor_zero]
   rcases(show v=0\/v=1 by lia)with rfl|rfl
   ·rw[e]at gg;exact be gg (by decide)
   ·rw[e]at gg;exact be gg (by decide)
 ·rw[K3 B]at p;rw[im]at B;have s1:sz.getD h 0<=1:=y4 λ z=>B (.inr (cQ.mpr ⟨h,h0,z⟩));have es:sz.getD h 0=1:=()
  have ev:v=0:=()
  rw[p,es,ev,K3]at q
  ·exact be q (by decide)
  ·rw[im];rintro(z|z)
   ·exact B (.inl z)
   ·rcases bl.mp z with z|z
    ·exact B (.inr (yB ha.len hh z))
    ·have:=v3.mp z;lia
def Sa(G:eI n g)(N:rL n g sz)(ha:k_ n as)(ne:fe g n as≠[])(np:¬il w as sz):∃c∈fe g n as,il w c sz:=by
 unfold il at np;by_cases B:(w||big as sz)=true
 ·rw[K1 B]at np;obtain⟨h,h1,h2,h3,h4⟩:=pJ (Nat.testBit_log2 np);have eB:=Fq (Nat.lt_log2_self (n:=xd as sz)) (Nat.testBit_log2 np) h4;have hh:h<n:=by rw[<- ha.len];exact h1
  have h0:=um (jv ha.pos h) h3;obtain⟨o,ho,o1,o2⟩:=N.Kj h _ hh eB;have x0:xd (bP as h o) sz=0:=by rw[jJ G N ha.len hh ho,o1,Nat.xor_comm (sz.getD h 0),D5]
  by_cases B':(w||big (bP as h o) sz)=true
  ·exact⟨_,jb.mpr ⟨h,o,hh,h0,ho,rfl⟩,by unfold il;rw[K1 B'];exact x0⟩
  ·rw[im]at B B';have bl:=jU (sz:=sz) G ha hh h0 ho;have w0:¬w=true:=λ z=>B' (.inl z);have nb:¬big (bP as h o) sz=true:=λ z=>B' (.inr z);have nl:¬big (less as h) sz=true:=λ z=>nb (bl.mpr (.inl z));have gg:=yC ha.len hh (B.resolve_left w0) nl;have vl:sz.getD h 0^^^xd as sz<=1:=y4 λ z=>nb (bl.mpr (.inr (o2.mpr z)));have vv:sz.getD h 0^^^xd as sz^^^1<=1:=by rcases(show sz.getD h 0^^^xd as sz=0\/sz.getD h 0^^^xd as sz=1 by lia)with e|e<;>rw[e]<;>decide
   obtain⟨o',mh,p1,p2⟩:=N.Kj h (sz.getD h 0^^^xd as sz^^^1) hh ();have bl':=jU (sz:=sz) G ha hh h0 mh;refine⟨_,jb.mpr ⟨h,o',hh,h0,mh,rfl⟩,?_⟩;unfold il;rw[K3,jJ G N ha.len hh mh,p1,Nat.xor_comm (xd as sz),<- C6,D5,Nat.zero_xor];rw[im];rintro(z|z)
   ·exact w0 z
   ·rcases bl'.mp z with z|z
    ·exact nl z
    ·have:=p2.mp z;lia
 ·rw[K3 B]at np;rw[im]at B;have x1:=T4 ha.pos λ z=>B (.inr z);have x0:xd as sz=0:=()
  obtain⟨c,hc⟩:=exists_mem_of_ne_nil _ ne;refine⟨c,hc,?_⟩;obtain⟨h,o,hh,h0,ho,rfl⟩:=jb.mp hc;obtain⟨v,v1,v2,v3⟩:=N.opt h o hh ho;have bl:=jU (sz:=sz) G ha hh h0 ho;have s1:sz.getD h 0<=1:=y4 λ z=>B (.inr (cQ.mpr ⟨h,h0,z⟩));have es:sz.getD h 0=1:=()
  have ev:v=0:=()
  unfold il;rw[jJ G N ha.len hh ho,v2,x0,es,ev,K3]
  ·decide
  ·rw[im];rintro(z|z)
   ·exact B (.inl z)
   ·rcases bl.mp z with z|z
    ·exact B (.inr (yB ha.len hh z))
    ·have:=v3.mp z;lia
def MK(N:rL n g sz)(ha:k_ n as)(e:fe g n as=[]):il w as sz↔w=true:=by
 have no:∀h,h<n->0<as.getD h 0->sz.getD h 0=0:=λ h hh h0=>Nat.eq_zero_of_not_pos λ z=>by obtain⟨o,ho,_⟩:=N.Kj h 0 hh z;have:=jb.mpr ⟨h,o,hh,h0,ho,rfl⟩;rw[e]at this;cases this
 have x0:xd as sz=0:=ii λ np=>by obtain⟨h,h1,h2,h3,h4⟩:=pJ (Nat.testBit_log2 np);rw[no h (by rw[<- N.len];exact h2) (um (jv ha.pos h) h3)]at h4;simp at h4
 have nb:big as sz=false:=Bool.eq_false_iff.mpr λ z=>by
  obtain⟨j,j1,j2⟩:=cQ.mp z;by_cases hj:j<n
  ·rw[no j hj j1]at j2;lia
  ·rw[c3,k5 (by rw[N.len];lia)]at j2;exact be j2 (by decide)
 unfold il;rw[x0,nb,Bool.or_false];cases w<;>simp
def sH(G:eI n g)(N:rL n g sz):∀(f:Nat)(as:Row),k_ n as->vL g n as<(f:Int)->gH g n w as=decide (il w as sz)
 |0,as,ha,h=>be (jK G ha) ()
 |f+1,as,ha,h=>by
  rw[BQ G w ha];have ih:∀c∈fe g n as,gH g n w c=decide (il w c sz):=λ c hc=>sH G N f c (mU G ha hc) (by have:=uq G ha hc;lia);by_cases e:fe g n as=[]
  ·rw[K1 e,A4,bn,MK N ha e]
  ·rw[K3 e];by_cases z:il w as sz
   ·rw[B8 z,Bool.not_eq_true',List.any_eq_false];intro c hc;rw[ih c hc,u7];exact HZ G N ha hc z
   ·rw[A7 z,Bool.not_eq_false',List.any_eq_true];obtain⟨c,hc,e⟩:=Sa G N ha e z;exact⟨c,hc,by rw[ih c hc];exact B8 e⟩
def H_(G:eI n g)(N:rL n g sz)(ha:k_ n as):gH g n w as=decide (il w as sz):=sH G N ((vL g n as).toNat+1) as ha (by have:=jK G ha;lia)
end
def OE:dW:=λ ds M Q=>∃(a c:ap)(m:Nat),ds=[.ref a,.int m]/\Flow M a c/\1<=m/\m<=12/\∀(n:Nat)(g:List aW)(s:ap)(sz:Cs)(M':Mem),1<=n->n<=m->eI n g->sz.length=n->(∀x∈sz,x<5)->rL n g sz->M s=none->M' s=some (.lst (sz.map nD))->Fl a c M M'->Q (.tup [j' g,.ref s]) M'
def oH(a:ap)(M:Mem)(qs:List ap)(dS:List (List Int)):Prop:=qs.length=dS.length/\∀(i:Nat)(q:ap)(hs:List Int),qs[i]?=some q->dS[i]?=some hs->q≠a/\M q=some (.lst (hs.map D.int))
section
variable {qs:List ap}{o:MO}
def oH.nil:oH a M [] []:=⟨rfl,λ i q hs h=>by simp at h⟩
def oH.keep(h:oH a M qs dS)(k:∀b o,b≠a->M b=some o->M' b=some o):oH a M' qs dS:=⟨h.1,λ i q hs h1 h2=>let⟨x,y⟩:=h.2 i q hs h1 h2;⟨x,k q _ x y⟩⟩
def oH.new(h:oH a M qs dS)(hp:M p=none):oH a (ag M p o) qs dS:=h.keep λ b u _ e=>by rw[ah (aM e hp)];exact e
def oH.at(h:oH a M qs dS)(hq:qs[i]?=some q):∃hs,dS[i]?=some hs/\q≠a/\M q=some (.lst (hs.map D.int)):=by have lt:=(c7.mp hq).1;have e:=g9 (l:=dS) (i:=i) (by rw[<- h.1];exact lt);exact⟨_,e,h.2 i q _ hq e⟩
def oH.mov(h:oH a M qs dS)(k:∀q∈qs,q≠p):oH a (ag M p o) qs dS:=⟨h.1,λ i q hs h1 h2=>let⟨x,y⟩:=h.2 i q hs h1 h2;⟨x,by rw[ah (k q (k8 h1))];exact y⟩⟩
def oH.put(h:oH a M qs dS)(hp:M p=some (.lst (qs.map D.ref))):oH a (ag M p o) qs dS:=h.mov λ q hq z=>by
 subst z;obtain⟨i,hi⟩:=ga hq;obtain⟨hs,_,_,h2⟩:=h.at hi;rw[hp]at h2;have e:qs.map D.ref=hs.map D.int:=by injection h2 with e;injection e
 have:D.ref q∈qs.map D.ref:=D8.mpr ⟨q,hq,rfl⟩;rw[e]at this;obtain⟨x,_,e2⟩:=D8.mp this;cases e2
def oH.add(h:oH a M qs dS)(Uq:q≠a)(hq:M q=some (.lst (hs.map D.int))):oH a M (qs++[q]) (dS++[hs]):=by
 refine⟨by rw[p4,p4,h.1];rfl,λ i b ks h1 h2=>?_⟩;by_cases lt:i<qs.length
 ·rw[c4 lt]at h1;rw[c4 (by rw[<- h.1];exact lt)]at h2;exact h.2 i b ks h1 h2
 ·rw[b9 ()]at h1;rw[b9 (by rw[<- h.1];lia),<- h.1]at h2;have i0:i-qs.length=0:=by have:=(c7.mp h1).1;simp at this;lia
  rw[i0]at h1 h2;cases h1;cases h2;exact⟨Uq,hq⟩
end
def oI(bG:List Int)(z v:Int)(hs:List Int):Prop:=(hs=[]/\v=0/\0<z)\/∃y:Nat,hs=[(y:Int)]/\y<bG.length/\bG.getD y 0=v/\v<z
def oI.app{v:Int}(h:oI bG z v hs)(ts:List Int):oI (bG++ts) z v hs:=by
 rcases h with h|⟨y,h1,h2,h3,h4⟩
 ·exact .inl h
 ·refine .inr ⟨y,h1,by rw[p4];lia,?_,h4⟩;rw[c3,c4 h2,<- c3];exact h3
def oI.ok{v:Int}(h:oI bG z v hs):hs.length<=4/\∀x∈hs,0<=x/\x<(bG.length:Int):=by
 rcases h with⟨rfl,_⟩|⟨y,rfl,h2,_⟩
 ·exact⟨by decide,λ x h=>by cases h⟩
 ·exact⟨by show 1<=4;decide,λ x h=>by rw[q8.mp h];lia⟩
structure Km(bG:List Int)(z:Int)(i:Nat)(dS:List (List Int)):Prop where
 all:∀hs∈dS,∃v,0<=v/\v<z/\oI bG z v hs
 gp:0<z->∃hs∈dS,oI bG z 0 hs
 Kj:∀v:Int,1<=v->v<i->v<z->v∈bG->∃hs∈dS,oI bG z v hs
def Km.add(r:Km bG z i dS)(hy:y<bG.length)(e:bG.getD y 0=(i:Int))(hi:(i:Int)<z):Km bG z (i+1) (dS++[[(y:Int)]]):=by
 have nr:oI bG z (i:Int) [(y:Int)]:=.inr ⟨y,rfl,hy,e,hi⟩;refine⟨λ hs h=>?_,λ z0=>?_,λ v v1 vi vz vs=>?_⟩
 ·rcases B4.mp h with w|w
  ·exact r.all hs w
  ·rw[q8.mp w];exact⟨i,(),hi,nr⟩
 ·obtain⟨hs,h1,h2⟩:=r.gp z0;exact⟨hs,k9 _ h1,h2⟩
 ·by_cases ei:v=(i:Int)
  ·subst ei;exact⟨_,j8 _ o7,nr⟩
  ·obtain⟨hs,h1,h2⟩:=r.Kj v v1 () vz vs;exact⟨hs,k9 _ h1,h2⟩
def Km.no(r:Km bG z i dS)(h:i=0\/(i:Int)∉bG):Km bG z (i+1) dS:=by
 refine⟨r.all,r.gp,λ v v1 vi vz vs=>?_⟩;by_cases ei:v=(i:Int)
 ·subst ei;rcases h with h|h
  ·lia
  ·exact be vs h
 ·exact r.Kj v v1 () vz vs
structure XD(bG:List Int)(z:Int)(dS:List (List Int)):Prop where
 all:∀hs∈dS,∃v,0<=v/\v<z/\oI bG z v hs
 Kj:∀v:Int,0<=v->v<z->∃hs∈dS,oI bG z v hs
def Km.full(r:Km bG z i dS)(down:∀v:Int,1<=v->v<z->v∈bG)(hz:z<=i):XD bG z dS:=by
 refine⟨r.all,λ v v0 vz=>?_⟩;by_cases e:v=0
 ·rw[e];exact r.gp ()
 ·exact r.Kj v () () vz (down v () vz)
def XD.app(r:XD bG z dS)(ts:List Int):XD (bG++ts) z dS:=by
 refine⟨λ hs h=>?_,λ v v0 vz=>?_⟩
 ·obtain⟨v,a,b,c⟩:=r.all hs h;exact⟨v,a,b,c.app ts⟩
 ·obtain⟨hs,h1,h2⟩:=r.Kj v v0 vz;exact⟨hs,h1,h2.app ts⟩
def PF(n:Nat)(bG:List Int)(z:Int)(os:List Row):Prop:=∃dS:List (List Int),XD bG z dS/\∀r,r∈os↔∃hs∈dS,r=eC hs n
def Me{os:List Row}(hl:bG.length=b_.length)(h:∀i os,b_[i]?=some os->PF n bG (bG.getD i 0) os)(o:PF n bG z os):∀i DV,(b_++[os])[i]?=some DV->PF n (bG++[z]) ((bG++[z]).getD i 0) DV:=λ i DV e=>by
 have up:∀{z' os},PF n bG z' os->PF n (bG++[z]) z' os:=λ⟨dS,a,b⟩=>⟨dS,a.app _,b⟩;by_cases lt:i<b_.length
 ·rw[c4 lt]at e;rw[c3,c4 (),<- c3];exact up (h i DV e)
 ·rw[b9 ()]at e;have i0:i-b_.length=0:=by have:=(c7.mp e).1;simp at this;lia
  rw[i0]at e;cases e;have e2:(bG++[z]).getD i 0=z:=by rw[c3,b9 (),hl,i0];rfl
  rw[e2];exact up o
def MR(ns:List Int):ip 0 ns=0\/ip 0 ns∈ns:=by
 cases ns with
 |nil=>exact .inl rfl
 |cons n ns=>
  rcases(foldl_max ns n).2.2 with e|e
  ·refine .inr ?_;show ns.foldl max n∈n::ns;rw[e];exact o7 ..
  ·exact .inr (k7 _ e)
def CS(hs:List Int)(n j:Nat):(eC hs n).getD j 0=if j<n then((hs.count (j:Int):Nat):Int)else 0:=by
 unfold eC;rw[c3,u6];split
 ·next h=>rw[l9 h];rfl
 ·next h=>rw[k5 (by rw[x4];lia)];rfl
def AR{as:Row}{vs:Cs}(h:∀j,as.getD j 0=0):xd as vs=0:=ii λ z=>by obtain⟨j,_,_,h3,_⟩:=pJ (Nat.testBit_log2 z);rw[h j]at h3;exact be h3 (by decide)
def wU{v:Int}(hp:∀x∈bG,0<=x)(hl:bG.length=n)(h:oI bG z v hs)(v0:0<=v):xd (eC hs n) (bG.map Int.toNat)=v.toNat/\(big (eC hs n) (bG.map Int.toNat)=true↔1<v.toNat):=by
 have gm:∀y,(bG.map Int.toNat).getD y 0=(bG.getD y 0).toNat:=λ y=>by rw[c3,u6,c3];cases bG[y]?<;>rfl
 rcases h with⟨rfl,rfl,_⟩|⟨y,rfl,hy,e,_⟩
 ·have c0:∀j,(eC [] n).getD j 0=0:=λ j=>by rw[CS];split<;>rfl
  refine⟨AR c0,?_⟩;rw[cQ];refine⟨λ⟨j,h1,_⟩=>?_,λ h=>be h (by decide)⟩;rw[c0 j]at h1;lia
 ·have ca:∀j,(eC [(y:Int)] n).getD j 0=if j=y then 1 else 0:=λ j=>by
   rw[CS];by_cases w:j=y
   ·subst w;rw[K1 (),K1 rfl];simp
   ·rw[K3 w];split
    ·have:¬(y:Int)=(j:Int):=()
     simp[this]
    ·rfl
  have es:(bG.map Int.toNat).getD y 0=v.toNat:=by rw[gm,e]
  constructor
  ·have a:=yW (as:=eC [(y:Int)] n) (vs:=bG.map Int.toNat) (h:=y) (by rw[qU];lia) (by rw[B3];exact hy);rw[AR (λ j=>?_),es]at a
   ·exact AQ.mp a.symm
   ·rw[c3,getElem?_set];by_cases w:y=j
    ·subst w;rw[K1 rfl,ca,K1 rfl];split<;>rfl
    ·rw[K3 w,<- c3,ca,K3 (J9 w)]
  ·rw[cQ];constructor
   ·rintro⟨j,h1,h2⟩;rw[ca]at h1;split at h1
    ·next w=>rw[w,es]at h2;exact h2
    ·lia
   ·intro h;exact⟨y,by rw[ca,K1 rfl];decide,by rw[es];exact h⟩
def ML(hz:zs.length=n)(hs:bG.length=n)(ho:b_.length=n)(hp:∀x∈bG,0<=x)(h:∀i os,b_[i]?=some os->PF n bG (bG.getD i 0) os):rL n (zs.zip b_) (bG.map Int.toNat):=by
 have gm:∀y,(bG.map Int.toNat).getD y 0=(bG.getD y 0).toNat:=λ y=>by rw[c3,u6,c3];cases bG[y]?<;>rfl
 have gh:∀i,i<n->((zs.zip b_).getD i fG).2=b_.getD i []/\b_[i]?=some (b_.getD i []):=λ i hi=>by rw[c3,g9 (by rw[length_zip];lia),c3,g9 ()];simp
 refine⟨by rw[B3];exact hs,λ i o hi mh=>?_,λ i v hi hv=>?_,λ i o hi mh=>?_⟩
 ·obtain⟨e1,e2⟩:=gh i hi;rw[e1]at mh;obtain⟨dS,F,m⟩:=h i _ e2;obtain⟨ks,k1,rfl⟩:=(m o).mp mh;obtain⟨v,v0,vz,nr⟩:=F.all ks k1;exact⟨v.toNat,by rw[gm];lia,wU hp hs nr v0⟩
 ·obtain⟨e1,e2⟩:=gh i hi;rw[e1];obtain⟨dS,F,m⟩:=h i _ e2;rw[gm]at hv;obtain⟨ks,k1,nr⟩:=F.Kj (v:Int) () ();exact⟨eC ks n,(m _).mpr ⟨ks,k1,rfl⟩,wU hp hs nr ()⟩
 ·obtain⟨e1,e2⟩:=gh i hi;rw[e1]at mh;obtain⟨dS,F,m⟩:=h i _ e2;obtain⟨ks,k1,rfl⟩:=(m o).mp mh;obtain⟨v,v0,vz,nr⟩:=F.all ks k1;have:=qV (ns:=ks) (n:=n);rcases nr with⟨rfl,_⟩|⟨y,rfl,_⟩
  ·exact Int.le_trans this (by decide)
  ·exact this
structure Nm(a c p s o:ap)(zs:List Str)(bG:List Int)(b_:List (List Row))(M M':Mem):Prop where
 fl:Fl a c M M'
 np:M' p=some (.lst (zs.map D.str))
 sz:M' s=some (.lst (bG.map D.int))
 op:M' o=some (.lst (b_.map O0))
structure Nn(a p s o:ap)(M:Mem):Prop where
 pa:p≠a
 sa:s≠a
 oa:o≠a
 ps:p≠s
 po:p≠o
 so:s≠o
 ms:M s=none
 mo:M o=none
section
variable {s o r:ap}{M2:Mem}{x:MO}
def Nm.on(h:Nm a c p s o zs bG b_ M M')(k:Nn a p s o M)(g:Fl a c M' M2):Nm a c p s o zs bG b_ M M2:=⟨h.fl.trans g,g.mv _ _ k.pa h.np,g.mv _ _ k.sa h.sz,g.mv _ _ k.oa h.op⟩
def Nm.new(h:Nm a c p s o zs bG b_ M M')(k:Nn a p s o M)(hq:M' q=none):Nm a c p s o zs bG b_ M (ag M' q x):=h.on k (Fl.put h.fl.bS hq)
def Nm.free(h:Nm a c p s o zs bG b_ M M')(hq:M' q=none):q≠a/\p≠q/\s≠q/\o≠q/\M q=none:=by
 have qa:=(h.fl.bS.ne hq).1;refine⟨qa,aM h.np hq,aM h.sz hq,aM h.op hq,?_⟩;cases z:M q with
 |none=>rfl
 |some u=>rw[h.fl.mv q u qa z]at hq;cases hq
def Nm.own(h:Nm a c p s o zs bG b_ M M')(hF:Flow M a c)(hr:r≠a/\p≠r/\s≠r/\o≠r/\M r=none):Nm a c p s o zs bG b_ M (ag M' r x):=
 ⟨Fl.own h.fl hF hr.2.2.2.2,by rw[ah hr.2.1];exact h.np,by rw[ah hr.2.2.1];exact h.sz,by rw[ah hr.2.2.2.1];exact h.op⟩
end
def qq:∀{l:List Int},(∀x∈l,0<=x)->(l.map Int.toNat).map nD=l.map D.int
 |[],_=>rfl
 |x::l,h=>by have h0:=h x o7;rw[C8,C8,C8,qq λ y hy=>h y (k7 _ hy)];show D.int (x.toNat:Int)::_=_;rw[show((x.toNat:Nat):Int)=x by lia]
def RU(F:hW K "_law_nim" "_law_nim" (top 32) f fd)(T:iK K mg)(aE:bY P w K mg base 1 "_law_pick" ["_law_flow_here","_law_many"] iW)(yc:bY P w K mg base 3 "_law_names" ["_law_flow_here","_law_many"] Be)(iw:bY P w K mg base 1 "_law_counts" ["_law_heaps","_law_many"] pW)(qQ:bY P w K mg base 4 "_law_in_order" ["_law_sums"] wb):bB P w K mg base dX 5 f fd ["_law_flow_here","_law_most"] (bZ K OE):=by
 refine kJ F ["_law_flow_here","_law_most","_law_many","_law_names_here","_law_sizes","_law_options","_law_h","_law_size","_law_rows","_law_one","_law_some"] (λ dj A outer s H E ds M Q nd hr h=>?_)
 ·obtain⟨a,cc,m,rfl,hF,bM,hm,k⟩:=h;refine⟨_,(aa (aw 2 (bx bA ak (aI aE (dm (ai 0) (ai 1)))))
 (aa (aw 3 (aI yc (dm (ai 0) (ai 2))))
 (aa (aw 4 (cj bO))
 (aa (aw 5 (cj bO))
 (aa (df (bf T.range (bC (ai 2))) (aS 6)
 (aa (aw 7 (aX (PC rfl) T.min (dm ak (aI aE (dm (ai 0) (bx bA ak (PY rfl (by rfl) T.max (ai 4))))))))
 (aa (aw 8 (bx i_ (cj (bC (cj bO))) (cb vp T.int (bC (eW HS (ai 7) ak)))))
 (aa (df (bf T.range (bC (ai 7))) (aS 9)
 (aa (cB 10 (oN [4,9] (bf T.range (bC (ai 6))) (oM (aN (iF hr.units) (aF aL (ai 1) (ai 0)) (ai 2))) (cj (bC (ai 0)))))
 (aj (cM (tK (aN (VX hr.units) (ai 10) (cj bO)) (oK (Fy (aN HS (ai 9) ak) (zg (aN (iF hr.units) (aI aE (dm (ai 0) ak)) ak))).pt)).pt
 (aj (cC (gf i5 c9 i4 bU (ai 8) (bC (aF aL (ai 10) (aI aE (dm (ai 0) (aX d_ T.len (bC (ai 10))))))))))
 br))))
 (aa (cC (gf i5 c9 i4 bU (ai 4) (bC (ai 7))))
 (aj (cC (gf i5 c9 i4 bU (ai 5) (bC (aI qQ (bC (hX (oN [2] (cK (ai 8)) aZ (aI iw (dm (ai 0) (ai 1))))))))))))))))
 (aj (aJ (dY (dm (fL bK ck T.tuple (oN [3,5] (bf T.range (bC (ai 2))) aZ (dY (dm (aF aL (ai 1) (ai 0)) (aF aL (ai 2) (ai 0)))))) (ai 4)))))))))),?_⟩
  symm;refine⟨a,cc,m,rfl,hF,(),(),λ d o h0 h1 NG=>?_⟩;have F1:Fl a cc M _:=Fl.pick NG;generalize ag M a o=M1 at*;obtain⟨n,en⟩:∃n:Nat,1+d=(n:Int):=⟨(1+d).toNat,()⟩;symm;rw[en];refine⟨a,cc,n,rfl,F1.bS,(),λ p zs M2 hz hp W4 F2=>?_⟩;have F3:=F1.trans F2;have Ur:=(F1.bS.ne hp).1;symm;refine⟨by decide,λ s hs=>?_⟩;have hsa:=(F3.bS.ne hs).1;have F4:=F3.trans (Fl.put (o:=.lst []) F3.bS hs);have hsM:M s=none:=by
   cases z:M s with
   |none=>rfl
   |some u=>rw[F3.mv s u hsa z]at hs;cases hs
  have Ai:=aM W4 hs;have W4:ag M2 s (.lst []) p=some (.lst (zs.map D.str)):=by rw[ah Ai];exact W4
  have hMs:ag M2 s (.lst []) s=some (.lst (([]:List Int).map D.int)):=ae;generalize ag M2 s (.lst [])=M3 at*;symm;refine⟨by decide,λ o ho=>?_⟩;have hoa:=(F4.bS.ne ho).1;have hoM:M o=none:=by
   cases z:M o with
   |none=>rfl
   |some u=>rw[F4.mv o u hoa z]at ho;cases ho
  have Ww:=aM W4 ho;have Yf:=aM hMs ho;have NN:Nn a p s o M:=⟨Ur,hsa,hoa,Ai,Ww,Yf,hsM,hoM⟩;have N0:Nm a cc p s o zs [] [] M (ag M3 o (.lst [])):=⟨F4.trans (Fl.put F4.bS ho),by rw[ah Ww];exact W4,by rw[ah Yf];exact hMs,ae⟩;generalize ag M3 o (.lst [])=M4 at*;symm;refine⟨cW () (),?_⟩;rw[u9];refine gL (λ j δ M'=>∃(v6 v7 v8 v9 v10:Option D)(bG:List Int)(b_:List (List Row)),δ=[some (.ref a),some (.int m),some (.int n),some (.ref p),some (.ref s),some (.ref o),v6,v7,v8,v9,v10]/\Nm a cc p s o zs bG b_ M M'/\bG.length=j/\(∀x∈bG,0<=x/\x<=4)/\b_.length=j/\(∀i os,b_[i]?=some os->os.length<=20/\∀r∈os,vF n i r)/\(∀i os,b_[i]?=some os->PF n bG (bG.getD i 0) os)/\(∀v w:Int,1<=v->v<=w->w∈bG->v∈bG)) ⟨none,none,none,none,none,[],[],rfl,N0,rfl,(λ x h=>by cases h),rfl,(λ i os h=>by simp at h),(λ i os h=>by simp at h),(λ v w _ _ h=>by cases h)⟩ (λ j d δ M' hd h=>?_) (λ δ M' h=>?_)
  ·obtain⟨v6,v7,v8,v9,v10,bG,b_,rfl,N1,Nt,hsz,IZ,Ex,hov,dn⟩:=h;obtain⟨hj,rfl⟩:=fz hd;have hmx:=uD (b:=4) (by decide) λ x hx=>(hsz x hx).2;have aex:=xf λ x hx=>(hsz x hx).1;have hMs:=N1.sz;have hmi:=MR bG;symm;generalize ip 0 bG=mx at*;refine⟨a,cc,2+mx,rfl,N1.fl.bS,(),(),λ d1 o1 d10 d11 UA=>?_⟩;have N1:=N1.on NN (Fl.pick UA);generalize ag M' a o1=M5 at*;symm;have Z8:0<=(if d1<4 then d1 else 4)/\(if d1<4 then d1 else 4)<=4:=by split<;>lia
   have hz1:(if d1<4 then d1 else 4)<=1+mx:=by split<;>lia
   generalize(if d1<4 then d1 else 4)=z at*;have down:∀v:Int,1<=v->v<z->v∈bG:=λ v v1 vz=>hmi.elim (λ e=>by lia) λ e=>dn v mx v1 () e;refine⟨by decide,λ p0 fG=>?_⟩;have f0:=N1.free fG;have N1:=N1.new NN fG (x:=.lst []);have g0:ag M5 p0 (.lst []) p0=some (.lst (([]:List Int).map D.int)):=ae;generalize ag M5 p0 (.lst [])=M6 at*;symm;refine⟨by show 1<=sizeLine;decide,λ p1 xG=>?_⟩;have g1:=aM g0 xG;have N1:=N1.new NN xG (x:=.lst [.ref p0]);have g0:ag M6 p1 (.lst [.ref p0]) p0=some (.lst (([]:List Int).map D.int)):=by rw[ah g1];exact g0
   have g1:ag M6 p1 (.lst [.ref p0]) p1=some (.lst [.ref p0]):=ae;generalize ag M6 p1 (.lst [.ref p0])=M7 at*;symm;have tz:0<z->(if decide (0<z)=true then(1:Int)else 0)=1:=λ h=>K1 (B8 h);have tn:¬0<z->(if decide (0<z)=true then(1:Int)else 0)=0:=λ h=>K3 (by rw[bn];exact h);have ht:(0:Int)<=(if decide (0<z)=true then 1 else 0)/\(if decide (0<z)=true then(1:Int)else 0)<=1:=by split<;>lia
   generalize(if decide (0<z)=true then(1:Int)else 0)=t at*;refine GA g1 () () λ r hr=>?_;have fr:=N1.free hr;have N1:=N1.new NN hr (x:=.lst (List.replicate t.toNat (.ref p0)));have gr:ag M7 r (.lst (List.replicate t.toNat (.ref p0))) r=some (.lst ((List.replicate t.toNat p0).map D.ref)):=by rw[ae,map_replicate]
   have R0:oH a (ag M7 r (.lst (List.replicate t.toNat (.ref p0)))) (List.replicate t.toNat p0) (List.replicate t.toNat []):=by refine⟨by rw[k4,k4],λ i q hs h1 h2=>?_⟩;rw[eq_of_mem_replicate (k8 h1),eq_of_mem_replicate (k8 h2)];exact⟨f0.1,by rw[ah (aM g0 hr)];exact g0⟩
   have W0:Km bG z 0 (List.replicate t.toNat []):=by
    refine⟨λ hs h=>?_,λ h=>?_,λ v v1 v0=>by lia⟩
    ·rw[eq_of_mem_replicate h];have zp:0<z:=Decidable.byContradiction λ w=>by rw[tn w]at h;cases h
     exact⟨0,(),zp,.inl ⟨rfl,rfl,zp⟩⟩
    ·exact⟨[],by rw[tz h];simp,.inl ⟨rfl,rfl,h⟩⟩
   have f1:∀q∈List.replicate t.toNat p0,q≠s:=λ q hq=>by rw[eq_of_mem_replicate hq];exact J9 f0.2.2.1
   have l0:(List.replicate t.toNat p0).length<=1:=by rw[k4];lia
   generalize List.replicate t.toNat p0=qs at*;generalize(List.replicate t.toNat []:List (List Int))=dS at*;generalize ag M7 r (.lst (List.replicate t.toNat (.ref p0)))=M8 at*;symm;refine⟨cW () (),?_⟩;refine gL (λ i δ M'=>∃(v9 v10:Option D)(qs:List ap)(dS:List (List Int)),δ=[some (.ref a),some (.int m),some (.int n),some (.ref p),some (.ref s),some (.ref o),some (.int (0+(j:Nat))),some (.int z),some (.ref r),v9,v10]/\Nm a cc p s o zs bG b_ M M'/\M' r=some (.lst (qs.map D.ref))/\oH a M' qs dS/\Km bG z i dS/\(∀q∈qs,q≠s)/\qs.length<=1+i) ⟨v9,v10,qs,dS,rfl,N1,gr,R0,W0,f1,l0⟩ (λ i d δ M' hd h=>?_) (λ δ M' h=>?_)
   ·clear W0 R0;obtain⟨v9,v10,qs,dS,rfl,N1,gr,R1,W0,f1,l1⟩:=h;obtain⟨hi,rfl⟩:=fz hd;symm;refine⟨cW () (),?_⟩;rw[show(0+(j:Int)).toNat=j by lia];refine nE (λ k li M'=>∃(gs:List ap)(ys:List Nat),li=gs.map D.ref/\Nm a cc p s o zs bG b_ M M'/\M' r=some (.lst (qs.map D.ref))/\oH a M' qs dS/\oH a M' gs (ys.map λ y:Nat=>[(y:Int)])/\(∀y∈ys,y<bG.length/\bG.getD y 0=(i:Int))/\(∀y:Nat,y<k->bG.getD y 0=(i:Int)->ys≠[])/\(∀q∈gs,q≠r/\q≠s)/\gs.length<=k) ⟨[],[],rfl,N1,gr,R1,oH.nil,(λ y h=>by cases h),(λ y h=>be h ()),(λ q h=>by cases h),G7 _⟩ (λ i li M' hi h=>?_) (λ y d li M' hd h=>?_) (λ li M' h=>?_)
    ·obtain⟨gs,ys,rfl,N2,g2,R2,S2,Um,Wi,Pe,l2⟩:=h;rw[bj]at hi;rw[B3];exact small ()
    ·obtain⟨gs,ys,rfl,N2,g2,R2,S2,Um,Wi,Pe,l2⟩:=h;obtain⟨hg,rfl⟩:=fz hd;symm;refine cq N2.sz (d:=.int (bG.getD y 0)) (by rw[D4];exact mF ()) ?_;symm;refine bE (λ hyi=>?_) (λ hyi=>?_)
     ·symm;refine⟨by show 1<=sizeLine;decide,λ q hq=>⟨gs++[q],ys++[y],by rw[B5];rfl,N2.new NN hq,by rw[ah (aM g2 hq)];exact g2,R2.new hq,?_,λ x hx=>?_,λ _ _ _=>by simp,λ x hx=>?_,by rw[p4,j9];lia⟩⟩
      ·rw[B5];refine(S2.new hq).add (N2.free hq).1 ?_;rw[ae,D4];rfl
      ·rcases B4.mp hx with e|e
       ·exact Um x e
       ·rw[q8.mp e];exact⟨(),()⟩
      ·rcases B4.mp hx with e|e
       ·exact Pe x e
       ·rw[q8.mp e];exact⟨J9 (aM g2 hq),J9 (N2.free hq).2.2.1⟩
     ·refine⟨gs,ys,rfl,N2,g2,R2,S2,Um,λ y' Fh e=>?_,Pe,()⟩;by_cases w:y'=y
      ·subst w;exact be () hyi
      ·exact Wi y' () e
    ·obtain⟨gs,ys,rfl,N2,g2,R2,S2,Um,Wi,Pe,l2⟩:=h;rw[bj]at l2 Wi;have hyn:gs=[]->(i:Int)∉bG:=λ e jq=>by
      obtain⟨y,hy⟩:=ga jq;have lt:=(c7.mp hy).1;have ny:=Wi y () (by rw[c3,hy];rfl);have:=S2.1;rw[e]at this;cases ys with
      |nil=>exact ny rfl
      |cons _ _=>simp at this
     have hiz:(i:Int)<z:=()
     intro t ht;have Z5:=(N2.free ht).1;have N3:=N2.new NN ht (x:=.lst (gs.map D.ref));have g3:ag M' t (.lst (gs.map D.ref)) r=some (.lst (qs.map D.ref)):=by rw[ah (aM g2 ht)];exact g2
     have R3:=R2.new ht (o:=.lst (gs.map D.ref));have S3:=S2.new ht (o:=.lst (gs.map D.ref));have gt:ag M' t (.lst (gs.map D.ref)) t=some (.lst (gs.map D.ref)):=ae;generalize ag M' t (.lst (gs.map D.ref))=M8 at*;symm;refine⟨by decide,λ u hu=>?_⟩;have N4:=N3.new NN hu (x:=.lst []);have g4:ag M8 u (.lst []) r=some (.lst (qs.map D.ref)):=by rw[ah (aM g3 hu)];exact g3
     have R4:=R3.new hu (o:=.lst []);have S4:=S3.new hu (o:=.lst []);have gt:ag M8 u (.lst []) t=some (.lst (gs.map D.ref)):=by rw[ah (aM gt hu)];exact gt
     refine QN gt ae (λ q hq=>by obtain⟨i,hi⟩:=ga hq;obtain⟨hs,_,_,h⟩:=S4.at hi;exact⟨hs,h⟩) ?_;generalize ag M8 u (.lst [])=M9 at*;cases gs with
     |nil=>symm;exact⟨_,_,qs,dS,rfl,N4,g4,R4,W0.no (.inr (hyn rfl)),f1,()⟩
     |cons q0 gs=>
      symm;refine bE (λ WN=>?_) (λ WN=>?_)
      ·symm;refine⟨⟨rfl,_,g4⟩,?_⟩;symm;rw[B3];refine⟨a,cc,((q0::gs).length:Nat),rfl,N4.fl.bS,by rw[y6];lia,(),λ d2 o2 d20 d21 W9=>?_⟩;have P6:=Fl.pick W9;have N4:=N4.on NN P6;have R4:=R4.keep P6.mv;have S4:=S4.keep P6.mv;have g4:=P6.mv _ _ fr.1 g4;have gt:=P6.mv _ _ Z5 gt;generalize ag M9 a o2=M10 at*;obtain⟨y,rfl⟩:∃y:Nat,d2=(y:Int):=⟨d2.toNat,()⟩;have hy:y<(q0::gs).length:=()
       have hm:(q0::gs)[y]∈q0::gs:=A2 hy;obtain⟨hs,Wn,qa,hq⟩:=S4.at (g9 hy);rw[u6]at Wn;obtain⟨yy,ZR,rfl⟩:=ce.mp Wn;obtain⟨YR,YQ⟩:=Um yy (k8 ZR);have Ws:=Pe _ hm;refine cq gt (d:=.ref (q0::gs)[y]) (bc (by rw[u6,g9 hy];rfl)) ?_;generalize(q0::gs)[y]=q at*;symm;refine dJ g4 (by rw[B3];exact p8 (show qs.length<=100 by lia) (by decide)) ?_;symm;exact⟨_,_,qs++[q],dS++[[(yy:Int)]],rfl,N4.own hF fr,by rw[ae,B5];rfl,(R4.put g4).add qa (by rw[ah Ws.1];exact hq),W0.add YR YQ hiz,(λ x hx=>(B4.mp hx).elim (f1 x) λ e=>by rw[q8.mp e];exact Ws.2),by rw[p4,j9];lia⟩
      ·symm;refine⟨a,cc,2,rfl,N4.fl.bS,by decide,by decide,λ d3 o3 d30 d31 hF7=>?_⟩;have P7:=Fl.pick hF7;have N4:=N4.on NN P7;have R4:=R4.keep P7.mv;have S4:=S4.keep P7.mv;have g4:=P7.mv _ _ fr.1 g4;have gt:=P7.mv _ _ Z5 gt;generalize ag M9 a o3=M9 at*;symm;refine bE (λ _=>?_) (λ _=>?_)
       ·symm;refine⟨⟨rfl,_,g4⟩,?_⟩;symm;rw[B3];refine⟨a,cc,((q0::gs).length:Nat),rfl,N4.fl.bS,by rw[y6];lia,(),λ d2 o2 d20 d21 W9=>?_⟩;have P6:=Fl.pick W9;have N4:=N4.on NN P6;have R4:=R4.keep P6.mv;have S4:=S4.keep P6.mv;have g4:=P6.mv _ _ fr.1 g4;have gt:=P6.mv _ _ Z5 gt;generalize ag M9 a o2=M10 at*;obtain⟨y,rfl⟩:∃y:Nat,d2=(y:Int):=⟨d2.toNat,()⟩;have hy:y<(q0::gs).length:=()
        have hm:(q0::gs)[y]∈q0::gs:=A2 hy;obtain⟨hs,Wn,qa,hq⟩:=S4.at (g9 hy);rw[u6]at Wn;obtain⟨yy,ZR,rfl⟩:=ce.mp Wn;obtain⟨YR,YQ⟩:=Um yy (k8 ZR);have Ws:=Pe _ hm;refine cq gt (d:=.ref (q0::gs)[y]) (bc (by rw[u6,g9 hy];rfl)) ?_;generalize(q0::gs)[y]=q at*;symm;refine dJ g4 (by rw[B3];exact p8 (show qs.length<=100 by lia) (by decide)) ?_;symm;exact⟨_,_,qs++[q],dS++[[(yy:Int)]],rfl,N4.own hF fr,by rw[ae,B5];rfl,(R4.put g4).add qa (by rw[ah Ws.1];exact hq),W0.add YR YQ hiz,(λ x hx=>(B4.mp hx).elim (f1 x) λ e=>by rw[q8.mp e];exact Ws.2),by rw[p4,j9];lia⟩
       ·symm;exact⟨_,_,qs,dS,rfl,N4,g4,R4,W0.no (.inl ()),f1,()⟩
   ·clear W0 R0;obtain⟨v9,v10,qs,dS,rfl,N1,gr,R1,W0,f1,l1⟩:=h;rw[bj]at l1;symm;refine⟨⟨rfl,_,N1.sz⟩,?_⟩;symm;refine dJ N1.sz (by rw[B3];exact p8 (show bG.length<=100 by lia) (by decide)) ?_;have N2:Nm a cc p s o zs (bG++[z]) b_ M (ag M' s (.lst (bG.map D.int++[.int z]))):=⟨Fl.own N1.fl hF hsM,by rw[ah Ai];exact N1.np,by rw[ae,B5];rfl,by rw[ah (J9 Yf)];exact N1.op⟩;have R2:oH a (ag M' s (.lst (bG.map D.int++[.int z]))) qs dS:=R1.mov f1;have WF:=W0.full down (by rw[bj];lia);have gr:ag M' s (.lst (bG.map D.int++[.int z])) r=some (.lst (qs.map D.ref)):=by rw[ah (J9 fr.2.2.1)];exact gr
    generalize ag M' s (.lst (bG.map D.int++[.int z]))=M9 at*;symm;refine⟨⟨rfl,_,N2.op⟩,?_⟩;symm;refine yr (ds:=qs.map D.ref) (λ i li M'=>M'=M9/\∃os:List Row,li=os.map row/\os.length<=i/\(∀r∈os,vF n j r)/\os=(dS.take i).map λ hs=>eC hs n) ⟨rfl,[],rfl,G7 _,(λ r h=>by cases h),by simp⟩ (λ i li M' hi h=>?_) (λ i li M' hi h=>?_) (λ i d li M' hd h=>?_) (λ li M' h=>?_)
    ·obtain⟨rfl,_⟩:=h;exact gr
    ·obtain⟨rfl,os,rfl,o1,_,_⟩:=h;rw[B3]at hi ⊢;exact small ()
    ·obtain⟨rfl,os,rfl,o1,o2,o3⟩:=h;rw[u6]at hd;cases e:qs[i]? with
     |none=>rw[e]at hd;cases hd
     |some q=>
      rw[e]at hd;cases hd;obtain⟨hs,ehs,Uq,Pk⟩:=R2.at e;obtain⟨v,_,_,nr⟩:=WF.all hs (k8 ehs);obtain⟨hh,hx⟩:=nr.ok;rw[Nt]at hx;symm;refine⟨q,hs,n,rfl,Pk,(),rfl,os++[eC hs n],by rw[B5];rfl,by rw[p4,j9];lia,λ r hr=>?_,by rw[o3,take_snoc ehs,B5];rfl⟩;rcases B4.mp hr with z|z
      ·exact o2 r z
      ·rw[q8.mp z];exact HE hh hx
    ·obtain⟨rfl,os,rfl,o1,o2,o3⟩:=h;rw[B3]at o1 o3;rw[R2.1,y8]at o3;have OV:∀out:List Row,(∀r∈out,r∈os)->(∀r∈os,r∈out)->PF n bG z out:=λ out a b=>⟨dS,WF,λ r=>by
      have e:r∈os↔∃hs∈dS,r=eC hs n:=by rw[o3,D8];exact⟨λ⟨x,h1,h2⟩=>⟨x,h1,h2.symm⟩,λ⟨x,h1,h2⟩=>⟨x,h1,h2.symm⟩⟩
      exact⟨λ h=>e.mp (a r h),λ h=>b r (e.mpr h)⟩⟩
     intro p2 eZ;have N3:=N2.new NN eZ (x:=.lst (os.map row));symm;refine⟨_,os,rfl,.inr ⟨p2,rfl,ae⟩,(),λ r hr=>by rw[(o2 r hr).len];lia,λ out ho Yh aes=>?_⟩;generalize ag M' p2 (.lst (os.map row))=M11 at*;symm;refine dJ N3.op (by rw[B3];exact p8 (show b_.length<=100 by lia) (by decide)) ?_;symm;refine⟨_,_,_,_,_,bG++[z],b_++[out],rfl,⟨Fl.own N3.fl hF hoM,by rw[ah Ww];exact N3.np,by rw[ah Yf];exact N3.sz,by rw[ae,B5];rfl⟩,by rw[p4,j9,Nt],λ x hx=>?_,by rw[p4,j9,IZ],Mg Ex () (λ r hr=>by rw[IZ];exact o2 r (ho r hr)),Me () hov (OV out ho Yh),λ v w v1 vw hw=>?_⟩
     ·rcases B4.mp hx with e|e
      ·exact hsz x e
      ·rw[q8.mp e];exact Z8
     ·rcases B4.mp hw with e|e
      ·exact k9 _ (dn v w v1 vw e)
      ·rw[q8.mp e]at vw;by_cases q:v=z
       ·rw[q];exact j8 _ o7
       ·exact k9 _ (down v v1 ())
  ·obtain⟨v6,v7,v8,v9,v10,bG,b_,rfl,N1,Nt,hsz,IZ,Ex,hov,dn⟩:=h;rw[bj]at IZ;symm;refine⟨cW () (),?_⟩;rw[u9];refine fj (xs:=List.range n) (enc:=Lb) (λ i=>qE (zs.getD i (cS ""),b_.getD i [])) (by simp;lia) (λ i x N hx hN=>?_) ?_
   ·have hi:=(c7.mp hx).1;have Pb:x=i:=by rw[l9 (by simpa using hi)]at hx;exact(B0 hx).symm
    subst Pb;rw[x4]at hi;symm;refine cq N1.np (d:=.str (zs.getD x (cS ""))) (by rw[D4];exact bc (by rw[u6,g9 (),c3,g9 ()];rfl)) ?_;symm;refine cq N1.op (d:=O0 (b_.getD x [])) (by rw[D4];exact bc (by rw[u6,g9 (),c3,g9 ()];rfl)) ?_;symm;exact⟨by show 2<=sizeLine;decide,hN⟩
   ·rw[Fo hz IZ];symm;exact⟨by show 2<=sizeLine;decide,av (k n _ _ (bG.map Int.toNat) _ () () (NL () hz IZ Ex) (by rw[B3,Nt,bj]) (λ x hx=>by obtain⟨y,hy,rfl⟩:=D8.mp hx;have:=hsz y hy;lia) (ML hz (by rw[Nt,bj]) IZ (λ x hx=>(hsz x hx).1) hov) hsM (by rw[N1.sz,qq λ x hx=>(hsz x hx).1]) N1.fl)⟩
structure vQ(g:List aW)(n:Nat)(w:Bool)(U:List Row)(kvs:List (Row×D)):Prop where
 nd:(kvs.map (·.1)).Nodup
 ku:∀p∈kvs,p.1∈U/\p.2=.bl (gH g n w p.1)
def vQ.gw{w:Bool}{kvs:List (Row×D)}(h:vQ g n w U kvs):kvs.length<=U.length:=by
 have:=bv h.nd (l₂:=U) λ r hr=>by obtain⟨p,hp,rfl⟩:=D8.mp hr;exact(h.ku p hp).1
 simpa using this
def vQ.nil{w:Bool}:vQ g n w U []:=⟨nodup_nil,λ p h=>by cases h⟩
def vQ.look{w:Bool}{kvs:List (Row×D)}(h:vQ g n w U kvs){as:Row}(ha:as∈kvs.map (·.1)):cF (pA kvs) (row as)=some (.bl (gH g n w as)):=by
 rw[xh];obtain⟨p,hp,rfl⟩:=D8.mp ha;cases e:kvs.find? λ q=>q.1==p.1 with
 |none=>have:=find?_eq_none.mp e p hp;simp at this
 |some q=>
  have h1:q.1=p.1:=by simpa using find?_some e
  have h2:=(h.ku q (mem_of_find?_eq_some e)).2;rw[h1]at h2;rw[Option.map_some,h2]
set_option tactic.hygienic true in
def vQ.put{w:Bool}{kvs:List (Row×D)}(h:vQ g n w U kvs){as:Row}(ha:as∈U):∃cT,putD (pA kvs) (row as) (.bl (gH g n w as))=pA cT/\vQ g n w U cT/\as∈cT.map (·.1):=by
 by_cases jq:as∈kvs.map (·.1)
 ·refine⟨kvs,?_,h,jq⟩;unfold putD;rw[uF,K1 (by simpa using jq)];unfold pA;rw[D9];refine n9 λ p hp=>?_;show(if row p.1=row as then(row p.1,_)else(row p.1,p.2))=_;split
  ·rename_i e;rw[(h.ku p hp).2,Bo e]
  ·rfl
 ·refine⟨kvs++[(as,.bl (gH g n w as))],LS _ jq,⟨?_,λ p hp=>?_⟩,by simp⟩
  ·rw[B5];exact nodup_append.mpr ⟨h.nd,by simp,λ a ha b hb z=>jq (by simp at hb;rw[<- hb,<- z];exact ha)⟩
  ·rcases B4.mp hp with q|q
   ·exact h.ku p q
   ·rw[q8.mp q];exact⟨ha,rfl⟩
def rk(g:List aW)(n:Nat)(U:List Row)(as:Row):Nat:=(vL g n as).toNat
def Vo(G:eI n g){as c:Row}(ha:k_ n as)(hc:c∈fe g n as)(hU:c∈U):rk g n U c<rk g n U as:=by have h:=uq G ha hc;have:=jK G (mU G ha hc);unfold rk;lia
def fK:Str:=cS "wins"
def KS(k:Nat):dW:=λ ds M Q=>∃(n:Nat)(g:List aW)(as:Row)(z:Str)(kn:ap)(U:List Row)(kvs:List (Row×D)),ds=[j' g,row as,.str z,.ref kn]/\eI n g/\as∈U/\(∀b∈U,k_ n b)/\(∀b∈U,∀c∈fe g n b,c∈U)/\U.length<=5000/\rk g n U as<k/\M kn=some (.bX true (pA kvs))/\vQ g n (decide (z=fK)) U kvs/\∀(cT:List (Row×D))(M':Mem),M' kn=some (.bX true (pA cT))->vQ g n (decide (z=fK)) U cT->(∀b o,b≠kn->M b=some o->M' b=some o)->Q (.bl (gH g n (decide (z=fK)) as)) M'
def Qr:∀ds M Q,¬KS 0 ds M Q:=λ ds M Q ⟨_,_,_,_,_,_,_,_,_,_,_,_,_,h,_⟩=>be h (Nat.not_lt_zero _)
def RV(F:hW K "_law_loses" "_law_loses" (top 37) f fd)(T:iK K mg)(yd:bY P w K mg base 2 "_law_moves" ["_law_game","_law_counts_here"] Bf)(hm0:mg "_law_loses"=some (.ref f))(W2:Binds K fd ["_law_game","_law_counts_here","_law_last","_law_known"] []):∀k,bB P w K mg base dX (k+3) f fd ["_law_game","_law_counts_here","_law_last","_law_known"] (bZ K (KS k)):=by
 intro k
 induction k with
 |zero=>exact NQ Qr
 |succ k ih=>
 have gA:=gC.of F ih hm0 W2;rw[show k+1+3=k+3+1 by lia];clear ih;refine kJ F ["_law_game","_law_counts_here","_law_last","_law_known","_law_later"] (λ dj A outer s H E ds M Q nd hr h=>?_)
 ·obtain⟨n,g,as,z,kn,U,kvs,rfl,G,hU,hUs,hUc,hUl,hk,Pn,hK,kQ⟩:=h;have ha:=hUs as hU;have iq:=MD G as;have hlU:=hK.gw;refine⟨_,(aa (cM (aN (lS hr.units) (ai 1) (ai 3))
 (aa (cB 4 (oN [] (cK (aI yd (dm (ai 0) (ai 1)))) aZ (aF (bN hr.units) (ai 0) ak)))
 (aj (cM (aN (iF hr.units) (ai 4) (cj bO))
 (aj (dz (eW (iF hr.units) (ai 2) iE) (eR (ai 3) (ai 1) (pZ hr.units))))
 (aj (dz (eW (lS hr.units) rn (hX (oN [0,2,3] (cK (ai 4)) aZ (aI gA (aH (ai 1) (aH (ai 0) (aH (ai 2) (aH (ai 3) bO)))))))) (eR (ai 3) (ai 1) (pZ hr.units)))))))
 br)
 (aj (aJ (aF (bN hr.units) (ai 3) (ai 1))))),?_⟩
  with_reducible refine mR (λ δ' M'=>∃(v4:Option D)(cT:List (Row×D)),δ'=[some (j' g),some (row as),some (.str z),some (.ref kn),v4]/\M' kn=some (.bX true (pA cT))/\vQ g n (decide (z=fK)) U cT/\as∈cT.map (·.1)/\(∀b o,b≠kn->M b=some o->M' b=some o)) (λ N hN=>?_) ?_
  ·rfl';refine mQ Pn (o_ as) ?_;rw[uF];by_cases jq:as∈kvs.map (·.1)
   ·rw[B8 jq];rfl';exact hN _ _ ⟨none,kvs,rfl,Pn,hK,jq,λ b o _ h=>h⟩
   ·rw[A7 jq];rfl';refine⟨n,g,as,rfl,G,ha.len,λ q M1 hq Pk hE=>?_⟩;have W7:=hE _ _ Pn;rfl';refine yr (ds:=vK g as n) (λ i li M'=>M'=M1/\li=((fe g n as).take i).map row) ⟨rfl,rfl⟩ (λ i li M' hi h=>?_) (λ i li M' hi h=>?_) (λ i d li M' hd h=>?_) (λ li M' h=>?_)
    ·obtain⟨rfl,_⟩:=h;exact Pk
    ·obtain⟨rfl,rfl⟩:=h;rw[B3,A1];rw[<- ij]at hi;exact small ()
    ·obtain⟨rfl,rfl⟩:=h;obtain⟨a1,a2,b,rfl,hb⟩:=Ie g as n i d hd;rfl';refine ba ?_;rfl';refine⟨rfl,?_⟩;rw[take_one (show(fe g n as)[i]?=some b from hb),B5];rfl
    ·obtain⟨rfl,rfl⟩:=h;rw[<- ij];rw[show(fe g n as).take (J' g as n).length=fe g n as from y8];have iq:(fe g n as).length<=756:=iq;have Yj:=BQ G (decide (z=fK)) ha;have hnx:∀c∈fe g n as,c∈U:=λ c hc=>hUc as hU c hc;have hrk:∀c∈fe g n as,rk g n U c<rk g n U as:=λ c hc=>Vo G ha hc (hnx c hc);generalize fe g n as=nx at*;intro t ht;have htk:=aM W7 ht;have F1:∀b o,b≠kn->M b=some o->ag M' t (.lst (nx.map row)) b=some o:=λ b o _ h=>by have:=hE _ _ h;rw[ah (aM this ht)];exact this
     have W6:ag M' t (.lst (nx.map row)) kn=some (.bX true (pA kvs)):=by rw[ah htk];exact W7
     have Yu:ag M' t (.lst (nx.map row)) t=some (.lst (nx.map row)):=ae;have htM:M t=none:=hE.free ht;generalize ag M' t (.lst (nx.map row))=M2 at*;rfl';intro e he;have F2:∀b o,b≠kn->M b=some o->ag M2 e (.lst []) b=some o:=λ b o hb h=>by have:=F1 b o hb h;rw[ah (aM this he)];exact this
     refine Lk false (rs:=nx) (qs:=[]) (by rw[ah (aM Yu he)];exact Yu) ae ?_;have W5:ag M2 e (.lst []) kn=some (.bX true (pA kvs)):=by rw[ah (aM W6 he)];exact W6
     have aaX:ag M2 e (.lst []) t=some (.lst (nx.map row)):=by rw[ah (aM Yu he)];exact Yu
     generalize ag M2 e (.lst [])=M3 at*;by_cases Ny:nx=[]
     ·rw[K3 (by decide),B8 Ny];rfl';rw[K1 Ny]at Yj;obtain⟨cT,p1,p2,p3⟩:=hK.put hU;refine lG W5 (o_ as) (by rw[CG];exact p8 (show kvs.length<=5000 by lia) (by decide)) ?_;have e1:D.bl (decide (z=cS "wins"))=.bl (gH g n (decide (z=fK)) as):=by rw[Yj];rfl
      rw[e1,p1];rfl';exact hN _ _ ⟨_,cT,rfl,ae,p2,p3,λ b o hb h=>by rw[ah hb];exact F2 b o hb h⟩
     ·rw[K3 (by decide),A7 Ny];rw[K3 Ny]at Yj;rfl';refine yr (ds:=nx.map row) (λ i li M'=>li=((nx.take i).map λ c=>D.bl (gH g n (decide (z=fK)) c))/\M' t=some (.lst (nx.map row))/\(∃cT,M' kn=some (.bX true (pA cT))/\vQ g n (decide (z=fK)) U cT)/\∀b o,b≠kn->M b=some o->M' b=some o) ⟨rfl,aaX,⟨kvs,W5,hK⟩,F2⟩ (λ i li M' hi h=>h.2.1) (λ i li M' hi h=>?_) (λ i d li M' hd h=>?_) (λ li M' h=>?_)
      ·obtain⟨rfl,_⟩:=h;rw[B3,A1];exact small ()
      ·obtain⟨rfl,h1,⟨cT,h2,h3⟩,h4⟩:=h;rw[u6]at hd;cases ec:nx[i]? with
       |none=>rw[ec]at hd;cases hd
       |some c=>rw[ec]at hd;cases hd;have hcm:=k8 ec;rfl';refine⟨n,g,c,z,kn,U,cT,rfl,G,hnx c hcm,hUs,hUc,hUl,by have:=hrk c hcm;lia,h2,h3,λ Sw M5 g1 g2 g3=>⟨?_,g3 _ _ htk.symm h1,⟨Sw,g1,g2⟩,λ b o hb h=>g3 b o hb (h4 b o hb h)⟩⟩;rw[take_one ec,B5];rfl
      ·obtain⟨rfl,h1,⟨cT,h2,h3⟩,h4⟩:=h;rw[B3,y8];intro r hr;have aaZ:ag M' r (.lst (nx.map λ c=>D.bl (gH g n (decide (z=fK)) c))) kn=some (.bX true (pA cT)):=by rw[ah (aM h2 hr)];exact h2
       have F5:∀b o,b≠kn->M b=some o->ag M' r (.lst (nx.map λ c=>D.bl (gH g n (decide (z=fK)) c))) b=some o:=λ b o hb h=>by have:=h4 b o hb h;rw[ah (aM this hr)];exact this
       refine .inl (zD (bs:=nx.map (gH g n (decide (z=fK)))) (by rw[ae,D9];rfl) ?_)
       ·rw[List.any_map,show(id∘gH g n (decide (z=fK)))=gH g n (decide (z=fK))from rfl,<- Yj];generalize ag M' r (.lst (nx.map λ c=>D.bl (gH g n (decide (z=fK)) c)))=M6 at*;rfl';obtain⟨Sw,p1,p2,p3⟩:=h3.put hU;have:=h3.gw;refine lG aaZ (o_ as) (by rw[CG];exact p8 (show cT.length<=5000 by lia) (by decide)) ?_;rw[p1];rfl';exact hN _ _ ⟨_,Sw,rfl,ae,p2,p3,λ b o hb h=>by rw[ah hb];exact F5 b o hb h⟩
  ·rintro δ' M' ⟨v4,cT,rfl,h1,h2,h3,h4⟩;rfl';refine kC h1 (o_ as) (h2.look h3) ?_;rfl';exact av (kQ cT M' h1 h2 h4)
def nL(l:Str):Nat:=if l=cS "loses" then 1 else 0
def yR(L:Nat)(s:Nat×Nat):Bool:=decide (s.1=if s.2=0 then L else 0)
def BH{L:Nat}{x:Nat×Nat}(e:L=1):yR L x=true↔(x.1:Int)=if decide ((x.2:Int)=0)=true then 1 else 0:=by
 unfold yR;rw[e,bn];by_cases z:x.2=0
 ·rw[K1 z,K1 (B8 ())];lia
 ·rw[K3 z,K3 (by rw[bn];lia)];lia
def wW{L:Nat}{x:Nat×Nat}(e:L=0):yR L x=true↔(x.1:Int)=0:=by
 unfold yR;rw[e,bn];by_cases z:x.2=0
 ·rw[K1 z];lia
 ·rw[K3 z];lia
def MG{L:Nat}{x:Nat×Nat}(e:L=1)(h:(x.1:Int)=if decide ((x.2:Int)=0)=true then 1 else 0):yR L x=true:=(BH e).mpr h
def R_{L:Nat}{x:Nat×Nat}(e:L=1)(h:¬(x.1:Int)=if decide ((x.2:Int)=0)=true then 1 else 0):yR L x=false:=by rw[<- Bool.not_eq_true,BH e];exact h
def HX{L:Nat}{x:Nat×Nat}(e:L=0)(h:(x.1:Int)=0):yR L x=true:=(wW e).mpr h
def MH{L:Nat}{x:Nat×Nat}(e:L=0)(h:¬(x.1:Int)=0):yR L x=false:=by rw[<- Bool.not_eq_true,wW e];exact h
def F_:dW:=λ ds M Q=>∃(a:ap)(sz:Cs)(l:Str),ds=[.ref a,.str l]/\M a=some (.lst (sz.map nD))/\(∀x∈sz,x<5)/\sz.length<=6/\∀(m:Nat)(kt:List Row)(ls:Row)(M':Mem),cz m sz.length kt->m<=16->lA m ls->(∀p:Cs,p.length=sz.length->cU ls (aP (ax kt) 0 0 p)=yR (nL l) (aP (stN (nL l) sz) 0 (0,0) p))->sw M M'->Q (cp kt ls) M'
def Ms(F:hW K "_law_nim_table" "_law_nim_table" (top 33) f fd)(T:iK K mg):bB P w K mg base dX 1 f fd ["_law_sizes","_law_last"] (bZ K F_):=by
 refine kJ F ["_law_sizes","_law_last","_law_states","_law_rows","_law_losing","_law_row","_law_size","_law_number","_law_great","_law_then"] (λ dj A outer s H E ds M Q nd hr h=>?_)
 ·obtain⟨a,sz,l,rfl,ha,h5,h6,k⟩:=h;have Te:(l=cS "loses"/\nL l=1)\/(¬l=cS "loses"/\nL l=0):=by
   unfold nL;by_cases z:l=cS "loses"
   ·exact .inl ⟨z,K1 z⟩
   ·exact .inr ⟨z,K3 z⟩
  have eL:(if decide (l=cS "loses")=true then(1:Int)else 0)=(nL l:Int):=by
   rcases Te with⟨z,e⟩|⟨z,e⟩
   ·rw[K1 (B8 z),e];rfl
   ·rw[K3 (by rw[bn];exact z),e];rfl
  have hL:nL l<=1:=by rcases Te with⟨z,e⟩|⟨z,e⟩<;>lia
  generalize nL l=L at*;have C:=KP (h:=sz.length) hL h5;have hz:((0,0):Nat×Nat)∈JL:=BN.mpr ⟨by decide,by decide⟩;have Yp:JL.length=16:=by decide
  refine⟨_,(aa (aw 2 (cj (bC (dY (dm ak ak)))))
 (aa (aw 3 (cj bO))
 (aa (fJ (aN zQ (aX d_ T.len (bC (ai 3))) (aX d_ T.len (bC (ai 2))))
 (aa (dz (aF aL (ai 2) (aX d_ T.len (bC (ai 3)))) (gE (n:=2) (bg (aS 7) (bg (aS 8) eK))))
 (aa (aw 5 (cj bO))
 (aa (df (cK (ai 0)) (aS 6)
 (aa (aw 9 (dY (dm (bx VV (ai 7) (ai 6)) (bx i_ (aX (Xy rfl) T.max (dm (ai 8) (cb vp T.int (bC (eW HS (ai 6) ak))))) (cb vp T.int (bC (eW (iF hr.units) (ai 1) iE)))))))
 (aa (cM (aN (lT hr.units) (ai 9) (ai 2))
 (aj (cC (gf i5 c9 i4 bU (ai 2) (bC (ai 9)))))
 br)
 (aj (cC (gf i5 c9 i4 bU (ai 5) (bC (gf i5 PySem.F.slot_list_index PySem.F.type_list_index (lY hr.units) (ai 2) (bC (ai 9))))))))))
 (aj (cC (gf i5 c9 i4 bU (ai 3) (bC (cb bK T.tuple (bC (ai 5)))))))))))
 (aa (cB 4 (PU [1] (eJ T.enumerate (bC (ai 2))) (oM (aN (iF hr.units) (aF aL (ai 1) ak) (cb vp T.int (bC (w_and (eW (iF hr.units) (ai 2) iE) (UT (eW (iF hr.units) (aF aL (ai 1) ak) ak))))))) (ai 0)))
 (aj (aJ (dY (dm (cb bK T.tuple (bC (ai 3))) (cb bK T.tuple (bC (ai 4))))))))))),?_⟩
  rfl';intro p hp;rfl';intro q hq;have X0:Sx pD (stN L sz) (0,0) sz.length JL p q [(0,0)] [] M (ag (ag M p (.lst [.tup [.int 0,.int 0]])) q (.lst [])):=by have jo:p≠q:=aM (show ag M p (.lst [.tup [.int 0,.int 0]]) p=some _ from ae) hq;refine⟨sw.new (sw.new sw.rfl hp _) hq _,hp,sw.free (sw.new sw.rfl hp _) hq,jo,?_,ae,mJ.start hz,by simp⟩;rw[ah jo,ae];rfl
  generalize ag (ag M p (.lst [.tup [.int 0,.int 0]])) q (.lst [])=M6 at*;rfl';refine fO ⟨λ m δ M'=>∃(v5 v6 v7 v8 v9:Option D)(aD:List (Nat×Nat))(kt:List Row),δ=[some (.ref a),some (.str l),some (.ref p),some (.ref q),none,v5,v6,v7,v8,v9]/\Sx pD (stN L sz) (0,0) sz.length JL p q aD kt M M'/\m=20-kt.length,⟨_,none,none,none,none,none,_,[],rfl,X0,rfl⟩,?_⟩;rintro m δ M' ⟨v5,v6,v7,v8,v9,aD,kt,rfl,X,rfl⟩;have iq:=X.gw;rw[Yp]at iq;have yT:=X.st;have Kd:=X.oz;rfl';rw[B3,B3];refine bE (λ eB=>?_) (λ Th=>?_)
  ·obtain⟨s,hs⟩:∃s,aD[kt.length]?=some s:=⟨_,g9 ()⟩;have Nu:s∈JL:=X.ex.sub s (k8 hs);refine⟨λ δ' pH=>∃(v5 v6 v7 v8 v9:Option D)(aD:List (Nat×Nat))(r:Row),δ'=[some (.ref a),some (.str l),some (.ref p),some (.ref q),none,v5,v6,v7,v8,v9]/\Sx pD (stN L sz) (0,0) sz.length JL p q aD (kt++[r]) M pH,?_,?_⟩
   ·rintro δ' pH ⟨v5,v6,v7,v8,v9,aD,r,rfl,X⟩;exact⟨_,by rw[p4,j9];lia,v5,v6,v7,v8,v9,aD,_,rfl,X,rfl⟩
   ·rfl';rw[B3];refine cq X.st (d:=.tup [.int (s.1:Int),.int (s.2:Int)]) (bc (by rw[u6,hs];rfl)) ?_;rfl';intro pw Wu;have fw:=X.free Wu;have X1:=X.new Wu (.lst []);have ZY:ag M' pw (.lst []) pw=some (.lst (([]:Row).map D.int)):=ae;generalize ag M' pw (.lst [])=M7 at*;have ha7:=X1.ext _ _ ha;rfl';refine xM (ds:=sz.map nD) (λ i δ M8=>∃(v6 v9:Option D)(aD:List (Nat×Nat))(r:Row),δ=[some (.ref a),some (.str l),some (.ref p),some (.ref q),none,some (.ref pw),v6,some (.int (s.1:Int)),some (.int (s.2:Int)),v9]/\Sx pD (stN L sz) (0,0) sz.length JL p q aD kt M M8/\M8 pw=some (.lst (r.map D.int))/\cA (stN L sz) aD s i r/\aD[kt.length]?=some s) ⟨v6,v9,aD,[],rfl,X1,ZY,cA.nil _ _ _,hs⟩ (λ i δ M8 _ h=>?_) (λ i d δ M8 hd h=>?_) (λ δ M8 h=>?_)
    ·obtain⟨_,_,_,_,_,X,_⟩:=h;exact X.ext _ _ ha
    ·obtain⟨v6,v9,aD,r,rfl,X,hw,hr,hs⟩:=h;rw[u6]at hd;obtain⟨y,hy,rfl⟩:=ce.mp hd;have Pd:i<sz.length:=(c7.mp hy).1;have ey:sz.getD i 0=y:=by rw[c3,hy];rfl
     have e1:max (s.2:Int) (if decide (1<(y:Int))=true then 1 else 0)=((max s.2 (if 1<y then 1 else 0):Nat):Int):=by
      by_cases z:1<y
      ·rw[K1 z,K1 (by rw[bn];lia)];lia
      ·rw[K3 z,K3 (by rw[bn];lia)];lia
     rfl';rw[e1];rw[show(if decide (l="loses")=true then(1:Int)else 0)=(L:Int)from eL];have h0:((max s.2 (if 1<y then 1 else 0):Nat):Int)*(L:Int)=((max s.2 (if 1<y then 1 else 0)*L:Nat):Int):=by rw[Int.natCast_mul]
     refine lH (JG () ()) ?_;rw[h0,AH];refine kB ⟨by show 2<=sizeLine;decide,jF ?_⟩;have h60:(1:Nat)<=60:=by decide
     have Z4:JL.length<=300:=by rw[Yp];decide
     have Tg:sz.length<=12:=()
     have hFU:=C.cl s i Pd Nu
     with_reducible refine Ba Jt h60 X Z4 Tg fw hw hr hs Pd hFU ?_ ?_ ?_ (λ ko r' M' X' Z0 S7 jV=>?_)
     ·show some (some (pD (s.1^^^y,max s.2 (if 1<y then 1 else 0)*L)))=some (some (pD (stN L sz i s)));unfold stN;rw[ey]
     ·rfl
     ·rfl
     ·exact⟨_,_,ko,r',rfl,X',Z0,S7,jV⟩
    ·obtain⟨v6,v9,aD,r,rfl,X,hw,hr,hs⟩:=h;rw[B3]at hr;have iq:=X.gw;rw[Yp]at iq;have Kd:=X.oz;rfl';refine⟨⟨rfl,_,Kd⟩,?_⟩;rfl';refine c_ hw ?_;rfl';refine dJ Kd (by rw[B3];exact p8 (show kt.length<=300 by lia) (by decide)) ?_;exact⟨_,_,_,_,_,aD,r,rfl,X.next hs hr⟩
  ·have el:kt.length=aD.length:=by have:=X.le;lia
   have TG:=X.ex.tb C hz el () ();rfl';refine Ax (ds:=dZ (aD.map pD)) (λ i li M7=>M7=M'/\∃ls:Row,li=ls.map D.int/\yL aD (yR L) i ls) ⟨rfl,[],rfl,yL.nil _ _⟩ (λ i li M7 _ h=>?_) (λ i li M7 hi h=>?_) (λ i d li M7 hd h=>?_) (λ li M7 h=>?_)
   ·obtain⟨rfl,_⟩:=h;show gy (.ref p) M7=_;unfold gy;rw[dq yT];rfl
   ·obtain⟨rfl,ls,rfl,LC⟩:=h;rw[bJ,B3]at hi;have:=LC.Kb.gw;rw[B3];exact small ()
   ·obtain⟨rfl,ls,rfl,LC⟩:=h;obtain⟨hi,rfl⟩:=gx hd;rw[B3]at hi;obtain⟨x,hx⟩:∃x,aD[i]?=some x:=⟨_,g9 hi⟩;rw[show(aD.map pD).getD i .bo=.tup [.int (x.1:Int),.int (x.2:Int)] by rw[c3,u6,hx];rfl];have y1:yR L x=true->∃V6:Row,ls.map D.int++[.int (i:Int)]=V6.map D.int/\yL aD (yR L) (i+1) V6:=λ z=>⟨ls++[(i:Int)],by rw[B5];rfl,LC.yes hx z⟩;have y2:yR L x=false->∃V6:Row,ls.map D.int=V6.map D.int/\yL aD (yR L) (i+1) V6:=λ z=>⟨ls,rfl,LC.no hx z⟩;rfl';refine bE (λ h1=>?_) (λ h1=>?_)
    ·have eL1:L=1:=Te.elim (λ z=>z.2) λ z=>be h1 z.1;rfl';refine bE (λ h2=>?_) (λ h2=>?_)
     ·rfl';exact⟨rfl,y1 (MG eL1 h2)⟩
     ·exact⟨rfl,y2 (R_ eL1 h2)⟩
    ·have eL0:L=0:=Te.elim (λ z=>be z.1 h1) λ z=>z.2;rfl';refine bE (λ h2=>?_) (λ h2=>?_)
     ·rfl';exact⟨rfl,y1 (HX eL0 h2)⟩
     ·exact⟨rfl,y2 (MH eL0 h2)⟩
   ·obtain⟨rfl,ls,rfl,LC⟩:=h;rw[bJ,B3]at LC;intro pl gb;rfl';refine c_ (by rw[ah (aM Kd gb)];exact Kd) ?_;rfl';refine c_ ae ?_;rfl';exact av (k _ kt ls _ TG () (by rw[el];exact LC.Kb) (λ p hp=>A_ X.ex el LC hp) (X.ext.new gb _))
def Bi:dW:=λ ds M Q=>∃(f c:ap)(m h:Nat)(kt:List Row)(ls:Row),ds=[.ref f,cp kt ls]/\Flow M f c/\cz m h kt/\m<=6/\h<=3/\(∀(m:Nat)(r2:List Row)(l2:Row)(M':Mem),cz m h r2->m<=18->lA m l2->De h kt ls r2 l2->Fl f c M M'->Q (cp r2 l2) M')
def Qy(G:Tb m h kt):gN (kt.map row) 0=some (.tup ((kt.getD 0 []).map D.int))/\(kt.getD 0 []).length=h:=by
 have h0:0<kt.length:=by rw[G.len];exact G.pos
 rw[c3,g9 h0];exact⟨bc (j:=0) (by rw[u6,g9 h0];rfl),(G.row _ (A2 h0)).1⟩
def HM(F:hW K "_law_blown" "_law_blown" (top 34) f fd)(T:iK K mg)(aE:bY P w K mg base 1 "_law_pick" ["_law_flow_here","_law_many"] iW):bB P w K mg base dX 2 f fd ["_law_flow_here","_law_table"] (bZ K Bi):=by
 refine kJ F ["_law_flow_here","_law_table","_law_many","_law_wide","_law_weights","_law_states","_law_rows","_law_row","_law_h","_law_thing","_law_count","_law_then"] (λ dj A outer s H E ds M Q nd hr h=>?_)
 ·obtain⟨f,cc,m,h,gq,KG,rfl,hF,G,hm,hh,k⟩:=h;have Pc:=Qy G.tb;have uU:cp gq KG=.tup [.tup (gq.map row),row KG]:=rfl;rw[uU];refine⟨_,(aa (aw 2 (aX d_ T.len (bC (aF aL (aF aL (ai 1) ak) ak))))
 (aa (aw 3 (bx bA ak (aI aE (dm (ai 0) ak))))
 (aa (cB 4 (oN [0,3] (bf T.range (bC (ai 2))) aZ (aI aE (dm (ai 1) (ai 2)))))
 (aa (aw 5 (cj (bC (dY (dm ak ak)))))
 (aa (aw 6 (cj bO))
 (aa (fJ (aN zQ (aX d_ T.len (bC (ai 6))) (aX d_ T.len (bC (ai 5))))
 (aa (dz (aF aL (ai 5) (aX d_ T.len (bC (ai 6)))) (gE (n:=2) (bg (aS 9) (bg (aS 10) eK))))
 (aa (aw 7 (cj bO))
 (aa (df (bf T.range (bC (ai 2))) (aS 8)
 (aa (aw 11 (dY (dm (aF aL (aF aL (aF aL (ai 1) ak) (ai 9)) (ai 8)) (bx j_ (bx bA (ai 10) (aF aL (ai 4) (ai 8))) (ai 3)))))
 (aa (cM (aN (lT hr.units) (ai 11) (ai 5))
 (aj (cC (gf i5 c9 i4 bU (ai 5) (bC (ai 11)))))
 br)
 (aj (cC (gf i5 c9 i4 bU (ai 7) (bC (gf i5 PySem.F.slot_list_index PySem.F.type_list_index (lY hr.units) (ai 5) (bC (ai 11))))))))))
 (aj (cC (gf i5 c9 i4 bU (ai 6) (bC (cb bK T.tuple (bC (ai 7)))))))))))
 (aj (aJ (dY (dm (cb bK T.tuple (bC (ai 6))) (fL bK ck T.tuple (PU [1] (eJ T.enumerate (bC (ai 5))) (oM (aN (wR hr.units) (aF aL (ai 1) ak) (aF aL (ai 2) ak))) (ai 0))))))))))))),?_⟩
  rfl';refine aO Pc.1 ?_;rfl';rw[B3,Pc.2];refine⟨f,cc,2,rfl,hF,by decide,by decide,λ d1 o1 Yx h11 NG=>?_⟩;have F1:Fl f cc M _:=Fl.pick NG;generalize ag M f o1=M1 at*;obtain⟨w,ew⟩:∃n:Nat,2+d1=(n:Int):=⟨(2+d1).toNat,()⟩;rfl';rw[ew];refine⟨cW () (),?_⟩;rw[u9,eh];refine kY nD (λ ys M'=>Fl f cc M M') (by rw[x4];lia) F1 (λ i x ys M' N hx hl hI hN=>?_) (λ ws M4 hl F4=>?_)
  ·rfl';refine⟨f,cc,w,rfl,hI.bS,(),(),λ d o h0 h1 hFd=>?_⟩;obtain⟨y,rfl⟩:∃n:Nat,d=(n:Int):=⟨d.toNat,()⟩;exact hN y _ (hI.trans (Fl.pick hFd))
  rw[x4]at hl;intro Uj aaf;have F5:=F4.trans (Fl.put (o:=.lst (ws.map nD)) F4.bS aaf);have ZV:ag M4 Uj (.lst (ws.map nD)) Uj=some (.lst (ws.map nD)):=ae;generalize ag M4 Uj (.lst (ws.map nD))=M5 at*;have hw0:0<w:=()
  have C:=KQ (ws:=ws) G hw0;have hz:((0,0):Nat×Nat)∈EU m w:=oY.mpr ⟨G.tb.pos,hw0⟩;have Yp:(EU m w).length<=18:=by rw[Oe];exact E6 (Nat.mul_le_mul hm (show w<=3 by lia)) (by decide)
  rfl';intro p hp;rfl';intro q hq;have X0:Sx pD (JZ gq w ws) (0,0) h (EU m w) p q [(0,0)] [] M5 (ag (ag M5 p (.lst [.tup [.int 0,.int 0]])) q (.lst [])):=by have jo:p≠q:=aM (show ag M5 p (.lst [.tup [.int 0,.int 0]]) p=some _ from ae) hq;refine⟨sw.new (sw.new sw.rfl hp _) hq _,hp,sw.free (sw.new sw.rfl hp _) hq,jo,?_,ae,mJ.start hz,by simp⟩;rw[ah jo,ae];rfl
  generalize ag (ag M5 p (.lst [.tup [.int 0,.int 0]])) q (.lst [])=M6 at*;rfl';refine fO ⟨λ m' δ M'=>∃(v7 v8 v9 v10 v11:Option D)(aD:List (Nat×Nat))(kt:List Row),δ=[some (.ref f),some (.tup [.tup (gq.map row),row KG]),some (.int h),some (.int w),some (.ref Uj),some (.ref p),some (.ref q),v7,v8,v9,v10,v11]/\Sx pD (JZ gq w ws) (0,0) h (EU m w) p q aD kt M5 M'/\m'=20-kt.length,⟨_,none,none,none,none,none,_,[],rfl,X0,rfl⟩,?_⟩;rintro m' δ M' ⟨v7,v8,v9,v10,v11,aD,kt,rfl,X,rfl⟩;have iq:=X.gw;have yT:=X.st;have Kd:=X.oz;rfl';rw[B3,B3];refine bE (λ eB=>?_) (λ Th=>?_)
  ·obtain⟨s,hs⟩:∃s,aD[kt.length]?=some s:=⟨_,g9 ()⟩;have Nu:s∈EU m w:=X.ex.sub s (k8 hs);have xE:=(oY.mp Nu).1;refine⟨λ δ' pH=>∃(v7 v8 v9 v10 v11:Option D)(aD:List (Nat×Nat))(r:Row),δ'=[some (.ref f),some (.tup [.tup (gq.map row),row KG]),some (.int h),some (.int w),some (.ref Uj),some (.ref p),some (.ref q),v7,v8,v9,v10,v11]/\Sx pD (JZ gq w ws) (0,0) h (EU m w) p q aD (kt++[r]) M5 pH,?_,?_⟩
   ·rintro δ' pH ⟨v7,v8,v9,v10,v11,aD,r,rfl,X⟩;exact⟨_,by rw[p4,j9];lia,v7,v8,v9,v10,v11,aD,_,rfl,X,rfl⟩
   ·rfl';rw[B3];refine cq X.st (d:=.tup [.int (s.1:Int),.int (s.2:Int)]) (bc (by rw[u6,hs];rfl)) ?_;rfl';intro pw Wu;have fw:=X.free Wu;have X1:=X.new Wu (.lst []);have ZY:ag M' pw (.lst []) pw=some (.lst (([]:Row).map D.int)):=ae;generalize ag M' pw (.lst [])=M7 at*;rfl';refine⟨cW () (),?_⟩;rw[u9];refine gL (λ i δ M8=>∃(v8 v11:Option D)(aD:List (Nat×Nat))(r:Row),δ=[some (.ref f),some (.tup [.tup (gq.map row),row KG]),some (.int h),some (.int w),some (.ref Uj),some (.ref p),some (.ref q),some (.ref pw),v8,some (.int (s.1:Int)),some (.int (s.2:Int)),v11]/\Sx pD (JZ gq w ws) (0,0) h (EU m w) p q aD kt M5 M8/\M8 pw=some (.lst (r.map D.int))/\cA (JZ gq w ws) aD s i r/\aD[kt.length]?=some s) ⟨v8,v11,aD,[],rfl,X1,ZY,cA.nil _ _ _,hs⟩ (λ i d δ M8 hd h=>?_) (λ δ M8 h=>?_)
    ·obtain⟨v8,v11,aD,r,rfl,X,hw,hr,hs⟩:=h;obtain⟨hi,rfl⟩:=fz hd;have ta:=tN G.tb xE hi;rfl';refine aO (d:=.tup ((gq.getD s.1 []).map D.int)) ta.1 ?_;rfl';rw[D4];refine aO ta.2 ?_;rfl';refine cq (X.ext _ _ ZV) (d:=.int (ws.getD i 0:Nat)) (bc (by rw[u6,g9 (),c3,g9 ()];rfl)) ?_;have ZZ:(0:Int)<(w:Int):=()
     refine wz (gG rfl (zE ZZ (kB ⟨by show 2<=sizeLine;decide,jF ?_⟩)));have h60:(1:Nat)<=60:=by decide
     have Z4:(EU m w).length<=300:=()
     have Tg:h<=12:=()
     have hFU:=C.cl s i hi Nu
     with_reducible refine Ba Jt h60 X Z4 Tg fw hw hr hs hi hFU ?_ ?_ ?_ (λ ko r' M' X' Z0 S7 jV=>?_)
     ·show some (some (D.tup [.int (ax gq i s.1:Nat),.int (((s.2:Int)+(ws.getD i 0:Nat))%(w:Int))]))=some (some (D.tup [.int (ax gq i s.1:Nat),.int (((s.2+ws.getD i 0)%w:Nat):Int)]));rw[Int.natCast_emod,Int.natCast_add]
     ·rfl
     ·rfl
     ·exact⟨_,_,ko,r',rfl,X',Z0,S7,jV⟩
    ·obtain⟨v8,v11,aD,r,rfl,X,hw,hr,hs⟩:=h;rw[bj]at hr;have iq:=X.gw;have Kd:=X.oz;rfl';refine⟨⟨rfl,_,Kd⟩,?_⟩;rfl';refine c_ hw ?_;rfl';refine dJ Kd (by rw[B3];exact p8 (show kt.length<=300 by lia) (by decide)) ?_;exact⟨_,_,_,_,_,aD,r,rfl,X.next hs hr⟩
  ·have el:kt.length=aD.length:=by have:=X.le;lia
   have TG:=X.ex.tb C hz el () ();have F6:=F5.trans (jw X.ext F5.bS);rfl';refine c_ Kd ?_;rfl';refine Ax (ds:=dZ (aD.map pD)) (λ i li M7=>M7=M'/\∃ls:Row,li=ls.map D.int/\yL aD (λ x=>cU KG x.1) i ls) ⟨rfl,[],rfl,yL.nil _ _⟩ (λ i li M7 _ h=>?_) (λ i li M7 hi h=>?_) (λ i d li M7 hd h=>?_) (λ li M7 h=>?_)
   ·obtain⟨rfl,_⟩:=h;show gy (.ref p) M7=_;unfold gy;rw[dq yT];rfl
   ·obtain⟨rfl,ls,rfl,L⟩:=h;rw[bJ,B3]at hi;have:=L.Kb.gw;rw[B3];exact small ()
   ·obtain⟨rfl,ls,rfl,L⟩:=h;obtain⟨hi,rfl⟩:=gx hd;rw[B3]at hi;obtain⟨x,hx⟩:∃x,aD[i]?=some x:=⟨_,g9 hi⟩;rw[show(aD.map pD).getD i .bo=.tup [.int (x.1:Int),.int (x.2:Int)] by rw[c3,u6,hx];rfl];rfl';refine tZ (k:=0) (b:=decide ((x.1:Int)∈KG)) (ds:=KG.map D.int) rfl (cV 0 _) (dM λ x _=>cV 0 _) (by decide) (by rw[bn];exact(uC (enc:=D.int) (λ a b z=>D.int.inj z) _).symm) ?_;refine bE (λ hz=>?_) (λ hz=>?_)
    ·rfl';exact⟨rfl,ls++[(i:Int)],by rw[B5];rfl,L.yes hx (B8 hz)⟩
    ·exact⟨rfl,ls,rfl,L.no hx (A7 hz)⟩
   ·obtain⟨rfl,ls,rfl,L⟩:=h;rw[bJ,B3]at L;rfl';exact av (k _ kt ls _ TG () (by rw[el];exact L.Kb) (λ p hp=>by rw[A_ X.ex el L hp];exact J8 (cU KG) (Bb gq w ws p 0 (0,0)).symm) F6)
def FX:dW:=λ ds M Q=>∃(f c a:ap)(ns:List Nat),ds=[.ref f,.ref a]/\Flow M f c/\M a=some (.lst (ns.map nD))/\ns.length<=300/\∀(p:ap)(iG:List Nat)(M':Mem),iG.Perm ns->M p=none->M' p=some (.lst (iG.map nD))->Fl f c M M'->Q (.ref p) M'
def OC:dW:=λ ds M Q=>∃(f c:ap)(m h:Nat)(kt:List Row)(ls:Row),ds=[.ref f,cp kt ls]/\Flow M f c/\cz m h kt/\m<=60/\lA m ls/\∀(r2:List Row)(l2:Row)(M':Mem),cz m h r2->lA m l2->De h kt ls r2 l2->Fl f c M M'->Q (cp r2 l2) M'
def Mo(F:hW K "_law_shuffled" "_law_shuffled" (top 26) f fd)(T:iK K mg)(aE:bY P w K mg base 1 "_law_pick" ["_law_flow_here","_law_many"] iW):bB P w K mg base dX 2 f fd ["_law_flow_here","_law_things"] (bZ K FX):=by
 refine kJ F ["_law_flow_here","_law_things","_law_left","_law_told"] (λ dj A outer s H E ds M Q nd hr h=>?_)
 ·obtain⟨f,cc,a,ns,rfl,hF,ha,hl,k⟩:=h;refine⟨_,(aa (aw 2 (cb AG T.list (bC (ai 1))))
 (aa (aw 3 (cj bO))
 (aa (fJ (aN (lU hr.units) (ai 2) (cj bO))
 (aj (cC (gf i5 c9 i4 bU (ai 3) (bC (gf i5 PySem.F.slot_list_pop PySem.F.type_list_pop O3 (ai 2) (bC (aI aE (dm (ai 0) (aX d_ T.len (bC (ai 2))))))))))))
 (aj (aJ (ai 3)))))),?_⟩
  rfl';refine GG ha λ p hp=>?_;rfl';intro q hq;have jo:p≠q:=aM (show ag M p (.lst (ns.map nD)) p=some _ from ae) hq;have Wt:M q=none:=sw.free (sw.new sw.rfl hp _) hq;have pf:=(hF.ne hp).1;have qf:=(hF.ne Wt).1;have F0:Fl f cc M (ag (ag M p (.lst (ns.map nD))) q (.lst [])):=jw (sw.new (sw.new sw.rfl hp _) hq _) hF;have h1:ag (ag M p (.lst (ns.map nD))) q (.lst []) p=some (.lst (ns.map nD)):=by rw[ah jo,ae]
  have h2:ag (ag M p (.lst (ns.map nD))) q (.lst []) q=some (.lst (([]:List Nat).map nD)):=ae;generalize ag (ag M p (.lst (ns.map nD))) q (.lst [])=M2 at*;rfl';refine fO ⟨λ m δ M'=>∃(xs ys:List Nat),δ=[some (.ref f),some (.ref a),some (.ref p),some (.ref q)]/\M' p=some (.lst (xs.map nD))/\M' q=some (.lst (ys.map nD))/\(ys++xs).Perm ns/\Fl f cc M M'/\m=xs.length,⟨_,ns,[],rfl,h1,h2,.refl _,F0,rfl⟩,?_⟩;rintro m δ M' ⟨xs,ys,rfl,h1,h2,sU,F1,rfl⟩;have hlen:=sU.length_eq;rw[p4]at hlen;rfl';intro e he;refine oR (k:=0) (b:=decide (xs=[])) (by rw[ah (aM h1 he)];exact h1) ae (dM λ x _=>cV 0 _) (λ e he=>by cases he) (by decide) (Ic (by rw[bn])) ?_;have h1:ag M' e (.lst []) p=some (.lst (xs.map nD)):=by rw[ah (aM h1 he)];exact h1
  have h2:ag M' e (.lst []) q=some (.lst (ys.map nD)):=by rw[ah (aM h2 he)];exact h2
  have F1:=F1.trans (Fl.put (o:=.lst []) F1.bS he);generalize ag M' e (.lst [])=M3 at*;refine gu (λ hn=>?_) (λ hn=>?_)
  ·have hn:xs≠[]:=by simpa using hn
   have xF:0<xs.length:=length_pos_iff.mpr hn;refine⟨λ δ' M'=>∃(Ks US:List Nat),δ'=[some (.ref f),some (.ref a),some (.ref p),some (.ref q)]/\M' p=some (.lst (Ks.map nD))/\M' q=some (.lst (US.map nD))/\(US++Ks).Perm ns/\Fl f cc M M'/\Ks.length<xs.length,?_,?_⟩
   ·rintro δ' M' ⟨Ks,US,rfl,a1,a2,a3,a4,a5⟩;exact⟨_,a5,Ks,US,rfl,a1,a2,a3,a4,rfl⟩
   ·rfl';refine⟨⟨rfl,_,h2⟩,?_⟩;rfl';refine⟨⟨rfl,_,h1⟩,?_⟩;rfl';rw[B3];refine⟨f,cc,xs.length,rfl,F1.bS,(),(),λ d o h0 Yx hFd=>?_⟩;have P:=Fl.pick hFd;have F2:=F1.trans P;have h1:=P.mv _ _ pf h1;have h2:=P.mv _ _ qf h2;generalize ag M3 f o=M4 at*;obtain⟨j,rfl⟩:∃n:Nat,d=(n:Int):=⟨d.toNat,()⟩;have hj:j<xs.length:=()
    rfl';refine Gx h1 (y:=nD xs[j]) (by rw[u6,g9 hj];rfl) (by rw[B3];lia) ?_;rfl';refine dJ (ds:=ys.map nD) (by rw[ah (J9 jo)];exact h2) (by rw[B3];exact p8 (show ys.length<=300 by lia) (by decide)) ?_;refine⟨xs.eraseIdx j,ys++[xs[j]],rfl,?_,?_,?_,(F2.own hF hp).own hF Wt,?_⟩
    ·rw[ah jo,ae,BP]
    ·rw[ae,B5];rfl
    ·refine List.Perm.trans ?_ sU;rw[append_assoc];refine List.Perm.append_left _ ?_;exact wJ hj
    ·rw[length_eraseIdx_of_lt hj];lia
  ·have hn:xs=[]:=by simpa using hn
   subst hn;rw[A5]at sU;rfl';exact av (k q ys _ sU Wt h2 F1)
def RR(F:hW K "_law_renumbered" "_law_renumbered" (top 35) f fd)(T:iK K mg)(qP:bY P w K mg base 2 "_law_shuffled" ["_law_flow_here","_law_things"] FX):bB P w K mg base dX 3 f fd ["_law_flow_here","_law_table"] (bZ K OC):=by
 refine kJ F ["_law_flow_here","_law_table","_law_order","_law_rows"] (λ dj A outer s H E ds M Q nd hr h=>?_)
 ·obtain⟨f,cc,m,h,kt,ls,rfl,hF,G,hm,L,k⟩:=h;have uU:cp kt ls=.tup [.tup (kt.map row),row ls]:=rfl;rw[uU];have Ag:=G.tb.len;have xF:=G.tb.pos;refine⟨_,(aa (aw 2 (bx bA (cj (bC ak)) (aI qP (dm (ai 0) (PZ rfl (by rfl) T.list (by rfl) T.range (dm ak (aX d_ T.len (bC (aF aL (ai 1) ak)))))))))
 (aa (cB 3 (oN [1,2] (cK (ai 2)) aZ (fL bK ck T.tuple (oN [2] (cK (aF aL (aF aL (ai 1) ak) (ai 0))) aZ (gf i5 PySem.F.slot_list_index PySem.F.type_list_index (lY hr.units) (ai 1) (bC (ai 0)))))))
 (aj (aJ (dY (dm (cb bK T.tuple (bC (ai 3))) (cb bK T.tuple (bC (aX (Od rfl) T.sorted (bC (hX (oN [2] (cK (aF aL (ai 1) ak)) aZ (gf i5 PySem.F.slot_list_index PySem.F.type_list_index (lY hr.units) (ai 1) (bC (ai 0))))))))))))))),?_⟩
  rfl';intro p0 fG;have F0:=Fl.put (o:=.lst [.int 0]) hF fG;have h0:ag M p0 (.lst [.int 0]) p0=some (.lst [.int 0]):=ae;have n0:=(hF.ne fG).1;generalize ag M p0 (.lst [.int 0])=M0 at*;rfl';rw[B3,Ag];refine⟨1,(m:Int),rfl,⟨(),()⟩,⟨(),()⟩,(),λ p1 xG=>?_⟩;have e1:dh 1 ((m:Int)-1).toNat=((List.range (m-1)).map (·+1)).map nD:=by unfold dh;rw[D9,show((m:Int)-1).toNat=m-1 by lia];refine n9 λ x _=>?_;show D.int (1+(x:Int))=D.int ((x+1:Nat):Int);rw[show(1:Int)+(x:Int)=((x+1:Nat):Int) by lia]
  rw[e1];have F1:=F0.trans (Fl.put (o:=.lst (((List.range (m-1)).map (·+1)).map nD)) F0.bS xG);have h0:ag M0 p1 (.lst (((List.range (m-1)).map (·+1)).map nD)) p0=some (.lst [.int 0]):=by rw[ah (aM h0 xG)];exact h0
  have h1:ag M0 p1 (.lst (((List.range (m-1)).map (·+1)).map nD)) p1=some (.lst (((List.range (m-1)).map (·+1)).map nD)):=ae;generalize ag M0 p1 (.lst (((List.range (m-1)).map (·+1)).map nD))=M1 at*;refine⟨f,cc,p1,_,rfl,F1.bS,h1,by simp;lia,λ p2 ns M2 sU eZ h2 F2=>?_⟩;have F3:=F1.trans F2;have h0:=F2.mv _ _ n0 h0;have xH:=HD xF sU;have hz:(0::ns)[0]?=some 0:=rfl;have IZ:(0::ns).length=m:=by rw[xH.length_eq,x4]
  refine wy h0 h2 (by rw[B3];rw[y6]at IZ;exact small (by show 1+ns.length<=10000;lia)) λ po Ww=>?_;have e2:[D.int 0]++ns.map nD=(0::ns).map nD:=rfl;rw[e2];generalize 0::ns=ord at*;have F4:=F3.trans (Fl.put (o:=.lst (ord.map nD)) F3.bS Ww);have ho:ag M2 po (.lst (ord.map nD)) po=some (.lst (ord.map nD)):=ae;generalize ag M2 po (.lst (ord.map nD))=M3 at*;have hox:∀x∈ord,x<m:=λ x hx=>dL.mp (xH.mem_iff.mp hx);rfl';refine tw nD (λ x=>row (dU ord (kt.getD x []))) () ho (λ i x N hx hN=>?_) ?_
  ·have hxm:=hox x (k8 hx);have sS:x<kt.length:=()
   have hrx:gN (kt.map row) (x:Int)=some (.tup ((kt.getD x []).map D.int)):=bc (by rw[u6,g9 sS,c3,g9 sS];rfl);have hrr:(kt.getD x []).length=h/\∀y∈kt.getD x [],0<=y/\y<(m:Int):=by rw[c3,g9 sS];exact G.tb.row _ (A2 sS)
   have:=G.tb.xP;rfl';refine aO hrx ?_;rfl';refine fj (enc:=D.int) (λ y=>.int (ord.idxOf y.toNat:Nat)) () (λ j y N hy hN=>?_) ?_
   ·have Fh:=hrr.2 y (k8 hy);rfl';refine⟨⟨rfl,_,ho⟩,?_⟩;rfl';rw[show D.int y=nD y.toNat by show _=D.int (y.toNat:Int);rw[show((y.toNat:Nat):Int)=y by lia]];refine lJ nD cE.inj ho (xH.mem_iff.mpr (dL.mpr ())) cE.pl (by decide) ?_;exact hN
   ·rfl';have e3:(kt.getD x []).map (λ y=>D.int (ord.idxOf y.toNat:Nat))=(dU ord (kt.getD x [])).map D.int:=by unfold dU;rw[D9];rfl
    rw[e3];exact hN
  ·intro pr hpr;have F5:=F4.trans (Fl.put (o:=.lst (ord.map λ x=>row (dU ord (kt.getD x [])))) F4.bS hpr);have ho:ag M3 pr (.lst (ord.map λ x=>row (dU ord (kt.getD x [])))) po=some (.lst (ord.map nD)):=by rw[ah (aM ho hpr)];exact ho
   have e4:(ord.map λ x=>row (dU ord (kt.getD x [])))=(ord.map λ x=>dU ord (kt.getD x [])).map row:=by rw[D9];rfl
   have IY:ag M3 pr (.lst (ord.map λ x=>row (dU ord (kt.getD x [])))) pr=some (.lst ((ord.map λ x=>dU ord (kt.getD x [])).map row)):=by rw[ae,e4]
   generalize ag M3 pr (.lst (ord.map λ x=>row (dU ord (kt.getD x []))))=M4 at*;have RT:∀(d:Nat)(r:Row),(ord.map λ x=>dU ord (kt.getD x []))[d]?=some r->∃x,ord[d]?=some x/\cA (ax kt) ord x h r:=λ d r hd=>by rw[u6]at hd;obtain⟨x,hx,rfl⟩:=ce.mp hd;exact⟨x,hx,Ld G xH (hox x (k8 hx))⟩
   have rl:(ord.map λ x=>dU ord (kt.getD x [])).length=m:=by rw[B3];exact IZ
   have TG:=Vp G xH hz rl RT;have SX:=λ xs=>Lc (xs:=xs) G xH hz rl RT L;generalize(ord.map λ x=>dU ord (kt.getD x []))=dE at*;have Te:=L.gw;rfl';refine c_ IY ?_;rfl';refine fj (enc:=D.int) (λ y=>.int (ord.idxOf y.toNat:Nat)) () (λ j y N hy hN=>?_) ?_
   ·have Fh:=L.2 y (k8 hy);rfl';refine⟨⟨rfl,_,ho⟩,?_⟩;rfl';rw[show D.int y=nD y.toNat by show _=D.int (y.toNat:Int);rw[show((y.toNat:Nat):Int)=y by lia]];refine lJ nD cE.inj ho (xH.mem_iff.mpr (dL.mpr ())) cE.pl (by decide) ?_;exact hN
   ·intro pl gb;have e5:ls.map (λ y=>D.int (ord.idxOf y.toNat:Nat))=(dU ord ls).map D.int:=by unfold dU;rw[D9];rfl
    rw[e5];have F6:=F5.trans (Fl.put (o:=.lst ((dU ord ls).map D.int)) F5.bS gb);have h6:ag M4 pl (.lst ((dU ord ls).map D.int)) pl=some (.lst ((dU ord ls).map D.int)):=ae;generalize ag M4 pl (.lst ((dU ord ls).map D.int))=M5 at*;rfl';refine DK (dU ord ls) h6 (by unfold dU;rw[B3];lia) λ xs ps hxp Wj Ai=>?_;rfl';refine c_ ae ?_;rfl';exact av (k dE xs _ TG (Gq xH L hxp Wj) (SX xs hxp) (F6.trans (Fl.put F6.bS Ai)))
def Ga:dW:=λ ds M Q=>∃(p:Cs)(i:Nat),ds=[gc p,.int i]/\i<p.length/\p.length<=1000/\Q (gc (inc p i)) M
def Se:Option Nat->D
 |none=>.bo
 |some m=>.int m
def tT(P:Program)(w:World)(K:K6)(mg:Str->Option gV)(base:Heap):dW:=λ ds M Q=>∃(α:Type)(_:DecidableEq α)(enc:α->D)(t:Bool)(S:α->Prop)(F:Nat->α->α)(s0:α)(h m:Nat)(mo:Option Nat)(f:ap)(U:List α)(L:lp)(ps fv:List Str)(sp:nG)(cs:List D)(C:CM),
 ds=[.int h,enc s0,.ref f,Se mo]/\(mo=some m\/(mo=none/\U.length<m))/\(∀a b,enc a=enc b->a=b)/\(∀s,iJ t (enc s))/\kg S h F/\S s0/\(∀s,S s->s∈U)/\U.length<=1000/\h<=12/\qY P w K mg base 5 L ps fv sp/\oJ M f L fv cs C/\
 (∀M1 s i Q',sw M M1->S s->i<h->(∀M',sw (fi M1 C) M'->Q' (enc (F i s)) M')->sp [enc s,.int i] cs (fi M1 C) Q')/\
 ∀(p:ap)(lm:List (Cs×α))(M':Mem),M p=none->M' p=some (.lst ((lm.take m).map (kX enc)))->yM F s0 h m lm->sw M M'->Q (.ref p) M'
def DL{Q:Bool->Mem->Prop}(h3:δ[3]?=some (some (Se mo)))(h4:δ[4]?=some (some (.ref p)))(hp:M p=some (.lst ds))(hm:mo=some m\/(mo=none/\ds.length<m))(q:Q (decide ((ds.length:Int)<(m:Int))) M):Zf (sy (K' (Av false) (ie 3) (sC D.bo))) (sy (K' (N8 λ i j=>D.bl (decide (i<j))) (Vj JC (gS (ie 4) rA)) (ie 3))) δ M Q:=by
 refine OQ (oQ (Br (gG h3 (Vt ?_))));rcases hm with rfl|⟨rfl,lt⟩
 ·refine tX (by simp[Kx,Se]) ?_;refine oQ (Br (OT (lL (gG h4 (kB (gT (tY hp ?_)))))));exact gG h3 (OS q)
 ·refine wo ?_;rw[show decide ((ds.length:Int)<(m:Int))=true from B8 ()]at q;exact q
def sF{Q:bF}(h3:δ[3]?=some (some (Se mo)))(h4:δ[4]?=some (some (.ref p)))(hp:M p=some (.lst ds))(hm:mo=some m\/(mo=none/\ds.length<m))(q:∀r,M r=none->Q (.ref r) (ag M r (.lst (ds.take m)))):Ze vd (ie 4) tV (zu (ie 3)) δ M Q:=by
 refine OP (gG h4 (sE (wm (gG h3 ?_))));rcases hm with rfl|⟨rfl,lt⟩
 ·refine sA hp () ?_;rw[u9];exact q
 ·refine zy hp ?_;rw[i9 ()]at q;exact q
def Mu(F:hW K "one_more" "one_more" (top 3) f fd)(T:iK K mg):bB P w K mg base dX 1 f fd ["counts","heap"] (bZ K Ga):=by
 refine kJ F ["counts","heap"] (λ dj A outer s H E ds M Q nd hr h=>?_)
 ·obtain⟨p,i,rfl,hi,hp,k⟩:=h;have hpi:p[i]?=some p[i]:=g9 hi;refine⟨_,(aj (aJ (bx bA (bx bA (jE sx (ai 0) jD (lC (ai 1))) (dY (bC (bx bA (aF aL (ai 0) (ai 1)) ak)))) (jE sx (ai 0) (lC (bx bA (ai 1) ak)) jD)))),?_⟩;unfold gc at k ⊢;rfl';refine Gv () ?_;rfl';refine aO (d:=.int (p[i]:Nat)) (bc (by rw[u6,hpi];rfl)) ?_;rfl';refine wu (small (by simp;lia)) ?_;rfl';refine zA () ?_;refine wu (small (by simp;lia)) ?_;refine av ?_;rw[show((i:Int)).toNat=i by lia,show((i:Int)+1).toNat=i+1 by lia];rw[<- II hpi,B5,B5,map_take,map_drop]at k;exact k
def wO(F:jZ K "first_sums" "first_sums" (top 4) (.ref 29) 35 f fd)(T:iK K mg)(Aq:bY P w K mg base 1 "one_more" ["counts","heap"] Ga):bB P w K mg base dX 7 f fd ["heaps","start","gone","most"] (bZ K (tT P w K mg base)):=by
 refine Zs F ["heaps","start","gone","most","told","known","done","counts","heap","there"] (λ A outer s H E ds M Q nd hr h=>?_)
 ·obtain⟨α,_,enc,t,S,F,s0,h,m,mo,f,U,L,ps,fv,sp,cs,C,rfl,hmo,inj,qD,CM,Cm,hU,hUl,hh,hL,Ji,Uv,k⟩:=h;refine⟨_,(aa (aw 4 (cj (bC (dY (dm (bx i_ (dY (bC ak)) (ai 0)) (ai 1))))))
 (aa (aw 5 (AW hr.units (ai 1) rn))
 (aa (aw 6 ak)
 (aa (fJ (tK (aN zQ (ai 6) (aX nF T.len (bC (ai 4)))) (oK (Fy (aN HQ (ai 3) pL) (zg (aN zQ (aX nF T.len (bC (ai 4))) (ai 3)))).pt)).pt
 (aa (aw 7 (aF (bN hr.units) (aF (bN hr.units) (ai 4) (ai 6)) ak))
 (aa (df (bf T.range (bC (ai 0))) (aS 8)
 (aa (aw 9 (AX (k:=5) (i:=2) (hr.mono (by decide)) (by rfl) (by first|exact Or.inl rfl|exact Or.inr (Or.inl rfl)|exact Or.inr (Or.inr rfl)) (dm (aF (bN hr.units) (aF (bN hr.units) (ai 4) (ai 6)) ak) (ai 8))))
 (aj (cM (aN (lS hr.units) (ai 9) (ai 5))
 (aa (dz rn (eR (ai 5) (ai 9) (pZ hr.units)))
 (aj (cC (gf i5 c9 i4 bU (ai 4) (bC (dY (dm (aI Aq (dm (ai 7) (ai 8))) (ai 9))))))))
 br))))
 (aj (Kw 6 ak)))))
 (aj (aJ (jE sx (ai 4) jD (FD (ai 3))))))))),?_⟩
  rfl';refine Gy () () ?_;rw[u9];rfl';intro p hp;have hE0:sw M (ag M p (.lst [.tup [.tup (List.replicate h (.int 0)),enc s0]])):=sw.new sw.rfl hp _;have fG:ag M p (.lst [.tup [.tup (List.replicate h (.int 0)),enc s0]]) p=some (.lst ([(mL h,s0)].map (kX enc))):=by rw[ae];show _=some (MO.lst [.tup [gc (mL h),enc s0]]);unfold gc mL;rw[map_replicate];rfl
  generalize ag M p (.lst [.tup [.tup (List.replicate h (.int 0)),enc s0]])=M0 at*;rfl';refine wq t λ q hq=>?_;have Wt:M q=none:=hE0.free hq;have jo:p≠q:=aM fG hq;rfl';refine⟨ae,qD s0,?_⟩;rw[dD];have hE1:sw M (ag M0 q (.bX t [(enc s0,.bl true)])):=hE0.new hq _;have xG:ag M0 q (.bX t [(enc s0,.bl true)]) p=some (.lst ([(mL h,s0)].map (kX enc))):=by rw[ah jo];exact fG
  have Ke:ag M0 q (.bX t [(enc s0,.bl true)]) q=some (.bX t (og enc ([(mL h,s0)].map λ e=>(e.2,.bl true)))):=ae;generalize ag M0 q (.bX t [(enc s0,.bl true)])=M1 at*;have hkl:∀{lm:List (Cs×α)},(og enc (lm.map λ e=>(e.2,D.bl true))).length=lm.length:=λ{lm}=>by simp[og]
  have hkm:∀{lm:List (Cs×α)},(lm.map λ e=>(e.2,D.bl true)).map (·.1)=lm.map (·.2):=λ{lm}=>by rw[D9];rfl
  have hS:∀{lm:List (Cs×α)},AM F s0 h lm->(∀e∈lm,S e.2)/\lm.length<=U.length:=λ{lm} hi=>by
   have h1:∀e∈lm,S e.2:=λ e he=>by have:=hi.ent e he;rw[<- this.2];exact CM.aP e.1 0 s0 (by rw[this.1.1];lia) Cm
   refine⟨h1,?_⟩;have:=bv hi.nd (l₂:=U) λ x hx=>by obtain⟨e,he,rfl⟩:=D8.mp hx;exact hU _ (h1 e he)
   rwa [B3]at this
  rfl';refine fO ⟨λ m' δ M'=>∃(v7 v8 v9:Option D)(lm:List (Cs×α))(d:Nat),δ=[some (.int h),some (enc s0),some (.ref f),some (Se mo),some (.ref p),some (.ref q),some (.int d),v7,v8,v9]/\sw M M'/\M' p=some (.lst (lm.map (kX enc)))/\M' q=some (.bX t (og enc (lm.map λ e=>(e.2,.bl true))))/\vI F s0 h lm d 0/\d<=lm.length/\m'=U.length+1-d,⟨_,none,none,none,_,0,rfl,hE1,xG,Ke,vI.start F s0 h,(),rfl⟩,?_⟩;rintro m' δ M' ⟨v7,v8,v9,lm,d,rfl,hE,eZ,sT,hB,hdl,rfl⟩;have hlen:=(hS hB.eY).2;have fin:yM F s0 h m lm->∀(r:ap),M' r=none->fin2 Q (.ref r) (ag M' r (.lst ((lm.take m).map (kX enc)))):=λ hf r hr=>av (k r lm _ (hE.free hr) ae hf (hE.new hr _));rfl';refine gT (tY eZ ?_);rw[B3];rfl';refine bE (λ eB=>?_) (λ Th=>?_)
  ·refine DL rfl rfl eZ (m:=m) (by rw[B3];exact hmo.imp id λ z=>⟨z.1,by have:=z.2;lia⟩) ?_;rw[B3];refine bE (λ hlm=>?_) (λ hgm=>?_)
   ·obtain⟨⟨a,s⟩,hs⟩:∃e,lm[d]?=some e:=⟨_,g9 ()⟩;have Tr:gN (lm.map (kX enc)) (d:Int)=some (.tup [gc a,enc s]):=bc (by rw[u6,hs];rfl);refine⟨λ δ' M'=>∃(v7 v8 v9:Option D)(lm:List (Cs×α)),δ'=[some (.int h),some (enc s0),some (.ref f),some (Se mo),some (.ref p),some (.ref q),some (.int ((d:Int)+1)),v7,v8,v9]/\sw M M'/\M' p=some (.lst (lm.map (kX enc)))/\M' q=some (.bX t (og enc (lm.map λ e=>(e.2,.bl true))))/\vI F s0 h lm (d+1) 0/\d+1<=lm.length,?_,?_⟩
    ·rintro δ' M2 ⟨v7,v8,v9,cO,rfl,a1,a2,a3,a4,a5⟩;exact⟨_,(),v7,v8,v9,cO,d+1,rfl,a1,a2,a3,a4,a5,rfl⟩
    ·rfl';refine ba (cq eZ Tr ?_);rfl';refine ba (aO (d:=gc a) rfl ?_);rfl';refine⟨cW () (),?_⟩;rw[u9];refine gL (λ i δ M2=>∃(v8 v9:Option D)(lm:List (Cs×α)),δ=[some (.int h),some (enc s0),some (.ref f),some (Se mo),some (.ref p),some (.ref q),some (.int d),some (gc a),v8,v9]/\sw M M2/\M2 p=some (.lst (lm.map (kX enc)))/\M2 q=some (.bX t (og enc (lm.map λ e=>(e.2,.bl true))))/\vI F s0 h lm d i/\lm[d]?=some (a,s)) ⟨v8,v9,lm,rfl,hE,eZ,sT,hB,hs⟩ (λ i y δ M2 hd2 hh2=>?_) (λ δ M2 hh2=>?_)
     ·clear eZ sT hE hB hs Tr fin eB hlm hlen hdl;obtain⟨v8,v9,lm,rfl,hE,eZ,sT,hB,hs⟩:=hh2;obtain⟨hi,rfl⟩:=fz hd2;have Tr:gN (lm.map (kX enc)) (d:Int)=some (.tup [gc a,enc s]):=bc (by rw[u6,hs];rfl);obtain⟨hSe,hlen⟩:=hS hB.eY;have W3:S s:=hSe _ (k8 hs);have Yq:a.length=h:=(hB.eY.ent _ (k8 hs)).1.1;have Ym:M2 f=M2 f:=rfl;rfl';have qG:=md Ji hE;obtain⟨cl,Cp,_⟩:=qG.ex;refine GN rfl ⟨L,cl,Cp⟩ ?_;rfl';refine ba (cq eZ Tr ?_);rfl';refine ba (aO (d:=enc s) rfl ?_);rfl';refine⟨L,ps,fv,sp,cs,C,hL,qG,?_⟩;rw[D4];refine Uv M2 s i _ hE W3 hi λ M3 hE3=>?_;have W':=sw.vh qG.vh hE3;have Wy:=W' _ _ eZ;have S8:=W' _ _ sT;have hE5:=hE.trans W';generalize g_ M3 C=M4 at*;rfl';refine mQ S8 (qD _) ?_;by_cases jq:F i s∈lm.map (·.2)
      ·rw[show(!(cF (og enc (lm.map λ e=>(e.2,D.bl true))) (enc (F i s))).isSome)=false by
        obtain⟨e,he,ee⟩:=D8.mp jq;rw[<- ee,mZ (x:=e.2) (d:=.bl true) inj (by rw[hkm];exact hB.eY.nd) (D8.mpr ⟨e,he,rfl⟩)];rfl]
       rfl';exact⟨_,_,lm,rfl,hE5,Wy,S8,hB.old CM Cm hi hs jq,hs⟩
      ·rw[show(!(cF (og enc (lm.map λ e=>(e.2,D.bl true))) (enc (F i s))).isSome)=true by
        rw[m_ inj (by rw[hkm];exact jq)];rfl]
       rfl';refine lG S8 (qD _) (by rw[hkl];exact p8 (show lm.length<=1000 by lia) (by decide)) ?_;rw[uf inj _ (by rw[hkm];exact jq)];have hp5:ag M4 q (.bX t (og enc (lm.map (λ e=>(e.2,D.bl true))++[(F i s,.bl true)]))) p=some (.lst (lm.map (kX enc))):=by rw[ah jo];exact Wy
       have hq5:ag M4 q (.bX t (og enc (lm.map (λ e=>(e.2,D.bl true))++[(F i s,.bl true)]))) q=some (.bX t (og enc ((lm++[(inc a i,F i s)]).map λ e=>(e.2,.bl true)))):=by rw[ae,B5];rfl
       have hE6:sw M (ag M4 q (.bX t (og enc (lm.map (λ e=>(e.2,D.bl true))++[(F i s,.bl true)])))):=hE5.own Wt;generalize ag M4 q (.bX t (og enc (lm.map (λ e=>(e.2,D.bl true))++[(F i s,.bl true)])))=M5 at*;rfl';refine⟨⟨rfl,_,hp5⟩,?_⟩;rfl';refine⟨a,i,rfl,(),(),?_⟩;rfl';refine dJ hp5 (by rw[B3];exact p8 (show lm.length<=1000 by lia) (by decide)) ?_;refine⟨_,_,lm++[(inc a i,F i s)],rfl,hE6.own hp,?_,?_,hB.new CM Cm hi hs jq,?_⟩
       ·rw[ae,B5];rfl
       ·rw[ah (J9 jo)];exact hq5
       ·rw[c4 (c7.mp hs).1];exact hs
     ·obtain⟨v8,v9,lm,rfl,hE,eZ,sT,hB,hs⟩:=hh2;rw[bj]at hB;have:=(c7.mp hs).1;rfl';exact⟨1,rfl,_,_,_,lm,rfl,hE,eZ,sT,hB.turn,()⟩
   ·with_reducible refine zC ?_
    refine sF rfl rfl eZ (m:=m) (by rw[B3];exact hmo.imp id λ z=>⟨z.1,by have:=z.2;lia⟩) λ r hr=>?_;rw[<- map_take];exact fin ⟨hB.eY,.inl ()⟩ r hr
  ·with_reducible refine Bu ?_
   with_reducible refine zC ?_
   refine sF rfl rfl eZ (m:=m) (by rw[B3];exact hmo.imp id λ z=>⟨z.1,by have:=z.2;lia⟩) λ r hr=>?_;rw[<- map_take];exact fin ⟨hB.eY,.inr λ x hx=>hB.all CM Cm () _ x (Nat.lt_succ_self _) hx⟩ r hr
def wc:dW:=λ ds M Q=>∃(m h:Nat)(kt:List Row)(x i n:Nat),ds=[.tup (kt.map row),.int x,.int i,.int n]/\Tb m h kt/\x<m/\i<h/\∀M',sw M M'->Q (.int (f_ (ax kt i) n x:Nat)) M'
def OB:dW:=λ ds M Q=>∃(m h:Nat)(kt:List Row)(ls cs:Row),ds=[cp kt ls,row cs]/\Tb m h kt/\cs.length=h/\(∀x∈cs,0<=x)/\∀M',sw M M'->Q (.int (lE kt 0 0 cs:Nat)) M'
def Qx(G:Tb m h kt){x:Nat}(hx:x<m)(hi:i<h):gN ((kt.getD x []).map D.int) (i:Int)=some (nD (ax kt i x)):=by obtain⟨e1,e2,e3⟩:=G.at hx hi;refine bc ?_;rw[u6,g9 ()];rw[c3 (l:=kt.getD x []),g9 ()]at e2;exact J8 (λ z=>some (D.int z)) e2
def xS{cs:Row}(h:(dZ (cs.map D.int))[i]?=some d):i<cs.length/\cs[i]?=some (cs.getD i 0)/\cs.take (i+1)=cs.take i++[cs.getD i 0]/\d=.tup [.int (i:Int),.int (cs.getD i 0)]:=by
 obtain⟨hi,e⟩:=gx h;rw[B3]at hi;have e1:cs[i]?=some (cs.getD i 0):=by rw[c3,g9 hi];rfl
 refine⟨hi,e1,by rw[take_add_one,e1];rfl,?_⟩;rw[e,c3,u6,e1];rfl
def vJ(f:Nat->Nat)(x k:Nat):List Nat:=(List.range k).map λ j=>f_ f j x
def zH{f:Nat->Nat}{x:Nat}(h:j<k):(vJ f x k)[j]?=some (f_ f j x):=by unfold vJ;rw[u6,l9 h];rfl
def lN(f:Nat->Nat)(x k:Nat):(vJ f x k).length=k:=by simp[vJ]
def wF(f:Nat->Nat)(x k:Nat):vJ f x (k+1)=vJ f x k++[f_ f k x]:=by unfold vJ;rw[range_succ,B5];rfl
def My(F:hW K "gone_by" "gone_by" (top 10) f fd)(T:iK K mg):bB P w K mg base dX 1 f fd ["steps","thing","heap","many"] (bZ K wc):=by
 refine kJ F ["steps","thing","heap","many","path","start"] (λ dj A outer s H E ds M Q nd hr h=>?_)
 ·obtain⟨m,h,kt,x,i,n,rfl,G,hx,hi,k⟩:=h;have hm:=G.gw;refine⟨_,(aa (aw 4 (cj bO))
 (aa (fJ (aN (lT hr.units) (ai 1) (ai 4))
 (aa (cC (gf i5 c9 i4 bU (ai 4) (bC (ai 1))))
 (aj (aw 1 (aF aL (aF aL (ai 0) (ai 1)) (ai 2))))))
 (aa (cM (aN zQ (ai 3) (aX d_ T.len (bC (ai 4))))
 (aj (aJ (aF aL (ai 4) (ai 3))))
 br)
 (aa (aw 5 (gf i5 PySem.F.slot_list_index PySem.F.type_list_index (lY hr.units) (ai 4) (bC (ai 1))))
 (aj (aJ (aF aL (ai 4) (bx bA (ai 5) (bx j_ (bx BG (ai 3) (ai 5)) (bx BG (aX d_ T.len (bC (ai 4))) (ai 5))))))))))),?_⟩
  rfl';intro p hp;have E1:sw M (ag M p (.lst [])):=sw.new sw.rfl hp _;have h1:ag M p (.lst []) p=some (.lst ((vJ (ax kt i) x 0).map nD)):=ae;generalize ag M p (.lst [])=M1 at*;rfl';have fl:=qA (G.mN hi);refine fO ⟨λ me δ M'=>∃j:Nat,δ=[some (.tup (kt.map row)),some (.int (f_ (ax kt i) j x:Nat)),some (.int i),some (.int n),some (.ref p),none]/\M' p=some (.lst ((vJ (ax kt i) x j).map nD))/\(vJ (ax kt i) x j).Nodup/\sw M M'/\me=m+1-j,⟨_,0,rfl,h1,nodup_nil,E1,rfl⟩,?_⟩;clear E1 h1 M1;rintro me δ M1 ⟨j,rfl,h1,Ka,E1,rfl⟩;have jm:j<=m:=by
   have:=bv Ka (l₂:=List.range m) λ y hy=>by obtain⟨a,_,rfl⟩:=D8.mp hy;exact dL.mpr (fl a x hx)
   rwa [lN,x4]at this
  rfl';refine qc (k:=0) (b:=decide (f_ (ax kt i) j x∈vJ (ax kt i) x j)) (ds:=(vJ (ax kt i) x j).map nD) (dq h1) (cE.pl _) (dM λ x _=>cE.pl x) (by decide) (by rw[bn];exact(uC cE.inj _).symm) ?_;refine gu (λ hn=>?_) (λ hn=>?_)
  ·have hn:f_ (ax kt i) j x∉vJ (ax kt i) x j:=by simpa using hn
   have ZE:(vJ (ax kt i) x (j+1)).Nodup:=by rw[wF];exact nodup_append.mpr ⟨Ka,by simp,λ a ha b hb z=>hn (by rw[<- q8.mp hb,<- z];exact ha)⟩
   refine⟨λ δ' M'=>δ'=[some (.tup (kt.map row)),some (.int (f_ (ax kt i) (j+1) x:Nat)),some (.int i),some (.int n),some (.ref p),none]/\M' p=some (.lst ((vJ (ax kt i) x (j+1)).map nD))/\sw M M',?_,?_⟩
   ·rintro δ' M' ⟨rfl,a1,a2⟩;exact⟨_,(),j+1,rfl,a1,ZE,a2,rfl⟩
   obtain⟨r1,r2,r3⟩:=mP G (fl j x hx);rfl';refine⟨⟨rfl,_,h1⟩,?_⟩;rfl';refine dJ h1 (by rw[B3,lN];exact p8 (show j<=300 by lia) (by decide)) ?_;rfl';refine aO r1 ?_;rfl';refine aO (Qx G (fl j x hx) hi) ?_;rfl';refine⟨?_,by rw[ae,wF,B5];rfl,E1.own hp⟩;rw[IF];rfl
  ·have hn:f_ (ax kt i) j x∈vJ (ax kt i) x j:=by simpa using hn
   rfl';rw[B3,lN];refine bE (λ eB=>?_) (λ Th=>?_)
   ·rfl';refine cq h1 (bc (by rw[u6,zH ()];rfl)) ?_;exact av (k _ E1)
   ·have ha:=fU hn;have la:=(c7.mp ha).1;rw[lN]at la;rfl';refine⟨⟨rfl,_,h1⟩,?_⟩;rfl';refine lJ nD cE.inj h1 hn cE.pl (by decide) ?_;generalize(vJ (ax kt i) x j).idxOf (f_ (ax kt i) j x)=a at*;rw[zH la]at ha;have er:=Es la (B0 ha).symm (n:=n) ();rfl';rw[B3,lN];have em:((n:Int)-(a:Int))%((j:Int)-(a:Int))=(((n-a)%(j-a):Nat):Int):=by rw[show(n:Int)-(a:Int)=((n-a:Nat):Int) by lia,show(j:Int)-(a:Int)=((j-a:Nat):Int) by lia];exact(Int.natCast_emod _ _).symm
    have lb:=Nat.mod_lt (n-a) (show 0<j-a by lia);generalize hb:(n-a)%(j-a)=b at*;refine zE () ?_;rw[em];rfl';refine cq h1 (d:=nD (f_ (ax kt i) (a+b) x)) ?_ ?_
    ·have:=bc (xs:=(vJ (ax kt i) x j).map nD) (j:=a+b) (v:=nD (f_ (ax kt i) (a+b) x)) (by rw[u6,zH ()];rfl)
     rwa [show((a+b:Nat):Int)=(a:Int)+(b:Int) by lia]at this
    ·rw[er];exact av (k _ E1)
def RQ(F:hW K "thing_of" "thing_of" (top 11) f fd)(T:iK K mg)(EI:bY P w K mg base 1 "gone_by" ["steps","thing","heap","many"] wc):bB P w K mg base dX 2 f fd ["table","counts"] (bZ K OB):=by
 refine kJ F ["table","counts","thing","heap","many"] (λ dj A outer s H E ds M Q nd hr h=>?_)
 ·obtain⟨m,h,kt,ls,cs,rfl,G,hc,hp,k⟩:=h;have uU:cp kt ls=.tup [.tup (kt.map row),row ls]:=rfl;rw[uU];have hh:=G.xP;refine⟨_,(aa (aw 2 ak)
 (aa (df (eJ T.enumerate (bC (ai 1))) (gE (n:=2) (bg (aS 3) (bg (aS 4) eK)))
 (aj (aw 2 (aI EI (aH (aF aL (ai 0) ak) (aH (ai 2) (aH (ai 3) (aH (ai 4) bO))))))))
 (aj (aJ (ai 2))))),?_⟩
  rfl';refine gL (λ i δ M'=>∃(v3 v4:Option D),δ=[some (.tup [.tup (kt.map row),row ls]),some (row cs),some (.int (lE kt 0 0 (cs.take i):Nat)),v3,v4]/\sw M M') ⟨none,none,rfl,sw.rfl⟩ (λ i d δ M' hd h=>?_) (λ δ M' h=>?_)
  ·obtain⟨v3,v4,rfl,E1⟩:=h;obtain⟨hi,e,ex,rfl⟩:=xS hd;have hx:=hp _ (k8 e);obtain⟨n,en⟩:∃n:Nat,cs.getD i 0=(n:Int):=⟨(cs.getD i 0).toNat,()⟩;rw[en];rfl';refine⟨m,h,kt,_,i,n,rfl,G,FO G _ 0 0 (by rw[A1];lia) G.pos,(),λ M2 E2=>?_⟩;rfl';have et:lE kt 0 0 (cs.take (i+1))=f_ (ax kt i) n (lE kt 0 0 (cs.take i)):=by rw[ex,en,vY,A1,Nat.min_eq_left (G5 hi),E8];rfl
   rw[et];exact⟨_,_,rfl,E1.trans E2⟩
  ·obtain⟨v3,v4,rfl,E1⟩:=h;rw[bJ,B3,y8];rfl';exact av (k _ E1)
abbrev rh(kv:List (Nat×Nat)):List (D×D):=og nD (kv.map λ e=>(e.1,nD e.2))
def Nd(kv:List (Nat×Nat)):(rh kv).length=kv.length:=by simp[og]
def Aa(kv:List (Nat×Nat)):(kv.map λ e=>(e.1,nD e.2)).map (·.1)=kv.map (·.1):=by rw[D9];rfl
def jg{v:Nat}(Ka:(kv.map (·.1)).Nodup)(h:(y,v)∈kv):cF (rh kv) (nD y)=some (nD v):=mZ cE.inj (by rw[Aa];exact Ka) (D8.mpr ⟨_,h,rfl⟩)
def V_(h:y∉kv.map (·.1)):cF (rh kv) (nD y)=none:=m_ cE.inj (by rw[Aa];exact h)
def Sy{v:Nat}(h:y∉kv.map (·.1)):putD (rh kv) (nD y) (nD v)=rh (kv++[(y,v)]):=by unfold rh;rw[uf cE.inj _ (by rw[Aa];exact h),B5];rfl
def zr:dW:=λ ds M Q=>∃(m h m2 x:Nat)(r q:List Row),ds=[.tup (r.map row),.tup (q.map row),.int x]/\cz m h r/\Tb m2 h q/\x<m2/\∀(p:ap)(kv:List (Nat×Nat))(M':Mem),M p=none->M' p=some (.bX false (rh kv))->Crd m r q h x kv->sw M M'->Q (.ref p) M'
def tS:dW:=λ ds M Q=>∃(m h x:Nat)(r:List Row),ds=[.tup (r.map row),.int x]/\cz m h r/\x<m/\∀(p:ap)(kv:List (Nat×Nat))(M':Mem),M p=none->M' p=some (.bX false (rh kv))->Crd m r r h x kv->sw M M'->Q (.ref p) M'
def MB(F:hW K "carried" "carried" (top 12) f fd)(T:iK K mg):bB P w K mg base dX 1 f fd ["steps","others","start"] (bZ K zr):=by
 refine kJ F ["steps","others","start","told","waiting","thing","heap","later"] (λ dj A outer s H E ds M Q nd hr h=>?_)
 ·obtain⟨m,h,m2,x,r,q,rfl,G,T2,hx,k⟩:=h;have hm:=G.tb.gw;have hh:=G.tb.xP;refine⟨_,(aa (aw 3 (AW hr.units ak (ai 2)))
 (aa (aw 4 (cj (bC ak)))
 (aa (fJ (aN (lU hr.units) (ai 4) (cj bO))
 (aa (aw 5 (UU i5 PySem.F.slot_list_pop PySem.F.type_list_pop O3 (ai 4)))
 (aj (df (eJ T.enumerate (bC (aF (bN hr.units) (ai 0) (ai 5)))) (gE (n:=2) (bg (aS 6) (bg (aS 7) eK)))
 (aj (cM (aN (lS hr.units) (ai 7) (ai 3))
 (aa (dz (aF (bN hr.units) (aF (bN hr.units) (ai 1) (aF (bN hr.units) (ai 3) (ai 5))) (ai 6)) (eR (ai 3) (ai 7) (pZ hr.units)))
 (aj (cC (gf i5 c9 i4 bU (ai 4) (bC (ai 7))))))
 br))))))
 (aj (aJ (ai 3)))))),?_⟩
  rfl';refine wq false λ p hp=>?_;rfl';refine⟨ae,eT 0,?_⟩;rw[dD];have E1:sw M (ag M p (.bX false [(.int 0,.int x)])):=sw.new sw.rfl hp _;have h1:ag M p (.bX false [(.int 0,.int x)]) p=some (.bX false (rh [(0,x)])):=ae;generalize ag M p (.bX false [(.int 0,.int x)])=M1 at*;rfl';intro w hw;have hwM:=E1.free hw;have pw:p≠w:=aM h1 hw;have E2:=E1.new hw (.lst [.int 0]);have h2:ag M1 w (.lst [.int 0]) p=some (.bX false (rh [(0,x)])):=by rw[ah pw];exact h1
  have w2:ag M1 w (.lst [.int 0]) w=some (.lst ([0].map nD)):=ae;generalize ag M1 w (.lst [.int 0])=M2 at*;clear E1 h1 M1 hw;rfl';refine fO ⟨λ me δ M'=>∃(v5 v6 v7:Option D)(kv:List (Nat×Nat))(ws:List Nat),δ=[some (.tup (r.map row)),some (.tup (q.map row)),some (.int x),some (.ref p),some (.ref w),v5,v6,v7]/\M' p=some (.bX false (rh kv))/\M' w=some (.lst (ws.map nD))/\Dh r q h x kv ws/\sw M M'/\ws.length<=kv.length/\me=2*(m-kv.length)+ws.length,⟨_,none,none,none,[(0,x)],[0],rfl,h2,w2,Dh.start r q h x,E2,G7 _,rfl⟩,?_⟩;clear h2 w2 E2 M2;rintro me δ M1 ⟨v5,v6,v7,kv,ws,rfl,h1,w1,C,E1,lw,rfl⟩;have kf:=C.gw G T2 hx;rfl';intro e he;refine oR (k:=0) (b:=decide (ws=[])) (by rw[ah (aM w1 he)];exact w1) ae (dM λ x _=>cV 0 _) (λ e he=>by cases he) (by decide) (Ic (by rw[bn])) ?_;have h1:ag M1 e (.lst []) p=some (.bX false (rh kv)):=by rw[ah (aM h1 he)];exact h1
  have w1:ag M1 e (.lst []) w=some (.lst (ws.map nD)):=by rw[ah (aM w1 he)];exact w1
  have E1:=E1.new he (.lst []);generalize ag M1 e (.lst [])=M2 at*;refine gu (λ hn=>?_) (λ hn=>?_)
  ·have hn:ws≠[]:=by simpa using hn
   obtain⟨FC,y,rfl⟩:∃FC y,ws=FC++[y]:=⟨_,_,(dropLast_concat_getLast hn).symm⟩;obtain⟨v,CI⟩:=C.pop;have hy:=wG G T2 hx (C.pr _ CI.at');refine⟨λ δ' M'=>∃(v5 v6 v7:Option D)(nY:List (Nat×Nat))(yO:List Nat),δ'=[some (.tup (r.map row)),some (.tup (q.map row)),some (.int x),some (.ref p),some (.ref w),v5,v6,v7]/\M' p=some (.bX false (rh nY))/\M' w=some (.lst (yO.map nD))/\Dh r q h x nY yO/\sw M M'/\kv.length+yO.length=nY.length+FC.length/\kv.length<=nY.length,?_,?_⟩
   ·rintro δ' M' ⟨v5,v6,v7,nY,yO,rfl,a1,a2,a3,a4,a5,a6⟩;have:=a3.gw G T2 hx;rw[p4,j9]at lw;exact⟨_,by rw[p4,j9];lia,v5,v6,v7,nY,yO,rfl,a1,a2,a3,a4,(),rfl⟩
   rfl';refine⟨⟨rfl,_,w1⟩,?_⟩;rfl';refine QK (ds:=FC.map nD) (y:=nD y) (by rw[w1,B5];rfl) ?_;have h1:ag M2 w (.lst (FC.map nD)) p=some (.bX false (rh kv)):=by rw[ah pw];exact h1
   have w1:ag M2 w (.lst (FC.map nD)) w=some (.lst (FC.map nD)):=ae;have E1:sw M (ag M2 w (.lst (FC.map nD))):=E1.own hwM;generalize ag M2 w (.lst (FC.map nD))=M3 at*;obtain⟨r1,r2,r3⟩:=mP G.tb hy.1;obtain⟨q1,q2,q3⟩:=mP T2 hy.2;rfl';refine ba (aO r1 ?_);rfl';refine gL (λ i δ M'=>∃(v6 v7:Option D)(nY:List (Nat×Nat))(yO:List Nat),δ=[some (.tup (r.map row)),some (.tup (q.map row)),some (.int x),some (.ref p),some (.ref w),some (nD y),v6,v7]/\M' p=some (.bX false (rh nY))/\M' w=some (.lst (yO.map nD))/\rP r q h x nY yO y v i/\sw M M'/\kv.length+yO.length=nY.length+FC.length/\kv.length<=nY.length/\nY.length<=m) ⟨v6,v7,kv,FC,rfl,h1,w1,CI,E1,rfl,G7 _,kf⟩ (λ i d δ M' hd hI=>?_) (λ δ M' hI=>?_)
   ·clear h1 w1 CI E1;obtain⟨v6,v7,nY,yO,rfl,h1,w1,CI,E1,l1,l2,l3⟩:=hI;obtain⟨hi,e1,_,rfl⟩:=xS hd;rw[r2]at hi;have ex:(r.getD y []).getD i 0=(ax r i y:Int):=(G.tb.at hy.1 hi).2.1;rw[ex];have ez:D.int (ax r i y:Int)=nD (ax r i y):=rfl;rw[ez];rfl';refine mQ h1 (eT _) ?_;by_cases jq:ax r i y∈nY.map (·.1)
    ·obtain⟨en,he,ee⟩:=D8.mp jq;rw[show(!(cF (rh nY) (nD (ax r i y))).isSome)=false by rw[<- ee,jg CI.nd (v:=en.2) he];rfl];rfl';exact⟨_,_,nY,yO,rfl,h1,w1,CI.old jq,E1,l1,l2,l3⟩
    ·rw[show(!(cF (rh nY) (nD (ax r i y))).isSome)=true by rw[V_ jq];rfl];rfl';refine kC h1 (eT _) (jg CI.nd CI.at') ?_;rfl';refine ba (aO q1 ?_);rfl';refine ba (aO (d:=nD (ax q i v)) ?_ ?_)
     ·exact(tN T2 hy.2 hi).2
     rfl';refine lG h1 (eT _) (by rw[Nd];exact p8 (show nY.length<=300 by lia) (by decide)) ?_;rw[Sy jq];have w2:ag M' p (.bX false (rh (nY++[(ax r i y,ax q i v)]))) w=some (.lst (yO.map nD)):=by rw[ah (J9 pw)];exact w1
     have h2:ag M' p (.bX false (rh (nY++[(ax r i y,ax q i v)]))) p=some (.bX false (rh (nY++[(ax r i y,ax q i v)]))):=ae;have E2:sw M (ag M' p (.bX false (rh (nY++[(ax r i y,ax q i v)])))):=E1.own hp;generalize ag M' p (.bX false (rh (nY++[(ax r i y,ax q i v)])))=M4 at*;have CN:=CI.new hi jq;have nf:=CN.nd;have l4:(nY++[(ax r i y,ax q i v)]).length<=m:=by
      have:=bv nf (l₂:=List.range m) λ z hz=>by obtain⟨e,he,rfl⟩:=D8.mp hz;exact dL.mpr (wG G T2 hx (CN.pr e he)).1
      rwa [B3,x4]at this
     rfl';refine⟨⟨rfl,_,w2⟩,?_⟩;rfl';refine dJ w2 (by rw[B3];exact p8 (show yO.length<=700 by rw[p4,j9]at lw;lia) (by decide)) ?_;refine⟨_,_,_,yO++[ax r i y],rfl,by rw[ah pw];exact h2,by rw[ae,B5];rfl,CN,E2.own hwM,?_,?_,l4⟩
     ·rw[p4,p4,j9,j9];lia
     ·rw[p4];lia
   ·obtain⟨v6,v7,nY,yO,rfl,h1,w1,CI,E1,l1,l2,l3⟩:=hI;rw[bJ,B3,r2]at CI;exact⟨_,_,_,nY,yO,rfl,h1,w1,CI.done,E1,l1,l2⟩
  ·have hn:ws=[]:=by simpa using hn
   subst hn;rfl';exact av (k p kv _ hp h1 (C.crd G T2 hx) E1)
def HI(F:hW K "put_to" "put_to" (top 13) f fd)(T:iK K mg)(nB:bY P w K mg base 1 "carried" ["steps","others","start"] zr):bB P w K mg base dX 2 f fd ["steps","x"] (bZ K tS):=by
 refine kJ F ["steps","x"] (λ dj A outer s H E ds M Q nd hr h=>?_)
 ·obtain⟨m,h,x,r,rfl,G,hx,k⟩:=h;refine⟨_,(aj (aJ (aI nB (Ov (ai 0) (ai 0) (ai 1))))),?_⟩;rfl';refine⟨m,h,m,x,r,r,rfl,G,G.tb,hx,λ p kv M' hp h1 C E1=>?_⟩;exact av (k p kv M' hp h1 C E1)
def IG(ls:Row)(x:Nat):cU ls x=true↔D.int (x:Int)∈ls.map D.int:=by
 unfold cU;rw[bn];constructor
 ·intro h;exact D8.mpr ⟨_,h,rfl⟩
 ·intro h;obtain⟨y,hy,e⟩:=D8.mp h;rw[<- D.int.inj e];exact hy
def lI{Q:bF}{x:Nat}(q:Q (.bl (cU ls x)) M):Xp (.int (x:Int)) (row ls) M Q:=.inl (tZ (k:=0) (ds:=ls.map D.int) rfl (cV 0 _) (dM λ x _=>cV 0 _) (by decide) (IG ls x) q)
def Lz{Q:bF}{x:Nat}(q:Q (.bl (cU ls x)) M):EL (.int (x:Int)) (row ls) M Q:=tZ (k:=0) (ds:=ls.map D.int) rfl (cV 0 _) (dM λ x _=>cV 0 _) (by decide) (IG ls x) q
def Gb:dW:=λ ds M Q=>∃(m h x:Nat)(r:List Row)(ls:Row),ds=[cp r ls,.int x]/\cz m h r/\x<m/\∀M',sw M M'->Q (UE (vM m r h ls x)) M'
def Gg:dW:=λ ds M Q=>∃(m h:Nat)(r:List Row)(ls:Row),ds=[cp r ls]/\cz m h r/\∀(p:ap)(M':Mem),M p=none->M' p=some (.lst ((jI (ia m r h ls)).map nD))->sw M M'->Q (.ref p) M'
def Ci[DecidableEq α]{T:List α}{b:α}(h:T[i]?=some b)(n:b∉T.take i):SJ T b=i:=by
 have lt:=(c7.mp h).1;have a:=fU (k8 h);have le:T.idxOf b<=i:=by
  refine y4 λ z=>?_;have e:=take_append_drop i T;have:T.idxOf b=(T.take i++T.drop i).idxOf b:=by rw[e]
  rw[idxOf_append,K3 n,c6 lt]at this;have hb:T[i]=b:=(c7.mp h).2;rw[hb,xB,A1]at this;lia
 refine B6 le (y4 λ z=>n ?_);refine k8 (i:=SJ T b) ?_;rw[getElem?_take_of_lt z];exact a
structure Kn(T:List (List Bool))(kvs:List (List Bool×D))(i:Nat):Prop where
 len:kvs.length<=i
 look:∀b,lZ kvs b=if b∈T.take i then some (nD (SJ T b))else none
def Kn.old{T:List (List Bool)}{kvs:List (List Bool×D)}(k:Kn T kvs i)(h:T[i]?=some b0)(n:b0∈T.take i):Kn T kvs (i+1):=
 ⟨by have:=k.len;lia,λ b=>by
  rw[k.look,take_one h];by_cases z:b∈T.take i
  ·rw[K1 z,K1 (k9 _ z)]
  ·rw[K3 z,K3 λ q=>(B4.mp q).elim z λ q=>z (by rw[q8.mp q];exact n)]⟩
def Kn.new{T:List (List Bool)}{kvs:List (List Bool×D)}(k:Kn T kvs i)(h:T[i]?=some b0)(n:b0∉T.take i):Kn T (kvs++[(b0,nD i)]) (i+1):=by
 refine⟨by rw[p4,j9];have:=k.len;lia,λ b=>?_⟩;have kl:=k.look b;unfold lZ at kl ⊢;rw[find?_append,take_one h];cases e:kvs.find? λ p=>decide (p.1=b)with
 |some p=>
  rw[e]at kl;show some p.2=_;by_cases z:b∈T.take i
  ·rw[K1 z]at kl;rw[K1 (k9 _ z)];exact kl
  ·rw[K3 z]at kl;cases kl
 |none=>
  rw[e]at kl;have z:b∉T.take i:=λ z=>by rw[K1 z]at kl;cases kl
  by_cases q:b0=b
  ·subst q;rw[K1 (by simp),Ci h n];simp
  ·rw[K3 λ w=>(B4.mp w).elim z λ w=>q (q8.mp w).symm];simp[q]
def Mv(F:hW K "losing_beside" "losing_beside" (top 15) f fd)(T:iK K mg)(mB:bY P w K mg base 2 "put_to" ["steps","x"] tS):bB P w K mg base dX 3 f fd ["table","x"] (bZ K Gb):=by
 refine kJ F ["table","x","beside"] (λ dj A outer s H E ds M Q nd hr h=>?_)
 ·obtain⟨m,h,x,r,ls,rfl,G,hx,k⟩:=h;have uU:cp r ls=.tup [.tup (r.map row),row ls]:=rfl;rw[uU];have hm:=G.tb.gw;have Ag:=G.tb.len;refine⟨_,(aa (aw 2 (aI mB (dm (aF (bN hr.units) (ai 0) ak) (ai 1))))
 (aj (aJ (fL bK ck T.tuple (oN [2,0] (bf T.range (bC (aX nF T.len (bC (aF (bN hr.units) (ai 0) ak))))) aZ (eW (wQ hr.units) (aF (bN hr.units) (ai 1) (ai 0)) (aF (bN hr.units) (ai 2) ak))))))),?_⟩
  rfl';refine ba (aO (d:=.tup (r.map row)) rfl ?_);rfl';refine⟨m,h,x,r,rfl,G,hx,λ p kv M' hp h1 C E1=>?_⟩;rfl';refine ba (aO (d:=.tup (r.map row)) rfl ?_);rfl';refine gT ?_;rfl';rw[B3,Ag];refine⟨cW () (),?_⟩;rw[u9,eh];refine fj (xs:=List.range m) (enc:=Lb) (λ y=>.bl (cU ls (mul r h x y))) (by rw[x4];lia) (λ i y N hy hN=>?_) ?_
  ·have hy:=wg hy;obtain⟨v,hv⟩:=C.all y hy;have ev:v=mul r h x y:=mX G hx (C.pr _ hv);subst ev;rfl';rw[Bp];refine kC h1 (eT _) (jg C.nd hv) ?_;rfl';refine ba (aO (d:=row ls) rfl ?_);rfl';exact lI hN
  ·rfl';have e:D.tup ((List.range m).map λ y=>D.bl (cU ls (mul r h x y)))=UE (vM m r h ls x):=by unfold UE vM;rw[D9];rfl
   rw[e];exact av (k _ E1)
def MA(F:hW K "first_alike" "first_alike" (top 16) f fd)(T:iK K mg)(oE:bY P w K mg base 3 "losing_beside" ["table","x"] Gb):bB P w K mg base dX 4 f fd ["table"] (bZ K Gg):=by
 refine kJ F ["table","known"] (λ dj A outer s H E ds M Q nd hr h=>?_)
 ·obtain⟨m,h,r,ls,rfl,G,k⟩:=h;have uU:cp r ls=.tup [.tup (r.map row),row ls]:=rfl;have hm:=G.tb.gw;have Ag:=G.tb.len;refine⟨_,(aa (aw 1 FG)
 (aj (aJ (hX (oN [1,0] (bf T.range (bC (aX nF T.len (bC (aF (bN hr.units) (ai 0) ak))))) aZ (Dz hr.units (ai 1) (dm (aI oE (dm (ai 2) (ai 0))) (ai 0)))))))),?_⟩
  rfl';intro q hq;have E1:sw M (ag M q (.eX (.vA []))):=sw.new sw.rfl hq _;have h1:ag M q (.eX (.vA [])) q=some (.eX (.vA [])):=ae;generalize ag M q (.eX (.vA []))=M1 at*;rfl';refine ba ?_;rw[uU];refine aO (d:=.tup (r.map row)) rfl ?_;rfl';refine gT ?_;rfl';rw[B3,Ag];refine⟨cW () (),?_⟩;rw[u9,eh];refine kY (xs:=List.range m) (enc:=Lb) nD (λ ys M'=>ys=(jI (ia m r h ls)).take ys.length/\sw M M'/\∃kvs,M' q=some (.eX (.vA kvs))/\Kn (ia m r h ls) kvs ys.length) (by rw[x4];lia) ⟨rfl,E1,[],h1,G7 _,λ b=>by simp[lZ]⟩ (λ i x ys M' N hx hl hI hN=>?_) (λ ys M' hl hI=>?_)
  ·obtain⟨e1,E2,kvs,h2,kn⟩:=hI;have Pb:x=i:=by have:=(c7.mp hx).1;rw[x4]at this;rw[l9 this]at hx;exact(B0 hx).symm
   have hx:=wg hx;have ta:=dG (r:=r) (h:=h) (ls:=ls) hx;have na:(jI (ia m r h ls))[x]?=some (SJ (ia m r h ls) (vM m r h ls x)):=by have:=xu (K:=jI (ia m r h ls)) (x:=x) (by rw[oX];simp[ia];exact hx);rw[kL ta]at this;exact this
   rw[hl,<- Pb]at e1 kn;have fin:∀M2 cT,sw M M2->M2 q=some (.eX (.vA cT))->Kn (ia m r h ls) cT (x+1)->N (nD (SJ (ia m r h ls) (vM m r h ls x))) M2:=λ M2 cT a b c=>hN _ _ ⟨by rw[p4,j9,hl,<- Pb,take_one na,<- e1],a,cT,b,by rw[p4,j9,hl,<- Pb];exact c⟩;have kl:=kn.len;rfl';refine⟨⟨q,kvs,rfl,h2⟩,?_⟩;rfl';rw[Bp];refine⟨m,h,x,r,ls,rfl,G,hx,λ M3 E3=>?_⟩;have h3:=E3 _ _ h2;rfl';refine⟨q,kvs,vM m r h ls x,nD x,rfl,rfl,h3,p8 (show kvs.length<=300 by lia) (by decide),λ u hu=>?_,λ hn=>?_⟩
   ·rw[kn.look]at hu;split at hu
    ·next z=>
     cases hu;exact fin _ kvs (E2.trans E3) h3 (kn.old ta z)
    ·cases hu
   ·rw[kn.look]at hn;split at hn
    ·cases hn
    ·next z=>
     have ix:=Ci ta z;have:=fin (ag M3 q (.eX (.vA (kvs++[(vM m r h ls x,nD x)])))) _ ((E2.trans E3).own hq) ae (kn.new ta z);rw[ix]at this;exact this
  ·obtain⟨e1,E2,kvs,h2,kn⟩:=hI;rw[x4]at hl;rw[hl,i9 (by rw[oX];simp[ia])]at e1;subst e1;intro p hp;exact av (k p _ (E2.free hp) ae (E2.new hp _))
noncomputable def X6(ns:List Nat):List (D×D):=og nD ((List.range ns.length).map λ d=>(ns.getD d 0,nD d))
def BB(ns:List Nat)(i:Nat)(hi:i<=ns.length):((List.range i).map λ d=>(ns.getD d 0,nD d)).map (·.1)=ns.take i:=by
 rw[D9];refine x8 λ j=>?_;rw[u6];by_cases z:j<i
 ·rw[l9 z,getElem?_take_of_lt z];show some (ns.getD j 0)=_;rw[c3,g9 ()];rfl
 ·rw[k5 (by rw[x4];lia),k5 (by rw[A1];lia)];rfl
def VI{ns:List Nat}(Ka:ns.Nodup){d s:Nat}(h:ns[d]?=some s):cF (X6 ns) (nD s)=some (nD d):=by
 have lt:=(c7.mp h).1;have e:ns.getD d 0=s:=by rw[c3,h];rfl
 refine mZ cE.inj (by rw[BB ns ns.length (G7 _),y8];exact Ka) (D8.mpr ⟨d,dL.mpr lt,by rw[e]⟩)
def OD:dW:=λ ds M Q=>∃(a:ap)(ns:List Nat),ds=[.ref a]/\M a=some (.lst (ns.map nD))/\ns.Nodup/\ns.length<=1000/\∀(p:ap)(M':Mem),M p=none->M' p=some (.bX false (X6 ns))->sw M M'->Q (.ref p) M'
def Bd(P:Program)(w:World)(K:K6)(mg:Str->Option gV)(base:Heap):dW:=λ ds M Q=>∃(S:Nat->Prop)(F:Nat->Nat->Nat)(h s:Nat)(f q:ap)(aD:List Nat)(L:lp)(ps fv:List Str)(sp:nG)(cs:List D)(C:CM),
 ds=[.int s,.int h,.ref f,.ref q]/\h<=12/\S s/\aD.Nodup/\M q=some (.bX false (X6 aD))/\(∀i,i<h->F i s∈aD)/\qY P w K mg base 5 L ps fv sp/\oJ M f L fv cs C/\
 (∀M1 s i Q',sw M M1->S s->i<h->(∀M',sw (fi M1 C) M'->Q' (nD (F i s)) M')->sp [nD s,.int i] cs (fi M1 C) Q')/\
 ∀(r:Row)(M':Mem),cA F aD s h r->sw M M'->Q (row r) M'
def FZ(P:Program)(w:World)(K:K6)(mg:Str->Option gV)(base:Heap):dW:=λ ds M Q=>∃(S:Nat->Prop)(F:Nat->Nat->Nat)(gU:Nat->Bool)(h s0:Nat)(f g:ap)(U:List Nat)(L:lp)(ps fv:List Str)(sp:nG)(cs:List D)(C:CM)(L2:lp)(Zo Yy:List Str)(X4:nG)(YB:List D)(C2:CM),
 ds=[.int h,.int s0,.ref f,.ref g]/\h<=12/\kg S h F/\S s0/\(∀s,S s->s∈U)/\U.length<=300/\qY P w K mg base 5 L ps fv sp/\oJ M f L fv cs C/\
 (∀M1 s i Q',sw M M1->S s->i<h->(∀M',sw (fi M1 C) M'->Q' (nD (F i s)) M')->sp [nD s,.int i] cs (fi M1 C) Q')/\
 qY P w K mg base 5 L2 Zo Yy X4/\oJ M g L2 Yy YB C2/\(∀M1 s Q',sw M M1->S s->(∀M',sw (fi M1 C2) M'->Q' (.bl (gU s)) M')->X4 [nD s] YB (fi M1 C2) Q')/\
 ∀(aD:List Nat)(kt:List Row)(ls:Row)(M':Mem),(∃lm:List (Cs×Nat),aD=lm.map (·.2)/\AM F s0 h lm/\∀q,gO F s0 h q->q∈lm.map (·.1))->mJ F s0 h U aD kt->kt.length=aD.length->lA aD.length ls->(∀d s,aD[d]?=some s->cU ls d=gU s)->sw M M'->Q (cp kt ls) M'
def Cr:∀(cs:Cs)(i s:Nat),i+cs.length<=h->jY F h s0 s->jY F h s0 (aP F i s cs)
 |[],i,s,_,R=>R
 |c::cs,i,s,hl,R=>by
  rw[y6]at hl;have:∀n s,jY F h s0 s->jY F h s0 (dQ (F i) n s):=λ n=>by
   induction n with
   |zero=>exact λ s R=>R
   |succ n ih=>exact λ s R=>by rw[qz];exact .step (ih s R) ()
  exact Cr cs (i+1) _ () (this c s R)
def RS(F:hW K "places_of" "places_of" (top 1) f fd)(T:iK K mg):bB P w K mg base dX 1 f fd ["names"] (bZ K OD):=by
 refine kJ F ["names","places","number","name"] (λ dj A outer s H E ds M Q nd hr h=>?_)
 ·obtain⟨a,ns,rfl,ha,Ka,hl,k⟩:=h;refine⟨_,(aa (aw 1 (FH false))
 (aa (df (eJ T.enumerate (bC (ai 0))) (gE (n:=2) (bg (aS 2) (bg (aS 3) eK)))
 (aj (dz (ai 2) (eR (ai 1) (ai 3) (pZ hr.units)))))
 (aj (aJ (ai 1))))),?_⟩
  rfl';intro q hq;have E1:sw M (ag M q (.bX false [])):=sw.new sw.rfl hq _;have h1:ag M q (.bX false []) q=some (.bX false (og nD ((List.range 0).map λ d=>(ns.getD d 0,nD d)))):=ae;have ha1:=E1 _ _ ha;have qa:q≠a:=J9 (aM ha hq);generalize ag M q (.bX false [])=M1 at*;rfl';refine TB (ds:=dZ (ns.map nD)) (λ i δ M'=>∃v2 v3:Option D,δ=[some (.ref a),some (.ref q),v2,v3]/\sw M M'/\M' q=some (.bX false (og nD ((List.range i).map λ d=>(ns.getD d 0,nD d))))) ⟨_,_,rfl,E1,h1⟩ (λ i δ M' _ hI=>?_) (λ i d δ M' hd hI=>?_) (λ δ M' hI=>?_)
  ·obtain⟨_,_,_,E2,_⟩:=hI;show gy (.ref a) M'=_;unfold gy;rw[dq (E2 _ _ ha)];rfl
  ·obtain⟨v2,v3,rfl,E2,h2⟩:=hI;obtain⟨hi,rfl⟩:=gx hd;rw[B3]at hi;have en:(ns.map nD).getD i .bo=nD (ns.getD i 0):=by rw[c3,u6,g9 hi,c3,g9 hi];rfl
   rw[en];rfl';refine lG h2 (eT _) (by simp[og];exact p8 (show i<=1000 by lia) (by decide)) ?_;have hn:ns.getD i 0∉((List.range i).map λ d=>(ns.getD d 0,nD d)).map (·.1):=by rw[BB ns i ()];intro z;obtain⟨j,hj⟩:=ga z;have lj:=(c7.mp hj).1;rw[A1]at lj;rw[getElem?_take_of_lt ()]at hj;have:=qp Ka hj (show ns[i]?=some (ns.getD i 0) by rw[c3,g9 hi];rfl);lia
   rw[uf cE.inj _ hn];refine⟨_,_,rfl,E2.own hq,?_⟩;rw[ae,range_succ,B5];rfl
  ·obtain⟨v2,v3,rfl,E2,h2⟩:=hI;rw[bJ,B3]at h2;rfl';exact av (k q _ hq h2 E2)
def HG(F:hW K "row_of" "row_of" (top 7) f fd)(T:iK K mg):bB P w K mg base dX 6 f fd ["there","heaps","gone","places"] (bZ K (Bd P w K mg base)):=by
 refine kJ F ["there","heaps","gone","places"] (λ dj A outer s H E ds M Q nd hr h=>?_)
 ·obtain⟨S,F,h,s,f,q,aD,L,ps,fv,sp,cs,C,rfl,hh,hs,Ka,hq,jq,hL,Ji,Uv,k⟩:=h;refine⟨_,(aj (aJ (fL bK ck T.tuple (oN [3,2,0] (bf T.range (bC (ai 1))) aZ (aF (bN hr.units) (ai 1) (vV (P:=P) (w:=w) (K:=K) (mg:=mg) (base:=base) rfl rfl rfl rfl rfl (k:=5) (i:=2) (hr.mono (by decide)) (by rfl) (by first|exact Or.inl rfl|exact Or.inr (Or.inl rfl)|exact Or.inr (Or.inr rfl)) (dm (ai 3) (ai 0)))))))),?_⟩;rfl';refine⟨cW () (),?_⟩;rw[u9,eh];refine kY (xs:=List.range h) (enc:=Lb) D.int (λ r M'=>sw M M'/\cA F aD s r.length r) (by rw[x4];lia) ⟨sw.rfl,cA.nil F aD s⟩ (λ i x r M' N hx hl hI hN=>?_) (λ r M' hl hI=>?_)
  ·obtain⟨E1,R⟩:=hI;have Pb:x=i:=by have:=(c7.mp hx).1;rw[x4]at this;rw[l9 this]at hx;exact(B0 hx).symm
   have hx:=wg hx;rw[hl,<- Pb]at R;rfl';have qG:=md Ji E1;obtain⟨cl,Cp,_⟩:=qG.ex;refine GN rfl ⟨L,cl,Cp⟩ ?_;rfl';refine⟨L,ps,fv,sp,cs,C,hL,qG,?_⟩;rw[Bp];refine Uv M' s x _ E1 hs hx λ M3 hE3=>?_;have W':=sw.vh qG.vh hE3;have E5:=E1.trans W';have hq5:=E5 _ _ hq;generalize g_ M3 C=M4 at*;have hi:=fU (jq x hx);rfl';refine kC hq5 (eT _) (VI Ka hi) ?_;have RN:=R.next hi;refine hN _ _ ⟨E5,?_⟩;rw[p4,j9,hl,<- Pb];exact RN
  ·obtain⟨E1,R⟩:=hI;rw[x4]at hl;rfl';rw[hl]at R;exact av (k r M' R E1)
def Mr(F:hW K "numbered" "numbered" (top 8) f fd)(T:iK K mg)(iy:PL P w K mg base 7 "first_sums" ["heaps","start","gone","most"] (tT P w K mg base))(ya:bY P w K mg base 1 "places_of" ["names"] OD)(Jz:bY P w K mg base 6 "row_of" ["there","heaps","gone","places"] (Bd P w K mg base)):bB P w K mg base dX 13 f fd ["heaps","start","gone","is_losing"] (bZ K (FZ P w K mg base)):=by
 refine kJ F ["heaps","start","gone","is_losing","things","places","steps"] (λ dj A outer s H E ds M Q nd hr h=>?_)
 ·obtain⟨S,F,gU,h,s0,f,g,U,L,ps,fv,sp,cs,C,L2,Zo,Yy,X4,YB,C2,rfl,hh,CM,Cm,hU,hUl,hL,Ji,Uv,hL2,qG,hlo,k⟩:=h;refine⟨_,(aa (cB 4 (PU [] (cK (P0 iy (Ov (ai 0) (ai 1) (ai 2)))) aZ (ai 1)))
 (aa (aw 5 (aI ya (bC (ai 4))))
 (aa (aw 6 (fL bK ck T.tuple (oN [0,2,5] (cK (ai 4)) aZ (aI Jz (aH (ai 0) (aH (ai 1) (aH (ai 2) (aH (ai 3) bO))))))))
 (aj (aJ (dY (dm (ai 6) (fL bK ck T.tuple (PU [3] (eJ T.enumerate (bC (ai 4))) (oM (zh (vV (P:=P) (w:=w) (K:=K) (mg:=mg) (base:=base) rfl rfl rfl rfl rfl (k:=5) (i:=2) (hr.mono (by decide)) (by rfl) (by first|exact Or.inl rfl|exact Or.inr (Or.inl rfl)|exact Or.inr (Or.inr rfl)) (bC (ai 1))))) (ai 0)))))))))),?_⟩
  rfl';refine⟨Nat,inferInstance,nD,false,S,F,s0,h,U.length+1,none,f,U,L,ps,fv,sp,cs,C,rfl,.inr ⟨rfl,Nat.lt_succ_self _⟩,cE.inj,eT,CM,Cm,hU,(),hh,hL,Ji,Uv,λ p lm M1 hp h1 FS E1=>?_⟩;have hS:∀e∈lm,S e.2:=λ e he=>by have:=FS.eY.ent e he;rw[<- this.2];exact CM.aP e.1 0 s0 (by rw[this.1.1];lia) Cm
  have hlen:lm.length<=U.length:=by
   have:=bv FS.eY.nd (l₂:=U) λ x hx=>by obtain⟨e,he,rfl⟩:=D8.mp hx;exact hU _ (hS e he)
   rwa [B3]at this
  rw[i9 ()]at h1;have all:∀q,gO F s0 h q->q∈lm.map (·.1):=FS.Xd.resolve_left ();have cl:∀s∈lm.map (·.2),∀i,i<h->F i s∈lm.map (·.2):=λ s hs i hi=>by obtain⟨e,he,rfl⟩:=D8.mp hs;have ee:=FS.eY.ent e he;obtain⟨q,fq,eq,_⟩:=gO.ex F s0 h (p:=inc e.1 i) (by rw[fh];exact ee.1.1);obtain⟨e2,Kh,e3⟩:=D8.mp (all q fq);refine D8.mpr ⟨e2,Kh,?_⟩;rw[<- (FS.eY.ent e2 Kh).2,e3,eq,CM.inc e.1 0 i s0 (by rw[ee.1.1];lia) (by rw[ee.1.1];exact hi) Cm,ee.2,E8]
  have ZD:=FS.eY.nd;have gp:(lm.map (·.2))[0]?=some s0:=by rw[u6,FS.eY.gp];rfl
  have ud:∀s∈lm.map (·.2),jY F h s0 s:=λ s hs=>by obtain⟨e,he,rfl⟩:=D8.mp hs;have ee:=FS.eY.ent e he;rw[<- ee.2];exact Cr e.1 0 s0 (by rw[ee.1.1];lia) .zero
  have W3:∀s∈lm.map (·.2),S s:=λ s hs=>by obtain⟨e,he,rfl⟩:=D8.mp hs;exact hS e he
  rfl';refine tw (kX nD) (λ e:Cs×Nat=>nD e.2) () h1 (λ i e N he hN=>?_) ?_
  ·have Ti:kX nD e=.tup [gc e.1,.int (e.2:Int)]:=rfl;rw[Ti];rfl';exact hN
  intro q hq;have e1:lm.map (λ e:Cs×Nat=>nD e.2)=(lm.map (·.2)).map nD:=by rw[D9];rfl
  rw[e1];have adQ:(lm.map (·.2)).length=lm.length:=B3 _;have YW:∃cO:List (Cs×Nat),lm.map (·.2)=cO.map (·.2)/\AM F s0 h cO/\∀q,gO F s0 h q->q∈cO.map (·.1):=⟨lm,rfl,FS.eY,all⟩;generalize lm.map (·.2)=aD at*;have E2:=E1.new hq (.lst (aD.map nD));have h2:ag M1 q (.lst (aD.map nD)) q=some (.lst (aD.map nD)):=ae;generalize ag M1 q (.lst (aD.map nD))=M2 at*;rfl';refine⟨q,aD,rfl,h2,ZD,(),λ d M3 hd h3 E3=>?_⟩;have E3':=E2.trans E3;have h23:=E3 _ _ h2;rfl';refine mE nD row (λ rs M'=>sw M M'/\M' q=some (.lst (aD.map nD))/\M' d=some (.bX false (X6 aD))/\∀(j:Nat)(r:Row),rs[j]?=some r->∃s,aD[j]?=some s/\cA F aD s h r) () ⟨E3',h23,h3,λ j r z=>by simp at z⟩ (λ _ _ z=>z.2.1) (λ i s rs M' N hs hl hI hN=>?_) (λ rs M' hl hI=>?_)
  ·obtain⟨E4,S8,hd4,hr4⟩:=hI;have hsm:=k8 hs;rfl';refine⟨S,F,h,s,f,d,aD,L,ps,fv,sp,cs,C,rfl,hh,W3 s hsm,ZD,hd4,λ i hi=>cl s hsm i hi,hL,md Ji E4,λ M5 s i Q' E5=>Uv M5 s i Q' (E4.trans E5),λ r M5 R E5=>?_⟩;refine hN _ _ ⟨E4.trans E5,E5 _ _ S8,E5 _ _ hd4,λ j r' z=>?_⟩;by_cases g:j<rs.length
   ·rw[c4 g]at z;exact hr4 j r' z
   ·have lt:=(c7.mp z).1;rw[p4,j9]at lt;have:j=rs.length:=()
    subst this;rw[b9 (G7 _),Nat.sub_self]at z;cases z;exact⟨s,by rw[hl];exact hs,R⟩
  ·obtain⟨E4,S8,hd4,hr4⟩:=hI;have ex:mJ F s0 h U aD rs:=⟨ZD,gp,ud,λ s hs=>hU s (W3 s hs),hr4⟩;rfl';refine Ax (ds:=dZ (aD.map nD)) (λ i li M7=>sw M M7/\M7 q=some (.lst (aD.map nD))/\∃ls:Row,li=ls.map D.int/\lA i ls/\∀d s,d<i->aD[d]?=some s->cU ls d=gU s) ⟨E4,S8,[],rfl,lA.nil 0,λ d s z=>be z ()⟩ (λ i li M7 _ h=>?_) (λ i li M7 hi h=>?_) (λ i dd li M7 hd h=>?_) (λ li M7 h=>?_)
   ·obtain⟨_,z,_⟩:=h;show gy (.ref q) M7=_;unfold gy;rw[dq z];rfl
   ·obtain⟨_,_,ls,rfl,LL,_⟩:=h;rw[bJ,B3]at hi;have:=LL.gw;rw[B3];exact small ()
   ·obtain⟨E7,hq7,ls,rfl,LL,mm⟩:=h;obtain⟨hi,rfl⟩:=gx hd;rw[B3]at hi;obtain⟨s,hs⟩:∃s,aD[i]?=some s:=⟨_,g9 hi⟩;have es:(aD.map nD).getD i .bo=nD s:=by rw[c3,u6,hs];rfl
    rw[es];rfl';have Tt:=md qG E7;obtain⟨cl7,aaP,_⟩:=Tt.ex;refine GN rfl ⟨L2,cl7,aaP⟩ ?_;rfl';refine⟨L2,Zo,Yy,X4,YB,C2,hL2,Tt,?_⟩;refine hlo M7 s _ E7 (W3 s (k8 hs)) λ M8 hE8=>?_;have hE9:=sw.vh Tt.vh hE8;have E9:=E7.trans hE9;have hq9:=hE9 _ _ hq7;generalize g_ M8 C2=M9 at*;have low:∀d:Nat,(d:Int)∈ls->d<i:=λ d hd=>by have:=LL.2 _ hd;lia
    cases z:gU s with
    |true=>
     rfl';refine⟨E9,hq9,ls++[(i:Int)],by rw[B5];rfl,LL.add,λ d s' hd jV=>?_⟩;by_cases g:d=i
     ·subst g;rw[hs]at jV;cases jV;rw[z];exact B8 (by simp)
     ·rw[<- mm d s' () jV];unfold cU;refine decide_eq_decide.mpr ?_;rw[B4,q8];exact⟨λ o=>o.elim id λ o=>be (Int.ofNat.inj o) g,.inl⟩
    |false=>
     rfl';refine⟨E9,hq9,ls,rfl,LL.up,λ d s' hd jV=>?_⟩;by_cases g:d=i
     ·subst g;rw[hs]at jV;cases jV;rw[z];exact A7 λ o=>be (low d o) (C7 _)
     ·exact mm d s' () jV
   ·obtain⟨E7,hq7,ls,rfl,LL,mm⟩:=h;rw[bJ,B3]at LL mm;rfl';exact av (k aD rs ls _ YW ex hl LL (λ d s hs=>mm d s (c7.mp hs).1 hs) E7)
def Gh:nG:=λ ds cs M Q=>∃(m h x i:Nat)(r:List Row)(K:List Nat)(a:ap),ds=[.int x,.int i]/\cs=[.ref a,.tup (r.map row)]/\M a=some (.lst (K.map nD))/\Tb m h r/\K.length=m/\x<m/\i<h/\Q (nD (kd K (ax r i x))) M
def OG:nG:=λ ds cs M Q=>∃(x:Nat)(r:List Row)(ls:Row),ds=[.int x]/\cs=[cp r ls]/\Q (.bl (cU ls x)) M
def UH(M:Mem):Prop:=M 93=some (.eX (.mM "least.<locals>.<lambda>"))
def Bg:dW:=λ ds M Q=>∃(m h:Nat)(r:List Row)(ls:Row),ds=[cp r ls]/\UH M/\cz m h r/\∀(lm:List (Cs×Nat))(kt:List Row)(dF:Row)(M':Mem),Fd m h r ls lm kt dF->sw M M'->Q (cp kt dF) M'
def E_{C:CM}{o:MO}(hn:∀b d,C b=some d->M b=none)(h:M a=some o):g_ M C a=some o:=by
 rcases cJ C a with z|⟨d,z⟩
 ·rw[iB z];exact h
 ·rw[hn a d z]at h;cases h
def MZ(T:iK K mg):qY P w K mg base 1 (l_ (top 17) 2 "least.<locals>.<lambda>" mg) ["x","heap"] ["alike","steps"] Gh:=by
 refine Ss (Il (by kernel_rfl) (by decide+kernel)) (λ ds cs M Q h=>?_) (λ _ _ _=>ln2 λ _ _=>rfl) (λ A outer s H f c cl ds cs M Q hr h=>?_)
 ·obtain⟨m,h,x,i,r,K,a,rfl,_⟩:=h;rfl
 ·obtain⟨m,h,x,i,r,K,a,rfl,rfl,ha,G,hK,hx,hi,k⟩:=h;have ta:=tN G hx hi;refine⟨_,(aF aL (ai 2) (aF aL (aF aL (ai 3) (ai 0)) (ai 1))),?_⟩;rfl';refine aO (d:=.tup ((r.getD x []).map D.int)) ta.1 ?_;rfl';refine aO ta.2 ?_;rfl';exact cq ha (Iw (by have:=G.mN hi x hx;lia)) k
def Sr(T:iK K mg):qY P w K mg base 1 (l_ (top 17) 3 "least.<locals>.<lambda>" mg) ["x"] ["table"] OG:=by
 refine Ss (Il (by kernel_rfl) (by decide+kernel)) (λ ds cs M Q h=>?_) (λ _ _ _=>ln1 λ _=>rfl) (λ A outer s H f c cl ds cs M Q hr h=>?_)
 ·obtain⟨x,r,ls,rfl,_⟩:=h;rfl
 ·obtain⟨x,r,ls,rfl,rfl,k⟩:=h;have uU:cp r ls=.tup [.tup (r.map row),row ls]:=rfl;rw[uU];refine⟨_,(eW (wR hr.units) (ai 0) (aF aL (ai 1) ak)),?_⟩;rfl';exact Lz k
def HK(F:jZ K "least" "least" (top 17) .none 97 f fd)(T:iK K mg)(B:Om mg base 97 93)(rF:bY P w K mg base 4 "first_alike" ["table"] Gg)(Ar:bY P w K mg base 13 "numbered" ["heaps","start","gone","is_losing"] (FZ P w K mg base)):bB P w K mg base dX 14 f fd ["table"] (bZ K Bg):=by
 refine Zs F ["table","steps","alike"] (λ A outer s H E ds M Q nd hr h=>?_)
 ·obtain⟨m,h,r,ls,rfl,hT,G,k⟩:=h;have uU:cp r ls=.tup [.tup (r.map row),row ls]:=rfl;have Pc:=Qy G.tb;have Ag:=G.tb.len;have KN:=fT ls G;have CM:=KN.fI G;have hls:ff ["x","heap"] ["alike","steps"] ((l_ (top 17) 2 "least.<locals>.<lambda>" mg)).scope=true:=by kernel_rfl
  have aaw:ff ["x"] ["table"] ((l_ (top 17) 3 "least.<locals>.<lambda>" mg)).scope=true:=by kernel_rfl
  have Ts:=(MZ (P:=P) (w:=w) (base:=base) T).mono (show 1<=5 by decide);have W8:=(Sr (P:=P) (w:=w) (base:=base) T).mono (show 1<=5 by decide);refine⟨_,(aa (aw 1 (aF aL (ai 0) ak))
 (aa (aw 2 (aI rF (bC (ai 0))))
 (aj (aJ (AY (cn:=[("alike",2),("steps",1),("table",0)]) Ar (hr.mono (by decide)) (by rfl) (PB (by kernel_rfl)) nd (aH (aX d_ T.len (bC (aF aL (ai 1) ak))) (aH ak (aH (FF (L:=l_ (top 17) 2 "least.<locals>.<lambda>" mg) rfl B rfl rfl (by kernel_rfl) (Jo (by kernel_rfl))) (aH (FF (L:=l_ (top 17) 3 "least.<locals>.<lambda>" mg) rfl B rfl rfl (by kernel_rfl) (Jo (by kernel_rfl))) bO))))))))),?_⟩
  rw[uU];rfl';refine⟨m,h,r,ls,rfl,G,λ a M1 ha h1 E1=>?_⟩;rfl';refine aO Pc.1 ?_;rfl';rw[B3,Pc.2];have hT1:UH M1:=E1 _ _ hT;refine zF hT1 λ lf NB Cp=>?_;have hT2:∀o,UH (ag M1 lf o):=λ o=>by unfold UH;rw[ah (aM hT1 NB)];exact hT1
  rfl';refine zF (hT2 _) λ lg Ut aeV=>?_;have E2:=λ o2=>(sw.new (sw.rfl (M:=M1)) NB _).trans (sw.new sw.rfl Ut o2);have efg:lf≠lg:=λ z=>by subst z;rw[ae]at Ut;cases Ut
  rfl';refine⟨λ x j hx=>?_,λ C hC hn=>?_⟩
  ·simp only[C9,not_mem_nil,or_false,Prod.mk.injEq]at hx;rcases hx with⟨_,rfl⟩|⟨_,rfl⟩|⟨_,rfl⟩
   ·exact⟨_,rfl⟩
   ·exact⟨_,rfl⟩
   ·exact⟨_,rfl⟩
  have Ji:=xo (cs:=[.ref a,.tup (r.map row)]) hls rfl (λ i x hx=>by
   match i,hx with
   |0,hx=>cases hx;exact⟨2,by simp,λ d hd=>by cases hd;rfl⟩
   |1,hx=>cases hx;exact⟨1,by simp,λ d hd=>by cases hd;rfl⟩
   |(n+2),hx=>simp at hx) hC (by rw[ah efg];exact ae) hn
  have qG:=xo (cs:=[cp r ls]) aaw rfl (λ i x hx=>by
   match i,hx with
   |0,hx=>cases hx;exact⟨0,by simp,λ d hd=>by cases hd;rfl⟩
   |(n+1),hx=>simp at hx) hC ae hn
  have hA2:=E_ hn (E2 _ _ _ h1);refine⟨λ s=>s<m/\kd (jI (ia m r h ls)) s=s,λ i s=>kd (jI (ia m r h ls)) (ax r i s),cU ls,h,0,lf,lg,List.range m,_,_,_,Gh,_,C,_,_,_,OG,_,C,rfl,G.tb.xP,CM,⟨G.tb.pos,KN.gp⟩,λ s hs=>dL.mpr hs.1,by rw[x4];exact G.tb.gw,Ts,Ji,λ M4 s i Q' E4 hs hi q=>?_,W8,qG,λ M4 s Q' E4 hs q=>?_,λ aD kt dF M4 YW ex hl LL mm E4=>?_⟩
  ·exact⟨m,h,s,i,r,_,a,rfl,rfl,Ji.no E4 (E4 _ _ hA2),G.tb,KN.len,hs.1,hi,q _ sw.rfl⟩
  ·exact⟨s,r,ls,rfl,rfl,q _ sw.rfl⟩
  ·obtain⟨lm,rfl,eY,all⟩:=YW;exact av (k lm kt dF _ ⟨⟨ex,hl,LL,mm⟩,eY,all⟩ (E1.trans ((E2 _).trans (sw.Ow E4 hn))))
def xt(m h:Nat)(r q:List Row)(V:List Nat):Bool:=(List.range m).all λ x=>(List.range h).all λ i=>decide (kd V (ax r i x)=ax q i (kd V x))
def jN{q:List Row}{V:List Nat}:xt m h r q V=true↔∀x,x<m->∀i,i<h->kd V (ax r i x)=ax q i (kd V x):=by
 unfold xt;rw[A3];constructor
 ·intro z x hx i hi;have:=A3.mp (z x (dL.mpr hx)) i (dL.mpr hi);exact io this
 ·intro z x hx;refine A3.mpr λ i hi=>B8 (z x (dL.mp hx) i (dL.mp hi))
def Ge:dW:=λ ds M Q=>∃(m h m2:Nat)(r q:List Row)(V:List Nat),ds=[.tup (r.map row),.tup (q.map row),gc V]/\Tb m h r/\Tb m2 h q/\V.length=m/\(∀v∈V,v<m2)/\∀M',sw M M'->Q (.bl (xt m h r q V)) M'
def OF:dW:=λ ds M Q=>∃(m h m2:Nat)(r q:List Row)(ls dF:Row),ds=[cp r ls,cp q dF]/\cz m h r/\Tb m2 h q/\(∀g M',q_ m h r ls m2 q dF g->sw M M'->Q (gc ((List.range m).map g)) M')/\((∀g,¬q_ m h r ls m2 q dF g)->∀M',sw M M'->Q .bo M')
def Bn(G:Tb m h r){x:Nat}(hx:x<m):r.getD x []=((List.range h).map λ i=>ax r i x).map kI:=by
 obtain⟨e1,e2,e3⟩:=mP G hx;refine x8 λ i=>?_;rw[u6,u6];by_cases hi:i<h
 ·rw[l9 hi];have:=(G.at hx hi).2.1;rw[c3 (l:=r.getD x []),g9 ()]at this;rw[g9 ()];exact J8 some this
 ·rw[k5 (),k5 (by rw[x4];lia)];rfl
def Mx(F:hW K "keeps_steps" "keeps_steps" (top 19) f fd)(T:iK K mg):bB P w K mg base dX 1 f fd ["steps","others","goes"] (bZ K Ge):=by
 refine kJ F ["steps","others","goes","x","row"] (λ dj A outer s H E ds M Q nd hr h=>?_)
 ·obtain⟨m,h,m2,r,q,V,rfl,G,G2,hV,hv,k⟩:=h;have hm:=G.gw;have hh:=G.xP;have Ag:=G.len;refine⟨_,(aa (df (eJ T.enumerate (bC (ai 0))) (gE (n:=2) (bg (aS 3) (bg (aS 4) eK)))
 (aj (cM (aN (lU hr.units) (hX (oN [2] (cK (ai 4)) aZ (aF aL (ai 1) (ai 0)))) (cb AG T.list (bC (aF aL (ai 1) (aF aL (ai 2) (ai 3))))))
 (aj (aJ rn))
 br)))
 (aj (aJ rn))),?_⟩
  unfold gc;rfl';refine gL (λ i δ M'=>∃v3 v4:Option D,δ=[some (.tup (r.map row)),some (.tup (q.map row)),some (.tup (V.map nD)),v3,v4]/\sw M M'/\∀x,x<i->∀i,i<h->kd V (ax r i x)=ax q i (kd V x)) ⟨none,none,rfl,sw.rfl,λ x z=>be z ()⟩ (λ x d δ M' hd hI=>?_) (λ δ M' hI=>?_)
  ·obtain⟨v3,v4,rfl,E1,old⟩:=hI;obtain⟨hi,rfl⟩:=gx hd;rw[B3,Ag]at hi;have er:(r.map row).getD x .bo=.tup ((r.getD x []).map D.int):=by rw[c3,u6,g9 (),c3,g9 ()];rfl
   rw[er];have kx:kd V x<m2:=hv _ (kd_mem ());obtain⟨r1,r2,r3⟩:=mP G hi;obtain⟨q1,q2,q3⟩:=mP G2 kx;rfl';refine fj (enc:=D.int) (λ y=>nD (kd V y.toNat)) () (λ j y N hy hN=>?_) ?_
   ·have hy:=r3 y (k8 hy);rfl';refine aO (d:=nD (kd V y.toNat)) ?_ hN;have:=Iw (K:=V) (x:=y.toNat) ()
    rwa [show((y.toNat:Nat):Int)=y by lia]at this
   intro p hp;have E2:=E1.new hp (.lst ((r.getD x []).map λ y=>nD (kd V y.toNat)));have h2:ag M' p (.lst ((r.getD x []).map λ y=>nD (kd V y.toNat))) p=some (.lst ((r.getD x []).map λ y=>nD (kd V y.toNat))):=ae;generalize ag M' p (.lst ((r.getD x []).map λ y=>nD (kd V y.toNat)))=M2 at*;rfl';refine aO (Iw ()) ?_;rfl';refine aO q1 ?_;rfl';intro p2 eZ;have E3:=E2.new eZ (.lst ((q.getD (kd V x) []).map D.int));have h3:ag M2 p2 (.lst ((q.getD (kd V x) []).map D.int)) p=some (.lst ((r.getD x []).map λ y=>nD (kd V y.toNat))):=by rw[ah (aM h2 eZ)];exact h2
   refine oR (k:=0) (b:=decide (∀i,i<h->kd V (ax r i x)=ax q i (kd V x))) h3 ae (dM λ x _=>cV 0 _) (dM λ x _=>cV 0 _) (by decide) ?_ ?_
   ·rw[bn,Bn G hi,Bn G2 kx,D9,D9,D9,D9];constructor
    ·intro z;refine n9 λ i hi=>?_;show nD (kd V (kI (ax r i x)).toNat)=D.int (kI (ax q i (kd V x)));rw[show(kI (ax r i x)).toNat=ax r i x from u9 _,z i (dL.mp hi)]
    ·intro z i hi;have:=J8 (λ l:List D=>l[i]?) z;simp only[u6,l9 hi,Option.map_some]at this;have:=D.int.inj (B0 this);exact Int.ofNat.inj this
   ·generalize ag M2 p2 (.lst ((q.getD (kd V x) []).map D.int))=M3 at*;refine gu (λ hn=>?_) (λ hn=>?_)
    ·have hn:¬∀i,i<h->kd V (ax r i x)=ax q i (kd V x):=by simpa using hn
     have kf:xt m h r q V=false:=by rw[<- Bool.not_eq_true,jN];exact λ z=>hn (z x hi)
     rw[kf]at k;rfl';exact av (k _ E3)
    ·have hn:∀i,i<h->kd V (ax r i x)=ax q i (kd V x):=by simpa using hn
     refine⟨_,_,rfl,E3,λ y hy i hj=>?_⟩;by_cases z:y=x
     ·rw[z];exact hn i hj
     ·exact old y () i hj
  ·obtain⟨v3,v4,rfl,E1,old⟩:=hI;rw[bJ,B3,Ag]at old;rw[jN.mpr old]at k;rfl';exact av (k _ E1)
def RW(F:hW K "led" "led" (top 20) f fd)(T:iK K mg)(nB:bY P w K mg base 1 "carried" ["steps","others","start"] zr)(rE:bY P w K mg base 1 "keeps_steps" ["steps","others","goes"] Ge):bB P w K mg base dX 2 f fd ["one","other"] (bZ K OF):=by
 refine kJ F ["one","other","goes","told"] (λ dj A outer s H E ds M Q nd hr h=>?_)
 ·obtain⟨m,h,m2,r,q,ls,dF,rfl,G,G2,kh,kn⟩:=h;have uU:cp r ls=.tup [.tup (r.map row),row ls]:=rfl;have aaI:cp q dF=.tup [.tup (q.map row),row dF]:=rfl;rw[uU,aaI];have hm:=G.tb.gw;have Ag:=G.tb.len;refine⟨_,(aa (aw 2 (aI nB (Ov (aF (bN hr.units) (ai 0) ak) (aF (bN hr.units) (ai 1) ak) ak)))
 (aa (aw 3 (fL bK ck T.tuple (oN [2] (bf T.range (bC (aX nF T.len (bC (aF (bN hr.units) (ai 0) ak))))) aZ (aF (bN hr.units) (ai 1) (ai 0)))))
 (aa (cM (PR (zh (aI rE (Ov (aF (bN hr.units) (ai 0) ak) (aF (bN hr.units) (ai 1) ak) (ai 3)))))
 (aj (aJ pL))
 br)
 (aa (cM (zh (PX (Xz rfl) KA T.any (PU [0,1] (eJ T.enumerate (bC (ai 3))) aZ (eW (lU hr.units) (eW (wQ hr.units) (ai 0) (aF (bN hr.units) (ai 2) ak)) (eW (wQ hr.units) (ai 1) (aF (bN hr.units) (ai 3) ak))))))
 (aj (aJ pL))
 br)
 (aj (aJ (ai 3))))))),?_⟩
  rfl';refine ba (aO (d:=.tup (r.map row)) rfl ?_);rfl';refine ba (aO (d:=.tup (q.map row)) rfl ?_);rfl';refine⟨m,h,m2,0,r,q,rfl,G,G2,G2.pos,λ p kv M1 hp h1 C E1=>?_⟩;have uR:∀x:Nat,∃v:Nat,x<m->(x,v)∈kv:=λ x=>by
   by_cases hx:x<m
   ·obtain⟨v,hv⟩:=C.all x hx;exact⟨v,λ _=>hv⟩
   ·exact⟨0,λ z=>be z hx⟩
  obtain⟨val,uR⟩:=Classical.axiomOfChoice uR;rfl';refine ba (aO (d:=.tup (r.map row)) rfl ?_);rfl';refine gT ?_;rfl';rw[B3,Ag];refine⟨cW () (),?_⟩;rw[u9,eh];refine fj (xs:=List.range m) (enc:=Lb) (λ x=>nD (val x)) (by rw[x4];lia) (λ i x N hx hN=>?_) ?_
  ·have hx:=wg hx;rfl';rw[Bp];exact kC h1 (eT _) (jg C.nd (uR x hx)) hN
  rfl';have eV:(List.range m).map (λ x=>nD (val x))=((List.range m).map val).map nD:=by rw[D9];rfl
  rw[eV];have lV:((List.range m).map val).length=m:=by simp
  have aV:∀x,x<m->kd ((List.range m).map val) x=val x:=λ x hx=>by have:=xu (K:=(List.range m).map val) (x:=x) ();rw[u6,l9 hx]at this;exact(B0 this).symm
  have bV:∀x,x<m->val x<m2:=λ x hx=>(wG G G2 G2.pos (C.pr _ (uR x hx))).2;have z0:val 0=0:=by have a:=jg C.nd (uR 0 G.tb.pos);rw[jg C.nd C.gp]at a;exact(cE.inj _ _ (B0 a)).symm
  have isH:(∀x,x<m->∀i,i<h->kd ((List.range m).map val) (ax r i x)=ax q i (kd ((List.range m).map val) x))->(∀x,x<m->cU ls x=cU dF (val x))->q_ m h r ls m2 q dF val:=λ a b=>⟨bV,z0,λ x i hx hi=>by
   have:=a x hx i hi
   rwa [aV x hx,aV _ (G.fI.cl _ _ hi hx)]at this,b⟩
  have ZC:∀g,q_ m h r ls m2 q dF g->∀x,x<m->val x=g x:=λ g H x hx=>H.pr G (C.pr _ (uR x hx));refine ba (aO (d:=.tup (r.map row)) rfl ?_);rfl';refine ba (aO (d:=.tup (q.map row)) rfl ?_);rfl';refine⟨m,h,m2,r,q,(List.range m).map val,rfl,G.tb,G2,lV,λ v hv=>?_,λ M2 E2=>?_⟩
  ·obtain⟨x,hx,rfl⟩:=D8.mp hv;exact bV x (dL.mp hx)
  have E2:=E1.trans E2;cases kb:xt m h r q ((List.range m).map val)with
  |false=>rfl';refine av (kn (λ g H=>?_) _ E2);rw[<- Bool.not_eq_true,jN]at kb;refine kb λ x hx i hi=>?_;rw[aV x hx,aV _ (G.fI.cl _ _ hi hx),ZC g H x hx,ZC g H _ (G.fI.cl _ _ hi hx),H.st x i hx hi]
  |true=>
   rw[jN]at kb;rfl';have eE:dZ (((List.range m).map val).map nD)=(List.range m).map λ x:Nat=>D.tup [.int (x:Int),nD (val x)]:=by unfold dZ;rw[B3,B3,x4];refine n9 λ x hx=>?_;rw[c3,u6,u6,l9 (dL.mp hx)];rfl
   rw[eE];refine fj (xs:=List.range m) (enc:=λ x:Nat=>D.tup [.int (x:Int),nD (val x)]) (λ x=>.bl (cU ls x != cU dF (val x))) (by rw[x4];lia) (λ i x N hx hN=>?_) ?_
   ·have hx:=wg hx;rfl';refine ba (aO (d:=row ls) rfl ?_);refine lI ?_;rfl';refine ba (aO (d:=row dF) rfl ?_);refine lI ?_;refine Bs ?_;have e:(cU ls x != cU dF (val x))=!decide (cU ls x=cU dF (val x)):=by cases cU ls x<;>cases cU dF (val x)<;>rfl
    rw[e]at hN;exact hN
   ·refine⟨(List.range m).map λ x=>cU ls x != cU dF (val x),by rw[D9];rfl,?_⟩;cases an:((List.range m).map λ x=>cU ls x != cU dF (val x)).any id with
    |true=>rfl';refine av (kn (λ g H=>?_) _ E2);obtain⟨b,hb,hb2⟩:=List.any_eq_true.mp an;obtain⟨x,hx,rfl⟩:=D8.mp hb;have hx:=dL.mp hx;have:=H.ls x hx;rw[<- ZC g H x hx]at this;simp[this]at hb2
    |false=>
     have al:∀x,x<m->cU ls x=cU dF (val x):=λ x hx=>by have:=List.any_eq_false.mp an _ (D8.mpr ⟨x,dL.mpr hx,rfl⟩);simpa using this
     rfl';exact av (kh val _ (isH kb al) E2)
def Gf:nG:=λ ds cs M Q=>∃(m h x i:Nat)(kt:List Row),ds=[.int x,.int i]/\cs=[.tup (kt.map row)]/\Tb m h kt/\x<m/\i<h/\Q (.int (ax kt i x:Nat)) M
def UG(M:Mem):Prop:=M 38=some (.eX (.mM "first_things.<locals>.<lambda>"))
def v_:dW:=λ ds M Q=>∃(m h:Nat)(kt:List Row),ds=[.tup (kt.map row)]/\UG M/\cz m h kt/\∀(p:ap)(lm:List (Cs×Nat))(M':Mem),M p=none->M' p=some (.lst (lm.map (kX nD)))->yM (ax kt) 0 h m lm->lm.length=m->sw M M'->Q (.ref p) M'
def zZ(T:iK K mg):qY P w K mg base 1 (l_ (top 5) 2 "first_things.<locals>.<lambda>" mg) ["thing","heap"] ["steps"] Gf:=by
 refine Ss (Il (by kernel_rfl) (by decide+kernel)) (λ ds cs M Q h=>?_) (λ _ _ _=>ln2 λ _ _=>rfl) (λ A outer s H f c cl ds cs M Q hr h=>?_)
 ·obtain⟨m,h,x,i,kt,rfl,_⟩:=h;rfl
 ·obtain⟨m,h,x,i,kt,rfl,rfl,T,hx,hi,k⟩:=h;have ta:=tN T hx hi;refine⟨_,(aF aL (aF aL (ai 2) (ai 0)) (ai 1)),?_⟩;rfl';refine aO (d:=.tup ((kt.getD x []).map D.int)) ta.1 ?_;rfl';refine aO ta.2 ?_;exact k
def DY(F:jZ K "first_things" "first_things" (top 5) .none 42 f fd)(T:iK K mg)(B:Om mg base 42 38)(iy:bY P w K mg base 7 "first_sums" ["heaps","start","gone","most"] (tT P w K mg base)):bB P w K mg base dX 8 f fd ["steps"] (bZ K v_):=by
 refine Zs F ["steps"] (λ A outer s H E ds M Q nd hr h=>?_)
 ·obtain⟨m,h,kt,rfl,hT,G,k⟩:=h;have Pc:=Qy G.tb;have Ag:=G.tb.len;have hls:ff ["thing","heap"] ["steps"] ((l_ (top 5) 2 "first_things.<locals>.<lambda>" mg)).scope=true:=by kernel_rfl
  have Ts:=(zZ (P:=P) (w:=w) (base:=base) T).mono (show 1<=5 by decide);refine⟨_,(aj (aJ (AY (cn:=[("steps",0)]) iy (hr.mono (by decide)) (by rfl) (PB (by kernel_rfl)) nd (aH (aX d_ T.len (bC (aF aL (ai 0) ak))) (aH ak (aH (FF (L:=l_ (top 5) 2 "first_things.<locals>.<lambda>" mg) rfl B rfl rfl (by kernel_rfl) (Jo (by kernel_rfl))) (aH (aX d_ T.len (bC (ai 0))) bO))))))),?_⟩;rfl';refine aO Pc.1 ?_;rfl';rw[B3,Pc.2];refine zF hT λ lf NB Cp=>?_;rfl';rw[B3,Ag];refine⟨λ x j hx=>?_,λ C hC hn=>?_⟩
  ·rw[q8]at hx;cases hx;exact⟨_,rfl⟩
  have Ji:=M_ (cs:=[.tup (kt.map row)]) hls rfl rfl (λ i x j d h1 h2=>?_) hC ae hn
  ·refine⟨Nat,inferInstance,nD,false,(·<m),ax kt,0,h,m,some m,lf,List.range m,_,_,_,Gf,[.tup (kt.map row)],C,rfl,.inl rfl,cE.inj,eT,G.fI,G.tb.pos,λ s hs=>dL.mpr hs,by rw[x4];have:=G.tb.gw;lia,G.tb.xP,Ts,Ji,λ M1 s i Q' hE hs hi hq=>?_,λ p lm M' hp eZ hF hE=>?_⟩
   ·exact⟨m,h,s,i,kt,rfl,rfl,G.tb,hs,hi,hq _ sw.rfl⟩
   ·have hl:=hF.len G;rw[i9 ()]at eZ;have hCp:C p=none:=by
     rcases cJ C p with z|⟨d,z⟩
     ·exact z
     ·rw[mG z]at hp;cases hp
    rw[iB hCp]at hp;refine av (k p lm _ ((sw.new sw.rfl NB _).free hp) (TJ eZ hCp) hF hl ((sw.new sw.rfl NB _).trans (sw.Ow hE hn)))
  ·cases i with
   |zero=>cases h1;cases h2;rfl
   |succ i=>cases h1
def FY:dW:=λ ds M Q=>∃(m h x y:Nat)(r:List Row)(ls:Row),ds=[cp r ls,.int x,.int y]/\UG M/\cz m h r/\x<m/\y<m/\(∀p M',LP h r ls x y p->sw M M'->Q (gc p) M')/\((∀q:Cs,q.length=h->¬ug r ls x y q)->∀M',sw M M'->Q .bo M')
def Mq(F:hW K "parting" "parting" (top 22) f fd)(T:iK K mg)(qR:bY P w K mg base 8 "first_things" ["steps"] v_)(mB:bY P w K mg base 2 "put_to" ["steps","x"] tS):bB P w K mg base dX 9 f fd ["table","x","y"] (bZ K FY):=by
 refine kJ F ["table","x","y","losing","with_x","with_y","counts","thing"] (λ dj A outer s H E ds M Q nd hr h=>?_)
 ·obtain⟨m,h,x,y,r,ls,rfl,hT,G,hx,hy,kp,kn⟩:=h;have uU:cp r ls=.tup [.tup (r.map row),row ls]:=rfl;rw[uU];have hm:=G.tb.gw;refine⟨_,(aa (aw 3 (aF (bN hr.units) (ai 0) ak))
 (aa (aw 4 (aI mB (dm (aF (bN hr.units) (ai 0) ak) (ai 1))))
 (aa (aw 5 (aI mB (dm (aF (bN hr.units) (ai 0) ak) (ai 2))))
 (aa (df (cK (aI qR (bC (aF (bN hr.units) (ai 0) ak)))) (gE (n:=2) (bg (aS 6) (bg (aS 7) eK)))
 (aj (cM (aN (lU hr.units) (eW (wQ hr.units) (aF (bN hr.units) (ai 4) (ai 7)) (ai 3)) (eW (wQ hr.units) (aF (bN hr.units) (ai 5) (ai 7)) (ai 3)))
 (aj (aJ (ai 6)))
 br)))
 (aj (aJ pL)))))),?_⟩
  rfl';refine ba (aO (d:=row ls) rfl ?_);rfl';refine ba (aO (d:=.tup (r.map row)) rfl ?_);rfl';refine⟨m,h,x,r,rfl,G,hx,λ p1 kv1 M1 xG h1 C1 E1=>?_⟩;rfl';refine ba (aO (d:=.tup (r.map row)) rfl ?_);rfl';refine⟨m,h,y,r,rfl,G,hy,λ p2 kv2 M2 eZ h2 C2 E2=>?_⟩;have h12:=E2 _ _ h1;have E2:=E1.trans E2;rfl';refine ba (aO (d:=.tup (r.map row)) rfl ?_);rfl';refine⟨m,h,r,rfl,E2 _ _ hT,G,λ a lm M3 ha h3 FS len E3=>?_⟩;have h13:=E3 _ _ h12;have h23:=E3 _ _ h2;have E3:=E2.trans E3;refine jG h3 ?_;refine xM (ds:=lm.map (kX nD)) (λ i δ M'=>∃v6 v7:Option D,δ=[some (.tup [.tup (r.map row),row ls]),some (.int x),some (.int y),some (row ls),some (.ref p1),some (.ref p2),v6,v7]/\M'=M3/\∀(j:Nat)(d:Cs×Nat),j<i->lm[j]?=some d->¬ug r ls x y d.1) ⟨_,_,rfl,rfl,λ j d z=>be z ()⟩ (λ i δ M' _ hI=>?_) (λ i d δ M' hd hI=>?_) (λ δ M' hI=>?_)
  ·obtain⟨_,_,_,rfl,_⟩:=hI;exact h3
  ·obtain⟨v6,v7,rfl,rfl,T5⟩:=hI;rw[u6]at hd;obtain⟨e,he,rfl⟩:=ce.mp hd;have ee:=FS.eY.ent e (k8 he);have el:=ee.1.1;have et:e.2<m:=by rw[<- ee.2];exact dB G G.tb.pos el
   obtain⟨v1,hv1⟩:=C1.all e.2 et;obtain⟨v2,Nq⟩:=C2.all e.2 et;have e1:v1=mul r h x e.2:=mX G hx (C1.pr _ hv1);have e2:v2=mul r h y e.2:=mX G hy (C2.pr _ Nq);have pe:ug r ls x y e.1↔cU ls v1≠cU ls v2:=by unfold ug;rw[eN G hx el,eN G hy el,ee.2,e1,e2]
   have Ti:kX nD e=.tup [gc e.1,.int (e.2:Int)]:=rfl;rw[Ti];rfl';refine kC h13 (eT _) (jg C1.nd hv1) ?_;rfl';refine lI ?_;rfl';refine kC h23 (eT _) (jg C2.nd Nq) ?_;rfl';refine lI ?_;rfl';refine gu (λ hn=>?_) (λ hn=>?_)
   ·have hn:cU ls v1≠cU ls v2:=by simpa using hn
    rfl';exact av (kp _ _ (zK G FS hx hy he (pe.mpr hn) T5) E3)
   ·have hn:cU ls v1=cU ls v2:=by simpa using hn
    refine⟨_,_,rfl,rfl,λ j d hj hd=>?_⟩;by_cases z:j=i
    ·rw[z]at hd;have ed:e=d:=B0 (he.symm.trans hd);rw[<- ed];exact λ w=>pe.mp w hn
    ·exact T5 j d () hd
  ·obtain⟨v6,v7,rfl,rfl,T5⟩:=hI;rw[B3]at T5;rfl';exact av (kn (DU G FS hx hy λ i d hd=>T5 i d (c7.mp hd).1 hd) _ E3)
def Uk{N:Mem}{x:MO}(hp:M p=none)(e:ag M p x=N):sw M N/\N p=some x:=by subst e;exact⟨sw.new sw.rfl hp x,ae⟩
def Va:dW:=λ ds M Q=>∃(f c:ap)(m h:Nat)(r:List Row)(ls:Row),ds=[.ref f,cp r ls]/\Flow M f c/\cz m h r/\m<=16/\h<=3/\lA m ls/\∀(m2:Nat)(q:List Row)(dF:Row)(M':Mem),cz m2 h q->m2<=18->lA m2 dF->De h r ls q dF->Fl f c M M'->Q (cp q dF) M'
def VS(F:hW K "_law_right_table" "_law_right_table" (top 40) f fd)(T:iK K mg)(aE:bY P w K mg base 1 "_law_pick" ["_law_flow_here","_law_many"] iW)(ye:bY P w K mg base 2 "_law_blown" ["_law_flow_here","_law_table"] Bi)(nA:bY P w K mg base 3 "_law_renumbered" ["_law_flow_here","_law_table"] OC):bB P w K mg base dX 4 f fd ["_law_flow_here","_law_table"] (bZ K Va):=by
 refine kJ F ["_law_flow_here","_law_table"] (λ dj A outer s H E ds M Q nd hr h=>?_)
 ·obtain⟨f,cc,m,h,r,ls,rfl,hF,G,hm,hh,L,k⟩:=h;have Ag:=G.tb.len;have uU:cp r ls=.tup [.tup (r.map row),row ls]:=rfl;refine⟨_,(aa (cM (tK (aN (iF hr.units) (aI aE (dm (ai 0) ak)) ak) (oK (aN zQ (aX d_ T.len (bC (aF aL (ai 1) ak))) ak))).pt
 (aj (aw 1 (aI ye (dm (ai 0) (ai 1)))))
 br)
 (aa (cM (aN (iF hr.units) (aI aE (dm (ai 0) ak)) ak)
 (aj (aw 1 (aI nA (dm (ai 0) (ai 1)))))
 br)
 (aj (aJ (ai 1))))),?_⟩
  with_reducible refine mR (λ δ' M'=>∃(m2:Nat)(q:List Row)(l2:Row),δ'=[some (.ref f),some (cp q l2)]/\cz m2 h q/\m2<=18/\lA m2 l2/\De h r ls q l2/\Fl f cc M M') (λ N hN=>?_) ?_
  ·have no:∀M',Fl f cc M M'->N [some (.ref f),some (cp r ls)] M':=λ M' F'=>hN _ _ ⟨m,r,ls,rfl,G,(),L,λ _ _=>rfl,F'⟩;rw[uU]at no ⊢;rfl';refine⟨f,cc,2,rfl,hF,by decide,by decide,λ d1 o1 Yx h11 NG=>?_⟩;have F1:Fl f cc M _:=Fl.pick NG;generalize ag M f o1=M1 at*;rfl';refine bE (λ _=>?_) (λ _=>?_)
   ·rfl';rw[B3,Ag];refine bE (λ h7=>?_) (λ _=>?_)
    ·rfl';refine⟨f,cc,m,h,r,ls,rfl,F1.bS,G,(),(),λ m6 r6 l6 M6 G6 hm6 L6 S6 F6=>?_⟩;refine jF ?_;exact hN _ _ ⟨m6,r6,l6,rfl,G6,hm6,L6,S6,F1.trans F6⟩
    ·rfl';exact no _ F1
   ·rfl';exact no _ F1
  rintro δ' M1 ⟨m2,q,l2,rfl,G2,kU,L2,S2,F1⟩;rfl';refine⟨f,cc,2,rfl,F1.bS,by decide,by decide,λ d2 o2 h20 h21 W_=>?_⟩;have F2:=F1.trans (Fl.pick W_);generalize ag M1 f o2=M2 at*;rfl';refine bE (λ _=>?_) (λ _=>?_)
  ·rfl';refine⟨f,cc,m2,h,q,l2,rfl,F2.bS,G2,(),L2,λ r6 l6 M6 G6 L6 S6 F6=>?_⟩;refine jF ?_;rfl';exact av (k m2 r6 l6 _ G6 kU L6 (S2.trans S6) (F2.trans F6))
  ·rfl';exact av (k m2 q l2 _ G2 kU L2 S2 F2)
def mV(G:eI n g)(one:∀h o,h<n->o∈(g.getD h fG).2->o.sum<=1):∀i,i<=n->∀x∈cu g i,x<=(i:Int)
 |0,_,x,hx=>by have:=fQ g 0;rw[i8.mp this]at hx;cases hx
 |i+1,hi,x,hx=>by
  rw[nR]at hx;rcases B4.mp hx with e|e
  ·have:=mV G one i () x e;lia
  ·rw[q8.mp e];refine uD () λ y hy=>?_;obtain⟨o,ho,rfl⟩:=D8.mp hy;have hr:=(G.opts i ()).2 o ho;have d:=uZ (B:=(i:Int)) () hr.pos (mV G one i ());have o1:=one i o () ho;have:o.sum*(i:Int)<=1*(i:Int):=Int.mul_le_mul_of_nonneg_right o1 ();lia
def lP:∀(p q:Cs),(oS p q).map kI=plus (p.map kI) (q.map kI)
 |[],q=>by unfold oS plus;simp
 |a::p,[]=>by unfold oS plus;simp
 |a::p,b::q=>by have:=lP p q;unfold oS plus at this ⊢;rw[zipWith_cons_cons,C8,C8,C8,zipWith_cons_cons,this];rfl
def Wd(p:Cs)(j:Nat):(p.map kI).getD j 0=((p.getD j 0:Nat):Int):=by rw[c3,u6,c3];cases p[j]?<;>rfl
def IB(L:Nat)(sz:Cs)(i:Nat):∀(c:Nat)(s:Nat×Nat),(dQ (stN L sz i) c s).1=s.1^^^(if(c:Int)%2=1 then sz.getD i 0 else 0)
 |0,s=>by show s.1=_;rw[K3 (by decide),Nat.xor_zero]
 |c+1,s=>by
  show(dQ (stN L sz i) c (stN L sz i s)).1=_;rw[IB L sz i c];show(s.1^^^sz.getD i 0)^^^_=_;rw[C6];congr 1;by_cases e:(c:Int)%2=1
  ·rw[K1 e,K3 (),D5]
  ·rw[K3 e,K1 (),Nat.xor_zero]
def IA(sz:Cs)(i:Nat):∀(c:Nat)(s:Nat×Nat),(dQ (stN 1 sz i) c s).2=0↔s.2=0/\¬(0<c/\1<sz.getD i 0)
 |0,s=>by show s.2=0↔_;exact⟨λ h=>⟨h,λ z=>be z.1 (by decide)⟩,λ h=>h.1⟩
 |c+1,s=>by show(dQ (stN 1 sz i) c (stN 1 sz i s)).2=0↔_;rw[IA sz i c];show max s.2 (if 1<sz.getD i 0 then 1 else 0)*1=0/\_↔_;split<;>constructor<;>lia
def Jk(L:Nat)(sz:Cs):∀(p:Cs)(i:Nat)(s:Nat×Nat),i+p.length<=sz.length->(aP (stN L sz) i s p).1=s.1^^^xd (p.map kI) (sz.drop i)
 |[],i,s,_=>by show s.1=s.1^^^0;rw[Nat.xor_zero]
 |c::p,i,s,h=>by
  rw[y6]at h;show(aP (stN L sz) (i+1) (dQ (stN L sz i) c s) p).1=_;rw[Jk L sz p (i+1) _ (),IB];have e:sz.drop i=sz.getD i 0::sz.drop (i+1):=by rw[c6 (),c3,g9 ()];rfl
  rw[e,C8,C6];rfl
def Jj(sz:Cs):∀(p:Cs)(i:Nat)(s:Nat×Nat),(aP (stN 1 sz) i s p).2=0↔s.2=0/\¬∃j,0<p.getD j 0/\1<sz.getD (i+j) 0
 |[],i,s=>by show s.2=0↔_;exact⟨λ h=>⟨h,λ⟨j,z,_⟩=>by simp at z⟩,λ h=>h.1⟩
 |c::p,i,s=>by
  show(aP (stN 1 sz) (i+1) (dQ (stN 1 sz i) c s) p).2=0↔_;rw[Jj sz p (i+1),IA];constructor
  ·rintro⟨⟨a,b⟩,d⟩;refine⟨a,λ⟨j,j1,j2⟩=>?_⟩;cases j with
   |zero=>exact b ⟨by simpa using j1,j2⟩
   |succ j=>exact d ⟨j,by simpa using j1,by rw[show i+1+j=i+(j+1) by lia];exact j2⟩
  ·rintro⟨a,b⟩;exact⟨⟨a,λ⟨c1,c2⟩=>b ⟨0,by simpa using c1,c2⟩⟩,λ⟨j,j1,j2⟩=>b ⟨j+1,by simpa using j1,by rw[show i+(j+1)=i+1+j by lia];exact j2⟩⟩
def MJ{l:Str}(hl:l=cS "loses"\/l=cS "wins"){p:Cs}(hp:p.length=sz.length):yR (nL l) (aP (stN (nL l) sz) 0 (0,0) p)=decide (il (decide (l=fK)) (p.map kI) sz):=by
 have e1:=λ L=>Jk L sz p 0 (0,0) ();simp only[Nat.zero_xor,drop_zero]at e1;have e2:=Jj sz p 0 (0,0);have bi:big (p.map kI) sz=true↔∃j,0<p.getD j 0/\1<sz.getD (0+j) 0:=by rw[cQ];refine exists_congr λ j=>?_;rw[Wd,E8];exact and_congr () Iff.rfl
 unfold yR il;refine decide_eq_decide.mpr ?_;rcases hl with rfl|rfl
 ·have w0:decide (cS "loses"=fK)=false:=by decide
  have n1:nL (cS "loses")=1:=K1 rfl;rw[n1,e1,w0,Bool.false_or];by_cases z:(aP (stN 1 sz) 0 (0,0) p).2=0
  ·rw[K1 z,K3 λ y=>(e2.mp z).2 (bi.mp y)]
  ·rw[K3 z,K1 (bi.mpr (ii λ y=>z (e2.mpr ⟨rfl,y⟩)))]
 ·have w0:decide (cS "wins"=fK)=true:=by decide
  have n1:nL (cS "wins")=0:=K3 (by decide);rw[n1,e1,w0,Bool.true_or,K1 rfl];split<;>rfl
def nU(n:Nat):List Row:=(EY n 24).map λ p=>p.map kI
def qr{b:Row}:b∈nU n↔∃p:Cs,p.length=n/\p.sum<24/\b=p.map kI:=by unfold nU;rw[D8];exact⟨λ⟨p,h,e⟩=>⟨p,(fR.mp h).1,(fR.mp h).2,e.symm⟩,λ⟨p,a,b,e⟩=>⟨p,fR.mpr ⟨a,b⟩,e.symm⟩⟩
def jk:∀p:Cs,(p.map kI).sum=((p.sum:Nat):Int)
 |[]=>rfl
 |c::p=>by rw[C8,D3,D3,jk p];exact(Int.natCast_add _ _).symm
def kN{p:Cs}:∀x∈p.map kI,0<=x:=λ x hx=>by obtain⟨c,_,rfl⟩:=D8.mp hx;exact Int.natCast_nonneg _
def uL{as:Row}(h:∀x∈as,0<=x):(as.map Int.toNat).map kI=as:=by rw[D9];refine(n9 λ x hx=>?_).trans (List.map_id _);have:=h x hx;show((x.toNat:Nat):Int)=x;lia
def Ib{b:Row}(h:b∈nU n):k_ n b:=by obtain⟨p,a,_,rfl⟩:=qr.mp h;exact⟨by rw[B3];exact a,kN⟩
def pT:∀{as bs:Row},as.length=bs.length->(plus as bs).sum=as.sum+bs.sum
 |[],[],_=>rfl
 |a::as,b::bs,h=>by have:=pT (as:=as) (bs:=bs) (by simpa using h);unfold plus at this ⊢;rw[zipWith_cons_cons,D3,D3,D3,this];lia
 |[],b::bs,h=>by simp at h
 |a::as,[],h=>by simp at h
def sum_set:∀{as:Row} {h:Nat},h<as.length->(as.set h (as.getD h 0-1)).sum=as.sum-1
 |a::as,0,_=>by rw[set_cons_zero,D3,D3];simp;lia
 |a::as,h+1,hh=>by have:=sum_set (as:=as) (h:=h) (by simpa using hh);rw[set_cons_succ,D3,D3];simp only[getD_cons_succ];lia
 |[],h,hh=>by simp at hh
def V4(G:eI n g)(N:rL n g sz){b c:Row}(h:b∈nU n)(hc:c∈fe g n b):c∈nU n:=by
 have sb:=Ib h;have sc:=mU G sb hc;obtain⟨p,a,b1,rfl⟩:=qr.mp h;obtain⟨h,o,hh,h0,ho,rfl⟩:=jb.mp hc;have hr:=(G.opts h hh).2 o ho;have o1:=N.one h o hh ho;have hl:h<(p.map kI).length:=by rw[sb.len];exact hh
 have e:(bP (p.map kI) h o).sum=(p.map kI).sum-1+o.sum:=by unfold bP;rw[pT (by rw[jd hl,hr.len,sb.len]),jc hl,sum_set hl]
 rw[jk]at e;refine qr.mpr ⟨(bP (p.map kI) h o).map Int.toNat,by rw[B3];exact sc.len,?_,(uL sc.pos).symm⟩;have:=jk ((bP (p.map kI) h o).map Int.toNat);rw[uL sc.pos]at this;lia
def Sb(h:n<=3):(nU n).length<=5000:=by
 unfold nU;rw[B3];have:∀n∈[0,1,2,3],(EY n 24).length<=5000:=by decide+kernel
 exact this n (by simp;lia)
def V3(G:eI n g)(N:rL n g sz)(hn:n<=3){b:Row}(h:b∈nU n):rk g n (nU n) b<301:=by obtain⟨p,a,b1,rfl⟩:=qr.mp h;have d:=uZ (B:=(n:Int)) (as:=p.map kI) () kN (mV G N.one n (G7 _));rw[jk]at d;have:((p.sum:Nat):Int)*(n:Int)<=23*3:=Int.mul_le_mul () () () (by decide);unfold rk vL;lia
set_option tactic.hygienic true in
def uc(G:cz m h r){x:Nat}(hx:x<m):∃p:Cs,p.length=h/\aP (ax r) 0 0 p=x:=by
 have:∀x,jY (ax r) h 0 x->∃p:Cs,p.length=h/\aP (ax r) 0 0 p=x:=λ x R=>by
  induction R with
  |zero=>exact⟨mL h,by simp[mL],jO _ _ _ _⟩
  |step R hi ih=>rename_i s i;obtain⟨p,hp,e⟩:=ih;exact⟨inc p i,by rw[fh];exact hp,by rw[G.fI.inc p 0 i 0 () () G.tb.pos,e,E8]⟩
 exact this x (G.ud x hx)
def Nw{q:List Row}{dF:Row}{f:Nat->Nat}(G:cz m h r)(H:q_ m h r ls m2 q dF f){p:Cs}(hp:p.length=h):f (aP (ax r) 0 0 p)=aP (ax q) 0 0 p:=by
 have:=H.lE G (p.map λ v:Nat=>(v:Int)) 0 0 (by rw[B3];lia) G.tb.pos
 rwa [dH,dH,H.gp]at this
def K8{q:List Row}{lq l:Row}(G:cz m h r)(G2:cz m2 h q)(s:De h r ls q lq)(A:Fd m h r ls lm kt l):∃g,q_ m2 h q lq lm.length kt l g:=by
 have T:=A.lst.tb G;rw[B3]at T;have at':∀p:Cs,p.length=h->(lm.map (·.2))[aP (ax kt) 0 0 p]?=some (aP (stK m h r ls) 0 0 p):=λ p hp=>A.lst.ex.aP A.lst.len p 0 0 0 () A.lst.ex.gp;have wd:∀p p':Cs,p.length=h->p'.length=h->aP (ax q) 0 0 p=aP (ax q) 0 0 p'->aP (ax kt) 0 0 p=aP (ax kt) 0 0 p':=λ p p' hp Ew e=>by
  have e2:aP (stK m h r ls) 0 0 p=aP (stK m h r ls) 0 0 p':=(tR G hp Ew).mpr λ t ht=>by
   have l:∀p:Cs,p.length=h->(oS p t).length=h:=λ p hp=>by unfold oS;rw[length_zipWith,hp,ht,Nat.min_self]
   rw[s _ (l p hp),s _ (l p' Ew),<- G2.fI.oS p t 0 0 () () G2.tb.pos,<- G2.fI.oS p' t 0 0 () () G2.tb.pos,e]
  have a:=at' p hp;rw[e2]at a;exact qp A.lst.ex.nd a (at' p' Ew)
 have ex:∀x,∃p:Cs,x<m2->p.length=h/\aP (ax q) 0 0 p=x:=λ x=>by
  by_cases hx:x<m2
  ·obtain⟨p,hp⟩:=uc G2 hx;exact⟨p,λ _=>hp⟩
  ·exact⟨[],λ z=>be z hx⟩
 have gv:∀p:Cs,p.length=h->aP (ax kt) 0 0 (Classical.choose (ex (aP (ax q) 0 0 p)))=aP (ax kt) 0 0 p:=λ p hp=>by have z:=Classical.choose_spec (ex (aP (ax q) 0 0 p)) (dB G2 G2.tb.pos hp);exact wd _ _ z.1 hp z.2
 refine⟨λ x=>aP (ax kt) 0 0 (Classical.choose (ex x)),λ x hx=>?_,?_,λ x i hx hi=>?_,λ x hx=>?_⟩
 ·exact dB T T.tb.pos (Classical.choose_spec (ex x) hx).1
 ·have:=gv (mL h) (by simp[mL])
  rwa [jO,jO]at this
 ·obtain⟨p,hp,rfl⟩:=uc G2 hx;have a:=gv (inc p i) (by rw[fh];exact hp);rw[G2.fI.inc p 0 i 0 () () G2.tb.pos,T.fI.inc p 0 i 0 () () T.tb.pos,E8]at a;show aP (ax kt) 0 0 (Classical.choose (ex (ax q i (aP (ax q) 0 0 p))))=ax kt i (aP (ax kt) 0 0 (Classical.choose (ex (aP (ax q) 0 0 p))));rw[a,gv p hp]
 ·obtain⟨p,hp,rfl⟩:=uc G2 hx;show _=cU l (aP (ax kt) 0 0 (Classical.choose (ex (aP (ax q) 0 0 p))));have b:=q_.sam G (A.lst.hom G) p hp;rw[gv p hp,<- b,s p hp]
def KI(t:Nat×List Row×Row):D:=cp t.2.1 t.2.2
def Als(h:Nat)(r:List Row)(ls:Row)(ts:List (Nat×List Row×Row)):Prop:=∀t∈ts,cz t.1 h t.2.1/\t.1<=18/\De h r ls t.2.1 t.2.2
def Hl(r:List Row)(ls:Row):Pl 3 (cp r ls):=qh (k:=2) λ e he=>by
 rcases C9.mp he with rfl|he
 ·exact qh (k:=1) λ e he=>by obtain⟨w,_,rfl⟩:=D8.mp he;exact qh (k:=0) (dM λ x _=>cV 0 _)
 ·rw[q8.mp he];exact qh (k:=1) (dM λ x _=>cV 1 _)
def Lx{Q:bF}(q:Q (.bl true) M):Av true (.tup ds) .bo M Q:=q
def Ly{Q:bF}(q:Q (.bl false) M):Av true .bo .bo M Q:=q
def RX(F:hW K "law" "law" (top 41) f fd)(T:iK K mg)(Au:bY P w K mg base 1 "_law_flow" ["_law_script"] Bh)(EG:bY P w K mg base 5 "_law_nim" ["_law_flow_here","_law_most"] OE)(aE:bY P w K mg base 1 "_law_pick" ["_law_flow_here","_law_many"] iW)(oF:bY P w K mg base 1 "_law_nim_table" ["_law_sizes","_law_last"] F_)(mC:bY P w K mg base 4 "_law_right_table" ["_law_flow_here","_law_table"] Va)(CL:bY P w K mg base 14 "least" ["table"] Bg)(qO:bY P w K mg base 2 "_law_some_sum" ["_law_flow_here","_law_many","_law_most"] FW)(Xj:bY P w K mg base 2 "led" ["one","other"] OF)(iu:bY P w K mg base 2 "thing_of" ["table","counts"] OB)(EF:bY P w K mg base 9 "parting" ["table","x","y"] FY)(gA:bY P w K mg base 304 "_law_loses" ["_law_game","_law_counts_here","_law_last","_law_known"] (KS 301))(oj:bY P w K mg base 1 "_law_added" ["_law_one","_law_other"] OI):bB P w K mg base dX 305 f fd ["_law_script"] (bZ K wa):=by
 refine kJ F ["_law_script","_law_flow_here","_law_last","_law_own","_law_tables","_law_small","_law_sums","_law_table","_law_known","_law_one","_law_game","_law_sizes","_law_goes","_law_other","_law_third","_law_parted","_law_first"] (λ dj A outer s H E ds M Q nd hr h=>?_)
 ·obtain⟨ns,rfl,hTa,hTb,k⟩:=h;refine⟨_,(aa (aw 1 (aI Au (bC (ai 0))))
 (aa (dz (aI EG (dm (ai 1) ak)) (gE (n:=2) (bg (aS 10) (bg (aS 11) eK))))
 (aa (aw 2 (aF (bN hr.units) (cj (dm iE iE)) (aI aE (dm (ai 1) ak))))
 (aa (aw 3 (aI oF (dm (ai 11) (ai 2))))
 (aa (aw 4 (bx bA (cj (bC (ai 3))) (hX (oN [1,3] (bf T.range (bC ak)) aZ (aI mC (dm (ai 1) (ai 2)))))))
 (aa (aw 5 (aI CL (bC (ai 3))))
 (aa (cB 6 (oN [1,10] (bf T.range (bC ak)) aZ (aI qO (Ov (ai 1) (aX nF T.len (bC (ai 2))) ak))))
 (aa (df (cK (ai 4)) (aS 7)
 (aa (aw 12 (aI Xj (dm (ai 7) (ai 5))))
 (aa (cM (Fy (aN (lU hr.units) (aI CL (bC (ai 7))) (ai 5)) (zg (aN HQ (ai 12) pL))).pt
 (aj (aJ rn))
 br)
 (aj (cM (aN (lU hr.units) (hX (oN [12,7] (cK (ai 6)) aZ (aF (bN hr.units) (ai 1) (aI iu (dm (ai 2) (ai 0)))))) (hX (oN [5] (cK (ai 6)) aZ (aI iu (dm (ai 1) (ai 0))))))
 (aj (aJ rn))
 br)))))
 (aa (aw 8 (FH true))
 (aa (df (cK (jE sx (ai 6) jD (lC ak))) (aS 9)
 (aj (df (cK (jE sx (ai 6) (lC ak) jD)) (aS 13)
 (aa (aw 14 (aI EF (Ov (ai 5) (aI iu (dm (ai 5) (ai 9))) (aI iu (dm (ai 5) (ai 13))))))
 (aa (aw 15 (eW R5 (ai 14) pL))
 (aa (cM (aN HQ (ai 14) pL)
 (aj (aw 14 (aF (bN hr.units) (ai 6) ak)))
 br)
 (aa (aw 16 (aI gA (aH (ai 10) (aH (aI oj (dm (ai 9) (ai 14))) (aH (ai 2) (aH (ai 8) bO))))))
 (aj (cM (aN (lU hr.units) (eW (lU hr.units) (ai 16) (aI gA (aH (ai 10) (aH (aI oj (dm (ai 13) (ai 14))) (aH (ai 2) (aH (ai 8) bO)))))) (ai 15))
 (aj (aJ rn))
 br)))))))))
 (aj (aJ rn)))))))))))),?_⟩
  rfl';refine⟨ns,rfl,λ f cc M1 hF E1=>?_⟩;have hT:UG M1:=E1 _ _ hTa;have hL:UH M1:=E1 _ _ hTb;clear hTa hTb;rfl';refine⟨f,cc,3,rfl,hF,by decide,by decide,λ n g s sz M2 hn1 hn3 G sl s5 NO hs nk F2=>?_⟩;have sf:s≠f:=(hF.ne hs).1;rfl';intro pl gb;have pf:=(F2.bS.ne gb).1;generalize xJ:ag _ pl _=M3 at*;obtain⟨Fn,Us⟩:=Uk gb xJ;clear xJ;have S0:=Fn _ _ nk;have F3:=F2.trans (jw Fn F2.bS);rfl';refine⟨f,cc,2,rfl,F3.bS,by decide,by decide,λ d9 o9 h90 h91 hF9=>?_⟩;have P:=Fl.pick hF9;have F4:=F3.trans P;have hs4:=P.mv _ _ sf S0;have Wy:=P.mv _ _ pf Us;generalize ag M3 f o9=M4 at*;obtain⟨l,Yk,Te⟩:∃l:Str,gN [D.str "loses",D.str "wins"] d9=some (.str l)/\(l=cS "loses"\/l=cS "wins"):=by
   rcases(show d9=0\/d9=1 by lia)with rfl|rfl
   ·exact⟨_,rfl,.inl rfl⟩
   ·exact⟨_,rfl,.inr rfl⟩
  refine ba (cq Wy Yk ?_);rfl';refine⟨s,sz,l,rfl,hs4,s5,(),λ m r ls M5 Gr hm L TT E5=>?_⟩;rw[sl]at Gr TT;have F5:=F4.trans (jw E5 F4.bS);have tru:∀p:Cs,p.length=n->cU ls (aP (ax r) 0 0 p)=gH g n (decide (l=fK)) (p.map kI):=λ p hp=>by rw[TT p hp,MJ Te (),H_ G NO ⟨by rw[B3];exact hp,kN⟩]
  clear TT hs4 Wy S0 Us nk hs Yk;rfl';intro pa Ur;have paf:=(F5.bS.ne Ur).1;generalize xJ:ag _ pa _=M6 at*;obtain⟨Fn,Wx⟩:=Uk Ur xJ;clear xJ;have F6:=F5.trans (jw Fn F5.bS);rfl';refine⟨cW (by decide) (by decide),?_⟩;rw[eh];refine kY (β:=Nat×List Row×Row) KI (λ ts M'=>Fl f cc M1 M'/\M' pa=some (.lst [cp r ls])/\Als n r ls ts) (by decide) ⟨F6,Wx,λ t h=>by cases h⟩ (λ i x ts M' N hx hl hI hN=>?_) (λ ts M7 hl hI=>?_)
  ·obtain⟨F,c,A⟩:=hI;rfl';refine⟨f,cc,m,n,r,ls,rfl,F.bS,Gr,hm,hn3,L,λ m2 q l2 M' G2 kU L2 S2 F'=>?_⟩;refine hN (m2,q,l2) _ ⟨F.trans F',F'.mv _ _ paf c,λ t ht=>?_⟩;rcases B4.mp ht with e|e
   ·exact A t e
   ·rw[q8.mp e];exact⟨G2,kU,S2⟩
  clear F6 Wx;obtain⟨F7,S_,A⟩:=hI;have hl:ts.length=2:=hl;intro pb hpb;refine wy (by rw[ah (aM S_ hpb)];exact S_) ae (by rw[B3,hl];exact small (by simp)) λ pt hpt=>?_;have F8:=F7.trans (Fl.put (o:=.lst (ts.map KI)) F7.bS hpb);generalize ag M7 pb (.lst (ts.map KI))=M8 at*;have ets:[cp r ls]++ts.map KI=((m,r,ls)::ts).map KI:=rfl;rw[ets];have A:Als n r ls ((m,r,ls)::ts):=λ t ht=>by
   rcases C9.mp ht with e|e
   ·rw[e];exact⟨Gr,(),λ _ _=>rfl⟩
   ·exact A t e
  have hl:((m,r,ls)::ts).length=3:=by rw[y6,hl]
  generalize(m,r,ls)::ts=ts at*;have tf:=(F8.bS.ne hpt).1;generalize xJ:ag _ pt _=M9 at*;obtain⟨Fn,ht9⟩:=Uk hpt xJ;clear xJ;have F9:=F8.trans (jw Fn F8.bS);clear S_ hpb hpt;rfl';refine⟨m,n,r,ls,rfl,zM F9 hL hF,Gr,λ lm sr tU M10 LT E10=>?_⟩;have Wm:=E10 _ _ ht9;have F10:=F9.trans (jw E10 F9.bS);have GS:=LT.lst.tb Gr;rw[B3]at GS;have SS:=q_.sam Gr (LT.lst.hom Gr);have hts:lm.length<=16:=by have:=(LT.lst.hom Gr).le (LT.lst.tb Gr) Gr;rw[B3]at this;lia
  rfl';refine⟨cW (by decide) (by decide),?_⟩;rw[eh];refine kY (β:=Cs) gc (λ ps M'=>Fl f cc M1 M'/\M' pt=some (.lst (ts.map KI))/\∀p∈ps,p.length=n/\p.sum<=4) (by decide) ⟨F10,Wm,λ p h=>by cases h⟩ (λ i x ps M' N hx hl hI hN=>?_) (λ ps M11 gb hI=>?_)
  ·obtain⟨F,c,A'⟩:=hI;rfl';refine gT (Bt ?_);rw[B3,G.len];rfl';refine⟨f,cc,n,4,rfl,F.bS,(),by decide,by decide,λ xs M' hx1 hx2 F'=>?_⟩;have ec:row (eC xs n)=gc ((eC xs n).map Int.toNat):=by unfold gc;rw[qq qT]
   rw[ec];refine hN _ _ ⟨F.trans F',F'.mv _ _ tf c,λ p hp=>?_⟩;rcases B4.mp hp with e|e
   ·exact A' p e
   ·rw[q8.mp e];refine⟨by rw[B3,qU],?_⟩;have h1:=jk ((eC xs n).map Int.toNat);rw[uL qT]at h1;have h2:=qV (ns:=xs) (n:=n);lia
  clear F10 Wm ht9;obtain⟨F11,Wl,Ai⟩:=hI;have gb:ps.length=4:=gb;intro pS hpS;have ht:ag M11 pS (.lst (ps.map gc)) pt=some (.lst (ts.map KI)):=sw.new sw.rfl hpS _ _ _ Wl;generalize xJ:ag _ pS _=XG at*;obtain⟨Fn,hS⟩:=Uk hpS xJ;clear xJ;have F12:=F11.trans (jw Fn F11.bS);have hT:UG XG:=zM F12 hT hF;have hL:UH XG:=zM F12 hL hF;clear hpS Wl F12 F11 F9 F8 F7 F5 F4 F3 F2 E10 E5 P;rfl';refine xM (ds:=ts.map KI) (λ i δ M'=>∃v7 UW:Option D,δ=[some (.fl (ns.map D.int)),some (.ref f),some (.str l),some (cp r ls),some (.ref pt),some (cp sr tU),some (.ref pS),v7,none,none,some (j' g),some (.ref s),UW,none,none,none,none]/\sw XG M') ⟨_,_,rfl,sw.rfl⟩ (λ i δ M' _ hI=>?_) (λ i d δ M' hd hI=>?_) (λ δ M' hI=>?_)
  ·obtain⟨_,_,_,E⟩:=hI;exact E _ _ ht
  ·obtain⟨v7,UW,rfl,E1⟩:=hI;rw[u6]at hd;obtain⟨⟨mt,rt,lt⟩,htt,rfl⟩:=ce.mp hd;obtain⟨Gt,hmt,St⟩:=A _ (k8 htt);obtain⟨gg,HH⟩:=K8 Gr Gt St LT;dsimp only at Gt hmt St gg HH;unfold KI;dsimp only;rfl';refine⟨mt,n,lm.length,rt,sr,lt,tU,rfl,Gt,GS.tb,λ g' M13 H' YO=>?_,λ no=>be HH (no gg)⟩;have YO:=E1.trans YO;rfl';refine⟨mt,n,rt,lt,rfl,YO _ _ hL,Gt,λ cO rs' l' M14 T14 YN=>?_⟩;have YN:=YO.trans YN;have e:=Fd.eq Gr Gt St LT T14;rw[<- e.1,<- e.2];refine Lo (k:=3) (b:=true) (Hl _ _) (Hl _ _) (by decide) (by simp) ?_;rfl';refine tX (by simp[gc,Kx]) ?_;rfl';have g0:∀p:Cs,p∈ps->g' (aP (ax rt) 0 0 p)=aP (ax sr) 0 0 p:=λ p hp=>Nw Gt H' (Ai p hp).1;refine jG (YN _ _ hS) ?_;have eF:∀(i:Nat)(p:Cs)(ys:List Nat),ps[i]?=some p->ys.length=i->ys=(ps.take ys.length).map (λ p=>aP (ax sr) 0 0 p)->ys++[aP (ax sr) 0 0 p]=(ps.take (ys++[aP (ax sr) 0 0 p]).length).map λ p=>aP (ax sr) 0 0 p:=λ i p ys hp hl e=>by rw[p4,j9,hl,take_snoc hp,B5,<- hl,<- e];rfl
   refine mE gc nD (λ ys M'=>sw XG M'/\ys=(ps.take ys.length).map λ p=>aP (ax sr) 0 0 p) () ⟨YN,rfl⟩ (λ ys M' h=>h.1 _ _ hS) (λ i p ys M' N hp hl hI hN=>?_) (λ ys M15 hl hI=>?_)
   ·obtain⟨Ea,ea⟩:=hI;have Wv:=k8 hp;rfl';refine⟨mt,n,rt,lt,p.map kI,by rw[dw],Gt.tb,by rw[B3];exact(Ai p Wv).1,kN,λ M' E'=>?_⟩;rw[show lE rt 0 0 (p.map kI)=aP (ax rt) 0 0 p from dH rt p 0 0];refine ba (aO (d:=nD (aP (ax sr) 0 0 p)) (bc ?_) ?_)
    ·rw[u6,u6,l9 (dB Gt Gt.tb.pos (Ai p Wv).1)];exact J8 (λ z=>some (nD z)) (g0 p Wv)
    exact hN _ _ ⟨Ea.trans E',eF i p ys hp hl ea⟩
   obtain⟨E15,ey⟩:=hI;rw[hl,y8]at ey;intro pu hpu;generalize xJ:ag _ pu _=M16 at*;obtain⟨Fn,hu⟩:=Uk hpu xJ;clear xJ;have E16:=E15.trans Fn;rfl';refine jG (E16 _ _ hS) ?_;refine mE gc nD (λ zs M'=>sw XG M'/\M' pu=some (.lst (ys.map nD))/\zs=(ps.take zs.length).map λ p=>aP (ax sr) 0 0 p) () ⟨E16,hu,rfl⟩ (λ ys M' h=>h.1 _ _ hS) (λ i p zs M' N hp hl hI hN=>?_) (λ zs M17 hl hI=>?_)
   ·obtain⟨Ea,eu,ea⟩:=hI;have Wv:=k8 hp;rfl';refine⟨lm.length,n,sr,tU,p.map kI,by rw[dw],GS.tb,by rw[B3];exact(Ai p Wv).1,kN,λ M' E'=>?_⟩;rw[show lE sr 0 0 (p.map kI)=aP (ax sr) 0 0 p from dH sr p 0 0];exact hN _ _ ⟨Ea.trans E',E' _ _ eu,eF i p zs hp hl ea⟩
   obtain⟨E17,eu,ez⟩:=hI;rw[hl,y8,<- ey]at ez;subst ez;intro pv hpv;refine oR (k:=0) (b:=true) (by rw[ah (aM eu hpv)];exact eu) ae (dM λ x _=>cV 0 _) (dM λ x _=>cV 0 _) (by decide) (by simp) ?_;rfl';exact⟨_,_,rfl,E17.new hpv _⟩
  ·obtain⟨v7,UW,rfl,E1⟩:=hI;have hT:=E1 _ _ hT;have hS:=E1 _ _ hS;clear hL ht E1;rfl';intro kn hkn;have nS:=aM hS hkn;have nT:=aM hT hkn;have hT:UG (ag M' kn (.bX true [])):=by unfold UG;rw[ah nT];exact hT
   generalize xJ:ag _ kn _=M20 at*;obtain⟨Fn,abu⟩:=Uk hkn xJ;clear xJ;have hS:=Fn _ _ hS;have hK:M20 kn=some (.bX true (pA [])):=abu;have tr:∀p q:Cs,p.length=n->q.length=n->gH g n (decide (l=fK)) (plus (p.map kI) (q.map kI))=cU tU (aP (ax sr) 0 (aP (ax sr) 0 0 p) q):=λ p q hp hq=>by
    have jo:(oS p q).length=n:=by unfold oS;rw[length_zipWith,hp,hq,Nat.min_self]
    rw[<- lP,<- tru _ jo,SS _ jo,GS.fI.oS p q 0 0 () () GS.tb.pos]
   have lo:∀(p q:Cs)(kvs:List (Row×D))(M':Mem)(Q':bF),p.length=n->q.length=n->p.sum<=4->q.sum<=16->M' kn=some (.bX true (pA kvs))->vQ g n (decide (l=fK)) (nU n) kvs->(∀cT pH,pH kn=some (.bX true (pA cT))->vQ g n (decide (l=fK)) (nU n) cT->(∀b o,b≠kn->M' b=some o->pH b=some o)->Q' (.bl (cU tU (aP (ax sr) 0 (aP (ax sr) 0 0 p) q))) pH)->KS 301 [j' g,row (plus (p.map kI) (q.map kI)),.str l,.ref kn] M' Q':=λ p q kvs M' Q' hp hq ps4 qs hk K kk=>by
    have jo:(oS p q).length=n:=by unfold oS;rw[length_zipWith,hp,hq,Nat.min_self]
    have mem:plus (p.map kI) (q.map kI)∈nU n:=by rw[<- lP];refine qr.mpr ⟨_,jo,?_,rfl⟩;have:=jk (oS p q);rw[lP,pT (by rw[B3,B3];lia),jk,jk]at this;lia
    refine⟨n,g,_,l,kn,nU n,kvs,rfl,G,mem,λ b hb=>Ib hb,λ b hb c hc=>V4 G NO hb hc,Sb hn3,V3 G NO hn3 mem,hk,K,λ cT pH a b c=>?_⟩;rw[tr p q hp hq];exact kk cT pH a b c
   rfl';refine sA hS (by decide) λ q1 Ke=>?_;rw[show(ps.map gc).take (3:Int).toNat=(ps.take 3).map gc by rw[map_take];rfl];have n1:q1≠kn:=J9 (aM hK Ke);have h21:ag M20 q1 (.lst ((ps.take 3).map gc)) q1=some (.lst ((ps.take 3).map gc)):=ae;have hS:=sw.new sw.rfl Ke (.lst ((ps.take 3).map gc)) _ _ hS;have hT:=sw.new sw.rfl Ke (.lst ((ps.take 3).map gc)) _ _ hT;have hK:=sw.new sw.rfl Ke (.lst ((ps.take 3).map gc)) _ _ hK;generalize ag M20 q1 (.lst ((ps.take 3).map gc))=M21 at*;obtain⟨p0,fG⟩:∃p0,ps[0]?=some p0:=⟨_,g9 ()⟩;have S9:=Ai p0 (k8 fG);refine jG h21 ?_;refine xM (ds:=(ps.take 3).map gc) (λ i δ M'=>∃(v9 Qc Qb Qa P_:Option D)(kvs:List (Row×D)),δ=[some (.fl (ns.map D.int)),some (.ref f),some (.str l),some (cp r ls),some (.ref pt),some (cp sr tU),some (.ref pS),v7,some (.ref kn),v9,some (j' g),some (.ref s),UW,Qc,Qb,Qa,P_]/\M' kn=some (.bX true (pA kvs))/\vQ g n (decide (l=fK)) (nU n) kvs/\∀b o,b≠kn->M21 b=some o->M' b=some o) ⟨none,none,none,none,none,[],rfl,hK,vQ.nil,λ _ _ _ h=>h⟩ (λ i δ M' _ hI=>?_) (λ i d δ M' hd hI=>?_) (λ δ M' hI=>?_)
   ·obtain⟨_,_,_,_,_,_,_,_,_,kp⟩:=hI;exact kp _ _ n1 h21
   ·clear hK;obtain⟨v9,Qc,Qb,Qa,P_,kvs,rfl,hK,K,kp⟩:=hI;rw[u6]at hd;obtain⟨p1,xG,rfl⟩:=ce.mp hd;have xG:=Ai p1 (mem_of_mem_take (k8 xG));rfl';refine wj (kp _ _ nS hS) (by decide) λ q2 sT=>?_;rw[show(ps.map gc).drop (1:Int).toNat=(ps.drop 1).map gc by rw[map_drop];rfl];have n2:q2≠kn:=J9 (aM hK sT);have NI:ag M' q2 (.lst ((ps.drop 1).map gc)) q2=some (.lst ((ps.drop 1).map gc)):=ae;have hK:=sw.new sw.rfl sT (.lst ((ps.drop 1).map gc)) _ _ hK;have kp:∀b o,b≠kn->M21 b=some o->ag M' q2 (.lst ((ps.drop 1).map gc)) b=some o:=λ b o nb e=>sw.new sw.rfl sT _ _ _ (kp b o nb e);generalize ag M' q2 (.lst ((ps.drop 1).map gc))=M22 at*;refine jG NI ?_;refine xM (ds:=(ps.drop 1).map gc) (λ i δ M'=>∃(Qc Qb Qa P_:Option D)(kvs:List (Row×D)),δ=[some (.fl (ns.map D.int)),some (.ref f),some (.str l),some (cp r ls),some (.ref pt),some (cp sr tU),some (.ref pS),v7,some (.ref kn),some (gc p1),some (j' g),some (.ref s),UW,Qc,Qb,Qa,P_]/\M' kn=some (.bX true (pA kvs))/\vQ g n (decide (l=fK)) (nU n) kvs/\M' q2=some (.lst ((ps.drop 1).map gc))/\∀b o,b≠kn->M21 b=some o->M' b=some o) ⟨_,_,_,_,kvs,rfl,hK,K,NI,kp⟩ (λ i δ M' _ hI=>?_) (λ i d δ M' hd hI=>?_) (λ δ M' hI=>?_)
    ·obtain⟨_,_,_,_,_,_,_,_,NI,_⟩:=hI;exact NI
    ·clear hK K kp NI;obtain⟨Qc,Qb,Qa,P_,kvs,rfl,hK,K,NI,kp⟩:=hI;rw[u6]at hd;obtain⟨p2,eZ,rfl⟩:=ce.mp hd;have eZ:=Ai p2 (mem_of_mem_drop (k8 eZ));have x1:=dB GS GS.tb.pos xG.1;have x2:=dB GS GS.tb.pos eZ.1;rfl';refine⟨lm.length,n,sr,tU,p1.map kI,by rw[dw],GS.tb,by rw[B3];exact xG.1,kN,λ Ma Ea=>?_⟩;rw[show lE sr 0 0 (p1.map kI)=aP (ax sr) 0 0 p1 from dH sr p1 0 0];rfl';refine⟨lm.length,n,sr,tU,p2.map kI,by rw[dw],GS.tb,by rw[B3];exact eZ.1,kN,λ Mb Eb=>?_⟩;rw[show lE sr 0 0 (p2.map kI)=aP (ax sr) 0 0 p2 from dH sr p2 0 0];rfl';have E2:=Ea.trans Eb;refine⟨lm.length,n,_,_,sr,tU,rfl,E2 _ _ (kp _ _ nT hT),GS,x1,x2,λ q M3 Lq E3=>?_,λ no M3 E3=>?_⟩
     ·have E3:=E2.trans E3;have hql:=Lq.len;have hqs:q.sum<=16:=by have:=Lq.gw GS x1 x2;lia
      have Yv:=Lq.par;unfold ug at Yv;rfl';refine Lx (ds:=q.map nD) ?_;rfl';refine tX (by simp[gc,Kx]) ?_;rfl';refine⟨p1.map kI,q.map kI,by rw[dw,dw],by rw[B3,B3];lia,by rw[B3];lia,?_⟩;rfl';refine lo p1 q kvs M3 _ xG.1 hql xG.2 hqs (E3 _ _ hK) K λ Sv M4 hk4 K4 Wa=>?_;rfl';refine⟨p2.map kI,q.map kI,by rw[dw,dw],by rw[B3,B3];lia,by rw[B3];lia,?_⟩;rfl';refine lo p2 q Sv M4 _ eZ.1 hql eZ.2 hqs hk4 K4 λ Su M5 hk5 K5 V'=>?_;rfl';rw[A7 Yv];rfl';exact⟨_,_,_,_,Su,rfl,hk5,K5,V' _ _ n2 (Wa _ _ n2 (E3 _ _ NI)),λ b o nb e=>V' _ _ nb (Wa _ _ nb (E3 _ _ (kp b o nb e)))⟩
     ·have E3:=E2.trans E3;have Yv:cU tU (aP (ax sr) 0 (aP (ax sr) 0 0 p1) p0)=cU tU (aP (ax sr) 0 (aP (ax sr) 0 0 p2) p0):=Decidable.not_not.mp (no p0 S9.1);rfl';refine Ly ?_;rfl';refine wo ?_;rfl';refine ba (cq (E3 _ _ (kp _ _ nS hS)) (d:=gc p0) (bc (by rw[u6,fG];rfl)) ?_);rfl';refine⟨p1.map kI,p0.map kI,by rw[dw,dw],by rw[B3,B3];lia,by rw[B3];lia,?_⟩;rfl';refine lo p1 p0 kvs M3 _ xG.1 S9.1 xG.2 () (E3 _ _ hK) K λ Sv M4 hk4 K4 Wa=>?_;rfl';refine⟨p2.map kI,p0.map kI,by rw[dw,dw],by rw[B3,B3];lia,by rw[B3];lia,?_⟩;rfl';refine lo p2 p0 Sv M4 _ eZ.1 S9.1 eZ.2 () hk4 K4 λ Su M5 hk5 K5 V'=>?_;rfl';rw[B8 Yv];rfl';exact⟨_,_,_,_,Su,rfl,hk5,K5,V' _ _ n2 (Wa _ _ n2 (E3 _ _ NI)),λ b o nb e=>V' _ _ nb (Wa _ _ nb (E3 _ _ (kp b o nb e)))⟩
    ·obtain⟨Qc,Qb,Qa,P_,kvs,rfl,hK,K,NI,kp⟩:=hI;exact⟨_,_,_,_,_,kvs,rfl,hK,K,kp⟩
   ·obtain⟨v9,Qc,Qb,Qa,P_,kvs,rfl,_⟩:=hI;rfl';exact av (k _)
def Sn(hO:Dg H [38,93])(hS:eO K H a (ns.map V.int)):bZ K wa [.ref a] H (λ v _=>v=.bl true) λ _ _ _=>False:=by
 have Fi:Ko K H a (ns.map V.int):=by
  rcases hS with(h|⟨o,h⟩)|h
  ·rcases hO.1 a with z|⟨o,xs,z⟩|z
   ·rw[z]at h;cases h
   ·rw[z]at h;cases h
   ·rw[z]at h;cases h
  ·exact .inl ⟨o,h⟩
  ·exact .inr h
 refine⟨[.fl (ns.map D.int)],λ b=>if b=38 then some (.eX (.mM "first_things.<locals>.<lambda>"))else if b=93 then some (.eX (.mM "least.<locals>.<lambda>"))else none,λ d _=>d=.bl true,aA.one (nz.mpr ⟨a,_,rfl,Fi,jR ns⟩),λ a o e=>?_,⟨ns,rfl,K1 rfl,(K3 (by decide)).trans (K1 rfl),λ _=>rfl⟩,λ v H' d M' hd hm t e=>?_⟩
 ·by_cases z0:a=38
  ·subst z0;have e:=(K1 rfl).symm.trans e;cases e;exact⟨[],hO.2 _ (by simp),λ p hp=>nomatch hp⟩
  ·have e:=(K3 z0).symm.trans e;by_cases z1:a=93
   ·subst z1;have e:=(K1 rfl).symm.trans e;cases e;exact⟨[],hO.2 _ (by simp),λ p hp=>nomatch hp⟩
   ·have e:=(K3 z1).symm.trans e;cases e
 ·subst e;exact aY.mp hd
structure TopC(K:K6)(mg:Str->Option gV)(x:Str)(i:Nat)(dV:gV)(c f:ap)(d:FuncData):Prop where
 m:mg x=some (.ref f)
 F:jZ K x x (top i) dV c f d
def MV{A:Type}{P:List A->Prop}(h:∀a t,t.length=n->P (a::t)):∀us:List A,us.length=n+1->P us
 |[],e=>nomatch e
 |a::t,e=>h a t (Nat.succ.inj e)
def MW{A:Type}{P:List A->Prop}(h:∀a,P [a]):∀us:List A,us.length=1->P us:=MV λ a t e=>by rw[eq_nil_of_length_eq_zero e];exact h a
def V8{A:Type}{P:List A->Prop}(h:∀a b,P [a,b]):∀us:List A,us.length=2->P us:=MV λ a=>MW (P:=λ t=>P (a::t)) (h a)
def Sm{A:Type}{P:List A->Prop}(h:∀a b c,P [a,b,c]):∀us:List A,us.length=3->P us:=MV λ a=>V8 (P:=λ t=>P (a::t)) (h a)
def Sl{A:Type}{P:List A->Prop}(h:∀a b c d,P [a,b,c,d]):∀us:List A,us.length=4->P us:=MV λ a=>Sm (P:=λ t=>P (a::t)) (h a)
structure de(K:K6)(mg:Str->Option gV)(x:Str)(i:Nat)(f:ap)(d:FuncData):Prop where
 m:mg x=some (.ref f)
 F:hW K x x (top i) f d
def de.mk'{d:FuncData}(t:de K mg x i f d)(l:PySem.W.OpenLaw)(w:World)(base:Heap)(G:bB l.prog w K mg base dX k f d ps sp)(h:∀(kV doc pm:gV)(an:Option ap)(dj ct:gV)(us:List gV),us.length=ps.length->bindArgs (PySem.W.fnOf x x (bW (top i)) (bw (top i)) (aB (top i)) .none kV doc pm an dj ct) ⟨us,[]⟩=pure (ps.zip us):=by intro _ _ _ _ _ _;first|exact MW λ _=>rfl|exact V8 λ _ _=>rfl|exact Sm λ _ _ _=>rfl|exact Sl λ _ _ _ _=>rfl|exact ad6 λ _ _ _ _ _=>rfl):gC l.prog w K mg base k x ps sp:=gC.of t.F G t.m (t.F.binds h)
def all_mk{mg:Str->Option gV}{f0 f1 f2 f3 f4 f5 f6 f7 f8 f9 f10 f11 f12 f13 f14 f15 f16 f17 f18 f19 f20 f21 f22 f23 f24 f25 f26 f27 f28 f29 f30 f31 f32 f33:ap}{d0 d1 d2 d3 d4 d5 d6 d7 d8 d9 d10 d11 d12 d13 d14 d15 d16 d17 d18 d19 d20 d21 d22 d23 d24 d25 d26 d27 d28 d29 d30 d31 d32:FuncData}{kV dc pm cd ct:gV}{an:Option ap}
  (T:iK K mg)
  (t0:de K mg "places_of" 1 f0 d0)
  (t1:de K mg "one_more" 3 f1 d1)
  (t2:TopC K mg "first_sums" 4 (.ref 29) 35 f2 d2)
  (e2:K.lookup 29=some {cls:=.type "tuple",data:=.seq #[.none] 0})
  (t3:TopC K mg "first_things" 5 .none 42 f3 d3)
  (t4:de K mg "row_of" 7 f4 d4)
  (t5:de K mg "numbered" 8 f5 d5)
  (t6:de K mg "gone_by" 10 f6 d6)
  (t7:de K mg "thing_of" 11 f7 d7)
  (t8:de K mg "carried" 12 f8 d8)
  (t9:de K mg "put_to" 13 f9 d9)
  (t10:de K mg "losing_beside" 15 f10 d10)
  (t11:de K mg "first_alike" 16 f11 d11)
  (X2:TopC K mg "least" 17 .none 97 f12 d12)
  (t13:de K mg "keeps_steps" 19 f13 d13)
  (t14:de K mg "led" 20 f14 d14)
  (t15:de K mg "parting" 22 f15 d15)
  (t16:de K mg "_law_flow" 24 f16 d16)
  (t17:de K mg "_law_pick" 25 f17 d17)
  (t18:de K mg "_law_shuffled" 26 f18 d18)
  (t19:de K mg "_law_name" 27 f19 d19)
  (t20:de K mg "_law_names" 28 f20 d20)
  (t21:de K mg "_law_counts" 29 f21 d21)
  (t22:de K mg "_law_key" 30 f22 d22)
  (t23:de K mg "_law_in_order" 31 f23 d23)
  (t24:de K mg "_law_nim" 32 f24 d24)
  (t25:de K mg "_law_nim_table" 33 f25 d25)
  (t26:de K mg "_law_blown" 34 f26 d26)
  (t27:de K mg "_law_renumbered" 35 f27 d27)
  (t28:de K mg "_law_moves" 36 f28 d28)
  (U7:de K mg "_law_loses" 37 f29 d29)
  (t30:de K mg "_law_some_sum" 38 f30 d30)
  (t31:de K mg "_law_added" 39 f31 d31)
  (t32:de K mg "_law_right_table" 40 f32 d32)
  (t33:de K mg "law" 41 f33 (PySem.W.fnOf "law" "law" (bW (top 41)) (bw (top 41)) (aB (top 41)) .none kV dc pm an cd ct)):
  ∃fd:FuncData,(∀(s:am)(v:gV),BindsTo s fd ⟨[v],[]⟩ [("_law_script",v)])/\∀base:Heap,K.In base->(∀q∈([(42,38),(97,93)]:List (ap×ap)),Om mg base q.1 q.2)->bB l.prog w K mg base dX 305 f33 fd ["_law_script"] (bZ K wa):=by
 refine⟨PySem.W.fnOf "law" "law" (bW (top 41)) (bw (top 41)) (aB (top 41)) .none kV dc pm an cd ct,λ s v=>.of_eq rfl,λ base _ Pn=>?_⟩;have b2:=t2.F.AI (ps:=["heaps","start","gone","most"]) λ _ _ _ _ _ s hk=>Sl λ _ _ _ _=>JN hk rfl e2 rfl rfl rfl;have c2:=t2.F.TZ (ps:=["heaps","start","gone","most"]) (n:=3) rfl λ _ _ _ _ _ s hk=>Sm λ _ _ _=>JN hk rfl e2 rfl rfl rfl;have b3:=t3.F.AI (ps:=["steps"]) λ _ _ _ _ _ s hk=>MW λ _=>.of_eq rfl;have b12:=X2.F.AI (ps:=["table"]) λ _ _ _ _ _ s hk=>MW λ _=>.of_eq rfl;have b29:=U7.F.binds (ps:=["_law_game","_law_counts_here","_law_last","_law_known"]) λ _ _ _ _ _ _=>Sl λ _ _ _ _=>rfl;have eg:=t17.mk' l w base (Mp t17.F T);have Dx:=t16.mk' l w base (Mz t16.F T);have Ds:=t19.mk' l w base (Mt t19.F T eg);have Du:=t31.mk' l w base (Mw t31.F T);have Fx:=t22.mk' l w base (RY t22.F T);have za:=t23.mk' l w base (HL t23.F T Fx);have nK:=t21.mk' l w base (D_ t21.F T);have Dl:=t30.mk' l w base (Mn t30.F T eg nK);have yZ:=t20.mk' l w base (HJ t20.F T Ds);have vU:=t28.mk' l w base (DZ t28.F T);have Fv:=t24.mk' l w base (RU t24.F T eg yZ nK za);have Kv:=gC.of U7.F (RV U7.F T vU U7.m b29 (P:=l.prog) (w:=w) (base:=base) 301) U7.m b29;have Dr:=t25.mk' l w base (Ms t25.F T);have ze:=t26.mk' l w base (HM t26.F T eg);have Dm:=t18.mk' l w base (Mo t18.F T eg);have Ft:=t27.mk' l w base (RR t27.F T Dm);have rR:=t1.mk' l w base (Mu t1.F T);have zd:=gC.VU t2.F (wO t2.F T rR (P:=l.prog) (w:=w) (base:=base)) t2.m b2;have yV:=rf.VU t2.F (wO t2.F T rR (P:=l.prog) (w:=w) (base:=base)) t2.m c2;have Dw:=t6.mk' l w base (My t6.F T);have Fs:=t7.mk' l w base (RQ t7.F T Dw);have rS:=t8.mk' l w base (MB t8.F T);have pK:=t9.mk' l w base (HI t9.F T rS);have Dt:=t10.mk' l w base (Mv t10.F T pK);have Dy:=t11.mk' l w base (MA t11.F T Dt);have Fu:=t0.mk' l w base (RS t0.F T);have yY:=t4.mk' l w base (HG t4.F T);have Dq:=t5.mk' l w base (Mr t5.F T yV Fu yY);have y_:=gC.VU X2.F (HK X2.F T (Pn (97,93) (by simp)) Dy Dq (P:=l.prog) (w:=w) (base:=base)) X2.m b12;have Dv:=t13.mk' l w base (Mx t13.F T);have Fw:=t14.mk' l w base (RW t14.F T rS Dv);have vT:=gC.VU t3.F (DY t3.F T (Pn (42,38) (by simp)) zd (P:=l.prog) (w:=w) (base:=base)) t3.m b3;have Dp:=t15.mk' l w base (Mq t15.F T vT pK);have Ku:=t32.mk' l w base (VS t32.F T eg ze Ft);exact RX t33.F T Dx Fv eg Dr Ku y_ Dl Fw Fs Dp Kv Du
def walk{q:Program}{YP:World->Heap->Prop}{d:DefRec}{K:Params->K6}(hn:l.most=some 63)(ND:d.params.defaults=[])
  (hY:∀(w:World)(h:Heap),YP w h->(K w.params).In h/\∀q∈([(42,38),(97,93)]:List (ap×ap)),h.get? q.2=some (PySem.W.tabObj #[])/\(K w.params).lookup q.2=none/\PySem.W.CodeHd h q.1 q.2)
  (F:∀(w:World)(mg:Str->Option gV)(fa:ap)(h:Heap),(K w.params).In h->h.Ns mainGlobals mg->mg d.name=some (.ref fa)->
   ∃fd:FuncData,(∀(s:am)(u:gV),BindsTo s fd ⟨[u],[]⟩ [("_law_script",u)])/\∀base:Heap,(K w.params).In base->(∀q∈([(42,38),(97,93)]:List (ap×ap)),Om mg base q.1 q.2)->bB l.prog w (K w.params) mg base dX 305 fa fd ["_law_script"] (bZ (K w.params) wa)):
  PySem.W.WalkO q loose XP YP l.row.toRowW d [] (λ f vs=>PySem.call f vs):=
 L2.FE (n:=63) (k:=305) (x:="_law_script") (CX:=λ _=>dX) (sp:=λ w=>bZ (K w.params) wa) hn (by decide) ND ⟨rfl,by decide,by decide⟩ hY F (λ _ _ a ns hl hO hS=>Sn hO hS) λ _ _ _ _ _ z=>z
end KK
open PySem.W PyProof.Rows
def PySem.W.Fast.tw3426351717089635856:Program:=PySem.Challenge.pw_lastloser_k34_whole_right_tables_agree
theorem PySem.W.Fast.te3426351717089635856: PySem.Challenge.pw_lastloser_k34_whole_right_tables_agree = PySem.W.Fast.tw3426351717089635856 := rfl
namespace PySem.W.Fast
def tw15680181125469238629:=0
def tw3204284269065540104:=0
def tw11238782224807507081:=0
def tw17389258389358423757:=0
def tw11721045275460943057:=0
def tw340943301801174815:=0
def tw12219446589911763104:=0
def tw4179737117646122455:=0
def tw1563964889537119443:=0
def tw1779448071533393531:=0
def tw16740547091112726004:=0
def tw15368565643346184973:=0
def tw6623416807899850015:=0
def tw11153938058339627910:=0
def tw12506540626683457712:=0
def tw17224992458871170687:=0
def tw16513669100339577909:=0
def tw8023082378038480389:=0
def tw11358789410156187742:=0
def tw16145538440023003506:=0
def tw8834581707886642510:=0
def tw12821700072289822232:=0
def tw2852890624332548111:=0
def tw4916016840621602406:=0
def tw6304311654545750676:=0
def tw18161387011099105501:=0
def tw5091227004533226338:=0
def tw17631954532451402081:=0
def tw4346138608824660282:=0
def tw7072730575402480690:=0
def tw3991389385024555567:=0
def tw4489800800708595458:=0
def tw5574004459383599289:=0
def tw8773248116518628679:=0
def tw7266610410852695027:=0
def tw8562760824919125716:=0
def tw11016612189433991968:=0
def tw4870026104615578240:=0
def tw6010953502040580641:=0
def tw18318637707253463912:=0
def tw1019657364260994392:=0
def tw12385940918365928488:=0
def tw8458940389159321341:=0
def tw6768804890529344338:=0
def tw2551880008765624595:=0
def tw1179849655098823546:=0
def tw13806486524348378492:=0
def tw11696919940226629946:=0
def tw16452773001367185136:=0
def tw15565436829473549695:=0
def tw1330990258860190432:=0
def tw4150414982819112017:=0
def tw13315337725567284411:=0
def tw3302264079562352360:=0
def tw5781168803892092702:=0
def tw5025822189963150710:=0
def tw6707793398305384147:=0
def tw2350962832499582456:=0
def tw5184380369925668874:=0
def tw14383356762066943315:=0
def tw5303694870788712488:=0
def tw2878429851268314368:=0
def tw15544442247605614337:=0
def tw13450791334826142136:=0
def tw16038200585117676207:=0
def tw7937378646593868971:=0
end PySem.W.Fast
namespace KK
open L2
noncomputable def kE(P:Params)(x:Str)(t:Nat)(v:gV):DictEntry:={hash:=PyData.keyHash P x,key:=.str x t,val:=v}
noncomputable def kO(x:Str)(t l n r s u:Nat)(v w:gV):Obj:={cls:=.type "code",data:=.fields #[.str x t,.str x (t+1),.str "/claim/cut.py" (t+2),.int l 0,.int n 0,.int 0 0,.int 0 0,.int 3 0,.ref r,.bool true,.int 181 0,.ref (r+1),.none,v,w,.ref s,.int u 0,.int l 0,.str "/claim/cut.py" (u+1)]}
noncomputable def kF(x:Str)(i:Nat)(m:Str×Nat)(c:Nat)(d:gV:=.none):Obj:={cls:=.type "function",data:=.func (PySem.W.fnOf x x (bW (top i)) (bw (top i)) (aB (top i)) d .none .none (.str m.1 m.2) none (.ref c) .none)}
noncomputable def kP(x:Str)(a i:Nat)(m:Str×Nat)(t l n u q:Nat)(d:gV:=.none):List (Nat×Obj):=[(a,if q=0 then kO x t l n (a-3) (a-1) u .none .none else kO x t l n (a-5) (a-1) u (.ref (a-3)) (.ref (a-2))),(a+1,kF x i m a d)]
noncomputable def m0:Str×Nat:=("lastloser.leading",318)
noncomputable def m1:Str×Nat:=("lastloser.least",294)
noncomputable def m2:Str×Nat:=("lastloser.numbering",233)
noncomputable def m3:Str×Nat:=("lastloser.parting",332)
noncomputable def m4:Str×Nat:=("lastloser.places",187)
noncomputable def m5:Str×Nat:=("lastloser.seeking",199)
noncomputable def m6:Str×Nat:=("lastloser.things",247)
noncomputable def m7:Str×Nat:=("law_lastloser_k34_whole_right_tables_agree",348)
noncomputable def kD(P:Params):Obj:={cls:=.type "dict",data:=.dict #[kE P "__name__" 165 (.str "law_lastloser_k34_whole_right_tables_agree" 348),kE P "__doc__" 166 .none,kE P "__package__" 167 .none,kE P "__loader__" 168 (.builtin "__main__.__loader__#opaque"),kE P "__spec__" 169 .none,kE P "__annotations__" 170 (.ref 6),kE P "__builtins__" 171 (.ref 4),kE P "__file__" 173 (.str "/claim/cut.py" 172),kE P "__cached__" 174 .none,kE P "places_of" 198 (.ref 21),kE P "one_more" 208 (.ref 28),kE P "first_sums" 224 (.ref 36),kE P "first_things" 232 (.ref 43),kE P "row_of" 240 (.ref 48),kE P "numbered" 246 (.ref 53),kE P "gone_by" 260 (.ref 60),kE P "thing_of" 271 (.ref 67),kE P "carried" 285 (.ref 74),kE P "put_to" 293 (.ref 81),kE P "losing_beside" 301 (.ref 86),kE P "first_alike" 307 (.ref 91),kE P "least" 317 (.ref 98),kE P "keeps_steps" 325 (.ref 103),kE P "led" 331 (.ref 108),kE P "parting" 347 (.ref 115),kE P "_law_flow" 356 (.ref 122),kE P "_law_pick" 366 (.ref 129),kE P "_law_shuffled" 376 (.ref 136),kE P "_law_name" 382 (.ref 141),kE P "_law_names" 394 (.ref 148),kE P "_law_counts" 400 (.ref 153),kE P "_law_key" 406 (.ref 158),kE P "_law_in_order" 412 (.ref 163),kE P "_law_nim" 418 (.ref 168),kE P "_law_nim_table" 424 (.ref 173),kE P "_law_blown" 430 (.ref 178),kE P "_law_renumbered" 436 (.ref 183),kE P "_law_moves" 442 (.ref 188),kE P "_law_loses" 448 (.ref 193),kE P "_law_some_sum" 454 (.ref 198),kE P "_law_added" 460 (.ref 203),kE P "_law_right_table" 468 (.ref 210),kE P "law" 474 (.ref 215)] 43}
noncomputable def kT(vs:List gV)(n:Nat):Obj:={cls:=.type "tuple",data:=.seq vs.toArray n}
noncomputable def kK(P:Params):K6:=(3,kD P)::[(29,kT [.none] 0)]++[kP "places_of" 20 1 m4 189 2 1 196 1,kP "one_more" 27 3 m5 201 8 2 206 1,kP "first_sums" 35 4 m5 209 10 4 222 1 (.ref 29),kP "first_things" 42 5 m5 225 23 1 230 1,kP "row_of" 47 7 m2 235 26 4 238 0,kP "numbered" 52 8 m2 241 28 4 244 0,kP "gone_by" 59 10 m6 249 34 4 258 1,kP "thing_of" 66 11 m6 261 43 2 269 1,kP "carried" 73 12 m6 272 48 3 283 1,kP "put_to" 80 13 m6 286 58 2 291 1,kP "losing_beside" 85 15 m1 296 61 2 299 0,kP "first_alike" 90 16 m1 302 64 1 305 0,kP "least" 97 17 m1 308 67 1 315 1,kP "keeps_steps" 102 19 m0 320 72 3 323 0,kP "led" 107 20 m0 326 77 2 329 0,kP "parting" 114 22 m3 334 86 3 345 1,kP "_law_flow" 121 24 m7 350 95 1 354 1,kP "_law_pick" 128 25 m7 357 97 2 364 1,kP "_law_shuffled" 135 26 m7 367 112 2 374 1,kP "_law_name" 140 27 m7 377 118 1 380 0,kP "_law_names" 147 28 m7 383 127 2 392 1,kP "_law_counts" 152 29 m7 395 137 2 398 0,kP "_law_key" 157 30 m7 401 139 1 404 0,kP "_law_in_order" 162 31 m7 407 141 1 410 0,kP "_law_nim" 167 32 m7 413 143 2 416 0,kP "_law_nim_table" 172 33 m7 419 158 2 422 0,kP "_law_blown" 177 34 m7 425 172 2 428 0,kP "_law_renumbered" 182 35 m7 431 188 2 434 0,kP "_law_moves" 187 36 m7 437 192 2 440 0,kP "_law_loses" 192 37 m7 443 201 4 446 0,kP "_law_some_sum" 197 38 m7 449 209 3 452 0,kP "_law_added" 202 39 m7 455 212 2 458 0,kP "_law_right_table" 209 40 m7 461 214 2 466 1,kP "law" 214 41 m7 469 220 1 472 0].flatten
noncomputable def kA:List ap:=[3,29,20,21,27,28,35,36,42,43,47,48,52,53,59,60,66,67,73,74,80,81,85,86,90,91,97,98,102,103,107,108,114,115,121,122,128,129,135,136,140,141,147,148,152,153,157,158,162,163,167,168,172,173,177,178,182,183,187,188,192,193,197,198,202,203,209,210,214,215]
def tF(X:K.In h)(G:h.Ns mainGlobals mg)(m:Str×Nat)(c:Nat)(a:PySem.W.nsIn K mainGlobals x=some (some (.ref (c+1))):=by kernel_rfl)(l:K.lookup (c+1)=some (kF x i m c):=by kernel_rfl)(e:PySem.W.codeIn K (.ref c) x=true:=by kernel_rfl):de K mg x i (c+1) (PySem.W.fnOf x x (bW (top i)) (bw (top i)) (aB (top i)) .none .none .none (.str m.1 m.2) none (.ref c) .none):=
 ⟨PySem.W.mg_of X G a,Tx (st:=top i) l e (by unfold PySem.W.keepIn;dsimp only;rw[l];rfl)⟩
def kn(X:K.In h)(G:h.Ns mainGlobals mg)(e:PySem.W.nsIn K mainGlobals x=some none:=by kernel_rfl):mg x=none:=PySem.W.mg_none_of X G e
def tC{d:gV}(X:K.In h)(G:h.Ns mainGlobals mg)(m:Str×Nat)(c:Nat)(a:PySem.W.nsIn K mainGlobals x=some (some (.ref (c+1))):=by kernel_rfl)(l:K.lookup (c+1)=some (kF x i m c d):=by kernel_rfl)(e:PySem.W.codeIn K (.ref c) x=true:=by kernel_rfl):TopC K mg x i d c (c+1) (PySem.W.fnOf x x (bW (top i)) (bw (top i)) (aB (top i)) d .none .none (.str m.1 m.2) none (.ref c) .none):=
 ⟨PySem.W.mg_of X G a,NM (st:=top i) l e (by unfold PySem.W.keepIn;dsimp only;rw[l];rfl)⟩
noncomputable def ZM(P:Params):K6:=[(38,PySem.W.tabObj #[]),(93,PySem.W.tabObj #[])]++kK P
noncomputable def kA0:List ap:=[38,93]++kA
def cH(X:K.In h)(c P:ap)(o:Obj)(vs:Array gV)(file:Str)(tf:Nat)(flags:Int)(tg:Nat)(Yc:Bool)(text:Int)(tt:Nat)(l:K.lookup c=some o)(e1:o.cls=.type "code")(e2:o.data=.fields vs)(e3:vs[11]?=some (.ref P))(e4:vs.getD 11 .none=.ref P)(e5:vs.getD 18 .none=.str file tf)(e6:vs.getD 7 .none=.int flags tg)(e7:vs.getD 9 .none=.bool Yc)(e8:vs.getD 10 .none=.int text tt)(e9:c≠P):PySem.W.CodeHd h c P:=⟨o,vs,file,tf,flags,tg,Yc,text,tt,X _ _ l,e1,e2,e3,e4,e5,e6,e7,e8,e9⟩
def k0{P:Params}(X:(ZM P).In h):(kK P).In h/\∀q∈([(42,38),(97,93)]:List (ap×ap)),h.get? q.2=some (PySem.W.tabObj #[])/\(kK P).lookup q.2=none/\PySem.W.CodeHd h q.1 q.2:=by
 have n0:(kK P).lookup 38=none:=by kernel_rfl
 have n1:(kK P).lookup 93=none:=by kernel_rfl
 have Y:(kK P).In h:=λ b o e=>by
  refine X b o ?_;unfold ZM;by_cases z0:b=38
  ·rw[z0,n0]at e;cases e
  by_cases z1:b=93
  ·rw[z1,n1]at e;cases e
  simp only[cons_append,nil_append,y3,beq_false_of_ne z0,beq_false_of_ne z1];exact e
 refine⟨Y,λ q hq=>?_⟩;simp only[C9,not_mem_nil,or_false]at hq;rcases hq with rfl|rfl
 ·exact⟨X _ _ (by kernel_rfl),n0,cH Y 42 38 (kO "first_things" 225 23 1 37 41 230 (.ref 39) (.ref 40)) _ _ _ _ _ _ _ _ (by kernel_rfl) rfl rfl rfl rfl rfl rfl rfl rfl (by decide)⟩
 ·exact⟨X _ _ (by kernel_rfl),n1,cH Y 97 93 (kO "least" 308 67 1 92 96 315 (.ref 94) (.ref 95)) _ _ _ _ _ _ _ _ (by kernel_rfl) rfl rfl rfl rfl rfl rfl rfl rfl (by decide)⟩
def pg:Program:={PySem.Challenge.pw_lastloser_k34_whole_right_tables_agree with main:={PySem.Challenge.pw_lastloser_k34_whole_right_tables_agree.main with body:=[top 0,top 1,top 2,top 3,top 4,top 5,top 6,top 7,top 8,top 9,top 10,top 11,top 12,top 13,top 14,top 15,top 16,top 17,top 18,top 19,top 20,top 21,top 22,top 23,top 24,top 25,top 26,top 27,top 28,top 29,top 30,top 31,top 32,top 33,top 34,top 35,top 36,top 37,top 38,top 39,top 40,top 41]}}
def lw:PySem.W.OpenLaw:={PySem.Challenge.rw_lastloser_k34_whole_right_tables_agree with prog:=pg}
end KK
set_option maxRecDepth 100000 in
set_option maxHeartbeats 0 in
def KK.pre:KK.lw.Holds:=by
 w_on;o_law;o_head (PySem.W.kHook KK.ZM KK.kA0 (λ _=>by kernel_rfl));(case hw=>w_witness2)
 refine KK.walk (l:=KK.lw) rfl rfl (K:=KK.kK) (λ w h Y=>KK.k0 (PySem.W.kIn_of Y)) ?F
 case F=>
  intro w mg fa h KX G WD;have hm:mg "law"=some (.ref fa):=WD;have e:=hm.symm.trans (PySem.W.mg_of KX G (v:=.ref (214+1)) (by kernel_rfl));cases e;exact KK.all_mk ⟨KK.kn KX G,KK.kn KX G,KK.kn KX G,KK.kn KX G,KK.kn KX G,KK.kn KX G,KK.kn KX G,KK.kn KX G,KK.kn KX G,KK.kn KX G,KK.kn KX G,KK.kn KX G,KK.kn KX G⟩ (KK.tF KX G KK.m4 20) (KK.tF KX G KK.m5 27) (KK.tC KX G KK.m5 35) (by kernel_rfl) (KK.tC KX G KK.m5 42) (KK.tF KX G KK.m2 47) (KK.tF KX G KK.m2 52) (KK.tF KX G KK.m6 59) (KK.tF KX G KK.m6 66) (KK.tF KX G KK.m6 73) (KK.tF KX G KK.m6 80) (KK.tF KX G KK.m1 85) (KK.tF KX G KK.m1 90) (KK.tC KX G KK.m1 97) (KK.tF KX G KK.m0 102) (KK.tF KX G KK.m0 107) (KK.tF KX G KK.m3 114) (KK.tF KX G KK.m7 121) (KK.tF KX G KK.m7 128) (KK.tF KX G KK.m7 135) (KK.tF KX G KK.m7 140) (KK.tF KX G KK.m7 147) (KK.tF KX G KK.m7 152) (KK.tF KX G KK.m7 157) (KK.tF KX G KK.m7 162) (KK.tF KX G KK.m7 167) (KK.tF KX G KK.m7 172) (KK.tF KX G KK.m7 177) (KK.tF KX G KK.m7 182) (KK.tF KX G KK.m7 187) (KK.tF KX G KK.m7 192) (KK.tF KX G KK.m7 197) (KK.tF KX G KK.m7 202) (KK.tF KX G KK.m7 209) (KK.tF KX G KK.m7 214)
theorem PySem.Challenge.cw_lastloser_k34_whole_right_tables_agree_holds : PySem.Challenge.rw_lastloser_k34_whole_right_tables_agree.Holds :=
 KK.pre
