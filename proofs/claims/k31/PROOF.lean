import PyProof.Rows.All
import Wide.All
import OpenK.AllK
import PySem.Challenge.RW_lastloser_k31_least_tables
local macro_rules|`(())=>`(by first|lia|omega)
set_option tactic.hygienic false
local macro_rules|`(tactic|obtain $p:rcasesPatMed:=$t:term)=>`(tactic|first|(refine dL fun k=>?_;rcases $t:term with $p:rcasesPatMed<;>(refine k ?_;clear k))|rcases $t:term with $p:rcasesPatMed)
set_option Elab.async false
set_option linter.all false
set_option maxRecDepth 100000
set_option maxHeartbeats 4000000
local macro_rules|`(tactic|let $p:term:=$t)=>do
 let n k a:=Lean.mkNode (`Lean.Parser.Tactic++k) a
 let r:=p.raw.rewriteBottomUp λ s=>match s.getKind with
  |`ident=>n `rcasesPat.one #[s]
  |`Lean.Parser.Term.hole=>n `rcasesPat.ignore s.getArgs
  |`«term#[_,]»=>n `rcasesPat.tuple (s.getArgs.modify 1 λ q=>Lean.mkNullNode (q.getArgs.mapIdx λ i x=>if i%2=0 then n `rcasesPatLo #[n `rcasesPatMed #[Lean.mkNullNode #[x]],Lean.mkNullNode]else x))
  |_=>s
 `(tactic|obtain $(⟨n `rcasesPatMed #[Lean.mkNullNode #[r]]⟩):rcasesPatMed:=$t)
local macro_rules|`($a>$b)=>`($a=some $b)
local macro_rules|`(-$x:ident)=>`(($x).length)
local macro_rules|`($x⁻¹)=>`(($x).heap.objs.size)
local macro_rules|`(tactic|ac_rfl)=>`(tactic|first|exact .inl rfl|exact .inr rfl|assumption)
local macro_rules|`(tactic|subst_vars)=>`(tactic|first|exact Or.inl rfl|exact Or.inr rfl)
local macro_rules|`($a>=$b)=>`(by rw[$a:term];exact $b)
local macro_rules|`(#[$xs,*])=>`(⟨$xs,*⟩)
local macro_rules|`(~~~$h)=>`(by simpa using $h)
set_option hygiene false
local macro_rules|`(`c)=>`((by decide))|`(`d)=>`((model prog w))|`(`f)=>`((model X.prog X.w))|`(`g)=>`((by simp))|`(`j)=>`((.ref p))|`(`l)=>`((ba X scope cl cA fr C fp s H))|`(`m)=>`((fz (eM m r h ls)))|`(`o)=>`((ao.refl H))|`(`u)=>`((ai 0))|`(`v)=>`((bq X.env.cells L.scope.names []))|`(`w)=>`((by kernel_rfl))|`(`y)=>`((.Call (.Name x p) (e::es) [] pos))|`(`z)=>`((.ref a))|`(`A)=>`((ai 1))|`(`B)=>`((.lst ds))|`(`C)=>`((.ref f))|`(`D)=>`((.ListComp elt [#[tg,iter,ifs,0]] scope pos))|`(`E)=>`((.lst ((ch.map f).map nD)))|`(`F)=>`((PySem.W.fnOf x qual (bN st) (bp st) (aD st) dV kV doc pm an (.ref c) ct))|`(`G)=>`((J7 _))|`(`H)=>`((.lst []))|`(`I)=>`((.lst ((List.range m).map λ x=>nD (f x))))|`(`J)=>`((.lst xs))|`(`K)=>`((aN aA (cT `u ag)))|`(`L)=>`((dD hr.units))|`(`M)=>`((G.di.cl _ _ hi hx))|`(`N)=>`((ai 2))|`(`O)=>`((.bV t (jY enc (kt.map (λ e=>(e.2,D.bl true))++[(F i s,.bl true)]))))|`(`P)=>`((aR.mpr rfl))|`(`Q)=>`((ao.laid hp))|`(`R)=>`((dH hr.units))
set_option hygiene true
open List
abbrev ac:=PySem.Value
abbrev bd:=PySem.Shared
abbrev be:=PySem.Addr
def bi:=@absurd
def bn:=@decide_eq_true_iff
def bv:=@List.Nodup.length_le_of_subset
def ca:=@Option.map_eq_some_iff
def ce:=@List.mem_range
def ci:=@List.getElem?_of_mem
def dL:=@Classical.byContradiction
def ga:=@Bool.or_eq_true
def ii:=@of_decide_eq_true
def a0:=@PyProof.Rows.slot_tuple_getitem
def a7:=@eq_nil_of_length_eq_zero
def a8:=@PyProof.Rows.callWith_type1
def a9:=@PySem.F.slot_tuple_iterator_next
def b7:=@getElem?_append_right
def b8:=@getD_eq_getElem?_getD
def c7:=@getElem?_append_left
def c8:=@Array.getElem?_eq_getElem
def c9:=@drop_eq_getElem_cons
def g9:=@List.getElem?_eq_some_iff
def i3:=@List.getElem?_eq_none_iff
def i4:=@PySem.F.slot_list_append
def i5:=@getElem?_eq_getElem
def i6:=@PySem.F.type_list_append
def i7:=@PySem.F.plainAttrs_list
def i8:=@getElem?_replicate
def i9:=@PySem.wpAny_callSpecial?_slot
def j0:=@length_eq_zero_iff
def j2:=@take_of_length_le
def j3:=@Array.getElem?_eq_none
def j4:=@PySem.Heap.get?_push_of_some
def j5:=@PySem.Heap.get?_update_other
def j6:=@getElem?_set_self
def j7:=@PySem.Heap.get?_update_self
def j8:=@mem_append_right
def j9:=@length_singleton
def k4:=@Array.getElem?_toList
def k5:=@length_replicate
def k7:=@getElem?_eq_none
def k8:=@mem_cons_of_mem
def k9:=@mem_of_getElem?
def l0:=@mem_append_left
def l5:=@PySem.Around.under_plainId
def l7:=@getElem?_set_ne
def l8:=@PySem.Heap.SameBut.update
def l9:=@getElem?_range
def m7:=@PySem.mem_of_lookup
def m8:=@replicate_succ
def m9:=@Array.length_toList
def n5:=@PySem.Heap.get?_push_size
def n6:=@PySem.F.plain_extend_loop
def n9:=@map_congr_left
def o6:=@filterMap_cons
def o7:=@mem_cons_self
def o8:=@Bool.false_ne_true
def p4:=@length_append
def p5:=@Bool.false_eq_true
def p6:=@Int.emod_lt_of_pos
def p7:=@PySem.wpAny_setField_rec
def p8:=@Nat.lt_of_le_of_lt
def p9:=@Nat.lt_of_lt_of_le
def q8:=@mem_singleton
def q9:=@PySem.wpAny_Call_Name_kw
def s9:=@of_decide_eq_false
def u6:=@Int.lt_of_le_of_lt
def u7:=@PySem.tupleKind_room_in1
def u9:=@Array.forIn_toList
def w6:=@getElem?_map
def w9:=@decide_eq_true_eq
def x3:=@Int.toNat_natCast
def x4:=@PySem.wpAny_newObj_type
def x5:=@flatten_cons
def x6:=@append_assoc
def x8:=@PySem.wpAny_pyIter_list
def x9:=@length_range
def y0:=@Option.isSome_map
def y3:=@List.size_toArray
def y4:=@ext_getElem?
def y6:=@Nat.lt_succ_of_lt
def y7:=@lookup_cons
def y8:=@Nat.le_of_not_lt
def y9:=@length_cons
def z9:=@Nat.lt_of_not_le
def A0:=@take_length
def A1:=@PySem.wpAny_call_entry
def A2:=@Bool.and_eq_true
def A3:=@length_take
def A4:=@getElem_mem
def A5:=@Nat.le_add_right
def A6:=@PySem.Heap.size_update
def A7:=@PySem.wpAny_isInstance
def A8:=@cons_append
def A9:=@List.all_eq_true
def B0:=@Bool.eq_iff_iff
def B1:=@append_nil
def B2:=@nil_append
def B3:=@find?_cons
def B4:=@decide_eq_false
def B5:=@PySem.wpAny_loadPart'
def B6:=@Int.emod_nonneg
def B7:=@Option.some.inj
def B8:=@PySem.wpAny_passesOwn
def B9:=@PySem.codeAny_builtin
def C0:=@PySem.W.kia_one
def C1:=@length_map
def C3:=@mem_append
def C4:=@map_append
def C5:=@Nat.le_antisymm
def C6:=@PySem.wpAny_updateSeq
def C7:=@PySem.wpAny_specialOf
def C8:=@forIn_cons
def C9:=@decide_eq_true
def D1:=@PySem.wpAny_seqItems
def D3:=@PySem.Heap.size_push
def D4:=@PySem.wpAny_setField
def D5:=@PySem.wpAny_holding
def D6:=@PySem.wpAny_attempt
def D7:=@PySem.Paired.length
def D8:=@Nat.lt_irrefl
def D9:=@map_cons
def E8:=@mem_cons
def G0:=@PySem.plainId_quiet
def G1:=@Int.zero_add
def G4:=@Nat.ne_of_lt
def G5:=@PySem.Heap.lt_size
def G7:=@mem_map
def G8:=@List.map_map
def G9:=@Nat.le_trans
def H9:=@Nat.zero_add
def J0:=@Nat.le_of_eq
def J1:=@map_nil
def J3:=@PySem.wpAny_typeOf
def J4:=@PySem.codeAny_mono
def J5:=@Nat.ne_of_gt
def J6:=@Nat.le_of_lt
def J7:=@Nat.le_refl
def J8:=@PySem.sizeLine_eq
def J9:=@Nat.zero_le
def K0:=@PySem.wpAny_field
def K1:=@PySem.wpAny_bind
def K3:=@PySem.wpAny_pure
def K4:=@PySem.wpAny_rule
def K5:=@PySem.call_meets
def K6:=@PySem.wpAny_mono
def K7:=@if_false
def K8:=@congrArg
def K9:=@Ne.symm
def L1:=@if_pos
def L7:=@if_neg
abbrev L8:=PySem.W.Frag
open PySem
variable {E Q:ac->bd->Prop}{im:List (be×Obj)}{s s':bd}{K:L8}{w:World}{A:Around}{fd:FuncData}{mg mA:Str->Option ac}{a f p b c q:be}{α:Type}{es ifs rest:List Expr}{prog P:Program}{i k n m j t' mask y ep:Nat}{x qual name:Str}{e tg iter e1 elt:Expr}{ps cA fv:List Str}{u dV:ac}{us vs ar:List ac}{cn:List (Str×Nat)}{base h':Heap}{scope:Scope}{cells cl:List (Str×be)}{t:SetTable}{fr:List Nat}{owner:Array (Option Nat)}{st:Stmt}{kindOf:Str->Option NameKind}{T:String}{kv cs:List (Nat×Nat)}{ns:List Int}{S:Heap->be->Array ac->Prop}{body:List Stmt}{fp ch:List be}{XP:(Str->Option ac)->Heap->Prop}{o:Obj}{J:List ac->Nat->bd->Prop}{lo:Int}{apos p2 pos' cR:Pos}{l:PySem.W.OpenLaw}{C:Int->Int->Prop}{yt:Array (Option ac)}{outer:List Env}{κ:SortKind}{tabs:List (be×be)}{YP:World->Heap->Prop}
namespace L2
open PySem.Spec PyProof.Rows
abbrev Key:=Sum Int Str
def pR:Key->ac->Bool
 | .inl k,v=>Value.isInt k v
 | .inr x,v=>Value.isStrOf x v
def Yv(w:World):Key->Int
 | .inl k=>hashInt k
 | .inr x=>hashStr w x
def bO:∀{k:Key} {v:ac},pR k v=true->(∃i t,k=Sum.inl i/\v=Value.int i t)\/(∃x t,k=Sum.inr x/\v=Value.str x t)
 | .inl i,v,h=>by let#[t,e]:=Value.isInt_shape (k:=i) (v:=v) h;exact .inl #[i,t,rfl,e]
 | .inr x,v,h=>by let#[t,e]:=Value.isStrOf_shape (x:=x) (v:=v) h;exact .inr #[x,t,rfl,e]
def DQ(i:Int)(t:Tok):pR (.inl i) (.int i t)=true:=by simp[pR,Value.isInt]
def DP(x:Str)(t:Tok):pR (.inr x) (.str x t)=true:=by simp[pR,Value.isStrOf]
def RA(a b:Int):decide ((Sum.inl a:Key)=Sum.inl b)=(a==b):=by
 by_cases e:a=b
 ·subst e;simp
 ·have h:¬(Sum.inl a:Key)=Sum.inl b:=λ q=>e (Sum.inl.inj q);rw[B4 h];exact(beq_eq_false_iff_ne.mpr e).symm
def Rw(a b:Str):decide ((Sum.inr a:Key)=Sum.inr b)=decide (a=b):=by
 by_cases e:a=b
 ·subst e;simp
 ·have h:¬(Sum.inr a:Key)=Sum.inr b:=λ q=>e (Sum.inr.inj q);rw[B4 h,B4 e]
def Rz(a:Int)(b:Str):decide ((Sum.inl a:Key)=Sum.inr b)=false:=B4 (λ q=>nomatch q)
def Rx(a:Str)(b:Int):decide ((Sum.inr a:Key)=Sum.inl b)=false:=B4 (λ q=>nomatch q)
def cW(prog:Program)(w:World):PySem.KeyKind prog w Key where
 is:=pR
 hash:=Yv w
 inj:=λ v a b ha hb=>by
  rcases bO ha with⟨i,t,rfl,rfl⟩|⟨x,t,rfl,rfl⟩
  ·rcases bO hb with⟨j,u,rfl,e⟩|⟨y,u,rfl,e⟩
   ·injection e with e1 _;rw[e1]
   ·exact nomatch e
  ·rcases bO hb with⟨j,u,rfl,e⟩|⟨y,u,rfl,e⟩
   ·exact nomatch e
   ·injection e with e1 _;rw[e1]
 byValue:=λ k v h=>by rcases bO h with⟨i,t,rfl,rfl⟩|⟨x,t,rfl,rfl⟩<;>rfl
 pyHash:=λ hv h=>by
  rcases bO hv with⟨i,t,rfl,rfl⟩|⟨x,t,rfl,rfl⟩
  ·exact wpAny_pyHash_int h
  ·exact wpAny_pyHash_str h
 eqBool:=λ hu hv h=>by
  rcases bO hu with⟨i,t,rfl,rfl⟩|⟨x,t,rfl,rfl⟩
  ·rcases bO hv with⟨j,u,rfl,rfl⟩|⟨y,u,rfl,rfl⟩
   ·rw[RA]at h;exact wpAny_eqBool_int h
   ·rw[Rz]at h;exact SeqAt.EqAt.int_str i t y u _ _ _ _ h
  ·rcases bO hv with⟨j,u,rfl,rfl⟩|⟨y,u,rfl,rfl⟩
   ·rw[Rx]at h;exact SeqAt.EqAt.str_int x t j u _ _ _ _ h
   ·rw[Rw]at h;exact wpAny_eqBool_str h
 «strs»:=λ k x t v h=>by
  rcases bO h with⟨i,u,rfl,e⟩|⟨y,u,rfl,e⟩
  ·exact nomatch e
  ·injection e with e1 _
   subst e1;cases v<;>rfl
def vX(prog:Program)(w:World)(i:Int)(t:Tok):(cW prog w).is (.inl i) (.int i t)=true:=DQ i t
def vW(prog:Program)(w:World)(x:Str)(t:Tok):(cW prog w).is (.inr x) (.str x t)=true:=DP x t
inductive V where
 |bf|bl (b:Bool)|int (i:Int)|str (x:Str)|Jh (b:Array UInt8)|Tr (b:UInt64)|ref (a:be)|ty (n:String)
 deriving DecidableEq
def sK:V->ac->Prop
 | .bf,u=>u=Value.none
 | .bl b,u=>u=Value.bool b
 | .int i,u=>∃t,u=Value.int i t
 | .str x,u=>∃t,u=Value.str x t
 | .Jh b,u=>∃t,u=Value.bytes b t
 | .Tr b,u=>∃t,u=Value.float b t
 | .ref a,u=>u=Value.ref a
 | .ty n,u=>u=Value.type n
abbrev ut:List V->List ac->Prop:=Paired sK
theorem ut.length{xs:List V}(r:ut xs us):-xs=-us:=D7 r
theorem ut.get:∀{xs:List V} {us:List ac} {i:Nat} {x:V},ut xs us->xs[i]?>x->∃u,us[i]?>u/\sK x u
 |_,_,_,_,.nil,e=>by simp at e
 |_,_,0,_,.cons r _,e=>by simp at e;subst e;exact#[_,rfl,r]
 |_,_,i+1,x,.cons _ t,e=>by let#[u,h1,h2]:=ut.get (i:=i) (x:=x) t (~~~e);exact#[u,~~~h1,h2]
theorem ut.set{x:V}(r:sK x u):∀{xs:List V} {us:List ac} (i:Nat),ut xs us->ut (xs.set i x) (us.set i u)
 |_,_,_,.nil=>.nil
 |_,_,0,.cons _ t=>.cons r t
 |_,_,i+1,.cons q t=>.cons q (ut.set r i t)
theorem ut.append:∀{xs ys:List V} {us ws:List ac},ut xs us->ut ys ws->ut (xs++ys) (us++ws)
 |_,_,_,_,.nil,s=>s
 |_,_,_,_,.cons r t,s=>.cons r (ut.append t s)
theorem ut.take:∀{xs:List V} {us:List ac} (n:Nat),ut xs us->ut (xs.take n) (us.take n)
 |_,_,0,_=>.nil
 |_,_,_+1,.nil=>.nil
 |_,_,n+1,.cons r t=>.cons r (ut.take n t)
theorem ut.drop:∀{xs:List V} {us:List ac} (n:Nat),ut xs us->ut (xs.drop n) (us.drop n)
 |_,_,0,r=>r
 |_,_,_+1,.nil=>.nil
 |_,_,n+1,.cons _ t=>ut.drop n t
def ut.none_of:∀{xs:List V} {us:List ac} {i:Nat},ut xs us->xs[i]?=none->us[i]?=none:=λ{xs us i} r e=>by have h1:=-r;have h2:-xs<=i:=i3.mp e;exact i3.mpr ()
def lQ:Option V->Option ac->Prop
 |some v,some u=>sK v u
 |none,none=>True
 |_,_=>False
def KV{κ:Type}:List (κ×V)->List (κ×ac)->Prop:=Paired λ(p:κ×V) (q:κ×ac)=>p.1=q.1/\sK p.2 q.2
def kV:Key->V
 | .inl i=>.int i
 | .inr x=>.str x
inductive HO where
  |lst (xs:List V)
  |tup (xs:List V)
  |dK (kvs:List (Key×V))|dT (kvs:List (List Key×V))
  |set (S:Int->Bool) (n:Nat)
  |ins (C dx:be) (fs:List (Str×V))
  |own (x:be)
  |xd (fs:List (Str×V))
  |met (f x:be)
  |yd (lo hi:Int)
  |cQ (o:Obj) (u:HO)
  |lU (ps:Array ac)
  |ext (φ:Heap->Prop)
abbrev Hp:=be->Option HO
def u8(H:Hp)(a:be)(o:HO):Hp:=λ b=>if b=a then some o else H b
def aH{H:Hp}{o:HO}:u8 H a o a>o:=by unfold u8;rw[L1 rfl]
def aJ{H:Hp}{o:HO}(h:b≠a):u8 H a o b=H b:=by unfold u8;rw[L7 h]
def aU{H:Hp}{o u:HO}(h:H a>o)(h':H b>u)(d:o≠u):a≠b:=by intro e;subst e;rw[h]at h';exact d (B7 h')
def bI{H:Hp}{o:HO}(h:H a>o)(h':H b=none):a≠b:=by intro e;subst e;rw[h]at h';cases h'
section
variable (P:Program)(w:World)
def br(H:Hp)(h:Heap)(a:be):HO->Prop
 | .lst xs=>-xs<=sizeLine/\∃(ar:List ac)(n:Nat),ut xs ar/\h.get? a>{cls:=.type "list",data:=.seq ar.toArray n}
 | .tup xs=>-xs<=sizeLine/\∃ar:List ac,ut xs ar/\IsTup h a ar.toArray
 | .dK kvs=>-kvs<=sizeLine/\(a==sysModules)=false/\∃vs,KV kvs vs/\h.DictOf (cW P w) a vs
 | .dT kvs=>-kvs<=sizeLine/\(a==sysModules)=false/\∃xs:List (List Key×be×ac),
   Paired (λ(p:List Key×V) (q:List Key×be×ac)=>p.1=q.1/\H q.2.1>(.tup (p.1.map kV))/\sK p.2 q.2.2) kvs xs/\
   ∃o es ep,h.get? a>o/\o.ExactDict/\o.data=.dict es ep/\es.toList=xs.map (entryOfKey (tupleKind (cW P w)))/\(xs.map (·.1)).Nodup
 | .set S n=>h.SetOf (intKind P w) a S n
 | .ins C dx fs=>H dx>(.own a)/\-fs<=1000/\dx≠a/\h.get? a>PySem.W.instObj C dx/\
   ∃mA,h.Ns1 dx mA/\(∀f,lQ (fs.lookup f) (mA f))/\PySem.Within mA (fs.map (·.1))
 | .own _=>∃o,h.get? a>o
 | .xd fs=>∃mA,h.Ns1 a mA/\∀f,lQ (fs.lookup f) (mA f)
 | .yd lo hi=>∃t u v,h.get? a>{cls:=.type "range",data:=.fields ([.int lo t,.int hi u,.int 1 v].toArray)}
 | .cQ o u=>h.get? a>o/\br H h a u
 | .lU ps=>h.get? a>{cls:=.none,data:=.fields ps}
 | .met f x=>h.get? a>PySem.W.methodObj `C (.ref x)
 | .ext φ=>φ h/\(∃o,h.get? a>o)/\∀h1 h2:Heap,φ h1->(∀o,h1.get? a>o->h2.get? a>o)->φ h2
def iF(H:Hp)(h:Heap):Prop:=∀a o,H a>o->br P w H h a o
end
section
variable {H H':Hp}{h:Heap}{o:HO}
theorem br.lt(x:br P w H h a o):a<h.objs.size:=by
 cases o with
 |lst xs=>let#[_,_,_,_,e]:=x;exact G5 e
 |tup xs=>let#[_,_,_,p]:=x;exact p.lt
 |dK kvs=>let#[_,_,_,_,o,_,_,e,_]:=x;exact G5 e
 |dT kvs=>let#[_,_,_,_,o,_,_,e,_]:=x;exact G5 e
 |set S n=>let#[o,_,_,_,e,_]:=x;exact G5 e
 |ins C dx fs=>let#[_,_,_,e,_]:=x;exact G5 e
 |own y=>let#[_,e]:=x;exact G5 e
 |xd fs=>let#[_,#[_,_,_,e,_],_]:=x;exact G5 e
 |yd lo hi=>let#[_,_,_,e]:=x;exact G5 e
 |cQ ob u=>let#[e,_]:=x;exact G5 e
 |lU ps=>exact G5 (show h.get? a>_ from x)
 |met f y=>exact G5 (show h.get? a>_ from x)
 |ext φ=>let#[_,#[_,e],_]:=x;exact G5 e
theorem Paired.qM{β:Type}{F G:α->β->Prop}:∀{l₁:List α} {l₂:List β},Paired F l₁ l₂->(∀a b,F a b->G a b)->Paired G l₁ l₂
 |_,_,.nil,_=>.nil
 |_,_,.cons r t,f=>.cons (f _ _ r) (Paired.qM t f)
def br.lY(x:br P w H h a o)(k:∀b u,(b=a\/H b>(.own a))->h.get? b>u->h'.get? b>u)(ho:∀b,H b>(.own a)->H' b>(.own a))(ht:∀b xs,H b>(.tup xs)->H' b>(.tup xs)):br P w H' h' a o:=by
 induction o with
 |lst xs=>let#[z,ar,n,r,e]:=x;exact#[z,ar,n,r,k _ _ (.inl rfl) e]
 |tup xs=>let#[z,ar,r,ob,e,c]:=x;exact#[z,ar,r,ob,k _ _ (.inl rfl) e,c]
 |dK kvs=>let#[z,y,vs,r,ob,es,ep,e,c]:=x;exact#[z,y,vs,r,ob,es,ep,k _ _ (.inl rfl) e,c]
 |dT kvs=>let#[z,y,xs,r,ob,es,ep,e,c]:=x;exact#[z,y,xs,Paired.qM r λ p q z=>#[z.1,ht _ _ z.2.1,z.2.2],ob,es,ep,k _ _ (.inl rfl) e,c]
 |set S n=>let#[ob,es,ep,t,e,c]:=x;exact#[ob,es,ep,t,k _ _ (.inl rfl) e,c]
 |ins C dx fs=>let#[d,z,ne,e,mA,#[od,es,ep,e2,c],r]:=x;exact#[ho _ d,z,ne,k _ _ (.inl rfl) e,mA,#[od,es,ep,k _ _ (.inr d) e2,c],r]
 |own y=>let#[ob,e]:=x;exact#[ob,k _ _ (.inl rfl) e]
 |xd fs=>let#[mA,#[od,es,ep,e,c],r]:=x;exact#[mA,#[od,es,ep,k _ _ (.inl rfl) e,c],r]
 |yd lo hi=>let#[t,u,v,e]:=x;exact#[t,u,v,k _ _ (.inl rfl) e]
 |cQ ob u ih=>let#[e,q]:=x;exact#[k _ _ (.inl rfl) e,ih q]
 |lU ps=>have e:h.get? a>{cls:=.none,data:=.fields ps}:=x;show h'.get? a>{cls:=.none,data:=.fields ps};exact k a _ (.inl rfl) e
 |met f y=>have e:h.get? a>PySem.W.methodObj `C (.ref y):=x;show h'.get? a>PySem.W.methodObj `C (.ref y);exact k a _ (.inl rfl) e
 |ext φ=>let#[p,#[o,e],st]:=x;exact#[st _ _ p λ o q=>k _ _ (.inl rfl) q,#[o,k _ _ (.inl rfl) e],st]
theorem iF.lt(x:iF P w H h)(e:H a>o):a<h.objs.size:=(x a o e).lt
def iF.fresh(x:iF P w H h)(e:h.objs.size<=a):H a=none:=by
 cases q:H a with
 |none=>rfl
 |some u=>exact bi (p9 (x.lt q) e) (D8 _)
def iF.kept(x:iF P w H h)(k:∀b u,h.get? b>u->h'.get? b>u):iF P w H h':=λ a o e=>
 (x a o e).lY (λ b u _ q=>k b u q) (λ _ q=>q) λ _ _ q=>q
def iF.laid(x:iF P w H h)(k:∀b u,h.get? b>u->h'.get? b>u)(hp:h.objs.size<=a)(new:br P w (u8 H a o) h' a o):iF P w (u8 H a o) h':=λ b u e=>by
 have hn:=x.fresh hp;by_cases hb:b=a
 ·subst hb;rw[aH]at e;cases e;exact new
 ·rw[aJ hb]at e;exact(x b u e).lY (λ c v _ q=>k c v q) (λ c q=>aJ (bI q hn)>=q) λ c xs q=>aJ (bI q hn)>=q
end
def Rd(H:Hp)(a:be)(u:HO):Prop:=H a>u\/∃o,H a>(.cQ o u)
def Rd.ok{H:Hp}{h:Heap}{u:HO}(r:Rd H a u)(x:iF P w H h):br P w H h a u:=by
 rcases r with r|⟨o,r⟩
 ·exact x a u r
 ·let#[_,q]:=x a _ r;exact q
def V':Option HO->Prop
 |some (.lst _)=>True
 |some (.dK _)=>True
 |some (.dT _)=>True
 |some (.set _ _)=>True
 |some (.ins _ _ _)=>True
 |some (.ext _)=>True
 |_=>False
section
variable {H:Hp}{h:Heap}{x e:be}{o':HO}
def iF.write(ok:iF P w H h)(mu:V' (H x))(he:e=x\/H e>(.own x))(k:∀b u,b≠e->h.get? b>u->h'.get? b>u)(Tn:∃u,h'.get? e>u)(new:br P w (u8 H x o') h' x o'):iF P w (u8 H x o') h':=λ b u q=>by
 have U8:∀c y,H c>(.own y)->c≠x:=λ c y r z=>by subst z;rw[r]at mu;exact mu
 have Yh:∀c xs,H c>(.tup xs)->c≠x:=λ c xs r z=>by subst z;rw[r]at mu;exact mu
 by_cases hb:b=x
 ·subst hb;rw[aH]at q;cases q;exact new
 ·rw[aJ hb]at q;by_cases R5:b=e
  ·have q':H b>(.own x):=by
    rcases he with z|z
    ·exact bi (R5.trans z) hb
    ·rw[R5];exact z
   rw[q]at q';cases q';let#[v,hv]:=Tn;exact#[v,R5>=hv]
  ·refine(ok b u q).lY (λ c v hc r=>k c v ?_ r) (λ c r=>aJ (U8 c b r)>=r) λ c xs r=>aJ (Yh c xs r)>=r
   rcases hc with rfl|hc
   ·exact R5
   ·rintro rfl;rcases he with z|z
    ·exact U8 c b hc z
    ·rw[hc]at z;cases z;exact hb rfl
end
structure Un(fs ex:List be)(H H':Hp)(h h':Heap):Prop where
 keep:∀b o,h.get? b>o->H b=none->b∉fs->b∉ex->h'.get? b>o
 slot:∀b o,h.get? b>o->H b=none->b∈fs->b∉ex->∃sl,h'.get? b>{o with slots:=sl}
 free:∀b o,h.get? b>o->H b=none->b∉ex->H' b=none
 there:∀b o,h.get? b>o->b∉ex->∃o',h'.get? b>o'
 lX:∀b xs,H b>(.tup xs)->H' b>(.tup xs)
 mz:∀b o u,H b>(.cQ o u)->H' b>(.cQ o u)
 mV:∀b ps,H b>(.lU ps)->∃more,H' b>(.lU (ps++more))
section
variable {fs fs' ex ex':List be}{H H1 H2:Hp}{h h1 h2:Heap}{x e:be}{o:HO}
def Un.any(u:Un fs ex H H1 h h1){ob:Obj}(q:h.get? b>ob)(n:H b=none)(hx:b∉ex):∃sl,h1.get? b>{ob with slots:=sl}:=by
 by_cases hb:b∈fs
 ·exact u.slot b ob q n hb hx
 ·exact#[ob.slots,u.keep b ob q n hb hx]
def Un.kept(k:∀b u,h.get? b>u->h'.get? b>u):Un fs ex H H h h':=
 #[λ b ob q _ _ _=>k b ob q,λ b ob q _ _ _=>#[ob.slots,k b ob q],λ _ _ _ n _=>n,λ b ob q _=>#[ob,k b ob q],λ _ _ q=>q,λ _ _ _ q=>q,λ _ ps q=>#[([].toArray),by rw[q];simp]]
def Un.refl:Un fs ex H H h h:=Un.kept λ _ _ q=>q
def Un.laid(k:∀b u,h.get? b>u->h'.get? b>u)(hp:h.objs.size<=a)(hn:H a=none):Un fs ex H (u8 H a o) h h' where
 keep:=λ b u q _ _ _=>k b u q
 slot:=λ b u q _ _ _=>#[u.slots,k b u q]
 free:=λ b u q n _=>aJ (G4 (p9 (G5 q) hp))>=n
 there:=λ b u q _=>#[u,k b u q]
 lX:=λ b xs q=>aJ (bI q hn)>=q
 mz:=λ b u xs q=>aJ (bI q hn)>=q
 mV:=λ b ps q=>#[([].toArray),by rw[aJ (bI q hn),q];simp]
def Un.write(mu:V' (H x))(he:e=x\/H e>(.own x))(k:∀b u,b≠e->h.get? b>u->h'.get? b>u)(Tn:∃u,h'.get? e>u):Un fs ex H (u8 H x o) h h':=by
 have hx:∀b,H b=none->b≠x:=λ b n z=>by subst z;rw[n]at mu;exact mu
 have hb:∀b,H b=none->b≠e:=λ b n z=>by
  subst z;rcases he with r|r
  ·exact hx b n r
  ·rw[n]at r;cases r
 have hm:∀b u,H b>u->¬V' (some u)->b≠x:=λ b u q nm z=>by subst z;rw[q]at mu;exact nm mu
 refine⟨λ b u q n _ _=>k b u (hb b n) q,λ b u q n _ _=>#[u.slots,k b u (hb b n) q],λ b u q n _=>aJ (hx b n)>=n,λ b u q _=>?_,
  λ b xs q=>aJ (hm b _ q λ z=>z)>=q,λ b u xs q=>aJ (hm b _ q λ z=>z)>=q,λ b ps q=>#[([].toArray),by rw[aJ (hm b _ q λ z=>z),q];simp]⟩
 by_cases R5:b=e
 ·subst R5;exact Tn
 ·exact#[u,k b u R5 q]
end
def Wt(h:Heap)(H:Hp):List be:=(List.range h.objs.size).filter λ a=>(H a).isSome
def qQ(h:Heap)(H:Hp):Heap:=PySem.W.hideAll h (Wt h H)
def Ea(h:Heap)(H:Hp):(qQ h H).objs.size=h.objs.size:=PySem.W.hideAll_size _ _
def Ij{h:Heap}{H:Hp}(e:h.get? b>o)(n:H b=none):(qQ h H).get? b>o:=
 PySem.W.hideAll_get _ e λ hm=>by have q:(H b).isSome=true:=(mem_filter.mp hm).2;rw[n]at q;simp at q
def Ma{h:Heap}{H:Hp}(e:(qQ h H).get? b>o):h.get? b>o/\H b=none:=by
 have e':h.get? b>o:=PySem.W.of_hideAll (Wt h H) e;refine#[e',?_];cases q:H b with
 |none=>rfl
 |some x=>have hm:b∈Wt h H:=mem_filter.mpr #[ce.mpr (G5 e'),by simp[q]];have z:(qQ h H).get? b=none:=PySem.W.hideAll_none (Wt h H) hm;rw[z]at e;cases e
structure Mod(K:L8)(mg:Str->Option ac)(base:Heap):Prop where
 Vf:K.In base
 glob:base.Ns mainGlobals mg
 blt:∃mb,base.Ns builtinsNs mb/\∀x:Str,x≠"__name__"->mb x=bootBuiltins x
 nolimit:base.NoLimit
structure Cx where
 prog:Program
 w:World
 K:L8
 mg:Str->Option ac
 base:Heap
 A:Around
 N:List Str
 s₀:bd
 H₀:Hp
 env:Env
 outer:List Env
 stack:List Env
 ex:List be
 fn:Str->Bool
 calm:Bool
 pn:List (be×Obj)
 xe:ac->bd->Prop
abbrev kB(X:Cx)(e:Expr)(es:List Expr):Prop:=starEach (e::es) X.env=(false,eval e X.env)::starEach es X.env
abbrev uX(X:Cx)(p:Pos)(es:List Expr):Prop:=(backTo p (starEach es X.env)).any (·.1)=false
abbrev qF(x:Str):Prop:=(x==("__debug__":Str))=false
abbrev V_(x:Str):Prop:=(x==("__classdict__":Str))=false
abbrev JO(X:Cx)(x:Str):Prop:=X.fn x=true\/X.env.scope.names.lookup x>.local
abbrev OX(X:Cx)(iter:Expr):Prop:=∀x,foldedSetIterable iter X.env x=pure x
abbrev S4(X:Cx)(o:Expr)(n:Str):Prop:=attributeBase o n X.env (eval o X.env)=eval o X.env
abbrev SU(a b:Pos):Prop:=(a.endLine==b.line)=true
abbrev e_(X:Cx):Prop:=X.A.units+64<cLine
abbrev Wh(X:Cx)(p:Pos)(e:Expr)(es:List Expr):Prop:=((backTo p (starEach (e::es) X.env)).all (λ x=>!x.1)&&(backToKw p (keywordEach [] X.env)).all (λ x=>x.1.isSome)&&decide ((e::es).length+([]:List Keyword).length+(if([]:List Keyword).isEmpty then 0 else 1)<30))=true
abbrev Wa(id:String):Prop:=typeOf (.builtin id)=pure (.type "method_descriptor")
abbrev IsT(X:Cx)(e:Expr):Prop:=∀whole,isTrue e X.env whole=(do let v <- whole;standAt e.pos;holding [v] (truthy v))
abbrev Xk(X:Cx):Prop:=PassesOwn `f X.A X.env X.xe
def vd(l:List Env):List be:=l.filterMap (·.frame)
abbrev Cx.fs(X:Cx):List be:=vd X.outer
def SJ(sc:Scope)(x:Str):Prop:=sc.names.lookup x>.local\/sc.names.lookup x>.cell\/sc.names.lookup x>.free
def Loc(sc:Scope)(x:Str):Prop:=sc.names.lookup x>.local\/sc.names.lookup x>.cell
def Look(env:Env)(h:Heap)(m:Str->Option ac)(x:Str)(u:ac):Prop:=
 (env.kindOf x>.local/\m x>u)\/((env.kindOf x>.cell\/env.kindOf x>.free)/\∃c,env.cells.lookup x>c/\h.IsCell c (some u))
structure Cx.Ok(X:Cx):Prop where
 mod:Mod X.K X.mg X.base
 kind:X.env.scope.kind=.function
 glob:X.env.globals=mainGlobals
 blt:X.env.builtins=builtinsNs
 above:X.s₀.heap.objs.size<=X.env.locals
 inj:∀x y c,X.env.cells.lookup x>c->X.env.cells.lookup y>c->x=y
 has:∀x,(X.env.kindOf x>.cell\/X.env.kindOf x>.free)->∃c,X.env.cells.lookup x>c
 Tv:∀x c,X.fn x=true->X.env.cells.lookup x>c->X.s₀.heap.objs.size<=c
 hd:X.calm=true->X.A.handled=none
 frames:X.A.frames>X.stack
 Wx:X.stack=X.outer\/(X.stack=X.env::X.outer/\X.env.frame>X.env.locals)
 exf:∀b∈X.ex,b≠X.env.locals/\∀x c,X.env.cells.lookup x>c->c≠b
 bs:∀b o,X.base.get? b>o->X.s₀.heap.get? b>o/\X.H₀ b=none
 Cm:X.base.objs.size<=X.s₀.heap.objs.size
 DG:∀b o,X.base.get? b>o->b∉X.ex
 Nd:∀b∈X.ex,b∉X.fs
 jS:X.s₀.heap.FunFrames X.base X.outer
 JI:∀b∈X.fs,X.H₀ b=none
structure nn(X:Cx)(im:List (be×Obj))(σ:List (Option V))(H:Hp)(s:bd):Prop where
 ok:X.Ok
 os:s.os=X.s₀.os
 bare:AllBare s.gens
 base:Un X.fs X.ex X.H₀ H X.s₀.heap s.heap
 loc:∃m,s.heap.Ns X.env.locals m/\∀(i:Nat)(x:Str)(v:V),X.N[i]?>x->σ[i]?>(some v)->SJ X.env.scope x->∃u,sK v u/\Look X.env s.heap m x u
 cell:∀x c,X.env.cells.lookup x>c->∃v,s.heap.IsCell c v
 free:H X.env.locals=none
 fV:∀x c,X.env.cells.lookup x>c->H c=none
 pin:∀p∈X.pn++im,s.heap.get? p.1>p.2/\H p.1=none/\p.1≠X.env.locals/\p.1∉X.fs/\∀v,p.2.data≠.cell v
 aX:iF X.prog X.w H s.heap
 len:-σ=-X.N
section
variable {X:Cx}{σ:List (Option V)}{H H':Hp}
def Cx.Ok.Yk(ok:X.Ok)(e:X.base.get? b>o):b∉X.fs:=λ hb=>by have:=(ok.jS.mem hb).1;rw[e]at this;cases this
theorem nn.bs(I:nn X im σ H s):∀b o,X.base.get? b>o->s.heap.get? b>o/\H b=none:=λ b o e=>
 #[I.base.keep b o (I.ok.bs b o e).1 (I.ok.bs b o e).2 (I.ok.Yk e) (I.ok.DG b o e),I.base.free b o (I.ok.bs b o e).1 (I.ok.bs b o e).2 (I.ok.DG b o e)]
def nn.bk(I:nn X im σ H s):∀b o,X.base.get? b>o->s.heap.get? b>o:=λ b o e=>(I.bs b o e).1
theorem nn.mod(I:nn X im σ H s):Mod X.K X.mg X.base:=I.ok.mod
def nn.qN(I:nn X im σ H s):X.K.In s.heap:=I.ok.mod.Vf.keeps I.bk
theorem nn.lt(I:nn X im σ H s):X.env.locals<s⁻¹:=let⟨_,hn,_⟩:=I.loc;hn.lt
def nn.sz(I:nn X im σ H s):X.s₀.heap.objs.size<=s⁻¹:=G9 I.ok.above (J6 I.lt)
def nn.Yj(I:nn X im σ H s)(h:s⁻¹<=a):a∉X.fs:=λ hb=>by let#[_,o,ho,_]:=I.ok.jS.mem hb;exact bi (p9 (G5 ho) (G9 I.sz h)) (D8 _)
def nn.OT(I:nn X im σ H s):∀x c,X.env.cells.lookup x>c->c≠X.env.locals:=λ x c e z=>by let#[v,o,ho,hd]:=I.cell x c e;let#[m,#[o',es,ep,uk,lV,_],_]:=I.loc;rw[z,uk]at ho;cases ho;rw[lV]at hd;cases hd
theorem nn.jS(I:nn X im σ H s):s.heap.FunFrames X.base X.outer:=by
 have all:∀(l:List Env),(∀b∈vd l,b∈X.fs)->X.s₀.heap.FunFrames X.base l->s.heap.FunFrames X.base l:=by
  intro l
  induction l with
  |nil=>intro _ _;trivial
  |cons env r ih=>intro hs hl;let#[hk,#[L,o,hf,hn,ho,hd],hr]:=hl;have hL:L∈X.fs:=hs L (by unfold vd;rw[o6,hf];exact o7);let#[sl,e]:=I.base.slot L o ho (I.ok.JI L hL) hL λ z=>I.ok.Nd L z hL;exact#[hk,#[L,_,hf,hn,e,hd],ih (λ b hb=>hs b (by unfold vd;rw[o6,hf];exact k8 _ hb)) hr]
 exact all X.outer (λ _ hb=>hb) I.ok.jS
theorem nn.stack(I:nn X im σ H s):s.heap.FunFrames X.base X.stack:=by
 rcases I.ok.Wx with e|⟨e,hf⟩
 ·rw[e];exact I.jS
 ·rw[e];let#[m,hn,_]:=I.loc;refine .cons (by rw[I.ok.kind];decide) hf hn ?_ I.jS;exact Heap.get?_none_of_le (G9 I.ok.Cm I.ok.above)
def nn.oU(I:nn X im σ H s):∀b∈vd X.stack,b∈X.env.locals::X.fs:=λ b hb=>by
 rcases I.ok.Wx with e|⟨e,hf⟩
 ·rw[e]at hb;exact k8 _ hb
 ·rw[e]at hb;unfold vd at hb;rw[o6,hf]at hb;exact hb
def nn.sW(I:nn X im σ H s):∀b∈vd X.stack,H b=none:=λ b hb=>by
 rcases E8.mp (I.oU b hb)with e|hb
 ·rw[e];exact I.free
 ·let#[_,o,ho,_]:=I.ok.jS.mem hb;exact I.base.free b o ho (I.ok.JI b hb) λ z=>I.ok.Nd b z hb
def nn.step{g':Array GenState}{d':Drawn}(I:nn X im σ H s)(JG:∀b∈ch,(b∈X.ex\/X.s₀.heap.objs.size<=b)/\b≠X.env.locals/\(∀x c,X.env.cells.lookup x>c->c≠b)/\∀p∈X.pn++im,p.1≠b)(keep:∀b o,b≠X.env.locals->b∉X.fs->b∉ch->s.heap.get? b>o->H b=none->h'.get? b>o)(slot:∀b o,b≠X.env.locals->b∈X.fs->b∉ch->s.heap.get? b>o->H b=none->∃sl,h'.get? b>{o with slots:=sl})(free:∀b o,b∉ch->s.heap.get? b>o->H b=none->H' b=none)(there:∀b o,b∉ch->s.heap.get? b>o->∃o',h'.get? b>o')(lX:∀b xs,H b>(.tup xs)->H' b>(.tup xs))(mz:∀b o u,H b>(.cQ o u)->H' b>(.cQ o u))(mV:∀b ps,H b>(.lU ps)->∃more,H' b>(.lU (ps++more)))(ns:∀m,s.heap.Ns X.env.locals m->h'.Ns X.env.locals m)(aX:iF X.prog X.w H' h')(hg:AllBare g'):nn X im σ H' {s with heap:=h',gens:=g',drawn:=d',toks:=t'}:=by
 have neL:∀b o,X.s₀.heap.get? b>o->b≠X.env.locals:=λ b o e=>G4 (p9 (G5 e) I.ok.above);have WJ:∀b o,X.s₀.heap.get? b>o->b∉X.ex->b∉ch:=λ b o e hx hb=>by
  rcases(JG b hb).1 with z|z
  ·exact hx z
  ·exact bi (p9 (G5 e) z) (D8 _)
 have cellK:∀x c,X.env.cells.lookup x>c->∀v,s.heap.IsCell c v->h'.IsCell c v:=λ x c e v ⟨o,ho,hd⟩=>by
  have U_:c∉ch:=λ z=>(JG c z).2.2.1 x c e rfl;by_cases hc:c∈X.fs
  ·let#[sl,q]:=slot c o (I.OT x c e) hc U_ ho (I.fV x c e);exact#[_,q,hd]
  ·exact#[o,keep c o (I.OT x c e) hc U_ ho (I.fV x c e),hd]
 refine#[I.ok,I.os,hg,#[λ b o e n hb hx=>?_,λ b o e n hb hx=>?_,λ b o e n hx=>?_,λ b o e hx=>?_,λ b xs e=>lX b xs (I.base.lX b xs e),λ b o xs e=>mz b o xs (I.base.mz b o xs e),λ b ps e=>?_],?_,λ x c e=>?_,?_,λ x c e=>?_,λ p hp=>?_,aX,I.len]
 ·exact keep b o (neL b o e) hb (WJ b o e hx) (I.base.keep b o e n hb hx) (I.base.free b o e n hx)
 ·let#[sl,e1]:=I.base.slot b o e n hb hx;let#[Kk,e2]:=slot b _ (neL b o e) hb (WJ b o e hx) e1 (I.base.free b o e n hx);exact#[Kk,e2]
 ·let#[o',e1]:=I.base.there b o e hx;exact free b o' (WJ b o e hx) e1 (I.base.free b o e n hx)
 ·let#[o',e1]:=I.base.there b o e hx;exact there b o' (WJ b o e hx) e1
 ·let#[m1,e1]:=I.base.mV b ps e;let#[m2,e2]:=mV b _ e1;exact#[m1++m2,by rw[e2,Array.append_assoc]]
 ·let#[m,hn,hl]:=I.loc;refine#[m,ns m hn,λ i x v e1 e2 e3=>?_];let#[u,r,l]:=hl i x v e1 e2 e3;refine#[u,r,?_];rcases l with l|⟨k,c,e,z⟩
  ·exact .inl l
  ·exact .inr #[k,c,e,cellK x c e _ z]
 ·let#[v,z]:=I.cell x c e;exact#[v,cellK x c e v z]
 ·let#[m,#[o,_,_,ho,_],_]:=I.loc;exact free _ o (λ z=>(JG _ z).2.1 rfl) ho I.free
 ·let#[v,o,ho,hd]:=I.cell x c e;exact free c o (λ z=>(JG c z).2.2.1 x c e rfl) ho (I.fV x c e)
 ·let#[e,n,ne,nf,d]:=I.pin p hp;have U_:p.1∉ch:=λ z=>(JG p.1 z).2.2.2 p hp rfl;exact#[keep p.1 p.2 ne nf U_ e n,free p.1 p.2 U_ e n,ne,nf,d]
def nn.un(I:nn X im σ H s)(u:Un X.fs [] H H' s.heap h')(aX:iF X.prog X.w H' h'):nn X im σ H' {s with heap:=h',toks:=t'}:=by
 let#[m,#[o,es,ep,ho,r],_]:=id I.loc;let#[sl,hL]:=u.any ho I.free `g;exact I.step (g':=s.gens) (d':=s.drawn) (ch:=[]) (λ _ z=>nomatch z) (λ b o _ hb _ e n=>u.keep b o e n hb `g) (λ b o _ hb _ e n=>u.slot b o e n hb `g) (λ b o _ e n=>u.free b o e n `g) (λ b o _ e=>u.there b o e `g) u.lX u.mz u.mV (λ m' hm=>by
  let#[o',es',ZL,uk,r']:=hm;rw[ho]at uk;cases uk;exact#[_,es',ZL,hL,r']) aX I.bare
def nn.call{g':Array GenState}{d':Drawn}(I:nn X im σ H s)(u:Un (vd X.stack) ch H H' s.heap h')(aX:iF X.prog X.w H' h')(hg:AllBare g')(JG:∀b∈ch,(b∈X.ex\/X.s₀.heap.objs.size<=b)/\b≠X.env.locals/\(∀x c,X.env.cells.lookup x>c->c≠b)/\∀p∈X.pn++im,p.1≠b):nn X im σ H' {s with heap:=h',gens:=g',drawn:=d',toks:=t'}:=by
 let#[m,#[o,es,ep,ho,r],_]:=id I.loc;let#[sl,hL]:=u.any ho I.free λ z=>(JG _ z).2.1 rfl;exact I.step (ch:=ch) JG (λ b o hL hb hc e n=>u.keep b o e n (λ z=>(E8.mp (I.oU b z)).elim hL hb) hc) (λ b o _ _ hc e n=>u.any e n hc) (λ b o hc e n=>u.free b o e n hc) (λ b o hc e=>u.there b o e hc) u.lX u.mz u.mV (λ m' hm=>by
  let#[o',es',ZL,uk,r']:=hm;rw[ho]at uk;cases uk;exact#[_,es',ZL,hL,r']) aX hg
def nn.turned{it:be}(I:nn X im σ H s)(k:∀b o,b≠it->s.heap.get? b>o->h'.get? b>o)(hn:H it=none)(hL:it≠X.env.locals)(h1:it∈X.ex\/X.s₀.heap.objs.size<=it)(h2:∀x c,X.env.cells.lookup x>c->c≠it)(h3:∀p∈X.pn++im,p.1≠it):nn X im σ H {s with heap:=h',toks:=t'}:=by
 have U9:∀b u,H b>u->b≠it:=λ b u e z=>by rw[z,hn]at e;cases e
 refine I.step (g':=s.gens) (d':=s.drawn) (ch:=[it]) (λ b hb=>?_) (λ b o _ _ hc e _=>k b o (λ z=>hc (by simp[z])) e) (λ b o _ _ hc e _=>#[o.slots,k b o (λ z=>hc (by simp[z])) e]) (λ _ _ _ _ n=>n)
  (λ b o hc e=>#[o,k b o (λ z=>hc (by simp[z])) e]) (λ _ _ e=>e) (λ _ _ _ e=>e) (λ b ps e=>#[([].toArray),by rw[e];simp]) (λ m hm=>?_) (λ b u e=>?_) I.bare
 ·have e:b=it:= ~~~hb
  subst e;exact#[h1,hL,h2,h3]
 ·let#[o,es,ep,ho,r]:=hm;exact#[o,es,ep,k _ o (K9 hL) ho,r]
 ·refine(I.aX b u e).lY (λ c v hc q=>k c v ?_ q) (λ _ q=>q) λ _ _ q=>q;rcases hc with z|z
  ·rw[z];exact U9 b u e
  ·exact U9 c _ z
def nn.tok(I:nn X im σ H s)(t:Nat):nn X im σ H {s with toks:=t}:=I.un (h':=s.heap) (t':=t) Un.refl I.aX
theorem nn.kept(I:nn X im σ H s)(k:∀b u,s.heap.get? b>u->h'.get? b>u):nn X im σ H {s with heap:=h',toks:=t'}:=I.un (Un.kept k) (I.aX.kept k)
theorem nn.laid{o:HO}(I:nn X im σ H s)(k:∀b u,s.heap.get? b>u->h'.get? b>u)(hp:s⁻¹<=a)(new:br X.prog X.w (u8 H a o) h' a o):nn X im σ (u8 H a o) {s with heap:=h',toks:=t'}:=I.un (Un.laid k hp (I.aX.fresh hp)) (I.aX.laid k hp new)
theorem nn.write{x e:be}{o:HO}(I:nn X im σ H s)(mu:V' (H x))(he:e=x\/H e>(.own x))(k:∀b u,b≠e->s.heap.get? b>u->h'.get? b>u)(Tn:∃u,h'.get? e>u)(new:br X.prog X.w (u8 H x o) h' x o):nn X im σ (u8 H x o) {s with heap:=h',toks:=t'}:=I.un (Un.write mu he k Tn) (I.aX.write mu he k Tn new)
def nn.weak{σ':List (Option V)}(I:nn X im σ H s)(hl:-σ'=-σ)(w:∀(i:Nat) v,σ'[i]?>(some v)->σ[i]?>(some v)):nn X im σ' H s:=
 #[I.ok,I.os,I.bare,I.base,let⟨m,hn,lG⟩:=I.loc;#[m,hn,λ i x v e1 e2 e3=>lG i x v e1 (w i v e2) e3],I.cell,I.free,I.fV,I.pin,I.aX,hl.trans I.len]
def nn.eR{pins':List (be×Obj)}(I:nn X im σ H s)(h:∀p∈pins',s.heap.get? p.1>p.2/\H p.1=none/\p.1≠X.env.locals/\p.1∉X.fs/\∀v,p.2.data≠.cell v):nn X pins' σ H s:=
 #[I.ok,I.os,I.bare,I.base,I.loc,I.cell,I.free,I.fV,λ p hp=>(C3.mp hp).elim (λ z=>I.pin p (l0 _ z)) (h p),I.aX,I.len]
def i_{N:List Str}(hN:N.Nodup)(a:N[i]?>x)(b:N[j]?>x):i=j:=by let#[h1,e1]:=g9.mp a;let#[h2,e2]:=g9.mp b;exact(getElem_inj hN).mp (e1.trans e2.symm)
def rJ{M:Model}{v:V}{Q:Unit->bd->Prop}(I:nn X im σ H s)(hN:X.N.Nodup)(hi:X.N[i]?>x)(hx:Loc X.env.scope x)(r:sK v u)(h:∀s',nn X im (σ.set i (some v)) H s'->(∃a,Heap.SameBut a s.heap s'.heap/\(a=X.env.locals\/X.env.cells.lookup x>a))->Q .unit s')(hf:JO X x:=by ac_rfl):wpAny M A (storeName X.env x u) Q E s:=by
 let#[m,hn,hl]:=id I.loc;have Zp:(X.env.scope.kind==.class||(X.env.scope.kind==.module&&X.env.locals != X.env.globals))=false:=by rw[I.ok.kind];rfl
 have hiσ:i < -σ:=by rw[I.len];exact(g9.mp hi).1
 have OT:=I.OT;have tracked:∀{a:be} {h':Heap},(∃o,s.heap.get? a>o/\H a=none)->Heap.SameBut a s.heap h'->iF X.prog X.w H h':=λ{a h'} ha hs b ob e=>by
  let#[_,_,OG]:=ha;refine(I.aX b ob e).lY (λ c w' hc q=>(hs.2 c ?_).trans q) (λ _ q=>q) λ _ _ q=>q;rintro rfl;rcases hc with rfl|hc
  ·rw[OG]at e;cases e
  ·rw[OG]at hc;cases hc
 rcases hx with hk|hk
 ·refine wpAny_storeName_local hk hn (λ h' hn' hs=>?_) Zp;let#[oL,_,_,MP,_]:=id hn;refine h _ #[I.ok,I.os,I.bare,#[λ b o e n hb hx=>?_,λ b o e n hb hx=>?_,I.base.free,λ b o e hx=>?_,I.base.lX,I.base.mz,I.base.mV],#[_,hn',λ j y v' e1 e2 e3=>?_],λ y c e=>?_,I.free,I.fV,λ p hp=>?_,tracked #[oL,MP,I.free] hs,~~~I.len] #[_,hs,.inl rfl]
  ·exact(hs.2 b (G4 (p9 (G5 e) I.ok.above))).trans (I.base.keep b o e n hb hx)
  ·let#[sl,e1]:=I.base.slot b o e n hb hx;exact#[sl,(hs.2 b (G4 (p9 (G5 e) I.ok.above))).trans e1]
  ·let#[o',e1]:=I.base.there b o e hx;exact#[o',(hs.2 b (G4 (p9 (G5 e) I.ok.above))).trans e1]
  ·by_cases hj:j=i
   ·subst hj;rw[hi]at e1;cases e1;rw[j6 hiσ]at e2;cases e2;exact#[u,r,.inl #[hk,by simp]]
   ·rw[l7 (K9 hj)]at e2;let#[u',r',q]:=hl j y v' e1 e2 e3;refine#[u',r',?_];rcases q with⟨k,e⟩|⟨k,c,e,z⟩
    ·refine .inl #[k,?_];have:y≠x:=λ e=>hj (i_ hN e1 (e▸hi));simp[this,e]
    ·exact .inr #[k,c,e,z.sameBut hs (OT y c e)]
  ·let#[w',z]:=I.cell y c e;exact#[w',z.sameBut hs (OT y c e)]
  ·let#[e,n,ne,nf,d]:=I.pin p hp;exact#[(hs.2 p.1 ne).trans e,n,ne,nf,d]
 ·have JF:X.fn x=true:=by
   rcases hf with z|z
   ·exact z
   ·rw[z]at hk;cases hk
  let#[c,hc]:=I.ok.has x (.inl hk);let#[w',z]:=I.cell x c hc;refine wpAny_storeName_cell I.ok.kind hk hc z (λ h' Il hs=>?_);let#[oc,hoc,Y3]:=id z;refine h {s with heap:=h'} #[I.ok,I.os,I.bare,#[λ b o e n hb hx=>?_,λ b o e n hb hx=>?_,I.base.free,λ b o e hx=>?_,I.base.lX,I.base.mz,I.base.mV],#[m,hn.sameBut hs (K9 (OT x c hc)),λ j y v' e1 e2 e3=>?_],λ y c' e=>?_,I.free,I.fV,λ p hp=>?_,tracked #[oc,hoc,I.fV x c hc] hs,~~~I.len] #[c,hs,.inr hc]
  ·exact(hs.2 b (G4 (p9 (G5 e) (I.ok.Tv x c JF hc)))).trans (I.base.keep b o e n hb hx)
  ·let#[sl,e1]:=I.base.slot b o e n hb hx;exact#[sl,(hs.2 b (G4 (p9 (G5 e) (I.ok.Tv x c JF hc)))).trans e1]
  ·let#[o',e1]:=I.base.there b o e hx;exact#[o',(hs.2 b (G4 (p9 (G5 e) (I.ok.Tv x c JF hc)))).trans e1]
  ·by_cases hj:j=i
   ·subst hj;rw[hi]at e1;cases e1;rw[j6 hiσ]at e2;cases e2;exact#[u,r,.inr #[.inl hk,c,hc,Il]]
   ·rw[l7 (K9 hj)]at e2;let#[u',r',q]:=hl j y v' e1 e2 e3;refine#[u',r',?_];rcases q with q|⟨k,c',e,z'⟩
    ·exact .inl q
    ·refine .inr #[k,c',e,z'.sameBut hs ?_];rintro rfl;exact hj (i_ hN e1 (I.ok.inj _ _ _ e hc▸hi))
  ·by_cases OI:c'=c
   ·subst OI;exact#[_,Il]
   ·let#[w2,z2]:=I.cell y c' e;exact#[w2,z2.sameBut hs OI]
  ·let#[e,n,ne,nf,d]:=I.pin p hp;refine#[(hs.2 p.1 ?_).trans e,n,ne,nf,d];intro q;rw[q,hoc]at e;have q':oc=p.2:=B7 e;exact d w' (by rw[<- q'];exact Y3)
def oT{M:Model}{v:V}{Q:Unit->bd->Prop}(I:nn X im σ H s)(hN:X.N.Nodup)(hi:X.N[i]?>x)(hx:Loc X.env.scope x)(r:sK v u)(h:∀s',nn X im (σ.set i (some v)) H s'->Q .unit s')(hf:JO X x:=by ac_rfl):wpAny M A (storeName X.env x u) Q E s:=
 rJ I hN hi hx r (λ s' I' _=>h s' I') hf
def nn.V6(I:nn X im σ H s)(ho:s'.os=s.os)(u:Un (vd X.stack) ch H H' s.heap s'.heap)(aX:iF X.prog X.w H' s'.heap)(hg:AllBare s'.gens)(JG:∀b∈ch,(b∈X.ex\/X.s₀.heap.objs.size<=b)/\b≠X.env.locals/\(∀x c,X.env.cells.lookup x>c->c≠b)/\∀p∈X.pn++im,p.1≠b):nn X im σ H' s':=by let#[h',g',d',t',o']:=s';have e:o'=s.os:=ho;subst e;exact I.call (g':=g') (t':=t') (d':=d') u aX hg JG
end
abbrev XK:=ac->Option be->Hp->Prop
abbrev St:=List (Option V)
abbrev VK:=V->Hp->Prop
abbrev TE:=St->Hp->VK->Prop
abbrev TT:=St->Hp->(Bool->Hp->Prop)->Prop
abbrev TA:=St->Hp->(List V->Hp->Prop)->Prop
structure Ends where
 nx:St->Hp->Prop
 rt:VK
 bk:St->Hp->Prop:=λ _ _=>False
 ct:St->Hp->Prop:=λ _ _=>False
abbrev TS:=Ends->St->Hp->Prop
def EP(X:Cx)(im:List (be×Obj))(σ:St)(Q:VK)(u:ac)(s':bd):Prop:=∃v H',nn X im σ H' s'/\sK v u/\Q v H'
def TP(X:Cx)(im:List (be×Obj))(σ:St)(Q:Bool->Hp->Prop)(b:Bool)(s':bd):Prop:=∃H',nn X im σ H' s'/\Q b H'
def AP(X:Cx)(im:List (be×Obj))(σ:St)(Q:List V->Hp->Prop)(us:List ac)(s':bd):Prop:=∃vs H',nn X im σ H' s'/\ut vs us/\Q vs H'
def SP(X:Cx)(im:List (be×Obj))(D:Ends)(f:Flow)(s':bd):Prop:=
 match f with
 | .next=>∃σ' H',nn X im σ' H' s'/\D.nx σ' H'
 | .brk=>∃σ' H',nn X im σ' H' s'/\D.bk σ' H'
 | .cont=>∃σ' H',nn X im σ' H' s'/\D.ct σ' H'
 | .ret u=>∃v σ' H',nn X im σ' H' s'/\sK v u/\D.rt v H'
def PE(X:Cx)(e:Expr)(t:TE):Prop:=
 ∀(im:List (be×Obj))(s:bd)(σ:St)(H:Hp)(Q:VK),nn X im σ H s->t σ H Q->wpAny `f X.A (eval e X.env) (EP X im σ Q) X.xe s
def PT(X:Cx)(e:Expr)(t:TT):Prop:=
 ∀(im:List (be×Obj))(s:bd)(σ:St)(H:Hp)(Q:Bool->Hp->Prop),nn X im σ H s->t σ H Q->wpAny `f X.A (isTrue e X.env (eval e X.env)) (TP X im σ Q) X.xe s
def PW(X:Cx)(e:Expr)(t:TT):Prop:=
 ∀(whole:Sem ac)(im:List (be×Obj))(s:bd)(σ:St)(H:Hp)(Q:Bool->Hp->Prop),nn X im σ H s->t σ H Q->wpAny `f X.A (isTrue e X.env whole) (TP X im σ Q) X.xe s
def PW.pt{X:Cx}{t:TT}(h:PW X e t):PT X e t:=h _
def PA(X:Cx)(es:List Expr)(t:TA):Prop:=
 ∀(pos:Pos)(im:List (be×Obj))(s:bd)(σ:St)(H:Hp)(Q:List V->Hp->Prop),nn X im σ H s->t σ H Q->wpAny `f X.A (spliced (backTo pos (starEach es X.env))) (AP X im σ Q) X.xe s
def PS(X:Cx)(st:Stmt)(t:TS):Prop:=
 ∀(im:List (be×Obj))(s:bd)(σ:St)(H:Hp)(D:Ends),nn X im σ H s->t D σ H->wpAny `f X.A (exec st X.env) (SP X im D) X.xe s
def xw(X:Cx)(st:List Stmt)(t:TS):Prop:=
 ∀(im:List (be×Obj))(s:bd)(σ:St)(H:Hp)(D:Ends),nn X im σ H s->t D σ H->wpAny `f X.A (execs st X.env) (SP X im D) X.xe s
def cZ{t:Sem α}{Q Q':α->bd->Prop}{M:Model}(h:wpAny M A t Q E s)(hQ:∀a s,Q a s->Q' a s):wpAny M A t Q' E s:=K6 h hQ λ _ _ x=>x
section
variable {X:Cx}
def XA(i:Nat):TE:=λ σ H Q=>∃v,σ[i]?>(some v)/\Q v H
def tC(v:V):TE:=λ _ H Q=>Q v H
def GJ{pos:Pos}(hN:X.N[i]?>x)(hv:SJ X.env.scope x)(hd:qF x:=by decide)(qD:V_ x:=by decide):PE X (.Name x pos) (XA i):=by
 intro im s σ H Q I h;let#[v,e,h]:=h;let#[m,hn,hl]:=I.loc;let#[u,r,l]:=hl i x v hN e hv;have fin:EP X im σ Q u s:=#[v,H,I,r,h];rcases l with⟨hk,hm⟩|⟨hk,c,hc,BE⟩
 ·exact wpAny_Name (wpAny_loadName_local I.ok.kind hk hn hm fin) hd
 ·rcases hk with hk|hk
  ·exact wpAny_Name (wpAny_loadName_cell I.ok.kind hk hc BE fin) hd
  ·exact wpAny_Name (wpAny_loadName_free I.ok.kind hk hc BE fin qD) hd
def Qy{i j pos:_}:PE X (.Constant (.int i) j pos) (tC (.int i)):=λ _ _ _ H _ I h=>wpAny_Constant_int #[.int i,H,I.tok _,#[_,rfl],h]
def UR{b j pos:_}:PE X (.Constant (.bool b) j pos) (tC (.bl b)):=λ _ _ _ H _ I h=>Constant_bool #[.bl b,H,I,rfl,h]
def Qw{j pos:_}:PE X (.Constant .none j pos) (tC .bf):=λ _ _ _ H _ I h=>Constant_none #[.bf,H,I,rfl,h]
def Qu{x j pos:_}:PE X (.Constant (.str x) j pos) (tC (.str x)):=λ _ _ _ H _ I h=>Calls.Constant_str #[.str x,H,I.tok _,#[_,rfl],h]
def Gl(X:Cx)(x:Str):Prop:=X.env.kindOf x>.globalImplicit
def Be{σ:St}{H:Hp}{pos:Pos}(I:nn X im σ H s)(hg:Gl X x)(hm:X.mg x>u)(h:Q u s)(hd:qF x:=by decide):wpAny `f X.A (eval (.Name x pos) X.env) Q E s:=
 Calls.Name_function_global I.ok.kind hg (Calls.loadGlobal_global (I.ok.glob>=I.mod.glob.keeps I.bk) hm h) hd
def fB{σ:St}{H:Hp}{pos:Pos}(I:nn X im σ H s)(hg:Gl X x)(hm:X.mg x=none)(hv:bootBuiltins x>u)(h:Q u s)(hn:x≠"__name__":=by decide)(hd:qF x:=by decide):wpAny `f X.A (eval (.Name x pos) X.env) Q E s:=by let#[mb,h1,h2]:=I.mod.blt;exact Calls.Name_function_global I.ok.kind hg (Calls.loadGlobal_builtin (I.ok.glob>=I.mod.glob.keeps I.bk) hm (I.ok.blt>=h1.keeps I.bk) ((h2 x hn).trans hv) h) hd
def LF{v:V}{pos:Pos}(hg:Gl X x)(hm:X.mg x=none)(hv:bootBuiltins x>u)(r:sK v u)(hn:x≠"__name__":=by decide)(hd:qF x:=by decide):PE X (.Name x pos) (tC v):=
 λ _ _ _ H _ I h=>fB I hg hm hv #[v,H,I,r,h] hn hd
variable {a b:Expr}{ta tb:TE}{pos:Pos}
def tB(t:TE):TT:=λ σ H Q=>t σ H λ x H1=>∃c,x=.bl c/\Q c H1
def Qi{t:TE}(h:PE X e t)(he:IsT X e:=by intro _;rfl):PT X e (tB t):=by intro im s σ H Q I hw;refine isTrue_plain (cZ (h im s σ H _ I hw) λ v s1 ⟨x,H1,I1,r1,q1⟩=>?_) (he _);let#[d,rfl,q]:=q1;cases r1;exact wpAny_truthy_bool #[H1,I1,q]
variable {tA Wv:TT}
def XO(t u:TT):TT:=λ σ H Q=>t σ H λ c H1=>if c=true then u σ H1 Q else Q false H1
def tOr(t u:TT):TT:=λ σ H Q=>t σ H λ c H1=>if c=true then Q true H1 else u σ H1 Q
def Li(ha:PT X a tA):PW X (.BoolOp .And [a] pos) tA:=by
 intro wh im s σ H Q I h;refine isTrue_and (cZ (ha im s σ H Q I h) λ c s1 e=>?_);cases c with
 |true=>exact isTrue_and_nil e
 |false=>exact e
def Qf(ha:PT X a tA):PW X (.BoolOp .Or [a] pos) tA:=by
 intro wh im s σ H Q I h;refine isTrue_or (cZ (ha im s σ H Q I h) λ c s1 e=>?_);cases c with
 |false=>exact isTrue_or_nil e
 |true=>exact e
def Qh(ha:PT X a tA)(hb:PW X (.BoolOp .And (b::rest) pos) Wv):PW X (.BoolOp .And (a::b::rest) pos) (XO tA Wv):=by
 intro wh im s σ H Q I h;refine isTrue_and (cZ (ha im s σ H _ I h) λ c s1 ⟨H1,I1,q1⟩=>?_);cases c with
 |true=>exact hb wh im s1 σ H1 Q I1 q1
 |false=>exact#[H1,I1,q1]
def UJ(ha:PT X a tA)(hb:PW X (.BoolOp .Or (b::rest) pos) Wv):PW X (.BoolOp .Or (a::b::rest) pos) (tOr tA Wv):=by
 intro wh im s σ H Q I h;refine isTrue_or (cZ (ha im s σ H _ I h) λ c s1 ⟨H1,I1,q1⟩=>?_);cases c with
 |true=>exact#[H1,I1,q1]
 |false=>exact hb wh im s1 σ H1 Q I1 q1
def T6(ta tb:TE):TE:=λ σ H Q=>ta σ H λ x H1=>∃c,x=.bl c/\if c=true then tb σ H1 Q else Q (.bl false) H1
def Qv{op:_}{t:TE}(h:PE X a t):PE X (.BoolOp op [a] pos) t:=λ im s σ H Q I hw=>BoolOp_one (h im s σ H Q I hw)
def QF(ha:PE X a ta)(hb:PE X (.BoolOp .And (b::rest) pos) tb):PE X (.BoolOp .And (a::b::rest) pos) (T6 ta tb):=by
 intro im s σ H Q I h;refine BoolOp_and (cZ (ha im s σ H _ I h) λ v s1 ⟨x,H1,I1,r1,q1⟩=>?_);let#[c,rfl,q1]:=q1;cases r1;refine wpAny_truthy_bool ?_;cases c with
 |true=>exact hb im s1 σ H1 Q I1 q1
 |false=>exact#[.bl false,H1,I1,rfl,q1]
end
def fK(K:L8)(H:Hp)(a:be)(xs:List V):Prop:=
 Rd H a `J\/
  ∃(o:Obj)(ar:Array ac)(n:Nat),K.lookup a>o/\o.cls=.type "list"/\o.dict=none/\o.data=.seq ar n/\ar.size<=sizeLine/\ut xs ar.toList
def gu(K:L8)(H:Hp)(a:be)(xs:List V):Prop:=
 Rd H a (.tup xs)\/
  ∃(o:Obj)(ar:Array ac)(n:Nat),K.lookup a>o/\o.cls=.type "tuple"/\o.data=.seq ar n/\ar.size<=sizeLine/\ut xs ar.toList
def ZX:ac->Option V
 | .none=>some .bf
 | .bool b=>some (.bl b)
 | .int i _=>some (.int i)
 | .str x _=>some (.str x)
 | .bytes b _=>some (.Jh b)
 | .float b _=>some (.Tr b)
 | .ref a=>some `z
 | .type n=>some (.ty n)
 |_=>none
def sK.abs{x:V}(r:sK x u):ZX u>x:=by
 cases x with
 |bf=>cases r;rfl
 |bl _=>cases r;rfl
 |int _=>let#[t,rfl]:=r;rfl
 |str _=>let#[t,rfl]:=r;rfl
 |Jh _=>let#[t,rfl]:=r;rfl
 |Tr _=>let#[t,rfl]:=r;rfl
 |ref _=>cases r;rfl
 |ty _=>cases r;rfl
def sK.inj{x y:V}(r:sK x u)(q:sK y u):x=y:=B7 (r.abs.symm.trans q.abs)
theorem ut.inj:∀{xs ys:List V} {us:List ac},ut xs us->ut ys us->xs=ys
 |_,_,_,.nil,.nil=>rfl
 |_,_,_,.cons r t,.cons r' t'=>by rw[r.inj r',ut.inj t t']
section
variable {X:Cx}{σ:St}{H:Hp}{xs ys:List V}
def fK.of(h:H a>`J):fK K H a xs:=.inl (.inl h)
def gu.of(h:H a>(.tup xs)):gu K H a xs:=.inl (.inl h)
def nn.list(I:nn X im σ H s)(h:fK X.K H a xs):∃ar:List ac,ut xs ar/\PlainL s.heap a ar.toArray/\-xs<=sizeLine:=by
 rcases h with h|⟨o,ar,n,hk,hc,hd,hs,hz,r⟩
 ·let#[z,ar,n,r,e]:=h.ok I.aX;exact#[ar,r,#[_,n,e,rfl,rfl,rfl],z]
 ·refine#[ar.toList,r,#[o,n,I.qN a o hk,hc,hd,~~~hs],?_];have e:=-r;simp only[m9]at e;lia
def nn.tuple(I:nn X im σ H s)(h:gu X.K H a xs):∃ar:List ac,ut xs ar/\IsTup s.heap a ar.toArray/\-xs<=sizeLine:=by
 rcases h with h|⟨o,ar,n,hk,hc,hs,hz,r⟩
 ·let#[z,ar,r,p]:=h.ok I.aX;exact#[ar,r,p,z]
 ·refine#[ar.toList,r,#[o,I.qN a o hk,hc,n,~~~hs],?_];have e:=-r;simp only[m9]at e;lia
def nn.vZ(I:nn X im σ H s)(h:fK X.K H a xs)(h':fK X.K H a ys):xs=ys:=by
 let#[ar,r,#[o,n,e,_,_,d],_]:=I.list h;let#[its',r',#[o',n',e',_,_,d'],_]:=I.list h';rw[e]at e';cases e';rw[d]at d';injection d' with d1 _
 have:ar=its':=by simpa using K8 Array.toList d1
 subst this;exact r.inj r'
def nn.rC(I:nn X im σ H s)(h:gu X.K H a xs)(h':gu X.K H a ys):xs=ys:=by
 let#[ar,r,#[o,e,_,n,d],_]:=I.tuple h;let#[its',r',#[o',e',_,n',d'],_]:=I.tuple h';rw[e]at e';cases e';rw[d]at d';injection d' with d1 _
 have:ar=its':=by simpa using K8 Array.toList d1
 subst this;exact r.inj r'
end
abbrev Cx.qG(X:Cx)(E:ac->bd->Prop):Cx:={X with xe:=E}
abbrev Cx.Mb(X:Cx):Cx:=X.qG λ _ _=>False
theorem Cx.Ok.qG{X:Cx}(ok:X.Ok)(E:ac->bd->Prop):(X.qG E).Ok:=
 #[ok.mod,ok.kind,ok.glob,ok.blt,ok.above,ok.inj,ok.has,ok.Tv,ok.hd,ok.frames,ok.Wx,ok.exf,ok.bs,ok.Cm,ok.DG,ok.Nd,ok.jS,ok.JI]
def Cx.Ok.iP{X:Cx}(ok:(X.qG E).Ok):X.Ok:=
 #[ok.mod,ok.kind,ok.glob,ok.blt,ok.above,ok.inj,ok.has,ok.Tv,ok.hd,ok.frames,ok.Wx,ok.exf,ok.bs,ok.Cm,ok.DG,ok.Nd,ok.jS,ok.JI]
section
variable {X:Cx}{σ:St}{H:Hp}
theorem nn.qG(I:nn X im σ H s)(E:ac->bd->Prop):nn (X.qG E) im σ H s:=#[I.ok.qG E,I.os,I.bare,I.base,I.loc,I.cell,I.free,I.fV,I.pin,I.aX,I.len]
theorem nn.iP(I:nn (X.qG E) im σ H s):nn X im σ H s:=#[I.ok.iP,I.os,I.bare,I.base,I.loc,I.cell,I.free,I.fV,I.pin,I.aX,I.len]
theorem SP.iP{D:Ends}{f:Flow}(h:SP (X.qG E) im D f s'):SP X im D f s':=by
 cases f with
 |next=>let#[σ',H',I,q]:=h;exact#[σ',H',I.iP,q]
 |brk=>let#[σ',H',I,q]:=h;exact#[σ',H',I.iP,q]
 |cont=>let#[σ',H',I,q]:=h;exact#[σ',H',I.iP,q]
 |ret u=>let#[v,σ',H',I,r,q]:=h;exact#[v,σ',H',I.iP,r,q]
theorem xw.Mb{st:List Stmt}{t:TS}(h:xw X.Mb st t):xw X st t:=λ im s σ H D I hw=>
 K6 (h im s σ H D (I.qG _) hw) (λ _ _ q=>q.iP) λ _ _ z=>False.elim z
end
section
variable {X:Cx}{rest:List Stmt}{t u:TS}{te:TE}{pos:Pos}
def T4:TS:=λ D σ H=>D.nx σ H
def XC(t u:TS):TS:=λ D σ H=>t {D with nx:=u D} σ H
def Ln:xw X [] T4:=λ _ _ σ H _ I h=>wpAny_execs_nil #[σ,H,I,h]
def Gz(h1:PS X st t)(h2:xw X rest u):xw X (st::rest) (XC t u):=by
 intro im s σ H D I h;refine wpAny_execs_cons (cZ (h1 im s σ H {D with nx:=u D} I h) λ f s1 q=>?_);cases f with
 |next=>let#[σ',H',I',q]:=q;exact h2 im s1 σ' H' D I' q
 |ret v=>exact q
 |brk=>exact q
 |cont=>exact q
def Lm(h1:PS X st t):xw X [st] t:=by
 intro im s σ H D I h;refine wpAny_execs_cons (cZ (h1 im s σ H D I h) λ f s1 q=>?_);cases f with
 |next=>exact wpAny_execs_nil q
 |ret v=>exact q
 |brk=>exact q
 |cont=>exact q
def nn.quiet{σ:St}{H:Hp}(I:nn X im σ H s):interactive X.env=false:=by simp[interactive,I.ok.kind]
def T5(te:TE):TS:=λ D σ H=>te σ H λ _ H1=>D.nx σ H1
def Lo(he:PE X e te)(hs:swapsWith e none pos.line X.env=pure false:=by rfl):PS X (.Expr e pos) (T5 te):=by intro im s σ H D I h;exact wpAny_Expr_any (cZ (he im s σ H _ I h) λ v s1 ⟨x,H1,I1,r1,q1⟩=>#[σ,H1,I1,q1]) I.quiet hs
def XD(te:TE):TS:=λ D σ H=>te σ H D.rt
def Qk(he:PE X e te):PS X (.Return (some e) pos) (XD te):=by intro im s σ H D I h;exact wpAny_Return_some (cZ (he im s σ H _ I h) λ v s1 ⟨x,H1,I1,r1,q1⟩=>#[x,σ,H1,I1,r1,q1])
def XG(c:TT)(t u:TS):TS:=λ D σ H=>c σ H λ b H1=>if b=true then t D σ H1 else u D σ H1
def UK{c:Expr}{a b:List Stmt}{tc:TT}(hc:PT X c tc)(ha:xw X a t)(hb:xw X b u):PS X (.If c a b pos) (XG tc t u):=by
 intro im s σ H D I h;refine wpAny_If (cZ (hc im s σ H _ I h) λ d s1 ⟨H1,I1,q1⟩=>?_);cases d with
 |true=>exact ha im s1 σ H1 D I1 q1
 |false=>exact hb im s1 σ H1 D I1 q1
end
abbrev TG:=V->St->Hp->(St->Hp->Prop)->Prop
abbrev Cu:=List V->St->Hp->(St->Hp->Prop)->Prop
def PG(X:Cx)(target:Expr)(t:TG):Prop:=
 ∀(im:List (be×Obj))(s:bd)(σ:St)(H:Hp)(v:V)(u:ac)(Q:St->Hp->Prop),nn X im σ H s->sK v u->t v σ H Q->
  wpAny `f X.A (assign target X.env u) (λ _ s'=>∃σ' H',nn X im σ' H' s'/\Q σ' H') X.xe s
def SR(X:Cx)(ts:List Expr)(t:Cu):Prop:=
 ∀(im:List (be×Obj))(s:bd)(σ:St)(H:Hp)(vs:List V)(us:List ac)(Q:St->Hp->Prop),nn X im σ H s->ut vs us->t vs σ H Q->
  wpAny `f X.A (assignInOrder ((assignEach ts X.env).map (·.2)) us) (λ _ s'=>∃σ' H',nn X im σ' H' s'/\Q σ' H') X.xe s
abbrev Ex:=V->V->V->Hp->(Hp->Prop)->Prop
def uS(X:Cx)(t:Ex):Prop:=
 ∀(im:List (be×Obj))(s:bd)(σ:St)(H:Hp)(o i v:V)(ov iv u:ac)(Q:Hp->Prop),nn X im σ H s->sK o ov->sK i iv->sK v u->t o i v H Q->
  wpAny `f X.A (setItem ov iv u) (λ _ s'=>∃H',nn X im σ H' s'/\Q H') X.xe s
abbrev Xh:=V->V->Hp->VK->Prop
def PIp(X:Cx)(op:Operator)(t:Xh):Prop:=
 ∀(im:List (be×Obj))(s:bd)(σ:St)(H:Hp)(x y:V)(v u:ac)(Q:VK),nn X im σ H s->sK x v->sK y u->t x y H Q->
  wpAny `f X.A (inplaceOp op v u) (EP X im σ Q) X.xe s
section
variable {X:Cx}{pos:Pos}
def cX(i:Nat):TG:=λ v σ H Q=>Q (σ.set i (some v)) H
def hG(hN:X.N.Nodup)(hi:X.N[i]?>x)(hx:Loc X.env.scope x)(hf:JO X x:=by ac_rfl):PG X (.Name x pos) (cX i):=by intro im s σ H v u Q I r h;exact wpAny_assign_Name (oT I hN hi hx r (λ s' I'=>#[_,H,I',h]) hf)
def ux:Cu:=λ vs σ H Q=>vs=[]/\Q σ H
def dR(t:TG)(u:Cu):Cu:=λ vs σ H Q=>∃v r,vs=v::r/\t v σ H λ σ' H'=>u r σ' H' Q
def tN:SR X [] ux:=by intro im s σ H vs us Q I r h;let#[e,h]:=h;subst e;cases r;exact assignInOrder_nil #[σ,H,I,h]
def gB{t:TG}{u:Cu}(h1:PG X e t)(h2:SR X es u)(hs:(assignEach (e::es) X.env).map (·.2)=assign e X.env::(assignEach es X.env).map (·.2):=by rfl):SR X (e::es) (dR t u):=by
 intro im s σ H vs us Q I r h;let#[v,vr,e1,h]:=h;subst e1;cases r with
 |cons r rr=>rw[hs];refine assignInOrder_cons (cZ (h1 im s σ H _ _ _ I r h) λ _ s1 ⟨σ1,H1,I1,q1⟩=>?_);exact h2 im s1 σ1 H1 _ _ Q I1 rr q1
def wJ(K:L8)(n:Nat)(t:Cu):TG:=λ v σ H Q=>∃a xs,v=.ref a/\gu K H a xs/\-xs=n/\t xs σ H Q
def yq{t:Cu}(hc:X.calm=true)(h:SR X es t)(hn:(assignEach es X.env).length=n:=by rfl)(DY:(assignEach es X.env).findIdx? (·.1)=none:=by rfl):PG X (.Tuple es k pos) (wJ X.K n t):=by intro im s σ H v u Q I r hw;let#[a,xs,e1,hq,hl,hw]:=hw;subst e1;cases r;let#[ar,rv,ht,hz]:=I.tuple hq;refine assign_Tuple_tuple (I.ok.hd hc) ht (by simp[hn,<- hl,rv.length]) DY λ h' hx=>?_;have I1:nn X im σ H {s with heap:=h'}:=I.kept (t':=s.toks) λ b o e=>hx b o (G4 (G5 e)) e;exact h im _ σ H xs _ Q I1 (~~~rv) hw
def ZG(to ti:TE)(t:Ex):TG:=λ v σ H Q=>to σ H λ o H1=>ti σ H1 λ i H2=>t o i v H2 λ H3=>Q σ H3
def Qs{o i:Expr}{to ti:TE}{t:Ex}(ho:PE X o to)(hi:PE X i ti)(hs:uS X t) (ha:∀v,assign (.Subscript o i pos) X.env v=(do
   let ov <- holding [v] (eval o X.env)
   let iv <- holding [v,ov] (eval i X.env)
   standAt pos
   holding [v,ov,iv] (setItem ov iv v)
   release [v,ov,iv] []):=by intro _;rfl):PG X (.Subscript o i pos) (ZG to ti t):=by
 intro im s σ H v u Q I r h;rw[ha];refine K1 (D5 (cZ (ho im s σ H _ I h) λ ov s1 ⟨x,H1,I1,r1,q1⟩=>?_));refine K1 (D5 (cZ (hi im s1 σ H1 _ I1 q1) λ iv s2 ⟨y,H2,I2,r2,q2⟩=>?_));refine K1 (wpAny_standAt (K1 (D5 (cZ (hs im s2 σ H2 x y v ov iv u _ I2 r1 r2 r q2) λ _ s3 ⟨H3,I3,q3⟩=>?_))));exact wpAny_release #[σ,H3,I3,q3]
def Ka(te:TE)(g:TG):TS:=λ D σ H=>te σ H λ x H1=>g x σ H1 D.nx
def Qn{te:TE}{g:TG}(he:PE X e te)(hg:PG X tg g)(hs:swapsWithSole [tg] e pos.line X.env=pure false:=by rfl)(hw:swappedStores [tg] e X.env=pure none:=by rfl)(h1:(assignEach [tg] X.env).map (·.2)=[assign tg X.env]:=by rfl):PS X (.Assign [tg] e pos) (Ka te g):=by intro im s σ H D I h;refine wpAny_Assign_stores (cZ (he im s σ H _ I h) λ v s1 ⟨x,H1,I1,r1,q1⟩=>?_) hs hw;rw[h1];exact cZ (hg im s1 σ H1 x v _ I1 r1 q1) λ _ s2 q=>q
def Qj{te:TE}(hN:X.N.Nodup)(hi:X.N[i]?>x)(hx:Loc X.env.scope x)(he:PE X e te)(hs:swapsWith e (some (.Name x pos')) pos.line X.env=pure false:=by rfl)(hf:JO X x:=by ac_rfl):PS X (.Assign [.Name x pos'] e pos) (Ka te (cX i)):=by intro im s σ H D I h;refine wpAny_Assign_Name (cZ (he im s σ H _ I h) λ v s1 ⟨y,H1,I1,r1,q1⟩=>?_) hs;exact oT I1 hN hi hx r1 (λ s2 I2=>#[_,H1,I2,q1]) hf
def XN(i:Nat)(te:TE)(ti:Xh):TS:=λ D σ H=>∃x,σ[i]?>(some x)/\te σ H λ y H1=>ti x y H1 λ z H2=>D.nx (σ.set i (some z)) H2
def Qm{te:TE}{op:Operator}{ti:Xh}(hN:X.N.Nodup)(hi:X.N[i]?>x)(hx:Loc X.env.scope x)(he:PE X e te)(ho:PIp X op ti)(hf:JO X x:=by ac_rfl):PS X (.AugAssign (.Name x pos') op e pos) (XN i te ti):=by
 intro im s σ H D I h;let#[v,e1,h]:=h;let#[m,hn,hl]:=I.loc;have vis:SJ X.env.scope x:=by rcases hx with k|k;exact .inl k;exact .inr (.inl k)
 let#[u,r,l]:=hl i x v hi e1 vis;refine wpAny_AugAssign_Name ?_;have go:wpAny `f X.A (eval e X.env) (λ w s₂=>wpAny `f X.A (inplaceOp op u w) (λ r s₃=>wpAny `f X.A (storeName X.env x r) (λ _=>SP X im D .next) X.xe s₃) X.xe s₂) X.xe s:=by refine cZ (he im s σ H _ I h) λ w s1 ⟨y,H1,I1,r1,q1⟩=>?_;refine cZ (ho im s1 σ H1 v y u w _ I1 r r1 q1) λ z s2 ⟨zv,H2,I2,r2,q2⟩=>?_;exact oT I2 hN hi hx r2 (λ s3 I3=>#[_,H2,I3,q2]) hf
 rcases l with⟨hk,hm⟩|⟨hk,c,hc,BE⟩
 ·exact wpAny_loadName_local I.ok.kind hk hn hm go
 ·rcases hk with hk|hk
  ·exact wpAny_loadName_cell I.ok.kind hk hc BE go
  ·rcases hx with k|k
   ·have:X.env.scope.names.lookup x>.free:=hk;rw[k]at this;cases this
   ·have:X.env.scope.names.lookup x>.free:=hk;rw[k]at this;cases this
def ipI(f:Int->Int->Int):Xh:=λ x y H Q=>∃i j,x=.int i/\y=.int j/\Q (.int (f i j)) H
def RI:PIp X .Add (ipI λ i j=>i+j):=by intro im s σ H x y v u Q I r1 r2 h;let#[i,j,e1,e2,q]:=h;subst e1;subst e2;let#[t,rfl]:=r1;let#[t',rfl]:=r2;exact iadd_int #[.int _,H,I.tok _,#[_,rfl],q]
end
section
variable {X:Cx}{pos:Pos}
def Pd(c:TT)(tb:TS):TS:=λ D σ H=>∃W:Nat->St->Hp->Prop,(∃m,W m σ H)/\∀m σ H,W m σ H->
 c σ H λ b H1=>if b=true then ∃N:St->Hp->Prop,(∀σ' H',N σ' H'->∃m',m'<m/\W m' σ' H')/\tb {D with nx:=N,ct:=N,bk:=D.nx} σ H1 else D.nx σ H1
def GB{c:Expr}{tc:TT}{tb:TS}(hp:Xk X)(hc:PT X c tc)(hb:xw X body tb):PS X (.While c body [] pos) (Pd tc tb):=by
 intro im s σ H D I h;let#[W,#[m0,w0],turn]:=h;refine wpAny_While (codeAny_whileLoop (λ n s'=>∃σ' H',nn X im σ' H' s'/\W n σ' H') ?_ m0 #[σ,H,I,w0]);rintro n s1 ⟨σ1,H1,I1,w1⟩;refine B8 hp (cZ (hc im s1 σ1 H1 _ I1 (turn n σ1 H1 w1)) λ b s2 ⟨H2,I2,q2⟩=>?_);cases b with
 |true=>
  let#[N,hN,q2]:=q2;rw[L1 rfl];refine B8 hp (cZ (hb im s2 σ1 H2 _ I2 q2) λ f s3 q3=>?_);cases f with
  |next=>let#[σ3,H3,I3,n3]:=q3;let#[m',hm,w3]:=hN σ3 H3 n3;exact#[m',hm,σ3,H3,I3,w3]
  |cont=>let#[σ3,H3,I3,n3]:=q3;let#[m',hm,w3]:=hN σ3 H3 n3;exact#[m',hm,σ3,H3,I3,w3]
  |brk=>exact q3
  |ret v=>exact q3
 |false=>rw[L7 o8];exact wpAny_execs_nil #[σ1,H2,I2,q2]
end
structure It where
 go:Nat->Hp->Prop
 JQ:Nat->Hp->V->Hp->Prop
 stop:Nat->Hp->Prop
def kG(X:Cx)(im:List (be×Obj))(H:Hp)(b:be):Prop:=
 H b=none/\b≠X.env.locals/\b∉X.fs/\(b∈X.ex\/X.s₀.heap.objs.size<=b)/\(∀x c,X.env.cells.lookup x>c->c≠b)/\∀p∈X.pn++im,p.1≠b
def nn.km{X:Cx}{σ:St}{H H':Hp}(I:nn X im σ H s)(hb:s⁻¹<=b)(hn:H' b=none):kG X im H' b:=by
 refine#[hn,J5 (p9 I.lt hb),I.Yj hb,.inr (G9 I.sz hb),λ x c e z=>?_,λ p hp z=>?_]
 ·let#[v,q]:=I.cell x c e;exact bi (p9 q.lt (z>=hb)) (D8 _)
 ·exact bi (p9 (G5 (I.pin p hp).1) (z>=hb)) (D8 _)
structure Turn(P:Program)(w:World)(K:L8)(tg:Expr)(J:It)(fp:List be)(it:be)(tn:Nat->Heap->Prop):Prop where
 mem:it∈fp
 obj:∀i h,tn i h->∀b∈fp,∃o,h.get? b>o/\∀v,o.data≠.cell v
 keep:∀i h h',tn i h->(∀b∈fp,∀o,h.get? b>o->h'.get? b>o)->tn i h'
 item:∀(X:Cx),X.prog=P->X.w=w->X.K=K->X.calm=true->∀(i:Nat)(im:List (be×Obj))(s:bd)(σ:St)(H:Hp)(E:ac->bd->Prop),nn X im σ H s->(∀b∈fp,kG X im H b)->tn i s.heap->J.go i H->
  wpAny (model P w) X.A (pyNext (.ref it)) (λ r s1=>∃u,r>u/\
   wpAny (model P w) X.A (letOwnedTupleGo tg (.ref it) u) (λ _ s2=>∃x H',nn X im σ H' s2/\sK x u/\J.JQ i H x H'/\tn (i+1) s2.heap/\∀b∈fp,H' b=none) E s1) E s
 done:∀(X:Cx),X.prog=P->X.w=w->X.K=K->X.calm=true->∀(i:Nat)(im:List (be×Obj))(s:bd)(σ:St)(H:Hp)(E:ac->bd->Prop),nn X im σ H s->(∀b∈fp,kG X im H b)->tn i s.heap->J.stop i H->
  wpAny (model P w) X.A (pyNext (.ref it)) (λ r s1=>r=none/\nn X im σ H s1) E s
 self:∀(A:Around)(i:Nat)(s:bd)(Q:ac->bd->Prop)(E:ac->bd->Prop),tn i s.heap->Q (.ref it) s->wpAny (model P w) A (pyIter (.ref it)) Q E s
abbrev TI:=St->Hp->(It->Hp->Prop)->Prop
def Z5(X:Cx)(im:List (be×Obj))(σ:St)(tg:Expr)(R:It->Hp->Prop)(WM:ac)(s2:bd):Prop:=
 ∃(it:be)(fp:List be)(tn:Nat->Heap->Prop)(J:It)(H':Hp),WM=.ref it/\nn X im σ H' s2/\Turn X.prog X.w X.K tg J fp it tn/\tn 0 s2.heap/\(∀b∈fp,kG X im H' b)/\R J H'
def PI(X:Cx)(tg iter:Expr)(wi:TI):Prop:=
 ∀(im:List (be×Obj))(s:bd)(σ:St)(H:Hp)(R:It->Hp->Prop),nn X im σ H s->wi σ H R->
  wpAny `f X.A (eval iter X.env) (λ v s1=>wpAny `f X.A (pyIter v) (Z5 X im σ tg R) X.xe s1) X.xe s
def wI{M:Model}{it:be}{n:String}{vs:Array ac}{Q:Unit->bd->Prop}(ho:s.heap.get? it>o)(hc:o.cls=.type n)(hd:o.data=.fields vs)(hn:["enumerate","zip","dict_itemiterator","dict_reverseitemiterator","odict_iterator","itertools.zip_longest","itertools.pairwise"].contains n=false)(hQ:Q .unit s):wpAny M A (letOwnedTupleGo tg (.ref it) u) Q E s:=by
 unfold letOwnedTupleGo;cases tg<;>first
  |exact K3 hQ
  |(cases u<;>first
    |exact K3 hQ
    |(refine K1 (wpAny_load ho ?_)
      rw[hc,hd];show wpAny M A (if(["enumerate","zip","dict_itemiterator","dict_reverseitemiterator","odict_iterator","itertools.zip_longest","itertools.pairwise"].contains n&&vs[0]?==some (rawInt _))=true then _ else _) Q E s;rw[L7 (by intro h;rw[hn,Bool.false_and]at h;cases h)];exact K3 hQ))
def Xn(K:L8)(a:be):It:=
 #[λ i H=>∃xs x,fK K H a xs/\xs[i]?>x,λ i H x H'=>H'=H/\∀xs,fK K H a xs->xs[i]?>x,λ i H=>∃xs,fK K H a xs/\-xs<=i]
def Z7(K:L8)(a:be):It:=
 #[λ i H=>∃xs x,gu K H a xs/\xs[i]?>x,λ i H x H'=>H'=H/\∀xs,gu K H a xs->xs[i]?>x,λ i H=>∃xs,gu K H a xs/\-xs<=i]
def Xm(lo:Int)(n:Nat):It:=#[λ i _=>i<n,λ i H x H'=>H'=H/\x=.int (lo+i),λ i _=>n<=i]
def CZ(a it:be):Turn P w K tg (Xn K a) [it] it (λ i h=>h.IsListIter it a i) where
 mem:=by simp
 obj:=λ i h st b hb=>by
  have e:b=it:= ~~~hb
  subst e;let#[o,e,c,d]:=st;exact#[o,e,λ v z=>by rw[d]at z;cases z]
 keep:=λ i h h' st k=>st.at λ o e=>k it `g o e
 item:=by intro X hP hw hK hc i im s σ H E I hf st hg;subst hP hw hK;let#[xs,x,hq,hx]:=hg;let#[ar,rv,p,hz]:=I.list hq;let#[u,hu,ru]:=rv.get hx;let#[f0,f1,f2,f3,f4,f5]:=hf it `g;refine wpAny_pyNext_list_item st p.isList (x:=u) (~~~hu) λ h' iR sb=>?_;have I1:nn X im σ H {s with heap:=h'}:=I.turned (t':=s.toks) (λ b o hb e=>(sb.2 b hb).trans e) f0 f1 f3 f4 f5;let#[o,e,c,d]:=id iR;exact#[u,rfl,wI (s:={s with heap:=h'}) e c d `c #[x,H,I1,ru,#[rfl,λ ys hy=>I.vZ hy hq>=hx],iR,λ b hb=>(hf b hb).1]]
 done:=by intro X hP hw hK hc i im s σ H E I hf st hg;subst hP hw hK;let#[xs,hq,hx]:=hg;let#[ar,rv,p,hz]:=I.list hq;let#[f0,f1,f2,f3,f4,f5]:=hf it `g;have hl:=-rv;exact wpAny_pyNext_list_end (I.ok.hd hc) st p.isList (by simp;lia) λ h' eb=>#[rfl,I.turned (t':=s.toks) (λ b o hb e=>eb b o hb e) f0 f1 f3 f4 f5]
 self:=λ _ _ _ _ _ st h=>wpAny_pyIter_listiter st h
def xR(a it:be):Turn P w K tg (Z7 K a) [it] it (λ i h=>h.IsTupleIter it a i) where
 mem:=by simp
 obj:=λ i h st b hb=>by
  have e:b=it:= ~~~hb
  subst e;let#[o,e,c,d]:=st;exact#[o,e,λ v z=>by rw[d]at z;cases z]
 keep:=λ i h h' st k=>st.at λ o e=>k it `g o e
 item:=by intro X hP hw hK hc i im s σ H E I hf st hg;subst hP hw hK;let#[xs,x,hq,hx]:=hg;let#[ar,rv,p,hz]:=I.tuple hq;let#[u,hu,ru]:=rv.get hx;let#[f0,f1,f2,f3,f4,f5]:=hf it `g;refine wpAny_pyNext_tuple_item st (show s.heap.IsTuple a ar.toArray from p) (x:=u) (~~~hu) λ h' iR sb=>?_;have I1:nn X im σ H {s with heap:=h'}:=I.turned (t':=s.toks) (λ b o hb e=>(sb.2 b hb).trans e) f0 f1 f3 f4 f5;let#[o,e,c,d]:=id iR;exact#[u,rfl,wI (s:={s with heap:=h'}) e c d `c #[x,H,I1,ru,#[rfl,λ ys hy=>I.rC hy hq>=hx],iR,λ b hb=>(hf b hb).1]]
 done:=by intro X hP hw hK hc i im s σ H E I hf st hg;subst hP hw hK;let#[xs,hq,hx]:=hg;let#[ar,rv,p,hz]:=I.tuple hq;let#[f0,f1,f2,f3,f4,f5]:=hf it `g;have hl:=-rv;exact wpAny_pyNext_tuple_end (I.ok.hd hc) st (show s.heap.IsTuple a ar.toArray from p) (by simp;lia) λ h' eb=>#[rfl,I.turned (t':=s.toks) (λ b o hb e=>eb b o hb e) f0 f1 f3 f4 f5]
 self:=λ _ _ _ _ _ st h=>wpAny_pyIter_tupleiter st h
def xS(it:be)(lo:Int)(n:Nat):Turn P w K tg (Xm lo n) [it] it (λ i h=>IsRangeIter h it (lo+(i:Nat)*1) ((n:Int)-(i:Nat)) 1) where
 mem:=by simp
 obj:=λ i h st b hb=>by
  have e:b=it:= ~~~hb
  subst e;exact⟨_,st,λ v z=>by
   have z':Data.fields _=Data.cell v:=z;cases z'⟩
 keep:=λ i h h' st k=>k it `g _ st
 item:=by intro X hP hw hK hc i im s σ H E I hf st hg;subst hP hw hK;let#[f0,f1,f2,f3,f4,f5]:=hf it `g;have W:=Walks.range (prog:=X.prog) (w:=X.w) (I.ok.hd hc) it lo 1 n;refine W.item i s _ _ hg st λ v h' tk hv iR kk=>?_;let#[t,rfl]:=hv;have I1:nn X im σ H {s with heap:=h',toks:=tk}:=I.turned (λ b o hb e=>kk b o (~~~hb) e) f0 f1 f3 f4 f5;refine#[_,rfl,wI (s:={s with heap:=h',toks:=tk}) (n:="range_iterator") iR rfl rfl `c #[.int (lo+i),H,I1,#[t,?_],#[rfl,rfl],iR,λ b hb=>(hf b hb).1]];rw[Int.mul_one]
 done:=by intro X hP hw hK hc i im s σ H E I hf st hg;subst hP hw hK;let#[f0,f1,f2,f3,f4,f5]:=hf it `g;exact wpAny_pyNext_range_end (I.ok.hd hc) st (by have:n<=i:=hg;lia) λ h' eb=>#[rfl,I.turned (t':=s.toks) (λ b o hb e=>eb b o hb e) f0 f1 f3 f4 f5]
 self:=λ _ _ _ _ _ st h=>wpAny_pyIter_rangeiter st h
section
variable {X:Cx}
def Gv{σ:St}{H:Hp}{R:It->Hp->Prop}{hi:Int}{t u v:Tok}{tk:Nat}(I:nn X im σ H s)(h1: -(2^62)<=lo)(h2:lo<2^62)(h3: -(2^62)<=hi)(h4:hi<2^62)(q:R (Xm lo (hi-lo).toNat) H):wpAny `f X.A (pyIter (.ref s⁻¹)) (Z5 X im σ tg R) E {s with heap:=s.heap.push {cls:=.type "range",data:=.fields ([.int lo t,.int hi u,.int 1 v].toArray)},toks:=tk}:=by
 refine wpAny_pyIter_range (IsRange.new ..) (small_one h1 h2 h3 h4) ?_;have I1:nn X im σ H {s with heap:=s.heap.push {cls:=.type "range",data:=.fields ([.int lo t,.int hi u,.int 1 v].toArray)},toks:=tk}:=I.kept λ b o e=>j4 _ e;refine⟨(s.heap.push {cls:=.type "range",data:=.fields ([.int lo t,.int hi u,.int 1 v].toArray)}).objs.size,[(s.heap.push {cls:=.type "range",data:=.fields ([.int lo t,.int hi u,.int 1 v].toArray)}).objs.size],_,_,H,rfl,
  I1.kept (t':=tk) λ b o e=>j4 _ e,xS _ lo (hi-lo).toNat,?_,λ b hb=>?_,q⟩
 ·have e1:lo+((0:Nat):Int)*1=lo:=by simp
  have e2:(((hi-lo).toNat:Nat):Int)-((0:Nat):Int)=Builtin.Range.rangeSize lo hi 1:=by rw[rangeSize_one];split<;>lia
  show IsRangeIter _ _ (lo+((0:Nat):Int)*1) ((((hi-lo).toNat:Nat):Int)-((0:Nat):Int)) 1;rw[e1,e2];exact n5 _ rfl
 ·have e:b=(s.heap.push {cls:=.type "range",data:=.fields ([.int lo t,.int hi u,.int 1 v].toArray)}).objs.size:= ~~~hb
  subst e;exact I1.km `G (I1.aX.fresh `G)
def Vk(ta:TA):TI:=λ σ H R=>ta σ H λ vs H1=>∃j:Int,vs=[.int j]/\-(2^62)<=j/\j<2^62/\R (Xm 0 j.toNat) H1
def DB{a:Expr}{ta:TA}{p pos:Pos}(hg:Gl X "range")(hm:X.mg "range"=none)(ha:PA X [a] ta)(hs:starEach [a] X.env=[(false,eval a X.env)]:=by rfl):PI X tg (.Call (.Name "range" p) [a] [] pos) (Vk ta):=by
 intro im s σ H R I h;refine Call_ (fB I hg hm boot_range (a8 (cZ (ha pos im s σ H _ I h) λ us s1 ⟨vs,H1,I1,r1,q1⟩=>?_) hs rfl));let#[j,e,q1,q2,q]:=q1;subst e;cases r1 with
 |cons r rr=>cases rr;let#[t,rfl]:=r;exact call_range_1 (Gv I1 () () q1 q2 (~~~q))
def XH(wi:TI)(g:TG)(tb:TS):TS:=λ D σ H=>wi σ H λ J H1=>∃W:Nat->Nat->St->Hp->Prop,(∃m,W 0 m σ H1)/\∀i m σ H,W i m σ H->
 (J.stop i H/\D.nx σ H)\/(J.go i H/\∃N:St->Hp->Prop,(∀σ' H',N σ' H'->∃m',m'<m/\W (i+1) m' σ' H')/\∀x H',J.JQ i H x H'->g x σ H' λ σ2 H2=>tb {D with nx:=N,ct:=N,bk:=D.nx} σ2 H2)
def tM(fp:List be)(h:Heap):List (be×Obj):=fp.filterMap λ b=>(h.get? b).map λ o=>(b,o)
def dZ{h:Heap}(hb:b∈fp)(e:h.get? b>o):(b,o)∈tM fp h:=mem_filterMap.mpr #[b,hb,by rw[e];rfl]
def DF{h:Heap}{p:be×Obj}(hp:p∈tM fp h):p.1∈fp/\h.get? p.1>p.2:=by
 let#[b,hb,e]:=mem_filterMap.mp hp;cases q:h.get? b with
 |none=>rw[q]at e;cases e
 |some o=>rw[q]at e;have e':(b,o)=p:=B7 e;subst e';exact#[hb,q]
def nn.pinned{σ:St}{H:Hp}(I:nn X im σ H s)(hf:∀b∈fp,kG X im H b)(ho:∀b∈fp,∃o,s.heap.get? b>o/\∀v,o.data≠.cell v):nn X (im++tM fp s.heap) σ H s:=
 I.eR λ p hp=>(C3.mp hp).elim (λ z=>I.pin p (j8 _ z)) λ z=>by let#[hb,e]:=DF z;let#[f0,f1,f2,_]:=hf p.1 hb;let#[o,e',d]:=ho p.1 hb;rw[e]at e';cases e';exact#[e,f0,f1,f2,d]
def nn.oK{pl:List (be×Obj)}{σ:St}{H:Hp}(I:nn X (im++pl) σ H s):nn X im σ H s:=I.eR λ p hp=>I.pin p (j8 _ (l0 _ hp))
def Ql{wi:TI}{g:TG}{tb:TS}{pos:Pos}(hp:Xk X)(hc:X.calm=true)(hi:PI X tg iter wi)(hg:PG X tg g)(hb:xw X body tb)(hs:OX X iter:=by intro _;rfl):PS X (.For tg iter body [] pos) (XH wi g tb):=by
 intro im s σ H D I h;refine wpAny_For (cZ (hi im s σ H _ I h) λ v s1 h1=>cZ h1 λ WM s2 h2=>?_) hs;let#[it,fp,tn,J,H2,e,I2,T,Jz,f2,W,#[m0,w0],turn]:=h2;subst e;have Pn:∀{H':Hp},(∀b∈fp,H' b=none)->∀b∈fp,kG X im H' b:=λ hn b hb=>#[hn b hb,(f2 b hb).2];refine codeAny_forLoop_any (λ n s'=>∃i σ' H',nn X im σ' H' s'/\tn i s'.heap/\(∀b∈fp,H' b=none)/\W i n σ' H') ?_ m0 #[0,σ,H2,I2,Jz,λ b hb=>(f2 b hb).1,w0];rintro n s3 ⟨i,σ3,H3,I3,Uc,VR,w3⟩;rcases turn i n σ3 H3 w3 with⟨stop,qn⟩|⟨go,N,hN,step⟩
 ·refine B8 hp (cZ (T.done X rfl rfl rfl hc i im s3 σ3 H3 X.xe I3 (Pn VR) Uc stop) λ r s4 ⟨hr,I4⟩=>?_);subst hr;exact wpAny_execs_nil #[σ3,H3,I4,qn]
 ·refine B8 hp (cZ (T.item X rfl rfl rfl hc i im s3 σ3 H3 X.xe I3 (Pn VR) Uc go) λ r s4 ⟨u,hr,h4⟩=>?_);subst hr;refine B8 hp (cZ h4 λ _ s5 ⟨x,H5,I5,r5,y5,Ke,ZH⟩=>?_);have Z_:=I5.pinned (Pn ZH) (T.obj _ _ Ke);refine B8 hp (cZ (hg _ s5 σ3 H5 x u _ Z_ r5 (step x H5 y5)) λ _ s6 ⟨σ6,H6,I6,q6⟩=>?_);refine B8 hp (cZ (hb _ s6 σ6 H6 _ I6 q6) λ f s7 q7=>?_);have again:∀{σ7:St} {H7:Hp},nn X (im++tM fp s5.heap) σ7 H7 s7->N σ7 H7->∃m,m<n/\∃i σ' H',nn X im σ' H' s7/\tn i s7.heap/\(∀b∈fp,H' b=none)/\W i m σ' H':=λ{σ7 H7} I7 n7=>by let#[m',hm,w7]:=hN σ7 H7 n7;refine#[m',hm,i+1,σ7,H7,I7.oK,T.keep _ _ _ Ke λ b hb o e=>(I7.pin (b,o) (j8 _ (j8 _ (dZ hb e)))).1,λ b hb=>?_,w7];let#[o,e,d]:=T.obj _ _ Ke b hb;exact(I7.pin (b,o) (j8 _ (j8 _ (dZ hb e)))).2.1
  cases f with
  |next=>let#[σ7,H7,I7,n7]:=q7;exact again I7 n7
  |cont=>let#[σ7,H7,I7,n7]:=q7;exact again I7 n7
  |brk=>let#[σ7,H7,I7,q7]:=q7;exact#[σ7,H7,I7.oK,q7]
  |ret v=>let#[x7,σ7,H7,I7,r7,q7]:=q7;exact#[x7,σ7,H7,I7.oK,r7,q7]
end
abbrev R2:=V->V->Hp->VK->Prop
def gP(X:Cx)(f:ac->ac->Sem ac)(r:R2):Prop:=
 ∀(im:List (be×Obj))(s:bd)(σ:St)(H:Hp)(x y:V)(v u:ac)(Q:VK),nn X im σ H s->sK x v->sK y u->r x y H Q->
  wpAny `f X.A (f v u) (EP X im σ Q) X.xe s
def Xg(X:Cx)(f:ac->Sem ac)(r:V->Hp->VK->Prop):Prop:=
 ∀(im:List (be×Obj))(s:bd)(σ:St)(H:Hp)(x:V)(v:ac)(Q:VK),nn X im σ H s->sK x v->r x H Q->
  wpAny `f X.A (f v) (EP X im σ Q) X.xe s
def dj(X:Cx)(f:ac)(r:List V->Hp->VK->Prop):Prop:=
 ∀(im:List (be×Obj))(s:bd)(σ:St)(H:Hp)(xs:List V)(us:List ac)(Q:VK),nn X im σ H s->ut xs us->r xs H Q->
  wpAny `f X.A (call f us) (EP X im σ Q) X.xe s
def T3(r:R2)(ta tb:TE):TE:=λ σ H Q=>ta σ H λ x H1=>tb σ H1 λ y H2=>r x y H2 Q
def tUn(r:V->Hp->VK->Prop)(ta:TE):TE:=λ σ H Q=>ta σ H λ x H1=>r x H1 Q
def rI(C:Int->Int->Prop)(g:Int->Int->V):R2:=λ x y H Q=>∃i j,x=.int i/\y=.int j/\C i j/\Q (g i j) H
def JA(g:Int->Int->V):R2:=λ x y H Q=>∃i j,x=.int i/\y=.int j/\Q (g i j) H
def rU(g:Int->V):V->Hp->VK->Prop:=λ x H Q=>∃i,x=.int i/\Q (g i) H
section
variable {X:Cx}{a b c:Expr}{ta tb tc:TE}{pos:Pos}
def SH(ha:PE X a ta)(hb:PE X b tb){σ:St}{H:Hp}{R:V->V->Hp->Prop}(I:nn X im σ H s)(h:ta σ H λ x H1=>tb σ H1 λ y H2=>R x y H2){f:ac->ac->Sem ac}(hf:∀v u s2 x y H2,nn X im σ H2 s2->sK x v->sK y u->R x y H2->wpAny `f X.A (f v u) Q X.xe s2):wpAny `f X.A (eval a X.env) (λ v s₁=>wpAny `f X.A (eval b X.env) (λ u s₂=>wpAny `f X.A (f v u) Q X.xe s₂) X.xe s₁) X.xe s:=by refine cZ (ha im s σ H _ I h) λ v s1 ⟨x,H1,I1,r1,q1⟩=>?_;refine cZ (hb im s1 σ H1 _ I1 q1) λ u s2 ⟨y,H2,I2,r2,q2⟩=>?_;exact hf v u s2 x y H2 I2 r1 r2 q2
def UP{op:Operator}{r:R2}(ho:gP X (binaryOp op) r)(ha:PE X a ta)(hb:PE X b tb):PE X (.BinOp a op b pos) (T3 r ta tb):=by intro im s σ H Q I h;exact wpAny_BinOp (SH ha hb I h λ v u s2 x y H2 I2 rx ry q=>ho im s2 σ H2 x y v u Q I2 rx ry q)
def UO{op:UnaryOp}{r:V->Hp->VK->Prop}(ho:Xg X (unaryOp op) r)(ha:PE X a ta):PE X (.UnaryOp op a pos) (tUn r ta):=by intro im s σ H Q I h;exact UnaryOp_ (cZ (ha im s σ H _ I h) λ v s1 ⟨x,H1,I1,r1,q1⟩=>ho im s1 σ H1 x v Q I1 r1 q1)
def WD{f:ac->ac->Sem ac}{g:Int->Int->Int}(rule:∀(i j:Int)(t u:Tok)(s:bd)(Q:ac->bd->Prop)(E:ac->bd->Prop),C i j->Q (.int (g i j) s.toks) {s with toks:=s.toks+1}->wpAny `f X.A (f (.int i t) (.int j u)) Q E s):gP X f (rI C λ i j=>.int (g i j)):=by intro im s σ H x y v u Q I rx ry h;let#[i,j,rfl,rfl,hc,q]:=h;let#[t,rfl]:=rx;let#[t',rfl]:=ry;exact rule i j t t' s _ _ hc #[.int (g i j),H,I.tok _,#[_,rfl],q]
def Q0{f:ac->ac->Sem ac}{g:Int->Int->Int}(rule:∀(i j:Int)(t u:Tok)(s:bd)(Q:ac->bd->Prop)(E:ac->bd->Prop),Q (.int (g i j) s.toks) {s with toks:=s.toks+1}->wpAny `f X.A (f (.int i t) (.int j u)) Q E s):gP X f (JA λ i j=>.int (g i j)):=by intro im s σ H x y v u Q I rx ry h;let#[i,j,rfl,rfl,q]:=h;let#[t,rfl]:=rx;let#[t',rfl]:=ry;exact rule i j t t' s _ _ #[.int (g i j),H,I.tok _,#[_,rfl],q]
def Q1{f:ac->ac->Sem ac}{g:Int->Int->Bool}(rule:∀(i j:Int)(t u:Tok)(s:bd)(Q:ac->bd->Prop)(E:ac->bd->Prop),Q (.bool (g i j)) s->wpAny `f X.A (f (.int i t) (.int j u)) Q E s):gP X f (JA λ i j=>.bl (g i j)):=by intro im s σ H x y v u Q I rx ry h;let#[i,j,rfl,rfl,q]:=h;let#[t,rfl]:=rx;let#[t',rfl]:=ry;exact rule i j t t' s _ _ #[.bl (g i j),H,I,rfl,q]
def S0(i j:Int):Prop:=0<j/\j<1073741824
def Wm(i j:Int):Prop:=0<=j/\j<=1000000/\i.natAbs<2^64
def uW(i j:Int):Prop:=(-(2^64)<i/\i<2^64)\/(-(2^64)<j/\j<2^64)
def uW.ok{i j:Int}(h:uW i j):IntMulOk i j:=by
 rcases h with⟨h1,h2⟩|⟨h1,h2⟩
 ·exact .of_left (intBits_le_64 h1 h2)
 ·exact .of_right (intBits_le_64 h1 h2)
def QZ:gP X (binaryOp .Add) (JA λ i j=>.int (i+j)):=Q0 λ _ _ _ _ _ _ _ q=>add_int q
def QK:gP X (binaryOp .Sub) (JA λ i j=>.int (i-j)):=Q0 λ _ _ _ _ _ _ _ q=>sub_int q
def QQ:gP X (binaryOp .Mult) (rI uW λ i j=>.int (i*j)):=WD λ _ _ _ _ _ _ _ hc q=>mul_int q hc.ok
def LK:gP X (binaryOp .FloorDiv) (rI S0 λ i j=>.int (i/j)):=WD λ i j _ _ _ _ _ hc q=>by have h1:(0:Int)<j:=hc.1;have h2:j<1073741824:=hc.2;exact floordiv_int () (Int.fdiv_eq_ediv_of_nonneg i ()>=q) (.inl (PyProof.noPylong_small ()))
def QR:gP X (binaryOp .Mod) (rI (λ _ j=>0<j) λ i j=>.int (i%j)):=WD λ i j _ _ _ _ _ hc q=>by have h1:(0:Int)<j:=hc;exact mod_int' () (Int.fmod_eq_emod_of_nonneg i ()>=q)
def QN:gP X (binaryOp .Pow) (rI Wm λ i j=>.int (i^j.toNat)):=WD λ _ _ _ _ _ _ _ hc q=>pow_int_small hc.1 hc.2.1 hc.2.2 q
def QJ:gP X (binaryOp .BitXor) (JA λ i j=>.int (Builtin.bitXor i j)):=Q0 λ _ _ _ _ _ _ _ q=>xor_int q
def unI{f:ac->Sem ac}{g:Int->Int}(rule:∀(i:Int)(t:Tok)(s:bd)(Q:ac->bd->Prop)(E:ac->bd->Prop),Q (.int (g i) s.toks) {s with toks:=s.toks+1}->wpAny `f X.A (f (.int i t)) Q E s):Xg X f (rU λ i=>.int (g i)):=by intro im s σ H x v Q I rx h;let#[i,rfl,q]:=h;let#[t,rfl]:=rx;exact rule i t s _ _ #[.int (g i),H,I.tok _,#[_,rfl],q]
def O9:Xg X (unaryOp .USub) (rU λ i=>.int (-(i))):=unI λ _ _ _ _ _ q=>neg_int q
end
def Ue:V->V->Bool
 | .bf,.bf=>true| .bf,.int _=>true| .int _,.bf=>true| .bf,.bl _=>true| .bl _,.bf=>true| .bf,.str _=>true| .str _,.bf=>true
 | .int _,.int _=>true| .bl _,.bl _=>true| .str _,.str _=>true| .Jh _,.Jh _=>true
 | .int _,.str _=>true| .str _,.int _=>true| .bl _,.str _=>true| .str _,.bl _=>true
 |_,_=>false
def rEq:R2:=λ x y H Q=>Ue x y=true/\Q (.bl (decide (x=y))) H
def rNe:R2:=λ x y H Q=>Ue x y=true/\Q (.bl (!decide (x=y))) H
def BP{i j:Int}:decide (V.int i=V.int j)=(i==j):=by rw[B0];simp
def IP{i j:Bool}:decide (V.bl i=V.bl j)=(i==j):=by rw[B0];simp
def BO{i j:Str}:decide (V.str i=V.str j)=(i==j):=by rw[B0];simp
def BQ{i j:Array UInt8}:decide (V.Jh i=V.Jh j)=(i.toList==j.toList):=by rw[B0];cases i;cases j;simp
section
variable {X:Cx}{a b c:Expr}{ta tb tc:TE}{pos:Pos}
def aY{σ:St}{H:Hp}{Q:VK}{k k':Bool}(I:nn X im σ H s)(q:Q (.bl k) H)(e:k=k'):EP X im σ Q (.bool k') s:=by subst e;exact#[.bl k,H,I,rfl,q]
def UX:gP X (compareOp .Eq) rEq:=by
 intro im s σ H x y v u Q I rx ry h;let#[hs,q]:=h;cases x with
 |bf=>
  cases rx;cases y with
  |bf=>cases ry;exact PySem.EqNone.eq_none_none (aY I q `g)
  |bl j=>cases ry;exact PySem.EqNone.eq_none_bool (aY I q `g)
  |int j=>let#[t',rfl]:=ry;exact PySem.EqNone.eq_none_int (aY I q `g)
  |str j=>let#[t',rfl]:=ry;exact PySem.EqNone.eq_none_str (aY I q `g)
  |_=>exact bi (show false=true from hs) o8
 |bl i=>
  cases rx;cases y with
  |bf=>cases ry;exact PySem.EqNone.eq_bool_none (aY I q `g)
  |bl j=>cases ry;exact eq_bool (aY I q IP)
  |str j=>let#[t',rfl]:=ry;exact PySem.EqMixed.eq_bool_str (aY I q `g)
  |_=>exact bi (show false=true from hs) o8
 |int i=>
  let#[t,rfl]:=rx;cases y with
  |bf=>cases ry;exact PySem.EqNone.eq_int_none (aY I q `g)
  |int j=>let#[t',rfl]:=ry;exact eq_int (aY I q BP)
  |str j=>let#[t',rfl]:=ry;exact PySem.EqMixed.eq_int_str (aY I q `g)
  |_=>exact bi (show false=true from hs) o8
 |str i=>
  let#[t,rfl]:=rx;cases y with
  |bf=>cases ry;exact PySem.EqNone.eq_str_none (aY I q `g)
  |bl j=>cases ry;exact PySem.EqMixed.eq_str_bool (aY I q `g)
  |int j=>let#[t',rfl]:=ry;exact PySem.EqMixed.eq_str_int (aY I q `g)
  |str j=>let#[t',rfl]:=ry;exact eq_str (aY I q BO)
  |_=>exact bi (show false=true from hs) o8
 |Jh i=>
  let#[t,rfl]:=rx;cases y with
  |Jh j=>let#[t',rfl]:=ry;exact PySem.W.eq_bytes (aY I q BQ)
  |_=>exact bi (show false=true from hs) o8
 |_=>cases y<;>exact bi (show false=true from hs) o8
def US:gP X (compareOp .NotEq) rNe:=by
 intro im s σ H x y v u Q I rx ry h;let#[hs,q]:=h;cases x with
 |bf=>
  cases rx;cases y with
  |bf=>cases ry;exact PySem.EqNone.ne_none_none (aY I q `g)
  |bl j=>cases ry;exact PySem.EqNone.ne_none_bool (aY I q `g)
  |int j=>let#[t',rfl]:=ry;exact PySem.EqNone.ne_none_int (aY I q `g)
  |str j=>let#[t',rfl]:=ry;exact PySem.EqNone.ne_none_str (aY I q `g)
  |_=>exact bi (show false=true from hs) o8
 |bl i=>
  cases rx;cases y with
  |bf=>cases ry;exact PySem.EqNone.ne_bool_none (aY I q `g)
  |bl j=>cases ry;exact ne_bool (aY I q (K8 not IP))
  |str j=>let#[t',rfl]:=ry;exact PySem.EqMixed.ne_bool_str (aY I q `g)
  |_=>exact bi (show false=true from hs) o8
 |int i=>
  let#[t,rfl]:=rx;cases y with
  |bf=>cases ry;exact PySem.EqNone.ne_int_none (aY I q `g)
  |int j=>let#[t',rfl]:=ry;exact ne_int (aY I q (K8 not BP))
  |str j=>let#[t',rfl]:=ry;exact PySem.EqMixed.ne_int_str (aY I q `g)
  |_=>exact bi (show false=true from hs) o8
 |str i=>
  let#[t,rfl]:=rx;cases y with
  |bf=>cases ry;exact PySem.EqNone.ne_str_none (aY I q `g)
  |bl j=>cases ry;exact PySem.EqMixed.ne_str_bool (aY I q `g)
  |int j=>let#[t',rfl]:=ry;exact PySem.EqMixed.ne_str_int (aY I q `g)
  |str j=>let#[t',rfl]:=ry;exact ne_str (aY I q (K8 not BO))
  |_=>exact bi (show false=true from hs) o8
 |Jh i=>
  let#[t,rfl]:=rx;cases y with
  |Jh j=>let#[t',rfl]:=ry;exact PySem.W.ne_bytes (aY I q (K8 not BQ))
  |_=>exact bi (show false=true from hs) o8
 |_=>cases y<;>exact bi (show false=true from hs) o8
def UT:gP X (compareOp .Lt) (JA λ i j=>.bl (decide (i<j))):=Q1 λ _ _ _ _ _ _ _ q=>lt_int q
def UU:gP X (compareOp .Gt) (JA λ i j=>.bl (decide (j<i))):=Q1 λ _ _ _ _ _ _ _ q=>gt_int q
def UW:gP X (compareOp .GtE) (JA λ i j=>.bl (decide (j<=i))):=Q1 λ _ _ _ _ _ _ _ q=>ge_int q
def DD:gP X (compareOp .In) (λ x y H Q=>∃i j,x=.str i/\y=.str j/\Q (.bl (!(Builtin.Str.occurrences j i 0 (-j) 1).isEmpty)) H):=by intro im s σ H x y v u Q I rx ry h;let#[i,j,rfl,rfl,q]:=h;let#[t,rfl]:=rx;let#[t',rfl]:=ry;exact in_str (aY I q rfl)
def QU:gP X (compareOp .Is) (λ x y H Q=>y=.bf/\Q (.bl (decide (x=.bf))) H):=by
 intro im s σ H x y v u Q I rx ry h;let#[rfl,q]:=h;cases ry;refine is_none_gen (aY I q ?_);cases x<;>first
  |(cases rx;rfl)
  |(let#[t,rfl]:=rx;rfl)
def gP.or{f:ac->ac->Sem ac}{r r':R2}(h:gP X f r)(h':gP X f r'):gP X f (λ x y H Q=>r x y H Q\/r' x y H Q):=by
 intro im s σ H x y v u Q I rx ry q;rcases q with q|q
 ·exact h im s σ H x y v u Q I rx ry q
 ·exact h' im s σ H x y v u Q I rx ry q
def LD{op:CmpOp}{r:R2}(ho:gP X (compareOp op) r)(ha:PE X a ta)(hb:PE X b tb)(hm:behindInMarks op b=false):PE X (.Compare a [op] [b] pos) (T3 r ta tb):=by intro im s σ H Q I h;exact wpAny_Compare1 (SH ha hb I h λ v u s2 x y H2 I2 rx ry q=>ho im s2 σ H2 x y v u Q I2 rx ry q) hm
def TX(t:TE):TT:=λ σ H Q=>t σ H λ x H'=>∃k,x=.bl k/\Q k H'
def Ll{op:CmpOp}{r:R2}(ho:gP X (compareOp op) r)(ha:PE X a ta)(hb:PE X b tb)(hm:behindInMarks op b=false):PT X (.Compare a [op] [b] pos) (TX (T3 r ta tb)):=by
 intro im s σ H Q I h;refine wpAny_isTrue_Compare1 (cZ (ha im s σ H _ I h) λ v s1 ⟨x,H1,I1,r1,q1⟩=>cZ (hb im s1 σ H1 _ I1 q1) λ u s2 ⟨y,H2,I2,r2,q2⟩=>
  cZ (ho im s2 σ H2 x y v u _ I2 r1 r2 q2) λ c s3 ⟨z,H3,I3,r3,k,e,q3⟩=>?_) hm
 subst e;cases r3;exact wpAny_truthy_bool #[H3,I3,q3]
def mr:(sizeLine:Nat)<2^63:=by rw[J8];decide
def yw:gP X (binaryOp .Add) (λ x y H Q=>∃i j,x=.str i/\y=.str j/\-i+-j<=sizeLine/\Q (.str (i++j)) H):=by intro im s σ H x y v u Q I rx ry h;let#[i,j,rfl,rfl,hz,q]:=h;let#[t,rfl]:=rx;let#[t',rfl]:=ry;exact add_str (λ t' tk=>#[.str (i++j),H,I.tok _,#[_,rfl],q]) hz
def vals1{x:V}(r:ut [x] us):∃u,us=[u]/\sK x u:=by
 cases r with
 |cons r1 r2=>cases r2;exact#[_,rfl,r1]
def vals2{x y:V}(r:ut [x,y] us):∃u w',us=[u,w']/\sK x u/\sK y w':=by
 cases r with
 |cons r1 r2=>
  cases r2 with
  |cons r3 r4=>cases r4;exact#[_,_,rfl,r1,r3]
def Em(hc:X.calm=true):dj X (.builtin "max") (λ xs H Q=>∃i j,xs=[.int i,.int j]/\Q (.int (if GT.gt j i then j else i)) H):=by
 intro im s σ H xs us Q I r h;let#[i,j,rfl,q]:=h;let#[u,w',rfl,#[t,rfl],#[t',rfl]]:=vals2 r;refine max_two_ints (I.ok.hd hc) λ h' tk k=>#[_,H,I.kept k,?_,q];by_cases hj:GT.gt j i
 ·rw[L1 hj,L1 hj];exact#[_,rfl]
 ·rw[L7 hj,L7 hj];exact#[_,rfl]
def Ep:dj X (.type "int") (λ xs H Q=>(∃i,xs=[.int i]/\Q (.int i) H)\/∃k,xs=[.bl k]/\Q (.int (if k then 1 else 0)) H):=by
 intro im s σ H xs us Q I r h;rcases h with⟨i,rfl,q⟩|⟨k,rfl,q⟩
 ·let#[u,rfl,t,rfl]:=vals1 r;exact call_int_int #[.int i,H,I,#[_,rfl],q]
 ·let#[u,rfl,r1]:=vals1 r;cases r1;exact call_int_bool #[.int (if k then 1 else 0),H,I.tok _,#[_,rfl],q]
end
structure SS(h:Heap)(x dx C:be)(mA:Str->Option ac):Prop where
 obj:h.get? x>PySem.W.instObj C dx
 ns:h.Ns1 dx mA
 ne:dx≠x
set_option tactic.hygienic true in
def DM{h:Heap}{dx:be}(n:h.Ns1 dx mA):∃od,h.get? dx>od/\∀name,PySem.W.lookIn name od>mA name:=by
 let#[o,es,ep,ho,hd,hk,_,hm]:=n;refine#[o,ho,λ name=>?_];have e:=hm name;unfold nsFind findBy at e;rw[<- Array.find?_toList]at e;unfold PySem.W.lookIn;rw[hd];dsimp only;split
 ·rename_i y q;rw[q]at e;exact K8 some e
 ·rename_i q;rw[q]at e;have a:es.toList.any (·.refKey)=false:=by rw[List.any_eq_false];intro y hy;let#[z,t,eW]:=hk y (Array.mem_toList_iff.mp hy);simp[DictEntry.refKey,eW]
  have a':¬es.toList.any (·.refKey)=true:=a>=o8
  rw[L7 a'];exact K8 some e
def SS.look{h:Heap}{x dx C:be}(I:SS h x dx C mA):∃od,PySem.W.InstAt h x (PySem.W.instObj C dx) C (some od)/\∀name,PySem.W.lookIn name od>mA name:=
 let⟨od,ho,hl⟩:=DM I.ns
 #[od,#[I.obj,rfl,rfl,ho],hl]
def lQ.some_of{v:V}{o:Option ac}(r:lQ (some v) o):∃u,o>u/\sK v u:=by
 cases o with
 |none=>exact(show False from r).elim
 |some u=>exact#[u,rfl,r]
section
variable {H H':Hp}{h:Heap}{C dx:be}{fs fs':List (Str×V)}
def MC(aX:iF P w H h)(e:H a>(.ins C dx fs)):∃mA,SS h a dx C mA/\(∀f,lQ (fs.lookup f) (mA f))/\PySem.Within mA (fs.map (·.1))/\-fs<=1000/\H dx>(.own a):=by let#[d,z,ne,ob,mA,n,r,q]:=(show br P w H h a (.ins C dx fs)from aX a _ e);exact#[mA,#[ob,n,ne],r,q,z,d]
end
structure Cls(K:L8)(C:be):Prop where
 pg:PySem.W.plainGet K C Str.empty=true
 hd:PySem.W.hasDictIn K C=true
 po:PySem.W.plainOver K C=true
 sa:PySem.W.findIn K (.ref C) "__setattr__">(some (.builtin "object.__setattr__"))
def Cls.get{C:be}(c:Cls K C)(f:Str):PySem.W.plainGet K C f=true:=c.pg
section
variable {X:Cx}{σ:St}{H:Hp}{c:ac}{b:Bool}
inductive nE(K:L8)(H:Hp):V->ac->Prop where
 |bf:nE K H .bf (.type "NoneType")
 |bl (x:Bool):nE K H (.bl x) (.type "bool")
 |int (i:Int):nE K H (.int i) (.type "int")
 |str (x:Str):nE K H (.str x) (.type "str")
 |Tr (x:UInt64):nE K H (.Tr x) (.type "float")
 |lst {a:be} {xs:List V} (e:H a>`J):nE K H `z (.type "list")
 |cQ {a:be} {o:Obj} {xs:List V} (e:H a>(.cQ o `J)):nE K H `z (.type "list")
 |tup {a:be} {xs:List V} (e:H a>(.tup xs)):nE K H `z (.type "tuple")
 |dK {a:be} {kvs:List (Key×V)} (e:H a>(.dK kvs)):nE K H `z (.type "dict")
 |dT {a:be} {kvs:List (List Key×V)} (e:H a>(.dT kvs)):nE K H `z (.type "dict")
 |ins {a C dx:be} {fs:List (Str×V)} (e:H a>(.ins C dx fs)) (cl:Cls K C) (ha:PySem.W.findIn K (.ref C) "__class__">(some (.builtin "object.__class__")))
   (hn:PySem.W.specialIn K (.builtin "object.__class__") "__get__">(some (.builtin "getset_descriptor.__get__"))) (htk:PySem.W.takesIn K (.builtin "object.__class__")>true)
   (hm:PySem.W.mroIn K C (.type "object")>true):nE K H `z (.ref C)
def jJ{x:V}{t:ac}(I:nn X im σ H s)(rx:sK x u)(ty:nE X.K H x t)(e:PySem.W.kitOne X.K t c>b)(h:∀tk,Q (.bool b) {s with toks:=tk}):wpAny `f A (call (.builtin "isinstance") [u,c]) Q E s:=by
 cases ty with
 |bf=>cases(show u=Value.none from rx);exact C0 PySem.W.kitx_none I.qN True.intro e (λ z=>nomatch z) h
 |bl y=>cases(show u=Value.bool y from rx);exact C0 PySem.W.kitx_bool I.qN True.intro e (λ z=>nomatch z) h
 |int i=>let#[t,q]:=(show ∃t,u=Value.int i t from rx);cases q;exact C0 PySem.W.kitx_int I.qN True.intro e (λ z=>nomatch z) h
 |str y=>let#[t,q]:=(show ∃t,u=Value.str y t from rx);cases q;exact C0 PySem.W.kitx_str I.qN True.intro e (λ z=>nomatch z) h
 |Tr y=>let#[t,q]:=(show ∃t,u=Value.float y t from rx);cases q;exact C0 PySem.W.kitx_float I.qN True.intro e (λ z=>nomatch z) h
 |@lst a xs ea=>cases(show u=Value.ref a from rx);let#[_,_,n,_,h1]:=(show br X.prog X.w H s.heap a `J from I.aX a _ ea);exact C0 PySem.W.kitx_list I.qN #[_,h1,rfl] e (λ z=>nomatch z) h
 |@cQ a ob xs ea=>cases(show u=Value.ref a from rx);let#[_,_,_,n,_,h1]:=(show br X.prog X.w H s.heap a (.cQ ob `J)from I.aX a _ ea);exact C0 PySem.W.kitx_list I.qN #[_,h1,rfl] e (λ z=>nomatch z) h
 |@tup a xs ea=>cases(show u=Value.ref a from rx);let#[_,_,_,p]:=(show br X.prog X.w H s.heap a (.tup xs)from I.aX a _ ea);let#[o,h1,h2,_]:=p;exact C0 PySem.W.kitx_tuple I.qN #[o,h1,h2] e (λ z=>nomatch z) h
 |@dK a kvs ea=>cases(show u=Value.ref a from rx);let#[_,_,vs,_,p]:=(show br X.prog X.w H s.heap a (.dK kvs)from I.aX a _ ea);let#[o,es,ep,h1,h2,_]:=p;exact C0 PySem.W.kitx_dict I.qN #[o,h1,h2.1] e (λ z=>nomatch z) h
 |@dT a kvs ea=>cases(show u=Value.ref a from rx);let#[_,_,xs,_,o,es,ep,h1,h2,_]:=(show br X.prog X.w H s.heap a (.dT kvs)from I.aX a _ ea);exact C0 PySem.W.kitx_dict I.qN #[o,h1,h2.1] e (λ z=>nomatch z) h
 |@ins a C dx fs ea cl ha hn htk hm=>cases(show u=Value.ref a from rx);let#[mA,O,_]:=MC I.aX ea;let#[od,J,_]:=O.look;exact C0 (PySem.W.kitx_own (cl.get _) cl.hd ha hn htk hm) I.qN J e (λ z=>nomatch z) h
end
structure cz(k:Nat)(A:Around):Prop where
 hd:A.handled=none
 dp:A.depth+2*k+5<recursionLimit
 un:A.units+16*k+200<cLine
def cz.mono(r:cz k A)(h:j<=k):cz j A:=#[r.hd,by have:=r.dp;lia,by have:=r.un;lia]
theorem cz.deeper(r:cz (k+1) A)(env:Env):cz k (A.deeper env):=
 #[r.hd,by have:=r.dp;show A.depth+1+2*k+5 < _;lia,by have:=r.un;show A.units+3+16*k+200 < _;lia]
theorem cz.in1(r:cz (k+1) A):cz k A.in1:=
 #[r.hd,by have:=r.dp;show A.depth+2*k+5 < _;lia,by have:=r.un;show A.units+1+16*k+200 < _;lia]
theorem cz.depth(r:cz k A):A.depth<recursionLimit:=by have:=r.dp;lia
theorem cz.units(r:cz k A):A.units+64<cLine:=by have:=r.un;lia
def Pf:TA:=λ _ H Q=>Q [] H
def Fe(ta:TE)(tr:TA):TA:=λ σ H Q=>ta σ H λ x H1=>tr σ H1 λ xs H2=>Q (x::xs) H2
section
variable {X:Cx}{te:TE}{t:TA}{pos:Pos}
def pI:PA X [] Pf:=λ _ _ _ _ H Q I h=>Calls.spliced_nil #[[],H,I,.nil,h]
def lq(ha:PE X e te)(hr:PA X es t)(hs:kB X e es:=by rfl):PA X (e::es) (Fe te t):=by intro pos im s σ H Q I h;rw[hs];show wpAny _ _ (spliced ((false,eval e X.env)::backTo pos (starEach es X.env))) _ _ s;refine Calls.spliced_cons (cZ (ha im s σ H _ I h) λ u s1 ⟨x,H1,I1,r1,q1⟩=>?_);exact cZ (hr pos im s1 σ H1 _ I1 q1) λ us s2 ⟨xs,H2,I2,r2,q2⟩=>#[x::xs,H2,I2,.cons r1 r2,q2]
def XB(t:TA):TE:=λ σ H Q=>t σ H λ xs H1=>-xs<=sizeLine/\∀p,H1 p=none->Q `j (u8 H1 p (.tup xs))
def XE(t:TA):TE:=λ σ H Q=>t σ H λ xs H1=>-xs<=sizeLine/\∀p,H1 p=none->Q `j (u8 H1 p `J)
def Qt{x1:_}(h:PA X es t):PE X (.Tuple es x1 pos) (XB t):=by intro im s σ H Q I hq;refine wpAny_Tuple_spliced (cZ (h pos im s σ H _ I hq) λ us s1 ⟨xs,H1,I1,r,z,q⟩=>#[by rw[<- -r];exact z,?_]);have hf:H1 s1⁻¹=none:=I1.aX.fresh `G;refine#[.ref s1⁻¹,u8 H1 s1⁻¹ (.tup xs),I1.laid (t':=s1.toks) (λ b u e=>j4 _ e) `G ?_,rfl,q _ hf];exact#[z,us,r,#[_,n5 _ rfl,rfl,_,rfl]]
def Qx(h:PA X es t):PE X (.List es pos) (XE t):=by intro im s σ H Q I hq;refine wpAny_List_spliced (cZ (h pos im s σ H _ I hq) λ us s1 ⟨xs,H1,I1,r,z,q⟩=>#[by rw[<- -r];exact z,?_]);have hf:H1 s1⁻¹=none:=I1.aX.fresh `G;refine#[.ref s1⁻¹,u8 H1 s1⁻¹ `J,I1.laid (t':=s1.toks) (λ b u e=>j4 _ e) `G ?_,rfl,q _ hf];exact#[z,us,0,r,n5 _ rfl]
end
abbrev Sp:=List V->Hp->VK->XK->Prop
abbrev Ju:=List Env->Hp->bd->XK->ac->bd->Prop
structure kJ(P:Program)(w:World)(K:L8)(mg:Str->Option ac)(base:Heap)(A:Around)(outer:List Env)(s:bd)(H:Hp):Prop where
 frames:A.frames>outer
 mod:Mod K mg base
 bs:∀b o,base.get? b>o->s.heap.get? b>o/\H b=none
 Cm:base.objs.size<=s⁻¹
 jS:s.heap.FunFrames base outer
 JI:∀b∈vd outer,H b=none
 aX:iF P w H s.heap
 bare:AllBare s.gens
def CE(outer:List Env)(P:Program)(w:World)(H:Hp)(s:bd)(Q:VK)(u:ac)(s':bd):Prop:=
 ∃v H',s'.os=s.os/\AllBare s'.gens/\Un (vd outer) [] H H' s.heap s'.heap/\iF P w H' s'.heap/\sK v u/\Q v H'
def CR(CX:Ju)(outer:List Env)(P:Program)(w:World)(H:Hp)(s:bd)(Q:VK)(E:XK)(r:Result)(s':bd):Prop:=
 match r with
 | .ok (.ret u)=>CE outer P w H s Q u s'
 | .ok _=>False
 | .error e=>CX outer H s E e s'
structure bS(P:Program)(w:World)(K:L8)(mg:Str->Option ac)(base:Heap)(CX:Ju)(k:Nat)(f:be)(fd:FuncData)(ps:List Str)(sp:Sp):Prop where
 len:∀vs H Q E,sp vs H Q E->-vs=-ps
 run:∀(A:Around)(outer:List Env)(s:bd)(H:Hp)(args:Args)(us:List ac)(vs:List V)(Q:VK)(E:XK),cz k A->kJ P w K mg base A outer s H->BindsTo s fd args (ps.zip us)->ut vs us->sp vs H Q E->
  codeAny (model P w) A (.call `C args) (CR CX outer P w H s Q E) s
theorem kJ.in1{H:Hp}(e:kJ P w K mg base A outer s H):kJ P w K mg base A.in1 outer s H:=#[e.frames,e.mod,e.bs,e.Cm,e.jS,e.JI,e.aX,e.bare]
section
variable {X:Cx}{σ:St}{H:Hp}
def nn.Nh(I:nn X im σ H s):kJ X.prog X.w X.K X.mg X.base X.A X.stack s H:=
 #[I.ok.frames,I.ok.mod,I.bs,G9 I.ok.Cm I.sz,I.stack,I.sW,I.aX,I.bare]
def nn.after{Q:VK}(I:nn X im σ H s)(h:CE X.stack X.prog X.w H s Q u s'):EP X im σ Q u s':=by let#[v,H',os,bare,un,aX,r,q]:=h;let#[hh,g,d,t,Ya]:=s';obtain rfl:Ya=s.os:=os;exact#[v,H',I.call (h':=hh) (g':=g) (d':=d) (t':=t) (ch:=[]) un aX bare (λ b z=>bi z `g),r,q]
end
def NW(sp:Sp)(ve:List V)(E:XK)(t:TA):TE:=λ σ H Q=>t σ H λ vs H1=>sp (vs++ve) H1 Q E
def Binds(K:L8)(fd:FuncData)(ps:List Str)(ds:List ac):Prop:=
 ∀(s:bd)(us:List ac),K.In s.heap->(us++ds).length=-ps->BindsTo s fd #[us,[]] (ps.zip (us++ds))
def Binds.all(h:∀us:List ac,-us=-ps->bindArgs fd #[us,[]]=pure (ps.zip us)):Binds K fd ps []:=λ s us _ hl=>by rw[B1]at hl ⊢;exact .of_eq (h us hl)
def Passes(CX:Ju)(X:Cx)(E:XK):Prop:=∀(im:List (be×Obj))(σ:St)(H:Hp)(s:bd)(e:ac)(s':bd),nn X im σ H s->CX X.stack H s E e s'->X.xe e s'
section
variable {X:Cx}{CX:Ju}{C:be}{sp:Sp}{ve:List V}{ds:List ac}{E:XK}{m:Str}{p pos:Pos}{o:Expr}{ta:TE}{t:TA}
def Pz{σ:St}{H:Hp}{Q:VK}{vs:List V}(F:bS X.prog X.w X.K X.mg X.base CX k f fd ps sp)(hr:cz k X.A)(hb:Binds X.K fd ps ds)(hd:ut ve ds)(hx:Passes CX X E)(I:nn X im σ H s)(r:ut vs us)(h:sp (vs++ve) H Q E):wpAny `f X.A (call `C us) (EP X im σ Q) X.xe s:=by
 have r2:ut (vs++ve) (us++ds):=r.append hd;have hl:(us++ds).length=-ps:=by rw[<- -r2];exact F.len _ _ _ _ h
 refine wpAny_call (J4 (F.run X.A X.stack s H #[us,[]] (us++ds) (vs++ve) Q E hr I.Nh (hb s us I.qN hl) r2 h) λ r s' hq=>?_);cases r with
 |error e=>exact hx im σ H s e s' I hq
 |ok fl=>
  cases fl with
  |ret u=>exact I.after hq
  |next=>exact False.elim hq
  |brk=>exact False.elim hq
  |cont=>exact False.elim hq
def AI(F:bS X.prog X.w X.K X.mg X.base CX k f fd ps sp)(hr:cz k X.A)(hg:Gl X x)(hm:X.mg x>`C)(hk:PySem.W.keepIn X.K `C=true)(hb:Binds X.K fd ps ds)(hd:ut ve ds)(hx:Passes CX X E)(ha:PA X (e::es) t)(nh:qF x:=by decide)(he:kB X e es:=by rfl)(gR:uX X pos es:=by rfl):PE X `y (NW sp ve E t):=by intro im s σ H Q I h;refine q9 (Be I hg hm ?_ nh);refine PySem.W.callWith_K (h₀:=X.base) I.ok.mod.Vf hk (cZ (ha pos im s σ H _ I h) λ us s1 ⟨vs,H1,I1,r,q⟩=>#[I1.qN,?_]) he gR;exact Pz F hr hb hd hx I1 r q
end
def PK(X:Cx)(Vd:List Keyword)(t:TA):Prop:=
 ∀(pos:Pos)(im:List (be×Obj))(s:bd)(σ:St)(H:Hp)(Q:List V->Hp->Prop),nn X im σ H s->t σ H Q->wpAny `f X.A (evalAll ((backToKw pos (keywordEach Vd X.env)).map (·.2))) (AP X im σ Q) X.xe s
section
variable {X:Cx}{CX:Ju}{C:be}{ks:List Str}{sp:Sp}{E:XK}{m:Str}{p pos Yt:Pos}{o:Expr}{Vd:List Keyword}{te ta:TE}{t tk:TA}{nm:Option Str}
def Qq:PK X [] Pf:=λ _ _ _ _ H Q I h=>wpAny_evalAll_nil #[[],H,I,.nil,h]
def Lu(ha:PE X e te)(hr:PK X Vd t):PK X (#[nm,e,Yt]::Vd) (Fe te t):=by intro pos im s σ H Q I h;show wpAny _ _ (evalAll ((do let v <- eval e X.env;standAt pos;pure v)::(backToKw pos (keywordEach Vd X.env)).map (·.2))) _ _ s;refine wpAny_evalAll_cons (K1 (cZ (ha im s σ H _ I h) λ u s1 ⟨x,H1,I1,r1,q1⟩=>K1 (wpAny_standAt (K3 ?_))));exact cZ (hr pos im s1 σ H1 _ I1 q1) λ us s2 ⟨xs,H2,I2,r2,q2⟩=>#[x::xs,H2,I2,.cons r1 r2,q2]
variable {g:List ac->List ac->List ac}{gV:List V->List V->List V}
end
structure ir(N P:List Str)(sc:Scope):Prop where
 kind:sc.kind=.function
 co:sc.isCoroutine=false
 gen:sc.isGenerator=false
 nd:N.Nodup
 pre:N.take (-P)=P
 par:∀x∈P,sc.names.lookup x>.local\/sc.names.lookup x>.cell
 Rc:∀y∈sc.names,y.2≠.free
theorem sJ:∀{binds:List (Str×ac)} {m:Str->Option ac},(∀v,(x,v)∉binds)->bindL kindOf binds m x=m x
 |[],_,_=>rfl
 |(n,v)::r,m,h=>by
  unfold bindL;rw[sJ λ w hw=>h w (k8 _ hw)];split
  ·have:x≠n:=by rintro rfl;exact h v o7
   simp[this]
  ·rfl
theorem sM:∀{binds:List (Str×ac)} {m:Str->Option ac},(∀v,(x,v)∉binds)->bindC kindOf binds m x=m x
 |[],_,_=>rfl
 |(n,v)::r,m,h=>by
  unfold bindC;rw[sM λ w hw=>h w (k8 _ hw)];split
  ·rfl
  ·have:x≠n:=by rintro rfl;exact h v o7
   simp[this]
theorem sL{v:ac}:∀{P:List Str} {vs:List ac} {i:Nat} {m:Str->Option ac},P.Nodup->P[i]?>x->vs[i]?>v->kindOf x>.local->
  bindL kindOf (P.zip vs) m x>v
 |[],_,_,_,_,h,_,_=>by simp at h
 |_::_,[],_,_,_,_,h,_=>by simp at h
 |p::P,w::vs,0,m,nd,h1,h2,hk=>by simp at h1 h2;subst h1;subst h2;show bindL kindOf ((p,w)::P.zip vs) m p=_;unfold bindL;rw[sJ λ v hv=>(nodup_cons.mp nd).1 (of_mem_zip hv).1,L1 hk];simp
 |p::P,w::vs,i+1,m,nd,h1,h2,hk=>by show bindL kindOf ((p,w)::P.zip vs) m x=_;unfold bindL;exact sL (i:=i) (nodup_cons.mp nd).2 (~~~h1) (~~~h2) hk
theorem sN{v:ac}:∀{P:List Str} {vs:List ac} {i:Nat} {m:Str->Option ac},P.Nodup->P[i]?>x->vs[i]?>v->kindOf x≠some .local->
  bindC kindOf (P.zip vs) m x>v
 |[],_,_,_,_,h,_,_=>by simp at h
 |_::_,[],_,_,_,_,h,_=>by simp at h
 |p::P,w::vs,0,m,nd,h1,h2,hk=>by simp at h1 h2;subst h1;subst h2;show bindC kindOf ((p,w)::P.zip vs) m p=_;unfold bindC;rw[sM λ v hv=>(nodup_cons.mp nd).1 (of_mem_zip hv).1,L7 hk];simp
 |p::P,w::vs,i+1,m,nd,h1,h2,hk=>by show bindC kindOf ((p,w)::P.zip vs) m x=_;unfold bindC;exact sN (i:=i) (nodup_cons.mp nd).2 (~~~h1) (~~~h2) hk
def start(N:List Str)(vs:List V):St:=vs.map some++List.replicate (-N-vs.length) none
def qT(CX:Ju)(P:Program)(w:World)(K:L8)(mg:Str->Option ac)(base:Heap)(N:List Str)(qual:Str)(scope:Scope)(f:be)(cd:ac)(A:Around)(outer:List Env)(s:bd)(H:Hp)(E:XK):Cx where
 prog:=P
 w:=w
 K:=K
 mg:=mg
 base:=base
 A:=A.deeper (envOfC qual scope s⁻¹ f cd)
 N:=N
 s₀:=s
 H₀:=H
 env:=envOfC qual scope s⁻¹ f cd
 outer:=outer
 stack:=envOfC qual scope s⁻¹ f cd::outer
 ex:=[]
 calm:=true
 fn:=λ _=>true
 pn:=[]
 xe:=λ e s'=>wpAny (model P w) (A.deeper (envOfC qual scope s⁻¹ f cd)) (leaving (envOfC qual scope s⁻¹ f cd) e) (λ _ S8=>CX outer H s E e S8) (λ e' S8=>CX outer H s E e' S8) s'
def xf{sc:Scope}(h:sc.names.lookup x>.cell):∃c,(cellsFrom n sc.names []).lookup x>c:=by have q:=PySem.W.cellsFrom_some sc.names n [] (.inl h);exact Option.isSome_iff_exists.mp q
def DV{CX:Ju}{N:List Str}{cd:ac}{s1:bd}{H:Hp}{E:XK}{vs:List V}(S:ir N ps scope)(hd:A.handled=none)(e0:kJ P w K mg base A outer s H)(hl:-vs=-ps)(r:ut vs us)(x:InCallC s s⁻¹ (bindL (envOfC qual scope s⁻¹ f cd).kindOf (ps.zip us) λ _=>none) (cellsFrom (s⁻¹+1) scope.names []) (bindC (envOfC qual scope s⁻¹ f cd).kindOf (ps.zip us) λ _=>none) s1):nn (qT CX P w K mg base N qual scope f cd A outer s H E) [] (start N vs) H s1:=by
 have gR:-ps<=-N:=by have:=K8 List.length S.pre;rw[A3]at this;lia
 let#[h1,tk,rfl,hk]:=x.done;have Hi:∀b:be,b∉(qT CX P w K mg base N qual scope f cd A outer s H E).ex:=λ b z=>bi (show b∈([]:List be)from z) `g;refine⟨#[e0.mod,S.kind,rfl,rfl,J7 _,λ y z c h1 h2=>?_,λ y hy=>?_,λ y c _ h=>?_,λ _=>hd,Around.frames_deeper e0.frames,.inr #[rfl,rfl],λ b z=>bi z (Hi b),e0.bs,e0.Cm,λ b _ _=>Hi b,λ b z=>bi z (Hi b),e0.jS,e0.JI],
  rfl,e0.bare,Un.kept hk,#[_,x.toInCall.ns,λ i y v h1 h2 h3=>?_],λ y c h=>#[_,x.cell y c h],e0.aX.fresh `G,λ y c h=>?_,λ p hp=>bi (show p∈([]:List (be×Obj))from hp) `g,e0.aX.kept hk,?_⟩
 ·exact name_of_addr x.apart (m7 h1) (m7 h2)
 ·have hy:scope.names.lookup y>.cell\/scope.names.lookup y>.free:=hy;rcases hy with hy|hy
  ·exact xf hy
  ·exact bi rfl (S.Rc _ (m7 hy))
 ·exact J6 (x.above y c (m7 h))
 ·have hi:i< -vs:=by
   unfold start at h2;by_cases hi:i< -vs
   ·exact hi
   ·rw[b7 (~~~hi)]at h2;rw[i8]at h2;split at h2<;>cases h2
  have ha:vs[i]?>v:=by
   unfold start at h2;rw[c7 (~~~hi),w6]at h2;cases e:vs[i]? with
   |none=>rw[e]at h2;cases h2
   |some a=>rw[e]at h2;cases h2;rfl
  let#[u,hu,rv]:=r.get ha;have hp:ps[i]?>y:=by rw[<- S.pre,getElem?_take_of_lt ()];exact h1
  have ndP:ps.Nodup:=by rw[<- S.pre];exact S.nd.sublist (take_sublist _ _)
  refine#[u,rv,?_];rcases S.par y (k9 hp)with k|k
  ·exact .inl #[k,sL ndP hp hu k]
  ·let#[c,e]:=xf (n:=s⁻¹+1) k;refine .inr #[.inl k,c,e,?_];have q:=x.cell y c e;rw[sN ndP hp hu (by show scope.names.lookup y≠_;rw[k];decide)]at q;exact q
 ·exact e0.aX.fresh (J6 (x.above y c (m7 h)))
 ·unfold start;show _=-N;rw[p4,C1,k5];lia
def OL{CX:Ju}{P:Program}{w:World}{K:L8}{mg:Str->Option ac}{base:Heap}{k:Nat}{f:be}{name qual:Str}{params:Arguments}{body:List Stmt}{scope:Scope}{dV kV doc pm dF ct oc:ac}{an od:Option be}{yt:Array (Option ac)}{N ps:List Str}{sp:Sp}(lk:K.lookup f>#[oc,od,.func (PySem.W.fnOf name qual params body scope dV kV doc pm an dF ct),yt])(qD:PySem.W.codeIn K dF qual=true)(S:ir N ps scope)(len:∀vs H Q E,sp vs H Q E->-vs=-ps) (eJ:∀(A:Around)(outer:List Env)(s:bd)(H:Hp)(vs:List V)(Q:VK)(E:XK),cz k (A.deeper (envOfC qual scope s⁻¹ f dF))->sp vs H Q E->
   ∃t,xw (qT CX P w K mg base N qual scope f dF A outer s H E) body t/\t {nx:=λ _ H'=>Q .bf H',rt:=Q} (start N vs) H):
  bS P w K mg base CX (k+1) f (PySem.W.fnOf name qual params body scope dV kV doc pm an dF ct) ps sp:=by
 refine#[len,λ A outer s H args us vs Q E hr e0 hb r DZ=>?_];have hl:=len _ _ _ _ DZ;have KX:K.In s.heap:=e0.mod.Vf.keeps λ b o e=>(e0.bs b o e).1;have lim:s.heap.NoLimit:=e0.mod.nolimit.keeps λ b o e=>(e0.bs b o e).1;have mM:∀y∈ps.zip us,scope.names.lookup y.1>.local\/(scope.names.lookup y.1>.cell/\((cellsFrom (s⁻¹+1) scope.names []).lookup y.1).isSome=true):=λ⟨n,v⟩ hy=>by
  rcases S.par n (of_mem_zip hy).1 with q|q
  ·exact .inl q
  ·exact .inr #[q,PySem.W.cellsFrom_some _ _ _ (.inl q)]
 refine codeAny_call_function hr.depth (KX _ _ lk) rfl S.co S.gen rfl (PySem.W.codeRec_of KX qD) (hb _ _ _ _ ?_);refine wpAny_newFunctionEnv_cells S.kind mM λ env he s1 x=>?_;subst he;refine#[lim.keeps x.toInCall.keep,codeAny_func ?_];let#[t,ht,hq]:=eJ A outer s H vs Q E (hr.deeper _) DZ;have I:nn (qT CX P w K mg base N qual scope f dF A outer s H E) [] (start N vs) H s1:=DV S hr.hd e0 hl r x;refine K6 (ht [] s1 (start N vs) H _ I hq) (λ fl s' hs=>?_) λ e s' hs=>hs;have fin:∀{σ':St} {H':Hp} {v:V} {u:ac},nn (qT CX P w K mg base N qual scope f dF A outer s H E) [] σ' H' s'->sK v u->Q v H'->CE outer P w H s Q u s':=
  λ{σ' H' v u} J rv q=>#[v,H',J.os,J.bare,J.base,J.aX,rv,q]
 cases fl with
 |ret u=>let#[v,σ',H',J,rv,q]:=hs;exact fin J rv q
 |next=>let#[σ',H',J,q]:=hs;exact fin (v:=V.bf) (u:=Value.none) J rfl q
 |brk=>let#[_,_,_,q]:=hs;exact False.elim q
 |cont=>let#[_,_,_,q]:=hs;exact False.elim q
section
variable {X:Cx}{p pos:Pos}{t:TA}{id:String}{r:List V->Hp->VK->Prop}
def Wu(r:List V->Hp->VK->Prop)(t:TA):TE:=λ σ H Q=>t σ H λ vs H1=>r vs H1 Q
def vQ(hc:dj X (.builtin id) r)(hg:Gl X x)(hm:X.mg x=none)(hv:bootBuiltins x>(.builtin id))(ha:PA X (e::es) t)(hn:x≠"__name__":=by decide)(nh:qF x:=by decide)(he:kB X e es:=by rfl)(gR:uX X pos es:=by rfl):PE X `y (Wu r t):=by intro im s σ H Q I h;refine q9 (fB I hg hm hv ?_ hn nh);exact PyProof.Rows.callWith_builtin1 (cZ (ha pos im s σ H _ I h) λ us s1 ⟨vs,H1,I1,r1,q1⟩=>hc im s1 σ H1 vs us Q I1 r1 q1) he gR
def gC(hc:dj X (.type T) r)(hg:Gl X x)(hm:X.mg x=none)(hv:bootBuiltins x>(.type T))(ha:PA X (e::es) t)(hn:x≠"__name__":=by decide)(nh:qF x:=by decide)(he:kB X e es:=by rfl)(gR:uX X pos es:=by rfl):PE X `y (Wu r t):=by intro im s σ H Q I h;refine q9 (fB I hg hm hv ?_ hn nh);exact a8 (cZ (ha pos im s σ H _ I h) λ us s1 ⟨vs,H1,I1,r1,q1⟩=>hc im s1 σ H1 vs us Q I1 r1 q1) he gR
end
end L2
variable {X:L2.Cx}{H H1 H':L2.Hp}{xs:List L2.V}{σ:L2.St}{kvs:List (List L2.Key×L2.V)}{v:L2.V}{sp:L2.Sp}
namespace HT
open PyProof.Rows
def lexLt:List Int->List Int->Bool
 |[],[]=>false
 |[],_::_=>true
 |_::_,[]=>false
 |x::xs,y::ys=>if x=y then lexLt xs ys else decide (x<y)
def cb(x y:Int)(xs ys:List Int):lexLt (x::xs) (y::ys)=if x=y then lexLt xs ys else decide (x<y):=rfl
def cM:lexLt [] []=false:=rfl
def cp(y:Int)(ys:List Int):lexLt [] (y::ys)=true:=rfl
def cu(x:Int)(xs:List Int):lexLt (x::xs) []=false:=rfl
def IG(A:Around)(s:bd)(a:Int)(t:Tok)(c:Int)(u:Tok):∃e,SeqAt.EqAt A s (.int a t) (.int c u) e/\(e=true↔a=c):=
 #[(a==c),SeqAt.EqAt.int_int a t c u,by simp]
def pE(A:Around)(s:bd)(a:Int)(t:Tok)(c:Int)(u:Tok)(prog:Program)(w:World)(E:ac->bd->Prop)(Q:ac->bd->Prop)(h:Q (.bool (decide (a<c))) s):wpAny `d A (richCompare .Lt (.int a t) (.int c u)) Q E s:=
 (PyProof.Rows.lt_int h:wpAny `d A (compareOp .Lt (.int a t) (.int c u)) Q E s)
section
open PySem.SeqAt
open PySem.AutoSeq1 (wpAny_loadPart')
open PySem.MeetsSeq PySem.MeetsSeq2 PySem.MeetsSeq3
def qH(l b:be)(li gj:Array ac)(n n2:Nat)(dd Ts:Option be)(sl S7:Array (Option ac))(ns ms:List Int)(hi:IntsAre li.toList ns)(hj:IntsAre gj.toList ms):Meets (Builtin.«tuple.__lt__» #[[.ref l,.ref b],[]])
   (λ _ R s=>s.heap.get? l>{cls:=.type "tuple",dict:=dd,data:=.seq li n,slots:=sl}/\s.heap.get? b>{cls:=.type "tuple",dict:=Ts,data:=.seq gj n2,slots:=S7}/\
    R (.ok (.ret (.bool (lexLt ns ms)))) s):=
 .of_wp λ prog w A R s h=>by
  let#[hp,g,d,tk,os]:=s;let#[hl,hb,h]:=h;have f2:=AutoSeq1.sub_tuple_tuple;have z1:li.size=-ns:=by rw[<- -hi];simp
  have z2:gj.size=-ms:=by rw[<- -hj];simp
  wp_walk using B5 hl,B5 hb,wpAny_forIn_list _ (λ rest b s'=>b.1=none/\s'=#[hp,g,d,tk,os]/\∃(vs ws:List ac)(iz S9:List Int),rest=vs.zip ws/\
   IntsAre vs iz/\IntsAre ws S9/\-iz+gj.size=-S9+li.size/\R (.ok (.ret (.bool (lexLt iz S9)))) #[hp,g,d,tk,os]) _
  case turn=>
   rintro⟨y,x⟩ rest b s' ⟨MX,rfl,vs,ws,iz,S9,hz,YK,WQ,hlen,hR⟩;cases YK with
   |nil=>rw[zip_nil_left]at hz;cases hz
   |cons a t YJ=>
    cases WQ with
    |nil=>rw[zip_nil_right]at hz;cases hz
    |cons c u YH=>
     rw[zip_cons_cons]at hz;injection hz with hyx BB
     injection hyx with hy hx
     subst hy hx;rw[cb]at hR;simp only[y9]at hlen;let#[e,he,Vz]:=IG A.in1 #[hp,g,d,tk,os] a t c u;refine K1 (he prog w _ _ ?_);cases e with
     |true=>
      rw[L1 (Vz.mp rfl)]at hR
      wp_walk
      exact#[rfl,rfl,_,_,_,_,BB,YJ,YH,(),hR]
     |false=>
      rw[L7 (λ q=>bi (Vz.mpr q) o8)]at hR;have hri:=pE A.in1 #[hp,g,d,tk,os] a t c u prog w
      wp_walk using hri
      exact#[_,rfl,~~~hR]
  case fin=>
   rintro⟨b1,b2⟩ s' ⟨MX,rfl,vs,ws,iz,S9,hz,YK,WQ,hlen,hR⟩;simp only at MX;subst MX;have hv:lexLt iz S9=decide (li.size<gj.size):=by
    cases YK with
    |nil=>
     cases WQ with
     |nil=>simp only[length_nil]at hlen;rw[cM];exact(B4 ()).symm
     |cons c u hw=>simp only[length_nil,y9]at hlen;rw[cp];exact(C9 ()).symm
    |cons a t hv=>
     cases WQ with
     |nil=>simp only[length_nil,y9]at hlen;rw[cu];exact(B4 ()).symm
     |cons c u hw=>rw[zip_cons_cons]at hz;cases hz
   rw[hv]at hR
   wp_walk
   exact#[_,rfl,by simpa[Builtin.Tuple.tupleCompareSizes]using hR]
  case h=>
   exact#[rfl,rfl,li.toList,gj.toList,ns,ms,rfl,hi,hj,(),h]
end
def yC{l:be}{li gj:Array ac}{ms:List Int}(hl:IsTup s.heap l li)(hb:IsTup s.heap b gj)(hi:IntsAre li.toList ns)(hj:IntsAre gj.toList ms)(hu:A.units<cLine)(h:Q (.bool (lexLt ns ms)) s):wpAny `d A (compareOp .Lt (.ref l) (.ref b)) Q E s:=by
 let#[#[cls,dd,data,sl],ho,hc,n,hd]:=id hl;let#[#[ZU,Ts,data2,S7],MQ,MW,n2,hd2]:=id hb;simp only at hc hd MW hd2;subst hc hd MW hd2;exact richCompare_meets_room (op:=.Lt) #[_,ho,rfl] #[_,MQ,rfl] PySem.F.slot_tuple_lt PySem.F.entry_tuple_lt (PySem.F.args_tuple_lt_2 _ _) (qH l b li gj n n2 dd Ts sl S7 ns ms hi hj)
  #[ho,MQ,show Value.bool (lexLt ns ms)≠Value.notImplemented/\Q (.bool (lexLt ns ms)) s from#[(λ x=>nomatch x),h]] hu
def NB{t:be}{ws:List ac}(ht:IsTup s.heap t vs.toArray)(hb:IsTup s.heap b ws.toArray)(hv:vs≠[])(h1:ws=[]->Q (.ref t) s)(h2:ws≠[]->Q (.ref s⁻¹) {s with heap:=s.heap.push {cls:=.type "tuple",data:=.seq (vs++ws).toArray}})(hsz:-vs+-ws<=sizeLine):wpAny `d A (binaryOp .Add (.ref t) (.ref b)) Q E s:=by
 let#[#[cls,dd,data,sl],ho,hc,n,hd]:=id ht;let#[#[ZU,Ts,data2,S7],MQ,MW,n2,hd2]:=id hb;simp only at hc hd MW hd2;subst hc hd MW hd2;have e:vs.toArray++ws.toArray=(vs++ws).toArray:=by simp
 by_cases hw:ws=[]
 ·exact concat_meets #[_,ho,rfl] #[_,MQ,rfl] noFill_tuple_add seq_tuple_add PySem.F.slot_tuple_add PySem.F.entry_tuple_add (PySem.F.args_tuple_add_2 _ _)
   (tuple_addW1 t b vs.toArray ws.toArray n n2 dd Ts sl S7 (~~~hv) (by simp[hw])) #[ho,MQ,h1 hw]
 ·refine concat_meets #[_,ho,rfl] #[_,MQ,rfl] noFill_tuple_add seq_tuple_add PySem.F.slot_tuple_add PySem.F.entry_tuple_add (PySem.F.args_tuple_add_2 _ _)
   (tuple_addW2 t b vs.toArray ws.toArray n n2 dd Ts sl S7 (~~~hv) (~~~hw) (y3>=(y3>=hsz))) #[ho,MQ,?_]
  rw[e];exact h2 hw
def cK(n d:Nat):Option Int->Nat
 |none=>d
 |some v=>if v<0 then(v+(n:Int)).toNat else min v.toNat n
def yc(n d:Nat)(hd:d<=n)(o:Option Int):cK n d o<=n:=by
 cases o with
 |none=>exact hd
 |some v=>
  show(if v<0 then(v+(n:Int)).toNat else min v.toNat n)<=n;by_cases hv:v<0
  ·rw[L1 hv];lia
  ·rw[L7 hv];exact Nat.min_le_right _ _
def Ci(v:Int)(n d:Nat):(if v<0 then max (v+(n:Int)) 0 else min v (n:Int))=((cK n d (some v):Nat):Int):=by
 show(if v<0 then max (v+(n:Int)) 0 else min v (n:Int))=(((if v<0 then(v+(n:Int)).toNat else min v.toNat n):Nat):Int);by_cases hv:v<0
 ·simp only[L1 hv];lia
 ·simp only[L7 hv];lia
def zF(lo hi:Option Int)(n:Nat):Builtin.Slice.sliceAdjust lo hi 1 (n:Int)=(((cK n 0 lo:Nat):Int),((cK n n hi:Nat):Int)):=by
 have h1:¬((1:Int)<0):=()
 unfold Builtin.Slice.sliceAdjust;simp only[h1,K7];refine Prod.ext ?_ ?_
 ·cases lo with
  |none=>rfl
  |some v=>exact Ci v n 0
 ·cases hi with
  |none=>rfl
  |some v=>exact Ci v n n
def yo(i j:Nat):Builtin.Slice.slicePlaces (i:Int) (j:Int) 1=j-i:=by
 unfold Builtin.Slice.slicePlaces;have h1:GT.gt (1:Int) 0:=()
 simp only[h1,if_true,Int.ediv_one];split<;>lia
def oV{v:ac}{o:Option Int}{Q:Option Int->bd->Prop}(p:IsPart v o)(h:Q o s):wpAny `d A (Builtin.Slice.slicePartIndex v) Q E s:=by
 cases p with
 |none=>exact slicePart_none h
 |int i t=>exact slicePart_int h
def gz{sl:be}{vl vu:ac}{lo hi:Option Int}{Q:Int×Int×Nat->bd->Prop}(hs:s.heap.IsSliceOf sl vl vu .none)(pl:IsPart vl lo)(pu:IsPart vu hi)(h:Q (((cK n 0 lo:Nat):Int),1,cK n n hi-cK n 0 lo) s):wpAny `d A (Builtin.Slice.sliceApplied (.ref sl) (pure (n:Int))) Q E s:=by let#[os,RV,uo,Eb]:=id hs;unfold Builtin.Slice.sliceApplied Builtin.Slice.sliceFields;refine K1 (K1 (K0 RV Eb (x:=vl) rfl (K1 (K0 RV Eb (x:=vu) rfl (K1 (K0 RV Eb (x:=.none) rfl (K3 ?_)))))));refine K1 (slicePart_none ?_);show wpAny _ _ (if((1:Int)==0)=true then _ else _) _ _ s;rw[L7 `c];refine K1 (oV pl (K1 (oV pu (K1 (K3 ?_)))));show wpAny _ _ (match Builtin.Slice.sliceAdjust lo hi 1 (n:Int)with|(lo,hi)=>pure (lo,(1:Int),Builtin.Slice.slicePlaces lo hi 1)) _ _ s;rw[zF lo hi n];show wpAny _ _ (pure (((cK n 0 lo:Nat):Int),(1:Int),Builtin.Slice.slicePlaces ((cK n 0 lo:Nat):Int) ((cK n n hi:Nat):Int) 1)) _ _ s;rw[yo];exact K3 h
def GF(xs:Array ac)(i k:Nat):((List.range k).filterMap λ(m:Nat)=>xs[((i:Int)+(m:Int)*1).toNat]?).toArray=((xs.toList.drop i).take k).toArray:=by
 have e:(λ(m:Nat)=>xs[((i:Int)+(m:Int)*1).toNat]?)=λ m=>xs[i+m]?:=by
  funext m;have:((i:Int)+(m:Int)*1).toNat=i+m:=()
  rw[this]
 rw[e];have:=pick_run xs i k;rw[filterMap_map]at this;have e2:((λ x=>xs[x]?)∘λ x=>i+x)=λ m=>xs[i+m]?:=rfl;rw[e2]at this;rw[this]
def lJ{t sl:be}{li:Array ac}{vl vu:ac}{lo hi:Option Int}(ht:IsTup s.heap t li)(hs:s.heap.IsSliceOf sl vl vu .none)(pl:IsPart vl lo)(pu:IsPart vu hi)(hw:¬(cK li.size 0 lo=0/\cK li.size li.size hi=li.size))(h:Q (.ref s⁻¹) {s with heap:=s.heap.push {cls:=.type "tuple",data:=.seq ((li.toList.drop (cK li.size 0 lo)).take (cK li.size li.size hi-cK li.size 0 lo)).toArray}})(hsz:li.size<=sizeLine):wpAny `d A (getItem (.ref t) (.ref sl)) Q E s:=by
 have Bz:sizeOk (.seq ((li.toList.drop (cK li.size 0 lo)).take (cK li.size li.size hi-cK li.size 0 lo)).toArray):=by show((li.toList.drop (cK li.size 0 lo)).take (cK li.size li.size hi-cK li.size 0 lo)).toArray.size<=sizeLine;rw[y3,A3,length_drop,m9];lia
 have hj:cK li.size li.size hi<=li.size:=yc _ _ `G hi;let#[os,RV,uo,Eb]:=id hs;have Zu:s.TypeIs (.ref sl) "slice":=#[os,RV,uo];unfold getItem
 try with_reducible refine D5 ?_
 first|refine K1 (K3 ?_)|skip
 refine K1 (wpAny_sequenceKey ht.typeIs `c ?_);refine K1 (i9 (name:=Str.ofString "__getitem__") ht.typeIs a0
  (A1 a0 ht.typeIs entry_tuple_getitem ?_ (args_tuple_getitem _ _)))
 show wpAny _ _ (Builtin.Tuple.tupleItemsOf (.ref t)>>=_) _ _ s;refine K1 (tupleItemsOf_ ht ?_);refine K1 (J3 Zu ?_);rw[L1 `c];refine K1 (gz hs pl pu ?_);have MS:¬((((cK li.size 0 lo:Nat):Int)==0&&(1:Int)==1&&(cK li.size li.size hi-cK li.size 0 lo)==li.size)=true):=by intro q;rw[A2,A2]at q;have q1:((cK li.size 0 lo:Nat):Int)=0:=eq_of_beq q.1.1;have q2:cK li.size li.size hi-cK li.size 0 lo=li.size:=eq_of_beq q.2;exact hw #[(),()]
 show wpAny _ _ (if(((cK li.size 0 lo:Nat):Int)==0&&(1:Int)==1&&(cK li.size li.size hi-cK li.size 0 lo)==li.size)=true then _ else _) _ _ s;rw[L7 MS,GF]
 first
  |exact K1 (m:=Builtin.Tuple.tupleExact _) (x4 (K3 #[_,rfl,K3 h]) Bz)
  |exact K1 (m:=Builtin.Tuple.tupleExact _) (x4 (K1 (K3 (K3 #[_,rfl,K3 h]))) Bz)
  |exact K1 (K1 (m:=Builtin.Tuple.tupleExact _) (x4 (K3 (K3 #[_,rfl,K3 h])) Bz))
  |exact K1 (K1 (m:=Builtin.Tuple.tupleExact _) (x4 (K3 #[_,rfl,K3 h]) Bz))
end HT
namespace L2
open PySem.Spec PyProof.Rows
abbrev TO:=St->Hp->(Option Int->Hp->Prop)->Prop
def PO(X:Cx)(e:Option Expr)(t:TO):Prop:=
 ∀(im:List (be×Obj))(s:bd)(σ:St)(H:Hp)(Q:Option Int->Hp->Prop),nn X im σ H s->t σ H Q->
  wpAny `f X.A (evalPart e X.env) (λ u s'=>∃o H',nn X im σ H' s'/\IsPart u o/\Q o H') X.xe s
def J':TO:=λ _ H Q=>Q none H
def TZ(t:TE):TO:=λ σ H Q=>t σ H λ x H1=>∃i,x=.int i/\Q (some i) H1
def intsAre_of:∀{us:List ac},ut (ns.map V.int) us->IntsAre us ns:=by
 induction ns with
 |nil=>intro us r;rw[J1]at r;cases r;exact .nil
 |cons n ns ih=>
  intro us r;rw[D9]at r;cases r with
  |cons r1 r2=>let#[t,e]:=r1;subst e;exact .cons n t (ih r2)
section
variable {te:TE}{lo hi:Option Expr}{tl th:TO}{pos:Pos}
def Lr:PO X none J':=by intro im s σ H Q I h;rw[evalPart_none];exact K3 #[none,H,I,.none,h]
def Lq(h:PE X e te):PO X (some e) (TZ te):=by intro im s σ H Q I hw;rw[evalPart_some];refine cZ (h im s σ H _ I hw) λ u s1 ⟨x,H1,I1,r1,q1⟩=>?_;let#[i,rfl,q]:=q1;let#[t,rfl]:=r1;exact#[some i,H1,I1,.int i t,q]
def Cv(X:Cx)(r:V->Option Int->Option Int->Hp->VK->Prop):Prop:=
 ∀(im:List (be×Obj))(s:bd)(σ:St)(H:Hp)(x:V)(v vl vu:ac)(lo hi:Option Int)(sl:be)(Q:VK),nn X im σ H s->sK x v->s.heap.IsSliceOf sl vl vu .none->IsPart vl lo->IsPart vu hi->r x lo hi H Q->
  ∃T id,typeLookup (.type T) "__getitem__"=pure (some (.builtin id))/\s.TypeIs v T/\wpAny `f X.A (getItem v (.ref sl)) (EP X im σ Q) X.xe s
def Cv.or{r r':V->Option Int->Option Int->Hp->VK->Prop}(h:Cv X r)(h':Cv X r'):Cv X (λ x lo hi H Q=>r x lo hi H Q\/r' x lo hi H Q):=by
 intro im s σ H x v vl vu lo hi sl Q I rx hs pl pu q;rcases q with q|q
 ·exact h im s σ H x v vl vu lo hi sl Q I rx hs pl pu q
 ·exact h' im s σ H x v vl vu lo hi sl Q I rx hs pl pu q
def tSl(r:V->Option Int->Option Int->Hp->VK->Prop)(te:TE)(tl th:TO):TE:=λ σ H Q=>te σ H λ x H1=>tl σ H1 λ l H2=>th σ H2 λ u H3=>r x l u H3 Q
def GK{r:V->Option Int->Option Int->Hp->VK->Prop}(hr:Cv X r)(he:PE X e te)(hl:PO X lo tl)(hu:PO X hi th):PE X (.Subscript e (.Slice lo hi none p2) pos) (tSl r te tl th):=by intro im s σ H Q I h;refine Subscript_ (cZ (he im s σ H _ I h) λ v s1 ⟨x,H1,I1,r1,q1⟩=>?_);refine wpAny_Slice (cZ (hl im s1 σ H1 _ I1 q1) λ vl s2 ⟨l,H2,I2,pl,q2⟩=>cZ (hu im s2 σ H2 _ I2 q2) λ vu s3 ⟨u,H3,I3,pu,q3⟩=>?_);rw[evalPart_none];refine K3 ?_;have I4:nn X im σ H3 {s3 with heap:=s3.heap.push {cls:=.type "slice",data:=.fields ([vl,vu,.none].toArray)}}:=I3.kept (t':=s3.toks) λ b ob q=>j4 _ q;let#[T,id,hT,ht,hg]:=hr im {s3 with heap:=s3.heap.push {cls:=.type "slice",data:=.fields ([vl,vu,.none].toArray)}} σ H3 x v vl vu l u s3⁻¹ Q I4 r1 (Heap.IsSliceOf.new ..) pl pu q3;show wpAny `f X.A (subscriptTail e (.Slice lo hi none p2) v (.ref s3⁻¹)) (EP X im σ Q) X.xe {s3 with heap:=s3.heap.push {cls:=.type "slice",data:=.fields ([vl,vu,.none].toArray)}};exact tail_any (ops:=[.ref s3⁻¹,v]) ht hT hg (by with_unfolding_all rfl)
def xc(xs:List V)(lo hi:Option Int):List V:=(xs.drop (HT.cK (-xs) 0 lo)).take (HT.cK (-xs) (-xs) hi-HT.cK (-xs) 0 lo)
def mP(xs:List V)(lo hi:Option Int):(xc xs lo hi).length<=-xs:=by unfold xc;rw[A3,length_drop];lia
def Uy(K:L8):V->Option Int->Option Int->Hp->VK->Prop:=λ x lo hi H Q=>∃a xs,x=.ref a/\gu K H a xs/\
 ¬(HT.cK (-xs) 0 lo=0/\HT.cK (-xs) (-xs) hi=-xs)/\∀p,H p=none->Q `j (u8 H p (.tup (xc xs lo hi)))
def Pq:Cv X (Uy X.K):=by
 intro im s σ H x v vl vu lo hi sl Q I rx hs pl pu h;let#[a,xs,rfl,hx,hw,q]:=h;cases rx;let#[ar,r,ht,hz]:=I.tuple hx;have hlen:ar.toArray.size=-xs:=y3>=r.length.symm
 refine#["tuple",_,a0.lookup,ht.typeIs,?_];refine HT.lJ ht hs pl pu (hlen>=hw) ?_ (hlen>=hz);rw[hlen];refine#[.ref s⁻¹,_,I.laid (t':=s.toks) (o:=.tup (xc xs lo hi)) (λ b ob q=>j4 _ q) `G ?_,rfl,q _ (I.aX.fresh `G)];exact#[G9 (mP xs lo hi) hz,_,(r.drop (HT.cK (-xs) 0 lo)).take (HT.cK (-xs) (-xs) hi-HT.cK (-xs) 0 lo),IsTup.new _ _]
def UI(K:L8):R2:=λ x y H Q=>∃a b xs ys,x=.ref a/\y=.ref b/\gu K H a xs/\gu K H b ys/\xs≠[]/\-xs+-ys<=sizeLine/\
 (ys=[]->Q `z H)/\(ys≠[]->∀p,H p=none->Q `j (u8 H p (.tup (xs++ys))))
def ut.tT(r:ut xs us):us=[]↔xs=[]:=by
 cases r with
 |nil=>simp
 |cons _ _=>simp
def LM:gP X (binaryOp .Add) (UI X.K):=by intro im s σ H x y v u Q I rx ry h;let#[a,b,xs,ys,rfl,rfl,ha,hb,hx,hz,q1,q2]:=h;cases rx;cases ry;let#[ar,r1,p1,_]:=I.tuple ha;let#[wo,r2,p2,_]:=I.tuple hb;refine HT.NB p1 p2 (λ z=>hx (r1.tT.mp z)) (λ z=>#[.ref a,H,I,rfl,q1 (r2.tT.mp z)]) (λ z=>?_) (by rw[<- -r1,<- -r2];exact hz);refine#[.ref s⁻¹,_,I.laid (t':=s.toks) (o:=.tup (xs++ys)) (λ b ob q=>j4 _ q) `G ?_,rfl,q2 (λ w=>z (r2.tT.mpr w)) _ (I.aX.fresh `G)];exact#[p4>=hz,_,r1.append r2,IsTup.new _ _]
end
def DR(n:Nat)(i:Int):Option Nat:=if 0<=i then(if i<n then some i.toNat else none)else if -(n:Int)<=i then some (i+n).toNat else none
def iN{α:Type}(xs:List α)(i:Int):Option α:=(DR (-xs) i).bind λ j=>xs[j]?
def Bo{i:Int}(h:DR n i>j):seqIndex? i n>j/\j<n/\-(n:Int)<=i/\i<n:=by
 unfold DR at h;by_cases h0:0<=i
 ·rw[L1 h0]at h;by_cases h1:i<n
  ·rw[L1 h1]at h;have e:i.toNat=j:=B7 h;exact#[by rw[seqIndex_of h0 h1,e],(),(),h1]
  ·rw[L7 h1]at h;cases h
 ·rw[L7 h0]at h;by_cases h1: -(n:Int)<=i
  ·rw[L1 h1]at h;have e:(i+n).toNat=j:=B7 h;exact#[by rw[seqIndex_neg () h1,e],(),h1,()]
  ·rw[L7 h1]at h;cases h
def uO{xs:List α}{i:Int}{v:α}(h:iN xs i>v):∃j,seqIndex? i (-xs)>j/\xs[j]?>v/\j< -xs/\-(-xs:Int)<=i/\i< -xs:=by
 unfold iN at h;cases e:DR (-xs) i with
 |none=>rw[e]at h;cases h
 |some j=>rw[e]at h;let#[h1,h2,h3,h4]:=Bo e;exact#[j,h1,h,h2,h3,h4]
def bx{xs:List α}{v:α}(h:xs[j]?>v):iN xs (j:Int)>v:=by
 have hj:j< -xs:=(g9.mp h).1;have e:DR (-xs) (j:Int)>j:=by unfold DR;rw[L1 (),L1 ()];simp
 unfold iN;rw[e];exact h
def Cy(b:Expr):Prop:=∀o i,subscripted b false o i=operate [o,i] (getItem o i)
def zH(X:Cx)(r:R2):Prop:=
 ∀(value slice:Expr)(im:List (be×Obj))(s:bd)(σ:St)(H:Hp)(x y:V)(v u:ac)(Q:VK),nn X im σ H s->sK x v->sK y u->r x y H Q->
  subscripted slice false v u=operate [v,u] (getItem v u)->wpAny `f X.A (subscriptTail value slice v u) (EP X im σ Q) X.xe s
def TF(X:Cx)(id:String)(r:V->List V->Hp->VK->Prop):Prop:=
 ∀(im:List (be×Obj))(s:bd)(σ:St)(H:Hp)(x:V)(xs:List V)(v:ac)(us:List ac)(Q:VK),nn X im σ H s->sK x v->ut xs us->r x xs H Q->
  wpAny `f X.A (call (.builtin id) (v::us)) (EP X im σ Q) X.xe s
section
variable {a b:Expr}{ta tb:TE}{pos:Pos}
def zH.or{r r':R2}(h:zH X r)(h':zH X r'):zH X (λ x y H Q=>r x y H Q\/r' x y H Q):=by
 intro value slice im s σ H x y v u Q I rx ry q hs;rcases q with q|q
 ·exact h value slice im s σ H x y v u Q I rx ry q hs
 ·exact h' value slice im s σ H x y v u Q I rx ry q hs
def UQ{r:R2}(hr:zH X r)(ha:PE X a ta)(hb:PE X b tb)(hs:Cy b):PE X (.Subscript a b pos) (T3 r ta tb):=by intro im s σ H Q I h;exact Subscript_ (SH ha hb I h λ v u s2 x y H2 I2 rx ry q=>hr a b im s2 σ H2 x y v u Q I2 rx ry q (hs _ _))
def UE(K:L8):R2:=λ x y H Q=>∃p xs i v,x=.ref p/\y=.int i/\fK K H p xs/\iN xs i>v/\Q v H
def UC(K:L8):R2:=λ x y H Q=>∃p xs i v,x=.ref p/\y=.int i/\gu K H p xs/\iN xs i>v/\Q v H
def UD:R2:=λ x y H Q=>∃z i c,x=.str z/\y=.int i/\-z<=sizeLine/\iN z.cps.toList i>c/\Q (.str #[([c].toArray)]) H
def Mw:zH X (UE X.K):=by
 intro value slice im s σ H x y v u Q I rx ry h hs;let#[p,xs,i,z,rfl,rfl,hq,he,q]:=h;cases rx;let#[t,rfl]:=ry;let#[ar,r,pl,hz]:=I.list hq;let#[j,h1,h2,h3,h4,h5]:=uO he;let#[w,ew,iT]:=r.get h2;have hl:=-r;have hn:=mr;have fin:EP X im σ Q w s:=#[z,H,I,iT,q];by_cases h0:0<=i
 ·have hj:i.toNat=j:=by rw[seqIndex_of h0 h5]at h1;exact B7 h1
  exact item_listR pl.isList h0 () (by rw[hj];simpa using ew) fin hs
 ·have hj:(i+(ar.toArray.size:Int)).toNat=j:=by rw[seqIndex_neg () h4]at h1;rw[y3,<- hl];exact B7 h1
  exact subscriptTail_builtinR (x:=w) pl.isList.typeIs slot_list_getitem.lookup
   (wpAny_getItem_list_neg (Q:=λ r s'=>r=w/\EP X im σ Q r s') pl.isList () (by rw[y3]<;>lia) () (by rw[hj];simpa using ew) #[rfl,fin]) hs
def RE:zH X (UC X.K):=by
 intro value slice im s σ H x y v u Q I rx ry h hs;let#[p,xs,i,z,rfl,rfl,hq,he,q]:=h;cases rx;let#[t,rfl]:=ry;let#[ar,r,pl,hz]:=I.tuple hq;let#[j,h1,h2,h3,h4,h5]:=uO he;let#[w,ew,iT]:=r.get h2;have hl:=-r;have hn:=mr;have fin:EP X im σ Q w s:=#[z,H,I,iT,q];exact subscriptTail_builtinR (x:=w) pl.typeIs slot_tuple_getitem.lookup
  (getItem_tuple (j:=j) (Q:=λ r s'=>r=w/\EP X im σ Q r s') pl () () (by rw[y3,<- hl];exact h1) (~~~ew) #[rfl,fin]) hs
def RF:zH X UD:=by
 intro value slice im s σ H x y v u Q I rx ry h hs;let#[z,i,c,rfl,rfl,hz,he,q]:=h;let#[t,rfl]:=rx;let#[t',rfl]:=ry;let#[j,h1,h2,h3,h4,h5]:=uO he;have hl:-z.cps.toList=-z:=by simp[Str.length]
 rw[hl]at h1 h4 h5;have hn:=mr;exact tail_any (typeIs_str s z t) slot_str_getitem.lookup (getItem_str (c:=c) (by
  have e1:decide (i < -(2^63:Int))=false:=B4 ();have e2:decide (GE.ge i (2^63))=false:=B4 ();rw[e1,e2,Bool.or_false]) (by rw[h1];simpa using h2) #[.str #[([c].toArray)],H,I.tok _,#[_,rfl],q]) hs
def rIx(K:L8):R2:=λ x y H Q=>UE K x y H Q\/UC K x y H Q\/UD x y H Q
def RG:zH X (rIx X.K):=Mw.or (RE.or RF)
def yB(ar:List ac)(n j:Nat)(u:ac):Obj.mapSeq (·.setIfInBounds j u) {cls:=.type "list",data:=.seq ar.toArray n}={cls:=.type "list",data:=.seq (ar.set j u).toArray n}:=by simp[Obj.mapSeq]
theorem nn.lst{im:List (be×Obj)}{σ:St}{H:Hp}{s:bd}{p:be}{xs:List V}(I:nn X im σ H s)(h:H p>`J):∃(ar:List ac)(n:Nat),ut xs ar/\s.heap.get? p>{cls:=.type "list",data:=.seq ar.toArray n}/\-xs<=sizeLine:=by let#[z,ar,n,r,e]:=I.aX p _ h;exact#[ar,n,r,e,z]
def nn.Ri{ys:List V}{its':List ac}{n':Nat}{f:Obj->Obj}(I:nn X im σ H s)(h:H p>`J)(ho:s.heap.get? p>{cls:=.type "list",data:=.seq ar.toArray n})(hf:f {cls:=.type "list",data:=.seq ar.toArray n}={cls:=.type "list",data:=.seq its'.toArray n'})(r:ut ys its')(hz:-ys<=sizeLine)(t:Nat):nn X im σ (u8 H p (.lst ys)) {s with heap:=s.heap.update p f,toks:=t}:=by
 have e:(s.heap.update p f).get? p>{cls:=.type "list",data:=.seq its'.toArray n'}:=by rw[j7 f ho (by rw[hf]<;>rfl),hf]
 refine I.write (x:=p) (e:=p) (by rw[h];trivial) (.inl rfl) (λ b u hb q=>(j5 _ _ (K9 hb)).trans q) #[_,e] ?_;exact#[hz,its',n',r,e]
def UA:V->V->V->Hp->(Hp->Prop)->Prop:=λ o i v H Q=>∃p xs k j,o=.ref p/\i=.int k/\H p>`J/\DR (-xs) k>j/\Q (u8 H p (.lst (xs.set j v)))
def set_list:uS X UA:=by
 intro im s σ H o i v ov iv u Q I ro ri rv h;let#[p,xs,k,j,rfl,rfl,hp,hj,q]:=h;cases ro;let#[t,rfl]:=ri;let#[ar,n,r,ho,hz]:=I.lst hp;let#[h1,h2,h3,h4]:=Bo hj;have hl:=-r;have hn:=mr;have I':nn X im σ (u8 H p (.lst (xs.set j v))) {s with heap:=s.heap.update p (Obj.mapSeq (·.setIfInBounds j u))}:=
  I.Ri hp ho (yB ar n j u) (r.set rv j) (length_set>=hz) s.toks
 by_cases h0:0<=k
 ·have hk:k.toNat=j:=by rw[seqIndex_of h0 h4]at h1;exact B7 h1
  exact PySem.W.ki_setAt ho h0 () (by rw[y3,<- hl];exact h4) (hk>=#[_,I',q])
 ·have hk:(k+(ar.toArray.size:Int)).toNat=j:=by rw[seqIndex_neg () h3]at h1;rw[y3,<- hl];exact B7 h1
  exact PySem.W.ki_setBack ho () (by rw[y3,<- hl];exact h3) () (hk>=#[_,I',q])
def kQ(lo hi:Option Int)(n:Nat):(sliceBounds lo hi none n).1=((HT.cK n 0 lo:Nat):Int)/\(sliceBounds lo hi none n).2.1=((HT.cK n n hi:Nat):Int)/\(sliceBounds lo hi none n).2.2=1:=by
 refine#[?_,?_,rfl]
 ·cases lo with
  |none=>simp[sliceBounds,HT.cK]
  |some i=>
   simp only[sliceBounds,HT.cK,Option.getD_none,show GT.gt (1:Int) 0 by decide,if_true];by_cases h:i<0
   ·simp only[h,if_true]<;>lia
   ·simp only[h,K7]<;>lia
 ·cases hi with
  |none=>simp[sliceBounds,HT.cK]
  |some i=>
   simp only[sliceBounds,HT.cK,Option.getD_none,show GT.gt (1:Int) 0 by decide,if_true];by_cases h:i<0
   ·simp only[h,if_true]<;>lia
   ·simp only[h,K7]<;>lia
def qI(ar:List ac)(lo hi:Option Int):slicePick ar.toArray lo hi none=((ar.drop (HT.cK (-ar) 0 lo)).take (HT.cK (-ar) (-ar) hi-HT.cK (-ar) 0 lo)).toArray:=by let#[h1,h2,h3]:=kQ lo hi ar.toArray.size;unfold slicePick;rw[h1,h2,h3];simp only[sliceRange_one,pick_run,y3]<;>rfl
def Uz(K:L8):V->Option Int->Option Int->Hp->VK->Prop:=λ x lo hi H Q=>∃a xs,x=.ref a/\fK K H a xs/\∀p,H p=none->Q `j (u8 H p (.lst (xc xs lo hi)))
def Kj:Cv X (Uz X.K):=by intro im s σ H x v vl vu lo hi sl Q I rx hs pl pu h;let#[a,xs,rfl,hx,q]:=h;cases rx;let#[ar,r,ht,hz]:=I.list hx;have hlen:=-r;refine#["list",_,slot_list_getitem.lookup,ht.isList.typeIs,?_];refine wpAny_getItem_list_slice ht.isList hs pl pu .none `g ?_ (by rw[y3]<;>lia);rw[qI,<- hlen];refine#[.ref s⁻¹,_,I.laid (t':=s.toks) (o:=.lst (xc xs lo hi)) (λ b ob q=>j4 _ q) `G ?_,rfl,q _ (I.aX.fresh `G)];exact#[G9 (mP xs lo hi) hz,_,0,(r.drop (HT.cK (-xs) 0 lo)).take (HT.cK (-xs) (-xs) hi-HT.cK (-xs) 0 lo),n5 _ rfl]
def iA:V->Bool
 | .bf=>true
 | .bl _=>true
 | .int _=>true
 | .str _=>true
 |_=>false
def ON:V->V->Bool
 | .bf,.bf=>true
 | .bl a,.bl b=>a==b
 | .bl a,.int b=>(if a then 1 else 0)==b
 | .int a,.bl b=>a==(if b then 1 else 0)
 | .int a,.int b=>a==b
 | .str a,.str b=>a==b
 |_,_=>false
def Si{y x:V}{v:ac}(ry:sK y u)(rx:sK x v)(fy:iA y=true)(fx:iA x=true):SeqAt.EqAt A s u v (ON y x):=by
 cases y with
 |bf=>
  cases ry;cases x with
  |bf=>cases rx;exact SeqAt.EqAt.same _
  |bl b=>cases rx;exact SeqAt.EqAt.none_bool b
  |int b=>let#[t,rfl]:=rx;exact SeqAt.EqAt.none_int b t
  |str b=>let#[t,rfl]:=rx;exact SeqAt.EqAt.none_str b t
  |_=>exact bi (show false=true from fx) o8
 |bl a=>
  cases ry;cases x with
  |bf=>cases rx;exact SeqAt.EqAt.bool_none a
  |bl b=>cases rx;exact SeqAt.EqAt.bool_bool a b
  |int b=>let#[t,rfl]:=rx;exact SeqAt.EqAt.bool_int a b t
  |str b=>let#[t,rfl]:=rx;exact SeqAt.EqAt.bool_str a b t
  |_=>exact bi (show false=true from fx) o8
 |int a=>
  let#[t',rfl]:=ry;cases x with
  |bf=>cases rx;exact SeqAt.EqAt.int_none a t'
  |bl b=>cases rx;exact SeqAt.EqAt.int_bool a t' b
  |int b=>let#[t,rfl]:=rx;exact SeqAt.EqAt.int_int a t' b t
  |str b=>let#[t,rfl]:=rx;exact SeqAt.EqAt.int_str a t' b t
  |_=>exact bi (show false=true from fx) o8
 |str a=>
  let#[t',rfl]:=ry;cases x with
  |bf=>cases rx;exact SeqAt.EqAt.str_none a t'
  |bl b=>cases rx;exact SeqAt.EqAt.str_bool a t' b
  |int b=>let#[t,rfl]:=rx;exact SeqAt.EqAt.str_int a t' b t
  |str b=>let#[t,rfl]:=rx;exact SeqAt.EqAt.str_str a t' b t
  |_=>exact bi (show false=true from fx) o8
 |_=>exact bi (show false=true from fy) o8
def Ng(x:V)(u:ac):Bool:=match u with
 | .none=>ON .bf x
 | .bool b=>ON (.bl b) x
 | .int i _=>ON (.int i) x
 | .str z _=>ON (.str z) x
 |_=>false
def IF{x y:V}(r:sK y u)(f:iA y=true):Ng x u=ON y x:=by
 cases y with
 |bf=>cases r;rfl
 |bl b=>cases r;rfl
 |int i=>let#[t,rfl]:=r;rfl
 |str z=>let#[t,rfl]:=r;rfl
 |_=>exact bi (show false=true from f) o8
theorem uP{x:V}:∀{xs:List V} {us:List ac},ut xs us->xs.all iA=true->us.any (Ng x)=xs.any λ y=>ON y x
 |_,_,.nil,_=>rfl
 |y::xs,u::us,.cons r t,f=>by rw[all_cons,A2]at f;rw[any_cons,any_cons,IF r f.1,uP t f.2]
theorem pJ{x:V}{v:ac}(rx:sK x v)(fx:iA x=true):∀{xs:List V} {us:List ac},ut xs us->xs.all iA=true->∀u∈us,SeqAt.EqAt A s u v (Ng x u)
 |_,_,.nil,_=>λ u hu=>by cases hu
 |y::xs,u::us,.cons r t,f=>λ u' hu=>by
  rw[all_cons,A2]at f;rcases E8.mp hu with rfl|hu
  ·rw[IF r f.1];exact Si r rx f.1 fx
  ·exact pJ rx fx t f.2 u' hu
def Vi(x:V)(xs:List V):Bool:=xs.any λ y=>ON y x
def rIn(K:L8)(neg:Bool):R2:=λ x y H Q=>∃p xs,y=.ref p/\(fK K H p xs\/gu K H p xs)/\iA x=true/\xs.all iA=true/\Q (.bl (if neg then !Vi x xs else Vi x xs)) H
def DE:gP X (compareOp .In) (rIn X.K false):=by
 intro im s σ H x y v u Q I rx ry h;let#[p,xs,rfl,hq,fx,fs,q]:=h;cases ry;rcases hq with hq|hq
 ·let#[ar,r,pl,hz]:=I.list hq;refine SeqAt.in_listAt (Ng x) pl.isList (λ w hw=>pJ rx fx r fs w (~~~hw)) #[.bl _,H,I,rfl,?_];rw[show ar.toArray.any (Ng x)=ar.any (Ng x) by simp,uP r fs];exact q
 ·let#[ar,r,pl,hz]:=I.tuple hq;refine SeqAt.in_tupleAt (Ng x) pl (λ w hw=>pJ rx fx r fs w (~~~hw)) #[.bl _,H,I,rfl,?_];rw[show ar.toArray.any (Ng x)=ar.any (Ng x) by simp,uP r fs];exact q
def tS:gP X (compareOp .NotIn) (λ x y H Q=>∃i j,x=.str i/\y=.str j/\Q (.bl (!(!(Builtin.Str.occurrences j i 0 (-j) 1).isEmpty))) H):=by intro im s σ H x y v u Q I rx ry h;let#[i,j,rfl,rfl,q]:=h;let#[t,rfl]:=rx;let#[t',rfl]:=ry;exact notIn_str #[.bl _,H,I,rfl,q]
def uK:dj X (.builtin "len") (λ xs H Q=>∃p ys,xs=[.ref p]/\(fK X.K H p ys\/gu X.K H p ys)/\Q (.int (-ys)) H):=by
 intro im s σ H xs us Q I r h;let#[p,ys,rfl,hq,q]:=h;let#[u,rfl,rx]:=vals1 r;cases rx;have hn:=mr;rcases hq with hq|hq
 ·let#[ar,r',pl,hz]:=I.list hq;have hlen:=-r';exact Calls.call_len_list pl.isList (by simp only[y3]<;>lia) #[.int (-ys),H,I.tok _,#[s.toks+1,by rw[y3,hlen]],q]
 ·let#[ar,r',pl,hz]:=I.tuple hq;have hlen:=-r';exact len_tuple pl (by simp only[y3]<;>lia) #[.int (-ys),H,I.tok _,#[s.toks+1,by rw[y3,hlen]],q]
def uJ:dj X (.builtin "len") (λ xs H Q=>∃z,xs=[.str z]/\-z<=sizeLine/\Q (.int (-z)) H):=by intro im s σ H xs us Q I r h;let#[z,rfl,hz,q]:=h;let#[u,rfl,t,rfl]:=vals1 r;have hn:=mr;exact len_str () #[.int (-z),H,I.tok _,#[_,rfl],q]
def dj.or{f:ac}{r r':List V->Hp->VK->Prop}(h:dj X f r)(h':dj X f r'):dj X f (λ xs H Q=>r xs H Q\/r' xs H Q):=by
 intro im s σ H xs us Q I rs q;rcases q with q|q
 ·exact h im s σ H xs us Q I rs q
 ·exact h' im s σ H xs us Q I rs q
def uI:dj X (.type "list") (λ xs H Q=>∃p ys,xs=[.ref p]/\(fK X.K H p ys\/gu X.K H p ys)/\∀l,H l=none->Q (.ref l) (u8 H l (.lst ys))):=by
 intro im s σ H xs us Q I r h;let#[p,ys,rfl,hq,q]:=h;let#[u,rfl,rx]:=vals1 r;cases rx;have fin:∀(ar:List ac),ut ys ar->-ys<=sizeLine->∀(h':Heap)(c':Nat),(∀b o',s.heap.get? b>o'->h'.get? b>o')->
   h'.get? s⁻¹>{cls:=.type "list",dict:=none,data:=.seq ar.toArray c',slots:=([].toArray)}->EP X im σ Q (.ref s⁻¹) {s with heap:=h'}:=λ ar r' hz h' c' kp e=>
  #[.ref s⁻¹,_,I.laid (t':=s.toks) kp `G (show br X.prog X.w _ h' _ (.lst ys)from#[hz,ar,c',r',e]),rfl,q _ (I.aX.fresh `G)]
 rcases hq with hq|hq
 ·let#[ar,r',pl,hz]:=I.list hq;have hlen:=-r';let#[o,ho,hc,n,hd]:=pl.isList;exact call_list_seq p (.inl rfl) ho hc hd (λ h' c' kp e=>fin ar r' hz h' c' kp e) (by simp only[y3]<;>lia)
 ·let#[ar,r',pl,hz]:=I.tuple hq;have hlen:=-r';let#[o,ho,hc,n,hd]:=pl;exact call_list_seq p (.inr rfl) ho hc hd (λ h' c' kp e=>fin ar r' hz h' c' kp e) (by simp only[y3]<;>lia)
def qV:dj X (.type "tuple") (λ xs H Q=>∃p ys,xs=[.ref p]/\((fK X.K H p ys/\∀l,H l=none->Q (.ref l) (u8 H l (.tup ys)))\/(gu X.K H p ys/\Q `j H))):=by
 intro im s σ H xs us Q I r h;let#[p,ys,rfl,h]:=h;let#[u,rfl,rx]:=vals1 r;cases rx;rcases h with⟨hq,q⟩|⟨hq,q⟩
 ·let#[ar,r',pl,hz]:=I.list hq;have hlen:=-r';refine call_tuple_list pl.isList (λ h' kp=>?_) (by simp only[y3]<;>lia);have I1:nn X im σ H {s with heap:=h'}:=I.kept (t':=s.toks) kp;have I2:nn X im σ (u8 H h'.objs.size (.tup ys)) {s with heap:=h'.push {cls:=.type "tuple",data:=.seq ar.toArray}}:=
   I1.laid (t':=s.toks) (λ b o e=>j4 _ e) `G (show br X.prog X.w _ _ _ (.tup ys)from#[hz,ar,r',IsTup.new _ _])
  exact#[.ref h'.objs.size,_,I2,rfl,q _ (I1.aX.fresh `G)]
 ·let#[ar,r',pl,hz]:=I.tuple hq;exact call_tuple_same pl #[.ref p,H,I,rfl,q]
def Wr(K:L8)(T:String)(x:V)(H:Hp):Prop:=match x with
 | .str _=>T="str"
 | .int _=>T="int"
 | .ref p=>(T="list"/\∃xs,fK K H p xs)\/(T="tuple"/\∃o,K.lookup p>o/\o.cls=.type "tuple"/\o.dict=none)\/
   (T="dict"/\((∃kvs,H p>(.dK kvs))\/∃kvs,H p>(.dT kvs)))\/(T="set"/\∃S n,H p>(.set S n))
 |_=>False
def Fc{x:V}{v:ac}(I:nn X im σ H s)(r:sK x v)(ty:Wr X.K T x H):s.TypeIs v T/\∀a,v=.ref a->∃ob,s.heap.get? a>ob/\ob.dict=none:=by
 cases x with
 |str z=>let#[t,rfl]:=r;cases(show T="str" from ty);exact#[typeIs_str s z t,λ _ e=>nomatch e]
 |int i=>let#[t,rfl]:=r;cases(show T="int" from ty);exact#[typeIs_int s i t,λ _ e=>nomatch e]
 |ref p=>
  cases r;rcases ty with⟨rfl,xs,hq⟩|⟨rfl,o,hk,hc,hd⟩|⟨rfl,hk⟩|⟨rfl,S,n,hk⟩
  ·let#[ar,_,pl,_]:=I.list hq;refine#[pl.isList.typeIs,λ a e=>?_];cases e;let#[o,n,e,c,hd,_]:=pl;exact#[o,e,hd]
  ·refine#[#[o,I.qN p o hk,hc],λ a e=>?_];cases e;exact#[o,I.qN _ o hk,hd]
  ·have z:∃o,s.heap.get? p>o/\o.ExactDict:=by
    rcases hk with⟨kvs,hk⟩|⟨kvs,hk⟩
    ·let#[_,_,_,_,o,_,_,e,ex,_]:=I.aX p _ hk;exact#[o,e,ex]
    ·let#[_,_,_,_,o,_,_,e,ex,_]:=I.aX p _ hk;exact#[o,e,ex]
   let#[o,e,ex]:=z;refine#[#[o,e,ex.1],λ a e2=>?_];cases e2;exact#[o,e,ex.2.1]
  ·let#[o,_,_,_,e,ex,_]:=I.aX p _ hk;refine#[#[o,e,ex.1],λ a e2=>?_];cases e2;exact#[o,e,ex.2.1]
 |_=>exact False.elim ty
def XJ(K:L8)(T:String)(r:V->List V->Hp->VK->Prop)(to:TE):TE:=λ σ H Q=>to σ H λ x H1=>Wr K T x H1/\r x [] H1 Q
def tBM(K:L8)(T:String)(r:V->List V->Hp->VK->Prop)(to:TE)(t:TA):TE:=λ σ H Q=>to σ H λ x H1=>Wr K T x H1/\t σ H1 λ xs H2=>r x xs H2 Q
variable {o:Expr}{to:TE}{t:TA}{id:String}{r:V->List V->Hp->VK->Prop}
def QD(pa:PlainAttrs T)(slot:Slot T name id)(HZ:Wa id)(hm:TF X id r)(ho:PE X o to)(gM:S4 X o name:=by rfl)(gJ:SU apos cR:=by rfl):PE X (.Call (.Attribute o name apos) [] [] cR) (XJ X.K T r to):=by intro im s σ H Q I h;refine wpAny_Call_method0_late gM gJ (cZ (ho im s σ H _ I h) λ v s1 ⟨x,H1,I1,r1,ty,q1⟩=>?_);let#[h1,h2]:=Fc I1 r1 ty;exact#[T,id,pa,slot,HZ,h1,h2,Calls.callWith_builtin rfl (PySem.evalArgs_none (hm im s1 σ H1 x [] v [] Q I1 r1 .nil q1))]
def Oh(pa:PlainAttrs T)(slot:Slot T name id)(HZ:Wa id)(hm:TF X id r)(ho:PE X o to)(ha:PA X (e::es) t)(gM:S4 X o name:=by rfl)(gL:Wh X cR e es:=by rfl)(gJ:SU apos cR:=by rfl)(hs:kB X e es:=by rfl)(hV:uX X cR es:=by rfl):PE X (.Call (.Attribute o name apos) (e::es) [] cR) (tBM X.K T r to t):=by intro im s σ H Q I h;refine wpAny_Call_method_late gM gL gJ rfl (cZ (ho im s σ H _ I h) λ v s1 ⟨x,H1,I1,r1,ty,q1⟩=>?_);let#[h1,h2]:=Fc I1 r1 ty;refine#[T,id,pa,slot,HZ,h1,h2,?_];have hA:=ha cR im s1 σ H1 _ I1 q1;rw[hs]at hA ⊢;refine Calls.callWith_builtin (by show(false||(backTo cR (starEach es X.env)).any (·.1))=false;rw[hV]<;>rfl) (Calls.evalArgs_plain ?_);exact cZ hA λ us s2 ⟨vs,H2,I2,r2,q2⟩=>hm im s2 σ H2 x vs v us Q I2 r1 r2 q2
end
def NN(X:Cx)(id:String)(r:V->List V->Hp->VK->Prop):Prop:=
 ∀(im:List (be×Obj))(s:bd)(σ:St)(H:Hp)(x:V)(xs:List V)(v:ac)(us:List ac)(Q:VK),nn X im σ H s->sK x v->ut xs us->r x xs H Q->
  wpAny `f X.A (call (.builtin id) (v::us)) (EP X im σ Q) X.xe s
def ut.one:∀{x:V} {us:List ac},ut [x] us->∃u,us=[u]/\sK x u
 |_,_,.cons r .nil=>#[_,rfl,r]
def ut.zero:∀{us:List ac},ut [] us->us=[]
 |_,.nil=>rfl
theorem ut.dropLast(h:ut xs us):ut xs.dropLast us.dropLast:=by
 induction h with
 |nil=>exact .nil
 |cons r t ih=>
  cases t with
  |nil=>exact .nil
  |cons q t'=>exact .cons r ih
theorem ut.eraseIdx:∀{xs:List V} {us:List ac} (i:Nat),ut xs us->ut (xs.eraseIdx i) (us.eraseIdx i)
 |_,_,_,.nil=>.nil
 |_,_,0,.cons _ t=>t
 |_,_,i+1,.cons r t=>.cons r (ut.eraseIdx i t)
theorem ut.rep(h:ut xs us):∀k:Nat,ut (List.replicate k xs).flatten (List.replicate k us).flatten
 |0=>.nil
 |k+1=>by rw[m8,m8,x5,x5];exact ut.append h (ut.rep h k)
def yX(l:List α):l.eraseIdx (-l-1)=l.dropLast:=by
 induction l with
 |nil=>rfl
 |cons a r ih=>
  cases r with
  |nil=>rfl
  |cons b r=>
   have e:(a::b::r).length-1=((b::r).length-1)+1:=by have h1:(a::b::r).length=-r+2:=rfl;have h2:(b::r).length=-r+1:=rfl;lia
   rw[e,eraseIdx_cons_succ,ih]
   all_goals rfl
theorem rY:∀(l:List α)(i:Nat),(l.eraseIdx i).length<=-l
 |[],_=>J7 _
 |_::_,0=>Nat.le_succ _
 |_::r,i+1=>Nat.succ_le_succ (rY r i)
theorem foldl_rep(ar:List ac):∀(k:Nat)(jp:List ac),
  List.foldl (λ x1 x2=>x1++x2) jp.toArray (List.replicate k ar.toArray)=(jp++(List.replicate k ar).flatten).toArray
 |0,jp=>by simp
 |k+1,jp=>by
  have e:jp.toArray++ar.toArray=(jp++ar).toArray:=by simp
  have e2:(jp++ar)++(List.replicate k ar).flatten=jp++(List.replicate (k+1) ar).flatten:=by rw[m8,x5,x6]
  rw[<- e2,<- foldl_rep ar k (jp++ar),<- e,m8,foldl_cons]
section
variable {l:be}{ys zs:List V}
def nn.Mh{its':List ac}{f:Array ac->Array ac}(I:nn X im σ H s)(hH:H l>`J)(e:s.heap.get? l>{cls:=.type "list",data:=.seq ar.toArray n})(hf:f ar.toArray=its'.toArray)(hv:ut ys its')(hz:-ys<=sizeLine):nn X im σ (u8 H l (.lst ys)) {s with heap:=s.heap.update l (Obj.mapSeq f),toks:=t'}:=by have q:=PySem.IsL.update e f;rw[hf]at q;refine I.write (x:=l) (e:=l) (hH>=trivial) (.inl rfl) (λ b' u hb hu=>(j5 s.heap (Obj.mapSeq f) (K9 hb)).trans hu) #[_,q] ?_;exact#[hz,its',_,hv,q]
def nn.Va(I:nn X im σ H s)(hv:ut ys ar)(hz:-ys<=sizeLine):nn X im σ (u8 H s⁻¹ (.lst ys)) {s with heap:=s.heap.push {cls:=.type "list",data:=.seq ar.toArray},toks:=t'}:=
 I.laid (λ _ _ q=>j4 _ q) `G #[hz,ar,0,hv,n5 _ rfl]
theorem nn.fresh(I:nn X im σ H s):H s⁻¹=none:=I.aX.fresh `G
def nn.vY(I:nn X im σ H s)(hH:H l>`J):-xs<=sizeLine/\∃(ar:List ac)(n:Nat),ut xs ar/\-xs=-ar/\s.heap.get? l>{cls:=.type "list",data:=.seq ar.toArray n}:=by let#[z,ar,n,r,e]:=I.aX l _ hH;exact#[z,ar,n,r,-r,e]
def vU(h:n<=sizeLine):Builtin.List.listTooLong n=false:=by unfold Builtin.List.listTooLong;exact B4 ()
end
def AB:V->List V->Hp->VK->Prop:=λ x vs H Q=>∃l xs y,x=.ref l/\vs=[y]/\H l>`J/\-xs<sizeLine/\Q .bf (u8 H l (.lst (xs++[y])))
def DK:NN X "list.append" AB:=by intro im s σ H x vs v us Q I rx rv h;let#[l,xs,y,rfl,rfl,hH,hz,q]:=h;cases rx;let#[u,rfl,ru]:=rv.one;let#[z,ar,n,r,hl,e]:=I.vY hH;refine K5 F.slot_list_append #[_,e,rfl] F.entry_list_append (F.args_list_append_2 _ _) (PySem.list_append l ar.toArray n u (by rw[y3];lia)) #[e,?_];refine#[.bf,_,I.Mh (its':=ar++[u]) hH e `g (r.append (.cons ru .nil)) ?_,rfl,q];rw[p4,j9];lia
def AA:V->List V->Hp->VK->Prop:=λ x vs H Q=>∃l b xs zs,x=.ref l/\vs=[.ref b]/\H l>`J/\H b>(.lst zs)/\-xs+-zs<=sizeLine/\Q .bf (u8 H l (.lst (xs++zs)))
def DJ:NN X "list.extend" AA:=by
 intro im s σ H x vs v us Q I rx rv h;let#[l,b,xs,zs,rfl,rfl,hH,hB,hz,q]:=h;cases rx;let#[u,rfl,ru]:=rv.one;cases ru;let#[z,ar,n,r,hl,e]:=I.vY hH;let#[z2,wo,n2,r2,JC,e2]:=I.vY hB;have hsz:ar.toArray.size+wo.toArray.size<=sizeLine:=by rw[y3,y3];lia
 have Ih:¬(!ar.toArray.isEmpty&&Builtin.List.listTooLong (ar.toArray.size+wo.toArray.size))=true:=vU hsz>=(Bool.and_false>=o8)
 refine K5 F.slot_list_extend #[_,e,rfl] F.entry_list_extend (F.args_list_extend_2 _ _)
  (AutoSeq1.list_extend_list_list_0 l ar.toArray n b wo.toArray n2 Ih (by rw[y3];lia) ()) #[e,e2,?_]
 refine#[.bf,_,I.Mh (its':=ar++wo) hH e `g (r.append r2) ?_,rfl,q];rw[p4];lia
def X2:V->List V->Hp->VK->Prop:=λ x vs H Q=>∃l xs y,x=.ref l/\vs=[]/\H l>`J/\xs[-xs-1]?>y/\Q y (u8 H l (.lst xs.dropLast))
def Rg:NN X "list.pop" X2:=by
 intro im s σ H x vs v us Q I rx rv h;let#[l,xs,y,rfl,rfl,hH,hy,q]:=h;cases rx;have YN:=rv.zero;subst YN;let#[z,ar,n,r,hl,e]:=I.vY hH;let#[u,hu,ru]:=r.get hy;have DX:ar.toArray[ar.toArray.size-1]?>u:=by show ar.toArray[-ar-1]?>u;rw[<- k4,<- hl];exact hu
 refine K5 F.slot_list_pop #[_,e,rfl] F.entry_list_pop (F.args_list_pop_1 _) (MeetsSeq.list_pop_last l ar.toArray n u DX (by rw[y3];lia)) #[e,?_];refine#[y,_,I.Mh (its':=ar.dropLast) hH e ?_ r.dropLast ?_,ru,q]
 ·show ar.toArray.eraseIdxIfInBounds (ar.toArray.size-1)=ar.dropLast.toArray;rw[y3,eraseIdxIfInBounds_toArray,yX]
 ·rw[length_dropLast];lia
def Qc:V->List V->Hp->VK->Prop:=λ x vs H Q=>∃l xs i k y,x=.ref l/\vs=[.int i]/\H l>`J/\-(2^63)<=i/\i<2^63/\seqIndex? i (-xs)>k/\xs[k]?>y/\Q y (u8 H l (.lst (xs.eraseIdx k)))
def Hl:NN X "list.pop" Qc:=by
 intro im s σ H x vs v us Q I rx rv h;let#[l,xs,i,k,y,rfl,rfl,hH,h1,h2,hk,hy,q]:=h;cases rx;let#[u,rfl,ru]:=rv.one;let#[t,rfl]:=ru;let#[z,ar,n,r,hl,e]:=I.vY hH;let#[w,hw,iT]:=r.get hy;refine K5 F.slot_list_pop #[_,e,rfl] F.entry_list_pop (F.args_list_pop_2 _ _)
  (MeetsSeq.list_pop_at l ar.toArray n i t k w (fitsIndex_both h1 h2) (by rw[y3,<- hl];exact hk) (by rw[<- k4];exact hw) (by rw[y3];lia)) #[e,?_]
 refine#[y,_,I.Mh (its':=ar.eraseIdx k) hH e ?_ (r.eraseIdx k) ?_,iT,q]
 ·show ar.toArray.eraseIdxIfInBounds k=(ar.eraseIdx k).toArray;rw[eraseIdxIfInBounds_toArray]
 ·have:=rY xs k;lia
def X4:R2:=λ x y H Q=>∃l b xs zs,x=.ref l/\y=.ref b/\H l>`J/\H b>(.lst zs)/\-xs+-zs<=sizeLine/\∀p,H p=none->Q `j (u8 H p (.lst (xs++zs)))
def QY:gP X (binaryOp .Add) X4:=by
 intro im s σ H x y v u Q I rx ry h;let#[l,b,xs,zs,rfl,rfl,hH,hB,hz,q]:=h;cases rx;cases ry;let#[z,ar,n,r,hl,e]:=I.vY hH;let#[z2,wo,n2,r2,JC,e2]:=I.vY hB;refine PySem.P.add_list e e2 ?_ (by rw[y3,y3];lia);have ea:ar.toArray++wo.toArray=(ar++wo).toArray:=by simp
 rw[ea];exact#[.ref _,_,I.Va (t':=s.toks) (r.append r2) (by rw[p4];lia),rfl,q _ I.fresh]
def XZ:R2:=λ x y H Q=>∃l k xs,x=.ref l/\y=.int k/\H l>`J/\-(2^63)<=k/\k<2^63/\-xs*k.toNat<=sizeLine/\
 ∀p,H p=none->Q `j (u8 H p (.lst (List.replicate k.toNat xs).flatten))
def len_rep(xs:List α)(k:Nat):(List.replicate k xs).flatten.length=k*-xs:=by
 induction k with
 |zero=>simp
 |succ k ih=>rw[m8,x5,p4,ih,Nat.succ_mul,Nat.add_comm]
def QM:gP X (binaryOp .Mult) XZ:=by
 intro im s σ H x y v u Q I rx ry h;let#[l,k,xs,rfl,rfl,hH,h1,h2,hz,q]:=h;cases rx;let#[t,rfl]:=ry;let#[z,ar,n,r,hl,e]:=I.vY hH;have hlen:ar.toArray.size*k.toNat<=sizeLine:=by rw[y3,<- hl];exact hz
 have Zr:¬GT.gt (ar.toArray.size*k.toNat) ((2^63-1)/8):=by
  have:(sizeLine:Nat)<=(2^63-1)/8:=by decide
  lia
 have VC:¬(!Builtin.List.listFitsIndex k)=true:=fitsIndex_both h1 h2>=o8
 have Ih:¬Builtin.List.listTooLong (ar.toArray.size*k.toNat)=true:=vU hlen>=o8
 have Ig:List.foldl (λ x1 x2=>x1++x2) ([].toArray) (List.replicate (if ar.toArray.isEmpty=true then 0 else k.toNat) ar.toArray)=(List.replicate k.toNat ar).flatten.toArray:=by
  have f0:∀m:Nat,List.foldl (λ x1 x2=>x1++x2) ([].toArray) (List.replicate m ar.toArray)=(List.replicate m ar).flatten.toArray:=λ m=>by have:=foldl_rep ar m [];rw[B2]at this;exact this
  rw[f0];cases ar with
  |nil=>simp
  |cons a r'=>rw[L7 `g]
 refine wpAny_binaryOp_repeat_ref (T:="list") (U:="int") `c #[_,e,rfl] (λ s'=>typeIs_int s' k t) noFill_list_mul F.fills_int_mul F.slot_int_rmul repeat_list F.slot_int_index.lookup
  (K5 F.slot_int_rmul (typeIs_int s k t) F.entry_int_rmul (F.args_int_rmul_2 _ _) (int___rmul___int_list k t l ar.toArray n)
   #[e,rfl,#[_,e,rfl],K5 F.slot_list_mul #[_,e,rfl] F.entry_list_mul (F.args_list_mul_2 _ _) (AutoListH.list___mul___list_int_3 l ar.toArray n k t VC Zr Ih) #[e,?_]])
 rw[Ig];exact#[.ref _,_,I.Va (t':=s.toks) (r.rep k.toNat) (len_rep>=(Nat.mul_comm>=hz)),rfl,q _ I.fresh]
end L2
namespace Att
open PySem.W PySem.Calls PyProof.Rows
def mZ{P:Params}{h:Heap}:∀(ns:List Int)(vs:List ac),WellAll P h vs (ns.map WData.int)->IntsAre vs ns:=by
 intro ns
 induction ns with
 |nil=>intro vs w;rw[J1]at w;cases w;exact .nil
 |cons n ns ih=>
  intro vs w;rw[D9]at w;cases w with
  |cons a b=>cases a;exact .cons _ _ (ih _ b)
def Dl{l:OpenLaw}(hn:l.most>n){P:Params}{h:Heap}{args:List WData}{vals:List ac}(MK:l.row.toRowW.claim.pre args=true)(YG:WellAll P h vals args):∃a vs ns,vals=[Value.ref a]/\args=[WData.list (ns.map WData.int)]/\h.get? a>{cls:=.type "list",data:=.seq vs.toArray}/\IntsAre vs ns/\-ns<=n:=by
 have hsh:WShape.hasAll [] args [.list .int]=true:=(pre_splitW MK).1;have hc:l.pre.holds [] {args:=args}=true:=(pre_splitW MK).2;let#[d,r,rfl,h1,h2]:=hasAllW_cons hsh;obtain rfl:=hasAllW_nil h2;let#[xs,rfl,h3]:=hasW_list h1;let#[ns,rfl]:=items_int h3;have hlen:-ns<=n:=by
  unfold OpenLaw.pre at hc;have h4:(WTm.not (.lt (.lit (.int (n:Int))) (.len (.arg 0)))).holds [] {args:=[.list (ns.map .int)]}=true:=by have h4:=(holds_andW hc).1;rw[hn]at h4;exact h4
  have h5:=condW_of h4 (w_not (w_lt w_lit (w_len_list (w_arg rfl))));rw[C1]at h5;refine y8 λ q=>?_;have q':(n:Int)<((-ns:Nat):Int):=()
  first
   |(rw[C9 q']at h5;exact bi h5 `c)
   |(simp at h5;lia)
 cases YG with
 |cons w1 w2=>
  cases w2;cases w1 with
  |list ho Io=>exact#[_,_,ns,rfl,rfl,ho,mZ ns _ Io,hlen]
def Dz(l:OpenLaw)(args:List WData):l.row.toRowW.claim.post args (.bool true) args=true:=
 postW_of (r:=l.row.toRowW) (X:=(true==true))
  (show WShape.has [] (.bool true) .bool=true by first|rfl|decide|simp[WShape.has,WShape.arms,WShape.armsAll])
  (show(WTm.eq .res (.lit (.bool true))).value [] {args:=args,res:=some (.bool true),after:=args}>(.bool (true==true))from w_eq_bool (w_res rfl) w_lit) rfl
def xp{l:OpenLaw}{n:Nat}{q:Program}{loose:List Str}{XP:(Str->Option ac)->Heap->Prop}{YP:World->Heap->Prop}{d:DefRec}(hn:l.most>n)(VD:d.params.defaults=[]) (call:∀(w:World)(s₀ s₁:bd)(mg mb:Str->Option ac)(fa:be)(o:Obj)(pm cd doc:ac)(a:be)(vs:List ac)(ns:List Int),
   Ground q loose [] XP w s₀ mg mb s₁.heap->YP w s₁.heap->
   s₁.heap.get? fa>o->o.data=.func (docDef d.name d.params d.body d.scope pm cd doc)->s₁.heap.CodeRec cd d.name->mg d.name>(.ref fa)->
   s₁.heap.get? a>{cls:=.type "list",data:=.seq vs.toArray}->IntsAre vs ns->-ns<=n->s₁.gens=([].toArray)->
   codeAny (model l.prog w) callerA (.call (.ref fa) #[[.ref a],[]]) (λ r s'=>r=.ok (.ret (.bool true))/\OldK s₁.heap s'.heap/\s'.os=s₁.os/\AllBare s'.gens) s₁):
  WalkO q loose XP YP l.row.toRowW d [] (λ f vs=>PySem.call f vs):=by
 intro w s₀ s₁ mg mb G Y fa o pm cd doc dV kV ho hd qD hD Vx hg args vals as MK acY hrd YG hlo;obtain rfl:dV=.none:=Dflts.none hD VD;obtain rfl:kV=.none:=Dflts.noKw hD;let#[a,vs,ns,rfl,rfl,Ie,hints,hlen]:=Dl hn MK YG;refine enter_call (J4 (call w s₀ s₁ mg mb fa o pm cd doc a vs ns G Y ho (fd_plain hd) qD Vx Ie hints hlen hg) λ r s' hq=>?_);let#[rfl,h2,h3,h4]:=hq;exact#[.inl #[.bool true,.bool true,[],rfl,λ _=>rfl,.bool true,Dz l _,λ _=>#[List.Pairwise.nil,λ _ hm=>(nomatch hm)]],h2,h3,h4]
end Att
namespace L2
open PySem.Spec PyProof.Rows
theorem rq:∀{vs:List ac} {ns:List Int},IntsAre vs ns->ut (ns.map V.int) vs
 |_,_,.nil=>.nil
 |_,_,.cons n t h=>.cons #[t,rfl] (rq h)
def bN(s:Stmt):Arguments:=match s with
 | .FunctionDef _ a _ _ _ _ _ _ _ _=>a
 |_=>{posonlyargs:=[],args:=[],vararg:=none,kwonlyargs:=[],kw_defaults:=[],kwarg:=none,defaults:=[]}
def bp(s:Stmt):List Stmt:=match s with
 | .FunctionDef _ _ b _ _ _ _ _ _ _=>b
 |_=>[]
def aD(s:Stmt):Scope:=match s with
 | .FunctionDef _ _ _ _ _ _ sc _ _ _=>sc
 |_=>{kind:=.function,names:=[],isGenerator:=false,isCoroutine:=false}
abbrev eQ:Ju:=λ _ _ _ _ _ _=>False
abbrev E0:XK:=λ _ _ _=>False
def Oi:Passes eQ X E0:=λ _ _ _ _ _ _ _ h=>h.elim
structure jO(K:L8)(x qual:Str)(st:Stmt)(f:be)(fd:FuncData):Prop where
 ex:∃(oc:ac)(od:Option be)(kV doc pm:ac)(an:Option be)(dF ct:ac)(yt:Array (Option ac)),
  fd=PySem.W.fnOf x qual (bN st) (bp st) (aD st) .none kV doc pm an dF ct/\K.lookup f>#[oc,od,.func fd,yt]/\PySem.W.codeIn K dF qual=true
 kp:PySem.W.keepIn K `C=true
def jO.ok{x qual:Str}{st:Stmt}{f:be}{fd:FuncData}{N ps:List Str}{k:Nat}{sp:Sp}(F:jO K x qual st f fd)(S:ir N ps (aD st))(len:∀vs H Q E,sp vs H Q E->-vs=-ps) (eJ:∀(dF:ac)(A:Around)(outer:List Env)(s:bd)(H:Hp)(vs:List V)(Q:VK)(E:XK),cz k (A.deeper (envOfC qual (aD st) s⁻¹ f dF))->sp vs H Q E->
   ∃t,xw (qT eQ P w K mg base N qual (aD st) f dF A outer s H E).Mb (bp st) t/\t {nx:=λ _ H'=>Q .bf H',rt:=Q} (start N vs) H):bS P w K mg base eQ (k+1) f fd ps sp:=by
 let#[oc,od,kV,doc,pm,an,dF,ct,yt,rfl,lk,qD]:=F.ex;refine OL lk qD S len λ A outer s H vs Q E hr DZ=>?_;let#[t,h,q]:=eJ dF A outer s H vs Q E hr DZ;exact#[t,h.Mb,q]
def jO.binds(F:jO K x qual st f fd)(h:∀(kV doc pm:ac)(an:Option be)(dF ct:ac)(us:List ac),-us=-ps->bindArgs (PySem.W.fnOf x qual (bN st) (bp st) (aD st) .none kV doc pm an dF ct) #[us,[]]=pure (ps.zip us)):Binds K fd ps []:=by let#[oc,od,kV,doc,pm,an,dF,ct,yt,rfl,lk,qD]:=F.ex;exact .all (h kV doc pm an dF ct)
def Sf{oc:ac}{od an:Option be}{kV doc pm dF ct:ac}(l:K.lookup f>#[oc,od,.func (PySem.W.fnOf x qual (bN st) (bp st) (aD st) .none kV doc pm an dF ct),yt])(c:PySem.W.codeIn K dF qual=true)(k:PySem.W.keepIn K `C=true):jO K x qual st f (PySem.W.fnOf x qual (bN st) (bp st) (aD st) .none kV doc pm an dF ct):=#[#[oc,od,kV,doc,pm,an,dF,ct,yt,rfl,l,c],k]
def nn.oQ{D:be}{o:HO}(I:nn X im σ H s)(hn:H D=none)(new:br X.prog X.w (u8 H D o) s.heap D o)(hL:D≠X.env.locals)(hs:X.s₀.heap.objs.size<=D)(hc:∀x c,X.env.cells.lookup x>c->c≠D)(hp:∀p∈X.pn++im,p.1≠D):nn X im σ (u8 H D o) s:=by
 have ne:∀{b:be} {u:HO},H b>u->b≠D:=λ e=>bI e hn;have nb:∀(b:be)(ob:Obj),X.s₀.heap.get? b>ob->b≠D:=λ b ob e=>G4 (p9 (G5 e) hs);refine#[I.ok,I.os,I.bare,#[I.base.keep,I.base.slot,λ b ob e n hx=>?_,I.base.there,λ b xs e=>?_,λ b ob u e=>?_,λ b ps e=>?_],I.loc,I.cell,?_,λ x c e=>?_,λ p ED=>?_,λ b u e=>?_,I.len]
 ·rw[aJ (nb b ob e)];exact I.base.free b ob e n hx
 ·have q:=I.base.lX b xs e;rw[aJ (ne q)];exact q
 ·have q:=I.base.mz b ob u e;rw[aJ (ne q)];exact q
 ·let#[m,q]:=I.base.mV b ps e;exact#[m,aJ (ne q)>=q]
 ·rw[aJ (K9 hL)];exact I.free
 ·rw[aJ (hc x c e)];exact I.fV x c e
 ·let#[e,n,r]:=I.pin p ED;exact#[e,aJ (hp p ED)>=n,r]
 ·by_cases hb:b=D
  ·subst hb;rw[aH]at e;cases e;exact new
  ·rw[aJ hb]at e;exact(I.aX b u e).lY (λ c v _ q=>q) (λ c q=>aJ (ne q)>=q) λ c xs q=>aJ (ne q)>=q
def bq(cells:List (Str×be)):List (Str×NameKind)->List (Str×be)->List (Str×be)
 |[],jp=>jp
 |(n,k)::r,jp=>if(k==.free)=true then bq cells r ((n,(cells.lookup n).getD 0)::jp)else bq cells r jp
theorem fH:∀(names:List (Str×NameKind))(jp:List (Str×be)),(∀n,(n,NameKind.free)∈names->∃c,cells.lookup n>c)-> (∀x c,jp.lookup x>c->cells.lookup x>c)->∀x c,(bq cells names jp).lookup x>c->cells.lookup x>c
 |[],jp,_,h,x,c,e=>h x c e
 |(n,k)::r,jp,hc,h,x,c,e=>by
  unfold bq at e;by_cases hk:(k==NameKind.free)=true
  ·rw[L1 hk]at e;refine fH r _ (λ m hm=>hc m (k8 _ hm)) (λ y d q=>?_) x c e;have Ii:k=NameKind.free:= ~~~hk
   let#[c0,e0]:=hc n (Ii>=o7);rw[y7]at q;cases hy:(y==n)with
   |true=>
    rw[hy]at q;have yn:y=n:= ~~~hy
    subst yn;rw[e0]at q;rw[e0];exact q
   |false=>rw[hy]at q;exact h y d q
  ·rw[L7 hk]at e;exact fH r _ (λ m hm=>hc m (k8 _ hm)) h x c e
theorem jj:∀(names:List (Str×NameKind))(jp:List (Str×be)),((jp.lookup x).isSome=true)->((bq cells names jp).lookup x).isSome=true
 |[],jp,h=>h
 |(n,k)::r,jp,h=>by
  unfold bq;split
  ·refine jj r _ ?_;rw[y7];cases hy:(x==n)with
   |true=>rfl
   |false=>exact h
  ·exact jj r _ h
theorem gO:∀(names:List (Str×NameKind))(jp:List (Str×be)),(x,NameKind.free)∈names->((bq cells names jp).lookup x).isSome=true
 |[],jp,h=>bi h `g
 |(n,k)::r,jp,h=>by
  unfold bq;rcases E8.mp h with e|h
  ·cases e;rw[L1 `c];refine jj r _ ?_;rw[y7];simp
  ·split
   ·exact gO r _ h
   ·exact gO r _ h
def eA{env:Env}(hc:∀n,(n,NameKind.free)∈scope.names->∃c,env.cells.lookup n>c):closureFor scope env=pure (bq env.cells scope.names []):=by
 unfold closureFor;have all:∀(names:List (Str×NameKind))(jp:List (Str×be)),(∀n,(n,NameKind.free)∈names->∃c,env.cells.lookup n>c)->
   (forIn names jp (λ(x:Str×NameKind) (cs:List (Str×be))=>(match x with|(name,kind)=>if(kind==.free)=true then(do let c <- cellOf env name;pure (ForInStep.yield ((name,c)::cs)))else pure (ForInStep.yield cs):Sem (ForInStep (List (Str×be))))))=(pure (bq env.cells names jp):Sem (List (Str×be))):=by
  intro names
  induction names with
  |nil=>intro jp _;rfl
  |cons y r ih=>
   intro jp hc;let#[n,k]:=y;rw[C8];unfold bq;dsimp only;by_cases hk:(k==NameKind.free)=true
   ·rw[L1 hk,L1 hk];have Ii:k=NameKind.free:= ~~~hk
    let#[c0,e0]:=hc n (Ii>=o7);unfold cellOf;rw[e0];exact ih _ λ m hm=>hc m (k8 _ hm)
   ·rw[L7 hk,L7 hk];exact ih _ λ m hm=>hc m (k8 _ hm)
 have q:=all scope.names [] hc;refine Eq.trans ?_ (K8 (λ m=>m>>=pure) q);rfl
theorem pe{env:Env}:∀{names:List (Str×NameKind)} {x:Str},names.lookup x>.free-> (names.map λ(n,k)=>if(k==NameKind.free&&env.scope.kind==.function&&env.kindOf n==some .cell)then(n,NameKind.cell)else(n,k)).lookup x>.cell\/ (names.map λ(n,k)=>if(k==NameKind.free&&env.scope.kind==.function&&env.kindOf n==some .cell)then(n,NameKind.cell)else(n,k)).lookup x>.free
 |[],_,h=>by simp at h
 |(n,k)::r,x,h=>by
  have ih:=@pe env r x;rw[D9];dsimp only;cases hx:x==n with
  |true=>
   rw[y7,hx]at h;have h':k=NameKind.free:= ~~~h
   subst h';split
   ·left;rw[y7,hx]
   ·right;rw[y7,hx]
  |false=>
   rw[y7,hx]at h;have ih:=ih h;split
   ·rw[y7,hx];exact ih
   ·rw[y7,hx];exact ih
def uD{prog:Program}{w:World}{A:Around}{R:Result->bd->Prop}{s:bd}{elt target iter:Expr}{ifs:List Expr}{scope:Scope}{pos:Pos}{it jp:ac}{env:Env}(I:Nat->bd->Prop) (turn:∀n s,I n s->wpAny `d A (pyNext it) (λ r s1=>match r with
   |none=>R (.ok .next) s1
   |some v=>wpAny `d A (letOwnedTupleGo target it v) (λ _ s2=>wpAny `d A (assign target env v) (λ _ s3=>
     wpAny `d A (forIn ifs true λ c r=>if r=true then do let ok <- isTrue c env (eval c env);pure (ForInStep.yield ok)else pure (ForInStep.yield r)) (λ ok s4=>
      if ok=true then wpAny `d A (eval elt env) (λ x s5=>
       wpAny `d A (call (.builtin "list.append") [jp,x]) (λ _ s6=>∃m,m<n/\I m s6) (λ _ _=>False) s5) (λ _ _=>False) s4
      else ∃m,m<n/\I m s4) (λ _ _=>False) s3) (λ _ _=>False) s2) (λ _ _=>False) s1) (λ _ _=>False) s)
  (n:Nat) (h:I n s):
  codeAny `d A (.compLoop (.ListComp elt [#[target,iter,ifs,0]] scope pos) 0 it jp env) R s:=by
 refine codeAny_loop rfl I (λ n s hI=>?_) n h;show wpAny _ A ((compTurn (.ListComp elt [#[target,iter,ifs,0]] scope pos) 0 it jp env).onRaise (λ x=>do noteFrame x env;theTreesLotGoes x)) _ _ s;refine wpAny_noted ?_;rw[compTurn_list];refine wpAny_noRaise (K1 (wpAny_standAt (K1 (K6 (turn n s hI) (λ r s1 h1=>?_) λ _ _ h'=>h'))));cases r with
 |none=>exact K3 h1
 |some v=>
  refine K1 (K6 h1 (λ _ s2 h2=>?_) λ _ _ h'=>h');refine K1 (K6 h2 (λ _ s3 h3=>K1 (K6 h3 (λ ok s4 h4=>?_) λ _ _ h'=>h')) λ _ _ h'=>h');cases ok with
  |false=>exact K3 #[rfl,h4]
  |true=>exact K1 (K1 (K6 h4 (λ x s5 h5=>K1 (K6 h5 (λ _ s6 h6=>K3 (K3 #[rfl,h6])) λ _ _ h'=>h')) λ _ _ h'=>h'))
def ba(X:Cx)(scope:Scope)(cl:List (Str×be))(cA:List Str)(fr:List Nat)(C:be)(fp:List be)(s:bd)(H:Hp):Cx:=
 {X with N:=cA++fr.map (λ j=>X.N.getD j ""),s₀:=s,H₀:=H,env:=compEnvC scope cl C X.env,outer:=X.stack,ex:=fp,fn:=λ x=>scope.names.lookup x==some .cell,pn:=[]}
def fX(n:Nat)(fr:List Nat)(σ:St):St:=List.replicate n none++fr.map (λ j=>σ.getD j none)
structure Jw(X:Cx)(scope:Scope)(C:be)(h1:Heap)(cl:List (Str×be)):Prop where
 look:∀x c,cl.lookup x>c->X.env.cells.lookup x>c\/(C<c/\h1.IsCell c none)
 inj:∀x y c,cl.lookup x>c->cl.lookup y>c->x=y
 has:∀x,(x,NameKind.free)∈scope.names\/(x,NameKind.cell)∈scope.names->∃c,cl.lookup x>c
 Sg:∀x c,scope.names.lookup x>.free->cl.lookup x>c->X.env.cells.lookup x>c
 own:∀x c,scope.names.lookup x>.cell->cl.lookup x>c->C<c
structure iG(X:Cx)(scope:Scope)(fr:List Nat):Prop where
 kind:scope.kind=.function
 cells:∀y∈scope.names,y.2=.cell->scope.names.lookup y.1>.cell
 names:∀y∈scope.names,y.2=.local->scope.names.lookup y.1>.local
 has:∀n,(n,NameKind.free)∈scope.names->X.env.kindOf n>.cell\/X.env.kindOf n>.free
 fr:∀j∈fr,j< -X.N/\scope.names.lookup (X.N.getD j "")>.free
def kC(n:Nat)(g:TG):Prop:=∀x σ H Q,g x σ H Q->g x σ H λ σ2 H2=>Q σ2 H2/\-σ2=-σ/\∀k,n<=k->σ2[k]?=σ[k]?
def jK(h:i<n):kC n (cX i):=λ x σ H Q q=>#[q,by simp,λ k hk=>by rw[l7 ()]]
def ow(n:Nat)(g:Cu):Prop:=∀xs σ H Q,g xs σ H Q->g xs σ H λ σ2 H2=>Q σ2 H2/\-σ2=-σ/\∀k,n<=k->σ2[k]?=σ[k]?
def Iw:ow n ux:=λ xs σ H Q q=>#[q.1,q.2,rfl,λ _ _=>rfl]
def TB(X:Cx)(ifs:List Expr)(t:TT):Prop:=
 ∀(im:List (be×Obj))(s:bd)(σ:St)(H:Hp)(Q:Bool->Hp->Prop),nn X im σ H s->t σ H Q->
  wpAny `f X.A (forIn ifs true λ c r=>if r=true then do let ok <- isTrue c X.env (eval c X.env);pure (ForInStep.yield ok)else pure (ForInStep.yield r)) (TP X im σ Q) X.xe s
def Xz:TT:=λ _ H Q=>Q true H
def Lw:TB X [] Xz:=λ _ s σ H Q I h=>wpAny_tests_nil #[H,I,h]
def Lv{c:Expr}{t:TT}(h:PT X c t):TB X [c] t:=λ im s σ H Q I q=>wpAny_tests_one (h im s σ H Q I q)
def vw(wi:TI)(g:TG)(tt:TT)(te:TE)(n:Nat)(fr:List Nat):TE:=λ σ H Q=>wi σ H λ J H1=>∃W:Nat->Nat->List V->Hp->Prop,(∃m,W 0 m [] H1)/\∀i m jp H,W i m jp H->
 (-jp)<=sizeLine/\((J.stop i H/\∀p,H p=none->Q `j (u8 H p (.lst jp)))\/
  (J.go i H/\∃N:List V->Hp->Prop,(∀iq H',N iq H'->∃m',m'<m/\W (i+1) m' iq H')/\∀x H',J.JQ i H x H'->g x (fX n fr σ) H' λ σ2 H2=>tt σ2 H2 λ b H3=>if b=true then te σ2 H3 λ y H4=>N (jp++[y]) H4 else N jp H3))
theorem iW{env:Env}:∀{names:List (Str×NameKind)} {x:Str} {k0:NameKind}, (names.map λ(n,k)=>if(k==NameKind.free&&env.scope.kind==.function&&env.kindOf n==some .cell)then(n,NameKind.cell)else(n,k)).lookup x>k0->(k0=.cell\/k0=.free)->(x,NameKind.free)∈names\/(x,NameKind.cell)∈names
 |[],_,_,h,_=>by simp at h
 |(n,k)::r,x,k0,h,hk=>by
  have ih:=@iW env r x k0;rw[D9]at h;dsimp only at h;cases hx:x==n with
  |true=>
   have xn:x=n:= ~~~hx
   subst xn;by_cases VE:(k==NameKind.free&&env.scope.kind==.function&&env.kindOf x==some .cell)=true
   ·have:k=NameKind.free:=by have:=(A2 _ _).mp VE;have:=(A2 _ _).mp this.1;simpa using this.1
    subst this;exact .inl o7
   ·rw[L7 VE,y7,hx]at h;have h':k=k0:= ~~~h
    subst h';rcases hk with e|e
    ·subst e;exact .inr o7
    ·subst e;exact .inl o7
  |false=>
   have z:(x,NameKind.free)∈r\/(x,NameKind.cell)∈r:=by
    refine ih ?_ hk;split at h
    ·rw[y7,hx]at h;exact h
    ·rw[y7,hx]at h;exact h
   exact z.imp (k8 _) (k8 _)
def jG{n:Str}{jp:List (Str×be)}(h:((n,a)::jp).lookup x>c):(x=n/\c=a)\/(x≠n/\jp.lookup x>c):=by
 rw[y7]at h;cases e:x==n with
 |true=>rw[e]at h;exact .inl #[~~~e,(B7 h).symm]
 |false=>rw[e]at h;exact .inr #[~~~e,h]
set_option tactic.hygienic true in
theorem uF:∀(names:List (Str×NameKind))(h:Heap)(jp:List (Str×be))(x:Str)(c:be),(cellsFrom h.objs.size names jp).lookup x>c->jp.lookup x>c\/(h.objs.size<=c/\(pushCells h names).IsCell c none)
 |[],_,_,_,_,e=>.inl e
 |(n,k)::r,h,jp,x,c,e=>by
  unfold cellsFrom at e;unfold pushCells;split at e
  ·rename_i hk;rw[L1 hk];have sz:=D3 h {cls:=.type "cell",data:=.cell none};rw[<- sz]at e;rcases uF r _ _ x c e with z|z
   ·rcases jG z with⟨_,q⟩|⟨_,q⟩
    ·subst q;exact .inr #[J7 _,_,pushCells_keeps r _ _ _ (n5 _ rfl),rfl]
    ·exact .inl q
   ·exact .inr #[by have:=z.1;rw[sz]at this;lia,z.2]
  ·rename_i hk;rw[L7 hk];exact uF r h jp x c e
theorem zr:∀(names:List (Str×NameKind))(n:Nat)(jp:List (Str×be)),(∀x c,jp.lookup x>c->c<n)->(∀x y c,jp.lookup x>c->jp.lookup y>c->x=y)->∀x y c,(cellsFrom n names jp).lookup x>c->(cellsFrom n names jp).lookup y>c->x=y
 |[],_,_,_,hi=>hi
 |(m,k)::r,n,jp,lt,hi=>by
  unfold cellsFrom;split
  ·refine zr r (n+1) _ (λ x c e=>?_) (λ x y c e1 e2=>?_)
   ·rcases jG e with⟨_,q⟩|⟨_,q⟩
    ·rw[q];exact Nat.lt_succ_self n
    ·exact y6 (lt x c q)
   ·rcases jG e1 with⟨a1,q1⟩|⟨a1,q1⟩<;>rcases jG e2 with⟨a2,q2⟩|⟨a2,q2⟩
    ·rw[a1,a2]
    ·exact bi (q1▸lt y c q2) (D8 _)
    ·exact bi (q2▸lt x c q1) (D8 _)
    ·exact hi x y c q1 q2
  ·exact zr r n jp lt hi
theorem oj:∀(names:List (Str×NameKind))(n:Nat)(jp:List (Str×be)),(∃c,jp.lookup x>c)->∃c,(cellsFrom n names jp).lookup x>c
 |[],_,_,h=>h
 |(m,k)::r,n,jp,⟨c,h⟩=>by
  unfold cellsFrom;split
  ·refine oj r _ _ ?_;rw[y7];cases x==m with
   |true=>exact#[_,rfl]
   |false=>exact#[c,h]
  ·exact oj r n jp #[c,h]
theorem zt:∀(names:List (Str×NameKind))(n:Nat)(jp:List (Str×be)),(x,NameKind.cell)∈names->∃c,(cellsFrom n names jp).lookup x>c
 |[],_,_,h=>bi h `g
 |(m,k)::r,n,jp,h=>by
  unfold cellsFrom;rcases E8.mp h with e|h
  ·cases e;rw[L1 `c];exact oj r _ _ #[n,by rw[y7];simp]
  ·split
   ·exact zt r _ _ h
   ·exact zt r _ _ h
set_option tactic.hygienic true in
theorem zu:∀(names:List (Str×NameKind))(n:Nat)(jp:List (Str×be)),(x,NameKind.cell)∉names->(cellsFrom n names jp).lookup x=jp.lookup x
 |[],_,_,_=>rfl
 |(m,k)::r,n,jp,h=>by
  unfold cellsFrom;split
  ·rename_i hk;rw[zu r _ _ λ z=>h (k8 _ z),y7];cases e:x==m with
   |false=>rfl
   |true=>
    have e1:x=m:= ~~~e
    have e2:k=.cell:= ~~~hk
    subst e1 e2;exact bi o7 h
  ·exact zu r n jp λ z=>h (k8 _ z)
set_option tactic.hygienic true in
theorem zq{lo:Nat}:∀(names:List (Str×NameKind))(n:Nat)(jp:List (Str×be)),lo<=n->((x,NameKind.cell)∈names\/∀c,jp.lookup x>c->lo<=c)->∀c,(cellsFrom n names jp).lookup x>c->lo<=c
 |[],_,_,_,h,c,e=>by
  rcases h with h|h
  ·cases h
  ·exact h c e
 |(m,k)::r,n,jp,hn,h,c,e=>by
  unfold cellsFrom at e;split at e
  ·refine zq r (n+1) _ () ?_ c e;rcases h with h|h
   ·rcases E8.mp h with q|q
    ·cases q;exact .inr λ c e=>by
      rcases jG e with⟨_,z⟩|⟨z,_⟩
      ·rw[z];exact hn
      ·exact bi rfl z
    ·exact .inl q
   ·exact .inr λ c e=>by
     rcases jG e with⟨_,z⟩|⟨_,z⟩
     ·rw[z];exact hn
     ·exact h c z
  ·rename_i hk;refine zq r n jp hn ?_ c e;rcases h with h|h
   ·rcases E8.mp h with q|q
    ·cases q;exact bi rfl hk
    ·exact .inl q
   ·exact .inr h
section
variable {M:Model}
def DH{globals:be}{closure:List (Str×be)}{func:Option be}{code:ac}{env:Env}{builtins:be}{Q:Env->bd->Prop}(hQ:Q (newEnv scope s⁻¹ globals (cellsFrom (s⁻¹+1) scope.names closure) qual func code (some env) builtins) {s with heap:=pushCells (s.heap.push {cls:=.type "dict",data:=.dict ([].toArray)}) scope.names}):wpAny M A (newFunctionEnv scope globals closure [] qual func code (some env) builtins) Q E s:=by simp only[newFunctionEnv,Option.isSome_some,if_true];refine K1 (wpAny_alloc ?_);refine K1 (wpAny_layCells _ (λ name kind cells=>by cases hkc:kind==NameKind.cell<;>simp[hkc]) _ _ _ _ ?_);rw[show({s with heap:=s.heap.push {cls:=.type "dict",data:=.dict ([].toArray)}}:bd).heap.objs.size=s⁻¹+1 from D3 ..];exact K1 (K3 (K3 hQ))
end
def SE{C:be}{h1:Heap}(B:iG X scope fr)(L:Jw X scope C h1 cl)(I:nn X im σ H s)(hC:s⁻¹<=C)(f:∀b∈fp,kG X im H b)(JE:∀b∈fp,b<s⁻¹): (ba X scope cl cA fr C fp s H).Ok:=by
 refine⟨I.ok.mod,B.kind,I.ok.glob,I.ok.blt,hC,L.inj,λ x hx=>?_,λ x c h e=>?_,I.ok.hd,I.ok.frames,.inl rfl,λ b hb=>#[G4 (p9 (JE b hb) hC),λ x c e=>?_],
  I.bs,G9 I.ok.Cm I.sz,λ b o e hb=>?_,λ b hb hs=>?_,I.stack,I.sW⟩
 ·rcases hx with hx|hx
  ·exact L.has x (iW hx (.inl rfl))
  ·exact L.has x (iW hx (.inr rfl))
 ·exact G9 hC (J6 (L.own x c (by simpa[ba]using h) e))
 ·rcases L.look x c e with z|z
  ·exact(f b hb).2.2.2.2.1 x c z
  ·exact λ q=>bi (p8 hC z.1) (Nat.not_lt.mpr (J6 (q▸JE b hb)))
 ·rcases(f b hb).2.2.2.1 with z|z
  ·exact I.ok.DG b o e z
  ·exact bi (p9 (G5 e) (G9 I.ok.Cm z)) (D8 _)
 ·rcases E8.mp (I.oU b hs)with z|z
  ·exact(f b hb).2.1 z
  ·exact(f b hb).2.2.1 z
def NG{s1:bd}{C:be}{m:Str->Option ac}(B:iG X scope fr)(L:Jw X scope C s1.heap cl)(I:nn X im σ H s)(hC:s⁻¹<=C)(f:∀b∈fp,kG X im H b)(JE:∀b∈fp,b<s⁻¹)(ho:s1.os=s.os)(hg:AllBare s1.gens)(hk:∀b o,s.heap.get? b>o->s1.heap.get? b>o)(hn:s1.heap.Ns C m):nn `l [] (fX (-cA) fr σ) H s1:=by
 refine#[SE B L I hC f JE,ho,hg,Un.kept hk,#[m,hn,λ i x v e1 e2 e3=>?_],λ x c e=>?_,I.aX.fresh hC,λ x c e=>?_,λ p hp=>bi hp (by simp[ba]),I.aX.kept hk,by simp[fX,ba]]
 ·-- a free name:ar ZV value
  have e1:(cA++fr.map (λ j=>X.N.getD j ""))[i]?>x:=e1;have hi:-cA<=i:=by refine y8 λ gm=>?_;unfold fX at e2;rw[c7 (~~~gm),i8,L1 gm]at e2;cases e2
  unfold fX at e2;rw[b7 (~~~hi),k5,w6]at e2;rw[b7 hi,w6]at e1;cases ej:fr[i-cA.length]? with
  |none=>rw[ej]at e1;cases e1
  |some j=>
   rw[ej]at e1 e2;have ZP:X.N.getD j ""=x:=B7 e1;have e2':σ.getD j none>v:=B7 e2;let#[hj,hl]:=B.fr j (k9 ej);have hN:X.N[j]?>x:=by rw[b8,i5 hj]at ZP;rw[i5 hj];exact K8 some ZP
   have hs:σ[j]?>(some v):=by
    have Ti:j < -σ:=I.len>=hj
    rw[b8,i5 Ti]at e2';rw[i5 Ti];exact K8 some e2'
   rw[ZP]at hl;let#[m0,BC,Zb]:=I.loc;have Vy:(x,NameKind.free)∈scope.names:=m7 hl;have kinds:=B.has x Vy;let#[u,ru,lu]:=Zb j x v hN hs (by rcases kinds with z|z;exact .inr (.inl z);exact .inr (.inr z));refine#[u,ru,.inr #[pe hl,?_]];let#[c,hc]:=L.has x (.inl Vy);refine#[c,hc,?_];rcases lu with⟨kl,_⟩|⟨_,c',Il,z⟩
   ·rcases kinds with z|z<;>(rw[z]at kl;cases kl)
   ·have:c=c':=by have:=L.Sg x c hl hc;rw[this]at Il;exact B7 Il
    subst this;let#[o,ho,hd]:=z;exact#[o,hk _ _ ho,hd]
 ·rcases L.look x c e with z|z
  ·let#[v,o,uk,hd]:=I.cell x c z;exact#[v,o,hk _ _ uk,hd]
  ·exact#[none,z.2]
 ·rcases L.look x c e with z|z
  ·exact I.fV x c z
  ·exact I.aX.fresh (G9 hC (J6 z.1))
def SF{h2:Heap}(B:iG X scope fr)(I:nn X im σ H s)(hs:s⁻¹<=h2.objs.size):Jw X scope h2.objs.size (pushCells (h2.push {cls:=.type "dict",data:=.dict ([].toArray)}) scope.names) (cellsFrom (h2.objs.size+1) scope.names (bq X.env.cells scope.names [])):=by
 have look:∀x c,(bq X.env.cells scope.names []).lookup x>c->X.env.cells.lookup x>c:=
  fH scope.names [] (λ n hn=>I.ok.has n (B.has n hn)) λ x c e=>by simp at e
 have sz:=D3 h2 {cls:=.type "dict",data:=.dict ([].toArray)};refine#[λ x c e=>?_,zr _ _ _ (λ x c e=>?_) (λ x y c e1 e2=>I.ok.inj x y c (look x c e1) (look y c e2)),λ x h=>?_,λ x c h e=>?_,λ x c h e=>?_]
 ·rw[<- sz]at e;rcases uF _ _ _ x c e with z|z
  ·exact .inl (look x c z)
  ·exact .inr #[p9 (sz>=Nat.lt_succ_self _) z.1,z.2]
 ·let#[v,hv]:=I.cell x c (look x c e);exact y6 (p9 hv.lt hs)
 ·rcases h with h|h
  ·exact oj _ _ _ (Option.isSome_iff_exists.mp (gO scope.names [] h))
  ·exact zt _ _ _ h
 ·rw[zu _ _ _ λ z=>by have:=B.cells _ z rfl;rw[h]at this;cases this]at e;exact look x c e
 ·exact zq (lo:=h2.objs.size+1) _ _ _ `G (.inl (m7 h)) c e
section
variable {pos:Pos}{wi:TI}{g:TG}{tt:TT}{te:TE}
def toF{M:Model}{t:Sem α}{Q Q':α->bd->Prop}(hE:∀e s,E e s->False)(h:wpAny M A t Q E s)(hQ:∀a s,Q a s->Q' a s):wpAny M A t Q' (λ _ _=>False) s:=
 K6 h hQ hE
def sI{im:List (be×Obj)}{σ:St}{H:Hp}{s:bd}{R:ac->be->Result->bd->Prop}{E:ac->bd->Prop}{J:It}{fp:List be}{it:be}{tn:Nat->Heap->Prop}{Qe:List V->Hp->Prop}(B:iG X scope fr)(hc:X.calm=true)(hE:∀e s,X.xe e s->False)(hg:∀cl C fp s H,PG `l tg g)(gk:kC (-cA) g)(ht:∀cl C fp s H,TB `l ifs tt)(he:∀cl C fp s H,PE `l elt te)(I:nn X im σ H s)(T:Turn X.prog X.w X.K tg J fp it tn)(st:tn 0 s.heap)(f:∀b∈fp,kG X im H b)(W:Nat->Nat->List V->Hp->Prop)(m0:Nat)(w0:W 0 m0 [] H) (turn:∀i m jp H,W i m jp H->-jp<=sizeLine/\((J.stop i H/\Qe jp H)\/(J.go i H/\∃N:List V->Hp->Prop,(∀iq H',N iq H'->∃m',m'<m/\W (i+1) m' iq H')/\∀x H',J.JQ i H x H'->g x (fX (-cA) fr σ) H' λ σ2 H2=>tt σ2 H2 λ b H3=>
   if b=true then te σ2 H3 λ y H4=>N (jp++[y]) H4 else N jp H3)))
  (fin:∀(D C:be)(s1:bd)(H1:Hp)(jp:List V)(ar:List ac),s⁻¹<=D->s⁻¹<=C->D≠C->nn X im σ H1 s1->H1 C=none->H1 D=none->(∃m,s1.heap.Ns C m)->
   s1.heap.PlainList D ar.toArray->ut jp ar->-jp<=sizeLine->Qe jp H1->R (.ref D) C (.ok .next) s1):
  wpAny `f X.A (newList []) (λ jp s3=>wpAny `f X.A (newFunctionEnv scope X.env.globals (bq X.env.cells scope.names []) [] X.env.qual none .none (some X.env)) (λ V5 s4=>
   codeAny `f X.A (.compStart `D 0 (.ref it) jp {V5 with scope:=relabel scope X.env}) (R jp V5.locals) s4) E s3) E s:=by
 have JE:∀b∈fp,b<s⁻¹:=λ b hb=>by let#[o,e,_]:=T.obj 0 _ st b hb;exact G5 e
 refine x4 (DH ?_);dsimp only;generalize Zz:s.heap.push {cls:=.type "list",dict:=none,data:=.seq ([]:List ac).toArray}=H2;have hC:H2.objs.size=s⁻¹+1:=by rw[<- Zz,D3]
 have L0:=SF (h2:=H2) B I ();have Vv:(pushCells (H2.push {cls:=.type "dict",data:=.dict ([].toArray)}) scope.names).Ns H2.objs.size (λ _=>none):=(Heap.Ns.new H2 (.type "dict")).keeps (pushCells_keeps _ _);have Yu:∀b o,H2.get? b>o->(pushCells (H2.push {cls:=.type "dict",data:=.dict ([].toArray)}) scope.names).get? b>o:=λ b o e=>pushCells_keeps _ _ b o (j4 _ e);generalize pushCells (H2.push {cls:=.type "dict",data:=.dict ([].toArray)}) scope.names=h1 at L0 Vv Yu ⊢;have Sb:s⁻¹≠H2.objs.size:=()
 have M_:s⁻¹<=H2.objs.size:=()
 have below:∀b,b<s⁻¹->b≠H2.objs.size/\b≠s⁻¹:=λ b hb=>#[(),()];have old:∀b o,s.heap.get? b>o->h1.get? b>o:=λ b o e=>Yu b o (Zz▸j4 _ e);have fL:h1.PlainList s⁻¹ ([].toArray):=#[_,Yu _ _ (Zz▸n5 _ rfl)];have st1:tn 0 h1:=T.keep _ _ _ st λ b _ o e=>old b o e;have Yo:∀x c,(cellsFrom (H2.objs.size+1) scope.names (bq X.env.cells scope.names [])).lookup x>c->X.env.cells.lookup x>c\/H2.objs.size<c:=λ x c e=>(L0.look x c e).imp id λ z=>z.1;generalize cellsFrom (H2.objs.size+1) scope.names (bq X.env.cells scope.names [])=cl at L0 Yo ⊢;generalize hCd:H2.objs.size=C at*;generalize VO:s⁻¹=D at*;have hDs:∀b,b<D->b<s⁻¹:=λ b hb=>VO>=hb
 have fD:=I.km (b:=D) (H':=H) (J0 VO) (I.aX.fresh (J0 VO));have NX:∀b,b≠X.env.locals->b∉X.fs->b∉vd X.stack:=λ b h1 h2 hb=>(E8.mp (I.oU b hb)).elim h1 h2;have vb:∀b∈fp,b∉vd X.stack:=λ b hb=>NX b (f b hb).2.1 (f b hb).2.2.1;have clt:∀x c,cl.lookup x>c->c≠D:=λ x c e=>(Yo x c e).elim (fD.2.2.2.2.1 x c) λ z q=>bi (p8 M_ (q▸z)) (D8 _);have loop:∀s3:bd,s3={s with heap:=h1}->
   codeAny `f X.A (.compLoop `D 0 (.ref it) (.ref D) (compEnvC scope cl C X.env)) (R (.ref D) C) s3:=by
  rintro s3 rfl;have IY0:nn `l [] (fX (-cA) fr σ) H {s with heap:=h1}:=
   NG B L0 I (VO>=M_) f (λ b hb=>hDs b (JE b hb)) rfl I.bare old Vv
  refine uD (λ n s'=>∃(i:Nat)(jp:List V)(ar:List ac)(H':Hp),nn `l [] (fX (-cA) fr σ) H' s'/\tn i s'.heap/\(∀b∈fp,H' b=none)/\H' D=none/\
   s'.heap.PlainList D ar.toArray/\ut jp ar/\W i n jp H') ?_ m0 #[0,[],[],H,IY0,st1,λ b hb=>(f b hb).1,fD.1,fL,.nil,w0]
  rintro n s3 ⟨i,jp,ar,H3,I3,Uc,VR,hD3,⟨nl,Ie⟩,Wz,w3⟩;let#[hz,h]:=turn i n jp H3 w3;have I3':nn `l [(D,{cls:=.type "list",data:=.seq ar.toArray nl})] (fX (-cA) fr σ) H3 s3:=I3.eR λ p hp=>by
   have e:p=(D,{cls:=.type "list",data:=.seq ar.toArray nl}):= ~~~hp
   subst e;exact#[Ie,hD3,Sb,NX D fD.2.1 fD.2.2.1,λ v e=>by cases e]
  have fY:∀{H':Hp},(∀b∈fp,H' b=none)->∀b∈fp,kG `l [(D,{cls:=.type "list",data:=.seq ar.toArray nl})] H' b:=λ hn b hb=>
   ⟨hn b hb,(below b (JE b hb)).1,vb b hb,.inl hb,λ x c e=>(Yo x c e).elim ((f b hb).2.2.2.2.1 x c) λ z q=>bi (p9 (JE b hb) (G9 M_ (J6 (q▸z)))) (D8 _),λ p hp=>by
    have e:p=(D,{cls:=.type "list",data:=.seq ar.toArray nl}):=by simpa[ba]using hp
    subst e;exact K9 (below b (JE b hb)).2⟩
  rcases h with⟨stop,q⟩|⟨go,N,hN,step⟩
  ·refine cZ (T.done `l rfl rfl rfl hc i _ s3 _ H3 _ I3' (fY VR) Uc stop) λ r s4 ⟨hr,I4⟩=>?_;subst hr;have pD:=I4.pin (D,{cls:=.type "list",data:=.seq ar.toArray nl}) `g;have IX:nn X im σ H3 s4:=I.V6 (ch:=fp) I4.os I4.base I4.aX I4.bare λ b hb=>#[(f b hb).2.2.2.1,(f b hb).2.1,(f b hb).2.2.2.2.1,(f b hb).2.2.2.2.2];let#[m4,hn4,_]:=I4.loc;exact fin D C s4 H3 jp ar `G M_ Sb IX I4.free pD.2.1 #[m4,hn4] #[nl,pD.1] Wz hz q
  ·refine cZ (T.item `l rfl rfl rfl hc i _ s3 _ H3 _ I3' (fY VR) Uc go) λ r s4 ⟨u,hr,h4⟩=>?_;subst hr;refine cZ h4 λ _ s5 ⟨x,H5,I5,r5,y5,Ke,ZH⟩=>?_;have Z_:=I5.pinned (fY ZH) (T.obj _ _ Ke);refine toF hE (hg _ _ _ _ _ _ s5 _ H5 x u _ Z_ r5 (gk x _ H5 _ (step x H5 y5))) λ _ s6 ⟨σ6,H6,I6,q6,Yr,k6⟩=>?_;refine toF hE (ht _ _ _ _ _ _ s6 σ6 H6 _ I6 q6) λ ok s7 ⟨H7,I7,q7⟩=>?_;have wk:∀{H':Hp} {s':bd} {pl:List (be×Obj)},nn `l pl σ6 H' s'->nn `l pl (fX (-cA) fr σ) H' s':=λ J=>
    J.weak Yr.symm λ k v e=>by
     by_cases hk:-cA<=k
     ·rw[k6 k hk];exact e
     ·unfold fX at e;rw[c7 (~~~hk),i8,L1 ()]at e;cases e
   cases ok with
   |false=>simp only[p5,K7]at q7 ⊢;let#[m',hm,w7]:=hN _ _ q7;have pD:=I7.pin (D,{cls:=.type "list",data:=.seq ar.toArray nl}) `g;refine#[m',hm,i+1,jp,ar,H7,wk (I7.eR (pins':=[]) λ p hp=>bi hp `g),T.keep _ _ _ Ke λ b hb o e=>(I7.pin (b,o) (j8 _ (j8 _ (dZ hb e)))).1,λ b hb=>?_,pD.2.1,#[nl,pD.1],Wz,w7];let#[o,e,d]:=T.obj _ _ Ke b hb;exact(I7.pin (b,o) (j8 _ (j8 _ (dZ hb e)))).2.1
   |true=>
    simp only[if_true]at q7 ⊢;refine toF hE (he _ _ _ _ _ _ s7 σ6 H7 _ I7 q7) λ uy s8 ⟨y,H8,I8,r8,n8⟩=>?_;let#[m',hm,w8]:=hN _ _ n8;have pD:=I8.pin (D,{cls:=.type "list",data:=.seq ar.toArray nl}) `g;have hits:ar.toArray.size<=sizeLine:=by have:=-Wz;simp only[y3];lia
    refine wpAny_list_append_plain (hsz:=hits) (show s8.heap.PlainList D ar.toArray from#[nl,pD.1]) λ h9 Za hs9=>?_;have I9:nn `l [] σ6 H8 {s8 with heap:=h9,toks:=s8.toks}:=
     (I8.eR (pins':=[]) λ p hp=>bi hp `g).turned (it:=D) (λ b o hb e=>hs9.extBut b o hb e) pD.2.1 Sb (.inr (J0 VO)) clt λ p hp=>bi hp (by simp[ba])
    refine#[m',hm,i+1,jp++[y],ar++[uy],H8,wk I9,T.keep _ _ _ Ke λ b hb o e=>hs9.extBut b o (below b (JE b hb)).2 (I8.pin (b,o) (j8 _ (j8 _ (dZ hb e)))).1,λ b hb=>?_,pD.2.1,?_,Wz.append (.cons r8 .nil),w8]
    ·let#[o,e,d]:=T.obj _ _ Ke b hb;exact(I8.pin (b,o) (j8 _ (j8 _ (dZ hb e)))).2.1
    ·have e:(ar++[uy]).toArray=ar.toArray.push uy:=by simp
     rw[e];exact Za
 exact codeAny_compStart_list (loop _ rfl) (T.self _ 0 _ _ _ st1 (loop _ rfl))
def tO(B:iG X scope fr)(hc:X.calm=true)(hE:∀e s,X.xe e s->False)(hi:PI X tg iter wi)(hg:∀cl C fp s H,PG `l tg g)(gk:kC (-cA) g)(ht:∀cl C fp s H,TB `l ifs tt)(he:∀cl C fp s H,PE `l elt te)(hs:OX X iter:=by intro _;rfl):PE X `D (vw wi g tt te (-cA) fr):=by intro im s σ H Q I h;rw[eval_ListComp];have vc:=eA (scope:=scope) (env:=X.env) λ n hn=>I.ok.has n (B.has n hn);refine wpAny_comprehension_free (use:=none) rfl hs vc B.kind B.names (K6 (hi im s σ H _ I h) (λ xv s1 h1=>K6 h1 (λ WM s2 h2=>?_) λ _ _ e=>e) λ _ _ e=>e);let#[it,fp,tn,J,H2,rfl,I2,T,Jz,f2,W,#[m0,w0],turn]:=h2;refine sI (R:=λ jp C=>compPost `f X.A X.xe none (EP X im σ Q) jp C) (Qe:=λ jp H=>∀p,H p=none->Q `j (u8 H p (.lst jp))) B hc hE hg gk ht he I2 T Jz f2 W m0 w0 turn ?_;intro D C s1 H1 jp ar hD hC Sb I1 nC nD ⟨m,hn⟩ hl rv hz q;refine#[m,hn,λ h' fT=>?_];have fC:=I2.km (b:=C) (H':=H1) hC nC;have fD:=I2.km (b:=D) (H':=H1) hD nD;have I3:nn X im σ H1 {s1 with heap:=h',toks:=s1.toks}:=I1.turned (it:=C) (λ b o hb e=>fT.extBut b o hb e) nC fC.2.1 fC.2.2.2.1 fC.2.2.2.2.1 fC.2.2.2.2.2;let#[k,e]:=hl.extBut fT.extBut Sb;exact#[.ref D,u8 H1 D (.lst jp),I3.oQ nD #[hz,ar,k,rv,e] fD.2.1 (G9 I2.sz hD) fD.2.2.2.2.1 fD.2.2.2.2.2,rfl,q D nD]
def yl{y:Str}{py Fn:Pos}(hN:X.N.Nodup)(Ze:X.N[i]?>y)(hy:Loc X.env.scope y)(B:iG X scope fr)(hc:X.calm=true)(hE:∀e s,X.xe e s->False)(hi:PI X tg iter wi)(hg:∀cl C fp s H,PG `l tg g)(gk:kC (-cA) g)(ht:∀cl C fp s H,TB `l ifs tt)(he:∀cl C fp s H,PE `l elt te)(YO:swapsWith `D (some (.Name y py)) Fn.line X.env=pure true:=by rfl)(hf:JO X y:=by ac_rfl)(hs:OX X iter:=by intro _;rfl):PS X (.Assign [.Name y py] `D Fn) (Ka (vw wi g tt te (-cA) fr) (cX i)):=by
 intro im s σ H D0 I h;rw[exec_Assign_Name_used _ _ _ _ YO];have vc:=eA (scope:=scope) (env:=X.env) λ n hn=>I.ok.has n (B.has n hn);refine K1 (wpAny_standAt (K1 ?_));show wpAny _ X.A (do let _ <- comprehension (.ListComp elt [⟨tg,iter,ifs,0⟩] scope pos) scope X.env _ (newList []) false (eval iter X.env) (some (assign (.Name y py) X.env))) _ _ s;refine K1 (K6 (wpAny_comprehension_free (use:=some (assign (.Name y py) X.env)) (Q:=λ _ s'=>SP X im D0 .next s') rfl hs vc B.kind B.names
  (K6 (hi im s σ H _ I h) (λ xv s1 h1=>K6 h1 (λ WM s2 h2=>?_) λ _ _ e=>e) λ _ _ e=>e)) (λ _ s' hq=>K3 (K3 hq)) λ _ _ e=>e)
 let#[it,fp,tn,J,H2,rfl,I2,T,Jz,f2,W,#[m0,w0],turn]:=h2;refine sI (R:=λ jp C=>compPost `f X.A X.xe (some (assign (.Name y py) X.env)) (λ _ s'=>SP X im D0 .next s') jp C) (Qe:=λ jp H=>∀p,H p=none->cX i `j σ (u8 H p (.lst jp)) D0.nx) B hc hE hg gk ht he I2 T Jz f2 W m0 w0 turn ?_;intro D C s1 H1 jp ar hD hC Sb I1 nC nD ⟨m,hn⟩ hl rv hz q;have fC:=I2.km (b:=C) (H':=H1) hC nC;have fD:=I2.km (b:=D) (H':=H1) hD nD;let#[k,e]:=hl;have I3:nn X im σ (u8 H1 D (.lst jp)) s1:=I1.oQ nD #[hz,ar,k,rv,e] fD.2.1 (G9 I2.sz hD) fD.2.2.2.2.1 fD.2.2.2.2.2;show wpAny _ X.A (assign (.Name y py) X.env (.ref D)) _ _ s1;refine wpAny_assign_Name (rJ I3 hN Ze hy (show sK (.ref D) (.ref D)from rfl) (λ s2 J2 ⟨a,MG,ha⟩=>?_) hf);have aC:C≠a:=by
  rcases ha with z|z
  ·rw[z];exact fC.2.1
  ·exact K9 (fC.2.2.2.2.1 _ _ z)
 refine#[m,hn.sameBut MG aC,λ h' fT=>?_];have nC':(u8 H1 D (.lst jp)) C=none:=aJ (K9 Sb)>=nC
 have I4:nn X im (σ.set i (some (.ref D))) (u8 H1 D (.lst jp)) {s2 with heap:=h',toks:=s2.toks}:=J2.turned (it:=C) (λ b o hb e=>fT.extBut b o hb e) nC' fC.2.1 fC.2.2.2.1 fC.2.2.2.2.1 fC.2.2.2.2.2;exact#[_,_,I4,q D nD]
end
def zo(x:Str)(lo hi:Option Int):Str:=#[((x.cps.toList.drop (HT.cK (-x) 0 lo)).take (HT.cK (-x) (-x) hi-HT.cK (-x) 0 lo)).toArray]
def Ff(lo hi:Option Int)(n:Nat):Builtin.Str.strSliceIndices lo hi 1 n=sliceRange ((HT.cK n 0 lo:Nat):Int) ((HT.cK n n hi:Nat):Int) 1:=by let#[h1,h2,h3]:=kQ lo hi n;rw[<- h1,<- h2];rfl
set_option tactic.hygienic true in
def Dj(x:Str)(lo hi:Option Int):Txt.slice x lo hi=zo x lo hi:=by
 have e:((Builtin.Str.strSliceIndices lo hi 1 (-x)).filterMap (x.cps[·]?)).toArray=(zo x lo hi).cps:=by rw[Ff,sliceRange_one,pick_run];rfl
 unfold Txt.slice;split
 ·rename_i h;have hl:(Builtin.Str.strSliceIndices lo hi 1 (-x)).length=-x:= ~~~h
  rw[Ff,sliceRange_one,C1,x9]at hl;have b1:=HT.yc (-x) 0 (J9 _) lo;have b2:=HT.yc (-x) (-x) `G hi;have hlen:-x.cps.toList=-x:=by simp[Str.length]
  unfold zo;by_cases h0:-x=0
  ·have:x.cps.toList=[]:=j0.mp ();rw[this];cases x with
   |mk c=>simp at this;subst this;simp
  ·have ea:HT.cK (-x) 0 lo=0:=()
   have eb:HT.cK (-x) (-x) hi=-x:=()
   rw[ea,eb,drop_zero,Nat.sub_zero,j2 ()]
 ·exact K8 Str.mk e
def XY:V->Option Int->Option Int->Hp->VK->Prop:=λ x lo hi H Q=>∃z,x=.str z/\-z<=sizeLine/\Q (.str (zo z lo hi)) H
def yK{h:Heap}{sl:be}{vl vu:ac}{lo hi:Option Int}(hs:h.IsSliceOf sl vl vu .none)(pl:IsPart vl lo)(pu:IsPart vu hi):∃l u:Option (Int×Tok),h.IsSlice sl l u none/\l.map (·.1)=lo/\u.map (·.1)=hi:=by
 cases pl with
 |none=>
  cases pu with
  |none=>exact#[none,none,hs,rfl,rfl]
  |int i t=>exact#[none,some (i,t),hs,rfl,rfl]
 |int i t=>
  cases pu with
  |none=>exact#[some (i,t),none,hs,rfl,rfl]
  |int j u=>exact#[some (i,t),some (j,u),hs,rfl,rfl]
def Pt:Cv X XY:=by intro im s σ H x v vl vu lo hi sl Q I rx hs pl pu h;let#[z,rfl,hz,q]:=h;let#[t,rfl]:=rx;let#[l,u,Te,rfl,rfl]:=yK hs pl pu;refine#["str",_,PySem.F.slot_str_getitem.lookup,typeIs_str _ _ _,wpAny_getItem_str_slice (l:=l) (u:=u) (st:=none) Te rfl ?_];rw[<- Dj]at q;exact post_val_or_str #[G9 (Txt.slice_le z _ _) hz,λ t' k=>#[.str (Txt.slice z (l.map (·.1)) (u.map (·.1))),H,I.tok k,#[_,rfl],q]]
def UB:R2:=λ x y H Q=>∃z n,x=.str z/\y=.int n/\MulOk z n/\Q (.str (Txt.mul z n)) H
def yu:gP X (binaryOp .Mult) UB:=by intro im s σ H x y v u Q I rx ry h;let#[z,n,rfl,rfl,aX,q]:=h;let#[t,rfl]:=rx;let#[t',rfl]:=ry;exact SB.mul aX λ t' k=>#[.str (Txt.mul z n),H,I.tok k,#[_,rfl],q]
def xj(hc:X.calm=true):dj X (.builtin "all") (λ xs H Q=>∃(p:be)(bs:List Bool),xs=[.ref p]/\fK X.K H p (bs.map V.bl)/\Q (.bl (bs.all id)) H):=by
 intro im s σ H xs us Q I r h;let#[p,bs,rfl,hq,q]:=h;let#[u,rfl,r1]:=vals1 r;cases r1;let#[ar,rv,pl,hz]:=I.list hq;refine call_all_walk (x8 pl.isList ?_);have dQ:p≠s⁻¹:=by let#[o,n,e,_]:=pl;exact G4 (G5 e)
 have hlen:-ar=-bs:=by rw[<- -rv,C1]
 refine#[s⁻¹,_,_,_,_,_,λ i=>(bs[i]?).getD false,rfl,Walks.list (A:=X.A.in1) (show X.A.in1.handled=none from I.ok.hd hc) s⁻¹ p dQ ar.toArray,#[#[_,n5 _ rfl,rfl,rfl],pl.isList.at λ o e=>j4 _ e],?_,λ h' tk hk=>?_]
 ·intro i v s' Q' E' hP hQ;have hP':ar[i]?>v:= ~~~hP
  have hi:i< -bs:=by rw[<- hlen];exact(g9.mp hP').1
  have hb:(bs.map V.bl)[i]?>(V.bl bs[i]):=by simp[hi]
  let#[u,hu,ru]:=rv.get hb;rw[hP']at hu;cases hu;have e:v=Value.bool bs[i]:=ru;subst e;have:(bs[i]?).getD false=bs[i]:=by simp[hi]
  dsimp only at hQ;rw[this]at hQ;exact wpAny_truthy_bool hQ
 ·refine#[.bl (bs.all id),H,I.kept (t':=tk) λ b o e=>hk b o (by simpa using G4 (G5 e)) (j4 _ e),?_,q];show Value.bool _=Value.bool _;congr 1;rw[y3,hlen];rw[B0];simp only[A9,ce,id];constructor
  ·intro h b hb;let#[i,hi,rfl]:=mem_iff_getElem.mp hb;have:=h i hi;simpa[hi]using this
  ·intro h i hi;simpa[hi]using h bs[i] (A4 hi)
def TH(x:Str):It:=#[λ i _=>i<x.cps.size,λ i H v H'=>H'=H/\∃c,x.cps[i]?>c/\v=.str #[([c].toArray)],λ i _=>i=x.cps.size]
def vo(it:be)(x:Str)(t:Tok)(ty:String)(HZ:["enumerate","zip","dict_itemiterator","dict_reverseitemiterator","odict_iterator","itertools.zip_longest","itertools.pairwise"].contains ty=false)(W:∀A':Around,A'.handled=none->Walks P w A' it [it] [it] x.cps.size (SignAt x) (λ i h=>h.IsStrIter it ty x t i))(self:∀(A:Around)(i:Nat)(s:bd)(Q:ac->bd->Prop)(E:ac->bd->Prop),s.heap.IsStrIter it ty x t i->Q (.ref it) s->wpAny (model P w) A (pyIter (.ref it)) Q E s):Turn P w K tg (TH x) [it] it (λ i h=>h.IsStrIter it ty x t i) where
 mem:=by simp
 obj:=λ i h st b hb=>by
  have e:b=it:= ~~~hb
  subst e;let#[o,e,c,d]:=st;exact#[o,e,λ v z=>by rw[d]at z;cases z]
 keep:=λ i h h' st k=>by let#[o,e,c,d]:=st;exact#[o,k it `g o e,c,d]
 item:=by intro X hP hw hK hc i im s σ H E I hf st hg;subst hP hw hK;let#[f0,f1,f2,f3,f4,f5]:=hf it `g;refine(W X.A (I.ok.hd hc)).item i s _ _ hg st λ v h' tk hv iR kk=>?_;let#[c,u,hx,rfl]:=hv;have I1:nn X im σ H {s with heap:=h',toks:=tk}:=I.turned (λ b o hb e=>kk b o (~~~hb) e) f0 f1 f3 f4 f5;let#[o,e,cc,d]:=id iR;exact#[_,rfl,wI (s:={s with heap:=h',toks:=tk}) e cc d HZ #[.str #[([c].toArray)],H,I1,#[u,rfl],#[rfl,c,hx,rfl],iR,λ b hb=>(hf b hb).1]]
 done:=by intro X hP hw hK hc i im s σ H E I hf st hg;subst hP hw hK;let#[f0,f1,f2,f3,f4,f5]:=hf it `g;have hg:i=x.cps.size:=hg;subst hg;exact(W X.A (I.ok.hd hc)).done s _ _ st λ h' tk kk=>#[rfl,I.turned (λ b o hb e=>kk b o (~~~hb) e) f0 f1 f3 f4 f5]
 self:=self
def zH.imp{r r':R2}(h:zH X r)(k:∀x y H Q,r' x y H Q->r x y H Q):zH X r':=λ value slice im s σ H x y v u Q I rx ry q=>h value slice im s σ H x y v u Q I rx ry (k x y H Q q)
def Cv.imp{r r':V->Option Int->Option Int->Hp->VK->Prop}(h:Cv X r)(k:∀x lo hi H Q,r' x lo hi H Q->r x lo hi H Q):Cv X r':=
 λ im s σ H x v vl vu lo hi sl Q I rx hs pl pu q=>h im s σ H x v vl vu lo hi sl Q I rx hs pl pu (k x lo hi H Q q)
def aIx(K:L8):R2:=λ x y H Q=>match x,y with
 | .ref p,.int i=>∃xs v,(fK K H p xs\/gu K H p xs)/\iN xs i>v/\Q v H
 | .str z,.int i=>-z<=sizeLine/\∃c,iN z.cps.toList i>c/\Q (.str #[([c].toArray)]) H
 |_,_=>False
def aG:zH X (aIx X.K):=RG.imp λ x y H Q q=>by
 cases x<;>cases y<;>first
  |exact False.elim q
  |(obtain⟨xs,v,h|h,e,q⟩:=q
    ·exact .inl #[_,xs,_,v,rfl,rfl,h,e,q]
    ·exact .inr (.inl #[_,xs,_,v,rfl,rfl,h,e,q]))
  |(let#[hz,c,e,q]:=q
    exact .inr (.inr #[_,_,c,rfl,rfl,hz,e,q]))
def aSl(K:L8):V->Option Int->Option Int->Hp->VK->Prop:=λ x lo hi H Q=>match x with
 | .str z=>-z<=sizeLine/\Q (.str (zo z lo hi)) H
 | .ref a=>Uz K `z lo hi H Q\/Uy K `z lo hi H Q
 |_=>False
def gb:Cv X (aSl X.K):=(Pt.or (Kj.or Pq)).imp λ x lo hi H Q q=>by cases x<;>first|exact False.elim q|exact .inl #[_,rfl,q]|exact .inr q
structure fI(P:Program)(w:World)(K:L8)(mg:Str->Option ac)(base:Heap)(k:Nat)(x:Str)(ps:List Str)(sp:Sp):Prop where
 ex:∃(f:be)(fd:FuncData),bS P w K mg base eQ k f fd ps sp/\mg x>`C/\PySem.W.keepIn K `C=true/\Binds K fd ps []
def fI.of(F:jO K x qual st f fd)(G:bS P w K mg base eQ k f fd ps sp)(hm:mg x>`C)(b:Binds K fd ps []):fI P w K mg base k x ps sp:=#[f,fd,G,hm,F.kp,b]
def tD(sp:Sp)(t:TA):TE:=λ σ H Q=>t σ H λ vs H1=>sp vs H1 Q E0
section
variable {p pos:Pos}{t:TA}
def Qz(d:fI X.prog X.w X.K X.mg X.base k x ps sp)(hr:cz k X.A)(hg:Gl X x)(ha:PA X (e::es) t)(nh:qF x:=by decide)(he:kB X e es:=by rfl)(gR:uX X pos es:=by rfl):PE X `y (tD sp t):=by
 let#[f,fd,G,hm,kp,b]:=d.ex;intro im s σ H Q I h;have h':NW sp [] E0 t σ H Q:=by
  show t σ H λ vs H1=>sp (vs++[]) H1 Q E0;have e:(λ(vs:List V) (H1:Hp)=>sp (vs++[]) H1 Q E0)=λ vs H1=>sp vs H1 Q E0:=by funext vs H1;rw[B1]
  rw[e];exact h
 exact AI (E:=E0) G hr hg hm kp b .nil Oi ha nh he gR im s σ H Q I h'
end
def xo(X:Cx)(scope:Scope)(fr:List Nat):Bool:=
 (scope.kind==.function)&&(scope.names.all λ y=>(y.2 != .cell||scope.names.lookup y.1==some .cell)&&(y.2 != .local||scope.names.lookup y.1==some .local)&&(y.2 != .free||X.env.kindOf y.1==some .cell||X.env.kindOf y.1==some .free))&&
 (fr.all λ j=>decide (j< -X.N)&&scope.names.lookup (X.N.getD j "")==some .free)
def zA(h:xo X scope fr=true):iG X scope fr:=by
 unfold xo at h;rw[A2,A2]at h;let#[#[h1,h2],h3]:=h;rw[A9]at h2 h3;refine#[~~~h1,λ y hy hl=>?_,λ y hy hl=>?_,λ n hn=>?_,λ j hj=>?_]
 ·have:=h2 y hy;simp only[A2]at this;have:=this.1.1;rw[hl]at this;simpa using this
 ·have:=h2 y hy;simp only[A2]at this;have:=this.1.2;rw[hl]at this;simpa using this
 ·have:=h2 _ hn;simp only[A2]at this;have:=this.2;simpa using this
 ·have:=h3 j hj;rw[A2]at this;exact#[~~~this.1,~~~this.2]
def YA(K:L8)(tl:TE):TI:=λ σ H R=>tl σ H λ x H1=>match x with
 | .str z=>R (TH z) H1
 | .ref a=>(∃xs,fK K H1 a xs/\R (Xn K a) H1)\/(∃xs,gu K H1 a xs/\R (Z7 K a) H1)
 |_=>False
def Qr{l:Expr}{tl:TE}(hl:PE X l tl):PI X tg l (YA X.K tl):=by
 intro im s σ H R I h;have lG:PE X l (λ σ' H' Q=>Q=Q/\tl σ' H' Q):=λ im s σ H Q I q=>hl im s σ H Q I q.2;refine cZ (hl im s σ H _ I h) λ v s1 ⟨x,H1,I1,r1,q1⟩=>?_;have fp:∀b∈[s1⁻¹],kG X im H1 b:=λ b hb=>by
  have e:b=s1⁻¹:= ~~~hb
  subst e;exact I1.km `G (I1.aX.fresh `G)
 cases x with
 |str z=>
  have q:R (TH z) H1:=q1;let#[t,rfl]:=r1;cases ha:z.cps.all (·<128)
  ·exact wpAny_pyIter_wide ha #[s1⁻¹,[s1⁻¹],_,TH z,H1,rfl,I1.kept (t':=s1.toks) λ b o e=>j4 _ e,vo _ z t "str_iterator" `c (λ A' hA=>Walks.strWide hA _ z t) (λ _ _ _ _ _ st h=>wpAny_pyIter_striter_wide st h),#[_,n5 _ rfl,rfl,rfl],fp,q]
  ·exact wpAny_pyIter_ascii ha #[s1⁻¹,[s1⁻¹],_,TH z,H1,rfl,I1.kept (t':=s1.toks) λ b o e=>j4 _ e,vo _ z t "str_ascii_iterator" `c (λ A' hA=>Walks.strAscii hA _ z t) (λ _ _ _ _ _ st h=>wpAny_pyIter_striter_ascii st h),#[_,n5 _ rfl,rfl,rfl],fp,q]
 |ref a=>
  cases(show v=Value.ref a from r1);rcases q1 with⟨xs,hq,q⟩|⟨xs,hq,q⟩
  ·let#[ar,rv,p,hz]:=I1.list hq;exact x8 p.isList #[s1⁻¹,[s1⁻¹],_,_,H1,rfl,I1.kept (t':=s1.toks) λ b o e=>j4 _ e,CZ a _,#[_,n5 _ rfl,rfl,rfl],fp,q]
  ·let#[ar,rv,p,hz]:=I1.tuple hq;exact wpAny_pyIter_tuple (show s1.heap.IsTuple a ar.toArray from p) #[s1⁻¹,[s1⁻¹],_,_,H1,rfl,I1.kept (t':=s1.toks) λ b o e=>j4 _ e,xR a _,#[_,n5 _ rfl,rfl,rfl],fp,q]
 |_=>exact False.elim q1
inductive IK where
 |i (n:Int)
 |t (ks:List IK)
noncomputable instance:DecidableEq IK:=λ a b=>Classical.propDecidable (a=b)
mutual
def IK.dep:IK->Nat
 | .i _=>0
 | .t ks=>IK.iM ks+1
def IK.iM:List IK->Nat
 |[]=>0
 |k::ks=>max k.dep (IK.iM ks)
end
mutual
def eN:IK->Int
 | .i n=>hashInt n
 | .t ks=>reduceHash (Builtin.Tuple.tupleHashOf (uf ks))
def uf:List IK->List Int
 |[]=>[]
 |k::ks=>eN k::uf ks
end
mutual
def DW:IK->Nat
 | .i _=>1
 | .t ks=>jc ks+1
def jc:List IK->Nat
 |[]=>0
 |k::ks=>DW k+jc ks
end
def b2i(b:Bool):Int:=if b then 1 else 0
mutual
def cx(h:Heap):IK->ac->Prop
 | .i n,v=>(∃t,v=.int n t)\/∃b:Bool,v=.bool b/\n=b2i b
 | .t ks,v=>∃(a:be)(o:Obj)(ar:List ac)(n:Nat),v=.ref a/\h.get? a>o/\o.cls=.type "tuple"/\o.data=.seq ar.toArray n/\bD h ks ar
def bD(h:Heap):List IK->List ac->Prop
 |[],vs=>vs=[]
 |k::ks,vs=>∃v r,vs=v::r/\cx h k v/\bD h ks r
end
mutual
def xC:IK->PyData->Prop
 | .i n,d=>d=.int n\/∃b:Bool,d=.bool b/\n=b2i b
 | .t ks,d=>∃ds,d=.tuple ds/\jb ks ds
def jb:List IK->List PyData->Prop
 |[],ds=>ds=[]
 |k::ks,ds=>∃d r,ds=d::r/\xC k d/\jb ks r
end
theorem wz:∀ks:List IK,uf ks=ks.map eN
 |[]=>by unfold uf;rfl
 |k::ks=>by unfold uf;rw[wz ks];rfl
theorem wy:∀(ks ls:List IK),jc (ks++ls)=jc ks+jc ls
 |[],ls=>by rw[B2];unfold jc;split<;>lia
 |k::ks,ls=>by rw[A8];have:=wy ks ls;show DW k+jc (ks++ls)=DW k+jc ks+jc ls;lia
def HV(k:IK):jc [k]=DW k:=by show DW k+jc []=DW k;unfold jc;lia
def HW:jc []=0:=by unfold jc;rfl
theorem gN:∀{ks:List IK} {k:IK},k∈ks->k.dep<=IK.iM ks
 |k0::ks,k,h=>by
  show k.dep<=max k0.dep (IK.iM ks);rcases E8.mp h with rfl|h
  ·exact Nat.le_max_left _ _
  ·exact G9 (gN h) (Nat.le_max_right _ _)
def sk{b:Bool}{Q:Int->bd->Prop}(h:Q (hashInt (b2i b)) {s with toks:=s.toks+1}):wpAny `d A (pyHash (.bool b)) Q E s:=by have hT:s.TypeIs (.bool b) "bool":=rfl;have hr:=rawHash_range (b2i b);unfold pyHash;have hv:[Value.bool b].any Value.onHeap=false:=rfl;refine K1 ?_;rw[cRoomFor,L7 (hv>=o8)];refine K3 ?_;refine K1 (C7 hT F.slot_bool_hash.lookup ?_);show wpAny _ _ (if(some (Value.builtin "int.__hash__")==some Value.none)=true then _ else _) Q E s;rw[L7 (beq_builtin_none>=o8)];refine K1 (C7 hT F.slot_bool_hash.lookup ?_);show wpAny _ _ (callSpecialIfBoundUnlessNone? (.bool b) "__hash__" _>>=_) Q E s;refine K1 (wpAny_callSpecialIfBoundUnlessNone?_slot hT F.slot_bool_hash (A1 F.slot_bool_hash hT entry_int_hash (show wpAny _ _ (do ret (<- mkInt (rawHash (b2i b)))) _ _ s from wpAny_ret_mkInt ?_) (args_int_hash _)));show wpAny _ _ (if(decide (-(2:Int)^63<=rawHash (b2i b))&&decide (rawHash (b2i b)<2^63))=true then _ else _) Q E _;rw[L1 (by rw[C9 hr.1,C9 hr.2];rfl)];exact K3 h
def Bv:∀(n:Nat)(k:IK),k.dep<=n->∀{A:Around} {E:ac->bd->Prop} {s:bd} {v:ac} {Q:Int->bd->Prop},A.units+k.dep<cLine->cx s.heap k v->Q (eN k) {s with toks:=s.toks+DW k}->wpAny `d A (pyHash v) Q E s:=by
 intro n
 induction n with
 |zero=>
  intro k hk A E s v Q hu hi h;cases k with
  |i m=>
   unfold cx at hi;unfold eN DW at h;rcases hi with⟨t,rfl⟩|⟨b,rfl,rfl⟩
   ·exact wpAny_pyHash_int h
   ·exact sk h
  |t ks=>unfold IK.dep at hk;lia
 |succ n ih=>
  intro k hk A E s v Q hu hi h;cases k with
  |i m=>
   unfold cx at hi;unfold eN DW at h;rcases hi with⟨t,rfl⟩|⟨b,rfl,rfl⟩
   ·exact wpAny_pyHash_int h
   ·exact sk h
  |t ks=>
   unfold cx at hi;let#[a,o,ar,m,rfl,ho,hc,hd,hits]:=hi;have iL:IK.iM ks<=n:=by unfold IK.dep at hk;lia
   have hu1:A.units+(IK.iM ks+1)<cLine:=by unfold IK.dep at hu;exact hu
   have hT:s.TypeIs `z "tuple":=#[o,ho,hc];unfold pyHash;(first|unfold pyHashByItsType|skip);(first|refine K1 (wpAny_cRoomFor_or (.inr (show A.units<cLine by lia)) ?_)|skip);refine K1 (C7 hT F.slot_tuple_hash.lookup ?_);show wpAny _ _ (if(some (Value.builtin "tuple.__hash__")==some Value.none)=true then _ else _) Q E s;rw[L7 (beq_builtin_none>=o8)];refine K1 (C7 hT F.slot_tuple_hash.lookup ?_);show wpAny _ _ (callSpecialIfBoundUnlessNone? `z "__hash__" _>>=_) Q E s;refine K1 (wpAny_callSpecialIfBoundUnlessNone?_slot hT F.slot_tuple_hash (A1 F.slot_tuple_hash hT F.entry_tuple_hash ?_ (F.args_tuple_hash_1 _)));show wpAny _ _ (Builtin.Tuple.tupleItemsOf `z>>=_) _ _ s;refine K1 (wpAny_tupleItemsOf ho hd (K1 ?_));rw[<- u9];refine wpAny_forIn_list _ (λ rest (b:Array Int) s'=>∃done left,ks=done++left/\bD s.heap left rest/\b.toList=done.map eN/\s'={s with toks:=s.toks+jc done}) _ ?_ ?_ _ _ #[[],ks,rfl,hits,rfl,by rw[HW];rfl]
   ·rintro x rest b s' ⟨done,left,rfl,hl,hb,rfl⟩;cases left with
    |nil=>unfold bD at hl;cases hl
    |cons k1 left=>
     unfold bD at hl;let#[v,r,e,h1,h2]:=hl;cases e;have hm:=gN (ks:=done++k1::left) (k:=k1) `g;refine K1 (ih k1 () (A:=A.in1) (show A.units+1+_<cLine by lia) h1 ?_);have fin:∃d2 l2,done++k1::left=d2++l2/\bD s.heap l2 rest/\(b.push (eN k1)).toList=d2.map eN/\({s with toks:=s.toks+jc done+DW k1}:bd)={s with toks:=s.toks+jc d2}:=
      #[done++[k1],left,by simp,h2,by simp[hb],by rw[wy,HV,Nat.add_assoc]]
     first|exact K3 fin|exact K1 (K3 (K3 fin))
   ·rintro b s' ⟨done,left,rfl,hl,hb,rfl⟩;cases left with
    |cons k1 left=>unfold bD at hl;let#[v,r,e,_]:=hl;cases e
    |nil=>
     rw[B1]at h;show wpAny _ _ (retInt (Builtin.Tuple.tupleHashOf b.toList)) _ _ _;rw[hb,<- wz];refine wpAny_ret_mkInt ?_;show wpAny _ _ (if(decide (-(2:Int)^63<=Builtin.Tuple.tupleHashOf (uf done))&&decide (Builtin.Tuple.tupleHashOf (uf done)<2^63))=true then _ else _) Q E _;unfold eN DW reduceHash at h;by_cases hr:(decide (-(2:Int)^63<=Builtin.Tuple.tupleHashOf (uf done))&&decide (Builtin.Tuple.tupleHashOf (uf done)<2^63))=true
     ·rw[L1 hr]at h ⊢;exact K3 (by simpa[Nat.add_assoc]using h)
     ·rw[L7 hr]at h ⊢;exact K1 (K4 (K3 (by simpa[Nat.add_assoc]using h)))
end L2
variable {ks:List L2.IK}
namespace L2
open PySem.Spec PyProof.Rows
mutual
theorem pT{h:Heap}:∀(k:IK){v:ac},cx h k v->∃d as,xC k d/\Reads h v d as
 | .i n,v,x=>by
  unfold cx at x;unfold xC;rcases x with⟨t,rfl⟩|⟨b,rfl,rfl⟩
  ·exact#[_,_,.inl rfl,Reads.int n t]
  ·exact#[_,_,.inr #[b,rfl,rfl],Reads.bool b]
 | .t ks,v,x=>by unfold cx at x;let#[a,o,ar,n,rfl,ho,hc,hd,q]:=x;let#[ds,as,p,r]:=sg ks q;unfold xC;exact#[_,_,#[ds,rfl,p],reads_tuple_at ho hc hd (~~~r)]
theorem sg{h:Heap}:∀(ks:List IK){vs:List ac},bD h ks vs->∃ds as,jb ks ds/\ReadsAll h vs ds as
 |[],vs,x=>by unfold bD at x;subst x;unfold jb;exact#[_,_,rfl,ReadsAll.nil]
 |k::ks,vs,x=>by unfold bD at x;let#[v,r,rfl,h1,h2]:=x;let#[d,as,p,a]:=pT k h1;let#[ds,bs,q,b]:=sg ks h2;unfold jb;exact#[_,_,#[d,ds,rfl,p,q],ReadsAll.cons a b]
end
mutual
theorem yL:∀(k:IK){d:PyData},xC k d->d.canLay0=true
 | .i n,d,x=>by unfold xC at x;rcases x with rfl|⟨b,rfl,_⟩<;>simp[PyData.canLay0]
 | .t ks,d,x=>by unfold xC at x;let#[ds,rfl,q]:=x;simp only[PyData.canLay0];exact Bq ks q
theorem Bq:∀(ks:List IK){ds:List PyData},jb ks ds->PyData.canLayAll0 ds=true
 |[],ds,x=>by unfold jb at x;subst x;simp[PyData.canLayAll0]
 |k::ks,ds,x=>by unfold jb at x;let#[d,r,rfl,p,q]:=x;simp only[PyData.canLayAll0];rw[yL k p,Bq ks q];rfl
end
mutual
theorem yM:∀(k:IK){d:PyData},xC k d->d.depth=k.dep
 | .i n,d,x=>by unfold xC at x;unfold IK.dep;rcases x with rfl|⟨b,rfl,_⟩<;>simp[PyData.depth]
 | .t ks,d,x=>by unfold xC at x;let#[ds,rfl,q]:=x;unfold IK.dep;simp only[PyData.depth];rw[Br ks q]
theorem Br:∀(ks:List IK){ds:List PyData},jb ks ds->PyData.depthAll ds=IK.iM ks
 |[],ds,x=>by unfold jb at x;subst x;unfold IK.iM;simp[PyData.depthAll]
 |k::ks,ds,x=>by unfold jb at x;let#[d,r,rfl,p,q]:=x;unfold IK.iM;simp only[PyData.depthAll];rw[yM k p,Br ks q]
end
def Mn{n m:Int}{d e:PyData}(x:d=.int n\/∃b:Bool,d=.bool b/\n=b2i b)(y:e=.int m\/∃b:Bool,e=.bool b/\m=b2i b):PyData.eqv d e=true↔n=m:=by
 rcases x with rfl|⟨b,rfl,rfl⟩<;>rcases y with rfl|⟨c,rfl,rfl⟩
 ·simp[PyData.eqv]
 ·simp[PyData.eqv,b2i]
 ·simp[PyData.eqv,b2i]
 ·cases b<;>cases c<;>simp[PyData.eqv,b2i]
mutual
theorem Oy:∀(a b:IK){d e:PyData},xC a d->xC b e->(PyData.eqv d e=true↔a=b)
 | .i n,.i m,d,e,x,y=>by unfold xC at x y;rw[Mn x y];simp
 | .i n,.t ks,d,e,x,y=>by unfold xC at x y;let#[ds,rfl,_]:=y;rcases x with rfl|⟨b,rfl,_⟩<;>simp[PyData.eqv]
 | .t ks,.i n,d,e,x,y=>by unfold xC at x y;let#[ds,rfl,_]:=x;rcases y with rfl|⟨b,rfl,_⟩<;>simp[PyData.eqv]
 | .t ks,.t ls,d,e,x,y=>by unfold xC at x y;let#[ds,rfl,p]:=x;let#[es,rfl,q]:=y;simp only[PyData.eqv,IK.t.injEq];exact HQ ks ls p q
theorem HQ:∀(as bs:List IK){ds es:List PyData},jb as ds->jb bs es->(PyData.eqvAll ds es=true↔as=bs)
 |[],[],ds,es,x,y=>by unfold jb at x y;subst x;subst y;simp[PyData.eqvAll]
 |[],b::bs,ds,es,x,y=>by unfold jb at x y;let#[d,r,rfl,_]:=y;subst x;simp[PyData.eqvAll]
 |a::as,[],ds,es,x,y=>by unfold jb at x y;let#[d,r,rfl,_]:=x;subst y;simp[PyData.eqvAll]
 |a::as,b::bs,ds,es,x,y=>by unfold jb at x y;let#[d,r,rfl,p1,p2]:=x;let#[e,r2,rfl,q1,q2]:=y;simp only[PyData.eqvAll,A2,List.cons.injEq];rw[Oy a b p1 q1,HQ as bs p2 q2]
end
mutual
theorem ue{h:Heap}:∀(x y:IK){v:ac},cx h x v->cx h y v->x=y
 | .i n,.i m,v,a,b=>by
  unfold cx at a b;rcases a with⟨t,rfl⟩|⟨c,rfl,rfl⟩<;>rcases b with⟨u,e⟩|⟨d,e,f⟩<;>cases e
  ·rfl
  ·rw[f]
 | .i n,.t ks,v,a,b=>by unfold cx at a b;let#[_,_,_,_,e,_]:=b;rcases a with⟨t,rfl⟩|⟨c,rfl,rfl⟩<;>cases e
 | .t ks,.i n,v,a,b=>by unfold cx at a b;let#[_,_,_,_,e,_]:=a;rcases b with⟨t,rfl⟩|⟨c,rfl,rfl⟩<;>cases e
 | .t ks,.t ls,v,a,b=>by unfold cx at a b;let#[a1,o1,i1,n1,rfl,g1,_,d1,q1]:=a;let#[a2,o2,i2,n2,e,g2,_,d2,q2]:=b;cases e;rw[g1]at g2;cases g2;rw[d1]at d2;cases d2;rw[Bs ks ls q1 q2]
theorem Bs{h:Heap}:∀(xs ys:List IK){vs:List ac},bD h xs vs->bD h ys vs->xs=ys
 |[],[],vs,_,_=>rfl
 |[],y::ys,vs,a,b=>by unfold bD at a b;subst a;let#[_,_,e,_]:=b;cases e
 |x::xs,[],vs,a,b=>by unfold bD at a b;subst b;let#[_,_,e,_]:=a;cases e
 |x::xs,y::ys,vs,a,b=>by unfold bD at a b;let#[v,r,rfl,a1,a2]:=a;let#[v2,r2,e,b1,b2]:=b;cases e;rw[ue x y a1 b1,Bs xs ys a2 b2]
end
mutual
theorem Bu{h h':Heap}(q:∀b o,o.cls=.type "tuple"->h.get? b>o->h'.get? b>o):∀(k:IK){v:ac},cx h k v->cx h' k v
 | .i n,v,x=>by unfold cx at x ⊢;exact x
 | .t ks,v,x=>by unfold cx at x ⊢;let#[a,o,ar,n,e,ho,hc,hd,r]:=x;exact#[a,o,ar,n,e,q a o hc ho,hc,hd,wx q ks r]
theorem wx{h h':Heap}(q:∀b o,o.cls=.type "tuple"->h.get? b>o->h'.get? b>o):∀(ks:List IK){vs:List ac},bD h ks vs->bD h' ks vs
 |[],vs,x=>by unfold bD at x ⊢;exact x
 |k::ks,vs,x=>by unfold bD at x ⊢;let#[v,r,e,h1,h2]:=x;exact#[v,r,e,Bu q k h1,wx q ks h2]
end
def RJ{h:Heap}{k:IK}{v:ac}(x:cx h k v){d:be}{es:Array DictEntry}(ho:h.get? d>o)(hd:o.data=.dict es ep)(hs:Heap.SameBut d h h'):cx h' k v:=by
 have gen:∀(n:Nat)(k:IK),k.dep<=n->∀v,cx h k v->cx h' k v:=by
  intro n
  induction n with
  |zero=>
   intro k hk v x;cases k with
   |i m=>unfold cx at x ⊢;exact x
   |t ks=>unfold IK.dep at hk;lia
  |succ n ih=>
   intro k hk v x;cases k with
   |i m=>unfold cx at x ⊢;exact x
   |t ks=>
    unfold cx at x ⊢;let#[a,o',ar,m,e,uk,hc,lV,r]:=x;have dQ:a≠d:=λ z=>by subst z;rw[ho]at uk;cases uk;rw[hd]at lV;cases lV
    refine#[a,o',ar,m,e,(hs.2 a dQ).trans uk,hc,lV,?_];have iL:IK.iM ks<=n:=by unfold IK.dep at hk;lia
    have all:∀(ls:List IK)(vs:List ac),(∀l∈ls,l.dep<=n)->bD h ls vs->bD h' ls vs:=by
     intro ls
     induction ls with
     |nil=>intro vs _ y;unfold bD at y ⊢;exact y
     |cons l ls ihl=>intro vs hl y;unfold bD at y ⊢;let#[v,r,e,h1,h2]:=y;exact#[v,r,e,ih l (hl l (o7 ..)) v h1,ihl r (λ z hz=>hl z (k8 _ hz)) h2]
    exact all ks ar (λ l hl=>G9 (gN hl) iL) r
 exact gen k.dep k `G v x
def HU:∀(n:Nat)(k:IK),k.dep<=n->∀{A:Around} {E:ac->bd->Prop} {s:bd} {v:ac} {Q:Bool->bd->Prop},cx s.heap k v->Q true s->wpAny `d A (eqIsQuiet n v) Q E s:=by
 intro n
 induction n with
 |zero=>
  intro k hk A E s v Q hi h;cases k with
  |i m=>unfold cx at hi;rcases hi with⟨t,rfl⟩|⟨b,rfl,_⟩<;>rw[eqIsQuiet_byValue _ rfl]<;>exact K3 h
  |t ks=>unfold IK.dep at hk;lia
 |succ n ih=>
  intro k hk A E s v Q hi h;cases k with
  |i m=>unfold cx at hi;rcases hi with⟨t,rfl⟩|⟨b,rfl,_⟩<;>rw[eqIsQuiet_byValue _ rfl]<;>exact K3 h
  |t ks=>
   unfold cx at hi;let#[a,o,ar,m,rfl,ho,hc,hd,hits]:=hi;have iL:IK.iM ks<=n:=by unfold IK.dep at hk;lia
   have hT:s.TypeIs `z "tuple":=#[o,ho,hc];unfold eqIsQuiet;refine K1 (C7 hT F.slot_tuple_eq.lookup ?_);show wpAny _ _ (isInstance `z (.type "tuple")>>=_) _ _ s;refine K1 (A7 hT isSubtype_tuple_tuple ?_);simp only[Bool.not_true,p5,K7];refine K1 (D1 ho hd (K1 ?_));show wpAny _ _ (forIn ar.toArray _ _) _ _ s;rw[<- u9];refine wpAny_forIn_list _ (λ rest r s'=>r.1=none/\s'=s/\∃left,(∀l∈left,l∈ks)/\bD s.heap left rest) _ ?_ ?_ _ _ #[rfl,rfl,ks,λ l hl=>hl,hits]
   ·rintro x rest r s' ⟨hr,rfl,left,m_,hl⟩;cases left with
    |nil=>unfold bD at hl;cases hl
    |cons k1 left=>unfold bD at hl;let#[v,r',e,h1,h2]:=hl;cases e;refine K1 (ih k1 (G9 (gN (m_ k1 (o7 ..))) iL) h1 ?_);simp only[Bool.not_true,p5,K7];exact K3 #[rfl,rfl,left,λ l hl=>m_ l (k8 _ hl),h2]
   ·rintro⟨r1,r2⟩ s' ⟨hr,rfl,_⟩;simp only at hr;subst hr;exact K3 h
def aP(prog:Program)(w:World):HeapKind prog w IK where
 is:=λ h k a=>k.dep<=5/\cx h k `z
 hash:=eN
 draws:=DW
 room:=λ A=>A.units+8<cLine
 inj:=λ hx hy=>ue _ _ hx.2 hy.2
 keeps:=λ x ho hd hs=>#[x.1,RJ x.2 ho hd hs]
 pyHash:=λ hu hk h=>Bv 5 _ hk.1 (by have:=hk.1;lia) hk.2 h
 eqBool:=λ{A E s x y a b Q} hu hx hy h=>by
  let#[dx,as,px,ra]:=pT x hx.2;let#[dy,bs,py,rb]:=pT y hy.2;refine SeqAt.eqAt_reads dx dy A s _ _ _ _ ra rb (yL x px) (yL y py) ?_ prog w E Q ?_
  ·rw[yM x px,yM y py];have:=hx.1;have:=Nat.min_le_left x.dep y.dep;lia
  ·have e:PyData.eqv dx dy=decide (x=y):=B0>=(w9>=Oy x y px py)
   rw[e];exact h
 quiet:=λ hk h=>HU 8 _ (G9 hk.1 `c) hk.2 h
section
variable {κ:Type}[DecidableEq κ]
def gW(kvs:List (κ×V))(k:κ):Option V:=(kvs.find? λ kv=>decide (kv.1=k)).map (·.2)
def putK(kvs:List (κ×V))(k:κ)(v:V):List (κ×V):=
 if(kvs.any λ kv=>decide (kv.1=k))=true then kvs.map (λ kv=>if kv.1=k then(kv.1,v)else kv)else kvs++[(k,v)]
def oH{p:κ×V}{r:List (κ×V)}{k:κ}(e:p.1=k):gW (p::r) k>p.2:=by simp[gW,B3,e]
def oI{p:κ×V}{r:List (κ×V)}{k:κ}(e:¬p.1=k):gW (p::r) k=gW r k:=by simp[gW,B3,e]
theorem oJ(k:κ):∀kvs:List (κ×V),(kvs.any λ kv=>decide (kv.1=k))=(gW kvs k).isSome
 |[]=>rfl
 |p::r=>by
  rw[any_cons];by_cases e:p.1=k
  ·simp only[oH e,C9 e,Bool.true_or,Option.isSome_some]
  ·rw[oI e,B4 e,Bool.false_or];exact oJ k r
def fR(kvs:List (κ×V))(k:κ)(v:V):(putK kvs k v).length<=-kvs+1:=by
 unfold putK;split
 ·rw[C1];lia
 ·rw[p4,y9,length_nil];lia
def lQ.fg{o:Option V}{u:Option ac}(r:lQ o u):o.isSome=u.isSome:=by
 cases o with
 |none=>cases u with
  |none=>rfl
  |some _=>exact(show False from r).elim
 |some _=>cases u with
  |none=>exact(show False from r).elim
  |some _=>rfl
def KV.val{kvs:List (κ×V)}{vs:List (κ×ac)}(r:KV kvs vs)(k:κ):lQ (gW kvs k) (valueAt vs k):=by
 unfold KV at r
 induction r with
 |nil=>exact True.intro
 |@cons p q ps qs h t ih=>
  let#[h1,h2]:=h;by_cases e:p.1=k
  ·have e':q.1=k:=h1.symm.trans e;have b:valueAt (q::qs) k>q.2:=by simp[valueAt,B3,e']
   rw[oH e,b];exact h2
  ·have e':¬q.1=k:=λ z=>e (h1.trans z);have b:valueAt (q::qs) k=valueAt qs k:=by simp[valueAt,B3,e']
   rw[oI e,b];exact ih
theorem KV.any{kvs:List (κ×V)}{vs:List (κ×ac)}(r:KV kvs vs)(k:κ):(kvs.any λ kv=>decide (kv.1=k))=vs.any λ kv=>decide (kv.1=k):=by
 unfold KV at r
 induction r with
 |nil=>rfl
 |cons h t ih=>rw[any_cons,any_cons,ih,h.1]
def KV.FX{kvs:List (κ×V)}{vs:List (κ×ac)}(r:KV kvs vs)(k:κ){y:V}(ry:sK y u):KV (kvs.map λ kv=>if kv.1=k then(kv.1,y)else kv) (vs.map λ kv=>if kv.1=k then(kv.1,u)else kv):=by
 unfold KV at r ⊢
 induction r with
 |nil=>exact .nil
 |@cons p q ps qs h t ih=>
  rw[D9,D9];refine .cons ?_ ih;let#[h1,h2]:=h;by_cases e:p.1=k
  ·rw[L1 e,L1 (h1.symm.trans e)];exact#[h1,ry]
  ·rw[L7 e,L7 (λ z=>e (h1.trans z))];exact#[h1,h2]
def KV.put{kvs:List (κ×V)}{vs:List (κ×ac)}(r:KV kvs vs)(k:κ){y:V}(ry:sK y u):KV (putK kvs k y) (stored vs k u):=by
 unfold putK stored;rw[r.any k];by_cases e:(vs.any λ kv=>decide (kv.1=k))=true
 ·rw[L1 e,L1 e];exact r.FX k ry
 ·rw[L7 e,L7 e];exact Paired.snoc r #[rfl,ry]
theorem KV.length{kvs:List (κ×V)}{vs:List (κ×ac)}(r:KV kvs vs):-kvs=-vs:=D7 r
end
def pS{k:Key}(r:sK (kV k) u):(cW P w).is k u=true:=by
 cases k with
 |inl i=>let#[t,e]:=(show ∃t,u=Value.int i t from r);subst e;exact vX P w i t
 |inr x=>let#[t,e]:=(show ∃t,u=Value.str x t from r);subst e;exact vW P w x t
theorem sf:∀{ks:List Key} {us:List ac},ut (ks.map kV) us->ItemsAre (cW P w) ks us
 |[],_,r=>by rw[J1]at r;cases r;exact .nil
 |k::ks,_,r=>by
  rw[D9]at r;cases r with
  |cons h t=>exact .cons (pS h) (sf t)
abbrev KT(H:Hp):List (List Key×V)->List (List Key×be×ac)->Prop:=Paired λ p q=>p.1=q.1/\H q.2.1>(.tup (p.1.map kV))/\sK p.2 q.2.2
def KT.val{xs:List (List Key×be×ac)}(r:KT H kvs xs)(k:List Key):lQ (gW kvs k) ((atKey xs k).map (·.2)):=by
 induction r with
 |nil=>exact True.intro
 |@cons p q ps qs h t ih=>
  let#[h1,_,h2]:=h;by_cases e:p.1=k
  ·have e':q.1=k:=h1.symm.trans e;have b:atKey (q::qs) k>q.2:=by simp[atKey,B3,e']
   rw[oH e,b];exact h2
  ·have e':¬q.1=k:=λ z=>e (h1.trans z);have b:atKey (q::qs) k=atKey qs k:=by simp[atKey,B3,e']
   rw[oI e,b];exact ih
def KT.FX{xs:List (List Key×be×ac)}(r:KT H kvs xs)(k:List Key){y:V}(ry:sK y u):KT H (kvs.map λ kv=>if kv.1=k then(kv.1,y)else kv) (xs.map (putAt k u)):=by
 induction r with
 |nil=>exact .nil
 |@cons p q ps qs h t ih=>
  rw[D9,D9];refine .cons ?_ ih;let#[h1,h2,h3]:=h;unfold putAt;by_cases e:p.1=k
  ·rw[L1 e,L1 (h1.symm.trans e)];exact#[h1,h2,ry]
  ·rw[L7 e,L7 (λ z=>e (h1.trans z))];exact#[h1,h2,h3]
def KT.put{xs:List (List Key×be×ac)}(r:KT H kvs xs)(k:List Key){y:V}(hb:H b>(.tup (k.map kV)))(ry:sK y u):KT H (putK kvs k y) (storedH xs k b u):=by
 have e:(kvs.any λ kv=>decide (kv.1=k))=(atKey xs k).isSome:=by rw[oJ,(r.val k).fg,y0]
 unfold putK storedH;rw[e];by_cases q:(atKey xs k).isSome=true
 ·rw[L1 q,L1 q];exact r.FX k ry
 ·rw[L7 q,L7 q];exact Paired.snoc r #[rfl,hb,ry]
def KT.keeps{xs:List (List Key×be×ac)}(r:KT H kvs xs)(ht:∀b ys,H b>(.tup ys)->H' b>(.tup ys)):KT H' kvs xs:=
 Paired.qM r λ _ _ z=>#[z.1,ht _ _ z.2.1,z.2.2]
section
variable {h:Heap}
def Oc{u:HO}(ok:iF P w H h)(e:Rd H a u):br P w H h a u:=e.ok ok
def sF{kvs:List (Key×V)}(ok:iF P w H h)(e:Rd H a (.dK kvs)):-kvs<=sizeLine/\(a==sysModules)=false/\∃vs,KV kvs vs/\h.DictOf (cW P w) a vs:=
 show br P w H h a (.dK kvs)from Oc ok e
def BN{kvs:List (Key×V)}(ok:iF P w H h)(e:H a>(.dK kvs)):-kvs<=sizeLine/\(a==sysModules)=false/\∃vs,KV kvs vs/\h.DictOf (cW P w) a vs:=sF ok (.inl e)
def pQ{ks:List Key}(ok:iF P w H h)(e:H a>(.tup (ks.map kV))):(tupleKind (cW P w)).is h ks a:=by let#[_,ar,r,o,h1,h2,n,h3]:=(show br P w H h a (.tup (ks.map kV))from ok a _ e);exact#[o,ar.toArray,n,h1,h2,h3,by simpa using sf r]
def wM(ok:iF P w H h)(e:Rd H a (.dT kvs)):-kvs<=sizeLine/\(a==sysModules)=false/\
  ∃xs,KT H kvs xs/\h.DictOfH (tupleKind (cW P w)) a xs:=by
 let#[z,y,xs,r,o,es,ep,h1,h2,h3,h4,h5]:=(show br P w H h a (.dT kvs)from Oc ok e);refine#[z,y,xs,r,o,es,ep,h1,h2,h3,h4,λ x hx=>?_,h5];have all:∀{l:List (List Key×V)} {m:List (List Key×be×ac)},KT H l m->∀x∈m,(tupleKind (cW P w)).is h x.1 x.2.1:=by
  intro l m q
  induction q with
  |nil=>intro x hx;exact nomatch hx
  |@cons p q ps qs hq t ih=>
   intro x hx;rcases E8.mp hx with e|hx
   ·subst e;exact pQ ok (by rw[<- hq.1];exact hq.2.1)
   ·exact ih x hx
 exact all r x hx
def VV(ok:iF P w H h)(e:H a>(.dT kvs)):-kvs<=sizeLine/\(a==sysModules)=false/\
  ∃xs,KT H kvs xs/\h.DictOfH (tupleKind (cW P w)) a xs:=wM ok (.inl e)
end
def rg(H:Hp)(a:be)(y:V)(r:Option V):Prop:=
 (∃kvs k,Rd H a (.dK kvs)/\y=kV k/\r=gW kvs k)\/∃kvs k b,Rd H a (.dT kvs)/\y=.ref b/\H b>(.tup (k.map kV))/\r=gW kvs k
def Js(H:Hp)(a:be)(y v:V)(H':Hp):Prop:=
 (∃kvs k,H a>(.dK kvs)/\y=kV k/\-kvs<sizeLine/\H'=u8 H a (.dK (putK kvs k v)))\/
 ∃kvs k b,H a>(.dT kvs)/\y=.ref b/\H b>(.tup (k.map kV))/\-kvs<sizeLine/\H'=u8 H a (.dT (putK kvs k v))
def rg.k9{kvs:List (Key×V)}{k:Key}(e:H a>(.dK kvs)):rg H a (kV k) (gW kvs k):=.inl #[kvs,k,.inl e,rfl,rfl]
def Js.k9{kvs:List (Key×V)}{k:Key}(e:H a>(.dK kvs))(hl:-kvs<sizeLine):Js H a (kV k) v (u8 H a (.dK (putK kvs k v))):=.inl #[kvs,k,e,rfl,hl,rfl]
section
variable {y:V}{r:ac}{o:Option V}
def nn.big(I:nn X im σ H s):sysModules<s⁻¹:=by have h:mainGlobals<s⁻¹:=(I.mod.glob.keeps I.bk).lt;exact Nat.lt_trans `c h
def Eg(hu:A.units+1<cLine)(I:nn X im σ H s)(g:rg H a y (some v))(ry:sK y u)(h:∀w' s',nn X im σ H s'->sK v w'->Q w' s'):wpAny `f A (getItem `z u) Q E s:=by
 rcases g with⟨kvs,k,e,ey,l⟩|⟨kvs,k,b,e,ey,eb,l⟩
 ·subst ey;let#[z,hd,vs,rel,dd]:=sF I.aX e;let#[w',hw,iT]:=lQ.some_of (v:=v) (o:=valueAt vs k) (l>=rel.val k);exact wpAny_getItem_of (pS ry) dd.mapOf hw (h w' _ (I.tok _) iT)
 ·subst ey;cases(show u=Value.ref b from ry);let#[z,hd,xs,rel,dd]:=wM I.aX e;let#[w',hw,iT]:=lQ.some_of (v:=v) (o:=(atKey xs k).map (·.2)) (l>=rel.val k);let#[p,hp,h_]:=ca.mp hw;refine wpAny_getItem_heap (u7 hu) (pQ I.aX eb) dd hp ?_;rw[h_];exact h w' _ (I.tok _) iT
def ZR(hu:A.units+1<cLine)(I:nn X im σ H s)(g:rg H a y o)(ry:sK y u)(h:∀s',nn X im σ H s'->Q (.bool o.isSome) s'):wpAny `f A (compareOp .In u `z) Q E s:=by
 rcases g with⟨kvs,k,e,ey,l⟩|⟨kvs,k,b,e,ey,eb,l⟩
 ·subst ey;let#[z,hd,vs,rel,dd]:=sF I.aX e;refine wpAny_in_of (pS ry) hd dd.mapOf ?_;rw[<- (rel.val k).fg,<- l];exact h _ (I.tok _)
 ·subst ey;cases(show u=Value.ref b from ry);let#[z,hd,xs,rel,dd]:=wM I.aX e;refine wpAny_in_heap (u7 hu) (pQ I.aX eb) hd dd ?_;have q:=(rel.val k).fg;rw[y0]at q;rw[<- q,<- l];exact h _ (I.tok _)
def Np(hu:A.units+1<cLine)(I:nn X im σ H s)(g:rg H a y o)(ry:sK y u)(h:∀s',nn X im σ H s'->Q (.bool (!o.isSome)) s'):wpAny `f A (compareOp .NotIn u `z) Q E s:=by
 rcases g with⟨kvs,k,e,ey,l⟩|⟨kvs,k,b,e,ey,eb,l⟩
 ·subst ey;let#[z,hd,vs,rel,dd]:=sF I.aX e;refine wpAny_notIn_of (pS ry) hd dd.mapOf ?_;rw[<- (rel.val k).fg,<- l];exact h _ (I.tok _)
 ·subst ey;cases(show u=Value.ref b from ry);let#[z,hd,xs,rel,dd]:=wM I.aX e;refine wpAny_notIn_heap (u7 hu) (pQ I.aX eb) hd dd ?_;have q:=(rel.val k).fg;rw[y0]at q;rw[<- q,<- l];exact h _ (I.tok _)
def ie{ob:HO}(I:nn X im σ H s)(mu:V' (H a))(hs:Heap.SameBut a s.heap h')(he:∃q,h'.get? a>q)(new:br X.prog X.w (u8 H a ob) h' a ob):nn X im σ (u8 H a ob) {s with heap:=h',toks:=t'}:=
 I.write (x:=a) (e:=a) mu (.inl rfl) (λ b q hb z=>(hs.2 b hb).trans z) he new
def y_{kvs:List (Key×V)}{vs:List (Key×ac)}(z:-kvs<=sizeLine)(hd:(a==sysModules)=false)(rel:KV kvs vs)(dd:h'.DictOf (cW P w) a vs):br P w H' h' a (.dK kvs):=#[z,hd,vs,rel,dd]
def Ef{Q:Unit->bd->Prop}(hu:A.units+1<cLine)(I:nn X im σ H s)(g:Js H a y v H')(ry:sK y u)(rv:sK v r)(h:∀s',nn X im σ H' s'->Q .unit s'):wpAny `f A (setItem `z u r) Q E s:=by
 rcases g with⟨kvs,k,e,ey,l,eH⟩|⟨kvs,k,b,e,ey,eb,l,eH⟩
 ·subst ey eH;let#[z,hd,vs,rel,dd]:=BN I.aX e;have hz:-vs<=sizeLine:=by rw[<- -rel];exact z
  have hl:(putK kvs k v).length<=sizeLine:=by have:=fR kvs k v;lia
  refine wpAny_setItem_pairs (hsz:=hz) (pS ry) dd λ h' xG hs=>h _ ?_;have he:∃q,h'.get? a>q:=let⟨q,_,_,hq,_⟩:=xG;#[q,hq]
  exact ie I (e>=True.intro) hs he (y_ hl hd (rel.put k rv) xG)
 ·subst ey eH;cases(show u=Value.ref b from ry);let#[z,hd,xs,rel,dd]:=VV I.aX e;have hz:-xs<=sizeLine:=by rw[<- D7 rel];exact z
  have hl:(putK kvs k v).length<=sizeLine:=by have:=fR kvs k v;lia
  refine wpAny_setItem_heap (hsz:=hz) (u7 hu) (pQ I.aX eb) dd λ h' xG hs=>h _ ?_;let#[q,es,ep,hq,h2,h3,h4,_,h5]:=xG;refine ie I (e>=True.intro) hs #[q,hq] #[hl,hd,_,(rel.put k eb rv).keeps λ c ys ec=>?_,q,es,ep,hq,h2,h3,h4,h5];rw[aJ (aU ec e (λ z=>nomatch z))];exact ec
end
section
variable {kvs:List (Key×V)}{k:Key}
def VW(I:nn X im σ H s)(e:Rd H a (.dK kvs))(h:∀t s',nn X im σ H s'->Q (.int (-kvs) t) s'):wpAny `f A (call (.builtin "len") [.ref a]) Q E s:=by let#[z,hd,vs,rel,dd]:=sF I.aX e;refine call_len_dict hd dd (by rw[<- -rel];rw[J8]at z;lia) ?_;rw[<- -rel];exact h _ _ (I.tok _)
end
def wQ{y:V}{o:Option V}(I:nn X im σ H s)(g:rg H a y o):s.TypeIs `z "dict":=by
 rcases g with⟨kvs,k,e,_,_⟩|⟨kvs,k,b,e,_,_,_⟩
 ·let#[_,_,vs,_,dd]:=sF I.aX e;exact dd.typeIs
 ·let#[_,_,xs,_,dd]:=wM I.aX e;exact dd.typeIs
def wO(h:Heap)(hb:sysModules<h.objs.size):br P w H (h.push {cls:=.type "dict",data:=.dict ([].toArray)}) h.objs.size (.dK []):=
 #[J9 _,beq_eq_false_iff_ne.mpr (K9 (G4 hb)),[],.nil,Heap.DictOf.new h]
def Pg:TE:=λ _ H Q=>∀p,H p=none->Q `j (u8 H p (.dK []))
section
variable {pos:Pos}
def GO:PE X (.Dict [] [] pos) Pg:=λ im s σ H Q I h=>
 wpAny_Dict_empty #[.ref s⁻¹,_,I.laid (a:=s⁻¹) (o:=.dK []) (t':=s.toks) (λ _ _ q=>j4 _ q) `G (wO s.heap I.big),rfl,h _ (I.aX.fresh `G)]
end
mutual
def eS(K:L8)(H:Hp):IK->V->Prop
 | .i n,v=>v=.int n\/∃b:Bool,v=.bl b/\n=b2i b
 | .t ks,v=>∃p xs,v=.ref p/\gu K H p xs/\fS K H ks xs
def fS(K:L8)(H:Hp):List IK->List V->Prop
 |[],xs=>xs=[]
 |k::ks,xs=>∃x r,xs=x::r/\eS K H k x/\fS K H ks r
end
mutual
theorem jX(I:nn X im σ H s):∀(k:IK){v:V}{u:ac},eS X.K H k v->sK v u->cx s.heap k u
 | .i n,v,u,h,r=>by
  unfold eS at h;unfold cx;rcases h with rfl|⟨b,rfl,rfl⟩
  ·exact .inl r
  ·exact .inr #[b,r,rfl]
 | .t ks,v,u,h,r=>by unfold eS at h;let#[p,xs,rfl,hq,hk]:=h;cases(show u=Value.ref p from r);let#[ar,rv,#[o,ho,hc,n,hd],_]:=I.tuple hq;unfold cx;exact#[p,o,ar,n,rfl,ho,hc,hd,Bk I ks hk rv]
theorem Bk(I:nn X im σ H s):∀(ks:List IK){xs:List V}{us:List ac},fS X.K H ks xs->ut xs us->bD s.heap ks us
 |[],xs,us,h,r=>by unfold fS at h;subst h;cases r;unfold bD;rfl
 |k::ks,xs,us,h,r=>by
  unfold fS at h;let#[x,NS,rfl,h1,h2]:=h;cases r with
  |cons r1 r2=>unfold bD;exact#[_,_,rfl,jX I k h1 r1,Bk I ks h2 r2]
end
abbrev fb:=IK×be×V
def ZM(x:IK×be×ac):DictEntry:=#[eN x.1,.ref x.2.1,x.2.2]
abbrev EG:List fb->List (IK×be×ac)->Prop:=Paired λ p q=>p.1=q.1/\p.2.1=q.2.1/\sK p.2.2 q.2.2
def ZQ(a:be)(kvs:List fb)(h:Heap):Prop:=-kvs<=sizeLine/\(a==sysModules)=false/\∃xs,EG kvs xs/\∃o es ep,h.get? a>o/\o.ExactDict/\o.data=.dict es ep/\es.toList=xs.map ZM/\(xs.map (·.1)).Nodup
def nk(a:be)(kvs:List fb):HO:=.ext (ZQ a kvs)
def qh{h:Heap}{kvs:List fb}(x:ZQ a kvs h):br P w H h a (nk a kvs):=by let#[z,y,xs,r,o,es,ep,e,c]:=id x;exact#[x,#[o,e],λ h1 h2 ⟨z,y,xs,r,o,es,ep,e,c⟩ q=>#[z,y,xs,r,o,es,ep,q o e,c]]
noncomputable def gy(kvs:List fb)(k:IK):Option V:=(kvs.find? λ p=>decide (p.1=k)).map (·.2.2)
noncomputable def iJ(kvs:List fb)(k:IK)(p:be)(v:V):List fb:=if(gy kvs k).isSome=true then kvs.map (λ x=>if x.1=k then(x.1,x.2.1,v)else x)else kvs++[(k,p,v)]
def pG(kvs:List fb)(k:IK)(p:be)(v:V):(iJ kvs k p v).length<=-kvs+1:=by
 unfold iJ;split
 ·simp
 ·simp
def EG.val{kvs:List fb}{xs:List (IK×be×ac)}(r:EG kvs xs)(k:IK):lQ (gy kvs k) ((atKey xs k).map (·.2)):=by
 induction r with
 |nil=>exact True.intro
 |@cons p q ps qs h t ih=>
  let#[h1,_,h2]:=h;unfold gy atKey at ih ⊢;by_cases e:p.1=k
  ·have e':q.1=k:=h1.symm.trans e;simp only[B3,C9 e,C9 e',Option.map_some];exact h2
  ·have e':¬q.1=k:=λ z=>e (h1.trans z);simp only[B3,B4 e,B4 e'];exact ih
def EG.FX{kvs:List fb}{xs:List (IK×be×ac)}(r:EG kvs xs)(k:IK){y:V}(ry:sK y u):EG (kvs.map λ x=>if x.1=k then(x.1,x.2.1,y)else x) (xs.map (putAt k u)):=by
 induction r with
 |nil=>exact .nil
 |@cons p q ps qs h t ih=>
  rw[D9,D9];refine .cons ?_ ih;let#[h1,h2,h3]:=h;unfold putAt;by_cases e:p.1=k
  ·rw[L1 e,L1 (h1.symm.trans e)];exact#[h1,h2,ry]
  ·rw[L7 e,L7 (λ z=>e (h1.trans z))];exact#[h1,h2,h3]
def ub{o:Option V}{u:Option ac}(r:lQ o u):o.isSome=u.isSome:=r.fg
def EG.put{kvs:List fb}{xs:List (IK×be×ac)}(r:EG kvs xs)(k:IK){y:V}(ry:sK y u):EG (iJ kvs k b y) (storedH xs k b u):=by
 have e:(gy kvs k).isSome=(atKey xs k).isSome:=by rw[ub (r.val k),y0]
 unfold iJ storedH;rw[e];by_cases q:(atKey xs k).isSome=true
 ·rw[L1 q,L1 q];exact r.FX k ry
 ·rw[L7 q,L7 q];exact Paired.snoc r #[rfl,rfl,ry]
structure mJ(K:L8)(H:Hp)(a:be)(kvs:List fb):Prop where
 at_:H a>nk a kvs
 key:∀p∈kvs,p.1.dep<=5/\eS K H p.1 (.ref p.2.1)
section
variable {kvs:List fb}{k:IK}{r:ac}
def mJ.of(I:nn X im σ H s)(d:mJ X.K H a kvs):-kvs<=sizeLine/\(a==sysModules)=false/\∃xs,EG kvs xs/\s.heap.DictOfH (aP X.prog X.w) a xs:=by
 let#[#[z,y,xs,rel,o,es,ep,h1,h2,h3,h4,h5],_,_]:=(show br X.prog X.w H s.heap a (nk a kvs)from I.aX a _ d.at_);refine#[z,y,xs,rel,o,es,ep,h1,h2,h3,h4,?_,h5];have all:∀{l:List fb} {m:List (IK×be×ac)},EG l m->(∀p∈l,p.1.dep<=5/\eS X.K H p.1 (.ref p.2.1))->∀x∈m,(aP X.prog X.w).is s.heap x.1 x.2.1:=by
  intro l m q
  induction q with
  |nil=>intro _ x hx;cases hx
  |@cons p q ps qs hq t ih=>
   intro hl x hx;rcases E8.mp hx with rfl|hx
   ·let#[c1,c2]:=hl p (o7 ..);rw[hq.1,hq.2.1]at c2;rw[hq.1]at c1;exact#[c1,jX I _ c2 rfl]
   ·exact ih (λ p hp=>hl p (k8 _ hp)) x hx
 exact all rel d.key
def iU(hu:A.units+64<cLine):(aP X.prog X.w).room A.in1:=(show A.units+1+8<cLine by lia)
def Dh(hu:A.units+64<cLine)(I:nn X im σ H s)(d:mJ X.K H a kvs)(hk:k.dep<=5)(qC:eS X.K H k (.ref b))(g:gy kvs k>v)(h:∀w' s',nn X im σ H s'->sK v w'->Q w' s'):wpAny `f A (getItem `z (.ref b)) Q E s:=by let#[z,hd,xs,rel,dd]:=d.of I;let#[w',hw,iT]:=lQ.some_of (v:=v) (o:=(atKey xs k).map (·.2)) (by rw[<- g];exact rel.val k);let#[p,hp,h_]:=ca.mp hw;refine wpAny_getItem_heap (iU hu) #[hk,jX I k qC rfl] dd hp ?_;rw[h_];exact h w' _ (I.tok _) iT
def Xy(hu:A.units+64<cLine)(I:nn X im σ H s)(d:mJ X.K H a kvs)(hk:k.dep<=5)(qC:eS X.K H k (.ref b))(h:∀s',nn X im σ H s'->Q (.bool (gy kvs k).isSome) s'):wpAny `f A (compareOp .In (.ref b) `z) Q E s:=by let#[z,hd,xs,rel,dd]:=d.of I;refine wpAny_in_heap (iU hu) #[hk,jX I k qC rfl] hd dd ?_;have q:=ub (rel.val k);rw[y0]at q;rw[<- q];exact h _ (I.tok _)
def J_(hu:A.units+64<cLine)(I:nn X im σ H s)(d:mJ X.K H a kvs)(hk:k.dep<=5)(qC:eS X.K H k (.ref b))(h:∀s',nn X im σ H s'->Q (.bool (!(gy kvs k).isSome)) s'):wpAny `f A (compareOp .NotIn (.ref b) `z) Q E s:=by let#[z,hd,xs,rel,dd]:=d.of I;refine wpAny_notIn_heap (iU hu) #[hk,jX I k qC rfl] hd dd ?_;have q:=ub (rel.val k);rw[y0]at q;rw[<- q];exact h _ (I.tok _)
def Dg{Q:Unit->bd->Prop}(hu:A.units+64<cLine)(I:nn X im σ H s)(d:mJ X.K H a kvs)(hk:k.dep<=5)(qC:eS X.K H k (.ref b))(hl:-kvs<sizeLine)(rv:sK v r)(h:∀s',nn X im σ (u8 H a (nk a (iJ kvs k b v))) s'->Q .unit s'):wpAny `f A (setItem `z (.ref b) r) Q E s:=by
 let#[z,hd,xs,rel,dd]:=d.of I;have hz:-xs<=sizeLine:=by rw[<- D7 rel];exact z
 have lG:(iJ kvs k b v).length<=sizeLine:=by have:=pG kvs k b v;lia
 refine wpAny_setItem_heap (hsz:=hz) (iU hu) #[hk,jX I k qC rfl] dd λ h' xG hs=>h _ ?_;let#[q,es,ep,hq,h2,h3,h4,_,h5]:=xG;exact ie I (d.at_>=True.intro) hs #[q,hq] (qh #[lG,hd,_,rel.put k rv,q,es,ep,hq,h2,h3,h4,h5])
end
section
variable {pos:Pos}
def BM(h:Heap)(hb:sysModules<h.objs.size):ZQ h.objs.size [] (h.push {cls:=.type "dict",data:=.dict ([].toArray)}):=
 #[J9 _,beq_eq_false_iff_ne.mpr (K9 (G4 hb)),[],.nil,_,([].toArray),0,n5 _ rfl,#[rfl,rfl,rfl],rfl,rfl,nodup_nil]
def Ph:TE:=λ _ H Q=>∀p,H p=none->Q `j (u8 H p (nk p []))
def vP:PE X (.Dict [] [] pos) Ph:=λ im s σ H Q I h=>
 wpAny_Dict_empty #[.ref s⁻¹,_,I.laid (a:=s⁻¹) (o:=nk s⁻¹ []) (t':=s.toks) (λ _ _ q=>j4 _ q) `G (qh (BM s.heap I.big)),rfl,h _ (I.aX.fresh `G)]
end
def Qb{d:be}(hd:(d==sysModules)=false):MeetsIn prog w (Builtin.«dict.__len__» #[[.ref d],[]]) (λ _ R s=>∃o es ep,s.heap.get? d>o/\o.data=.dict es ep/\R (.ok (.ret (.int es.size s.toks))) {s with toks:=s.toks+1}):=
 .of_wp λ A R s ⟨o,es,ep,ho,R0,h⟩=>by show wpAny _ _ (dictSize d>>=_) _ _ s;unfold dictSize;refine K1 (K1 (wpAny_dictEntries ho R0 (K3 ?_)));show wpAny _ _ (Builtin.Dict.pendingCount d>>=_) _ _ s;refine K1 (wpAny_pendingCount_other hd (wpAny_ret_mkInt ?_));rw[Nat.add_zero];exact h
def xi{d:be}{es:Array DictEntry}(hd:(d==sysModules)=false)(ho:s.heap.get? d>o)(hc:o.cls=.type "dict")(R0:o.data=.dict es ep)(hz:es.size<=sizeLine)(h:∀t n,Q (.int es.size t) {s with toks:=n}):wpAny `d A (call (.builtin "len") [.ref d]) Q E s:=by
 have hT:s.TypeIs (.ref d) "dict":=#[o,ho,hc];have Te:sizeLine=16777216:=by decide
 have VC:((es.size:Nat):Int)<2^63:=()
 refine Calls.call_function_entry kind_len plain_len entry_len (args_len1 _) ?_;unfold Builtin.«len»;refine K1 (m:=oneArg "len" _) (K3 ?_);refine K1 (m:=callSpecial? (.ref d) (Str.ofString "__len__")) (i9 (name:=Str.ofString "__len__") hT F.slot_dict_len (call_meetsIn F.slot_dict_len hT F.entry_dict_len (F.args_dict_len_1 _) (Qb hd) #[o,es,ep,ho,R0,?_]));show wpAny _ _ _ _ _ {s with toks:=s.toks+1};refine K1 (D5 (K3 (K1 (wpAny_letGo ?_))));show wpAny _ _ (if((es.size:Nat):Int)<0 then _ else _) _ _ _;rw[L7 ()];show wpAny _ _ (if GE.ge ((es.size:Nat):Int) (2^63) then _ else _) _ _ _;rw[L7 ()];exact K1 (wpAny_mkInt (K3 #[_,rfl,h _ _]))
section
variable {kvs:List fb}
def TV(I:nn X im σ H s)(e:H a>nk a kvs)(h:∀t s',nn X im σ H s'->Q (.int (-kvs) t) s'):wpAny `f A (call (.builtin "len") [.ref a]) Q E s:=by
 let#[#[z,y,xs,rel,o,es,ep,h1,h2,h3,h4,h5],_,_]:=(show br X.prog X.w H s.heap a (nk a kvs)from I.aX a _ e);have e1:es.size=-kvs:=by rw[<- m9,h4,C1];exact(D7 rel).symm
 refine xi y h1 h2.1 h3 (e1>=z) λ t n=>?_;rw[e1];exact h t _ (I.tok _)
end
structure iC where
 qual:Str
 params:Arguments
 body:Expr
 scope:Scope
 pm:ac
abbrev ki(f:be)(L:iC)(c:be)(cl:List (Str×be)):Heap->Prop:=λ h=>∃oh,h.get? f>PySem.W.kla_obj "<lambda>" L.qual L.params L.body L.scope cl L.pm c oh
abbrev nA(c:be)(q:Str):Heap->Prop:=λ h=>h.CodeRec (.ref c) q
abbrev Jd(c:be)(v:V):Heap->Prop:=λ h=>∃u,sK v u/\h.IsCell c (some u)
abbrev ij(o:Obj)(c:be)(v:V):HO:=.cQ o (.cQ o (.ext (Jd c v)))
def Bf{h:Heap}{L:iC}{oh:ac}(e:h.get? f>PySem.W.kla_obj "<lambda>" L.qual L.params L.body L.scope cl L.pm c oh):∃o,∀{P:Program} {w:World} {H:Hp},br P w H h f (.cQ o (.ext (ki f L c cl))):=
 #[_,λ{_ _ _}=>#[e,#[oh,e],#[_,e],λ h1 h2 ⟨t,q⟩ k=>#[t,k _ q]]]
def Nz{h:Heap}{q:Str}(x:h.CodeRec (.ref c) q):∃o,∀{P:Program} {w:World} {H:Hp},br P w H h c (.cQ o (.ext (nA c q))):=by let#[c',o,vs,t,e,h1,h2,h3]:=id x;cases e;exact#[o,λ{_ _ _}=>#[h1,x,#[o,h1],λ a b ⟨c',o,vs,t,e,h1,h2,h3⟩ k=>by cases e;exact#[_,o,vs,t,rfl,k _ h1,h2,h3]]]
def NA{h:Heap}(r:sK v u)(x:h.IsCell c (some u)):∃o,h.get? c>o/\∀{P:Program} {w:World} {H:Hp},br P w H h c (ij o c v):=by let#[o,h1,h2]:=id x;exact#[o,h1,λ{_ _ _}=>#[h1,h1,#[u,r,x],#[o,h1],λ a b ⟨u,r,o,h1,h2⟩ k=>#[u,r,o,k _ h1,h2]]]
def oR(cs:List (Pos×be)):List ac:=cs.flatMap λ p=>[rawInt p.1.line,rawInt p.1.col,.ref p.2]
theorem sT:∀cs,TriplesOk (oR cs)
 |[]=>trivial
 |p::cs=>sT cs
theorem rE{pos:Pos}:∀{cs:List (Pos×be)},codeAmong pos (oR cs)>u->∃p∈cs,u=.ref p.2
 |[],e=>by cases e
 |p::cs,e=>by
  have e:(if(((p.1.line:Int)==pos.line)&&((p.1.col:Int)==pos.col))=true then some (Value.ref p.2)else codeAmong pos (oR cs))>u:=e;split at e
  ·exact#[p,.head _,(B7 e).symm]
  ·let#[q,h,r]:=rE e;exact#[q,.tail _ h,r]
structure Jq(mg:Str->Option ac)(base:Heap)(c P:be):Prop where
 bm:∃bm ob,mg "__builtins__">(.ref bm)/\bm≠builtinsNs/\base.get? bm>ob/\ob.cls=.type "module"/\ob.dict>builtinsNs/\ob.data=.plain
 cd:PySem.W.CodeHd base c P
def EF(H:Hp)(P:be)(q:Str):Prop:=∃cs:List (Pos×be),H P>(.lU (oR cs).toArray)/\∀p∈cs,∃o,H p.2>(.cQ o (.ext (nA p.2 q)))
def EF.grow{P:be}{q:Str}(t:EF H P q)(k:∀b o u,H b>(.cQ o u)->H' b>(.cQ o u))(e:H' P=H P):EF H' P q:=by let#[cs,h1,h2]:=t;exact#[cs,e.trans h1,λ p hp=>let⟨o,z⟩:=h2 p hp;#[o,k _ _ _ z]]
def XF(P:be)(L:iC)(cells:List (Str×be)):TE:=λ σ H Q=>EF H P L.qual/\∀(f c:be)(H':Hp),H f=none->(∀x d,cells.lookup x>d->d≠f)->(∀b u,b≠P->H b>u->H' b>u)->EF H' P L.qual->(∃o,H' c>(.cQ o (.ext (nA c L.qual))))->(∃o,H' f>(.cQ o (.ext (ki f L c (bq cells L.scope.names [])))))->Q `C H'
def rF(cs:List (Pos×be))(pos:Pos)(c:be):(oR cs).toArray++([rawInt pos.line,rawInt pos.col,.ref c].toArray)=(oR (cs++[(pos,c)])).toArray:=by simp[oR]
def GN{L:iC}{P:be}{pos:Pos}(mN:X.env.code=.ref c)(B:Jq X.mg X.base c P)(yT:defaultsOf L.params X.env=([],[]))(D':L.pm=(X.mg "__name__").getD .none)(hq:X.env.qual++"<lambda>"=L.qual)(vb:∀n,(n,NameKind.free)∈L.scope.names->X.env.kindOf n>.cell\/X.env.kindOf n>.free):PE X (.Lambda L.params L.body L.scope pos) (XF P L X.env.cells):=by
 intro im s σ H Q I h;let#[#[cs,hP,uo],k]:=h;refine PySem.W.kla_eval yT ?_;rw[hq];have vc:closureFor L.scope X.env=pure `v:=eA λ n hn=>I.ok.has n (vb n hn);have oP:s.heap.get? P>PySem.W.tabObj (oR cs).toArray:=I.aX P _ hP;have hg:s.heap.Ns mainGlobals X.mg:=I.mod.glob.keeps I.bk;have C:=B.cd.keeps I.bk;let#[bm,ob,b1,b2,b3,b4,b5,b6]:=B.bm;have hgP:mainGlobals≠P:=λ q=>by let#[o,es,ep,e,hd,_]:=id hg;rw[q,oP]at e;cases e;cases hd
 have hbP:bm≠P:=λ q=>by have e:=I.bk _ _ b3;rw[q,oP]at e;cases e;cases b4
 have hbG:bm≠mainGlobals:=λ q=>by let#[o,es,ep,e,hd,_]:=id hg;have e2:=I.bk _ _ b3;rw[q,e]at e2;cases e2;rw[hd]at b6;cases b6
 have hb:s.heap.BuiltinsAt X.mg P:=#[bm,ob,b1,b2,hbG,hbP,I.bk _ _ b3,b4,b5,b6];have frC:∀{f:be},s⁻¹<=f->∀x d,X.env.cells.lookup x>d->d≠f:=λ hf x d e z=>by let#[v,o,ho,_]:=I.cell x d e;exact bi (G5 ho) (z>=Nat.not_lt.mpr hf)
 cases hc:codeAmong pos (oR cs).toArray.toList with
 |none=>
  refine PySem.W.kla_makeFunction vc I.ok.glob hg mN C oP (by simpa using sT cs) hc hgP hb λ c' oh h' tk hx MV gm YT Vn=>?_;rw[<- D'];have hf:h'.objs.size=h'.objs.size:=rfl;generalize hF:h'.objs.size=f at*;have YQ:s⁻¹<=f:=G9 MV (J6 gm);have nc:H c'=none:=I.aX.fresh MV;have nf:H f=none:=I.aX.fresh YQ;have cf:c'≠f:=G4 gm;have cP:c'≠P:=λ z=>by rw[z,hP]at nc;cases nc
  have fP:f≠P:=λ z=>by rw[z,hP]at nf;cases nf
  have up:∀b o,h'.get? b>o->(h'.push (PySem.W.kla_obj "<lambda>" L.qual L.params L.body L.scope `v L.pm c' oh)).get? b>o:=λ b o e=>j4 _ e;have hl:(h'.push (PySem.W.kla_obj "<lambda>" L.qual L.params L.body L.scope `v L.pm c' oh)).get? f>PySem.W.kla_obj "<lambda>" L.qual L.params L.body L.scope `v L.pm c' oh:=by rw[<- hF];exact n5 _ rfl
  have Vo:(h'.push (PySem.W.kla_obj "<lambda>" L.qual L.params L.body L.scope `v L.pm c' oh)).CodeRec (.ref c') L.qual:=by let#[c2,o,vs,t,e,h1,h2,h3]:=YT;exact#[c2,o,vs,t,e,up _ _ h1,h2,h3]
  have Vn:=up _ _ Vn;rw[rF]at Vn;have kp:∀b o,b≠P->s.heap.get? b>o->(h'.push (PySem.W.kla_obj "<lambda>" L.qual L.params L.body L.scope `v L.pm c' oh)).get? b>o:=λ b o n e=>up b o (hx b o n e);generalize h'.push (PySem.W.kla_obj "<lambda>" L.qual L.params L.body L.scope `v L.pm c' oh)=g at*;let#[of,zf]:=Bf (L:=L) hl;let#[oc,zc]:=Nz Vo;obtain⟨H',eH⟩:∃H':Hp,H'=u8 (u8 (u8 H c' (.cQ oc (.ext (nA c' L.qual)))) P (.lU (oR (cs++[(pos,c')])).toArray)) f (.cQ of (.ext (ki f L c' `v))):=#[_,rfl];have Hf:H' f>(.cQ of (.ext (ki f L c' `v))):=eH>=aH
  have HP:H' P>(.lU (oR (cs++[(pos,c')])).toArray):=eH>=(aJ fP.symm>=aH)
  have Hc:H' c'>(.cQ oc (.ext (nA c' L.qual))):=eH>=(aJ cf>=(aJ cP>=aH))
  have Ho:∀b,b≠f->b≠P->b≠c'->H' b=H b:=λ b n1 n2 n3=>by rw[eH,aJ n1,aJ n2,aJ n3]
  have old:∀b u,b≠P->H b>u->H' b>u:=λ b u n e=>(Ho b (bI e nf) n (bI e nc)).trans e;have I2:nn X im σ H' {s with heap:=g,toks:=tk}:=by
   refine I.un (H':=H') (h':=g) (t':=tk) #[λ b o e n _ _=>kp b o (λ z=>by rw[z,hP]at n;cases n) e,λ b o e n _ _=>#[o.slots,kp b o (λ z=>by rw[z,hP]at n;cases n) e],λ b o e n _=>?_,λ b o e _=>?_,λ b xs e=>old b _ (λ z=>by rw[z,hP]at e;cases e) e,λ b o u e=>old b _ (λ z=>by rw[z,hP]at e;cases e) e,λ b ps e=>?_] λ b u e=>?_
   ·have lt:=G5 e;rw[Ho b (G4 (p9 lt YQ)) (λ z=>by rw[z,hP]at n;cases n) (G4 (p9 lt MV))];exact n
   ·by_cases z:b=P
    ·subst z;exact#[_,Vn]
    ·exact#[o,kp b o z e]
   ·by_cases z:b=P
    ·subst z;rw[hP]at e;cases e;exact#[([rawInt pos.line,rawInt pos.col,.ref c'].toArray),by rw[HP,rF]]
    ·exact#[([].toArray),by rw[old b _ z e];simp]
   ·by_cases z1:b=f
    ·subst z1;rw[Hf]at e;cases e;exact zf
    ·by_cases z2:b=P
     ·subst z2;rw[HP]at e;cases e;exact Vn
     ·by_cases z3:b=c'
      ·subst z3;rw[Hc]at e;cases e;exact zc
      ·rw[Ho b z1 z2 z3]at e;refine(I.aX b u e).lY (λ d v hd q=>kp d v ?_ q) (λ d q=>old d _ (λ z=>by rw[z,hP]at q;cases q) q) λ d xs q=>old d _ (λ z=>by rw[z,hP]at q;cases q) q;rcases hd with rfl|hd
       ·exact z2
       ·exact λ z=>by rw[z,hP]at hd;cases hd
  refine#[.ref f,H',I2,rfl,k f c' H' nf (frC YQ) old #[_,HP,λ p hp=>?_] #[oc,Hc] #[of,Hf]];rcases C3.mp hp with hp|hp
  ·let#[o,z]:=uo p hp;exact#[o,old _ _ (λ y=>by rw[y,hP]at z;cases z) z]
  ·rw[q8.mp hp];exact#[oc,Hc]
 |some u=>
  let#[p,hp,rfl]:=rE (~~~hc);refine PySem.W.kla_makeFunctionHit vc I.ok.glob hg mN C oP (by simpa using sT cs) hc hb λ oh h' tk hx hsz=>?_;rw[<- D'];have nf:H h'.objs.size=none:=I.aX.fresh hsz;have fP:h'.objs.size≠P:=λ z=>by rw[z,hP]at nf;cases nf
  have hl:(h'.push (PySem.W.kla_obj "<lambda>" L.qual L.params L.body L.scope `v L.pm p.2 oh)).get? h'.objs.size>PySem.W.kla_obj "<lambda>" L.qual L.params L.body L.scope `v L.pm p.2 oh:=n5 _ rfl;let#[of,zf]:=Bf (L:=L) hl;have t:∀b u,H b>u->u8 H h'.objs.size (.cQ of (.ext (ki h'.objs.size L p.2 `v))) b>u:=λ b u e=>aJ (bI e nf)>=e
  have I2:=I.laid (t':=tk) (a:=h'.objs.size) (h':=h'.push (PySem.W.kla_obj "<lambda>" L.qual L.params L.body L.scope `v L.pm p.2 oh)) (λ b u e=>j4 _ (hx b u e)) hsz (o:=.cQ of (.ext (ki h'.objs.size L p.2 `v))) zf;let#[oc,zc]:=uo p hp;exact#[.ref h'.objs.size,_,I2,rfl,k _ p.2 _ nf (frC hsz) (λ b u _ e=>t b u e) #[cs,t _ _ hP,λ p hp=>let⟨o,z⟩:=uo p hp;#[o,t _ _ z]] #[oc,t _ _ zc] #[of,aH]]
end L2
variable {L:L2.iC}
namespace L3
open PySem.Spec L2
inductive D where
 |bf|bl (b:Bool)|int (i:Int)|str (x:Str)|ty (n:String)|ref (a:be)
 |tup (xs:List D)
 |fl (xs:List D)
def JN(K:L8)(H:Hp)(p:be)(xs:List V):Prop:=
 (∃o,H p>(.cQ o `J))\/∃(o:Obj)(ar:Array ac)(n:Nat),K.lookup p>o/\o.cls=.type "list"/\o.dict=none/\o.data=.seq ar n/\ar.size<=sizeLine/\ut xs ar.toList
def JN.sq(h:JN K H p xs):fK K H p xs:=by
 rcases h with h|h
 ·exact .inl (.inr h)
 ·exact .inr h
mutual
def sB(K:L8)(H:Hp):D->V->Prop
 | .bf,v=>v=.bf
 | .bl b,v=>v=.bl b
 | .int i,v=>v=.int i
 | .str x,v=>v=.str x
 | .ty n,v=>v=.ty n
 | .ref a,v=>v=.ref a
 | .tup ds,v=>∃p xs,v=.ref p/\gu K H p xs/\ay K H ds xs
 | .fl ds,v=>∃p xs,v=.ref p/\JN K H p xs/\ay K H ds xs
def ay(K:L8)(H:Hp):List D->List V->Prop
 |[],xs=>xs=[]
 |d::ds,xs=>∃x r,xs=x::r/\sB K H d x/\ay K H ds r
end
structure ao(H H':Hp):Prop where
 tup:∀b xs,H b>(.tup xs)->H' b>(.tup xs)
 cQ:∀b o u,H b>(.cQ o u)->H' b>(.cQ o u)
def ao.refl(H:Hp):ao H H:=#[λ _ _ h=>h,λ _ _ _ h=>h]
def ao.trans{H2:Hp}(a:ao H H1)(b:ao H1 H2):ao H H2:=#[λ c xs h=>b.tup c xs (a.tup c xs h),λ c o u h=>b.cQ c o u (a.cQ c o u h)]
def ao.laid{o:HO}(h:H p=none):ao H (u8 H p o):=
 #[λ b xs e=>aJ (bI e h)>=e,λ b ob u e=>aJ (bI e h)>=e]
theorem ao.lst{H:Hp}{p:be}{xs:List V}{o:HO}(h:H p>`J):ao H (u8 H p o):=
 #[λ b ys e=>aJ (aU e h (by intro z;cases z))>=e,λ b ob u e=>aJ (aU e h (by intro z;cases z))>=e]
def ao.mut{u o:HO}(h:H p>u)(n1:∀xs,u≠.tup xs)(n2:∀ob w,u≠.cQ ob w):ao H (u8 H p o):=
 #[λ b ys e=>aJ (λ z=>by subst z;rw[h]at e;exact n1 ys (B7 e))>=e,λ b ob w e=>aJ (λ z=>by subst z;rw[h]at e;exact n2 ob w (B7 e))>=e]
structure Ew(H H':Hp):Prop where
 tup:∀b xs,H b>(.tup xs)->H' b>(.tup xs)
 ft:∀b o xs,H b>(.cQ o (.tup xs))->H' b>(.cQ o (.tup xs))
 fl:∀b o xs,H b>(.cQ o `J)->H' b>(.cQ o `J)
def ao.sub(t:ao H H'):Ew H H':=#[t.tup,λ b o _=>t.cQ b o _,λ b o _=>t.cQ b o _]
def Ad(t:Ew H H')(h:gu K H p xs):gu K H' p xs:=by
 rcases h with(h|⟨o,h⟩)|h
 ·exact .inl (.inl (t.tup _ _ h))
 ·exact .inl (.inr #[o,t.ft _ _ _ h])
 ·exact .inr h
def BH(t:Ew H H')(h:JN K H p xs):JN K H' p xs:=by
 rcases h with⟨o,h⟩|h
 ·exact .inl #[o,t.fl _ _ _ h]
 ·exact .inr h
def Fm(t:ao H H')(h:gu K H p xs):gu K H' p xs:=Ad t.sub h
def Iz(t:ao H H')(h:JN K H p xs):JN K H' p xs:=BH t.sub h
mutual
theorem sB.mon{K:L8}{H H':Hp}(t:Ew H H'):∀(d:D){v:V},sB K H d v->sB K H' d v
 | .bf,v,h=>by unfold sB at h ⊢;exact h
 | .bl b,v,h=>by unfold sB at h ⊢;exact h
 | .int i,v,h=>by unfold sB at h ⊢;exact h
 | .str x,v,h=>by unfold sB at h ⊢;exact h
 | .ty n,v,h=>by unfold sB at h ⊢;exact h
 | .ref a,v,h=>by unfold sB at h ⊢;exact h
 | .tup ds,v,h=>by unfold sB at h ⊢;let#[p,xs,e,q,r]:=h;exact#[p,xs,e,Ad t q,ay.mon t ds r]
 | .fl ds,v,h=>by unfold sB at h ⊢;let#[p,xs,e,q,r]:=h;exact#[p,xs,e,BH t q,ay.mon t ds r]
theorem ay.mon{K:L8}{H H':Hp}(t:Ew H H'):∀(ds:List D){xs:List V},ay K H ds xs->ay K H' ds xs
 |[],xs,h=>by unfold ay at h ⊢;exact h
 |d::ds,xs,h=>by unfold ay at h ⊢;let#[x,r,e,a,b]:=h;exact#[x,r,e,sB.mon t d a,ay.mon t ds b]
end
def sB.mono(t:ao H H')(d:D)(h:sB K H d v):sB K H' d v:=sB.mon t.sub d h
def ay.mono(t:ao H H')(ds:List D)(h:ay K H ds xs):ay K H' ds xs:=ay.mon t.sub ds h
def dh:sB K H .bf v↔v=.bf:=by unfold sB;exact Iff.rfl
def aR{b:Bool}:sB K H (.bl b) v↔v=.bl b:=by unfold sB;exact Iff.rfl
def aq{i:Int}:sB K H (.int i) v↔v=.int i:=by unfold sB;exact Iff.rfl
def aW:sB K H (.str x) v↔v=.str x:=by unfold sB;exact Iff.rfl
def za{n:String}:sB K H (.ty n) v↔v=.ty n:=by unfold sB;exact Iff.rfl
def az:sB K H `z v↔v=.ref a:=by unfold sB;exact Iff.rfl
def aM{ds:List D}:sB K H (.tup ds) v↔∃p xs,v=.ref p/\gu K H p xs/\ay K H ds xs:=by rw[sB]
def ko{ds:List D}:sB K H (.fl ds) v↔∃p xs,v=.ref p/\JN K H p xs/\ay K H ds xs:=by rw[sB]
def ah:ay K H [] xs↔xs=[]:=by unfold ay;exact Iff.rfl
def ae{d:D}{ds:List D}:ay K H (d::ds) xs↔∃x r,xs=x::r/\sB K H d x/\ay K H ds r:=by rw[ay]
theorem ay.length:∀{ds:List D} {xs:List V},ay K H ds xs->-xs=-ds
 |[],xs,h=>by rw[ah]at h;subst h;rfl
 |d::ds,xs,h=>by rw[ae]at h;let#[x,r,rfl,_,q]:=h;rw[y9,y9,-q]
theorem ay.get:∀{ds:List D} {xs:List V} {i:Nat} {d:D},ay K H ds xs->ds[i]?>d->∃x,xs[i]?>x/\sB K H d x
 |[],xs,i,d,h,e=>by simp at e
 |d0::ds,xs,i,d,h,e=>by
  rw[ae]at h;let#[x,r,rfl,a,q]:=h;cases i with
  |zero=>simp at e;subst e;exact#[x,rfl,a]
  |succ i=>let#[y,h1,h2]:=ay.get q (~~~e);exact#[y,~~~h1,h2]
theorem ay.Ed:∀{ds:List D} {xs:List V} {i:Nat} {x:V},ay K H ds xs->xs[i]?>x->∃d,ds[i]?>d/\sB K H d x
 |[],xs,i,x,h,e=>by rw[ah]at h;subst h;simp at e
 |d0::ds,xs,i,x,h,e=>by
  rw[ae]at h;let#[y,r,rfl,a,q]:=h;cases i with
  |zero=>simp at e;subst e;exact#[d0,rfl,a]
  |succ i=>let#[d,h1,h2]:=ay.Ed q (~~~e);exact#[d,~~~h1,h2]
theorem ay.append:∀{ds es:List D} {xs ys:List V},ay K H ds xs->ay K H es ys->ay K H (ds++es) (xs++ys)
 |[],es,xs,ys,h,q=>by rw[ah]at h;subst h;exact q
 |d::ds,es,xs,ys,h,q=>by rw[ae]at h;let#[x,r,rfl,a,b]:=h;rw[A8,A8,ae];exact#[x,_,rfl,a,b.append q]
def ay.one{d:D}(h:sB K H d v):ay K H [d] [v]:=ae>=#[v,[],rfl,h,by rw[ah]]
theorem ay.take:∀{ds:List D} {xs:List V} (n:Nat),ay K H ds xs->ay K H (ds.take n) (xs.take n)
 |ds,xs,0,h=>by simp[ah]
 |[],xs,n+1,h=>by rw[ah]at h;subst h;simp[ah]
 |d::ds,xs,n+1,h=>by rw[ae]at h;let#[x,r,rfl,a,b]:=h;rw[take_succ_cons,take_succ_cons,ae];exact#[x,_,rfl,a,b.take n]
theorem ay.drop:∀{ds:List D} {xs:List V} (n:Nat),ay K H ds xs->ay K H (ds.drop n) (xs.drop n)
 |ds,xs,0,h=>h
 |[],xs,n+1,h=>by rw[ah]at h;subst h;simp[ah]
 |d::ds,xs,n+1,h=>by rw[ae]at h;let#[x,r,rfl,a,b]:=h;exact b.drop n
theorem ay.set{d:D}{x:V}(hd:sB K H d x):∀{ds:List D} {xs:List V} (n:Nat),ay K H ds xs->ay K H (ds.set n d) (xs.set n x)
 |[],xs,n,h=>by rw[ah]at h;subst h;simp[ah]
 |d0::ds,xs,0,h=>by rw[ae]at h;let#[y,r,rfl,a,b]:=h;rw[set_cons_zero,set_cons_zero,ae];exact#[x,_,rfl,hd,b]
 |d0::ds,xs,n+1,h=>by rw[ae]at h;let#[y,r,rfl,a,b]:=h;rw[set_cons_succ,set_cons_succ,ae];exact#[y,_,rfl,a,b.set hd n]
theorem jN:∀(ns:List Int),ay K H (ns.map D.int) (ns.map V.int)
 |[]=>by simp[ah]
 |n::ns=>D9>=(D9>=(ae>=#[_,_,rfl,aq.mpr rfl,jN ns]))
theorem wV:∀{bs:List Bool} {xs:List V},ay K H (bs.map D.bl) xs->xs=bs.map V.bl
 |[],xs,h=>by rw[J1,ah]at h;exact h
 |b::bs,xs,h=>by rw[D9,ae]at h;let#[x,r,rfl,a,q]:=h;rw[aR]at a;rw[a,wV q];rfl
def iK:Key->D
 | .inl i=>.int i
 | .inr x=>.str x
mutual
def qA:IK->D
 | .i n=>.int n
 | .t ks=>.tup (qP ks)
def qP:List IK->List D
 |[]=>[]
 |k::ks=>qA k::qP ks
end
mutual
theorem mD{K:L8}{H:Hp}:∀(k:IK){v:V},sB K H (qA k) v->eS K H k v
 | .i n,v,h=>by unfold qA at h;unfold eS;exact .inl (aq.mp h)
 | .t ks,v,h=>by unfold qA at h;let#[p,xs,rfl,hq,hx]:=aM.mp h;unfold eS;exact#[p,xs,rfl,hq,wU ks hx]
theorem wU{K:L8}{H:Hp}:∀(ks:List IK){xs:List V},ay K H (qP ks) xs->fS K H ks xs
 |[],xs,h=>by unfold qP at h;unfold fS;exact ah.mp h
 |k::ks,xs,h=>by unfold qP at h;let#[x,r,rfl,h1,h2]:=ae.mp h;unfold fS;exact#[x,r,rfl,mD k h1,wU ks h2]
end
mutual
theorem ug:∀{a b:IK},qA a=qA b->a=b
 | .i n,.i m,h=>by unfold qA at h;cases h;rfl
 | .i n,.t ks,h=>by unfold qA at h;cases h
 | .t ks,.i n,h=>by unfold qA at h;cases h
 | .t ks,.t ls,h=>by unfold qA at h;rw[wA (D.tup.inj h)]
theorem wA:∀{as bs:List IK},qP as=qP bs->as=bs
 |[],[],_=>rfl
 |[],b::bs,h=>by unfold qP at h;cases h
 |a::as,[],h=>by unfold qP at h;cases h
 |a::as,b::bs,h=>by
  unfold qP at h;injection h with h1 h2
  rw[ug h1,wA h2]
end
def wj{a b:Key}(h:iK a=iK b):a=b:=by
 cases a with
 |inl i=>cases b with
  |inl j=>have e:D.int i=D.int j:=h;cases e;rfl
  |inr y=>have e:D.int i=D.str y:=h;cases e
 |inr x=>cases b with
  |inl j=>have e:D.str x=D.int j:=h;cases e
  |inr y=>have e:D.str x=D.str y:=h;cases e;rfl
def lK{k:Key}(h:sB K H (iK k) v):v=kV k:=by
 cases k with
 |inl i=>exact aq.mp h
 |inr x=>exact aW.mp h
inductive XM where
 |lam (L:iC) (cl:List (Str×be))|uG (d:D)|lU (q:Str)
  |uN (kvs:List (List Bool×D))
inductive MO where
 |lst (ds:List D)
 |dE (x:XM)
  |bV (t:Bool) (kvs:List (D×D))
abbrev Jt(K:L8)(H:Hp):List (D×D)->List (Key×V)->Prop:=Paired λ p q=>p.1=iK q.1/\sB K H p.2 q.2
abbrev EA(K:L8)(H:Hp):List (D×D)->List fb->Prop:=Paired λ p q=>p.1=qA q.1/\q.1.dep<=5/\sB K H p.1 (.ref q.2.1)/\sB K H p.2 q.2.2
def Cr(bs:List Bool):IK:=.t (bs.map λ b=>.i (b2i b))
def Tw(bs:List Bool):D:=.tup (bs.map D.bl)
abbrev NQ(K:L8)(H:Hp):List (List Bool×D)->List fb->Prop:=Paired λ p q=>q.1=Cr p.1/\sB K H (Tw p.1) (.ref q.2.1)/\sB K H p.2 q.2.2
theorem NQ.mono(t:ao H H'){kvs:List (List Bool×D)}{xs:List fb}(h:NQ K H kvs xs):NQ K H' kvs xs:=Paired.qM h λ p q z=>#[z.1,sB.mono t _ z.2.1,sB.mono t _ z.2.2]
theorem Jt.mono(t:ao H H'){kvs:List (D×D)}{xs:List (Key×V)}(h:Jt K H kvs xs):Jt K H' kvs xs:=Paired.qM h λ p q z=>#[z.1,sB.mono t _ z.2]
theorem EA.mono(t:ao H H'){kvs:List (D×D)}{xs:List fb}(h:EA K H kvs xs):EA K H' kvs xs:=Paired.qM h λ p q z=>#[z.1,z.2.1,sB.mono t _ z.2.2.1,sB.mono t _ z.2.2.2]
abbrev Mem:=be->Option MO
def af(M:Mem)(a:be)(o:MO):Mem:=λ b=>if b=a then some o else M b
def ab{M:Mem}{o:MO}:af M a o a>o:=by unfold af;rw[L1 rfl]
def ak{M:Mem}{o:MO}(h:b≠a):af M a o b=M b:=by unfold af;rw[L7 h]
def dX{M:Mem}{o u:MO}:af (af M a o) a u=af M a u:=by funext b;unfold af;split<;>rfl
def rf(K:L8)(H:Hp)(a:be):MO->Prop
 | .lst ds=>∃xs,H a>`J/\ay K H ds xs
 | .bV false kvs=>∃xs,H a>(.dK xs)/\Jt K H kvs xs
 | .bV true kvs=>∃xs,H a>nk a xs/\EA K H kvs xs
 | .dE (.lam L cl)=>∃c,(∃o,H a>(.cQ o (.ext (ki a L c cl))))/\∃o,H c>(.cQ o (.ext (nA c L.qual)))
 | .dE (.uG d)=>∃o v,H a>ij o a v/\sB K H d v
 | .dE (.lU q)=>EF H a q
 | .dE (.uN kvs)=>∃xs,H a>nk a xs/\NQ K H kvs xs
def ul(K:L8)(H:Hp)(M:Mem):Prop:=∀a o,M a>o->rf K H a o
def rf.there{o:MO}(h:rf K H a o):∃u,H a>u:=by
 cases o with
 |dE x=>
  cases x with
  |lam L cl=>let#[_,#[o,h],_]:=h;exact#[_,h]
  |uG d=>let#[o,v,h,_]:=h;exact#[_,h]
  |lU q=>let#[cs,h,_]:=h;exact#[_,h]
  |uN kvs=>let#[xs,h,_]:=h;exact#[_,h]
 |lst ds=>let#[xs,h,_]:=h;exact#[_,h]
 |bV t kvs=>
  cases t with
  |false=>let#[xs,h,_]:=h;exact#[_,h]
  |true=>let#[xs,h,_]:=h;exact#[_,h]
theorem rf.mono{o:MO}(h:rf K H a o)(t:ao H H')(e:H' a=H a):rf K H' a o:=by
 cases o with
 |dE x=>
  cases x with
  |lam L cl=>let#[c,#[o,h],o',h']:=h;exact#[c,#[o,e.trans h],o',t.cQ _ _ _ h']
  |uG d=>let#[o,v,h,q]:=h;exact#[o,v,e.trans h,sB.mono t d q]
  |lU q=>exact EF.grow h t.cQ e
  |uN kvs=>let#[xs,h,q]:=h;exact#[xs,e.trans h,q.mono t]
 |lst ds=>let#[xs,h,q]:=h;exact#[xs,e.trans h,ay.mono t ds q]
 |bV b kvs=>
  cases b with
  |false=>let#[xs,h,q]:=h;exact#[xs,e.trans h,q.mono t]
  |true=>let#[xs,h,q]:=h;exact#[xs,e.trans h,q.mono t]
def ul.free{M:Mem}(h:ul K H M)(n:H p=none):M p=none:=by
 cases e:M p with
 |none=>rfl
 |some o=>let#[u,q]:=(h p o e).there;rw[n]at q;cases q
theorem ul.laid{M:Mem}(h:ul K H M){o:HO}(n:H p=none):ul K (u8 H p o) M:=λ a u e=>by let#[w,q]:=(h a u e).there;exact(h a u e).mono (ao.laid n) (aJ (bI q n))
def ul.put{M:Mem}(h:ul K H M){o:HO}{u:MO}(t:ao H (u8 H p o))(new:rf K (u8 H p o) p u):ul K (u8 H p o) (af M p u):=λ a w e=>by
 by_cases ha:a=p
 ·subst ha;rw[ab]at e;cases e;exact new
 ·rw[ak ha]at e;exact(h a w e).mono t (aJ ha)
def q_(M M':Mem):Prop:=∀a o,M a>o->M' a>o
def q_.refl(M:Mem):q_ M M:=λ _ _ h=>h
def q_.put{M M':Mem}{o:MO}(h:q_ M M')(n:M p=none):q_ M (af M' p o):=λ a u e=>ak (λ z=>by subst z;rw[n]at e;cases e)>=h a u e
def ul.sub{M M':Mem}(h:ul K H M')(s:q_ M M'):ul K H M:=λ a o e=>h a o (s a o e)
abbrev cS:=List (Option D)
structure df(K:L8)(H:Hp)(δ:cS)(σ:St):Prop where
 len:-δ=-σ
 get:∀(i:Nat)(d:D),δ[i]?>(some d)->∃v,σ[i]?>(some v)/\sB K H d v
theorem df.mono{δ:cS}(h:df K H δ σ)(t:ao H H'):df K H' δ σ:=
 #[h.len,λ i d e=>let⟨v,q,r⟩:=h.get i d e;#[v,q,sB.mono t d r]]
theorem df.set{δ:cS}(h:df K H δ σ){d:D}(r:sB K H d v):df K H (δ.set i (some d)) (σ.set i (some v)):=by
 refine#[length_set>=(length_set>=h.len),λ j e hj=>?_];by_cases xE:i=j
 ·subst xE;have hi:i < -δ:=by have:=(g9.mp hj).1;simpa using this
  rw[j6 hi]at hj;cases hj;exact#[v,by rw[j6 (by rw[<- h.len];exact hi)],r]
 ·rw[l7 xE]at hj;let#[u,q,w]:=h.get j e hj;exact#[u,l7 xE>=q,w]
abbrev bK:=D->Mem->Prop
abbrev bU:=cS->Mem->bK->Prop
abbrev gS:=cS->Mem->(Bool->Mem->Prop)->Prop
abbrev dG:=cS->Mem->(List D->Mem->Prop)->Prop
structure ka where
 nx:cS->Mem->Prop
 rt:bK
 bk:cS->Mem->Prop:=λ _ _=>False
 ct:cS->Mem->Prop:=λ _ _=>False
abbrev lO:=ka->cS->Mem->Prop
def jU(K:L8)(H:Hp)(Q2:bK)(Q:VK):Prop:=∀v H' d M',sB K H' d v->ul K H' M'->ao H H'->Q2 d M'->Q v H'
def xx(K:L8)(H:Hp)(Q2:Bool->Mem->Prop)(Q:Bool->Hp->Prop):Prop:=∀b H' M',ul K H' M'->ao H H'->Q2 b M'->Q b H'
def Wk(K:L8)(H:Hp)(Q2:List D->Mem->Prop)(Q:List V->Hp->Prop):Prop:=∀vs H' ds M',ay K H' ds vs->ul K H' M'->ao H H'->Q2 ds M'->Q vs H'
def mT(K:L8)(H:Hp)(N2:cS->Mem->Prop)(N:St->Hp->Prop):Prop:=∀σ' H' δ' M',df K H' δ' σ'->ul K H' M'->ao H H'->N2 δ' M'->N σ' H'
structure CB(K:L8)(H:Hp)(D2:ka)(E:Ends):Prop where
 nx:mT K H D2.nx E.nx
 rt:jU K H D2.rt E.rt
 bk:mT K H D2.bk E.bk
 ct:mT K H D2.ct E.ct
def jU.mono{Q2:bK}{Q:VK}(c:jU K H Q2 Q)(t:ao H H1):jU K H1 Q2 Q:=λ v H' d M' a b e q=>c v H' d M' a b (t.trans e) q
def xx.mono{Q2:Bool->Mem->Prop}{Q:Bool->Hp->Prop}(c:xx K H Q2 Q)(t:ao H H1):xx K H1 Q2 Q:=λ v H' M' b e q=>c v H' M' b (t.trans e) q
def mT.mono{N2:cS->Mem->Prop}{N:St->Hp->Prop}(c:mT K H N2 N)(t:ao H H1):mT K H1 N2 N:=λ v H' d M' a b e q=>c v H' d M' a b (t.trans e) q
theorem CB.mono{D2:ka}{E:Ends}(c:CB K H D2 E)(t:ao H H1):CB K H1 D2 E:=#[c.nx.mono t,c.rt.mono t,c.bk.mono t,c.ct.mono t]
def up(K:L8)(t:bU):TE:=λ σ H Q=>∃δ M Q2,df K H δ σ/\ul K H M/\t δ M Q2/\jU K H Q2 Q
def Jx(K:L8)(t:gS):TT:=λ σ H Q=>∃δ M Q2,df K H δ σ/\ul K H M/\t δ M Q2/\xx K H Q2 Q
def upA(K:L8)(t:dG):TA:=λ σ H Q=>∃δ M Q2,df K H δ σ/\ul K H M/\t δ M Q2/\Wk K H Q2 Q
def Xq(K:L8)(t:lO):TS:=λ E σ H=>∃δ M D2,df K H δ σ/\ul K H M/\t D2 δ M/\CB K H D2 E
abbrev QE(X:Cx)(e:Expr)(t:bU):Prop:=PE X e (up X.K t)
structure WE(X:Cx)(e:Expr)(t:bU):Prop where
 h:QE X e t
abbrev QT(X:Cx)(e:Expr)(t:gS):Prop:=PT X e (Jx X.K t)
structure WT(X:Cx)(e:Expr)(t:gS):Prop where
 h:QT X e t
abbrev QW(X:Cx)(e:Expr)(t:gS):Prop:=PW X e (Jx X.K t)
structure WW(X:Cx)(e:Expr)(t:gS):Prop where
 h:QW X e t
abbrev QA(X:Cx)(es:List Expr)(t:dG):Prop:=PA X es (upA X.K t)
structure WA(X:Cx)(e:List Expr)(t:dG):Prop where
 h:QA X e t
abbrev QS(X:Cx)(st:Stmt)(t:lO):Prop:=PS X st (Xq X.K t)
structure WS(X:Cx)(e:Stmt)(t:lO):Prop where
 h:QS X e t
abbrev QSs(X:Cx)(aB:List Stmt)(t:lO):Prop:=xw X aB (Xq X.K t)
structure JK(X:Cx)(e:List Stmt)(t:lO):Prop where
 h:QSs X e t
theorem WW.pt{t:gS}(w:WW X e t):WT X e t:=#[w.h.pt]
def bA{t t':TE}(h:PE X e t)(k:∀σ H Q,t' σ H Q->t σ H Q):PE X e t':=λ im s σ H Q I q=>h im s σ H Q I (k σ H Q q)
def Og{t t':TT}(h:PT X e t)(k:∀σ H Q,t' σ H Q->t σ H Q):PT X e t':=λ im s σ H Q I q=>h im s σ H Q I (k σ H Q q)
def Of{t t':TT}(h:PW X e t)(k:∀σ H Q,t' σ H Q->t σ H Q):PW X e t':=λ wh im s σ H Q I q=>h wh im s σ H Q I (k σ H Q q)
def Oj{t t':TA}(h:PA X es t)(k:∀σ H Q,t' σ H Q->t σ H Q):PA X es t':=λ pos im s σ H Q I q=>h pos im s σ H Q I (k σ H Q q)
def lb{t t':TS}(h:PS X st t)(k:∀E σ H,t' E σ H->t E σ H):PS X st t':=λ im s σ H E I q=>h im s σ H E I (k E σ H q)
def GA{aB:List Stmt}{t t':TS}(h:xw X aB t)(k:∀E σ H,t' E σ H->t E σ H):xw X aB t':=λ im s σ H E I q=>h im s σ H E I (k E σ H q)
end L3
variable {ds:List L3.D}{M M1 M':L3.Mem}{δ:L3.cS}{d:L3.D}{Qe:List L3.D->L3.Mem->Prop}{te to:L3.bU}{ta:L3.dG}{r2:List L3.D->L3.Mem->L3.bK->Prop}{tt:L3.gS}{N:L3.cS->L3.Mem->Prop}{QB:Bool->L3.Mem->Prop}
namespace L3
open PySem.Spec L2
abbrev jq:=D->D->Mem->bK->Prop
def SN(K:L8)(r:R2)(r2:jq):Prop:=∀x y d e H M Q2 Q,sB K H d x->sB K H e y->ul K H M->r2 d e M Q2->jU K H Q2 Q->r x y H Q
def Z0(K:L8)(r:V->Hp->VK->Prop)(r2:D->Mem->bK->Prop):Prop:=∀x d H M Q2 Q,sB K H d x->ul K H M->r2 d M Q2->jU K H Q2 Q->r x H Q
def SO(K:L8)(r:List V->Hp->VK->Prop)(r2:List D->Mem->bK->Prop):Prop:=∀xs ds H M Q2 Q,ay K H ds xs->ul K H M->r2 ds M Q2->jU K H Q2 Q->r xs H Q
def Z1(K:L8)(r:V->List V->Hp->VK->Prop)(r2:D->List D->Mem->bK->Prop):Prop:=∀x xs d ds H M Q2 Q,sB K H d x->ay K H ds xs->ul K H M->r2 d ds M Q2->jU K H Q2 Q->r x xs H Q
def V9(K:L8)(r:V->Option Int->Option Int->Hp->VK->Prop)(r2:D->Option Int->Option Int->Mem->bK->Prop):Prop:=∀x d lo hi H M Q2 Q,sB K H d x->ul K H M->r2 d lo hi M Q2->jU K H Q2 Q->r x lo hi H Q
def iO(X:Cx)(f:ac->ac->Sem ac)(r2:jq):Prop:=∃r,gP X f r/\SN X.K r r2
def UnS(X:Cx)(f:ac->Sem ac)(r2:D->Mem->bK->Prop):Prop:=∃r,Xg X f r/\Z0 X.K r r2
def Xl(X:Cx)(r2:jq):Prop:=∃r,zH X r/\SN X.K r r2
def Xj(X:Cx)(r2:D->Option Int->Option Int->Mem->bK->Prop):Prop:=∃r,Cv X r/\V9 X.K r r2
def fJ(X:Cx)(f:ac)(r2:List D->Mem->bK->Prop):Prop:=∃r,dj X f r/\SO X.K r r2
def TC(X:Cx)(id:String)(r2:D->List D->Mem->bK->Prop):Prop:=∃r,TF X id r/\Z1 X.K r r2
section
variable {a b c:Expr}{ta tb tc:bU}{pos:Pos}
def gZ(i:Nat):bU:=λ δ M Q=>match δ[i]? with
 |some (some d)=>Q d M
 |_=>False
def sC(d:D):bU:=λ _ M Q=>Q d M
def ai(i:Nat)(hN:X.N[i]?>x:=by rfl)(hv:SJ X.env.scope x:=by first|exact Or.inl rfl|exact Or.inr (Or.inl rfl)|exact Or.inr (Or.inr rfl))(hd:qF x:=by decide)(qD:V_ x:=by decide):WE X (.Name x pos) (gZ i):=⟨bA (GJ hN hv hd qD) λ σ H Q ⟨δ,M,Q2,hs,hm,q,k⟩=>by
 unfold gZ at q;cases e:δ[i]? with
 |none=>rw[e]at q;exact q.elim
 |some o=>
  cases o with
  |none=>rw[e]at q;exact q.elim
  |some d=>
   rw[e]at q;let#[v,h1,h2]:=hs.get i d e;exact#[v,h1,k v H d M h2 hm `o q]⟩
def ag{i j:_}:WE X (.Constant (.int i) j pos) (sC (.int i)):=#[bA Qy λ σ H Q ⟨δ,M,Q2,hs,hm,q,k⟩=>k _ H (.int i) M (aq.mpr rfl) hm `o q]
def O8{i j:_}:WE X (.Constant (.bool i) j pos) (sC (.bl i)):=#[bA UR λ σ H Q ⟨δ,M,Q2,hs,hm,q,k⟩=>k _ H (.bl i) M `P hm `o q]
def zQ{i j:_}:WE X (.Constant (.str i) j pos) (sC (.str i)):=#[bA Qu λ σ H Q ⟨δ,M,Q2,hs,hm,q,k⟩=>k _ H (.str i) M (aW.mpr rfl) hm `o q]
def EX{j:_}:WE X (.Constant .none j pos) (sC .bf):=#[bA Qw λ σ H Q ⟨δ,M,Q2,hs,hm,q,k⟩=>k _ H .bf M (dh.mpr rfl) hm `o q]
def mU{n:String}(hm:X.mg x=none)(hg:Gl X x:=by rfl)(hv:bootBuiltins x>(.type n):=by decide+kernel)(hn:x≠"__name__":=by decide)(hd:qF x:=by decide):WE X (.Name x pos) (sC (.ty n)):=#[bA (LF (v:=.ty n) hg hm hv rfl hn hd) λ σ H Q ⟨δ,M,Q2,hs,hm,q,k⟩=>k _ H (.ty n) M (za.mpr rfl) hm `o q]
def Ks(r2:jq)(ta tb:bU):bU:=λ δ M Q=>ta δ M λ d M1=>tb δ M1 λ e M2=>r2 d e M2 Q
def nP{r:R2}{r2:jq}(hr:SN K r r2):∀σ H Q,up K (Ks r2 ta tb) σ H Q->T3 r (up K ta) (up K tb) σ H Q:=by rintro σ H Q ⟨δ,M,Q2,hs,hm,q,k⟩;refine#[δ,M,_,hs,hm,q,λ x H1 d M1 hd bJ t1 q1=>?_];refine#[δ,M1,_,hs.mono t1,bJ,q1,λ y H2 e M2 he kL t2 q2=>?_];exact hr x y d e H2 M2 Q2 Q (sB.mono t2 d hd) he kL q2 (k.mono (t1.trans t2))
def bH{op:Operator}{r2:jq}(o:iO X (binaryOp op) r2)(ha:WE X a ta)(hb:WE X b tb):WE X (.BinOp a op b pos) (Ks r2 ta tb):=by replace ha:=ha.h;replace hb:=hb.h;refine#[?_];let#[r,ho,hr]:=o;exact bA (UP ho ha hb) (nP hr)
def sUn(r2:D->Mem->bK->Prop)(ta:bU):bU:=λ δ M Q=>ta δ M λ d M1=>r2 d M1 Q
def TM{op:UnaryOp}{r2:D->Mem->bK->Prop}(o:UnS X (unaryOp op) r2)(ha:WE X a ta):WE X (.UnaryOp op a pos) (sUn r2 ta):=by replace ha:=ha.h;refine#[?_];let#[r,ho,hr]:=o;refine bA (UO ho ha) ?_;rintro σ H Q ⟨δ,M,Q2,hs,hm,q,k⟩;exact#[δ,M,_,hs,hm,q,λ x H1 d M1 hd bJ t1 q1=>hr x d H1 M1 Q2 Q hd bJ q1 (k.mono t1)]
def gx{op:CmpOp}{r2:jq}(o:iO X (compareOp op) r2)(ha:WE X a ta)(hb:WE X b tb)(hm:behindInMarks op b=false:=by first|rfl|exact Rb _):WE X (.Compare a [op] [b] pos) (Ks r2 ta tb):=by replace ha:=ha.h;replace hb:=hb.h;refine#[?_];let#[r,ho,hr]:=o;exact bA (LD ho ha hb hm) (nP hr)
def rN(t:bU):gS:=λ δ M Q=>t δ M λ d M1=>match d with
 | .bl k=>Q k M1
 |_=>False
def rD{Q2:Bool->Mem->Prop}{Q:Bool->Hp->Prop}(k:xx K H Q2 Q):jU K H (λ d M1=>match d with| .bl k=>Q2 k M1|_=>False) (λ x H'=>∃k,x=.bl k/\Q k H'):=λ v H' d M' hd hm t q=>by
 cases d with
 |bl b=>exact#[b,aR.mp hd,k b H' M' hm t q]
 |_=>exact q.elim
def aK{op:CmpOp}{r2:jq}(o:iO X (compareOp op) r2)(ha:WE X a ta)(hb:WE X b tb)(hm:behindInMarks op b=false:=by first|rfl|exact Rb _):WT X (.Compare a [op] [b] pos) (rN (Ks r2 ta tb)):=by replace ha:=ha.h;replace hb:=hb.h;refine#[?_];let#[r,ho,hr]:=o;refine Og (Ll ho ha hb hm) ?_;rintro σ H Q ⟨δ,M,Q2,hs,hm,q,k⟩;exact nP hr σ H _ #[δ,M,_,hs,hm,q,rD k]
def oC(h:WE X e ta)(he:IsT X e:=by intro _;rfl):WT X e (rN ta):=by replace h:=h.h;refine#[?_];refine Og (Qi h he) ?_;rintro σ H Q ⟨δ,M,Q2,hs,hm,q,k⟩;exact#[δ,M,_,hs,hm,q,rD k]
variable {tA tB:gS}
def Ur(t u:gS):gS:=λ δ M Q=>t δ M λ c M1=>if c=true then u δ M1 Q else Q false M1
def XT(t u:gS):gS:=λ δ M Q=>t δ M λ c M1=>if c=true then Q true M1 else u δ M1 Q
def nH(ha:WT X a tA):WW X (.BoolOp .And [a] pos) tA:=#[have ha:=ha.h;Li ha]
def xQ(ha:WT X a tA):WW X (.BoolOp .Or [a] pos) tA:=#[have ha:=ha.h;Qf ha]
def oB(ha:WT X a tA)(hb:WW X (.BoolOp .And (b::rest) pos) tB):WW X (.BoolOp .And (a::b::rest) pos) (Ur tA tB):=⟨have ha:=ha.h;have hb:=hb.h;Of (Qh ha hb) λ σ H Q ⟨δ,M,Q2,hs,hm,q,k⟩=>by
 refine#[δ,M,_,hs,hm,q,λ c H1 M1 bJ t1 q1=>?_];cases c with
 |true=>rw[L1 rfl]at q1 ⊢;exact#[δ,M1,Q2,hs.mono t1,bJ,q1,k.mono t1]
 |false=>
  rw[L7 o8]at q1 ⊢;exact k _ _ _ bJ t1 q1⟩
def EM(ha:WT X a tA)(hb:WW X (.BoolOp .Or (b::rest) pos) tB):WW X (.BoolOp .Or (a::b::rest) pos) (XT tA tB):=⟨have ha:=ha.h;have hb:=hb.h;Of (UJ ha hb) λ σ H Q ⟨δ,M,Q2,hs,hm,q,k⟩=>by
 refine#[δ,M,_,hs,hm,q,λ c H1 M1 bJ t1 q1=>?_];cases c with
 |true=>rw[L1 rfl]at q1 ⊢;exact k _ _ _ bJ t1 q1
 |false=>
  rw[L7 o8]at q1 ⊢;exact#[δ,M1,Q2,hs.mono t1,bJ,q1,k.mono t1]⟩
def N9(ta tb:bU):bU:=λ δ M Q=>ta δ M λ d M1=>match d with
 | .bl c=>if c=true then tb δ M1 Q else Q (.bl false) M1
 |_=>False
def vk{op:_}(h:WE X a ta):WE X (.BoolOp op [a] pos) ta:=#[have h:=h.h;Qv h]
def w_and(ha:WE X a ta)(hb:WE X (.BoolOp .And (b::rest) pos) tb):WE X (.BoolOp .And (a::b::rest) pos) (N9 ta tb):=⟨have ha:=ha.h;have hb:=hb.h;bA (QF ha hb) λ σ H Q ⟨δ,M,Q2,hs,hm,q,k⟩=>by
 refine#[δ,M,_,hs,hm,q,λ x H1 d M1 hd bJ t1 q1=>?_];cases d with
 |bl c=>
  refine#[c,aR.mp hd,?_];have q1:if c=true then tb δ M1 Q2 else Q2 (.bl false) M1:=q1
  cases c with
  |true=>rw[L1 rfl]at q1 ⊢;exact#[δ,M1,Q2,hs.mono t1,bJ,q1,k.mono t1]
  |false=>rw[L7 o8]at q1 ⊢;exact k _ _ _ _ `P bJ t1 q1
 |_=>exact q1.elim⟩
variable {t:dG}
def tj:dG:=λ _ M Q=>Q [] M
def iy(ta:bU)(tr:dG):dG:=λ δ M Q=>ta δ M λ d M1=>tr δ M1 λ ds M2=>Q (d::ds) M2
def cD:WA X [] tj:=#[Oj pI λ σ H Q ⟨δ,M,Q2,hs,hm,q,k⟩=>k [] H [] M (by rw[ah]) hm `o q]
def bF(ha:WE X e ta)(hr:WA X es t)(hs:kB X e es:=by rfl):WA X (e::es) (iy ta t):=⟨have ha:=ha.h;have hr:=hr.h;Oj (lq ha hr hs) λ σ H Q ⟨δ,M,Q2,hs,hm,q,k⟩=>by
 refine#[δ,M,_,hs,hm,q,λ x H1 d M1 hd bJ t1 q1=>?_];refine#[δ,M1,_,hs.mono t1,bJ,q1,λ xs H2 ds M2 Eb kL t2 q2=>?_];exact k (x::xs) H2 (d::ds) M2 (ae.mpr #[x,xs,rfl,sB.mono t2 d hd,Eb]) kL (t1.trans t2) q2⟩
def Ug(t:dG):bU:=λ δ M Q=>t δ M λ ds M1=>-ds<=sizeLine/\Q (.tup ds) M1
def jA(hp:H p=none)(h:ay K H ds xs):sB K (u8 H p (.tup xs)) (.tup ds) `j:=aM.mpr #[p,xs,rfl,gu.of aH,ay.mono `Q ds h]
def de{x1:_}(h:WA X es t):WE X (.Tuple es x1 pos) (Ug t):=⟨have h:=h.h;bA (Qt h) λ σ H Q ⟨δ,M,Q2,hs,hm,q,k⟩=>by
 refine#[δ,M,_,hs,hm,q,λ xs H1 ds M1 hd bJ t1 q1=>?_];refine#[by rw[-hd];exact q1.1,λ p hp=>?_];exact k _ _ (.tup ds) M1 (jA hp hd) (bJ.laid hp) (t1.trans `Q) q1.2⟩
def Ui(t:dG):bU:=λ δ M Q=>t δ M λ ds M1=>-ds<=sizeLine/\∀p,M1 p=none->Q `j (af M1 p `B)
def dM(hp:H p=none)(h:ay K H ds xs)(hm:ul K H M):ul K (u8 H p `J) (af M p `B):=
 hm.put `Q #[xs,aH,ay.mono `Q ds h]
def cB(h:WA X es t):WE X (.List es pos) (Ui t):=⟨have h:=h.h;bA (Qx h) λ σ H Q ⟨δ,M,Q2,hs,hm,q,k⟩=>by
 refine#[δ,M,_,hs,hm,q,λ xs H1 ds M1 hd bJ t1 q1=>?_];refine#[by rw[-hd];exact q1.1,λ p hp=>?_];exact k _ _ `j _ (az.mpr rfl) (dM hp hd bJ) (t1.trans `Q) (q1.2 p (bJ.free hp))⟩
def aI{r2:jq}(o:Xl X r2)(ha:WE X a ta)(hb:WE X b tb)(hs:Cy b:=by exact λ _ _=>rfl):WE X (.Subscript a b pos) (Ks r2 ta tb):=by replace ha:=ha.h;replace hb:=hb.h;refine#[?_];let#[r,ho,hr]:=o;exact bA (UQ ho ha hb hs) (nP hr)
abbrev JL:=cS->Mem->(Option Int->Mem->Prop)->Prop
def Wi(K:L8)(H:Hp)(Q2:Option Int->Mem->Prop)(Q:Option Int->Hp->Prop):Prop:=∀o H' M',ul K H' M'->ao H H'->Q2 o M'->Q o H'
def upO(K:L8)(t:JL):TO:=λ σ H Q=>∃δ M Q2,df K H δ σ/\ul K H M/\t δ M Q2/\Wi K H Q2 Q
abbrev QO(X:Cx)(e:Option Expr)(t:JL):Prop:=PO X e (upO X.K t)
structure WO(X:Cx)(e:Option Expr)(t:JL):Prop where
 h:QO X e t
def GD{e:Option Expr}{t t':TO}(h:PO X e t)(k:∀σ H Q,t' σ H Q->t σ H Q):PO X e t':=λ im s σ H Q I q=>h im s σ H Q I (k σ H Q q)
def td:JL:=λ _ M Q=>Q none M
def N5(t:bU):JL:=λ δ M Q=>t δ M λ d M1=>match d with
 | .int i=>Q (some i) M1
 |_=>False
def sQ:WO X none td:=#[GD Lr λ σ H Q ⟨δ,M,Q2,hs,hm,q,k⟩=>k _ _ _ hm `o q]
def zP(h:WE X e ta):WO X (some e) (N5 ta):=⟨have h:=h.h;GD (Lq h) λ σ H Q ⟨δ,M,Q2,hs,hm,q,k⟩=>by
 refine#[δ,M,_,hs,hm,q,λ x H1 d M1 hd bJ t1 q1=>?_];cases d with
 |int i=>exact#[i,aq.mp hd,k _ _ _ bJ t1 q1]
 |_=>exact q1.elim⟩
variable {lo hi:Option Expr}{tl th:JL}
def XS(r2:D->Option Int->Option Int->Mem->bK->Prop)(te:bU)(tl th:JL):bU:=λ δ M Q=>te δ M λ d M1=>tl δ M1 λ l M2=>th δ M2 λ u M3=>r2 d l u M3 Q
def sR{r2:D->Option Int->Option Int->Mem->bK->Prop}(o:Xj X r2)(he:WE X e ta)(hl:WO X lo tl)(hu:WO X hi th):WE X (.Subscript e (.Slice lo hi none p2) pos) (XS r2 ta tl th):=by replace he:=he.h;replace hl:=hl.h;replace hu:=hu.h;refine#[?_];let#[r,ho,hr]:=o;refine bA (GK ho he hl hu) ?_;rintro σ H Q ⟨δ,M,Q2,hs,hm,q,k⟩;refine#[δ,M,_,hs,hm,q,λ x H1 d M1 hd bJ t1 q1=>?_];refine#[δ,M1,_,hs.mono t1,bJ,q1,λ l H2 M2 kL t2 q2=>?_];refine#[δ,M2,_,hs.mono (t1.trans t2),kL,q2,λ u H3 M3 MT t3 q3=>?_];exact hr x d l u H3 M3 Q2 Q (sB.mono (t2.trans t3) d hd) MT q3 (k.mono (t1.trans (t2.trans t3)))
def Um(r2:List D->Mem->bK->Prop)(t:dG):bU:=λ δ M Q=>t δ M λ ds M1=>r2 ds M1 Q
variable {p:Pos}{id:String}
def Ck{r:List V->Hp->VK->Prop}(hr:SO K r r2):∀σ H Q,up K (Um r2 t) σ H Q->Wu r (upA K t) σ H Q:=by rintro σ H Q ⟨δ,M,Q2,hs,hm,q,k⟩;exact#[δ,M,_,hs,hm,q,λ xs H1 ds M1 hd bJ t1 q1=>hr xs ds H1 M1 Q2 Q hd bJ q1 (k.mono t1)]
def ax(o:fJ X (.builtin id) r2)(hm:X.mg x=none)(ha:WA X (e::es) t)(hg:Gl X x:=by rfl)(hv:bootBuiltins x>(.builtin id):=by decide+kernel)(hn:x≠"__name__":=by decide)(nh:qF x:=by decide)(he:kB X e es:=by rfl)(gR:uX X pos es:=by rfl):WE X `y (Um r2 t):=by replace ha:=ha.h;refine#[?_];let#[r,ho,hr]:=o;exact bA (vQ ho hg hm hv ha hn nh he gR) (Ck hr)
def bM(o:fJ X (.type T) r2)(hm:X.mg x=none)(ha:WA X (e::es) t)(hg:Gl X x:=by rfl)(hv:bootBuiltins x>(.type T):=by decide+kernel)(hn:x≠"__name__":=by decide)(nh:qF x:=by decide)(he:kB X e es:=by rfl)(gR:uX X pos es:=by rfl):WE X `y (Um r2 t):=by replace ha:=ha.h;refine#[?_];let#[r,ho,hr]:=o;exact bA (gC ho hg hm hv ha hn nh he gR) (Ck hr)
end
def S5(T:String)(d:D)(M:Mem):Prop:=match d with
 | .str _=>T="str"
 | .ref a=>T="list"/\∃ds,M a>`B
 |_=>False
def S5.v9{x:V}(h:S5 T d M)(r:sB K H d x)(hm:ul K H M):Wr K T x H:=by
 cases d with
 |str z=>cases(aW.mp r);exact h
 |ref a=>cases(az.mp r);let#[e,ds,q]:=h;let#[xs,hx,_]:=hm a _ q;exact .inl #[e,xs,fK.of hx]
 |_=>exact h.elim
section
variable {o:Expr}{t:dG}{id:String}
def Uq(T:String)(r2:D->List D->Mem->bK->Prop)(to:bU)(t:dG):bU:=λ δ M Q=>to δ M λ d M1=>S5 T d M1/\t δ M1 λ ds M2=>r2 d ds M2 Q
def Uo(T:String)(r2:D->List D->Mem->bK->Prop)(to:bU):bU:=λ δ M Q=>to δ M λ d M1=>S5 T d M1/\r2 d [] M1 Q
def TN{r2:D->List D->Mem->bK->Prop}(pa:PlainAttrs T)(slot:Slot T name id)(HZ:Wa id)(hm:TC X id r2)(ho:WE X o to)(gM:S4 X o name:=by rfl)(gJ:SU apos cR:=by rfl):WE X (.Call (.Attribute o name apos) [] [] cR) (Uo T r2 to):=by replace ho:=ho.h;refine#[?_];let#[r,h1,hr]:=hm;refine bA (QD pa slot HZ h1 ho gM gJ) ?_;rintro σ H Q ⟨δ,M,Q2,hs,hm,q,k⟩;exact#[δ,M,_,hs,hm,q,λ x H1 d M1 hd bJ t1 q1=>#[q1.1.v9 hd bJ,hr x [] d [] H1 M1 Q2 Q hd (by rw[ah]) bJ q1.2 (k.mono t1)]]
def dW{r2:D->List D->Mem->bK->Prop}(pa:PlainAttrs T)(slot:Slot T name id)(HZ:Wa id)(hm:TC X id r2)(ho:WE X o to)(ha:WA X (e::es) t)(gM:S4 X o name:=by rfl)(gL:Wh X cR e es:=by rfl)(gJ:SU apos cR:=by rfl)(hs:kB X e es:=by rfl)(hV:uX X cR es:=by rfl):WE X (.Call (.Attribute o name apos) (e::es) [] cR) (Uq T r2 to t):=by replace ho:=ho.h;replace ha:=ha.h;refine#[?_];let#[r,h1,hr]:=hm;refine bA (Oh pa slot HZ h1 ho ha gM gL gJ hs hV) ?_;rintro σ H Q ⟨δ,M,Q2,hs,hm,q,k⟩;refine#[δ,M,_,hs,hm,q,λ x H1 d M1 hd bJ t1 q1=>#[q1.1.v9 hd bJ,δ,M1,_,hs.mono t1,bJ,q1.2,λ xs H2 ds M2 Eb kL t2 q2=>?_]];exact hr x xs d ds H2 M2 Q2 Q (sB.mono t2 d hd) Eb kL q2 (k.mono (t1.trans t2))
end
abbrev fM:=List D->Mem->bK->Prop
def cI(K:L8)(sp:fM):Sp:=λ vs H Q _=>∃ds M Q2,ay K H ds vs/\ul K H M/\sp ds M Q2/\jU K H Q2 Q
def sD(sp:fM)(t:dG):bU:=λ δ M Q=>t δ M λ ds M1=>sp ds M1 Q
abbrev cY(P:Program)(w:World)(K:L8)(mg:Str->Option ac)(base:Heap)(k:Nat)(x:Str)(ps:List Str)(sp:fM):Prop:=fI P w K mg base k x ps (cI K sp)
section
variable {p pos:Pos}{t:dG}{sp:fM}
def aN(d:cY X.prog X.w X.K X.mg X.base k x ps sp)(ha:WA X (e::es) t)(hr:cz k X.A:=by exact hr.mono (by first|decide|lia))(hg:Gl X x:=by rfl)(nh:qF x:=by decide)(he:kB X e es:=by rfl)(gR:uX X pos es:=by rfl):WE X `y (sD sp t):=by replace ha:=ha.h;refine#[?_];refine bA (Qz d hr hg ha nh he gR) ?_;rintro σ H Q ⟨δ,M,Q2,hs,hm,q,k⟩;exact#[δ,M,_,hs,hm,q,λ xs H1 ds M1 hd bJ t1 q1=>#[ds,M1,Q2,hd,bJ,q1,k.mono t1]]
end
def iQ(N:List Str)(ds:List D):cS:=ds.map some++List.replicate (-N-ds.length) none
def rK{N:List Str}{vs:List V}(h:ay K H ds vs):df K H (iQ N ds) (L2.start N vs):=by
 have hl:=-h;refine#[by unfold iQ L2.start;simp[hl],λ i d e=>?_];unfold iQ at e;by_cases hi:i< -ds
 ·rw[c7 (~~~hi),w6]at e;cases q:ds[i]? with
  |none=>rw[q]at e;cases e
  |some d'=>
   rw[q]at e;have e:d'=d:= ~~~e
   subst e;let#[v,hv,r]:=h.get q;refine#[v,?_,r];unfold L2.start;rw[c7 (by simp;lia),w6,hv];rfl
 ·rw[b7 (~~~hi),i8]at e;split at e<;>cases e
def fin2(Q:bK):bK:=λ d M'=>∃lW,q_ lW M'/\Q d lW
def au{Q:bK}(q:Q d M):fin2 Q d M:=#[M,q_.refl M,q]
def ok2{x qual:Str}{st:Stmt}{f:be}{fd:FuncData}{N ps:List Str}{k:Nat}{sp:fM}(F:jO K x qual st f fd)(S:ir N ps (aD st))(len:∀ds M Q,sp ds M Q->-ds=-ps) (eJ:∀(dF:ac)(A:Around)(outer:List Env)(s:bd)(H:Hp)(E:XK)(ds:List D)(M:Mem)(Q:bK),cz k (A.deeper (PyProof.Rows.envOfC qual (aD st) s⁻¹ f dF))->sp ds M Q->
   ∃t,QSs (qT eQ P w K mg base N qual (aD st) f dF A outer s H E).Mb (bp st) t/\t {nx:=λ _ M'=>fin2 Q .bf M',rt:=fin2 Q} (iQ N ds) M):bS P w K mg base eQ (k+1) f fd ps (cI K sp):=by
 refine F.ok S (λ vs H Q E h=>?_) (λ dF A outer s H vs Q E hr h=>?_)
 ·let#[ds,M,Q2,hd,_,hs,_]:=h;rw[-hd];exact len ds M Q2 hs
 ·let#[ds,M,Q2,hd,hm,hs,kk]:=h;let#[t,ht,q]:=eJ dF A outer s H E ds M Q2 hr hs;refine#[_,ht,iQ N ds,M,_,rK hd,hm,q,#[?_,?_,?_,?_]]
  ·exact λ σ' H' δ' M' _ eV t' ⟨lW,s,q⟩=>kk _ H' .bf lW (dh.mpr rfl) (eV.sub s) t' q
  ·exact λ v H' d M' lV eV t' ⟨lW,s,q⟩=>kk v H' d lW lV (eV.sub s) t' q
  ·exact λ σ' H' δ' M' _ eV t' q=>q
  ·exact λ σ' H' δ' M' _ eV t' q=>q
section
variable {rest:List Stmt}{t u:lO}{pos:Pos}
def FO:lO:=λ E δ M=>E.nx δ M
def Kr(t u:lO):lO:=λ E δ M=>t {E with nx:=u E} δ M
def bg:JK X [] FO:=#[GA Ln λ E σ H ⟨δ,M,D2,hs,hm,q,k⟩=>k.nx σ H δ M hs hm `o q]
def aj(h:WS X st t):JK X [st] t:=#[have h:=h.h;Lm h]
def aa(h1:WS X st t)(h2:JK X rest u):JK X (st::rest) (Kr t u):=⟨have h1:=h1.h;have h2:=h2.h;GA (Gz h1 h2) λ E σ H ⟨δ,M,D2,hs,hm,q,k⟩=>by
 refine#[δ,M,_,hs,hm,q,#[λ σ' H' δ' M' fT eV t' q'=>?_,k.rt,k.bk,k.ct]];exact#[δ',M',D2,fT,eV,q',k.mono t']⟩
def An(te:bU):lO:=λ E δ M=>te δ M λ _ M1=>E.nx δ M1
def bL(he:WE X e te)(hs:swapsWith e none pos.line X.env=pure false:=by rfl):WS X (.Expr e pos) (An te):=⟨have he:=he.h;lb (Lo he hs) λ E σ H ⟨δ,M,D2,hs,hm,q,k⟩=>
 #[δ,M,_,hs,hm,q,λ x H1 d M1 hd bJ t1 q1=>k.nx σ H1 δ M1 (hs.mono t1) bJ t1 q1]⟩
def Uh(te:bU):lO:=λ E δ M=>te δ M E.rt
def aO(he:WE X e te):WS X (.Return (some e) pos) (Uh te):=#[have he:=he.h;lb (Qk he) λ E σ H ⟨δ,M,D2,hs,hm,q,k⟩=>#[δ,M,_,hs,hm,q,k.rt]]
def Pw(c:gS)(t u:lO):lO:=λ E δ M=>c δ M λ b M1=>if b=true then t E δ M1 else u E δ M1
def cG{c:Expr}{a b:List Stmt}{tc:gS}(hc:WT X c tc)(ha:JK X a t)(hb:JK X b u):WS X (.If c a b pos) (Pw tc t u):=⟨have hc:=hc.h;have ha:=ha.h;have hb:=hb.h;lb (UK hc ha hb) λ E σ H ⟨δ,M,D2,hs,hm,q,k⟩=>by
 refine#[δ,M,_,hs,hm,q,λ b H1 M1 bJ t1 q1=>?_];cases b with
 |true=>rw[L1 rfl]at q1 ⊢;exact#[δ,M1,D2,hs.mono t1,bJ,q1,k.mono t1]
 |false=>
  rw[L7 o8]at q1 ⊢;exact#[δ,M1,D2,hs.mono t1,bJ,q1,k.mono t1]⟩
abbrev jZ:=D->cS->Mem->(cS->Mem->Prop)->Prop
abbrev uR:=List D->cS->Mem->(cS->Mem->Prop)->Prop
def NU(K:L8)(t:jZ):TG:=λ v σ H Q=>∃d δ M Q2,sB K H d v/\df K H δ σ/\ul K H M/\t d δ M Q2/\mT K H Q2 Q
def Xr(K:L8)(t:uR):Cu:=λ vs σ H Q=>∃ds δ M Q2,ay K H ds vs/\df K H δ σ/\ul K H M/\t ds δ M Q2/\mT K H Q2 Q
abbrev QG(X:Cx)(tg:Expr)(t:jZ):Prop:=PG X tg (NU X.K t)
structure WG(X:Cx)(e:Expr)(t:jZ):Prop where
 h:QG X e t
abbrev QGs(X:Cx)(tg:List Expr)(t:uR):Prop:=SR X tg (Xr X.K t)
structure Xf(X:Cx)(e:List Expr)(t:uR):Prop where
 h:QGs X e t
def GI{g g':TG}(h:PG X tg g)(k:∀v σ H Q,g' v σ H Q->g v σ H Q):PG X tg g':=λ im s σ H v u Q I r q=>h im s σ H v u Q I r (k v σ H Q q)
def GG{tg:List Expr}{g g':Cu}(h:SR X tg g)(k:∀v σ H Q,g' v σ H Q->g v σ H Q):SR X tg g':=λ im s σ H v u Q I r q=>h im s σ H v u Q I r (k v σ H Q q)
def lv(i:Nat):jZ:=λ d δ M Q=>Q (δ.set i (some d)) M
def mn:∀v σ H Q,NU K (lv i) v σ H Q->cX i v σ H Q:=λ v σ H Q ⟨d,δ,M,Q2,hd,hs,hm,q,k⟩=>k _ H _ M (hs.set hd) hm `o q
def bE(i:Nat)(hN:X.N.Nodup:=by exact nd)(hi:X.N[i]?>x:=by rfl)(hx:Loc X.env.scope x:=by subst_vars)(hf:JO X x:=by ac_rfl):WG X (.Name x pos) (lv i):=#[GI (hG hN hi hx hf) mn]
def ur:uR:=λ ds δ M Q=>match ds with
 |[]=>Q δ M
 |_=>False
def du(t:jZ)(u:uR):uR:=λ ds δ M Q=>match ds with
 |d::r=>t d δ M λ δ' M'=>u r δ' M' Q
 |_=>False
def kM:Xf X [] ur:=⟨GG tN λ v σ H Q ⟨ds,δ,M,Q2,hd,hs,hm,q,k⟩=>by
 cases ds with
 |nil=>exact#[ah.mp hd,k _ H _ M hs hm `o q]
 |cons d r=>exact q.elim⟩
def dq{t:jZ}{u:uR}(h1:WG X e t)(h2:Xf X es u)(hs:(assignEach (e::es) X.env).map (·.2)=assign e X.env::(assignEach es X.env).map (·.2):=by rfl):Xf X (e::es) (du t u):=⟨have h1:=h1.h;have h2:=h2.h;GG (gB h1 h2 hs) λ v σ H Q ⟨ds,δ,M,Q2,hd,hs,hm,q,k⟩=>by
 cases ds with
 |nil=>exact q.elim
 |cons d r=>
  let#[x,xs,rfl,hx,YF]:=ae.mp hd;refine#[x,xs,rfl,d,δ,M,_,hx,hs,hm,q,λ σ' H' δ' M' fT eV t' q'=>?_];exact#[r,δ',M',Q2,ay.mono t' r YF,fT,eV,q',k.mono t']⟩
def uq(n:Nat)(t:uR):jZ:=λ d δ M Q=>match d with
 | .tup ds=>-ds=n/\t ds δ M Q
 |_=>False
def oD{t:uR}(h:Xf X es t)(hc:X.calm=true:=by rfl)(hn:(assignEach es X.env).length=n:=by rfl)(DY:(assignEach es X.env).findIdx? (·.1)=none:=by rfl):WG X (.Tuple es k pos) (uq n t):=⟨have h:=h.h;GI (yq hc h hn DY) λ v σ H Q ⟨d,δ,M,Q2,hd,hs,hm,q,k⟩=>by
 cases d with
 |tup ds=>let#[p,xs,rfl,hq,hx]:=aM.mp hd;exact#[p,xs,rfl,hq,by rw[-hx];exact q.1,ds,δ,M,Q2,hx,hs,hm,q.2,k]
 |_=>exact q.elim⟩
abbrev mQ:=D->D->D->Mem->(Mem->Prop)->Prop
def Wj(K:L8)(H:Hp)(N2:Mem->Prop)(N:Hp->Prop):Prop:=∀H' M',ul K H' M'->ao H H'->N2 M'->N H'
def SM(K:L8)(r:Ex)(r2:mQ):Prop:=∀o i v d j e H M Q2 Q,sB K H d o->sB K H j i->sB K H e v->ul K H M->r2 d j e M Q2->Wj K H Q2 Q->r o i v H Q
def NM(X:Cx)(r2:mQ):Prop:=∃r,uS X r/\SM X.K r r2
def hSub(to ti:bU)(t:mQ):jZ:=λ e δ M Q=>to δ M λ d M1=>ti δ M1 λ j M2=>t d j e M2 λ M3=>Q δ M3
def gU{o i:Expr}{to ti:bU}{t:mQ}(ho:WE X o to)(hi:WE X i ti)(hs:NM X t)(ha:∀v,assign (.Subscript o i pos) X.env v=(do
   let ov <- holding [v] (eval o X.env)
   let iv <- holding [v,ov] (eval i X.env)
   standAt pos
   holding [v,ov,iv] (setItem ov iv v)
   release [v,ov,iv] []):=by intro _;rfl):WG X (.Subscript o i pos) (hSub to ti t):=by
 replace ho:=ho.h;replace hi:=hi.h;refine#[?_];let#[r,h1,hr]:=hs;refine GI (Qs ho hi h1 ha) ?_;rintro v σ H Q ⟨e,δ,M,Q2,hd,hs,hm,q,k⟩;refine#[δ,M,_,hs,hm,q,λ x H1 d M1 hx bJ t1 q1=>?_];refine#[δ,M1,_,hs.mono t1,bJ,q1,λ y H2 j M2 hy kL t2 q2=>?_];exact hr x y v d j e H2 M2 _ _ (sB.mono t2 d hx) hy (sB.mono (t1.trans t2) e hd) kL q2 λ H3 M3 MT t3 q3=>k σ H3 δ M3 (hs.mono (t1.trans (t2.trans t3))) MT (t1.trans (t2.trans t3)) q3
def FR(te:bU)(g:jZ):lO:=λ E δ M=>te δ M λ d M1=>g d δ M1 E.nx
def xq{g:TG}{g2:jZ}(hg:∀v σ H Q,NU K g2 v σ H Q->g v σ H Q):∀E σ H,Xq K (FR te g2) E σ H->Ka (up K te) g E σ H:=by rintro E σ H ⟨δ,M,D2,hs,hm,q,k⟩;exact#[δ,M,_,hs,hm,q,λ x H1 d M1 hd bJ t1 q1=>hg x σ H1 _ #[d,δ,M1,_,hd,hs.mono t1,bJ,q1,k.nx.mono t1]]
def fh{g:jZ}(he:WE X e te)(hg:WG X tg g)(hs:swapsWithSole [tg] e pos.line X.env=pure false:=by rfl)(hw:swappedStores [tg] e X.env=pure none:=by rfl)(h1:(assignEach [tg] X.env).map (·.2)=[assign tg X.env]:=by rfl):WS X (.Assign [tg] e pos) (FR te g):=#[have he:=he.h;have hg:=hg.h;lb (Qn he hg hs hw h1) (xq λ _ _ _ _ h=>h)]
def av(i:Nat)(he:WE X e te)(hN:X.N.Nodup:=by exact nd)(hi:X.N[i]?>x:=by rfl)(hx:Loc X.env.scope x:=by subst_vars)(hs:swapsWith e (some (.Name x pos')) pos.line X.env=pure false:=by rfl)(hf:JO X x:=by ac_rfl):WS X (.Assign [.Name x pos'] e pos) (FR te (lv i)):=#[have he:=he.h;lb (Qj hN hi hx he hs hf) (xq mn)]
end
end L3
variable {g:L3.jZ}
namespace L3
open PySem.Spec L2
inductive Src where
 |fix (ds:List D)
 |at(a:be)
 |fn (f:Mem->Option (List D))
def li(s:Src)(M:Mem):Option (List D):=match s with
 | .fix ds=>some ds
 | .at a=>match M a with
  |some (.lst ds)=>some ds
  |_=>none
 | .fn f=>f M
def uT(K:L8)(H1:Hp)(J:It)(src:Src):Prop:=∀H M ds,ao H1 H->ul K H M->li src M>ds->
 (∀i,i< -ds->J.go i H)/\(∀i,i=-ds->J.stop i H)/\(∀i x H',i< -ds->J.JQ i H x H'->ao H H'/\ul K H' M/\∃d,ds[i]?>d/\sB K H' d x)
abbrev qE:=cS->Mem->(Src->Mem->Prop)->Prop
def Wq(K:L8)(t:qE):TI:=λ σ H R=>∃δ M R2,df K H δ σ/\ul K H M/\t δ M R2/\∀J H' src M',uT K H' J src->ul K H' M'->ao H H'->R2 src M'->R J H'
abbrev QI(X:Cx)(tg iter:Expr)(t:qE):Prop:=PI X tg iter (Wq X.K t)
structure WI(X:Cx)(tg e:Expr)(t:qE):Prop where
 h:QI X tg e t
def AH{t t':TI}(h:PI X tg iter t)(k:∀σ H R,t' σ H R->t σ H R):PI X tg iter t':=λ im s σ H R I q=>h im s σ H R I (k σ H R q)
def l_(z:Str):List D:=z.cps.toList.map λ c=>D.str #[([c].toArray)]
def cF(lo:Int)(n:Nat):List D:=(List.range n).map λ i=>D.int (lo+(i:Nat))
def bc(lo:Int)(n:Nat):(cF lo n).length=n:=by simp[cF]
def pF(h:i<n):(cF lo n)[i]?>(.int (lo+(i:Nat))):=by simp[cF,h]
def HJ{z:Str}:uT K H1 (TH z) (.fix (l_ z)):=λ H M ds t hm e=>by
 cases e;have hl:(l_ z).length=z.cps.size:=by simp[l_]
 refine#[λ i hi=>by rw[hl]at hi;exact hi,λ i hi=>by rw[hl]at hi;exact hi,λ i x H' hi y=>?_];let#[e,c,hc,rfl]:=y;subst e;refine#[ao.refl _,hm,.str #[([c].toArray)],?_,aW.mpr rfl];simp[l_,hc]
def HI(h:gu K H1 a xs)(hd:ay K H1 ds xs):uT K H1 (Z7 K a) (.fix ds):=λ H M es t hm e=>by cases e;have hq:=Fm t h;have hx:=ay.mono t ds hd;have hl:=-hx;refine#[λ i hi=>#[xs,xs[i]'(),hq,by simp[hl,hi]],λ i hi=>#[xs,hq,()],λ i x H' hi y=>?_];let#[e,y]:=y;let#[d,h1,h2]:=hx.Ed (y xs hq);subst e;exact#[ao.refl _,hm,d,h1,h2]
def HK:uT K H1 (Xn K a) (.at a):=λ H M ds t hm e=>by
 have e:(match M a with|some (.lst ds)=>some ds|_=>none)>ds:=e;cases q:M a with
 |none=>rw[q]at e;cases e
 |some o=>
  cases o with
  |bV b kvs=>rw[q]at e;cases e
  |dE x=>rw[q]at e;cases e
  |lst es=>rw[q]at e;have e:es=ds:=B7 e;subst e;let#[xs,hx,hd]:=hm a _ q;have hq:fK K H a xs:=fK.of hx;have hl:=-hd;refine#[λ i hi=>#[xs,xs[i]'(),hq,by simp[hl,hi]],λ i hi=>#[xs,hq,()],λ i x H' hi y=>?_];let#[e,y]:=y;let#[d,h1,h2]:=hd.Ed (y xs hq);subst e;exact#[ao.refl _,hm,d,h1,h2]
def My(h:JN K H1 a xs)(hd:ay K H1 ds xs):uT K H1 (Xn K a) (.fix ds):=λ H M es t hm e=>by cases e;have hq:=(Iz t h).sq;have hx:=ay.mono t ds hd;have hl:=-hx;refine#[λ i hi=>#[xs,xs[i]'(),hq,by simp[hl,hi]],λ i hi=>#[xs,hq,()],λ i x H' hi y=>?_];let#[e,y]:=y;let#[d,h1,h2]:=hx.Ed (y xs hq);subst e;exact#[ao.refl _,hm,d,h1,h2]
def yH:uT K H1 (Xm lo n) (.fix (cF lo n)):=λ H M ds t hm e=>by cases e;rw[bc];refine#[λ i hi=>hi,λ i hi=>J0 hi.symm,λ i x H' hi y=>?_];let#[e,rfl]:=y;subst e;exact#[ao.refl _,hm,_,pF hi,aq.mpr rfl]
section
variable {l:Expr}{tl:bU}{a b:Expr}{p pos:Pos}
def Vh(tl:bU):qE:=λ δ M R=>tl δ M λ d M1=>match d with
 | .str z=>R (.fix (l_ z)) M1
 | .tup ds=>R (.fix ds) M1
 | .fl ds=>R (.fix ds) M1
 | .ref a=>match M1 a with
  |some (.lst _)=>R (.at a) M1
  |_=>False
 |_=>False
def ck(hl:WE X l tl):WI X tg l (Vh tl):=⟨have hl:=hl.h;AH (Qr hl) λ σ H R ⟨δ,M,R2,hs,hm,q,k⟩=>by
 refine#[δ,M,_,hs,hm,q,λ x H1 d M1 hd bJ t1 q1=>?_];cases d with
 |str z=>cases(aW.mp hd);exact k _ H1 _ M1 HJ bJ t1 q1
 |tup ds=>let#[p,xs,rfl,hq,hx]:=aM.mp hd;exact .inr #[xs,hq,k _ H1 _ M1 (HI hq hx) bJ t1 q1]
 |fl ds=>let#[p,xs,rfl,hq,hx]:=ko.mp hd;exact .inl #[xs,hq.sq,k _ H1 _ M1 (My hq hx) bJ t1 q1]
 |ref a=>
  cases(az.mp hd);have q1:(match M1 a with|some (.lst _)=>R2 (.at a) M1|_=>False):=q1;cases e:M1 a with
  |none=>rw[e]at q1;exact q1.elim
  |some o=>
   cases o with
   |bV b kvs=>rw[e]at q1;exact q1.elim
   |dE x=>rw[e]at q1;exact q1.elim
   |lst es=>rw[e]at q1;let#[xs,hx,_]:=bJ a _ e;exact .inl #[xs,fK.of hx,k _ H1 _ M1 HK bJ t1 q1]
 |_=>exact q1.elim⟩
def Z8(j:Int):Prop:= -(2^62)<=j/\j<2^62
def cw{j:Int}(h0: -1000000000<=j)(h1:j<=1000000000):Z8 j:=by
 constructor
 ·exact Int.le_trans `c h0
 ·exact u6 h1 `c
def Ov(ta:dG):qE:=λ δ M R=>ta δ M λ ds M1=>match ds with
 |[.int j]=>Z8 j/\R (.fix (cF 0 j.toNat)) M1
 |_=>False
def aV(hm:X.mg "range"=none)(ha:WA X [a] ta)(hg:Gl X "range":=by rfl)(hs:starEach [a] X.env=[(false,eval a X.env)]:=by rfl):WI X tg (.Call (.Name "range" p) [a] [] pos) (Ov ta):=⟨have ha:=ha.h;AH (DB hg hm ha hs) λ σ H R ⟨δ,M,R2,hs,hm,q,k⟩=>by
 refine#[δ,M,_,hs,hm,q,λ xs H1 ds M1 hd bJ t1 q1=>?_];cases ds with
 |nil=>exact q1.elim
 |cons d r=>
  cases r with
  |cons d2 r2=>cases d<;>exact q1.elim
  |nil=>
   cases d with
   |int j=>let#[x,r,rfl,hx,hr]:=ae.mp hd;cases(ah.mp hr);cases(aq.mp hx);let#[#[b1,b2],q1]:=q1;exact#[j,rfl,b1,b2,k _ H1 _ M1 yH bJ t1 q1]
   |_=>exact q1.elim⟩
end
end L3
variable {R:L3.Src->L3.Mem->Prop}{wi:L3.qE}
namespace L3
open PySem.Spec L2
def Uk(wi:qE)(g:jZ)(tb:lO):lO:=λ E δ M=>wi δ M λ src M1=>∃(B:Nat)(W:Nat->cS->Mem->Prop),W 0 δ M1/\∀i δ M,W i δ M->i<=B/\match li src M with
 |none=>False
 |some ds=>match ds[i]? with
  |none=>i=-ds/\E.nx δ M
  |some d=>g d δ M λ δ2 M2=>tb {E with nx:=W (i+1),ct:=W (i+1),bk:=E.nx} δ2 M2
section
variable {tb:lO}{pos:Pos}
def dS(hi:WI X tg iter wi)(hg:WG X tg g)(hb:JK X body tb)(hp:Xk X:=by first|exact PassesOwn.never|exact IV)(hc:X.calm=true:=by rfl)(hs:OX X iter:=by intro _;rfl):WS X (.For tg iter body [] pos) (Uk wi g tb):=⟨have hi:=hi.h;have hg:=hg.h;have hb:=hb.h;lb (Ql hp hc hi hg hb hs) λ E σ H ⟨δ,M,D2,hs,hm,q,k⟩=>by
 refine#[δ,M,_,hs,hm,q,λ J H1 src M1 ok bJ t1 q1=>?_];let#[B,W,w0,turn]:=q1;refine#[λ i m σ' H'=>m=B+1-i/\∃δ' M',df X.K H' δ' σ'/\ul X.K H' M'/\ao H1 H'/\W i δ' M',#[B+1,rfl,δ,M1,hs.mono t1,bJ,ao.refl _,w0],?_];rintro i m σ' H' ⟨rfl,δ',M',fT,eV,t',w'⟩;let#[hB,h]:=turn i δ' M' w';cases ei:li src M' with
 |none=>rw[ei]at h;exact h.elim
 |some ds=>
  rw[ei]at h;let#[go,stop,JQ]:=ok H' M' ds t' eV ei;cases ed:ds[i]? with
  |none=>simp only[ed]at h;exact .inl #[stop i h.1,k.nx σ' H' δ' M' fT eV (t1.trans t') h.2]
  |some d=>
   simp only[ed]at h;have JD:i< -ds:=(g9.mp ed).1;refine .inr #[go i JD,λ σ2 H2=>∃δ2 M2,df X.K H2 δ2 σ2/\ul X.K H2 M2/\ao H1 H2/\W (i+1) δ2 M2,λ σ2 H2 ⟨δ2,M2,a,b,c,w2⟩=>#[B+1-(i+1),(),rfl,δ2,M2,a,b,c,w2],λ x H2 y=>?_];let#[t2,kL,d',e',lV]:=JQ i x H2 JD y;rw[ed]at e';cases e';refine#[d,δ',M',_,lV,fT.mono t2,kL,h,λ σ3 H3 δ3 M3 WU MT t3 q3=>?_];refine#[δ3,M3,_,WU,MT,q3,#[?_,?_,?_,?_]]
   ·exact λ σ4 H4 δ4 M4 a b c w4=>#[δ4,M4,a,b,t'.trans (t2.trans (t3.trans c)),w4]
   ·exact k.rt.mono (t1.trans (t'.trans (t2.trans t3)))
   ·exact k.nx.mono (t1.trans (t'.trans (t2.trans t3)))
   ·exact λ σ4 H4 δ4 M4 a b c w4=>#[δ4,M4,a,b,t'.trans (t2.trans (t3.trans c)),w4]⟩
end
def FN(c:gS)(tb:lO):lO:=λ E δ M=>∃W:Nat->cS->Mem->Prop,(∃m,W m δ M)/\∀m δ M,W m δ M->c δ M λ b M1=>
 if b=true then ∃N:cS->Mem->Prop,(∀δ' M',N δ' M'->∃m',m'<m/\W m' δ' M')/\tb {E with nx:=N,ct:=N,bk:=E.nx} δ M1 else E.nx δ M1
section
variable {c:Expr}{tc:gS}{tb:lO}{pos:Pos}
def eD(hc:WT X c tc)(hb:JK X body tb)(hp:Xk X:=by first|exact PassesOwn.never|exact IV):WS X (.While c body [] pos) (FN tc tb):=⟨have hc:=hc.h;have hb:=hb.h;lb (GB hp hc hb) λ E σ H ⟨δ,M,D2,hs,hm,q,k⟩=>by
 let#[W,#[m0,w0],turn]:=q;refine#[λ m σ' H'=>∃δ' M',df X.K H' δ' σ'/\ul X.K H' M'/\ao H H'/\W m δ' M',#[m0,δ,M,hs,hm,ao.refl _,w0],?_];rintro m σ' H' ⟨δ',M',fT,eV,t',w'⟩;refine#[δ',M',_,fT,eV,turn m δ' M' w',λ b H1 M1 bJ t1 q1=>?_];cases b with
 |false=>simp only[p5,K7]at q1;exact k.nx σ' H1 δ' M1 (fT.mono t1) bJ (t'.trans t1) q1
 |true=>
  simp only[if_true]at q1;let#[N,hN,q1]:=q1;refine#[λ σ2 H2=>∃δ2 M2,df X.K H2 δ2 σ2/\ul X.K H2 M2/\ao H H2/\N δ2 M2,λ σ2 H2 ⟨δ2,M2,a,b,c,n2⟩=>?_,?_]
  ·let#[m',eV,w2]:=hN δ2 M2 n2;exact#[m',eV,δ2,M2,a,b,c,w2]
  ·refine#[δ',M1,_,fT.mono t1,bJ,q1,#[?_,?_,?_,?_]]
   ·exact λ σ4 H4 δ4 M4 a b c w4=>#[δ4,M4,a,b,t'.trans (t1.trans c),w4]
   ·exact k.rt.mono (t'.trans t1)
   ·exact k.nx.mono (t'.trans t1)
   ·exact λ σ4 H4 δ4 M4 a b c w4=>#[δ4,M4,a,b,t'.trans (t1.trans c),w4]⟩
end
def kr(n:Nat)(fr:List Nat)(δ:cS):cS:=List.replicate n none++fr.map (λ j=>δ.getD j none)
def NF{σ:L2.St}(h:df K H δ σ)(n:Nat)(fr:List Nat):df K H (kr n fr δ) (fX n fr σ):=by
 refine#[by simp[kr,fX],λ i d e=>?_];unfold kr at e;by_cases hi:i<n
 ·rw[c7 (~~~hi),i8,L1 hi]at e;cases e
 ·rw[b7 (~~~hi),k5,w6]at e;cases ej:fr[i-n]? with
  |none=>rw[ej]at e;cases e
  |some j=>
   rw[ej]at e;have e:δ.getD j none>d:=B7 e;have hj:j < -δ:=by refine z9 λ z=>?_;rw[b8,k7 z]at e;cases e
   have e':δ[j]?>(some d):=by rw[b8,i5 hj]at e;rw[i5 hj];exact K8 some e
   let#[v,hv,r]:=h.get j d e';refine#[v,?_,r];unfold fX;rw[b7 (~~~hi),k5,w6,ej];simp[b8,hv]
def oZ(wi:qE)(g:jZ)(tt:gS)(te:bU)(n:Nat)(fr:List Nat):cS->Mem->(List D->Mem->Prop)->Prop:=λ δ M Q=>wi δ M λ src M1=>∃(B:Nat)(W:Nat->List D->Mem->Prop),W 0 [] M1/\∀i jp M,W i jp M->i<=B/\-jp<=sizeLine/\match li src M with
 |none=>False
 |some ds=>match ds[i]? with
  |none=>i=-ds/\Q jp M
  |some d=>g d (kr n fr δ) M λ δ2 M2=>tt δ2 M2 λ b M3=>if b=true then te δ2 M3 λ y M4=>W (i+1) (jp++[y]) M4 else W (i+1) jp M3
def mH{σ:L2.St}{Q:V->Hp->Prop}{gv:TG}(hgl:∀v σ H Q,NU K g v σ H Q->gv v σ H Q)(hs:df K H δ σ)(hm:ul K H M)(q:oZ wi g tt te n fr δ M Qe)(k:∀jp xs H' M' p,ay K H' jp xs->ul K H' M'->ao H H'->-jp<=sizeLine->H' p=none->Qe jp M'->Q `j (u8 H' p `J)):vw (Wq K wi) gv (Jx K tt) (up K te) n fr σ H Q:=by
 refine#[δ,M,_,hs,hm,q,λ J H1 src M1 ok bJ t1 q1=>?_];let#[B,W,w0,turn]:=q1;refine#[λ i m xs H'=>m=B+1-i/\∃jp M',ay K H' jp xs/\ul K H' M'/\ao H1 H'/\W i jp M',#[B+1,rfl,[],M1,by rw[ah],bJ,ao.refl _,w0],?_];rintro i m xs H' ⟨rfl,jp,M',lV,eV,t',w'⟩;let#[hB,hz,h]:=turn i jp M' w';refine#[by rw[-lV];exact hz,?_];cases ei:li src M' with
 |none=>rw[ei]at h;exact h.elim
 |some ds=>
  rw[ei]at h;let#[go,stop,JQ]:=ok H' M' ds t' eV ei;cases ed:ds[i]? with
  |none=>simp only[ed]at h;exact .inl #[stop i h.1,λ p hp=>k jp xs H' M' p lV eV (t1.trans t') hz hp h.2]
  |some d=>
   simp only[ed]at h;have JD:i< -ds:=(g9.mp ed).1;refine .inr #[go i JD,λ ys H2=>∃NJ M2,ay K H2 NJ ys/\ul K H2 M2/\ao H1 H2/\W (i+1) NJ M2,λ ys H2 ⟨NJ,M2,a,b,c,w2⟩=>#[B+1-(i+1),(),rfl,NJ,M2,a,b,c,w2],λ x H2 y=>?_];let#[t2,kL,d',e',u_]:=JQ i x H2 JD y;rw[ed]at e';cases e';refine hgl _ _ _ _ #[d,kr n fr δ,M',_,u_,NF (hs.mono (t1.trans (t'.trans t2))) n fr,kL,h,λ σ3 H3 δ3 M3 WU MT t3 q3=>?_];refine#[δ3,M3,_,WU,MT,q3,λ b H4 M4 hm4 t4 q4=>?_];cases b with
   |false=>rw[L7 o8]at q4 ⊢;exact#[jp,M4,ay.mono (t2.trans (t3.trans t4)) jp lV,hm4,t'.trans (t2.trans (t3.trans t4)),q4]
   |true=>rw[L1 rfl]at q4 ⊢;exact#[δ3,M4,_,WU.mono t4,hm4,q4,λ yv H5 y5 M5 hy5 hm5 t5 q5=>#[jp++[y5],M5,(ay.mono (t2.trans (t3.trans (t4.trans t5))) jp lV).append (ay.one hy5),hm5,t'.trans (t2.trans (t3.trans (t4.trans t5))),q5]]
section
variable {pos:Pos}
abbrev QIf(X:Cx)(ifs:List Expr)(t:gS):Prop:=TB X ifs (Jx X.K t)
structure Tx(X:Cx)(e:List Expr)(t:gS):Prop where
 h:QIf X e t
def x':gS:=λ _ M Q=>Q true M
def aQ:Tx X [] x':=⟨λ im s σ H Q I h=>Lw im s σ H Q I (by
 let#[δ,M,Q2,hs,hm,q,k]:=h;exact k _ _ _ hm `o q)⟩
def jz{c:Expr}{t:gS}(h:WT X c t):Tx X [c] t:=#[have h:=h.h;Lv h]
def TgC(X:Cx)(scope:Scope)(cA:List Str)(fr:List Nat)(tg:Expr)(g2:jZ):Prop:=
 ∃g:TG,(∀cl C fp s H,PG `l tg g)/\kC (-cA) g/\∀v σ H Q,NU X.K g2 v σ H Q->g v σ H Q
structure NL(X:Cx)(scope:Scope)(cA:List Str)(fr:List Nat)(tg:Expr)(g:jZ):Prop where
 h:TgC X scope cA fr tg g
def ER{ps:Pos}(h:∀cl C fp s H,PG `l (.Name x ps) (cX i))(hi:i< -cA):NL X scope cA fr (.Name x ps) (lv i):=#[#[_,h,jK hi,mn]]
def Jr(g:TG):Prop:=∀x σ H Q Q',(∀σ' H',Q σ' H'->Q' σ' H')->g x σ H Q->g x σ H Q'
def uU(g:Cu):Prop:=∀xs σ H Q Q',(∀σ' H',Q σ' H'->Q' σ' H')->g xs σ H Q->g xs σ H Q'
def eX:Jr (cX i):=λ x σ H Q Q' k q=>k _ _ q
def p_:uU ux:=λ xs σ H Q Q' k q=>#[q.1,k _ _ q.2]
def nX{t:TG}{u:Cu}(ht:Jr t)(hu:uU u):uU (dR t u):=λ xs σ H Q Q' k ⟨v,r,e,q⟩=>#[v,r,e,ht v σ H _ _ (λ σ' H' q'=>hu r σ' H' _ _ k q') q]
def lI{t:TG}{u:Cu}(h:kC n t)(k:ow n u)(ht:Jr t)(hu:uU u):ow n (dR t u):=λ xs σ H Q ⟨v,r,e,q⟩=>by refine#[v,r,e,ht v σ H _ _ (λ σ' H' ⟨q',l',k'⟩=>?_) (h v σ H _ q)];refine hu r σ' H' _ _ (λ σ2 H2 ⟨q2,l2,k2⟩=>#[q2,l2.trans l',λ j hj=>(k2 j hj).trans (k' j hj)]) (k r σ' H' _ q')
def Iv{t:Cu}(h:ow m t):kC m (wJ K n t):=λ x σ H Q ⟨a,xs,e,hq,hl,q⟩=>#[a,xs,e,hq,hl,h xs σ H _ q]
def De:∀v σ H Q,NU K (uq 2 (du (lv i) (du (lv j) ur))) v σ H Q->wJ K 2 (dR (cX i) (dR (cX j) ux)) v σ H Q:=λ v σ H Q ⟨d,δ,M,Q2,hd,hs,hm,q,k⟩=>by
 cases d with
 |tup ds=>
  let#[p,xs,rfl,hq,hx]:=aM.mp hd;let#[hl,q]:=q
  match ds,hl,hx,q with
  |[a,b],hl,hx,q=>let#[x,r,rfl,ha,hx]:=ae.mp hx;let#[y,r,rfl,hb,hx]:=ae.mp hx;cases(ah.mp hx);exact#[p,[x,y],rfl,hq,rfl,x,[y],rfl,y,[],rfl,rfl,k _ H _ M ((hs.set ha).set hb) hm `o q]
 |_=>exact q.elim
def EO{y:Str}{px py pt:Pos}(h:∀cl C fp s H,PG `l (.Tuple [.Name x px,.Name y py] k pt) (wJ X.K 2 (dR (cX i) (dR (cX j) ux))))(hi:i< -cA)(hj:j< -cA):NL X scope cA fr (.Tuple [.Name x px,.Name y py] k pt) (uq 2 (du (lv i) (du (lv j) ur))):=#[#[_,h,Iv (lI (jK hi) (lI (jK hj) Iw eX p_) eX (nX eX p_)),De]]
def SW(X:Cx)(scope:Scope)(cA:List Str)(fr:List Nat)(tg iter:Expr)(ifs:List Expr)(elt:Expr)(wi:qE)(g:jZ)(tt:gS)(te:bU):Prop:=
 iG X scope fr/\X.calm=true/\(∀e s,X.xe e s->False)/\QI X tg iter wi/\TgC X scope cA fr tg g/\(∀cl C fp s H,QIf `l ifs tt)/\(∀cl C fp s H,QE `l elt te)
structure eZ(X:Cx)(scope:Scope)(cA:List Str)(fr:List Nat)(tg iter:Expr)(ifs:List Expr)(elt:Expr)(wi:qE)(g:jZ)(tt:gS)(te:bU):Prop where
 b:iG X scope fr
 calm:X.calm=true
 xe:∀e s,X.xe e s->False
 it:WI X tg iter wi
 Pc:NL X scope cA fr tg g
 ifs:∀cl C fp s H,Tx `l ifs tt
 elt:∀cl C fp s H,WE `l elt te
theorem eZ.h(C:eZ X scope cA fr tg iter ifs elt wi g tt te):SW X scope cA fr tg iter ifs elt wi g tt te:=
 #[C.b,C.calm,C.xe,C.it.h,C.Pc.h,λ cl D fp s H=>(C.ifs cl D fp s H).h,λ cl D fp s H=>(C.elt cl D fp s H).h]
def FQ(wi:qE)(g:jZ)(tt:gS)(te:bU)(n:Nat)(fr:List Nat):bU:=λ δ M Q=>oZ wi g tt te n fr δ M λ ds M'=>∀p,M' p=none->Q `j (af M' p `B)
def f_(C:eZ X scope cA fr tg iter ifs elt wi g tt te)(hs:OX X iter:=by intro _;rfl):WE X `D (FQ wi g tt te (-cA) fr):=by replace C:=C.h;refine#[?_];let#[B,hc,hE,hi,#[gv,hg,gk,gl],ht,he]:=C;refine bA (tO (tt:=Jx X.K tt) (te:=up X.K te) B hc hE hi hg gk ht he hs) ?_;rintro σ H Q ⟨δ,M,Q2,hs,hm,q,k⟩;exact mH gl hs hm q λ jp xs H' M' p hd eV t' hz hp q'=>k _ _ `j _ (az.mpr rfl) (dM hp hd eV) (t'.trans `Q) (q' p (eV.free hp))
def cC{y:Str}{py Fn:Pos}(i:Nat)(C:eZ X scope cA fr tg iter ifs elt wi g tt te)(hN:X.N.Nodup:=by exact nd)(Ze:X.N[i]?>y:=by rfl)(hy:Loc X.env.scope y:=by subst_vars)(YO:swapsWith `D (some (.Name y py)) Fn.line X.env=pure true:=by rfl)(hf:JO X y:=by ac_rfl)(hs:OX X iter:=by intro _;rfl):WS X (.Assign [.Name y py] `D Fn) (FR (FQ wi g tt te (-cA) fr) (lv i)):=by replace C:=C.h;refine#[?_];let#[B,hc,hE,hi,#[gv,hg,gk,gl],ht,he]:=C;refine lb (yl (tt:=Jx X.K tt) (te:=up X.K te) hN Ze hy B hc hE hi hg gk ht he YO hf hs) ?_;rintro E σ H ⟨δ,M,D2,hs,hm,q,k⟩;exact mH gl hs hm q λ jp xs H' M' p hd eV t' hz hp q'=>k.nx _ _ _ _ (((hs.mono t').mono `Q).set (az.mpr rfl)) (dM hp hd eV) (t'.trans `Q) (q' p (eV.free hp))
def Kq(r3:List D->Mem->bK->Prop)(wi:qE)(g:jZ)(tt:gS)(te:bU)(n:Nat)(fr:List Nat):bU:=λ δ M Q=>oZ wi g tt te n fr δ M λ ds M'=>r3 ds M' Q
def xt(r2:List D->Mem->bK->Prop)(r3:List D->Mem->bK->Prop):Prop:=∀ds M p Q,M p=none->-ds<=sizeLine->r3 ds M Q->r2 [.ref p] (af M p `B) (fin2 Q)
def IC{Q2:bK}{Q:VK}(k:jU K H Q2 Q):jU K H (fin2 Q2) Q:=λ v H' d M' hd hm t ⟨lW,s,q⟩=>k v H' d lW hd (hm.sub s) t q
variable {p:Pos}{id:String}
def vq{r:List V->Hp->VK->Prop}{r3:List D->Mem->bK->Prop}{gv:TG}(gl:∀v σ H Q,NU X.K g v σ H Q->gv v σ H Q)(hr:SO X.K r r2)(h3:xt r2 r3):∀σ H Q,up X.K (Kq r3 wi g tt te (-cA) fr) σ H Q->Wu r (Fe (vw (Wq X.K wi) gv (Jx X.K tt) (up X.K te) (-cA) fr) Pf) σ H Q:=by rintro σ H Q ⟨δ,M,Q2,hs,hm,q,k⟩;show vw (Wq X.K wi) gv (Jx X.K tt) (up X.K te) (-cA) fr σ H (λ x H1=>r [x] H1 Q);refine mH gl hs hm q λ jp xs H' M' p hd eV t' hz hp q'=>?_;exact hr [.ref p] [.ref p] _ _ (fin2 Q2) Q (ay.one (az.mpr rfl)) (dM hp hd eV) (h3 jp M' p Q2 (eV.free hp) hz q') (IC (k.mono (t'.trans `Q)))
def EV{r3:List D->Mem->bK->Prop}(o:fJ X (.builtin id) r2)(h3:xt r2 r3)(hm:X.mg x=none)(C:eZ X scope cA fr tg iter ifs elt wi g tt te)(hg:Gl X x:=by rfl)(hv:bootBuiltins x>(.builtin id):=by decide+kernel)(hn:x≠"__name__":=by decide)(nh:qF x:=by decide)(hs:OX X iter:=by intro _;rfl):WE X (.Call (.Name x p) [.ListComp elt [#[tg,iter,ifs,0]] scope cR] [] pos) (Kq r3 wi g tt te (-cA) fr):=by replace C:=C.h;refine#[?_];let#[B,hc,hE,hi,#[gv,Zh,gk,gl],ht,he]:=C;let#[r,ho,hr]:=o;exact bA (vQ ho hg hm hv (lq (tO (tt:=Jx X.K tt) (te:=up X.K te) B hc hE hi Zh gk ht he hs) pI) hn nh) (vq gl hr h3)
def dU{r3:List D->Mem->bK->Prop}(o:fJ X (.type T) r2)(h3:xt r2 r3)(hm:X.mg x=none)(C:eZ X scope cA fr tg iter ifs elt wi g tt te)(hg:Gl X x:=by rfl)(hv:bootBuiltins x>(.type T):=by decide+kernel)(hn:x≠"__name__":=by decide)(nh:qF x:=by decide)(hs:OX X iter:=by intro _;rfl):WE X (.Call (.Name x p) [.ListComp elt [#[tg,iter,ifs,0]] scope cR] [] pos) (Kq r3 wi g tt te (-cA) fr):=by replace C:=C.h;refine#[?_];let#[B,hc,hE,hi,#[gv,Zh,gk,gl],ht,he]:=C;let#[r,ho,hr]:=o;exact bA (gC ho hg hm hv (lq (tO (tt:=Jx X.K tt) (te:=up X.K te) B hc hE hi Zh gk ht he hs) pI) hn nh) (vq gl hr h3)
variable {o:Expr}
end
def dI(C:Int->Int->Prop)(g:Int->Int->D):jq:=λ x y M Q=>match x,y with
 | .int i,.int j=>C i j/\Q (g i j) M
 |_,_=>False
def Nv(g:Int->Int->D):jq:=λ x y M Q=>match x,y with
 | .int i,.int j=>Q (g i j) M
 |_,_=>False
def si{f:ac->ac->Sem ac}{g:Int->Int->Int}(h:gP X f (rI C λ i j=>.int (g i j))):iO X f (dI C λ i j=>.int (g i j)):=⟨_,h,λ x y d e H M Q2 Q hd he hm q k=>by
 cases d<;>cases e<;>first
  |exact q.elim
  |(cases(aq.mp hd);cases(aq.mp he);exact#[_,_,rfl,rfl,q.1,k _ H _ M (aq.mpr rfl) hm `o q.2])⟩
def si0{f:ac->ac->Sem ac}{g:Int->Int->Int}(h:gP X f (JA λ i j=>.int (g i j))):iO X f (Nv λ i j=>.int (g i j)):=⟨_,h,λ x y d e H M Q2 Q hd he hm q k=>by
 cases d<;>cases e<;>first
  |exact q.elim
  |(cases(aq.mp hd);cases(aq.mp he);exact#[_,_,rfl,rfl,k _ H _ M (aq.mpr rfl) hm `o q])⟩
def XR{f:ac->ac->Sem ac}{g:Int->Int->Bool}(h:gP X f (JA λ i j=>.bl (g i j))):iO X f (Nv λ i j=>.bl (g i j)):=⟨_,h,λ x y d e H M Q2 Q hd he hm q k=>by
 cases d<;>cases e<;>first
  |exact q.elim
  |(cases(aq.mp hd);cases(aq.mp he);exact#[_,_,rfl,rfl,k _ H _ M `P hm `o q])⟩
def AN:iO X (binaryOp .Sub) (Nv λ i j=>.int (i-j)):=si0 QK
def lr:iO X (binaryOp .Mod) (dI (λ _ j=>0<j) λ i j=>.int (i%j)):=si QR
def yx:iO X (binaryOp .FloorDiv) (dI S0 λ i j=>.int (i/j)):=si LK
def U3:iO X (binaryOp .Pow) (dI Wm λ i j=>.int (i^j.toNat)):=si QN
def U2:iO X (binaryOp .BitXor) (Nv λ i j=>.int (Builtin.bitXor i j)):=si0 QJ
def mi:iO X (compareOp .Lt) (Nv λ i j=>.bl (decide (i<j))):=XR UT
def U6:iO X (compareOp .Gt) (Nv λ i j=>.bl (decide (j<i))):=XR UU
def Yf:iO X (compareOp .GtE) (Nv λ i j=>.bl (decide (j<=i))):=XR UW
def Nw:jq:=λ x y M Q=>match x,y with
 | .int i,.int j=>Q (.int (i+j)) M
 | .str i,.str j=>-i+-j<=sizeLine/\Q (.str (i++j)) M
 | .tup xs,.tup ys=>xs≠[]/\-xs+-ys<=sizeLine/\Q (.tup (xs++ys)) M
 | .ref a,.ref b=>match M a,M b with
  |some `J,some (.lst ys)=>-xs+-ys<=sizeLine/\∀p,M p=none->Q `j (af M p (.lst (xs++ys)))
  |_,_=>False
 |_,_=>False
def U7:iO X (binaryOp .Add) Nw:=⟨_,QZ.or (yw.or (QY.or LM)),λ x y d e H M Q2 Q hd he hm q k=>by
 cases d with
 |int i=>
  cases e with
  |int j=>cases(aq.mp hd);cases(aq.mp he);exact .inl #[_,_,rfl,rfl,k _ H _ M (aq.mpr rfl) hm `o q]
  |_=>exact q.elim
 |str i=>
  cases e with
  |str j=>cases(aW.mp hd);cases(aW.mp he);exact .inr (.inl #[_,_,rfl,rfl,q.1,k _ H _ M (aW.mpr rfl) hm `o q.2])
  |_=>exact q.elim
 |tup xs=>
  cases e with
  |tup ys=>
   let#[p,vs,rfl,hp,hx]:=aM.mp hd;let#[p2,ws,rfl,h_,hy]:=aM.mp he;let#[dQ,hlen,q]:=q;refine .inr (.inr (.inr #[p,p2,vs,ws,rfl,rfl,hp,h_,?_,by rw[-hx,-hy];exact hlen,?_]))
   ·intro z;have:=-hx;rw[z]at this;exact dQ (j0.mp this.symm)
   ·refine#[λ hz=>?_,λ hz p3 Y1=>?_]
    ·have hy0:ys=[]:=by have:=-hy;rw[hz]at this;exact j0.mp this.symm
     subst hy0;rw[B1]at q;exact k _ H _ M (aM.mpr #[p,vs,rfl,hp,hx]) hm `o q
    ·exact k _ _ _ M (jA Y1 (hx.append hy)) (hm.laid Y1) (ao.laid Y1) q
  |_=>exact q.elim
 |ref a=>
  cases e with
  |ref b=>
   cases(az.mp hd);cases(az.mp he);have q:(match M a,M b with|some `J,some (.lst ys)=>-xs+-ys<=sizeLine/\∀p,M p=none->Q2 `j (af M p (.lst (xs++ys)))|_,_=>False):=q;cases ea:M a with
   |none=>rw[ea]at q;exact q.elim
   |some oa=>
    cases eb:M b with
    |none=>rw[ea,eb]at q;cases oa<;>exact q.elim
    |some ob=>
     cases oa with
     |bV b kvs=>rw[ea,eb]at q;exact q.elim
     |dE x=>rw[ea,eb]at q;exact q.elim
     |lst xs=>
      cases ob with
      |bV b kvs=>rw[ea,eb]at q;exact q.elim
      |dE x=>rw[ea,eb]at q;exact q.elim
      |lst ys=>rw[ea,eb]at q;let#[vs,hvs,ve]:=hm a _ ea;let#[ws,OC,dws]:=hm b _ eb;refine .inr (.inr (.inl #[a,b,vs,ws,rfl,rfl,hvs,OC,by rw[-ve,-dws];exact q.1,λ p hp=>?_]));exact k _ _ `j _ (az.mpr rfl) (dM hp (ve.append dws) hm) `Q (q.2 p (hm.free hp))
  |_=>exact q.elim
 |_=>exact q.elim⟩
def Sm:jq:=λ x y M Q=>match x,y with
 | .int i,.int j=>uW i j/\Q (.int (i*j)) M
 | .str z,.int n=>MulOk z n/\Q (.str (Txt.mul z n)) M
 |_,_=>False
def U4:iO X (binaryOp .Mult) Sm:=⟨_,QQ.or yu,λ x y d e H M Q2 Q hd he hm q k=>by
 cases d<;>cases e<;>first
  |exact q.elim
  |(cases(aq.mp hd);cases(aq.mp he);exact .inl #[_,_,rfl,rfl,q.1,k _ H _ M (aq.mpr rfl) hm `o q.2])
  |(cases(aW.mp hd);cases(aq.mp he);exact .inr #[_,_,rfl,rfl,q.1,k _ H _ M (aW.mpr rfl) hm `o q.2])⟩
def sA:D->Option V
 | .bf=>some .bf
 | .bl b=>some (.bl b)
 | .int i=>some (.int i)
 | .str x=>some (.str x)
 |_=>none
def sy{x:V}(e:sA d>v)(h:sB K H d x):x=v:=by
 cases d with
 |bf=>cases e;exact dh.mp h
 |bl b=>cases e;exact aR.mp h
 |int i=>cases e;exact aq.mp h
 |str z=>cases e;exact aW.mp h
 |ty n=>exact bi e (by intro z;cases z)
 |ref a=>exact bi e (by intro z;cases z)
 |tup xs=>exact bi e (by intro z;cases z)
 |fl xs=>exact bi e (by intro z;cases z)
def qe(e:sA d>v):iA v=true:=by
 cases d with
 |bf=>cases e;rfl
 |bl b=>cases e;rfl
 |int i=>cases e;rfl
 |str z=>cases e;rfl
 |ty n=>exact bi e (by intro z;cases z)
 |ref a=>exact bi e (by intro z;cases z)
 |tup xs=>exact bi e (by intro z;cases z)
 |fl xs=>exact bi e (by intro z;cases z)
def Ss(neg:Bool):jq:=λ x y M Q=>match x,y with
 | .int i,.int j=>Q (.bl (xor neg (decide (i=j)))) M
 | .bl i,.bl j=>Q (.bl (xor neg (decide (i=j)))) M
 | .str i,.str j=>Q (.bl (xor neg (decide (i=j)))) M
 |_,_=>False
def Yg:iO X (compareOp .Eq) (Ss false):=⟨_,UX,λ x y d e H M Q2 Q hd he hm q k=>by
 cases d<;>cases e<;>first
  |exact q.elim
  |(cases(aq.mp hd);cases(aq.mp he);refine#[rfl,k _ H _ M `P hm `o ?_];have q:Q2 (.bl (xor false (decide (_=_)))) M:=q;simpa using q)
  |(cases(aR.mp hd);cases(aR.mp he);refine#[rfl,k _ H _ M `P hm `o ?_];have q:Q2 (.bl (xor false (decide (_=_)))) M:=q;simpa using q)
  |(cases(aW.mp hd);cases(aW.mp he);refine#[rfl,k _ H _ M `P hm `o ?_];have q:Q2 (.bl (xor false (decide (_=_)))) M:=q;simpa using q)⟩
def Yd:iO X (compareOp .NotEq) (Ss true):=⟨_,US,λ x y d e H M Q2 Q hd he hm q k=>by
 cases d<;>cases e<;>first
  |exact q.elim
  |(cases(aq.mp hd);cases(aq.mp he);refine#[rfl,k _ H _ M `P hm `o ?_];have q:Q2 (.bl (xor true (decide (_=_)))) M:=q;simpa using q)
  |(cases(aR.mp hd);cases(aR.mp he);refine#[rfl,k _ H _ M `P hm `o ?_];have q:Q2 (.bl (xor true (decide (_=_)))) M:=q;simpa using q)
  |(cases(aW.mp hd);cases(aW.mp he);refine#[rfl,k _ H _ M `P hm `o ?_];have q:Q2 (.bl (xor true (decide (_=_)))) M:=q;simpa using q)⟩
def Nt(neg:Bool):jq:=λ x y M Q=>match y with
 | .bf=>match x with
  | .bf=>Q (.bl (!neg)) M
  |_=>Q (.bl neg) M
 |_=>False
def IQ{x:V}(h:sB K H d x):decide (x=.bf)=match d with| .bf=>true|_=>false:=by
 cases d with
 |bf=>cases(dh.mp h);rfl
 |bl b=>cases(aR.mp h);rfl
 |int b=>cases(aq.mp h);rfl
 |str b=>cases(aW.mp h);rfl
 |ty b=>cases(za.mp h);rfl
 |ref b=>cases(az.mp h);rfl
 |tup b=>let#[p,xs,rfl,_]:=aM.mp h;rfl
 |fl b=>let#[p,xs,rfl,_]:=ko.mp h;rfl
def Hd:iO X (compareOp .Is) (Nt false):=⟨_,QU,λ x y d e H M Q2 Q hd he hm q k=>by
 cases e with
 |bf=>refine#[dh.mp he,?_];rw[IQ hd];refine k _ H _ M `P hm `o ?_;cases d<;>exact q
 |_=>exact q.elim⟩
def VZ:D->Mem->bK->Prop:=λ x M Q=>match x with
 | .int i=>Q (.int (-(i))) M
 |_=>False
def NV:UnS X (unaryOp .USub) VZ:=⟨_,O9,λ x d H M Q2 Q hd hm q k=>by
 cases d with
 |int i=>exact#[i,aq.mp hd,k _ H _ M (aq.mpr rfl) hm `o q]
 |_=>exact q.elim⟩
def sx:List D->Option (List V)
 |[]=>some []
 |d::r=>match sA d,sx r with
  |some v,some vs=>some (v::vs)
  |_,_=>none
theorem qd:∀{ds:List D} {xs vs:List V},sx ds>vs->ay K H ds xs->xs=vs/\vs.all iA=true
 |[],xs,vs,e,h=>by cases e;exact#[ah.mp h,rfl]
 |d::r,xs,vs,e,h=>by
  let#[x,ys,rfl,hx,hy]:=ae.mp h;unfold sx at e;cases e1:sA d with
  |none=>rw[e1]at e;cases e
  |some v=>
   cases e2:sx r with
   |none=>rw[e1,e2]at e;cases e
   |some ws=>rw[e1,e2]at e;cases e;let#[h1,h2]:=qd e2 hy;exact#[by rw[sy e1 hx,h1],by rw[all_cons,qe e1,h2];rfl]
def inD(x:D)(ds:List D):Option Bool:=match sA x,sx ds with
 |some v,some vs=>some (Vi v vs)
 |_,_=>none
def dIn:jq:=λ x y M Q=>match y with
 | .str j=>match x with
  | .str i=>Q (.bl (!(Builtin.Str.occurrences j i 0 (-j) 1).isEmpty)) M
  |_=>False
 | .tup ds=>match inD x ds with
  |some b=>Q (.bl b) M
  |none=>False
 | .ref a=>match M a with
  |some (.lst ds)=>match inD x ds with
   |some b=>Q (.bl b) M
   |none=>False
  |_=>False
 |_=>False
def HS{x:V}{b:Bool}(e:inD d ds>b)(hd:sB K H d x)(hx:ay K H ds xs):iA x=true/\xs.all iA=true/\Vi x xs=b:=by
 unfold inD at e;cases e1:sA d with
 |none=>rw[e1]at e;cases e
 |some v=>
  cases e2:sx ds with
  |none=>rw[e1,e2]at e;cases e
  |some vs=>rw[e1,e2]at e;have e:Vi v vs=b:=B7 e;let#[rfl,h2]:=qd e2 hx;cases(sy e1 hd);exact#[qe e1,h2,e]
def Ye:iO X (compareOp .In) dIn:=⟨_,DD.or DE,λ x y d e H M Q2 Q hd he hm q k=>by
 cases e with
 |str j=>
  cases(aW.mp he);cases d with
  |str i=>cases(aW.mp hd);exact .inl #[_,_,rfl,rfl,k _ H _ M `P hm `o q]
  |_=>exact q.elim
 |tup ds=>
  let#[p,xs,rfl,hp,hx]:=aM.mp he;have q:(match inD d ds with|some b=>Q2 (.bl b) M|none=>False):=q;cases ei:inD d ds with
  |none=>rw[ei]at q;exact q.elim
  |some b=>rw[ei]at q;let#[h1,h2,h3]:=HS ei hd hx;refine .inr #[p,xs,rfl,.inr hp,h1,h2,?_];simp only[p5,K7];rw[h3];exact k _ H _ M `P hm `o q
 |ref a=>
  cases(az.mp he);have q:(match M a with|some (.lst ds)=>(match inD d ds with|some b=>Q2 (.bl b) M|none=>False)|_=>False):=q;cases ea:M a with
  |none=>rw[ea]at q;exact q.elim
  |some o=>
   cases o with
   |bV b kvs=>rw[ea]at q;exact q.elim
   |dE x=>rw[ea]at q;exact q.elim
   |lst ds=>
    rw[ea]at q;let#[xs,hx,dx]:=hm a _ ea;cases ei:inD d ds with
    |none=>simp only[ei]at q
    |some b=>simp only[ei]at q;let#[h1,h2,h3]:=HS ei hd dx;refine .inr #[a,xs,rfl,.inl (fK.of hx),h1,h2,?_];simp only[p5,K7];rw[h3];exact k _ H _ M `P hm `o q
 |_=>exact q.elim⟩
def NI(h:ay K H ds xs){i:Int}(e:iN ds i>d):∃x,iN xs i>x/\sB K H d x:=by
 unfold iN at e ⊢;rw[-h];cases q:DR (-ds) i with
 |none=>rw[q]at e;cases e
 |some j=>rw[q]at e;let#[x,h1,h2]:=h.get (i:=j) e;exact#[x,h1,h2]
def a_(M:Mem)(a:be):Option (List D):=match M a with
 |some (.lst ds)=>some ds
 |_=>none
def ff(e:a_ M a>ds)(hm:ul K H M):∃xs,H a>`J/\ay K H ds xs:=by
 unfold a_ at e;cases q:M a with
 |none=>rw[q]at e;cases e
 |some o=>
  cases o with
  |bV b kvs=>rw[q]at e;cases e
  |dE x=>rw[q]at e;cases e
  |lst es=>rw[q]at e;cases e;exact hm a _ q
def cO(M:Mem):D->Option (List D)
 | .tup ds=>some ds
 | .fl ds=>some ds
 | .ref a=>a_ M a
 |_=>none
def gA(e:cO M d>ds)(hd:sB K H d v)(hm:ul K H M):∃p xs,v=.ref p/\(fK K H p xs\/gu K H p xs)/\ay K H ds xs:=by
 cases d with
 |tup es=>cases e;let#[p,xs,rfl,h,q]:=aM.mp hd;exact#[p,xs,rfl,.inr h,q]
 |fl es=>cases e;let#[p,xs,rfl,h,q]:=ko.mp hd;exact#[p,xs,rfl,.inl h.sq,q]
 |ref a=>cases(az.mp hd);let#[xs,h,q]:=ff e hm;exact#[a,xs,rfl,.inl (fK.of h),q]
 |_=>cases e
def Tt:jq:=λ x y M Q=>match y with
 | .int i=>match x with
  | .str z=>-z<=sizeLine/\(match iN z.cps.toList i with
   |some c=>Q (.str #[([c].toArray)]) M
   |none=>False)
  |x=>match cO M x with
   |some ds=>(match iN ds i with
    |some d=>Q d M
    |none=>False)
   |none=>False
 |_=>False
def t_{x:V}{i:Int}{Q2:bK}{Q:VK}(hd:sB K H d x)(hm:ul K H M)(k:jU K H Q2 Q)(q:match cO M d with|some ds=>(match iN ds i with|some d=>Q2 d M|none=>False)|none=>False):∃p xs v,x=.ref p/\(fK K H p xs\/gu K H p xs)/\iN xs i>v/\Q v H:=by
 cases e:cO M d with
 |none=>rw[e]at q;exact q.elim
 |some ds=>
  rw[e]at q;cases ei:iN ds i with
  |none=>simp only[ei]at q
  |some d'=>simp only[ei]at q;let#[p,xs,rfl,h,hx]:=gA e hd hm;let#[v,h1,h2]:=NI hx ei;exact#[p,xs,v,rfl,h,h1,k v H d' M h2 hm `o q]
theorem aG:Xl X Tt:=⟨_,L2.aG,λ x y d e H M Q2 Q hd he hm q k=>by
 cases e with
 |int i=>
  cases(aq.mp he);cases d with
  |str z=>
   cases(aW.mp hd);let#[hz,q]:=q;refine#[hz,?_];cases ei:iN z.cps.toList i with
   |none=>rw[ei]at q;exact q.elim
   |some c=>rw[ei]at q;exact#[c,rfl,k _ H _ M (aW.mpr rfl) hm `o q]
  |tup ds=>let#[p,xs,v,rfl,h]:=t_ (d:=.tup ds) (i:=i) hd hm k q;exact#[xs,v,h]
  |fl ds=>let#[p,xs,v,rfl,h]:=t_ (d:=.fl ds) (i:=i) hd hm k q;exact#[xs,v,h]
  |ref a=>let#[p,xs,v,rfl,h]:=t_ (d:=.ref a) (i:=i) hd hm k q;exact#[xs,v,h]
  |_=>exact q.elim
 |_=>exact q.elim⟩
def cutD(xs:List D)(lo hi:Option Int):List D:=(xs.drop (HT.cK (-xs) 0 lo)).take (HT.cK (-xs) (-xs) hi-HT.cK (-xs) 0 lo)
def xb(h:ay K H ds xs)(lo hi:Option Int):ay K H (cutD ds lo hi) (xc xs lo hi):=by unfold cutD xc;rw[-h];exact(h.drop _).take _
def dSl:D->Option Int->Option Int->Mem->bK->Prop:=λ x lo hi M Q=>match x with
 | .str z=>-z<=sizeLine/\Q (.str (zo z lo hi)) M
 | .tup ds=>¬(HT.cK (-ds) 0 lo=0/\HT.cK (-ds) (-ds) hi=-ds)/\Q (.tup (cutD ds lo hi)) M
 | .ref a=>match a_ M a with
  |some ds=>∀p,M p=none->Q `j (af M p (.lst (cutD ds lo hi)))
  |none=>False
 |_=>False
theorem gb:Xj X dSl:=⟨_,L2.gb,λ x d lo hi H M Q2 Q hd hm q k=>by
 cases d with
 |str z=>cases(aW.mp hd);exact#[q.1,k _ H _ M (aW.mpr rfl) hm `o q.2]
 |tup ds=>let#[p,xs,rfl,h,hx]:=aM.mp hd;refine .inr #[p,xs,rfl,h,by rw[-hx];exact q.1,λ p2 h_=>?_];exact k _ _ _ M (jA h_ (xb hx lo hi)) (hm.laid h_) (ao.laid h_) q.2
 |ref a=>
  cases(az.mp hd);have q:(match a_ M a with|some ds=>∀p,M p=none->Q2 `j (af M p (.lst (cutD ds lo hi)))|none=>False):=q;cases e:a_ M a with
  |none=>rw[e]at q;exact q.elim
  |some ds=>rw[e]at q;let#[xs,h,hx]:=ff e hm;exact .inl #[a,xs,rfl,fK.of h,λ p hp=>k _ _ `j _ (az.mpr rfl) (dM hp (xb hx lo hi) hm) `Q (q p (hm.free hp))]
 |_=>exact q.elim⟩
def Ei:List D->Mem->bK->Prop:=λ xs M Q=>match xs with
 |[.str z]=>-z<=sizeLine/\Q (.int (-z)) M
 |[x]=>match cO M x with
  |some ds=>Q (.int (-ds)) M
  |none=>False
 |_=>False
def bT:fJ X (.builtin "len") Ei:=⟨_,uJ.or uK,λ xs ds H M Q2 Q hd hm q k=>by
 cases ds with
 |nil=>exact q.elim
 |cons d r=>
  cases r with
  |cons d2 r2=>cases d<;>exact q.elim
  |nil=>
   let#[x,r,rfl,hx,hr]:=ae.mp hd;cases(ah.mp hr);have seq:(match cO M d with|some ds=>Q2 (.int (-ds)) M|none=>False)->∃p ys,[x]=[V.ref p]/\(fK X.K H p ys\/gu X.K H p ys)/\Q (.int (-ys)) H:=λ q=>by
    cases e:cO M d with
    |none=>rw[e]at q;exact q.elim
    |some es=>rw[e]at q;let#[p,ys,rfl,h,hy]:=gA e hx hm;refine#[p,ys,rfl,h,?_];rw[-hy];exact k _ H _ M (aq.mpr rfl) hm `o q
   cases d with
   |str z=>cases(aW.mp hx);exact .inl #[z,rfl,q.1,k _ H _ M (aq.mpr rfl) hm `o q.2]
   |tup es=>exact .inr (seq q)
   |fl es=>exact .inr (seq q)
   |ref a=>exact .inr (seq q)
   |_=>exact q.elim⟩
def dList:List D->Mem->bK->Prop:=λ xs M Q=>match xs with
 |[x]=>match cO M x with
  |some ds=>∀p,M p=none->Q `j (af M p `B)
  |none=>False
 |_=>False
def Jg:fJ X (.type "list") dList:=⟨_,uI,λ xs ds H M Q2 Q hd hm q k=>by
 cases ds with
 |nil=>exact q.elim
 |cons d r=>
  cases r with
  |cons d2 r2=>exact q.elim
  |nil=>
   let#[x,r,rfl,hx,hr]:=ae.mp hd;cases(ah.mp hr);have q:(match cO M d with|some ds=>∀p,M p=none->Q2 `j (af M p `B)|none=>False):=q;cases e:cO M d with
   |none=>rw[e]at q;exact q.elim
   |some es=>
    rw[e]at q;let#[p,ys,rfl,h,hy]:=gA e hx hm;exact#[p,ys,rfl,h,λ l hl=>k _ _ (.ref l) _ (az.mpr rfl) (dM hl hy hm) (ao.laid hl) (q l (hm.free hl))]⟩
def zj:List D->Mem->bK->Prop:=λ xs M Q=>match xs with
 |[x]=>match cO M x with
  |some ds=>Q (.tup ds) M
  |none=>False
 |_=>False
def aZ:fJ X (.type "tuple") zj:=⟨_,qV,λ xs ds H M Q2 Q hd hm q k=>by
 cases ds with
 |nil=>exact q.elim
 |cons d r=>
  cases r with
  |cons d2 r2=>exact q.elim
  |nil=>
   let#[x,r,rfl,hx,hr]:=ae.mp hd;cases(ah.mp hr);have q:(match cO M d with|some ds=>Q2 (.tup ds) M|none=>False):=q;cases e:cO M d with
   |none=>rw[e]at q;exact q.elim
   |some es=>
    rw[e]at q;obtain⟨p,ys,rfl,h|h,hy⟩:=gA e hx hm
    ·exact#[p,ys,rfl,.inl #[h,λ l hl=>k _ _ (.tup es) M (jA hl hy) (hm.laid hl) (ao.laid hl) q]]
    ·exact#[p,ys,rfl,.inr #[h,k _ H (.tup es) M (aM.mpr #[p,ys,rfl,h,hy]) hm `o q]]⟩
def bP:xt zj (λ ds M Q=>Q (.tup ds) M):=λ ds M p Q hp hz q=>by
 show(match cO (af M p `B) `j with|some es=>fin2 Q (.tup es) (af M p `B)|none=>False);have e:cO (af M p `B) `j>ds:=by show a_ (af M p `B) p>ds;unfold a_;rw[ab]
 rw[e];exact#[M,(q_.refl M).put hp,q]
def nB:List D->Option (List Bool)
 |[]=>some []
 | .bl b::r=>(nB r).map (b::·)
 |_::_=>none
theorem lM:∀(bs:List Bool),nB (bs.map D.bl)>bs
 |[]=>rfl
 |b::bs=>by rw[D9];unfold nB;rw[lM bs];rfl
theorem Cn:∀{ds:List D} {bs:List Bool},nB ds>bs->ds=bs.map D.bl
 |[],bs,e=>by cases e;rfl
 |d::r,bs,e=>by
  cases d with
  |bl b=>
   unfold nB at e;cases q:nB r with
   |none=>rw[q]at e;cases e
   |some cs=>rw[q]at e;cases e;rw[Cn q];rfl
  |_=>cases e
def V4:List D->Mem->bK->Prop:=λ xs M Q=>match xs with
 |[.ref a]=>match a_ M a with
  |some ds=>match nB ds with
   |some bs=>Q (.bl (bs.all id)) M
   |none=>False
  |none=>False
 |_=>False
def OU(hc:X.calm=true):fJ X (.builtin "all") V4:=⟨_,xj hc,λ xs ds H M Q2 Q hd hm q k=>by
 cases ds with
 |nil=>exact q.elim
 |cons d r=>
  cases r with
  |cons d2 r2=>cases d<;>exact q.elim
  |nil=>
   cases d with
   |ref a=>
    let#[x,r,rfl,hx,hr]:=ae.mp hd;cases(ah.mp hr);cases(az.mp hx);have q:(match a_ M a with|some ds=>(match nB ds with|some bs=>Q2 (.bl (bs.all id)) M|none=>False)|none=>False):=q;cases e:a_ M a with
    |none=>rw[e]at q;exact q.elim
    |some es=>
     rw[e]at q;cases eb:nB es with
     |none=>simp only[eb]at q
     |some bs=>simp only[eb]at q;let#[ys,h,hy]:=ff e hm;rw[Cn eb]at hy;exact#[a,bs,rfl,fK.of (by rw[h,wV hy]),k _ H _ M `P hm `o q]
   |_=>exact q.elim⟩
def DL:a_ (af M p `B) p>ds:=by unfold a_;rw[ab]
def w_:List D->Mem->bK->Prop:=λ ds M Q=>match nB ds with
 |some bs=>Q (.bl (bs.all id)) M
 |none=>False
def zW:xt V4 w_:=λ ds M p Q hp hz q=>by
 show(match a_ (af M p `B) p with|some ds'=>(match nB ds' with|some bs=>fin2 Q (.bl (bs.all id)) (af M p `B)|none=>False)|none=>False);rw[DL];unfold w_ at q;cases eb:nB ds with
 |none=>rw[eb]at q;exact q.elim
 |some bs=>rw[eb]at q;simp only[eb];exact#[M,(q_.refl M).put hp,q]
def oN(M:Mem):D->Option String
 | .bf=>some "NoneType"
 | .bl _=>some "bool"
 | .int _=>some "int"
 | .str _=>some "str"
 | .tup _=>some "tuple"
 | .fl _=>some "list"
 | .ref a=>(a_ M a).map λ _=>"list"
 |_=>none
def ua(n T:String):Bool:=n==T||(n=="bool"&&T=="int")
structure iE(K:L8)(T:String):Prop where
 bf:PySem.W.kitOne K (.type "NoneType") (.type T)>ua "NoneType" T
 bl:PySem.W.kitOne K (.type "bool") (.type T)>ua "bool" T
 int:PySem.W.kitOne K (.type "int") (.type T)>ua "int" T
 str:PySem.W.kitOne K (.type "str") (.type T)>ua "str" T
 tup:PySem.W.kitOne K (.type "tuple") (.type T)>ua "tuple" T
 lst:PySem.W.kitOne K (.type "list") (.type T)>ua "list" T
def Jf:dj X (.builtin "isinstance") (λ xs H Q=>∃(x:V)(T n:String),xs=[x,.ty T]/\iE X.K T/\
  ((x=.bf/\n="NoneType")\/(∃b,x=.bl b/\n="bool")\/(∃i,x=.int i/\n="int")\/(∃z,x=.str z/\n="str")\/(∃p ys,x=.ref p/\gu X.K H p ys/\n="tuple")\/(∃p ys,x=.ref p/\fK X.K H p ys/\n="list"))/\Q (.bl (ua n T)) H):=by
 intro im s σ H xs us Q I r h;let#[x,T,n,rfl,ok,hx,q]:=h;let#[u,w',rfl,rx,ry]:=vals2 r;have e:w'=Value.type T:=ry;subst e;rcases hx with⟨rfl,rfl⟩|⟨b,rfl,rfl⟩|⟨i,rfl,rfl⟩|⟨z,rfl,rfl⟩|⟨p,ys,rfl,hq,rfl⟩|⟨p,ys,rfl,hq,rfl⟩
 ·exact jJ I rx .bf ok.bf λ tk=>#[.bl _,H,I.tok tk,rfl,q]
 ·exact jJ I rx (.bl b) ok.bl λ tk=>#[.bl _,H,I.tok tk,rfl,q]
 ·exact jJ I rx (.int i) ok.int λ tk=>#[.bl _,H,I.tok tk,rfl,q]
 ·exact jJ I rx (.str z) ok.str λ tk=>#[.bl _,H,I.tok tk,rfl,q]
 ·cases(show u=Value.ref p from rx);let#[ar,_,#[o,h1,h2,_],_]:=I.tuple hq;exact C0 PySem.W.kitx_tuple I.qN #[o,h1,h2] ok.tup (λ z=>nomatch z) λ tk=>#[.bl _,H,I.tok tk,rfl,q]
 ·cases(show u=Value.ref p from rx);let#[ar,_,pl,_]:=I.list hq;let#[o,h1,h2,_]:=pl.isList;exact C0 PySem.W.kitx_list I.qN #[o,h1,h2] ok.lst (λ z=>nomatch z) λ tk=>#[.bl _,H,I.tok tk,rfl,q]
def OR(T:String):List D->Mem->bK->Prop:=λ xs M Q=>match xs with
 |[x,.ty U]=>U=T/\(match oN M x with
  |some n=>Q (.bl (ua n T)) M
  |none=>False)
 |_=>False
def iB(ok:iE X.K T):fJ X (.builtin "isinstance") (OR T):=⟨_,Jf,λ xs ds H M Q2 Q hd hm q k=>by
 cases ds with
 |nil=>exact q.elim
 |cons d r0=>
 cases r0 with
 |nil=>exact q.elim
 |cons d2 r1=>
 cases r1 with
 |cons _ _=>cases d2<;>exact q.elim
 |nil=>
 cases d2 with
 |ty U=>
  let#[x,r,rfl,hx,hr]:=ae.mp hd;let#[y,r2,rfl,hy,pV]:=ae.mp hr;cases(ah.mp pV);cases(za.mp hy);let#[rfl,q]:=q;cases e:oN M d with
  |none=>rw[e]at q;exact q.elim
  |some n=>
   rw[e]at q;refine#[x,U,n,rfl,ok,?_,k _ H _ M `P hm `o q];cases d with
   |bf=>cases e;exact .inl #[dh.mp hx,rfl]
   |bl b=>cases e;exact .inr (.inl #[b,aR.mp hx,rfl])
   |int i=>cases e;exact .inr (.inr (.inl #[i,aq.mp hx,rfl]))
   |str z=>cases e;exact .inr (.inr (.inr (.inl #[z,aW.mp hx,rfl])))
   |tup es=>cases e;let#[p,ys,rfl,h,_]:=aM.mp hx;exact .inr (.inr (.inr (.inr (.inl #[p,ys,rfl,h,rfl]))))
   |fl es=>cases e;let#[p,ys,rfl,h,_]:=ko.mp hx;exact .inr (.inr (.inr (.inr (.inr #[p,ys,rfl,h.sq,rfl]))))
   |ref a=>
    cases el:a_ M a with
    |none=>have e:(a_ M a).map (λ _=>"list")>n:=e;rw[el]at e;cases e
    |some es=>have e:(a_ M a).map (λ _=>"list")>n:=e;rw[el]at e;cases e;let#[ys,h,_]:=ff el hm;exact .inr (.inr (.inr (.inr (.inr #[a,ys,az.mp hx,fK.of h,rfl]))))
   |ty n=>cases e
 |_=>exact q.elim⟩
def Nr:mQ:=λ o i v M N=>match o,i with
 | .ref a,.int k=>match a_ M a with
  |some ds=>(match DR (-ds) k with
   |some j=>N (af M a (.lst (ds.set j v)))
   |none=>False)
  |none=>False
 |_,_=>False
def oY:NM X Nr:=⟨_,set_list,λ o i v d j e H M Q2 Q hd hj he hm q k=>by
 cases d with
 |ref a=>
  cases j with
  |int n=>
   cases(az.mp hd);cases(aq.mp hj);have q:(match a_ M a with|some ds=>(match DR (-ds) n with|some j=>Q2 (af M a (.lst (ds.set j e)))|none=>False)|none=>False):=q;cases el:a_ M a with
   |none=>rw[el]at q;exact q.elim
   |some ds=>
    rw[el]at q;cases ei:DR (-ds) n with
    |none=>simp only[ei]at q
    |some m=>simp only[ei]at q;let#[xs,h,hx]:=ff el hm;refine#[a,xs,n,m,rfl,rfl,h,by rw[-hx];exact ei,?_];exact k _ _ (hm.put (u:=.lst (ds.set m e)) (ao.lst h) #[_,aH,ay.mono (ao.lst h) _ (hx.set he m)]) (ao.lst h) q
  |_=>exact q.elim
 |_=>exact q.elim⟩
section
variable {Q:bK}{ta tb tc:bU}{r r':jq}{E:ka}{t u:lO}{c c':gS}{tl:dG}{QL:List D->Mem->Prop}
def PJ(h:t {E with nx:=u E} δ M):Kr t u E δ M:=h
def Gk(h:c δ M λ b M1=>if b=true then t E δ M1 else u E δ M1):Pw c t u E δ M:=h
def KJ(h:E.nx δ M):FO E δ M:=h
def yi(h:ta δ M E.rt):Uh ta E δ M:=h
def P_(h:ta δ M λ d M1=>g d δ M1 E.nx):FR ta g E δ M:=h
def tH(h:ta δ M λ _ M1=>E.nx δ M1):An ta E δ M:=h
def eC(h:N (δ.set i (some d)) M):lv i d δ M N:=h
def PF{s:mQ}(h:ta δ M λ o M1=>tb δ M1 λ j M2=>s o j d M2 λ M3=>N δ M3):hSub ta tb s d δ M N:=h
def PH{k:Int}{v:D}{N:Mem->Prop}(h:M a>`B)(e:DR (-ds) k>j)(q:N (af M a (.lst (ds.set j v)))):Nr `z (.int k) v M N:=by
 show(match a_ M a with|some ds=>(match DR (-ds) k with|some j=>N (af M a (.lst (ds.set j v)))|none=>False)|none=>False);have e1:a_ M a>ds:=by unfold a_;rw[h]
 rw[e1];simp only[e];exact q
def nK(h:ta δ M λ d M1=>match d with| .bl k=>QB k M1|_=>False):rN ta δ M QB:=h
def Aw(h:ta δ M λ d M1=>tb δ M1 λ e M2=>r d e M2 Q):Ks r ta tb δ M Q:=h
def Ut{s:D->Mem->bK->Prop}(h:ta δ M λ d M1=>s d M1 Q):sUn s ta δ M Q:=h
def gf(e:δ[i]?>(some d))(h:Q d M):gZ i δ M Q:=by unfold gZ;rw[e];exact h
def Ux(h:Q d M):sC d δ M Q:=h
def Qa(h:c δ M λ b M1=>if b=true then c' δ M1 QB else QB false M1):Ur c c' δ M QB:=h
def Ob(h:c δ M λ b M1=>if b=true then QB true M1 else c' δ M1 QB):XT c c' δ M QB:=h
def Le(h:ta δ M λ d M1=>match d with| .bl c=>(if c=true then tb δ M1 Q else Q (.bl false) M1)|_=>False):N9 ta tb δ M Q:=h
def ke(h:QL [] M):tj δ M QL:=h
def kY(h:ta δ M λ d M1=>tl δ M1 λ ds M2=>QL (d::ds) M2):iy ta tl δ M QL:=h
def PC(h:tl δ M λ ds M1=>-ds<=sizeLine/\Q (.tup ds) M1):Ug tl δ M Q:=h
def PQ(h:tl δ M λ ds M1=>-ds<=sizeLine/\∀p,M1 p=none->Q `j (af M1 p `B)):Ui tl δ M Q:=h
def Oe{s:List D->Mem->bK->Prop}(h:tl δ M λ ds M1=>s ds M1 Q):Um s tl δ M Q:=h
def XX{sp:fM}(h:tl δ M λ ds M1=>sp ds M1 Q):sD sp tl δ M Q:=h
def Oa{s:D->Option Int->Option Int->Mem->bK->Prop}{l h':JL}(h:ta δ M λ d M1=>l δ M1 λ i M2=>h' δ M2 λ j M3=>s d i j M3 Q):XS s ta l h' δ M Q:=h
def rT{QO:Option Int->Mem->Prop}(h:QO none M):td δ M QO:=h
def KI{QO:Option Int->Mem->Prop}(h:ta δ M λ d M1=>match d with| .int i=>QO (some i) M1|_=>False):N5 ta δ M QO:=h
def Az{s:D->List D->Mem->bK->Prop}(h:ta δ M λ d M1=>S5 T d M1/\tl δ M1 λ ds M2=>s d ds M2 Q):Uq T s ta tl δ M Q:=h
def P0{s:D->List D->Mem->bK->Prop}(h:ta δ M λ d M1=>S5 T d M1/\s d [] M1 Q):Uo T s ta δ M Q:=h
def iY(W:cS->Mem->Prop)(h1:∀N:cS->Mem->Prop,(∀δ' M',W δ' M'->N δ' M')->t {E with nx:=N} δ M)(h2:∀δ' M',W δ' M'->u E δ' M'):Kr t u E δ M:=h1 (u E) h2
set_option tactic.hygienic true in
def rB{o:MO}(h:M a>o):af M a o=M:=by
 funext b;unfold af;split
 ·rename_i e;rw[e,h]
 ·rfl
def b_{i:Int}(h:M a>`B)(e:iN ds i>d)(q:Q d M):Tt `z (.int i) M Q:=by
 show(match a_ M a with|some ds=>(match iN ds i with|some d=>Q d M|none=>False)|none=>False);have e1:a_ M a>ds:=by unfold a_;rw[h]
 rw[e1];simp only[e];exact q
def bo{i:Int}(e:iN ds i>d)(q:Q d M):Tt (.tup ds) (.int i) M Q:=by show(match iN ds i with|some d=>Q d M|none=>False);rw[e];exact q
def XW{g:Int->Int->D}{i j:Int}(h:C i j)(q:Q (g i j) M):dI C g (.int i) (.int j) M Q:=#[h,q]
def Gf{g:Int->Int->D}{i j:Int}(h:0<j)(q:Q (g i j) M):dI (λ _ j=>0<j) g (.int i) (.int j) M Q:=#[h,q]
def PZ{g:Int->Int->D}{i j:Int}(h:0<j)(h2:j<1073741824)(q:Q (g i j) M):dI S0 g (.int i) (.int j) M Q:=#[#[h,h2],q]
def Sz{i j:Int}(h0: -1000000000000<=i)(h1:i<=1000000000000):uW i j:=.inl #[Int.lt_of_lt_of_le `c h0,u6 h1 `c]
def Jb{i j:Int}(h0: -1000000000000<=j)(h1:j<=1000000000000):uW i j:=.inr #[Int.lt_of_lt_of_le `c h0,u6 h1 `c]
def Od{g:Int->Int->D}{i j:Int}(q:Q (g i j) M):Nv g (.int i) (.int j) M Q:=q
def Lf{xs ys:List D}(ha:M a>`J)(hb:M b>(.lst ys))(h:-xs+-ys<=sizeLine)(q:∀p,M p=none->Q `j (af M p (.lst (xs++ys)))):Nw `z (.ref b) M Q:=by show(match M a,M b with|some `J,some (.lst ys)=>-xs+-ys<=sizeLine/\∀p,M p=none->Q `j (af M p (.lst (xs++ys)))|_,_=>False);rw[ha,hb];exact#[h,q]
def KO{i j:Int}(h:uW i j)(q:Q (.int (i*j)) M):Sm (.int i) (.int j) M Q:=#[h,q]
def PX{i j:Int}(q:Q (.bl (decide (i=j))) M):Ss false (.int i) (.int j) M Q:=by show Q (.bl (xor false (decide (i=j)))) M;simpa using q
def PY{i j:Bool}(q:Q (.bl (decide (i=j))) M):Ss false (.bl i) (.bl j) M Q:=by show Q (.bl (xor false (decide (i=j)))) M;simpa using q
def PV{i j:Str}(q:Q (.bl (decide (i=j))) M):Ss false (.str i) (.str j) M Q:=by show Q (.bl (xor false (decide (i=j)))) M;simpa using q
def PN{i j:Bool}(q:Q (.bl (!decide (i=j))) M):Ss true (.bl i) (.bl j) M Q:=by show Q (.bl (xor true (decide (i=j)))) M;simpa using q
def tu(h:M a>`B)(q:Q (.int (-ds)) M):Ei [.ref a] M Q:=by
 show(match a_ M a with|some ds=>Q (.int (-ds)) M|none=>False);have e1:a_ M a>ds:=by unfold a_;rw[h]
 rw[e1];exact q
def nL(q:Q (.int (-ds)) M):Ei [.tup ds] M Q:=q
def Gh(q:∀p,M p=none->Q `j (af M p `B)):dList [.fl ds] M Q:=q
def PM{i:Int}(q:Q (.int (-(i))) M):VZ (.int i) M Q:=q
def aL{P:Prop}{inst:Decidable P}{A B:Prop}(h1:P->A)(h2:¬P->B):if @decide P inst=true then A else B:=by
 by_cases h:P
 ·rw[C9 h,L1 rfl];exact h1 h
 ·rw[B4 h,L7 o8];exact h2 h
def nM{P:Prop}{inst:Decidable P}{A B:Prop}(h1:¬P->A)(h2:P->B):if(!@decide P inst)=true then A else B:=by
 by_cases h:P
 ·rw[C9 h,Bool.not_true,L7 o8];exact h2 h
 ·rw[B4 h,Bool.not_false,L1 rfl];exact h1 h
def KU{A B:Prop}(h:A):if true=true then A else B:=L1 rfl>=h
def Ay{A B:Prop}(h:B):if false=true then A else B:=L7 o8>=h
def kX{b:Bool}{A B:Prop}(h1:b=true->A)(h2:b=false->B):if b=true then A else B:=by
 cases b with
 |true=>rw[L1 rfl];exact h1 rfl
 |false=>rw[L7 o8];exact h2 rfl
end
section
variable {tb:lO}{δc:cS}{E:ka}
def mI(Pv:Nat->List D->Mem->Prop)(h0:Pv 0 [] M1)(hz:∀i jp M,i<=-ds->Pv i jp M->-jp<=sizeLine)(hs:∀i d jp M,ds[i]?>d->Pv i jp M->g d δc M λ δ2 M2=>tt δ2 M2 λ b M3=>if b=true then te δ2 M3 λ y M4=>Pv (i+1) (jp++[y]) M4 else Pv (i+1) jp M3)(hd:∀jp M,Pv (-ds) jp M->Qe jp M):∃(B:Nat)(W:Nat->List D->Mem->Prop),W 0 [] M1/\∀i jp M,W i jp M->i<=B/\-jp<=sizeLine/\match li (.fix ds) M with
   |none=>False
   |some ds=>match ds[i]? with
    |none=>i=-ds/\Qe jp M
    |some d=>g d δc M λ δ2 M2=>tt δ2 M2 λ b M3=>if b=true then te δ2 M3 λ y M4=>W (i+1) (jp++[y]) M4 else W (i+1) jp M3:=by
 refine#[-ds,λ i jp M=>if i<=-ds then Pv i jp M else False,by dsimp only;rw[L1 (J9 _)];exact h0,?_];intro i jp M w;by_cases hi:i<=-ds
 ·rw[L1 hi]at w;refine#[hi,hz i jp M hi w,?_];show(match ds[i]? with
    |none=>i=-ds/\Qe jp M
    |some d=>g d δc M λ δ2 M2=>tt δ2 M2 λ b M3=>if b=true then te δ2 M3 λ y M4=>(if i+1<=-ds then Pv (i+1) (jp++[y]) M4 else False)else(if i+1<=-ds then Pv (i+1) jp M3 else False))
  cases e:ds[i]? with
  |none=>have:i=-ds:=C5 hi (i3.mp e);subst this;exact#[rfl,hd jp M w]
  |some d=>have gm:i+1<=-ds:=(g9.mp e).1;simp only[L1 gm];exact hs i d jp M e w
 ·rw[L7 hi]at w;exact w.elim
def jf(Pv:Nat->cS->Mem->Prop)(h0:Pv 0 δ M1)(hs:∀i d δ M,ds[i]?>d->Pv i δ M->g d δ M λ δ2 M2=>tb {E with nx:=Pv (i+1),ct:=Pv (i+1),bk:=E.nx} δ2 M2)(hd:∀δ M,Pv (-ds) δ M->E.nx δ M):∃(B:Nat)(W:Nat->cS->Mem->Prop),W 0 δ M1/\∀i δ M,W i δ M->i<=B/\match li (.fix ds) M with
   |none=>False
   |some ds=>match ds[i]? with
    |none=>i=-ds/\E.nx δ M
    |some d=>g d δ M λ δ2 M2=>tb {E with nx:=W (i+1),ct:=W (i+1),bk:=E.nx} δ2 M2:=by
 refine#[-ds,λ i δ M=>if i<=-ds then Pv i δ M else False,by dsimp only;rw[L1 (J9 _)];exact h0,?_];intro i δ M w;by_cases hi:i<=-ds
 ·rw[L1 hi]at w;refine#[hi,?_];show(match ds[i]? with
    |none=>i=-ds/\E.nx δ M
    |some d=>g d δ M λ δ2 M2=>tb {E with nx:=(λ δ M=>if i+1<=-ds then Pv (i+1) δ M else False),ct:=(λ δ M=>if i+1<=-ds then Pv (i+1) δ M else False),bk:=E.nx} δ2 M2)
  cases e:ds[i]? with
  |none=>have:i=-ds:=C5 hi (i3.mp e);subst this;exact#[rfl,hd δ M w]
  |some d=>have gm:i+1<=-ds:=(g9.mp e).1;simp only[L1 gm];exact hs i d δ M e w
 ·rw[L7 hi]at w;exact w.elim
def BL(Pv:Nat->cS->Mem->Prop)(h0:Pv 0 δ M1)(hl:∀i δ M,i<=-ds->Pv i δ M->M a>`B)(hs:∀i d δ M,ds[i]?>d->Pv i δ M->g d δ M λ δ2 M2=>tb {E with nx:=Pv (i+1),ct:=Pv (i+1),bk:=E.nx} δ2 M2)(hd:∀δ M,Pv (-ds) δ M->E.nx δ M):∃(B:Nat)(W:Nat->cS->Mem->Prop),W 0 δ M1/\∀i δ M,W i δ M->i<=B/\match li (.at a) M with
   |none=>False
   |some ds=>match ds[i]? with
    |none=>i=-ds/\E.nx δ M
    |some d=>g d δ M λ δ2 M2=>tb {E with nx:=W (i+1),ct:=W (i+1),bk:=E.nx} δ2 M2:=by
 refine#[-ds,λ i δ M=>if i<=-ds then Pv i δ M else False,by dsimp only;rw[L1 (J9 _)];exact h0,?_];intro i δ M w;by_cases hi:i<=-ds
 ·rw[L1 hi]at w;refine#[hi,?_];have e0:li (.at a) M>ds:=by show(match M a with|some (.lst ds)=>some ds|_=>none)>ds;rw[hl i δ M hi w]
  rw[e0];show(match ds[i]? with
    |none=>i=-ds/\E.nx δ M
    |some d=>g d δ M λ δ2 M2=>tb {E with nx:=(λ δ M=>if i+1<=-ds then Pv (i+1) δ M else False),ct:=(λ δ M=>if i+1<=-ds then Pv (i+1) δ M else False),bk:=E.nx} δ2 M2)
  cases e:ds[i]? with
  |none=>have:i=-ds:=C5 hi (i3.mp e);subst this;exact#[rfl,hd δ M w]
  |some d=>have gm:i+1<=-ds:=(g9.mp e).1;simp only[L1 gm];exact hs i d δ M e w
 ·rw[L7 hi]at w;exact w.elim
end
section
variable {Q:bK}{ta:bU}{E:ka}{tb:lO}{tl:dG}
def PD{r3:List D->Mem->bK->Prop}(h:wi δ M λ src M1=>∃(B:Nat)(W:Nat->List D->Mem->Prop),W 0 [] M1/\∀i jp M,W i jp M->i<=B/\-jp<=sizeLine/\match li src M with
   |none=>False
   |some ds=>match ds[i]? with
    |none=>i=-ds/\r3 jp M Q
    |some d=>g d (kr n fr δ) M λ δ2 M2=>tt δ2 M2 λ b M3=>if b=true then te δ2 M3 λ y M4=>W (i+1) (jp++[y]) M4 else W (i+1) jp M3):Kq r3 wi g tt te n fr δ M Q:=h
def Gr{Qe:List D->Mem->Prop}(h:wi δ M λ src M1=>∃(B:Nat)(W:Nat->List D->Mem->Prop),W 0 [] M1/\∀i jp M,W i jp M->i<=B/\-jp<=sizeLine/\match li src M with
   |none=>False
   |some ds=>match ds[i]? with
    |none=>i=-ds/\Qe jp M
    |some d=>g d (kr n fr δ) M λ δ2 M2=>tt δ2 M2 λ b M3=>if b=true then te δ2 M3 λ y M4=>W (i+1) (jp++[y]) M4 else W (i+1) jp M3):oZ wi g tt te n fr δ M Qe:=h
def La(h:oZ wi g tt te n fr δ M λ ds M'=>∀p,M' p=none->Q `j (af M' p `B)):FQ wi g tt te n fr δ M Q:=h
def PR(h:wi δ M λ src M1=>∃(B:Nat)(W:Nat->cS->Mem->Prop),W 0 δ M1/\∀i δ M,W i δ M->i<=B/\match li src M with
   |none=>False
   |some ds=>match ds[i]? with
    |none=>i=-ds/\E.nx δ M
    |some d=>g d δ M λ δ2 M2=>tb {E with nx:=W (i+1),ct:=W (i+1),bk:=E.nx} δ2 M2):Uk wi g tb E δ M:=h
def KH(h:tl δ M λ ds M1=>match ds with|[.int j]=>Z8 j/\R (.fix (cF 0 j.toNat)) M1|_=>False):Ov tl δ M R:=h
def PB(h:QB true M):x' δ M QB:=h
end
end L3
namespace L4
open PySem.Spec L2 L3
section
variable {a b c:Expr}{ta tb tc:bU}{pos:Pos}
variable {tA tB:gS}
variable {t:dG}
variable {lo hi:Option Expr}{tl th:JL}
variable {p:Pos}{id:String}
end
section
variable {o:Expr}{t:dG}{id:String}
end
section
variable {p pos:Pos}{t:dG}{sp:fM}
end
section
variable {rest:List Stmt}{t u:lO}{pos:Pos}
end
section
variable {l:Expr}{tl:bU}{a b:Expr}{p pos:Pos}
end
section
variable {tb:lO}{pos:Pos}
end
section
variable {c:Expr}{tc:gS}{tb:lO}{pos:Pos}
end
section
variable {pos:Pos}
variable {p:Pos}{id:String}
variable {o:Expr}
end
section
variable {y:Str}{px py pt:Pos}
def lT(fr:List Nat)(it:WI X (.Name x px) iter wi)(hi:∀{cl C fp s H},Tx (ba X scope cl [x] fr C fp s H) ifs tt)(he:∀{cl C fp s H},WE (ba X scope cl [x] fr C fp s H) elt te)(b:iG X scope fr:=by exact zA `w)(calm:X.calm=true:=by rfl)(xe:∀e s,X.xe e s->False:=by exact λ _ _ h=>h)(Pc:∀cl C fp s H,PG (ba X scope cl [x] fr C fp s H) (.Name x px) (cX 0):=by exact λ _ _ _ _ _=>hG (i:=0) (ii `w) rfl (by first|exact Or.inl rfl|exact Or.inr rfl)):eZ X scope [x] fr (.Name x px) iter ifs elt wi (lv 0) tt te:=
 #[b,calm,xe,it,ER Pc `g,λ _ _ _ _ _=>hi,λ _ _ _ _ _=>he]
def TL(fr:List Nat)(it:WI X (.Tuple [.Name x px,.Name y py] k pt) iter wi)(hi:∀{cl C fp s H},Tx (ba X scope cl [x,y] fr C fp s H) ifs tt)(he:∀{cl C fp s H},WE (ba X scope cl [x,y] fr C fp s H) elt te)(b:iG X scope fr:=by exact zA `w)(calm:X.calm=true:=by rfl)(xe:∀e s,X.xe e s->False:=by exact λ _ _ h=>h)(Pc:∀cl C fp s H,PG (ba X scope cl [x,y] fr C fp s H) (.Tuple [.Name x px,.Name y py] k pt) (wJ X.K 2 (dR (cX 0) (dR (cX 1) ux))):=by exact λ _ _ _ _ _=>yq rfl (gB (hG (i:=0) (ii `w) rfl (by first|exact Or.inl rfl|exact Or.inr rfl)) (gB (hG (i:=1) (ii `w) rfl (by first|exact Or.inl rfl|exact Or.inr rfl)) tN))):eZ X scope [x,y] fr (.Tuple [.Name x px,.Name y py] k pt) iter ifs elt wi (uq 2 (du (lv 0) (du (lv 1) ur))) tt te:=
 #[b,calm,xe,it,EO Pc `g `g,λ _ _ _ _ _=>hi,λ _ _ _ _ _=>he]
end
def mX{x qual:Str}{st:Stmt}{f:be}{fd:FuncData}{ps:List Str}{k:Nat}{sp:fM}(F:jO K x qual st f fd)(N:List Str) (eJ:∀(dF:ac)(A:Around)(outer:List Env)(s:bd)(H:Hp)(E:XK)(ds:List D)(M:Mem)(Q:bK),N.Nodup->cz k (A.deeper (PyProof.Rows.envOfC qual (aD st) s⁻¹ f dF))->sp ds M Q->
   ∃t,JK (qT eQ P w K mg base N qual (aD st) f dF A outer s H E).Mb (bp st) t/\t {nx:=λ _ M'=>fin2 Q .bf M',rt:=fin2 Q} (iQ N ds) M) (len:∀ds M Q,sp ds M Q->-ds=-ps:=by intro ds M Q;walk_at "len") (S:ir N ps (aD st):=by exact#[rfl,rfl,rfl,by decide+kernel,rfl,by decide+kernel,by decide+kernel]):bS P w K mg base eQ (k+1) f fd ps (cI K sp):=
 ok2 F S len λ dF A outer s H E ds M Q hr h=>let⟨t,a,b⟩:=eJ dF A outer s H E ds M Q S.nd hr h;#[t,a.h,b]
end L4
namespace L5
open PySem.W PyProof.Rows
section
variable (n:Nat)(lt:Nat->Nat->Bool)
def kw{α:Type}:KasT α->(α->Prop)->Prop
 | .ret a,Q=>Q a
 | .ask i j k,Q=>i<n/\j<n/\kw (k (lt i j)) Q
variable {n lt}
theorem jI{β:Type}{f:α->KasT β}{Q:β->Prop}:∀{t:KasT α},kw n lt t (λ a=>kw n lt (f a) Q)->kw n lt (t.bind f) Q
 | .ret a,h=>h
 | .ask i j k,h=>#[h.1,h.2.1,jI (t:=k (lt i j)) h.2.2]
def pg(p:Array Nat)(i:Nat):Nat:=p.getD i 0
def ll(p:Array Nat)(i:Nat):pg p i=(p[i]?).getD 0:=by unfold pg;rw[Array.getD_eq_getD_getElem?]
def Pm(n:Nat)(p:Array Nat):Prop:=p.Perm (List.toArray (List.range n))
theorem Pm.size{p:Array Nat}(h:Pm n p):p.size=n:=by have:=Array.Perm.size_eq h;simpa using this
def Pm.below{p:Array Nat}(h:Pm n p)(i:Nat)(hn:0<n):pg p i<n:=by
 rw[ll];cases e:p[i]? with
 |none=>exact hn
 |some x=>have hm:x∈p:=Array.mem_of_getElem? e;have:=(Array.Perm.mem_iff h (a:=x)).mp hm;simpa using this
def pH{p:Array Nat}(hj:j<=p.size)(k:Nat):pg (kas_rev p i j) k=if i<=k/\k<j then pg p (i+j-1-k)else pg p k:=by
 rw[ll];unfold kas_rev;rw[getElem?_mirror_all hj k];split
 ·rw[ll]
 ·rw[ll]
def Pm.rev{p:Array Nat}(h:Pm n p)(i j:Nat):Pm n (kas_rev p i j):=Array.Perm.trans (mirror_perm _ _ _ _) h
def GH{p:Array Nat}{l:Nat}(hk:k<p.size)(hl:l<=k)(j:Nat):pg (bubble p k (k-l)) j=if j=l then pg p k else if l<j/\j<=k then pg p (j-1)else pg p j:=by
 have e0:k-(k-l)=l:=()
 rw[ll,getElem?_bubble hk (k-l) () j,e0];by_cases h1:j=l
 ·rw[L1 h1,L1 h1,ll]
 ·rw[L7 h1,L7 h1];by_cases h2:l<j/\j<=k
  ·rw[L1 h2,L1 h2,ll]
  ·rw[L7 h2,L7 h2,ll]
def Pm.bub{p:Array Nat}(h:Pm n p)(k d:Nat):Pm n (bubble p k d):=Array.Perm.trans (bubble_perm _ _ _) h
structure Ord(lt:Nat->Nat->Bool):Prop where
 Es:∀a b,lt a b=true->lt b a=false
 tr:∀a b c,lt a b=false->lt b c=false->lt a c=false
abbrev le(lt:Nat->Nat->Bool)(a b:Nat):Prop:=lt b a=false
def Ord.refl(O:Ord lt)(a:Nat):le lt a a:=by
 show lt a a=false;cases e:lt a a with
 |false=>rfl
 |true=>have:=O.Es a a e;rw[e]at this;cases this
def Ord.trans(O:Ord lt){a b c:Nat}(h1:le lt a b)(h2:le lt b c):le lt a c:=O.tr c b a h2 h1
def Up(lt:Nat->Nat->Bool)(p:Array Nat)(m:Nat):Prop:=∀i j,i<=j->j<m->le lt (pg p i) (pg p j)
def Dn(lt:Nat->Nat->Bool)(p:Array Nat)(m:Nat):Prop:=∀i j,i<=j->j<m->le lt (pg p j) (pg p i)
def Ev(lt:Nat->Nat->Bool)(a b:Nat):Prop:=le lt a b/\le lt b a
def Ord.VU(O:Ord lt){a b c:Nat}(h:Ev lt a b)(q:Ev lt b c):Ev lt a c:=#[O.trans h.1 q.1,O.trans q.2 h.2]
def Ev.sym{a b:Nat}(h:Ev lt a b):Ev lt b a:=#[h.2,h.1]
def Up.one(O:Ord lt)(p:Array Nat):Up lt p 1:=λ i j h q=>by
 have:i=j:=()
 subst this;exact O.refl _
def Up.next(O:Ord lt){p:Array Nat}(h:Up lt p m)(hm:1<=m)(q:le lt (pg p (m-1)) (pg p m)):Up lt p (m+1):=λ i j xE hj=>by
 by_cases e:j=m
 ·subst e;by_cases e2:i=j
  ·subst e2;exact O.refl _
  ·exact O.trans (h i (j-1) () ()) q
 ·exact h i j xE ()
def Dn.next(O:Ord lt){p:Array Nat}(h:Dn lt p m)(hm:1<=m)(q:le lt (pg p m) (pg p (m-1))):Dn lt p (m+1):=λ i j xE hj=>by
 by_cases e:j=m
 ·subst e;by_cases e2:i=j
  ·subst e2;exact O.refl _
  ·exact O.trans q (h i (j-1) () ())
 ·exact h i j xE ()
def Dn.ev(O:Ord lt){p p':Array Nat}(h:Dn lt p m)(e:∀k,k<m->Ev lt (pg p' k) (pg p k)):Dn lt p' m:=λ i j xE hj=>
 O.trans (e j hj).1 (O.trans (h i j xE hj) (e i ()).2)
def Up.UY{p:Array Nat}(hm:m<=p.size)(h:Dn lt p m):Up lt (kas_rev p 0 m) m:=λ i j xE hj=>by rw[pH hm,pH hm,L1 #[J9 _,()],L1 #[J9 _,hj]];exact h _ _ () ()
def yW(O:Ord lt){p:Array Nat}(hj:j<=p.size)(he:∀k,i<=k->k<j->Ev lt (pg p k) (pg p (j-1)))(k:Nat):Ev lt (pg (kas_rev p i j) k) (pg p k):=by
 rw[pH hj];split
 case isTrue h=>exact O.VU (he _ () ()) (he k h.1 h.2).sym
 case isFalse h=>exact#[O.refl _,O.refl _]
theorem yE(O:Ord lt){p:Array Nat}(hp:Pm n p){Q:Nat->Prop}:∀(f a:Nat),1<=a->a+f<=n->Up lt p a->(∀m,a<=m->m<=a+f->Up lt p m->(m<a+f->lt (pg p m) (pg p (m-1))=true)->Q m)->kw n lt (kas_asc p f a) Q
 |0,a,h1,hn,hu,hq=>hq a `G `G hu λ h=>bi h ()
 |f+1,a,h1,hn,hu,hq=>by
  refine#[hp.below a (),hp.below (a-1) (),?_];show kw n lt (if lt (pg p a) (pg p (a-1))=true then KasT.ret a else kas_asc p f (a+1)) Q;cases e:lt (pg p a) (pg p (a-1))with
  |true=>rw[L1 rfl];exact hq a `G () hu λ _=>e
  |false=>rw[L7 `g];exact yE O hp f (a+1) () () (hu.next O h1 e) λ m m1 m2 m3 m4=>hq m () () m3 λ q=>m4 ()
theorem nT(O:Ord lt){Q:Array Nat×Nat×Nat->Prop}(BC:0<n):∀(f:Nat)(p:Array Nat)(m q:Nat),Pm n p->1<=m->m+f<=n->q+1<=m->Dn lt p m->(∀k,m-(q+1)<=k->k<m->Ev lt (pg p k) (pg p (m-1)))-> (∀p' m' q',Pm n p'->m<=m'->m'<=m+f->q'+1<=m'->Dn lt p' m'->(∀k,m'-(q'+1)<=k->k<m'->Ev lt (pg p' k) (pg p' (m'-1)))->Q (p',m',q'))->kw n lt (kas_desc f p m q) Q
 |0,p,m,q,hp,h1,hf,Vq,hd,he,hQ=>hQ p m q hp `G `G Vq hd he
 |f+1,p,m,q,hp,h1,hf,Vq,hd,he,hQ=>by
  refine#[hp.below m BC,hp.below (m-1) BC,?_];show kw n lt (if lt (pg p m) (pg p (m-1))=true then(if GT.gt q 0 then kas_desc f (kas_rev p (m-(q+1)) m) (m+1) 0 else kas_desc f p (m+1) 0)else KasT.ask (pg p (m-1)) (pg p m) λ d=>if d=true then KasT.ret (p,m,q)else kas_desc f p (m+1) (q+1)) Q;have hz:=hp.size;cases e:lt (pg p m) (pg p (m-1))with
  |true=>
   rw[L1 rfl];by_cases hq:GT.gt q 0
   ·rw[L1 hq];have ev:=yW O (p:=p) (i:=m-(q+1)) (j:=m) () he;have em:pg (kas_rev p (m-(q+1)) m) m=pg p m:=by rw[pH (),L7 ()]
    refine nT O BC f _ (m+1) 0 (hp.rev _ _) () () () ((hd.ev O λ k _=>ev k).next O h1 ?_) (λ k k1 k2=>?_) λ p' m' q' a b c d g i=>hQ p' m' q' a () () d g i
    ·rw[em];exact O.trans (O.Es _ _ e) (ev (m-1)).2
    ·have:k=m:=()
     subst this;exact#[O.refl _,O.refl _]
   ·rw[L7 hq];refine nT O BC f _ (m+1) 0 hp () () () (hd.next O h1 (O.Es _ _ e)) (λ k k1 k2=>?_) λ p' m' q' a b c d g i=>hQ p' m' q' a () () d g i;have:k=m:=()
    subst this;exact#[O.refl _,O.refl _]
  |false=>
   rw[L7 `g];refine#[hp.below (m-1) BC,hp.below m BC,?_];cases e2:lt (pg p (m-1)) (pg p m)with
   |true=>exact hQ p m q hp `G () Vq hd he
   |false=>
    refine nT O BC f p (m+1) (q+1) hp () () () (hd.next O h1 e2) (λ k k1 k2=>?_) λ p' m' q' a b c d g i=>hQ p' m' q' a () () d g i;have hE:Ev lt (pg p (m-1)) (pg p m):=#[e,e2];by_cases ek:k=m
    ·subst ek;exact#[O.refl _,O.refl _]
    ·exact O.VU (he k () ()) hE
def Bg(O:Ord lt){p:Array Nat}(hp:Pm n p)(h1:1<=m)(hm:m<=n)(hd:Dn lt p m){Q:Nat×Array Nat->Prop}(hQ:∀m' p',Pm n p'->1<=m'->m'<=n->Up lt p' m'->Q (m',p')):kw n lt (kas_tail3 m n p) Q:=by unfold kas_tail3;refine jI (yE O (hp.rev _ _) (n-m) m h1 () (Up.UY (hp.size>=hm) hd) λ m' a b c _=>?_);exact hQ m' _ (hp.rev _ _) () () c
def we(O:Ord lt){p:Array Nat}(hp:Pm n p)(h1:1<=m)(hm:m+1<=n)(hd:Dn lt p (m+1)){Q:Nat×Array Nat->Prop}(hQ:∀m' p',Pm n p'->1<=m'->m'<=n->Up lt p' m'->Q (m',p')):kw n lt (kas_descPart m n p) Q:=by
 unfold kas_descPart;refine jI (nT O () (n-(m+1)) p (m+1) 0 hp () () () hd (λ k k1 k2=>?_) λ p' m' q' a b c d g i=>?_)
 ·have:k=m:=()
  subst this;exact#[O.refl _,O.refl _]
 ·show kw n lt (if GT.gt q' 0 then kas_tail3 m' n (kas_rev p' (m'-(q'+1)) m')else kas_tail3 m' n p') Q;by_cases hq:GT.gt q' 0
  ·rw[L1 hq];have hz:=a.size;exact Bg O (a.rev _ _) () () (g.ev O λ k _=>yW O () i k) hQ
  ·rw[L7 hq];exact Bg O a () () g hQ
def HA(O:Ord lt){p:Array Nat}(hp:Pm n p)(hn:2<=n){Q:Nat×Array Nat->Prop}(hQ:∀m' p',Pm n p'->1<=m'->m'<=n->Up lt p' m'->Q (m',p')):kw n lt (kas_count n p) Q:=by
 unfold kas_count;refine jI (yE O hp (n-1) 1 `G () (Up.one O p) λ m a b c d=>?_);have hz:=hp.size;by_cases e1:(m==n)=true
 ·rw[L1 e1];exact hQ m p hp a () c
 ·rw[L7 e1];have dQ:m≠n:=λ q=>e1 (q>=beq_self_eq_true _);have hl:=d ();by_cases e2:GT.gt m 1
  ·rw[L1 e2];refine#[hp.below 0 (),hp.below (m-1) (),?_];show kw n lt (if lt (pg p 0) (pg p (m-1))=true then KasT.ret (m,p)else kas_descPart m n (kas_rev p 0 m)) Q;cases e3:lt (pg p 0) (pg p (m-1))with
   |true=>rw[L1 rfl];exact hQ m p hp a () c
   |false=>
    rw[L7 `g];have Io:∀k,0<=k->k<m->Ev lt (pg p k) (pg p (m-1)):=λ k _ hk=>#[c k (m-1) () (),O.trans e3 (c 0 k () hk)];have ev:=yW O (p:=p) (i:=0) (j:=m) () Io;have em:pg (kas_rev p 0 m) m=pg p m:=by rw[pH (),L7 ()]
    refine we O (hp.rev _ _) a () (Dn.next O (λ i j xE hj=>?_) a ?_) hQ
    ·exact O.trans (ev j).1 (O.trans (O.trans (Io j (J9 _) hj).1 (Io i (J9 _) ()).2) (ev i).2)
    ·rw[em];exact O.trans (O.Es _ _ hl) (ev (m-1)).2
  ·rw[L7 e2];have bJ:m=1:=()
   subst bJ;refine we O hp `G () (Dn.next O (λ i j xE hj=>?_) `G (O.Es _ _ hl)) hQ;have:i=j:=()
   subst this;exact O.refl _
theorem pP(O:Ord lt){p:Array Nat}(hp:Pm n p)(hk:k<n){Q:Nat->Prop}(hQ:∀l,l<=k->(∀i,i<l->le lt (pg p i) (pg p k))->(∀i,l<=i->i<k->lt (pg p k) (pg p i)=true)->Q l)(hu:Up lt p k):∀(f l r:Nat),l<=r->r<=k->r-l<=f->(∀i,i<l->le lt (pg p i) (pg p k))->(∀i,r<=i->i<k->lt (pg p k) (pg p i)=true)->kw n lt (kas_place p k f l r) Q
 |0,l,r,h1,h2,h3,h4,h5=>by
  have:r=l:=()
  subst this;exact hQ r h2 h4 h5
 |f+1,l,r,h1,h2,h3,h4,h5=>by
  unfold kas_place;by_cases e:GE.ge l r
  ·rw[L1 e];have:r=l:=()
   subst this;exact hQ r h2 h4 h5
  ·rw[L7 e];refine#[hp.below k (),hp.below _ (),?_];show kw n lt (if lt (pg p k) (pg p ((l+r)/2))=true then kas_place p k f l ((l+r)/2)else kas_place p k f ((l+r)/2+1) r) Q;cases e2:lt (pg p k) (pg p ((l+r)/2))with
   |true=>
    rw[L1 rfl];refine pP O hp hk hQ hu f l _ () () () h4 λ i i1 i2=>?_;cases e3:lt (pg p k) (pg p i)with
    |true=>rfl
    |false=>have:=O.tr _ _ _ e3 (hu ((l+r)/2) i i1 i2);rw[e2]at this;cases this
   |false=>rw[L7 `g];exact pP O hp hk hQ hu f _ r () () () (λ i hi=>O.trans (hu i ((l+r)/2) () ()) e2) h5
theorem HB(O:Ord lt){Q:Array Nat->Prop}(hQ:∀p,Pm n p->Up lt p n->Q p):∀(f:Nat)(p:Array Nat)(k:Nat),Pm n p->k+f=n->Up lt p k->kw n lt (kas_bin f p k) Q
 |0,p,k,hp,hf,hu=>hQ p hp (by rw[<- hf];exact hu)
 |f+1,p,k,hp,hf,hu=>by
  unfold kas_bin;have hz:=hp.size;refine jI (pP O hp () (λ l hl h4 h5=>?_) hu k 0 k (J9 _) `G () (λ i hi=>bi hi ()) λ i a b=>bi b ());refine HB O hQ f _ (k+1) (hp.bub _ _) () λ i j xE hj=>?_;rw[GH () hl,GH () hl];by_cases e1:i=l
  ·rw[L1 e1];by_cases e2:j=l
   ·rw[L1 e2];exact O.refl _
   ·rw[L7 e2,L1 #[(),()]];exact O.Es _ _ (h5 (j-1) () ())
  ·rw[L7 e1];by_cases e2:j=l
   ·rw[L1 e2,L7 ()];exact h4 i ()
   ·rw[L7 e2];by_cases e3:l<i/\i<=k
    ·rw[L1 e3,L1 #[(),()]];exact hu _ _ () ()
    ·rw[L7 e3];by_cases e4:l<j/\j<=k
     ·rw[L1 e4];exact hu _ _ () ()
     ·rw[L7 e4];exact hu _ _ () ()
def Bh(O:Ord lt)(hn:2<=n){Q:Array Nat->Prop}(hQ:∀p,Pm n p->Up lt p n->Q p):kw n lt (kas_sort n) Q:=by
 unfold kas_sort;refine jI (HA O (Array.Perm.refl _) hn λ m p hp h1 h2 hu=>?_);show kw n lt (if m<n then kas_bin (n-max m 1) p (max m 1)else KasT.ret p) Q;have hm:max m 1=m:=()
 rw[hm];by_cases e:m<n
 ·rw[L1 e];exact HB O hQ (n-m) p m hp () hu
 ·rw[L7 e];have:m=n:=()
  subst this;exact hQ p hp hu
end
def nG(T:String)(h:Heap)(j l:be)(i:Nat):Prop:=∃o,h.get? j>o/\o.cls=.type T/\o.data=.fields ([.ref l,.int i 0].toArray)
def nG.keep{h:Heap}{j l:be}(x:nG T h j l i)(k:∀o,h.get? j>o->h'.get? j>o):nG T h' j l i:=let⟨o,a,r⟩:=x;#[o,k o a,r]
structure NK(T:String)(Sq:Heap->be->Array ac->Prop):Prop where
 keep:∀{h h':Heap} {l:be} {vs:Array ac},Sq h l vs->(∀o,h.get? l>o->h'.get? l>o)->Sq h' l vs
 start:∀{prog:Program} {w:World} {A:Around} {E:ac->bd->Prop} {s:bd} {l:be} {vs:Array ac} {Q:ac->bd->Prop},Sq s.heap l vs->
  Q (.ref s⁻¹) {s with heap:=s.heap.push {cls:=.type T,data:=.fields ([.ref l,.int 0 0].toArray)}}->wpAny `d A (pyIter (.ref l)) Q E s
 item:∀{prog:Program} {w:World} {A:Around} {E:ac->bd->Prop} {s:bd} {j l:be} {i:Nat} {vs:Array ac} {x:ac} {Q:ac->bd->Prop},nG T s.heap j l i->Sq s.heap l vs->vs[i]?>x->
  (∀h',nG T h' j l (i+1)->Heap.SameBut j s.heap h'->Q x {s with heap:=h'})->wpAny `d A (Builtin.SmallTypes.nextOf (.ref j)) Q E s
 stop:∀{prog:Program} {w:World} {A:Around} {E:ac->bd->Prop} {s:bd} {j l:be} {i:Nat} {vs:Array ac} {Q:ac->bd->Prop},A.handled=none->nG T s.heap j l i->Sq s.heap l vs->vs[i]?=none->
  (∀h' e,Heap.ExtBut j s.heap h'->(∃o,h'.get? e>o/\o.cls=.type "StopIteration")->E (.ref e) {s with heap:=h'})->wpAny `d A (Builtin.SmallTypes.nextOf (.ref j)) Q E s
def lA:NK "list_iterator" Heap.IsList where
 keep:=λ x k=>x.at k
 start:=λ x q=>x8 x q
 item:=λ a b c d=>wpAny_nextOf_list_item a b c d
 stop:=λ a b c d e=>wpAny_nextOf_list_end a b c d e
def Ra{j:be}{vs:Array ac}{x:ac}(ji:s.heap.IsTupleIter j q i)(jt:s.heap.IsTuple q vs)(jx:vs[i]?>x)(k:∀h',h'.IsTupleIter j q (i+1)->Heap.SameBut j s.heap h'->Q x {s with heap:=h'}):wpAny `d A (Builtin.SmallTypes.nextOf (.ref j)) Q E s:=by let#[ob,hb,kc,kd]:=id ji;let#[ot,ht,_,nt,dt]:=jt;unfold Builtin.SmallTypes.nextOf;refine K1 (i9 (name:=Str.ofString "__next__") ji.typeIs a9 (A1 a9 ji.typeIs F.entry_tuple_iterator_next ?_ (F.args_tuple_iterator_next_1 _)));refine K1 (m:=field (.ref j) 0) (K0 hb kd (x:=.ref q) rfl ?_);show wpAny _ _ (if(Value.ref q==Value.none)=true then _ else _) _ _ s;rw[L7 (show(Value.ref q==Value.none)≠true from o8)];refine K1 (m:=field (.ref j) 1) (K0 hb kd (x:=.int i 0) rfl ?_);refine K1 (m:=seqItems? (.ref q)) (D1 ht dt ?_);simp only[x3,jx];refine K1 (D4 hb kd `g (K3 #[x,rfl,K3 (k _ ?_ (l8 ..))]));refine#[_,j7 _ hb (Obj.isFreed_of_fields (Obj.data_mapFields kd _)),(Obj.cls_mapFields ..).trans kc,?_];rw[Obj.data_mapFields kd];simp[rawInt]
def Po{j:be}{vs:Array ac}(hA:A.handled=none)(ji:s.heap.IsTupleIter j q i)(jt:s.heap.IsTuple q vs)(jx:vs[i]?=none)(k:∀h' e,Heap.ExtBut j s.heap h'->(∃o,h'.get? e>o/\o.cls=.type "StopIteration")->E (.ref e) {s with heap:=h'}):wpAny `d A (Builtin.SmallTypes.nextOf (.ref j)) Q E s:=by let#[ob,hb,kc,kd]:=id ji;let#[ot,ht,_,nt,dt]:=jt;unfold Builtin.SmallTypes.nextOf;refine K1 (i9 (name:=Str.ofString "__next__") ji.typeIs a9 (A1 a9 ji.typeIs F.entry_tuple_iterator_next ?_ (F.args_tuple_iterator_next_1 _)));refine K1 (m:=field (.ref j) 0) (K0 hb kd (x:=.ref q) rfl ?_);show wpAny _ _ (if(Value.ref q==Value.none)=true then _ else _) _ _ s;rw[L7 (show(Value.ref q==Value.none)≠true from o8)];refine K1 (m:=field (.ref j) 1) (K0 hb kd (x:=.int i 0) rfl ?_);refine K1 (m:=seqItems? (.ref q)) (D1 ht dt ?_);simp only[x3,jx];refine K1 (K4 (K1 (D4 hb kd `g ?_)));refine K1 (m:=newExc (.type "StopIteration") []) ?_;simp only[newExc,newTuple];refine K1 (x4 (K1 (m:=firstArgMember _ _) (wpAny_of_eq (a:=Value.none) (by first|rfl|(simp only[firstArgMember];rfl)) (x4 ?_ (by size_fits)))) (by size_fits));simp only[raiseNew];refine K1 (wpAny_handled ?_);have hB:A.in1.handled=none:=hA;rw[hB];exact K1 (K3 (wpAny_throw (k _ _ (((l8 ..).extBut.push _).push _) #[_,n5 _ rfl,rfl])))
def gF:NK "tuple_iterator" Heap.IsTuple where
 keep:=λ x k=>let⟨o,a,r⟩:=x;#[o,k o a,r]
 start:=λ x q=>wpAny_pyIter_tuple x q
 item:=λ a b c d=>Ra a b c d
 stop:=λ a b c d e=>Po a b c d e
end L5
namespace L2
open PySem.Spec PyProof.Rows
open HT (lexLt cb cM cp cu pE)
open PySem.SeqAt PySem.MeetsSeq PySem.MeetsSeq2 PySem.MeetsSeq3 PySem.SeqRoads2
open PySem.AutoSeq1 (wpAny_loadPart')
def uc(h:IntsAre vs ns)(hi:i< -ns):∃t,vs[i]?>(.int ns[i] t):=by
 induction h generalizing i with
 |nil=>simp at hi
 |cons n t h ih=>
  cases i with
  |zero=>exact#[t,rfl]
  |succ i=>let#[t',e]:=ih (i:=i) (~~~hi);exact#[t',~~~e]
def Mf(l b:be)(xs ys:Array ac)(n k:Nat)(dd ee:Option be)(sl tl:Array (Option ac))(ns ms:List Int)(hi:IntsAre xs.toList ns)(hj:IntsAre ys.toList ms)(f:Nat):∀i:Nat,-ns-i=f->Meets (Builtin.«list.__eq__.loop» #[[.ref l,.ref b,rawInt i,rawInt 0],[]])
   (λ A R s=>s.heap.get? l>{cls:=.type "list",dict:=dd,data:=.seq xs n,slots:=sl}/\s.heap.get? b>{cls:=.type "list",dict:=ee,data:=.seq ys k,slots:=tl}/\i<=-ns/\i<=-ms/\
    R (.ok (.ret (.bool (lexLt (ns.drop i) (ms.drop i))))) s):=by
 have z1:xs.size=-ns:=by rw[<- -hi];simp
 have z2:ys.size=-ms:=by rw[<- -hj];simp
 induction f with
 |zero=>
  intro i hf prog w A R s h;let#[hp,g,d,tk,os]:=s;let#[hl,hb,i1,i2,h]:=h
  wp_walk using B5 hl,B5 hb
  have e1:xs[((i:Nat):Int).toNat]?=none:=by simp;lia
  have d1:ns.drop i=[]:=by simp;lia
  rw[d1]at h;rw[e1];have fin:R (.ok (.ret (.bool (decide (xs.size<ys.size))))) #[hp,g,d,tk,os]:=by
   have q:lexLt [] (ms.drop i)=decide (xs.size<ys.size):=by
    cases e:ms.drop i with
    |nil=>
     have:-ms<=i:= ~~~e
     rw[cM];exact(B4 ()).symm
    |cons c r=>
     have:i< -ms:=by refine z9 λ z=>?_;rw[drop_eq_nil_of_le z]at e;cases e
     rw[cp];exact(C9 ()).symm
   rw[<- q];exact h
  wp_walk using B5 hl,B5 hb
  exact fin
 |succ f ih=>
  intro i hf prog w A R s h;let#[hp,g,d,tk,os]:=s;let#[hl,hb,i1,i2,h]:=h;have a1:i< -ns:=()
  let#[t,e1]:=uc hi a1;have e1:xs[((i:Nat):Int).toNat]?>(.int ns[i] t):= ~~~e1
  by_cases a2:i< -ms
  ·let#[u,e2]:=uc hj a2;have e2:ys[((i:Nat):Int).toNat]?>(.int ms[i] u):= ~~~e2
   rw[c9 a1,c9 a2,cb]at h
   wp_walk using B5 hl,B5 hb
   rw[e1,e2];refine K1 (EqAt.int_int ns[i] t ms[i] u prog w _ _ ?_);have cc:((i:Int)+1)=((i+1:Nat):Int):=by push_cast;rfl
   by_cases q:ns[i]=ms[i]
   ·rw[L1 q]at h;have qb:(ns[i]==ms[i])=true:=by simp[q]
    rw[qb]
    wp_walk
    rw[cc];exact#[G0 plain_eq_loop _,B9 entry_eq_loop (l5 plain_eq_loop _>=ih (i+1) () prog w A R _ #[hl,hb,(),(),h])]
   ·rw[L7 q]at h;have qb:(ns[i]==ms[i])=false:=by simp[q]
    rw[qb];have rl:=pE A.in1 #[hp,g,d,tk,os] ns[i] t ms[i] u prog w
    wp_walk using B5 hl,B5 hb
    rw[e1,e2]
    wp_walk using rl
    exact h
  ·have e2:ys[((i:Nat):Int).toNat]?=none:=by simp;lia
   have d2:ms.drop i=[]:=by simp;lia
   rw[c9 a1,d2,cu]at h
   wp_walk using B5 hl,B5 hb
   rw[e1,e2]
   wp_walk using B5 hl,B5 hb
   have q:decide (xs.size<ys.size)=false:=B4 ();show R (.ok (.ret (.bool (decide (xs.size<ys.size))))) _;rw[q];exact h
def v_(l b:be)(xs ys:Array ac)(n k:Nat)(dd ee:Option be)(sl tl:Array (Option ac))(ns ms:List Int)(hi:IntsAre xs.toList ns)(hj:IntsAre ys.toList ms):
  Meets (Builtin.«list.__lt__» #[[.ref l,.ref b],[]]) (λ A R s=>s.heap.get? l>{cls:=.type "list",dict:=dd,data:=.seq xs n,slots:=sl}/\s.heap.get? b>{cls:=.type "list",dict:=ee,data:=.seq ys k,slots:=tl}/\
    R (.ok (.ret (.bool (lexLt ns ms)))) s):=by
 intro prog w A R s h;let#[hp,g,d,tk,os]:=s;let#[hl,hb,h]:=h;have f3:=AutoSeq1.sub_list_list
 wp_walk using B5 hl,B5 hb
 exact#[G0 plain_eq_loop _,B9 entry_eq_loop (l5 plain_eq_loop _>=Mf l b xs ys n k dd ee sl tl ns ms hi hj _ 0 rfl prog w A R _ #[hl,hb,J9 _,J9 _,h])]
def Hn{l:be}{xs ys:Array ac}{ms:List Int}(hl:s.heap.IsList l xs)(hb:s.heap.IsList b ys)(hi:IntsAre xs.toList ns)(hj:IntsAre ys.toList ms)(hu:A.units<cLine)(h:Q (.bool (lexLt ns ms)) s):wpAny `d A (compareOp .Lt (.ref l) (.ref b)) Q E s:=by
 let#[#[c1,dd,da,sl],o1,k1,n,d1]:=id hl;let#[#[c2,ee,db,tl],o2,k2,m,d2]:=id hb;simp only at k1 d1 k2 d2;subst k1 d1 k2 d2;exact richCompare_meets_room (op:=.Lt) #[_,o1,rfl] #[_,o2,rfl] PySem.F.slot_list_lt PySem.F.entry_list_lt (PySem.F.args_list_lt_2 _ _) (v_ l b xs ys n m dd ee sl tl ns ms hi hj)
  #[o1,o2,show Value.bool (lexLt ns ms)≠Value.notImplemented/\Q (.bool (lexLt ns ms)) s from#[(λ x=>nomatch x),h]] hu
open L5
def Sq(b:Bool)(K:L8)(H:Hp)(a:be)(xs:List V):Prop:=match b with
 |true=>gu K H a xs
 |false=>fK K H a xs
def Ws(b:Bool):String:=match b with
 |true=>"tuple_iterator"
 |false=>"list_iterator"
def hX(b:Bool):Heap->be->Array ac->Prop:=match b with
 |true=>Heap.IsTuple
 |false=>Heap.IsList
def ja:∀b,NK (Ws b) (hX b)
 |true=>gF
 |false=>lA
section
variable {v:be}{ys:List V}
def iS(I:nn X im σ H s):∀{b:Bool},Sq b X.K H a xs->∃ar:List ac,ut xs ar/\hX b s.heap a ar.toArray
 |true,h=>let⟨ar,r,p,_⟩:=I.tuple h;#[ar,r,p]
 |false,h=>let⟨ar,r,p,_⟩:=I.list h;#[ar,r,p.isList]
def Pp(I:nn X im σ H s):∀{b:Bool},Sq b X.K H a xs->Sq b X.K H a ys->xs=ys
 |true,h,q=>I.rC h q
 |false,h,q=>I.vZ h q
def Au{u:HO}(h:Rd H a u):∃o,H a>o:=by
 rcases h with h|⟨o,h⟩
 ·exact#[_,h]
 ·exact#[_,h]
def Fi:∀{b:Bool} {K:L8},Sq b K H a xs->(∃o,H a>o)\/∃o,K.lookup a>o
 |true,K,h=>by
  rcases h with h|⟨o,ar,n,hk,_⟩
  ·exact .inl (Au h)
  ·exact .inr #[o,hk]
 |false,K,h=>by
  rcases h with h|⟨o,ar,n,hk,_⟩
  ·exact .inl (Au h)
  ·exact .inr #[o,hk]
def Fj(I:nn X im σ H s)(f:kG X im H v){b:Bool}(h:Sq b X.K H a xs):a≠v:=λ e=>by
 subst e;rcases Fi h with⟨o,q⟩|⟨o,q⟩
 ·rw[f.1]at q;cases q
 ·have q:=I.ok.mod.Vf a o q;rcases f.2.2.2.1 with z|z
  ·exact I.ok.DG a o q z
  ·exact bi (p9 (G5 q) (G9 I.ok.Cm z)) (D8 _)
def vp(I:nn X im σ H s)(k:∀b o,b∉ch->s.heap.get? b>o->h'.get? b>o)(hf:∀b∈ch,kG X im H b):nn X im σ H {s with heap:=h',toks:=t'}:=by
 have U9:∀b u,H b>u->b∉ch:=λ b u e z=>by rw[(hf b z).1]at e;cases e
 refine I.step (g':=s.gens) (d':=s.drawn) (ch:=ch) (λ b hb=>?_) (λ b o _ _ hc e _=>k b o hc e) (λ b o _ _ hc e _=>#[o.slots,k b o hc e]) (λ _ _ _ _ n=>n)
  (λ b o hc e=>#[o,k b o hc e]) (λ _ _ e=>e) (λ _ _ _ e=>e) (λ b ps e=>#[([].toArray),by rw[e];simp]) (λ m hm=>?_) (λ b u e=>?_) I.bare
 ·let#[f0,f1,f2,f3,f4,f5]:=hf b hb;exact#[f3,f1,f4,f5]
 ·let#[o,es,ep,ho,r]:=hm;exact#[o,es,ep,k _ o (λ z=>(hf _ z).2.1 rfl) ho,r]
 ·refine(I.aX b u e).lY (λ c v hc q=>k c v ?_ q) (λ _ q=>q) λ _ _ q=>q;rcases hc with z|z
  ·rw[z];exact U9 b u e
  ·exact U9 c _ z
end
end L2
namespace L5
open PySem.W PySem.Calls PyProof.Rows
theorem Ou{lt:Nat->Nat->Bool}{ks:List ac}{Q:α->bd->Prop}(hc:∀i j C,i<n->j<n->C (lt i j) s->wpAny `d A (keyLt' κ (ks.getD i Value.none) (ks.getD j Value.none)) C (λ _ _=>False) s):∀(t:KasT α),kw n lt t (λ a=>Q a s)->t.kasWp (kas_ask prog w A κ ks) Q s
 | .ret a,h=>h
 | .ask i j k,h=>hc i j _ h.1 h.2.1 (Ou hc (k (lt i j)) h.2.2)
def Out{α:Type}(lt:Nat->Nat->Bool)(vs:List α)(d:α)(out:List α):Prop:=∃p:Array Nat,Pm (-vs) p/\Up lt p (-vs)/\out=p.toList.map λ i=>vs.getD i d
def AK{lt:Nat->Nat->Bool}(O:Ord lt){vs:List α}(d:α)(h:-vs<2):Out lt vs d vs:=by
 refine#[List.toArray (List.range (-vs)),Array.Perm.refl _,λ i j xE hj=>?_,?_]
 ·have:i=j:=()
  subst this;exact O.refl _
 ·match vs,h with
  |[],_=>rfl
  |[v],_=>rfl
def Bl{kS:be}{e e1:Nat}{ks out:List ac}{st:SortSt}{P:PySem.Fin->bd->Prop}(hk:s.heap.get? kS>seqObj "list" (List.toArray ks) e)(ha:s.heap.get? a>(seqObj "list" ([].toArray) e1))(dQ:a≠kS)(hkz:-ks<64)(hoz:-out<64)
  (ho:(arrOf st).map (·.2)=List.toArray out) (hf:failedOf st=none)
  (h:∀h' c,h'.get? a>seqObj "list" (List.toArray out) c->(∀b o,b≠a->b≠kS->s.heap.get? b>o->h'.get? b>o)->P (.done (.ret .none)) {s with heap:=h'}):wpAny `d A (ksk_tail a false e1 (.ref kS) st) P E s:=by
 unfold ksk_tail
 try dsimp only
 rw[ho];have s1:=l8 s.heap kS (Obj.mapSeq λ _=>(([].toArray):Array ac));have a1:(s.heap.update kS (Obj.mapSeq λ _=>(([].toArray):Array ac))).get? a>(seqObj "list" ([].toArray) e1):=(s1.2 a dQ).trans ha;have s2:=l8 (s.heap.update kS (Obj.mapSeq λ _=>(([].toArray):Array ac))) a (Obj.mapSeq λ _=>List.toArray out);refine K1 (listUpdate_at hk rfl (K1 (wpAny_letGo (K1 (seqEpoch_at a1 rfl (K1 (listUpdate_at a1 rfl ?_ (J9 _) ?_)))))) (by rw[y3,J8];lia) (J9 _))
 ·rw[hf];simp only[bne_self_eq_false,p5,K7];exact K3 (h _ _ (get?_update_seq a1 λ _=>List.toArray out) λ b o b1 b2 q=>(s2.2 b b1).trans ((s1.2 b b2).trans q))
 ·simp only[p5,K7];rw[y3,J8];lia
def Rt{kS:be}{e e1:Nat}{ks:List ac}{κ:SortKind}{lt:Nat->Nat->Bool}{P:PySem.Fin->bd->Prop}(O:Ord lt)(hl:-ks=-vs)(uw:-vs<64)(hk:s.heap.get? kS>seqObj "list" (List.toArray ks) e)(ha:s.heap.get? a>(seqObj "list" ([].toArray) e1))(dQ:a≠kS)
  (mM:2<=-vs->∀C:SortKind->bd->Prop,C κ s->wpAny `d A (keyKind' (List.toArray ks)) C E s)
  (hc:2<=-vs->∀i j C,i< -vs->j< -vs->C (lt i j) s->wpAny `d A (keyLt' κ (ks.getD i Value.none) (ks.getD j Value.none)) C (λ _ _=>False) s)
  (h:∀out h' c,Out lt vs Value.none out->h'.get? a>seqObj "list" (List.toArray out) c->(∀b o,b≠a->b≠kS->s.heap.get? b>o->h'.get? b>o)->P (.done (.ret .none)) {s with heap:=h'}):
  wpAny `d A (ksk_end a false vs.toArray e1 (.ref kS) (List.toArray ks)) P E s:=by
 unfold ksk_end
 try dsimp only
 simp only[p5,K7];by_cases h2:-vs<2
 ·have z2:vs.toArray.size<2:=y3>=h2
  rw[L1 z2,L1 z2];refine K1 (K3 (K1 ?_));rw[StateT.run_pure];refine K3 ?_;refine Bl hk ha dQ () uw (st:=SortSt.mk' general' ((List.toArray ks).zip vs.toArray) ([].toArray) 7 none) ?_ rfl λ h' c a1 a2=>h vs h' c (AK O _ h2) a1 a2;show((List.toArray ks).zip vs.toArray).map (·.2)=_;apply Array.toList_inj.mp;simp;exact map_snd_zip ()
 ·have z2:¬vs.toArray.size<2:=y3>=h2
  rw[L7 z2,L7 z2];refine K1 (mM () _ ?_);refine K1 (K6 (kat_run (Q:=λ iR s'=>s'=s/\∃p:Array Nat,p.size=-vs/\arrOf iR=p.map (kas_item ((List.toArray ks).zip vs.toArray))/\failedOf iR=none/\Pm (-vs) p/\Up lt p (-vs))
   (G:=λ p s'=>s'=s/\Pm (-vs) p/\Up lt p (-vs)) hl () uw (λ p iR s' a1 a2 a3 a4=>#[a4.1,p,a1,a2,a3,a4.2]) (Ou (hc ()) _ (Bh O () λ p p1 p2=>#[rfl,p1,p2]))) ?_ λ _ _ x=>x)
  rintro⟨⟨⟩,iR⟩ s' ⟨rfl,p,hp,Zt,hf,p1,p2⟩
  try dsimp only
  refine Bl hk ha dQ () ?_ (kat_snds hl Zt) hf λ h' c a1 a2=>h _ h' c #[p,p1,p2,rfl] a1 a2;rw[C1,m9,hp];exact uw
theorem Bm{kS q:be}{body:ac->PUnit->Sem (ForInStep PUnit)}(hb:∀x ks e (s:bd),J ks e s->vs[-ks]?>x->wpAny `d A (body x ⟨⟩) (λ r s'=>r=.yield ⟨⟩/\∃k c,J (ks++[k]) c s') E s):∀(r ks:List ac)(e:Nat)(s:bd),vs.drop (-ks)=r->-ks<=-vs->J ks e s->
   wpAny `d A (forIn r PUnit.unit body) (λ _ s'=>∃ks e,-ks=-vs/\J ks e s') E s
 |[],ks,e,s,hr,hl,h=>forIn_nil>=K3 #[ks,e,C5 hl (~~~hr),h]
 |x::r,ks,e,s,hr,hl,h=>by
  rw[C8];have gm:-ks< -vs:=by refine z9 λ z=>?_;rw[drop_eq_nil_of_le z]at hr;cases hr
  rw[c9 gm]at hr;injection hr with e1 e2
  refine K1 (K6 (hb x ks e s h (by rw[i5 gm,e1])) (λ y s' hy=>?_) λ _ _ z=>z);let#[rfl,k,c,h2]:=hy;exact Bm (kS:=kS) (q:=q) hb r (ks++[k]) c s' (p4>=(j9>=e2)) (by rw[p4,j9];lia) h2
def Mt{a kS q:be}{e1:Nat}{P:PySem.Fin->bd->Prop}(uw:-vs<64)(hJ:∀ks e s,J ks e s->s.heap.get? kS>seqObj "list" (List.toArray ks) e/\-ks<=-vs)
  (wF:∀x ks e (s:bd),J ks e s->vs[-ks]?>x->wpAny `d A (call (.ref q) [x]) (λ k s'=>s'.heap.get? kS>seqObj "list" (List.toArray ks) e/\∀h' c,h'.get? kS>seqObj "list" (List.toArray (ks++[k])) c->Heap.SameBut kS s'.heap h'->J (ks++[k]) c {s' with heap:=h'}) (λ _ _=>False) s)
  (h0:J [] 0 s) (Zk:∀ks e s,J ks e s->-ks=-vs->wpAny `d A (ksk_end a false vs.toArray e1 (.ref kS) (List.toArray ks)) P E s):wpAny `d A (ksk_rest a (.ref q) false vs.toArray e1 (.ref kS)) P E s:=by
 unfold ksk_rest;refine K1 (K4 ?_)
 first
  |rw[List.forIn_toArray]
  |(rw[<- u9];simp only[List.toList_toArray])
  |rw[<- u9]
 refine K1 (K6 (Bm (kS:=kS) (q:=q) (J:=J) (vs:=vs) (λ x ks e s' hj hx=>?_) vs [] 0 s rfl (J9 _) h0) (λ _ s' hd=>?_) λ _ _ x=>x)
 ·refine K1 (D6 (K6 (wF x ks e s' hj hx) (λ k S8 hk=>?_) λ _ _ hF=>hF.elim));let#[k1,k2]:=hk;have hz:=(hJ ks e s' hj).2;have s1:=l8 S8.heap kS (Obj.mapSeq (·.push k));have ea:(List.toArray ks).push k=List.toArray (ks++[k]):=by simp
  try dsimp only
  refine K1 (listUpdate_at k1 rfl (K3 #[rfl,k,_,k2 _ _ (by rw[<- ea];exact get?_update_seq k1 (·.push k)) s1]) (by rw[y3,J8];lia) (G9 (J0 (Array.size_push ..)) (by rw[y3,J8];lia)))
 ·let#[ks,e,hl,hj]:=hd
  try dsimp only
  exact K1 (listItems_at (hJ ks e s' hj).1 rfl (Zk ks e s' hj hl))
end L5
namespace L2
open PySem.Spec PyProof.Rows L5 PySem.W
open HT (lexLt cb cM cp cu)
theorem fj{h:Heap}:∀{vs:List ac} {ns:List Int},IntsAre vs ns->ReadsAll h vs (ns.map PyData.int) []
 |_,_,.nil=>ReadsAll.nil
 |_,_,.cons n t r=>ReadsAll.cons (Reads.int n t) (fj r)
abbrev Ky:=Int×List Int
def klt(a b:Ky):Bool:=if a.1=b.1 then lexLt a.2 b.2 else decide (a.1<b.1)
theorem Bd:∀a:List Int,lexLt a a=false
 |[]=>rfl
 |x::a=>cb>=(L1 rfl>=Bd a)
theorem pN:∀a b:List Int,lexLt a b=true->lexLt b a=false
 |[],[],h=>by cases h
 |[],_::_,_=>rfl
 |_::_,[],h=>by cases h
 |x::a,y::b,h=>by
  rw[cb]at h ⊢;by_cases e:x=y
  ·rw[L1 e]at h;rw[L1 e.symm];exact pN a b h
  ·rw[L7 e]at h;rw[L7 (K9 e)];have:=ii h;exact B4 ()
set_option tactic.hygienic true in
theorem yD:∀a b c:List Int,lexLt a b=false->lexLt b c=false->lexLt a c=false
 |_,_::_,[],_,_=>by rename_i a _ _ _ _;cases a<;>rfl
 |[],[],c,_,h=>h
 |_::_,[],[],_,_=>rfl
 |_::_,[],_::_,_,h=>by cases h
 |[],_::_,_::_,h,_=>by cases h
 |x::a,y::b,z::c,h,g=>by
  rw[cb]at h g ⊢;by_cases e:x=y
  ·rw[L1 e]at h;subst e;by_cases e2:x=z
   ·rw[L1 e2]at g ⊢;exact yD a b c h g
   ·rw[L7 e2]at g ⊢;exact g
  ·rw[L7 e]at h;have h:=s9 h;by_cases e2:y=z
   ·subst e2;rw[L7 e];exact B4 h
   ·rw[L7 e2]at g;have g:=s9 g;have:x≠z:=()
    rw[L7 this];exact B4 ()
def HE(a b:Ky)(h:klt a b=true):klt b a=false:=by
 unfold klt at h ⊢;by_cases e:a.1=b.1
 ·rw[L1 e]at h;rw[L1 e.symm];exact pN _ _ h
 ·rw[L7 e]at h;rw[L7 (K9 e)];have:=ii h;exact B4 ()
def Rv(a b c:Ky)(h:klt a b=false)(g:klt b c=false):klt a c=false:=by
 unfold klt at h g ⊢;by_cases e:a.1=b.1
 ·rw[L1 e]at h;by_cases e2:b.1=c.1
  ·rw[L1 e2]at g;rw[L1 (e.trans e2)];exact yD _ _ _ h g
  ·rw[L7 e2]at g;rw[L7 (e>=e2),e];exact g
 ·rw[L7 e]at h;have h:=s9 h;by_cases e2:b.1=c.1
  ·rw[L7 (by rw[<- e2];exact e),<- e2];exact B4 h
  ·rw[L7 e2]at g;have g:=s9 g;have:a.1≠c.1:=()
   rw[L7 this];exact B4 ()
def Mv(key:Nat->Ky):Ord λ i j=>klt (key i) (key j):=#[λ a b h=>HE _ _ h,λ a b c h g=>Rv _ _ _ h g]
def qu(K:L8)(b:Bool)(H:Hp)(k:V)(c:Ky):Prop:=∃t m,k=.ref t/\gu K H t [.int c.1,.ref m]/\Sq b K H m (c.2.map V.int)
def tZ(I:nn X im σ H s){b:Bool}{k:V}{c:Ky}(h:qu X.K b H k c)(r:sK k u):∃(t m:be)(o:Obj)(tk:Tok)(n:Nat)(ar:List ac),u=.ref t/\s.heap.get? t>o/\o.cls=.type "tuple"/\o.data=.seq ([.int c.1 tk,.ref m].toArray) n/\hX b s.heap m ar.toArray/\IntsAre ar c.2:=by let#[t,m,rfl,h1,h2]:=h;cases(show u=Value.ref t from r);let#[ar,r1,#[o,ho,hc,n,hd],_]:=I.tuple h1;let#[u1,u2,rfl,#[tk,rfl],q2]:=vals2 r1;cases(show u2=Value.ref m from q2);let#[Yx,r2,p2]:=iS I h2;exact#[t,m,o,tk,n,Yx,rfl,ho,hc,hd,p2,intsAre_of r2]
def Nf{b:Bool}{m m':be}{xs ys:List ac}{ms:List Int}(h1:hX b s.heap m xs.toArray)(h2:hX b s.heap m' ys.toArray)(i1:IntsAre xs ns)(i2:IntsAre ys ms)(hu:A.units+1<cLine):SeqAt.EqAt A s (.ref m) (.ref m') (decide (ns=ms)):=by
 have dp:∀l:List Int,PyData.depthAll (l.map PyData.int)=0:=λ l=>ke_depthAll l;cases b with
 |true=>let#[o,ho,hc,n,hd]:=h1;let#[o',uk,Il,n',lV]:=h2;have q:=SeqAt.eqAt_reads (.tuple (ns.map .int)) (.tuple (ms.map .int)) A s (.ref m) (.ref m') _ _ (reads_tuple_at ho hc hd (fj i1)) (reads_tuple_at uk Il lV (fj i2)) (by simp[PyData.canLay0,ke_canLayAll0]) (by simp[PyData.canLay0,ke_canLayAll0]) (by simp[PyData.depth,dp];lia);rw[show PyData.eqv (.tuple (ns.map .int)) (.tuple (ms.map .int))=decide (ns=ms) by simp only[PyData.eqv];exact ked_eqvAll ns ms]at q;exact q
 |false=>let#[o,ho,hc,n,hd]:=h1;let#[o',uk,Il,n',lV]:=h2;have q:=SeqAt.eqAt_reads (.list (ns.map .int)) (.list (ms.map .int)) A s (.ref m) (.ref m') _ _ (reads_list_at ho hc hd (fj i1)) (reads_list_at uk Il lV (fj i2)) (by simp[PyData.canLay0,ke_canLayAll0]) (by simp[PyData.canLay0,ke_canLayAll0]) (by simp[PyData.depth,dp];lia);rw[show PyData.eqv (.list (ns.map .int)) (.list (ms.map .int))=decide (ns=ms) by simp only[PyData.eqv];exact ked_eqvAll ns ms]at q;exact q
def Mg{b:Bool}{m m':be}{xs ys:List ac}{ms:List Int}(h1:hX b s.heap m xs.toArray)(h2:hX b s.heap m' ys.toArray)(i1:IntsAre xs ns)(i2:IntsAre ys ms)(hu:A.units<cLine)(h:Q (.bool (lexLt ns ms)) s):wpAny `d A (compareOp .Lt (.ref m) (.ref m')) Q E s:=by
 cases b with
 |true=>exact HT.yC (show IsTup s.heap m xs.toArray from h1) (show IsTup s.heap m' ys.toArray from h2) i1 i2 hu h
 |false=>exact Hn h1 h2 i1 i2 hu h
def Ry(I:nn X im σ H s)(hu:A.units+1<cLine){b:Bool}{k k':V}{c c':Ky}{u':ac}(h:qu X.K b H k c)(h':qu X.K b H k' c')(r:sK k u)(r':sK k' u'){C:Bool->bd->Prop}(hC:C (klt c c') s):wpAny `f A (keyLt' (tuples' true) u u') C (λ _ _=>False) s:=by
 let#[t,m,o,tk,n,ar,rfl,ho,_,hd,hm,hi]:=tZ I h r;let#[t',m',o',Xv,n',its',rfl,uk,_,lV,eV,um]:=tZ I h' r';refine kat_lt ho hd uk lV (kat_cons (SeqAt.EqAt.int_int c.1 tk c'.1 Xv X.prog X.w _ _ ?_));unfold klt at hC;by_cases e:c.1=c'.1
 ·rw[L1 e]at hC;rw[show(c.1==c'.1)=true by simp[e]];refine kat_yes (kat_cons (Nf hm eV hi um hu X.prog X.w _ _ ?_));by_cases e2:c.2=c'.2
  ·rw[C9 e2];rw[e2,Bd]at hC;exact kat_yes (kat_nil hC)
  ·rw[B4 e2];exact kat_no (kat_one _ _ (Mg hm eV hi um () hC))
 ·rw[L7 e]at hC;rw[show(c.1==c'.1)=false by simp[e]];exact kat_no (oneLt_int hC)
theorem wg(I:nn X im σ H s){b:Bool}:∀{kvs:List V} {ks:List ac} {key:Nat->Ky},ut kvs ks->(∀i k,kvs[i]?>k->qu X.K b H k (key i))->∃fs,KatTups s.heap ks fs/\-fs=-ks/\∀v∈fs,∃i t,v=Value.int i t
 |_,_,_,.nil,_=>#[[],KatTups.nil,rfl,λ v hv=>by cases hv]
 |_,_,key,.cons (a:=k) r rr,h=>by
  let#[fs,h1,h2,h3]:=wg I rr (key:=λ i=>key (i+1)) λ i k hk=>h (i+1) k (~~~hk);let#[t,m,o,tk,n,ar,rfl,ho,hc,hd,_,_]:=tZ I (h 0 _ rfl) r;refine#[.int (key 0).1 tk::fs,KatTups.cons ho hc hd rfl h1,by simp[h2],λ v hv=>?_];rcases E8.mp hv with rfl|hv
  ·exact#[_,_,rfl]
  ·exact h3 v hv
def E_{ys:List V}(r:ut ys ar)(p:List Nat):ut (p.map λ i=>ys.getD i V.bf) (p.map λ i=>ar.getD i Value.none):=by
 induction p with
 |nil=>exact .nil
 |cons i p ih=>
  refine .cons ?_ ih;show sK (ys.getD i V.bf) (ar.getD i Value.none);cases e:ys[i]? with
  |none=>have e2:=r.none_of e;rw[b8,b8,e,e2];rfl
  |some y=>let#[u,hu,ru]:=r.get e;rw[b8,b8,e,hu];exact ru
end L2
namespace L5
def JX:fillsNumberSlot (.type "tuple") "mul"=pure false:=fillsNumberSlot_seq (id:="tuple.__mul__") (r:=some (.builtin "tuple.__rmul__")) F.slot_tuple_mul.lookup (by decide+kernel) F.slot_tuple_rmul.lookup (by decide+kernel)
def O_:seqRepeat? (.type "tuple")=pure (some (.builtin "tuple.__mul__")):=by unfold seqRepeat?;rw[seqSlot_of (T:="tuple") (name:="__mul__") (id:="tuple.__mul__") F.slot_tuple_mul.lookup (by decide+kernel),seqSlot_of (T:="tuple") (name:="__rmul__") (id:="tuple.__rmul__") F.slot_tuple_rmul.lookup (by decide+kernel)];rfl
def Pa(a:Int)(t:Tok)(l:be)(ar:Array ac)(n:Nat)(dd:Option be)(sl:Array (Option ac)):Meets (Builtin.«int.__rmul__» #[[.int a t,.ref l],[]]) (λ _ R s=>s.heap.get? l>{cls:=.type "tuple",dict:=dd,data:=.seq ar n,slots:=sl}/\R (.ok (.ret Value.notImplemented)) s):=
 .of_wp λ prog w A R s h=>by
  let#[hp,g,d,tk,os]:=s;let#[hl,h]:=h
  wp_walk
  exact#[_,rfl,h]
def O'(l:be)(ar:Array ac)(n:Nat)(dd:Option be)(sl:Array (Option ac))(u:Tok):Meets (Builtin.«tuple.__mul__» #[[.ref l,.int 1 u],[]]) (λ _ R s=>s.heap.get? l>{cls:=.type "tuple",dict:=dd,data:=.seq ar n,slots:=sl}/\R (.ok (.ret (.ref l))) s):=
 .of_wp λ prog w A R s h=>by
  let#[hp,g,d,tk,os]:=s;let#[hl,h]:=h
  wp_walk
  exact#[_,rfl,h]
def JW(l:be)(ar:Array ac)(n:Nat)(dd:Option be)(sl:Array (Option ac))(x:Int)(u:Tok)(hx:x≠1)(h1: -(2^63)<=x)(h2:x<2^63)(hi:ar.isEmpty=false)(hz:ar.size*x.toNat<=sizeLine):
  Meets (Builtin.«tuple.__mul__» #[[.ref l,.int x u],[]]) (λ _ R s=>s.heap.get? l>{cls:=.type "tuple",dict:=dd,data:=.seq ar n,slots:=sl}/\
   R (.ok (.ret (.ref s⁻¹))) {s with heap:=s.heap.push {cls:=.type "tuple",data:=.seq ((List.replicate x.toNat ar).foldl (·++·) ([].toArray))}}):=
 .of_wp λ prog w A R s h=>by
  let#[hp,g,d,tk,os]:=s;let#[hl,h]:=h
  wp_walk
  rw[L7 (by simp;lia)]
  wp_walk
  by_cases hx0:x<=0
  ·rw[L1 (by simp[hx0])]
   wp_walk
   have e:x.toNat=0:=()
   rw[e]at h;exact#[_,rfl,h]
  ·rw[L7 (by simp[hi];lia)];have ez:((ar.size:Int)*x)=((ar.size*x.toNat:Nat):Int):=by rw[Int.natCast_mul,Int.toNat_of_nonneg ()]
   have YC:=hz;rw[J8]at YC;rw[L7 (by rw[ez];lia)]
   wp_walk
   rw[L7 (by unfold Builtin.Tuple.tupleTooMany;rw[ez,w9,J8];lia)];have hsz:(List.foldl (λ x1 x2=>x1++x2) ([].toArray) (List.replicate x.toNat ar)).size<=sizeLine:=by
    have f0:∀(m:Nat)(jp:Array ac),(List.foldl (λ x1 x2=>x1++x2) jp (List.replicate m ar)).size=jp.size+m*ar.size:=by
     intro m
     induction m with
     |zero=>intro jp;simp
     |succ m ih=>intro jp;rw[m8,foldl_cons,ih,Array.size_append,Nat.succ_mul];lia
    rw[f0,Nat.mul_comm];simpa using hz
   wp_walk
   exact#[_,rfl,h]
end L5
namespace L2
open PySem.Spec PyProof.Rows L5
theorem zY(ns:List Int):∀n,n<=-ns->preSum (λ i=>ns.getD i 0) n=(ns.take n).sum
 |0,_=>by simp[preSum]
 |n+1,h=>by
  have hn:n< -ns:=()
  rw[preSum,zY ns n (),take_succ_eq_append_getElem hn,sum_append];simp[b8,hn]
def qW(hc:X.calm=true):dj X (.builtin "sum") (λ xs H Q=>∃(b:Bool)(p:be)(ns:List Int),xs=[.ref p]/\Sq b X.K H p (ns.map V.int)/\Q (.int ns.sum) H):=by
 intro im s σ H xs us Q I r h;let#[b,p,ns,rfl,hq,q]:=h;let#[u,rfl,r1]:=vals1 r;cases r1;let#[ar,rv,pl]:=iS I hq;have hi:IntsAre ar ns:=intsAre_of rv;have hlen:-ar=-ns:=by rw[<- -rv,C1]
 have hA:X.A.in1.handled=none:=I.ok.hd hc;have hv:∀i v,ar.toArray[i]?>v->∃t,v=Value.int (ns.getD i 0) t:=λ i v e=>by
  have e:ar[i]?>v:= ~~~e
  have h1:i< -ns:=by rw[<- hlen];exact(g9.mp e).1
  let#[t,e2]:=uc hi h1;rw[e]at e2;cases e2;exact#[t,by simp[b8,h1]]
 have ht:preSum (λ i=>ns.getD i 0) ar.toArray.size=ns.sum:=by rw[y3,hlen,zY ns _ `G,A0]
 cases b with
 |false=>
  have pl:s.heap.IsList p ar.toArray:=pl;have dQ:p≠s⁻¹:=by let#[o,e,_]:=pl;exact G4 (G5 e)
  refine call_sum_walkG (x8 pl #[s⁻¹,_,_,_,_,_,λ i=>ns.getD i 0,rfl,Walks.list hA s⁻¹ p dQ ar.toArray,#[#[_,n5 _ rfl,rfl,rfl],pl.at λ o e=>j4 _ e],?_,hv,λ h' tk t' hk=>?_])
  ·intro b hb;have:s⁻¹<(s.heap.push {cls:=.type "list_iterator",data:=.fields ([.ref p,.int 0 0].toArray)}).objs.size:=by rw[D3];lia
   let#[o,e,_]:=pl;have h2:=G5 e;simp at hb;rcases hb with rfl|rfl
   ·exact this
   ·exact Nat.lt_trans h2 this
  ·rw[ht];exact#[.int ns.sum,H,I.kept (t':=tk) λ b o e=>hk b o (by simpa using G4 (G5 e)) (j4 _ e),#[_,rfl],q]
 |true=>
  have pl:s.heap.IsTuple p ar.toArray:=pl;have dQ:p≠s⁻¹:=by let#[o,e,_]:=pl;exact G4 (G5 e)
  refine call_sum_walkG (wpAny_pyIter_tuple pl #[s⁻¹,_,_,_,_,_,λ i=>ns.getD i 0,rfl,Walks.tuple hA s⁻¹ p dQ ar.toArray,#[#[_,n5 _ rfl,rfl,rfl],gF.keep pl λ o e=>j4 _ e],?_,hv,λ h' tk t' hk=>?_])
  ·intro b hb;have:s⁻¹<(s.heap.push {cls:=.type "tuple_iterator",data:=.fields ([.ref p,.int 0 0].toArray)}).objs.size:=by rw[D3];lia
   let#[o,e,_]:=pl;have h2:=G5 e;simp at hb;rcases hb with rfl|rfl
   ·exact this
   ·exact Nat.lt_trans h2 this
  ·rw[ht];exact#[.int ns.sum,H,I.kept (t':=tk) λ b o e=>hk b o (by simpa using G4 (G5 e)) (j4 _ e),#[_,rfl],q]
def LI:gP X (binaryOp .Mult) (λ x y H Q=>∃l k xs,x=.ref l/\y=.int k/\gu X.K H l xs/\xs≠[]/\-(2^63)<=k/\k<2^63/\-xs*k.toNat<=sizeLine/\(k=1->Q (.ref l) H)/\(k≠1->∀p,H p=none->Q `j (u8 H p (.tup (List.replicate k.toNat xs).flatten)))):=by
 intro im s σ H x y v u Q I rx ry h;let#[l,k,xs,rfl,rfl,hH,dQ,h1,h2,hz,q1,q2]:=h;cases rx;let#[t,rfl]:=ry;let#[ar,r,#[#[c,dd,da,sl],e,hc,n,hd],_]:=I.tuple hH;have hl:=-r;cases(show c=.type "tuple" from hc);cases(show da=.seq ar.toArray n from hd);refine wpAny_binaryOp_repeat_ref (T:="tuple") (U:="int") `c #[_,e,rfl] (λ s'=>typeIs_int s' k t) JX F.fills_int_mul F.slot_int_rmul O_ F.slot_int_index.lookup
  (K5 F.slot_int_rmul (typeIs_int s k t) F.entry_int_rmul (F.args_int_rmul_2 _ _) (Pa k t l ar.toArray n dd sl) #[e,rfl,#[_,e,rfl],?_])
 by_cases hk:k=1
 ·subst hk;exact K5 F.slot_tuple_mul #[_,e,rfl] F.entry_tuple_mul (F.args_tuple_mul_2 _ _) (O' l ar.toArray n dd sl t) #[e,.ref l,H,I,rfl,q1 rfl]
 ·refine K5 F.slot_tuple_mul #[_,e,rfl] F.entry_tuple_mul (F.args_tuple_mul_2 _ _) (JW l ar.toArray n dd sl k t hk h1 h2 ?_ (by rw[y3,<- hl];exact hz)) #[e,?_]
  ·cases ar with
   |nil=>cases r;exact bi rfl dQ
   |cons a b=>rfl
  ·have Ig:List.foldl (λ x1 x2=>x1++x2) ([].toArray) (List.replicate k.toNat ar.toArray)=(List.replicate k.toNat ar).flatten.toArray:=by have:=foldl_rep ar k.toNat [];rw[B2]at this;exact this
   rw[Ig];have fr:=I.fresh;refine#[.ref s⁻¹,_,I.laid (t':=s.toks) (o:=.tup (List.replicate k.toNat xs).flatten) (λ b o e=>j4 _ e) `G #[?_,_,r.rep k.toNat,#[_,n5 _ rfl,rfl,_,rfl]],rfl,q2 hk _ fr];rw[len_rep,Nat.mul_comm];exact hz
end L2
namespace L3
open PySem.Spec L2 L5 PyProof.Rows
mutual
def toP:D->PyData
 | .bf=>.none
 | .bl b=>.bool b
 | .int i=>.int i
 | .str x=>.str x
 | .ty _=>.none
 | .ref _=>.none
 | .tup ds=>.tuple (toPs ds)
 | .fl ds=>.list (toPs ds)
def toPs:List D->List PyData
 |[]=>[]
 |d::ds=>toP d::toPs ds
end
mutual
def nr:D->Bool
 | .bf=>true
 | .bl _=>true
 | .int _=>true
 | .str _=>true
 | .ty _=>false
 | .ref _=>false
 | .tup ds=>yy ds
 | .fl ds=>yy ds
def yy:List D->Bool
 |[]=>true
 |d::ds=>nr d&&yy ds
end
section
variable {σ:L2.St}
mutual
theorem WB(I:nn X im σ H s):∀(d:D){x:V}{u:ac},nr d=true->sB X.K H d x->sK x u->∃as,Reads s.heap u (toP d) as
 | .bf,x,u,_,h,r=>by cases(dh.mp h);cases r;unfold toP;exact#[_,Reads.none]
 | .bl b,x,u,_,h,r=>by cases(aR.mp h);cases r;unfold toP;exact#[_,Reads.bool b]
 | .int i,x,u,_,h,r=>by cases(aq.mp h);let#[t,rfl]:=r;unfold toP;exact#[_,Reads.int i t]
 | .str z,x,u,_,h,r=>by cases(aW.mp h);let#[t,rfl]:=r;unfold toP;exact#[_,Reads.str z t]
 | .ty _,x,u,n,h,r=>by unfold nr at n;cases n
 | .ref _,x,u,n,h,r=>by unfold nr at n;cases n
 | .tup ds,x,u,n,h,r=>by unfold nr at n;let#[p,xs,rfl,hq,hd]:=aM.mp h;cases(show u=Value.ref p from r);let#[ar,rv,#[o,ho,hc,m,R3],_]:=I.tuple hq;let#[as,ra]:=yj I ds n hd rv;unfold toP;exact#[_,reads_tuple_at ho hc R3 ra]
 | .fl ds,x,u,n,h,r=>by unfold nr at n;let#[p,xs,rfl,hq,hd]:=ko.mp h;cases(show u=Value.ref p from r);let#[ar,rv,pl,_]:=I.list hq.sq;let#[o,ho,hc,m,R3]:=pl.isList;let#[as,ra]:=yj I ds n hd rv;unfold toP;exact#[_,reads_list_at ho hc R3 ra]
theorem yj(I:nn X im σ H s):∀(ds:List D){xs:List V}{us:List ac},yy ds=true->ay X.K H ds xs->ut xs us->∃as,ReadsAll s.heap us (toPs ds) as
 |[],xs,us,_,h,r=>by cases(ah.mp h);cases r;unfold toPs;exact#[_,ReadsAll.nil]
 |d::ds,xs,us,n,h,r=>by
  unfold yy at n;rw[A2]at n;let#[x,NS,rfl,h1,h2]:=ae.mp h;cases r with
  |cons r1 r2=>let#[as,a]:=WB I d n.1 h1 r1;let#[bs,b]:=yj I ds n.2 h2 r2;unfold toPs;exact#[_,ReadsAll.cons a b]
end
end
def Tz(K:L8)(H:Hp)(x:V)(a:PyData):Prop:=(∃d,nr d=true/\sB K H d x/\toP d=a)\/∃p ds xs,x=.ref p/\fK K H p xs/\ay K H ds xs/\yy ds=true/\a=.list (toPs ds)
def yk(M:Mem)(d:D):Option PyData:=match d with
 | .ref a=>match M a with
  |some (.lst ds)=>if yy ds=true then some (.list (toPs ds))else none
  |_=>none
 |d=>if nr d=true then some (toP d)else none
def nN{x:V}{a:PyData}(e:yk M d>a)(h:sB K H d x)(hm:ul K H M):Tz K H x a:=by
 cases d with
 |ref p=>
  cases(az.mp h);unfold yk at e;cases q:M p with
  |none=>simp[q]at e
  |some o=>
   cases o with
   |bV b kvs=>simp[q]at e
   |dE x=>simp[q]at e
   |lst ds=>
    simp only[q]at e;by_cases n:yy ds=true
    ·rw[L1 n]at e;cases e;let#[xs,hx,hd]:=hm p _ q;exact .inr #[p,ds,xs,rfl,fK.of hx,hd,n,rfl]
    ·rw[L7 n]at e;cases e
 |bf=>exact .inl #[_,rfl,h,by simpa[yk,nr]using e]
 |bl _=>exact .inl #[_,rfl,h,by simpa[yk,nr]using e]
 |int _=>exact .inl #[_,rfl,h,by simpa[yk,nr]using e]
 |str _=>exact .inl #[_,rfl,h,by simpa[yk,nr]using e]
 |ty _=>simp[yk,nr]at e
 |tup ds=>
  by_cases n:yy ds=true
  ·exact .inl #[.tup ds,by unfold nr;exact n,h,by simpa[yk,nr,n]using e]
  ·simp[yk,nr,n]at e
 |fl ds=>
  by_cases n:yy ds=true
  ·exact .inl #[.fl ds,by unfold nr;exact n,h,by simpa[yk,nr,n]using e]
  ·simp[yk,nr,n]at e
def jE{σ:L2.St}(I:nn X im σ H s){x:V}{a:PyData}(h:Tz X.K H x a)(r:sK x u):∃as,Reads s.heap u a as:=by
 rcases h with⟨d,n,hd,rfl⟩|⟨p,ds,xs,rfl,hq,hd,n,rfl⟩
 ·exact WB I d n hd r
 ·cases(show u=Value.ref p from r);let#[ar,rv,pl,_]:=I.list hq;let#[o,ho,hc,m,R3]:=pl.isList;let#[as,ra]:=yj I ds n hd rv;exact#[_,reads_list_at ho hc R3 ra]
def ZS(neg:Bool):jq:=λ x y M Q=>∃a b,yk M x>a/\yk M y>b/\SeqAt.shaped a=true/\SeqAt.shaped b=true/\Q (.bl (if neg then !PyData.eqv a b else PyData.eqv a b)) M
def QX(hu:e_ X):gP X (compareOp .Eq) (λ x y H Q=>∃a b,Tz X.K H x a/\Tz X.K H y b/\SeqAt.shaped a=true/\SeqAt.shaped b=true/\Q (.bl (PyData.eqv a b)) H):=by intro im s σ H x y v u Q I rx ry h;let#[a,b,ha,hb,sa,sb,q]:=h;let#[as,ra]:=jE I ha rx;let#[bs,rb]:=jE I hb ry;exact eq_dataH ra rb sa sb hu #[.bl (PyData.eqv a b),H,I,rfl,q]
def QP(hu:e_ X):gP X (compareOp .NotEq) (λ x y H Q=>∃a b,Tz X.K H x a/\Tz X.K H y b/\SeqAt.shaped a=true/\SeqAt.shaped b=true/\Q (.bl (!PyData.eqv a b)) H):=by intro im s σ H x y v u Q I rx ry h;let#[a,b,ha,hb,sa,sb,q]:=h;let#[as,ra]:=jE I ha rx;let#[bs,rb]:=jE I hb ry;exact ne_dataH ra rb sa sb hu #[.bl (!PyData.eqv a b),H,I,rfl,q]
theorem iO.or{f:ac->ac->Sem ac}{r r':jq}(h:iO X f r)(h':iO X f r'):iO X f (λ x y M Q=>r x y M Q\/r' x y M Q):=by
 let#[a,h1,h2]:=h;let#[b,g1,g2]:=h';refine#[_,h1.or g1,λ x y d e H M Q2 Q hd he hm q k=>?_];rcases q with q|q
 ·exact .inl (h2 x y d e H M Q2 Q hd he hm q k)
 ·exact .inr (g2 x y d e H M Q2 Q hd he hm q k)
def zm(neg:Bool):jq:=λ x y M Q=>Ss neg x y M Q\/ZS neg x y M Q
def dD(hu:e_ X):iO X (compareOp .Eq) (zm false):=Yg.or ⟨_,QX hu,λ x y d e H M Q2 Q hd he hm q k=>by
 let#[a,b,ha,hb,sa,sb,q]:=q;exact#[a,b,nN ha hd hm,nN hb he hm,sa,sb,k _ H _ M `P hm `o q]⟩
def AO(hu:e_ X):iO X (compareOp .NotEq) (zm true):=Yd.or ⟨_,QP hu,λ x y d e H M Q2 Q hd he hm q k=>by
 let#[a,b,ha,hb,sa,sb,q]:=q;exact#[a,b,nN ha hd hm,nN hb he hm,sa,sb,k _ H _ M `P hm `o q]⟩
def og:D->List D->Mem->bK->Prop:=λ x vs M Q=>∃p ds y,x=.ref p/\vs=[y]/\M p>`B/\-ds<sizeLine/\Q .bf (af M p (.lst (ds++[y])))
def bC:TC X "list.append" og:=⟨AB,DK,λ x xs d ds H M Q2 Q hx hd hm q k=>by
 let#[p,es,y,rfl,rfl,hM,hz,q]:=q;cases(az.mp hx);let#[v,r,rfl,hv,hr]:=ae.mp hd;cases(ah.mp hr);let#[zs,h1,h2]:=hm p _ hM;have t:=ao.lst (o:=.lst (zs++[v])) h1;refine#[p,zs,v,rfl,rfl,h1,by rw[-h2];exact hz,k _ _ .bf _ (dh.mpr rfl) (hm.put (u:=.lst (es++[y])) t #[_,aH,?_]) t q];exact(ay.mono t es h2).append (ay.one (sB.mono t y hv))⟩
theorem d_:∀{ns:List Int} {xs:List V},ay K H (ns.map D.int) xs->xs=ns.map V.int
 |[],xs,h=>by rw[J1,ah]at h;exact h
 |b::bs,xs,h=>by rw[D9,ae]at h;let#[x,r,rfl,a,q]:=h;rw[aq]at a;rw[a,d_ q];rfl
def VX:List D->Mem->bK->Prop:=λ xs M Q=>∃(x:D)(ds:List D)(ns:List Int),xs=[x]/\cO M x>ds/\ds=ns.map D.int/\Q (.int ns.sum) M
def V7(hc:X.calm=true):fJ X (.builtin "sum") VX:=⟨_,qW hc,λ xs ds H M Q2 Q hd hm q k=>by
 let#[x,es,ns,rfl,e,rfl,q]:=q;let#[v,r,rfl,hv,hr]:=ae.mp hd;cases(ah.mp hr);let#[p,ys,rfl,h,hy]:=gA e hv hm;rw[d_ hy]at h;rcases h with h|h
 ·exact#[false,p,ns,rfl,h,k _ H _ M (aq.mpr rfl) hm `o q]
 ·exact#[true,p,ns,rfl,h,k _ H _ M (aq.mpr rfl) hm `o q]⟩
def V0:jq:=λ x y M Q=>∃ds k,x=.tup ds/\y=.int k/\ds≠[]/\-(2^63)<=k/\k<2^63/\-ds*k.toNat<=sizeLine/\Q (.tup (List.replicate k.toNat ds).flatten) M
theorem qj(h:ay K H ds xs):∀k:Nat,ay K H (List.replicate k ds).flatten (List.replicate k xs).flatten
 |0=>by simp[ah]
 |k+1=>by rw[m8,m8,x5,x5];exact h.append (qj h k)
def BY:jq:=λ x y M Q=>Sm x y M Q\/V0 x y M Q
def Q_:iO X (binaryOp .Mult) BY:=U4.or ⟨_,LI,λ x y d e H M Q2 Q hd he hm q k=>by
 let#[ds,n,rfl,rfl,dQ,h1,h2,hz,q]:=q;let#[p,xs,rfl,hq,hx]:=aM.mp hd;cases(aq.mp he);refine#[p,n,xs,rfl,rfl,hq,λ z=>?_,h1,h2,by rw[-hx];exact hz,λ e1=>?_,λ _ l hl=>?_]
 ·have:=-hx;rw[z]at this;exact dQ (j0.mp this.symm)
 ·subst e1;rw[show(1:Int).toNat=1 from rfl,show(List.replicate 1 ds).flatten=ds by simp]at q;exact k _ H _ M (aM.mpr #[p,xs,rfl,hq,hx]) hm `o q
 ·exact k _ _ (.tup _) M (jA hl (qj hx _)) (hm.laid hl) (ao.laid hl) q⟩
def NP(b:Bool)(M:Mem)(k:D)(c:Ky):Prop:=match b with
 |true=>k=.tup [.int c.1,.tup (c.2.map D.int)]
 |false=>∃m,k=.tup [.int c.1,.ref m]/\M m>(.lst (c.2.map D.int))
def NP.v9{b:Bool}{k:D}{c:Ky}(h:NP b M k c)(r:sB K H k v)(hm:ul K H M):qu K b H v c:=by
 cases b with
 |true=>cases(show k=_ from h);let#[p,xs,rfl,hq,hd]:=aM.mp r;let#[x1,r1,rfl,h1,hd]:=ae.mp hd;let#[x2,r2,rfl,h2,hd]:=ae.mp hd;cases(ah.mp hd);cases(aq.mp h1);let#[p2,ys,rfl,MI,hd2]:=aM.mp h2;rw[d_ hd2]at MI;exact#[p,p2,rfl,hq,MI]
 |false=>let#[m,rfl,hM]:=h;let#[p,xs,rfl,hq,hd]:=aM.mp r;let#[x1,r1,rfl,h1,hd]:=ae.mp hd;let#[x2,r2,rfl,h2,hd]:=ae.mp hd;cases(ah.mp hd);cases(aq.mp h1);cases(az.mp h2);let#[ys,hy,hd2]:=hm m _ hM;rw[d_ hd2]at hy;exact#[p,m,rfl,hq,fK.of hy]
theorem sH(h:ay K H ds xs):∀p:List Nat,ay K H (p.map λ i=>ds.getD i D.bf) (p.map λ i=>xs.getD i V.bf)
 |[]=>by simp[ah]
 |i::p=>by
  rw[D9,D9,ae];refine#[_,_,rfl,?_,sH h p];cases e:ds[i]? with
  |none=>
   have e2:xs[i]?=none:=by have:=-h;have:=i3.mp e;exact k7 ()
   rw[b8,b8,e,e2];exact dh.mpr rfl
  |some d=>let#[x,e2,hx]:=h.get e;rw[b8,b8,e,e2];exact hx
section
variable {Q:bK}
def KZ{i j:Int}(q:Q (.bl (decide (i=j))) M):zm false (.int i) (.int j) M Q:=.inl (PX q)
def K_{i j:Bool}(q:Q (.bl (decide (i=j))) M):zm false (.bl i) (.bl j) M Q:=.inl (PY q)
def KY{i j:Str}(q:Q (.bl (decide (i=j))) M):zm false (.str i) (.str j) M Q:=.inl (PV q)
def KL{i j:Bool}(q:Q (.bl (!decide (i=j))) M):zm true (.bl i) (.bl j) M Q:=.inl (PN q)
def Ge{i j:Int}(h:uW i j)(q:Q (.int (i*j)) M):BY (.int i) (.int j) M Q:=.inl (KO h q)
def Gd{k:Int}(h0:0<=k)(h1:k<=10000)(q:Q (.tup (List.replicate k.toNat d)) M):BY (.tup [d]) (.int k) M Q:=.inr ⟨[d],k,rfl,rfl,by simp,Int.le_trans `c h0,u6 h1 `c,G9 (show 1*k.toNat<=10000 by lia) `c,by
 rw[show(List.replicate k.toNat [d]).flatten=List.replicate k.toNat d by simp];exact q⟩
def KC(q:Q (.int ns.sum) M):VX [.tup (ns.map D.int)] M Q:=#[_,_,ns,rfl,rfl,rfl,q]
def fu{y:D}(h:M p>`B)(hz:-ds<sizeLine)(q:Q .bf (af M p (.lst (ds++[y])))):og `j [y] M Q:=#[p,ds,y,rfl,rfl,h,hz,q]
abbrev row(ns:List Int):D:=.tup (ns.map D.int)
def KA{a b:D}(h:N ((δ.set i (some a)).set j (some b)) M):uq 2 (du (lv i) (du (lv j) ur)) (.tup [a,b]) δ M N:=#[rfl,h]
def eG{c:gS}{tb:lO}{E:ka}{δ:cS}(h:∃W:Nat->cS->Mem->Prop,(∃m,W m δ M)/\∀m δ M,W m δ M->c δ M λ b M1=>
  if b=true then ∃N:cS->Mem->Prop,(∀δ' M',N δ' M'->∃m',m'<m/\W m' δ' M')/\tb {E with nx:=N,ct:=N,bk:=E.nx} δ M1 else E.nx δ M1):FN c tb E δ M:=h
def Jc{δc:cS}(Pv:Nat->List D->Mem->Prop)(h0:Pv 0 [] M1)(hl:∀i jp M,i<=-ds->Pv i jp M->M a>`B)(hz:∀i jp M,i<=-ds->Pv i jp M->-jp<=sizeLine)(hs:∀i d jp M,ds[i]?>d->Pv i jp M->g d δc M λ δ2 M2=>tt δ2 M2 λ b M3=>if b=true then te δ2 M3 λ y M4=>Pv (i+1) (jp++[y]) M4 else Pv (i+1) jp M3)(hd:∀jp M,Pv (-ds) jp M->Qe jp M):∃(B:Nat)(W:Nat->List D->Mem->Prop),W 0 [] M1/\∀i jp M,W i jp M->i<=B/\-jp<=sizeLine/\match li (.at a) M with
   |none=>False
   |some ds=>match ds[i]? with
    |none=>i=-ds/\Qe jp M
    |some d=>g d δc M λ δ2 M2=>tt δ2 M2 λ b M3=>if b=true then te δ2 M3 λ y M4=>W (i+1) (jp++[y]) M4 else W (i+1) jp M3:=by
 refine#[-ds,λ i jp M=>if i<=-ds then Pv i jp M else False,by dsimp only;rw[L1 (J9 _)];exact h0,?_];intro i jp M w;by_cases hi:i<=-ds
 ·rw[L1 hi]at w;refine#[hi,hz i jp M hi w,?_];have e0:li (.at a) M>ds:=by show(match M a with|some (.lst ds)=>some ds|_=>none)>ds;rw[hl i jp M hi w]
  rw[e0];show(match ds[i]? with
    |none=>i=-ds/\Qe jp M
    |some d=>g d δc M λ δ2 M2=>tt δ2 M2 λ b M3=>if b=true then te δ2 M3 λ y M4=>(if i+1<=-ds then Pv (i+1) (jp++[y]) M4 else False)else(if i+1<=-ds then Pv (i+1) jp M3 else False))
  cases e:ds[i]? with
  |none=>have:i=-ds:=C5 hi (i3.mp e);subst this;exact#[rfl,hd jp M w]
  |some d=>have gm:i+1<=-ds:=(g9.mp e).1;simp only[L1 gm];exact hs i d jp M e w
 ·rw[L7 hi]at w;exact w.elim
end
end L3
namespace L2
open PySem.Spec PyProof.Rows L5 PySem.W
section
variable {te:TE}{p pos dY fp kp:Pos}{f:Str}
theorem rp:∀as:List be,ut (as.map V.ref) (as.map Value.ref)
 |[]=>.nil
 |a::as=>.cons rfl (rp as)
end
end L2
namespace L5
open PySem.AutoSeq1 (wpAny_loadPart')
abbrev Xa(T:String)(h:Heap)(l:be):Heap:=h.push {cls:=.type T,data:=.fields ([.ref l,.int 0 0].toArray)}
abbrev ZO(T:String)(h:Heap)(l:be):Heap:=(Xa T h l).push {cls:=.type "enumerate",data:=.fields ([.none,.bool false,.ref h.objs.size,rawInt 0,.none,.none].toArray)}
set_option tactic.hygienic true in
def yY(k:NK T S)(l:be)(vs:Array ac):Meets (Builtin.«enumerate.__new__» #[[.type "enumerate",.ref l],[]]) (λ _ R s=>S s.heap l vs/\R (.ok (.ret (.ref (Xa T s.heap l).objs.size))) {s with heap:=ZO T s.heap l}):=
 .of_wp λ prog w A R s h=>by
  let#[hp,g,d,tk,os]:=s;let#[a1,h]:=h;have se:=sub_enumerate;have aT:S (Shared.heap #[hp,g,d,tk,os]) l vs:=a1
  wp_walk using k.start aT
  refine wpAny_stack_any λ st=>K3 ?_;split
  ·rename_i c _ _ _ _ _;cases(c==Value.type "enumerate")
   all_goals
    wp_walk using k.start aT
    exact#[_,rfl,h]
  ·wp_walk using k.start aT
   exact#[_,rfl,h]
def Me(kk:NK T S){l:be}{vs:Array ac}(a1:S s.heap l vs)(k:∀h',IsEnum h' (s⁻¹+1) s⁻¹ 0 .none->nG T h' s⁻¹ l 0->(∀f o,s.heap.get? f>o->h'.get? f>o)->Q (.ref (s⁻¹+1)) {s with heap:=h'}):wpAny `d A (call (.type "enumerate") [.ref l]) Q E s:=by refine callType_new F.called_enumerate `c (F.typeCall_enumerate_1 _) (F.newCall_enumerate_1 _) (λ ob=>F.args_object_init_2 ob _) F.entry_enumerate_new (yY kk l vs) #[a1,?_];have e1:(Xa T s.heap l).objs.size=s⁻¹+1:=D3 ..;have g2:(ZO T s.heap l).get? (Xa T s.heap l).objs.size>_:=n5 _ rfl;have g1:(ZO T s.heap l).get? s⁻¹>_:=j4 _ (n5 s.heap rfl);rw[e1]at g2;show _/\_;rw[e1];exact#[#[_,g2,rfl],k _ g2 #[_,g1,rfl,rfl] λ f o x=>j4 _ (j4 _ x)]
def Hj(k:NK T S)(hA:A.handled=none)(j l:be)(ne:l≠j)(vs:Array ac):Draws prog w A j [j,l] vs.size (λ i v=>vs[i]?>v) (λ i h=>nG T h j l i/\S h l vs) where
 live:=λ _ _ st=>let⟨⟨o,ho,_⟩,_⟩:=st;#[o,ho]
 frame:=λ _ _ _ st q=>let⟨⟨o,ho,r⟩,su⟩:=st;#[#[o,q j `g o ho,r],k.keep su λ o e=>q l `g o e]
 item:=λ i s Q E hi st kk=>k.item st.1 st.2 (c8 hi) λ h' a b=>kk _ h' s.toks (c8 hi) #[a,k.keep st.2 λ o e=>b.extBut _ _ ne e] b
 done:=λ s Q E st kk=>k.stop hA st.1 st.2 (j3 `G) kk
end L5
namespace L2
open PySem.Spec PyProof.Rows L5
def Xo(K:L8)(b:Bool)(l:be):It:=
 ⟨λ i H=>∃xs x,Sq b K H l xs/\xs[i]?>x,
  λ i H v H'=>∃(p:be)(x:V),H p=none/\v=.ref p/\H'=u8 H p (.tup [.int i,x])/\∀xs,Sq b K H l xs->xs[i]?>x,
  λ i H=>∃xs,Sq b K H l xs/\-xs<=i⟩
def tnE(b:Bool)(e j l:be)(i:Nat)(h:Heap):Prop:=(∃old,IsEnum h e j i old)/\nG (Ws b) h j l i
def C_{k0}{pos:Pos}{e j:be}(b:Bool)(B:e≠j)(l:be):Turn P w K (.Tuple es k0 pos) (Xo K b l) [e,j] e (tnE b e j l) where
 mem:=by simp
 obj:=λ i h st c hc=>by
  let#[#[old,he],#[oa,ha,_,da]]:=st;rcases E8.mp hc with rfl|hc
  ·exact#[_,he,λ v z=>by cases z]
  rcases E8.mp hc with rfl|hc
  ·exact#[_,ha,λ v z=>by rw[da]at z;cases z]
  ·cases hc
 keep:=λ i h h' st q=>by let#[#[old,he],#[oa,ha,r]]:=st;exact#[#[old,q e `g _ he],#[oa,q j `g _ ha,r]]
 item:=by
  intro X hP hw hK hc i im s σ H E I hf st hg;subst hP hw hK;let#[xs,x,hl,hx]:=hg;let#[#[old,he],hj]:=st;let#[Ta,r1,p1]:=iS I hl;let#[u1,e1,q1]:=r1.get hx;have lj:l≠j:=Fj I (hf j `g) hl;have le:l≠e:=Fj I (hf e `g) hl;have hi:i<Ta.toArray.size:=by have:=(g9.mp e1).1;simpa using this
  refine wpAny_pyNext_enum_itemD (Hj (ja b) (A:=X.A.in1) (I.ok.hd hc) j l lj Ta.toArray) he #[hj,p1] hi B (by simp;exact#[B,K9 le]) λ y g tk g1 g2 g3 g4 g5 g6=>?_;have ey:y=u1:=by rw[getElem?_toArray,e1]at g1;cases g1;rfl
  subst ey;have hn:H s⁻¹=none:=I.aX.fresh `G;have I1:nn X im σ H {s with heap:=g,toks:=tk+1}:=vp (t':=tk+1) I (ch:=[e,j]) (λ c o hc e=>g6 c o (λ z=>hc (by simp[z])) (λ z=>hc (by simp[z])) e) hf;refine#[_,rfl,wpAny_letOwnedTupleGo_enum (s:={s with heap:=g,toks:=tk+1}) g2 λ g' e' sb=>?_];have I2:nn X im σ H {s with heap:=g',toks:=tk+1}:=vp (s:={s with heap:=g,toks:=tk+1}) (t':=tk+1) (ch:=[e]) I1 (λ c o hc q=>sb.extBut _ _ (λ z=>hc (by simp[z])) q) (λ c hc=>hf c (by simp at hc ⊢;exact .inl hc));have fo:=I.km (H':=H) (J7 s⁻¹) hn;have lte:e<s⁻¹:=G5 he;have ltj:j<s⁻¹:=let⟨_,q,_⟩:=hj;G5 q
  have t5:=sb.extBut _ _ (J5 lte) g4;have I3:nn X im σ (u8 H s⁻¹ (.tup [.int i,x])) {s with heap:=g',toks:=tk+1}:=nn.oQ I2 hn #[show 2<=sizeLine by decide,[.int i tk,y],.cons #[tk,rfl] (.cons q1 .nil),#[_,t5,rfl,_,rfl]] fo.2.1 (G9 I.sz `G) fo.2.2.2.2.1 fo.2.2.2.2.2;refine#[.ref s⁻¹,_,I3,rfl,#[s⁻¹,x,hn,rfl,rfl,λ NS h'=>Pp I h' hl>=hx],#[#[_,~~~e'],?_],λ c hc=>?_]
  ·let#[o,ho,r]:=g3.1;exact#[o,sb.extBut _ _ (K9 B) ho,r]
  ·have gm:c<s⁻¹:=by
    simp at hc;rcases hc with rfl|rfl
    ·exact lte
    ·exact ltj
   rw[aJ (G4 gm)];exact(hf c hc).1
 done:=by intro X hP hw hK hc i im s σ H E I hf st hg;subst hP hw hK;let#[xs,hl,hx]:=hg;let#[#[old,he],hj]:=st;let#[Ta,r1,p1]:=iS I hl;have l1:=-r1;have lj:l≠j:=Fj I (hf j `g) hl;have hT:s.TypeIs (.ref e) "enumerate":=#[_,he,rfl];unfold pyNext;refine K1 (D6 (i9 (name:=Str.ofString "__next__") hT F.slot_enumerate_next (A1 F.slot_enumerate_next hT F.entry_enumerate_next ?_ (F.args_enumerate_next_1 _))));refine K1 (m:=field (.ref e) 2) (K0 he rfl (x:=.ref j) rfl ?_);refine K1 ((ja b).stop (A:=X.A.in1) (I.ok.hd hc) hj p1 (j3 (by simp;lia)) λ g c g1 g2=>?_);let#[o,ho,Il]:=g2;refine K1 (A7 (T:="StopIteration") (b:=true) #[o,ho,Il] isSubtype_stop (K3 #[rfl,?_]));exact vp (t':=s.toks) (ch:=[j]) I (λ b o hb q=>g1 b o (λ z=>hb (by simp[z])) q) λ b hb=>hf b (by simp at hb ⊢;exact .inr hb)
 self:=λ _ _ _ _ _ st h=>wpAny_pyIter_enum st.1.choose_spec h
section
variable {k0:_}{JU:Pos}{a:Expr}{ta:TA}{p pos:Pos}
def Vl(K:L8)(ta:TA):TI:=λ σ H R=>ta σ H λ vs H1=>∃(b:Bool)(l:be),vs=[.ref l]/\(∃xs,Sq b K H1 l xs)/\R (Xo K b l) H1
def Lx(hg:Gl X "enumerate")(hm:X.mg "enumerate"=none)(ha:PA X [a] ta)(hs:starEach [a] X.env=[(false,eval a X.env)]:=by rfl)(hs2:starEach [] X.env=[]:=by rfl):PI X (.Tuple es k0 JU) (.Call (.Name "enumerate" p) [a] [] pos) (Vl X.K ta):=by
 intro im s σ H R I h;refine Call_ (fB I hg hm boot_enumerate (a8 (cZ (ha pos im s σ H _ I h) λ us s1 ⟨vs,H1,I1,r1,q1⟩=>?_) (by show _=_;rw[hs,hs2]) (by show _=_;rw[hs2];rfl)));let#[b,l,e,#[xs,hl],q]:=q1;subst e;let#[u1,rfl,r]:=vals1 r1;cases(show u1=Value.ref l from r);let#[Ta,r1,p1]:=iS I1 hl;refine Me (ja b) p1 λ g g1 g2 g7=>wpAny_pyIter_enum (s:={s1 with heap:=g}) g1 ?_;have I2:nn X im σ H1 {s1 with heap:=g}:=I1.kept (t':=s1.toks) g7;have fr:∀c,s1⁻¹<=c->kG X im H1 c:=λ c hc=>I1.km hc (I1.aX.fresh hc);have ne:s1⁻¹+1≠s1⁻¹:=()
 refine#[_,[s1⁻¹+1,s1⁻¹],_,_,H1,rfl,I2,C_ b ne l,#[#[_,g1],g2],λ c hc=>fr c ?_,q];simp at hc;rcases hc with rfl|rfl<;>lia
end
end L2
namespace L3
open PySem.Spec L2 L5
def eK(ds:List D):List D:=(List.range (-ds)).map λ(i:Nat)=>D.tup [.int (i:Int),ds.getD i D.bf]
def bR(ds:List D):(eK ds).length=-ds:=by simp[eK]
def kindB:D->Bool
 | .tup _=>true
 |_=>false
def s_{x:V}(e:cO M d>ds)(h:sB K H d x)(hm:ul K H M):∃p xs,x=.ref p/\Sq (kindB d) K H p xs/\ay K H ds xs:=by
 cases d with
 |tup es=>cases(show some es>ds from e);let#[p,xs,rfl,h1,h2]:=aM.mp h;exact#[p,xs,rfl,h1,h2]
 |fl es=>cases(show some es>ds from e);let#[p,xs,rfl,h1,h2]:=ko.mp h;exact#[p,xs,rfl,h1.sq,h2]
 |ref a=>cases(az.mp h);let#[xs,h1,h2]:=ff (show a_ M a>ds from e) hm;exact#[a,xs,rfl,fK.of h1,h2]
 |_=>cases e
def eO(x:D)(M:Mem):Option (List D):=(cO M x).map eK
def DS{x:D}(hx:sB K H1 x `z):uT K H1 (Xo K (kindB x) a) (.fn (eO x)):=λ H M fs t hm e=>by
 have e:(cO M x).map eK>fs:=e;cases e1:cO M x with
 |none=>rw[e1]at e;cases e
 |some ds=>rw[e1]at e;cases e;let#[p,xs,e3,q1,x1]:=s_ e1 (sB.mono t x hx) hm;cases e3;have l1:=-x1;rw[bR];refine#[λ i hi=>#[xs,xs[i]'(),q1,by simp],λ i hi=>#[xs,q1,()],λ i v H' hi y=>?_];let#[p,v,hp,rfl,rfl,hx]:=y;let#[d,d1,d2]:=x1.Ed (hx xs q1);refine#[ao.laid hp,hm.laid hp,.tup [.int i,d],?_,jA hp (ae.mpr #[.int i,[v],rfl,aq.mpr rfl,ay.one d2])];let#[z1,w1]:=g9.mp d1;simp[eK,z1,w1]
def Ow(ta:dG):qE:=λ δ M R=>ta δ M λ ds M1=>match ds with
 |[.tup xs]=>R (.fix (eK xs)) M1
 |[x]=>(∃zs,cO M1 x>zs)/\R (.fn (eO x)) M1
 |_=>False
section
variable {k0:_}{JU:Pos}{a:Expr}{p pos:Pos}
def gT(hm:X.mg "enumerate"=none)(ha:WA X [a] ta)(hg:Gl X "enumerate":=by rfl)(hs:starEach [a] X.env=[(false,eval a X.env)]:=by rfl)(hs2:starEach [] X.env=[]:=by rfl):WI X (.Tuple es k0 JU) (.Call (.Name "enumerate" p) [a] [] pos) (Ow ta):=⟨have ha:=ha.h;AH (Lx hg hm ha hs hs2) λ σ H R ⟨δ,M,R2,hs,hm,q,k⟩=>by
 refine#[δ,M,_,hs,hm,q,λ xs H1 ds M1 hd bJ t1 q1=>?_];have go:∀x,ds=[x]->(∃zs,cO M1 x>zs)->(∀J,uT X.K H1 J (.fn (eO x))->R J H1)->∃(b:Bool)(l:be),xs=[.ref l]/\(∃xs,Sq b X.K H1 l xs)/\R (Xo X.K b l) H1:=by rintro x rfl ⟨zs,hz⟩ hR;let#[vx,r,rfl,hx,hr]:=ae.mp hd;cases(ah.mp hr);let#[p,vs,rfl,q1,_]:=s_ hz hx bJ;exact#[_,p,rfl,#[vs,q1],hR _ (DS hx)]
 match ds,q1 with
 |[x],q1=>
  by_cases ht:∃xs,x=.tup xs
  ·let#[xs,rfl]:=ht;exact go _ rfl #[_,rfl] λ J hJ=>k J H1 (.fix (eK xs)) M1 (λ H M ds t hm e=>hJ H M ds t hm e) bJ t1 q1
  ·have q2:(∃zs,cO M1 x>zs)/\R2 (.fn (eO x)) M1:=by cases x<;>first|exact q1|exact bi #[_,rfl] ht
   exact go x rfl q2.1 λ J hJ=>k J H1 _ M1 hJ bJ t1 q2.2
 |[],q1=>exact q1.elim
 |x::y::r,q1=>cases x<;>exact q1.elim⟩
end
end L3
namespace L4
open PySem.Spec L2 L3 L5
section
variable {k0:_}{JU:Pos}{a:Expr}{p pos:Pos}
end
end L4
namespace L2
open PySem.Spec PyProof.Rows
def LN:gP X (binaryOp .Add) (λ x y H Q=>∃a b ys,x=.ref a/\y=.ref b/\gu X.K H a []/\gu X.K H b ys/\Q (.ref b) H):=by intro im s σ H x y v u Q I rx ry h;let#[a,b,ys,rfl,rfl,ha,hb,q]:=h;cases rx;cases ry;let#[i1,r1,p1,_]:=I.tuple ha;let#[i2,r2,p2,_]:=I.tuple hb;cases r1;let#[#[c1,d1,a1,l1],o1,k1,n1,e1]:=id p1;let#[#[c2,d2,a2,l2],o2,k2,n2,e2]:=id p2;cases(show c1=.type "tuple" from k1);cases(show a1=_ from e1);cases(show c2=.type "tuple" from k2);cases(show a2=_ from e2);exact concat_meets #[_,o1,rfl] #[_,o2,rfl] noFill_tuple_add seq_tuple_add PySem.F.slot_tuple_add PySem.F.entry_tuple_add (PySem.F.args_tuple_add_2 _ _) (tuple_addW0 a b ([].toArray) i2.toArray n1 n2 d1 d2 l1 l2 rfl) #[o1,o2,#[.ref b,H,I,rfl,q]]
end L2
namespace L3
open PySem.Spec L2
def Ca:jq:=λ x y M Q=>Nw x y M Q\/∃ys,x=.tup []/\y=.tup ys/\Q (.tup ys) M
def bB:iO X (binaryOp .Add) Ca:=by
 let#[r,h1,h2]:=(U7:iO X (binaryOp .Add) Nw);refine#[_,h1.or LN,λ x y d e H M Q2 Q hd he hm q k=>?_];rcases q with q|⟨ys,rfl,rfl,q⟩
 ·exact .inl (h2 x y d e H M Q2 Q hd he hm q k)
 ·let#[p,vs,rfl,hp,hx]:=aM.mp hd;let#[p2,ws,rfl,h_,hy]:=aM.mp he;cases(ah.mp hx);exact .inr #[p,p2,ws,rfl,rfl,hp,h_,k _ H _ M (aM.mpr #[p2,ws,rfl,h_,hy]) hm `o q]
def B_:D->List D->Mem->bK->Prop:=λ x vs M Q=>∃p q ds es,x=.ref p/\vs=[.ref q]/\M p>`B/\M q>(.lst es)/\-ds+-es<=sizeLine/\Q .bf (af M p (.lst (ds++es)))
def Hm:TC X "list.extend" B_:=⟨AA,DJ,λ x xs d ds H M Q2 Q hx hd hm q k=>by
 let#[p,p2,es,fs,rfl,rfl,hM,R8,hz,q]:=q;cases(az.mp hx);let#[v,r,rfl,hv,hr]:=ae.mp hd;cases(ah.mp hr);cases(az.mp hv);let#[zs,h1,h2]:=hm p _ hM;let#[ys,g1,g2]:=hm p2 _ R8;have t:=ao.lst (o:=.lst (zs++ys)) h1;refine#[p,p2,zs,ys,rfl,rfl,h1,g1,by rw[-h2,-g2];exact hz,k _ _ .bf _ (dh.mpr rfl) (hm.put (u:=.lst (es++fs)) t #[_,aH,?_]) t q];exact(ay.mono t es h2).append (ay.mono t fs g2)⟩
section
variable {Q:bK}
def PU{es:List D}(h:M p>`B)(g:M q>(.lst es))(hz:-ds+-es<=sizeLine)(k:Q .bf (af M p (.lst (ds++es)))):B_ `j [.ref q] M Q:=#[p,q,ds,es,rfl,rfl,h,g,hz,k]
def vK{i j:Int}(q:Q (.int (i+j)) M):Ca (.int i) (.int j) M Q:=.inl q
def Gs{xs ys:List D}(ha:M a>`J)(hb:M b>(.lst ys))(h:-xs+-ys<=sizeLine)(q:∀p,M p=none->Q `j (af M p (.lst (xs++ys)))):Ca `z (.ref b) M Q:=.inl (Lf ha hb h q)
def kZ{xs ys:List D}(h:-xs+-ys<=sizeLine)(q:Q (.tup (xs++ys)) M):Ca (.tup xs) (.tup ys) M Q:=by
 cases xs with
 |nil=>exact .inr #[ys,rfl,rfl,q]
 |cons x xs=>exact .inl #[by simp,h,q]
end
section
variable {δc:cS}
def XQ(h:n<=10000):n<=sizeLine:=G9 h `c
def jk{β:Type}{xs:List α}{enc:α->D}(yZ:β->D)(I:List β->Mem->Prop)(hn:-xs<=10000)(h0:I [] M1)(hs:∀(i:Nat)(x:α)(ys:List β)(M:Mem)(N:D->Mem->Prop),xs[i]?>x->-ys=i->I ys M->(∀b M',I (ys++[b]) M'->N (yZ b) M')->g (enc x) δc M λ δ2 M2=>te δ2 M2 N)(hd:∀ys M,-ys=-xs->I ys M->Qe (ys.map yZ) M):∃(B:Nat)(W:Nat->List D->Mem->Prop),W 0 [] M1/\∀i jp M,W i jp M->i<=B/\-jp<=sizeLine/\match li (.fix (xs.map enc)) M with
   |none=>False
   |some ds=>match ds[i]? with
    |none=>i=-ds/\Qe jp M
    |some d=>g d δc M λ δ2 M2=>x' δ2 M2 λ b M3=>if b=true then te δ2 M3 λ y M4=>W (i+1) (jp++[y]) M4 else W (i+1) jp M3:=by
 refine mI (λ i jp M=>∃ys:List β,jp=ys.map yZ/\-ys=i/\I ys M) #[[],rfl,rfl,h0] (λ i jp M hi h=>?_) (λ i d jp M hd h=>?_) (λ jp M h=>?_)
 ·let#[ys,rfl,h1,_]:=h;rw[C1]at hi ⊢;exact XQ ()
 ·let#[ys,rfl,h1,h2]:=h;rw[w6]at hd;cases e:xs[i]? with
  |none=>rw[e]at hd;cases hd
  |some x=>rw[e]at hd;cases hd;refine hs i x ys M _ e h1 h2 λ b M' hb=>#[ys++[b],by rw[C4];rfl,by simp[h1],hb]
 ·let#[ys,rfl,h1,h2]:=h;rw[C1]at h1;exact hd ys M h1 h2
def qm{β:Type}{xs:List α}(enc:α->D)(yZ:β->D)(I:List β->Mem->Prop)(hn:-xs<=10000)(h0:I [] M1)(hl:∀ys M,I ys M->M a>(.lst (xs.map enc)))(hs:∀(i:Nat)(x:α)(ys:List β)(M:Mem)(N:D->Mem->Prop),xs[i]?>x->-ys=i->I ys M->(∀b M',I (ys++[b]) M'->N (yZ b) M')->g (enc x) δc M λ δ2 M2=>te δ2 M2 N)(hd:∀ys M,-ys=-xs->I ys M->Qe (ys.map yZ) M):∃(B:Nat)(W:Nat->List D->Mem->Prop),W 0 [] M1/\∀i jp M,W i jp M->i<=B/\-jp<=sizeLine/\match li (.at a) M with
   |none=>False
   |some ds=>match ds[i]? with
    |none=>i=-ds/\Qe jp M
    |some d=>g d δc M λ δ2 M2=>x' δ2 M2 λ b M3=>if b=true then te δ2 M3 λ y M4=>W (i+1) (jp++[y]) M4 else W (i+1) jp M3:=by
 refine Jc (ds:=xs.map enc) (λ i jp M=>∃ys:List β,jp=ys.map yZ/\-ys=i/\I ys M) #[[],rfl,rfl,h0] (λ i jp M hi h=>?_) (λ i jp M hi h=>?_) (λ i d jp M hd h=>?_) (λ jp M h=>?_)
 ·let#[ys,rfl,h1,h2]:=h;exact hl ys M h2
 ·let#[ys,rfl,h1,_]:=h;rw[C1]at hi ⊢;exact XQ ()
 ·let#[ys,rfl,h1,h2]:=h;rw[w6]at hd;cases e:xs[i]? with
  |none=>rw[e]at hd;cases hd
  |some x=>rw[e]at hd;cases hd;refine hs i x ys M _ e h1 h2 λ b M' hb=>#[ys++[b],by rw[C4];rfl,by simp[h1],hb]
 ·let#[ys,rfl,h1,h2]:=h;rw[C1]at h1;exact hd ys M h1 h2
def take_one{l:List α}{a:α}(h:l[i]?>a):l.take (i+1)=l.take i++[a]:=by rw[take_add_one,h];rfl
def fW{xs:List α}{enc:α->D}(out:α->D)(hn:-xs<=10000)(hs:∀(i:Nat)(x:α)(N:D->Mem->Prop),xs[i]?>x->N (out x) M1->g (enc x) δc M1 λ δ2 M2=>te δ2 M2 N)(hd:Qe (xs.map out) M1):∃(B:Nat)(W:Nat->List D->Mem->Prop),W 0 [] M1/\∀i jp M,W i jp M->i<=B/\-jp<=sizeLine/\match li (.fix (xs.map enc)) M with
   |none=>False
   |some ds=>match ds[i]? with
    |none=>i=-ds/\Qe jp M
    |some d=>g d δc M λ δ2 M2=>x' δ2 M2 λ b M3=>if b=true then te δ2 M3 λ y M4=>W (i+1) (jp++[y]) M4 else W (i+1) jp M3:=by
 refine jk (β:=α) out (λ ys M=>M=M1/\ys=xs.take (-ys)) hn #[rfl,rfl] (λ i x ys M N hx hy h k=>?_) (λ ys M hy h=>?_)
 ·let#[rfl,h]:=h;refine hs i x N hx (k x M #[rfl,?_]);rw[p4,j9,take_one (a:=x) (hy>=hx),<- h]
 ·let#[rfl,h]:=h;rw[hy,A0]at h;rw[h];exact hd
def eB{xs:List α}(enc out:α->D)(hn:-xs<=10000)(hl:M1 a>(.lst (xs.map enc)))(hs:∀(i:Nat)(x:α)(N:D->Mem->Prop),xs[i]?>x->N (out x) M1->g (enc x) δc M1 λ δ2 M2=>te δ2 M2 N)(hd:Qe (xs.map out) M1):∃(B:Nat)(W:Nat->List D->Mem->Prop),W 0 [] M1/\∀i jp M,W i jp M->i<=B/\-jp<=sizeLine/\match li (.at a) M with
   |none=>False
   |some ds=>match ds[i]? with
    |none=>i=-ds/\Qe jp M
    |some d=>g d δc M λ δ2 M2=>x' δ2 M2 λ b M3=>if b=true then te δ2 M3 λ y M4=>W (i+1) (jp++[y]) M4 else W (i+1) jp M3:=by
 refine qm (β:=α) enc out (λ ys M=>M=M1/\ys=xs.take (-ys)) hn #[rfl,rfl] (λ ys M h=>h.1>=hl) (λ i x ys M N hx hy h k=>?_) (λ ys M hy h=>?_)
 ·let#[rfl,h]:=h;refine hs i x N hx (k x M #[rfl,?_]);rw[p4,j9,take_one (a:=x) (hy>=hx),<- h]
 ·let#[rfl,h]:=h;rw[hy,A0]at h;rw[h];exact hd
end
abbrev N'(i:Nat):D:=.int ((0:Int)+(i:Nat))
def ye(i:Nat):N' i=.int (i:Int):=by show D.int (0+(i:Int))=_;rw[G1]
def bY(n:Nat):cF 0 n=(List.range n).map N':=rfl
def SI(R:Src->Mem->Prop)(d:D)(M1:Mem):Prop:=match d with
 | .str z=>R (.fix (l_ z)) M1
 | .tup ds=>R (.fix ds) M1
 | .fl ds=>R (.fix ds) M1
 | .ref a=>(match M1 a with
  |some (.lst _)=>R (.at a) M1
  |_=>False)
 |_=>False
def Lc{ta:bU}(h:ta δ M (SI R)):Vh ta δ M R:=h
def Ld(h:R (.fix ds) M):SI R (.tup ds) M:=h
def tI(hM:M a>`B)(h:R (.at a) M):SI R `z M:=by show(match M a with|some (.lst _)=>R (.at a) M|_=>False);rw[hM];exact h
end L3
namespace KK
open L3 L4 L5
open L2 hiding aG gb
def OM(c:be)(p b sd ct:Int):List D:=[.ref c,.int p,.int b,.int sd,.int ct]
structure Flow(M:Mem)(f c:be):Prop where
 ex:∃(ns:List Int)(p b sd ct:Int),M f>(.lst (OM c p b sd ct))/\M c>(.lst (ns.map D.int))/\c≠f/\0<=p/\0<=b/\0<=sd/\sd<2147483647
def lZ:fM:=λ ds M Q=>∃(f c:be)(n:Int),ds=[.ref f,.int n]/\Flow M f c/\0<n/\n<1073741824/\∀(d:Int)(o:MO),0<=d->d<n->Flow (af M f o) f c->Q (.int d) (af M f o)
structure Fl(f c:be)(M M':Mem):Prop where
 bw:Flow M' f c
 mv:∀b o,b≠f->M b>o->M' b>o
def Fl.trans{M2:Mem}(a:Fl f c M M1)(b:Fl f c M1 M2):Fl f c M M2:=#[b.bw,λ c o h e=>b.mv c o h (a.mv c o h e)]
def Fl.pick{o:MO}(h:Flow (af M f o) f c):Fl f c M (af M f o):=#[h,λ b o' hb e=>ak hb>=e]
def Flow.there(h:Flow M f c):∃o,M f>o:=by let#[ns,p,b,sd,ct,h,_]:=h;exact#[_,h]
def Flow.Pb(h:Flow M f c):∃o,M c>o:=by let#[ns,p,b,sd,ct,_,h,_]:=h;exact#[_,h]
def Flow.put{o:MO}(h:Flow M f c)(n:M q=none):Flow (af M q o) f c:=by let#[ns,p,b,sd,ct,h1,h2,h3]:=h;exact#[ns,p,b,sd,ct,ak (λ z=>by rw[z,n]at h1;cases h1)>=h1,ak (λ z=>by rw[z,n]at h2;cases h2)>=h2,h3]
theorem Fl.put{o:MO}(h:Flow M f c)(n:M q=none):Fl f c M (af M q o):=#[h.put n,λ b o' hb e=>ak (λ z=>by rw[z,n]at e;cases e)>=e]
def Flow.ne(h:Flow M f c)(n:M q=none):q≠f/\q≠c:=by
 constructor
 ·intro z;subst z;let#[o,e]:=h.there;rw[n]at e;cases e
 ·intro z;subst z;let#[o,e]:=h.Pb;rw[n]at e;cases e
def Fl.own{o:MO}(h:Fl f c M M')(h0:Flow M f c)(n:M q=none):Fl f c M (af M' q o):=by let#[n1,n2]:=h0.ne n;let#[ns,p,b,sd,ct,h1,h2,h3]:=h.bw;refine#[#[ns,p,b,sd,ct,ak (K9 n1)>=h1,ak (K9 n2)>=h2,h3],λ b o' hb e=>?_];rw[ak (λ z=>by rw[z,n]at e;cases e)];exact h.mv b o' hb e
def small(h:n<=10000):n<=sizeLine:=G9 h `c
def dC(h:(cF lo n)[i]?>d):i<n/\d=.int (lo+(i:Nat)):=by
 have hi:i<n:=by have:=(g9.mp h).1;rwa [bc]at this
 rw[pF hi]at h;exact#[hi,(B7 h).symm]
def take_snoc{l:List α}{a:α}(h:l[i]?>a):l.take (i+1)=l.take i++[a]:=by rw[take_add_one,h];rfl
def EC(as:List Int):L2.Ky:=(as.sum,as.map λ a=>0-a)
def Fy:fM:=λ ds M Q=>∃as:List Int,ds=[row as]/\-as<=1000/\Q (.tup [.int as.sum,row (as.map λ a=>0-a)]) M
def Jk(h:i< -ns):iN (ns.map D.int) (i:Int)>(.int (ns.getD i 0)):=by refine bx ?_;simp[b8,h]
def bX{Q:bK}(h:M p>`B)(q:Q (.tup ds) M):zj [.ref p] M Q:=by show(match a_ M p with|some ds=>Q (.tup ds) M|none=>False);unfold a_;rw[h];exact q
def Ym(h:∀b o,M b>o->M' b>o)(n:M' q=none)(x:MO):∀b o,M b>o->af M' q x b>o:=λ b o e=>ak (λ z=>by rw[<- z,h b o e]at n;cases n)>=h b o e
def bu{Q:bK}{n:String}{b:Bool}(e:oN M d>n)(hb:ua n T=b)(q:Q (.bl b) M):OR T [d,.ty T] M Q:=#[rfl,by rw[e];subst hb;exact q]
def jD{Q:bK}(h:oN M d≠some "NoneType")(q:Q (.bl false) M):Nt false d .bf M Q:=by
 cases d with
 |bf=>exact bi rfl h
 |_=>exact q
def oq(h:i< -ds):iN ds (0+(i:Int))>ds[i]:=by rw[G1];refine bx ?_;simp[h]
theorem ou:∀n:Nat,((List.replicate n true).all id)=true
 |0=>rfl
 |n+1=>by rw[m8,all_cons,ou n];rfl
def ib(h:(eK ds)[i]?>d):i< -ds/\d=.tup [.int (i:Int),ds.getD i D.bf]:=by
 have hi:i< -ds:=by have:=(g9.mp h).1;rwa [bR]at this
 refine#[hi,?_];unfold eK at h;rw[w6,l9 hi]at h;exact(B7 h).symm
def sw(M M':Mem):Prop:=∀b o,M b>o->M' b>o
def sw.own(h:sw M M'){x:MO}(n:M q=none):sw M (af M' q x):=λ b o e=>ak (λ z=>by rw[z,n]at e;cases e)>=h b o e
end KK
namespace HT
open PySem.Spec PyProof.Rows
def jR{t sl:be}{li:Array ac}{vl vu:ac}{lo hi:Option Int}(ht:IsTup s.heap t li)(hs:s.heap.IsSliceOf sl vl vu .none)(pl:IsPart vl lo)(pu:IsPart vu hi)(hw:cK li.size 0 lo=0/\cK li.size li.size hi=li.size)(h:Q (.ref t) s):wpAny `d A (getItem (.ref t) (.ref sl)) Q E s:=by
 let#[os,RV,uo,Eb]:=id hs;have Zu:s.TypeIs (.ref sl) "slice":=#[os,RV,uo];unfold getItem
 try with_reducible refine D5 ?_
 first|refine K1 (K3 ?_)|skip
 refine K1 (wpAny_sequenceKey ht.typeIs `c ?_);refine K1 (i9 (name:=Str.ofString "__getitem__") ht.typeIs a0
  (A1 a0 ht.typeIs entry_tuple_getitem ?_ (args_tuple_getitem _ _)))
 show wpAny _ _ (Builtin.Tuple.tupleItemsOf (.ref t)>>=_) _ _ s;refine K1 (tupleItemsOf_ ht ?_);refine K1 (J3 Zu ?_);rw[L1 `c];refine K1 (gz hs pl pu ?_);have YD:(((cK li.size 0 lo:Nat):Int)==0&&(1:Int)==1&&(cK li.size li.size hi-cK li.size 0 lo)==li.size)=true:=by rw[hw.1,hw.2];simp
 show wpAny _ _ (if(((cK li.size 0 lo:Nat):Int)==0&&(1:Int)==1&&(cK li.size li.size hi-cK li.size 0 lo)==li.size)=true then _ else _) _ _ s;rw[L1 YD];unfold Builtin.Tuple.tupleIsExact;refine K1 (K1 (J3 ht.typeIs (K3 ?_)));rw[L1 `c];exact K1 (K4 (K3 #[_,rfl,K3 h]))
end HT
namespace L2
open PySem.Spec PyProof.Rows
def Ki:Cv X (λ x lo hi H Q=>∃a xs,x=.ref a/\gu X.K H a xs/\(HT.cK (-xs) 0 lo=0/\HT.cK (-xs) (-xs) hi=-xs)/\Q `z H):=by
 intro im s σ H x v vl vu lo hi sl Q I rx hs pl pu h;let#[a,xs,rfl,hx,hw,q]:=h;cases rx;let#[ar,r,ht,hz]:=I.tuple hx;have hlen:ar.toArray.size=-xs:=y3>=r.length.symm
 exact#["tuple",_,a0.lookup,ht.typeIs,HT.jR ht hs pl pu (hlen>=hw) #[.ref a,H,I,rfl,q]]
end L2
namespace L3
open PySem.Spec L2
def zk:D->Option Int->Option Int->Mem->bK->Prop:=λ x lo hi M Q=>match x with
 | .str z=>-z<=sizeLine/\Q (.str (zo z lo hi)) M
 | .tup ds=>Q (.tup (cutD ds lo hi)) M
 | .ref a=>match a_ M a with
  |some ds=>∀p,M p=none->Q `j (af M p (.lst (cutD ds lo hi)))
  |none=>False
 |_=>False
def FL:Xj X zk:=by
 let#[r,h1,h2]:=(gb:Xj X dSl);refine#[_,h1.or Ki,λ x d lo hi H M Q2 Q hd hm q k=>?_];cases d with
 |tup ds=>
  by_cases hw:HT.cK (-ds) 0 lo=0/\HT.cK (-ds) (-ds) hi=-ds
  ·have q:Q2 (.tup (cutD ds lo hi)) M:=q;have e:cutD ds lo hi=ds:=by unfold cutD;rw[hw.1,hw.2];simp
   rw[e]at q;let#[p,xs,rfl,h,hx]:=aM.mp hd;exact .inr #[p,xs,rfl,h,by rw[-hx];exact hw,k _ H _ M (aM.mpr #[p,xs,rfl,h,hx]) hm `o q]
  ·exact .inl (h2 x (.tup ds) lo hi H M Q2 Q hd hm #[hw,q] k)
 |str z=>exact .inl (h2 x (.str z) lo hi H M Q2 Q hd hm q k)
 |ref a=>exact .inl (h2 x `z lo hi H M Q2 Q hd hm q k)
 |_=>exact q.elim
section
variable {Q:bK}
def Cb{i:Int}(h0:0<=i):cutD ds none (some i)=ds.take i.toNat:=by
 unfold cutD;have e:HT.cK (-ds) (-ds) (some i)=min i.toNat (-ds):=by show(if i<0 then(i+(-ds:Int)).toNat else min i.toNat (-ds))=_;rw[L7 ()]
 rw[e];show(ds.drop 0).take (min i.toNat (-ds)-0)=_;rw[drop_zero,Nat.sub_zero,take_eq_take_iff];lia
def Ej{i:Int}(h0:0<=i):cutD ds (some i) none=ds.drop i.toNat:=by
 unfold cutD;have e:HT.cK (-ds) 0 (some i)=min i.toNat (-ds):=by show(if i<0 then(i+(-ds:Int)).toNat else min i.toNat (-ds))=_;rw[L7 ()]
 rw[e];show(ds.drop (min i.toNat (-ds))).take (-ds-min i.toNat (-ds))=_;rw[j2 (by rw[length_drop];lia)];by_cases h:i.toNat<=-ds
 ·rw[Nat.min_eq_left h]
 ·rw[Nat.min_eq_right (),drop_length,drop_of_length_le ()]
def F_{i:Int}(h0:0<=i)(q:Q (.tup (ds.take i.toNat)) M):zk (.tup ds) none (some i) M Q:=by show Q (.tup (cutD ds none (some i))) M;rw[Cb h0];exact q
def yg{i:Int}(h0:0<=i)(q:Q (.tup (ds.drop i.toNat)) M):zk (.tup ds) (some i) none M Q:=by show Q (.tup (cutD ds (some i) none)) M;rw[Ej h0];exact q
def Av{lo hi:Option Int}(h:M a>`B)(q:∀p,M p=none->Q `j (af M p (.lst (cutD ds lo hi)))):zk `z lo hi M Q:=by show(match a_ M a with|some ds=>∀p,M p=none->Q `j (af M p (.lst (cutD ds lo hi)))|none=>False);unfold a_;rw[h];exact q
def Dt{i:Int}(h:M a>`B)(h0:0<=i)(q:∀p,M p=none->Q `j (af M p (.lst (ds.take i.toNat)))):zk `z none (some i) M Q:=by refine Av h ?_;rw[Cb h0];exact q
end
open L5
section
variable {tb:lO}{δc:cS}{E:ka}
def Sh{src:Src}(Pv:Nat->cS->Mem->Prop)(h0:Pv 0 δ M1)(hl:∀i δ M,i<=-ds->Pv i δ M->li src M>ds)(hs:∀i d δ M,ds[i]?>d->Pv i δ M->g d δ M λ δ2 M2=>tb {E with nx:=Pv (i+1),ct:=Pv (i+1),bk:=E.nx} δ2 M2)(hd:∀δ M,Pv (-ds) δ M->E.nx δ M):∃(B:Nat)(W:Nat->cS->Mem->Prop),W 0 δ M1/\∀i δ M,W i δ M->i<=B/\match li src M with
   |none=>False
   |some ds=>match ds[i]? with
    |none=>i=-ds/\E.nx δ M
    |some d=>g d δ M λ δ2 M2=>tb {E with nx:=W (i+1),ct:=W (i+1),bk:=E.nx} δ2 M2:=by
 refine#[-ds,λ i δ M=>if i<=-ds then Pv i δ M else False,by dsimp only;rw[L1 (J9 _)];exact h0,?_];intro i δ M w;by_cases hi:i<=-ds
 ·rw[L1 hi]at w;refine#[hi,?_];rw[hl i δ M hi w];show(match ds[i]? with
    |none=>i=-ds/\E.nx δ M
    |some d=>g d δ M λ δ2 M2=>tb {E with nx:=(λ δ M=>if i+1<=-ds then Pv (i+1) δ M else False),ct:=(λ δ M=>if i+1<=-ds then Pv (i+1) δ M else False),bk:=E.nx} δ2 M2)
  cases e:ds[i]? with
  |none=>have:i=-ds:=C5 hi (i3.mp e);subst this;exact#[rfl,hd δ M w]
  |some d=>have gm:i+1<=-ds:=(g9.mp e).1;simp only[L1 gm];exact hs i d δ M e w
 ·rw[L7 hi]at w;exact w.elim
def uE{src:Src}(Pv:Nat->List D->Mem->Prop)(h0:Pv 0 [] M1)(hl:∀i jp M,i<=-ds->Pv i jp M->li src M>ds)(hz:∀i jp M,i<=-ds->Pv i jp M->-jp<=sizeLine)(hs:∀i d jp M,ds[i]?>d->Pv i jp M->g d δc M λ δ2 M2=>tt δ2 M2 λ b M3=>if b=true then te δ2 M3 λ y M4=>Pv (i+1) (jp++[y]) M4 else Pv (i+1) jp M3)(hd:∀jp M,Pv (-ds) jp M->Qe jp M):∃(B:Nat)(W:Nat->List D->Mem->Prop),W 0 [] M1/\∀i jp M,W i jp M->i<=B/\-jp<=sizeLine/\match li src M with
   |none=>False
   |some ds=>match ds[i]? with
    |none=>i=-ds/\Qe jp M
    |some d=>g d δc M λ δ2 M2=>tt δ2 M2 λ b M3=>if b=true then te δ2 M3 λ y M4=>W (i+1) (jp++[y]) M4 else W (i+1) jp M3:=by
 refine#[-ds,λ i jp M=>if i<=-ds then Pv i jp M else False,by dsimp only;rw[L1 (J9 _)];exact h0,?_];intro i jp M w;by_cases hi:i<=-ds
 ·rw[L1 hi]at w;refine#[hi,hz i jp M hi w,?_];rw[hl i jp M hi w];show(match ds[i]? with
    |none=>i=-ds/\Qe jp M
    |some d=>g d δc M λ δ2 M2=>tt δ2 M2 λ b M3=>if b=true then te δ2 M3 λ y M4=>(if i+1<=-ds then Pv (i+1) (jp++[y]) M4 else False)else(if i+1<=-ds then Pv (i+1) jp M3 else False))
  cases e:ds[i]? with
  |none=>have:i=-ds:=C5 hi (i3.mp e);subst this;exact#[rfl,hd jp M w]
  |some d=>have gm:i+1<=-ds:=(g9.mp e).1;simp only[L1 gm];exact hs i d jp M e w
 ·rw[L7 hi]at w;exact w.elim
end
open PyProof.Rows
def Pl:Nat->D->Prop
 |0,d=>d=.bf\/(∃i,d=.int i)\/∃x,d=.str x/\PyData.strOk x=true
 |k+1,d=>d=.bf\/(∃i,d=.int i)\/(∃x,d=.str x/\PyData.strOk x=true)\/∃ds,d=.tup ds/\∀e∈ds,Pl k e
def dw(k:Nat)(i:Int):Pl k (.int i):=by
 cases k with
 |zero=>exact .inr (.inl #[i,rfl])
 |succ k=>exact .inr (.inl #[i,rfl])
def yp(h:∀e∈ds,Pl k e):Pl (k+1) (.tup ds):=.inr (.inr (.inr #[ds,rfl,h]))
def g_{xs:List α}{enc:α->D}(h:∀x∈xs,Pl k (enc x)):∀e∈xs.map enc,Pl k e:=λ e he=>by let#[x,hx,rfl]:=G7.mp he;exact h x hx
structure PlF(k:Nat)(d:D):Prop where
 nr:nr d=true
 lay:(toP d).canLay0=true
 dep:(toP d).depth<=k
structure Z3(k:Nat)(ds:List D):Prop where
 nr:yy ds=true
 lay:PyData.canLayAll0 (toPs ds)=true
 dep:PyData.depthAll (toPs ds)<=k
theorem lh:∀{ds:List D},(∀e∈ds,PlF k e)->Z3 k ds
 |[],_=>#[by unfold yy;rfl,by unfold toPs;simp[PyData.canLayAll0],by unfold toPs;simp[PyData.depthAll]]
 |d::ds,h=>by
  have h1:=h d (o7 ..);have h2:=lh (ds:=ds) λ e he=>h e (k8 _ he);refine#[?_,?_,?_]
  ·unfold yy;rw[h1.nr,h2.nr];rfl
  ·unfold toPs;simp only[PyData.canLayAll0];rw[h1.lay,h2.lay];rfl
  ·unfold toPs;simp only[PyData.depthAll];exact Nat.max_le.mpr #[h1.dep,h2.dep]
theorem Pl.f9:∀{k:Nat} {d:D},Pl k d->PlF k d
 |0,d,h=>by
  rcases h with rfl|⟨i,rfl⟩|⟨x,rfl,hx⟩
  ·exact#[by unfold L3.nr;rfl,by unfold toP;simp[PyData.canLay0],by unfold toP;simp[PyData.depth]]
  ·exact#[by unfold L3.nr;rfl,by unfold toP;simp[PyData.canLay0],by unfold toP;simp[PyData.depth]]
  ·exact#[by unfold L3.nr;rfl,by unfold toP;simp[PyData.canLay0,hx],by unfold toP;simp[PyData.depth]]
 |k+1,d,h=>by
  rcases h with rfl|⟨i,rfl⟩|⟨x,rfl,hx⟩|⟨ds,rfl,h⟩
  ·exact#[by unfold L3.nr;rfl,by unfold toP;simp[PyData.canLay0],by unfold toP;simp[PyData.depth]]
  ·exact#[by unfold L3.nr;rfl,by unfold toP;simp[PyData.canLay0],by unfold toP;simp[PyData.depth]]
  ·exact#[by unfold L3.nr;rfl,by unfold toP;simp[PyData.canLay0,hx],by unfold toP;simp[PyData.depth]]
  ·have q:=lh λ e he=>Pl.f9 (h e he);refine#[?_,?_,?_]
   ·unfold L3.nr;exact q.nr
   ·unfold toP;simp only[PyData.canLay0];exact q.lay
   ·unfold toP;simp only[PyData.depth];have:=q.dep;lia
theorem qg(ih:∀x y:D,Pl k x->Pl k y->(PyData.eqv (toP x) (toP y)=true↔x=y)):∀{ds es:List D},(∀e∈ds,Pl k e)->(∀e∈es,Pl k e)->(PyData.eqvAll (toPs ds) (toPs es)=true↔ds=es)
 |[],[],_,_=>by unfold toPs;simp[PyData.eqvAll]
 |[],e::es,_,_=>by unfold toPs;simp[PyData.eqvAll]
 |d::ds,[],_,_=>by unfold toPs;simp[PyData.eqvAll]
 |d::ds,e::es,h1,h2=>by have a:=ih d e (h1 d (o7 ..)) (h2 e (o7 ..));have b:=qg ih (ds:=ds) (es:=es) (λ x hx=>h1 x (k8 _ hx)) (λ x hx=>h2 x (k8 _ hx));unfold toPs;simp only[PyData.eqvAll,A2,a,b,List.cons.injEq]
theorem jM:∀{k:Nat} (x y:D),Pl k x->Pl k y->(PyData.eqv (toP x) (toP y)=true↔x=y)
 |0,x,y,hx,hy=>by rcases hx with rfl|⟨i,rfl⟩|⟨z,rfl,_⟩<;>rcases hy with rfl|⟨j,rfl⟩|⟨w,rfl,_⟩<;>simp[toP,PyData.eqv]
 |k+1,x,y,hx,hy=>by
  rcases hx with rfl|⟨i,rfl⟩|⟨z,rfl,_⟩|⟨ds,rfl,hd⟩<;>rcases hy with rfl|⟨j,rfl⟩|⟨w,rfl,_⟩|⟨es,rfl,he⟩<;>first
   |(simp[toP,PyData.eqv];done)
   |(have:=qg (λ x y=>jM (k:=k) x y) hd he
     unfold toP;simp only[PyData.eqv,D.tup.injEq];exact this)
def IE{x y:D}(hx:Pl k x)(hy:Pl k y){b:Bool}(hb:b=true↔x=y):PyData.eqv (toP x) (toP y)=b:=by rw[B0];exact(jM x y hx hy).trans hb.symm
def oW(h:∀e∈ds,Pl k e)(hk:k<=60):SeqAt.shaped (.list (toPs ds))=true:=by
 have f:=lh λ e he=>(h e he).f9;have h1:(PyData.list (toPs ds)).canLay0=true:=by simp only[PyData.canLay0];exact f.lay
 have h2:(PyData.list (toPs ds)).depth<=64:=by simp only[PyData.depth];have:=f.dep;lia
 unfold SeqAt.shaped;rw[h1,C9 h2];rfl
section
variable {Q:bK}
def AD(hM:M p>`B)(h:∀e∈ds,Pl k e):yk M `j>(.list (toPs ds)):=by have f:=lh λ e he=>(h e he).f9;unfold yk;simp only[hM];rw[L1 f.nr]
def Ee{es:List D}(h1:∀e∈ds,Pl k e)(h2:∀e∈es,Pl k e){b:Bool}(hb:b=true↔ds=es):PyData.eqv (.list (toPs ds)) (.list (toPs es))=b:=by rw[B0];have:=qg (λ x y=>jM (k:=k) x y) h1 h2;simp only[PyData.eqv];exact this.trans hb.symm
def Ax{p2:be}{es:List D}{b:Bool}(hM:M p>`B)(R8:M p2>(.lst es))(h1:∀e∈ds,Pl k e)(h2:∀e∈es,Pl k e)(hk:k<=60)(hb:b=true↔ds=es)(q:Q (.bl (!b)) M):zm true `j (.ref p2) M Q:=by refine .inr #[_,_,AD hM h1,AD R8 h2,oW h1 hk,oW h2 hk,?_];rw[Ee h1 h2 hb];exact q
end
def mq{v:ac}{y:PyData}{bs:List be}(ry:Reads s.heap v y bs)(cy:y.canLay0=true)(hu:A.units+y.depth<cLine):∀{ds:List D} {us:List ac} {as:List be},ReadsAll s.heap us (toPs ds) as->PyData.canLayAll0 (toPs ds)=true->
  ∃e:ac->Bool,(∀u∈us,SeqAt.EqAt A s u v (e u))/\us.map e=ds.map λ d=>PyData.eqv (toP d) y:=by
 intro ds us as ra cl;refine#[λ u=>PyData.eqv (SeqAt.readOf s.heap u) y,λ u WR=>?_,?_]
 ·let#[d,bs',rd,cd,_]:=SeqAt.readsAll_mem _ _ _ cl ra u WR;have e:=SeqAt.readOf_eq cd rd;dsimp only;rw[e];exact SeqAt.eqAt_reads d y A s u v _ _ rd ry cd cy ()
 ·have e:=SeqAt.readsAll_map _ _ _ cl ra;have f:∀(us:List ac)(ds:List D),us.map (SeqAt.readOf s.heap)=toPs ds->us.map (λ u=>PyData.eqv (SeqAt.readOf s.heap u) y)=ds.map λ d=>PyData.eqv (toP d) y:=by
   intro us
   induction us with
   |nil=>
    intro ds q;cases ds with
    |nil=>rfl
    |cons d r=>unfold toPs at q;cases q
   |cons u us ih=>
    intro ds q;cases ds with
    |nil=>unfold toPs at q;cases q
    |cons d r=>
     unfold toPs at q;rw[D9]at q;injection q with q1 q2
     rw[D9,D9,ih r q2,q1]
  exact f us ds e
structure Wf(K:L8)(H:Hp)(b:Bool)(p:be)(xs:List V)(ds:List D)(x:V)(d:D):Prop where
 sq:Sq b K H p xs
 Nn:ay K H ds xs
 dat:sB K H d x
 ns:yy ds=true
 n:nr d=true
 DN:PyData.canLayAll0 (toPs ds)=true
 lay:(toP d).canLay0=true
 dep:(toP d).depth<62
theorem any_map(us:List α)(e:α->Bool)(bs:List Bool)(h:us.map e=bs):us.any e=bs.any id:=by rw[<- h,List.any_map];rfl
def QV(neg:Bool)(hu:e_ X):gP X (compareOp (if neg then .NotIn else .In)) (λ x y H Q=>∃(b:Bool)(p:be)(xs:List V)(ds:List D)(d:D),y=.ref p/\Wf X.K H b p xs ds x d/\Q (.bl (if neg then !ds.any (λ e=>PyData.eqv (toP e) (toP d))else ds.any λ e=>PyData.eqv (toP e) (toP d))) H):=by
 intro im s σ H x y v u Q I rx ry h;let#[b,p,xs,ds,d,rfl,ok,q]:=h;cases ry;let#[bs,rb]:=WB I d ok.n ok.dat rx;have hd:=ok.dep;cases b with
 |false=>
  let#[ar,r,pl,hz]:=I.list ok.sq;let#[as,ra]:=yj I ds ok.ns ok.Nn r;let#[e,e1,e2]:=mq (A:=X.A.in1) rb ok.lay (by show X.A.units+1+_ < _;lia) ra ok.DN;have e3:ar.toArray.any e=ds.any λ e=>PyData.eqv (toP e) (toP d):=by rw[show ar.toArray.any e=ar.any e by simp,any_map _ _ _ e2,List.any_map];rfl
  cases neg with
  |false=>exact SeqAt.in_listAt e pl.isList (λ w hw=>e1 w (~~~hw)) #[.bl _,H,I,rfl,e3>=q]
  |true=>exact SeqAt.notIn_listAt e pl.isList (λ w hw=>e1 w (~~~hw)) #[.bl _,H,I,rfl,e3>=q]
 |true=>
  let#[ar,r,pl,hz]:=I.tuple ok.sq;let#[as,ra]:=yj I ds ok.ns ok.Nn r;let#[e,e1,e2]:=mq (A:=X.A.in1) rb ok.lay (by show X.A.units+1+_ < _;lia) ra ok.DN;have e3:ar.toArray.any e=ds.any λ e=>PyData.eqv (toP e) (toP d):=by rw[show ar.toArray.any e=ar.any e by simp,any_map _ _ _ e2,List.any_map];rfl
  cases neg with
  |false=>exact SeqAt.in_tupleAt e pl (λ w hw=>e1 w (~~~hw)) #[.bl _,H,I,rfl,e3>=q]
  |true=>exact SeqAt.notIn_tupleAt e pl (λ w hw=>e1 w (~~~hw)) #[.bl _,H,I,rfl,e3>=q]
def OQ:List D->Mem->bK->Prop:=λ xs M Q=>∃i j,xs=[.int i,.int j]/\Q (.int (max i j)) M
def V8(hc:X.calm=true):fJ X (.builtin "max") OQ:=⟨_,Em hc,λ xs ds H M Q2 Q hd hm q k=>by
 let#[i,j,rfl,q]:=q;let#[v,r,rfl,hv,hr]:=ae.mp hd;let#[v2,r2,rfl,MF,pV]:=ae.mp hr;cases(ah.mp pV);cases(aq.mp hv);cases(aq.mp MF);refine#[i,j,rfl,k _ H _ M (aq.mpr rfl) hm `o ?_];have e:(if GT.gt j i then j else i)=max i j:=by split<;>lia
 rw[e];exact q⟩
def OS:List D->Mem->bK->Prop:=λ xs M Q=>(∃b,xs=[.bl b]/\Q (.int (if b then 1 else 0)) M)\/∃i,xs=[.int i]/\Q (.int i) M
def qo:fJ X (.type "int") OS:=⟨_,Ep,λ xs ds H M Q2 Q hd hm q k=>by
 rcases q with⟨b,rfl,q⟩|⟨b,rfl,q⟩
 ·let#[v,r,rfl,hv,hr]:=ae.mp hd;cases(ah.mp hr);cases(aR.mp hv);exact .inr #[b,rfl,k _ H _ M (aq.mpr rfl) hm `o q]
 ·let#[v,r,rfl,hv,hr]:=ae.mp hd;cases(ah.mp hr);cases(aq.mp hv);exact .inl #[b,rfl,k _ H _ M (aq.mpr rfl) hm `o q]⟩
def VY:jq:=λ x y M Q=>∃l k ds,x=.ref l/\y=.int k/\M l>`B/\-(2^63)<=k/\k<2^63/\-ds*k.toNat<=sizeLine/\∀p,M p=none->Q `j (af M p (.lst (List.replicate k.toNat ds).flatten))
def BX:jq:=λ x y M Q=>BY x y M Q\/VY x y M Q
def kg:iO X (binaryOp .Mult) BX:=Q_.or ⟨_,QM,λ x y d e H M Q2 Q hd he hm q k=>by
 let#[l,n,ds,rfl,rfl,hM,h1,h2,hz,q]:=q;cases(az.mp hd);cases(aq.mp he);let#[xs,hx,hdx]:=hm l _ hM;exact#[l,n,xs,rfl,rfl,hx,h1,h2,by rw[-hdx];exact hz,λ p hp=>k _ _ `j _ (az.mpr rfl) (dM hp (qj hdx n.toNat) hm) `Q (q p (hm.free hp))]⟩
structure Z9(M:Mem)(x y:D)(ds:List D):Prop where
 sq:cO M y>ds
 ns:yy ds=true
 n:nr x=true
 DN:PyData.canLayAll0 (toPs ds)=true
 lay:(toP x).canLay0=true
 dep:(toP x).depth<62
def So(neg:Bool):jq:=λ x y M Q=>∃ds,Z9 M x y ds/\Q (.bl (if neg then !ds.any (λ e=>PyData.eqv (toP e) (toP x))else ds.any λ e=>PyData.eqv (toP e) (toP x))) M
def Om(neg:Bool)(hu:e_ X):iO X (compareOp (if neg then .NotIn else .In)) (So neg):=⟨_,QV neg hu,λ x y d e H M Q2 Q hd he hm q k=>by
 let#[ds,ok,q]:=q;let#[p,xs,rfl,q1,x1]:=s_ ok.sq he hm;exact#[_,p,xs,ds,d,rfl,#[q1,x1,hd,ok.ns,ok.n,ok.DN,ok.lay,ok.dep],k _ H _ M `P hm `o q]⟩
def Nu:jq:=λ x y M Q=>dIn x y M Q\/So false x y M Q
def vT(hu:e_ X):iO X (compareOp .In) Nu:=Ye.or (Om false hu)
def BV:jq:=λ x y M Q=>∃i j,x=.str i/\y=.str j/\Q (.bl (!(!(Builtin.Str.occurrences j i 0 (-j) 1).isEmpty))) M
def Hb:iO X (compareOp .NotIn) BV:=⟨_,tS,λ x y d e H M Q2 Q hd he hm q k=>by
 let#[i,j,rfl,rfl,q]:=q;cases(aW.mp hd);cases(aW.mp he);exact#[i,j,rfl,rfl,k _ H _ M `P hm `o q]⟩
def n_:jq:=λ x y M Q=>BV x y M Q\/So true x y M Q
def gE(hu:e_ X):iO X (compareOp .NotIn) n_:=Hb.or (Om true hu)
structure We(ds:List D)(y:D)(j:Nat):Prop where
 lt:j< -ds
 hit:∀e,ds[j]?>e->PyData.eqv (toP e) (toP y)=true
 no:∀m e,m<j->ds[m]?>e->PyData.eqv (toP e) (toP y)=false
def zl:D->List D->Mem->bK->Prop:=λ x vs M Q=>∃p ds y j,x=.ref p/\vs=[y]/\M p>`B/\Z9 M y x ds/\We ds y j/\Q (.int (j:Nat)) M
def fQ(hu:e_ X):TC X "list.index" zl:=⟨λ x vs H Q=>∃p ds xs d y j,x=.ref p/\vs=[y]/\Wf X.K H false p xs ds y d/\We ds d j/\Q (.int (j:Nat)) H,by
  intro im s σ H x xs v us Q I rx rv h;let#[p,ds,zs,d,y,j,rfl,rfl,ok,ix,q]:=h;cases(show v=Value.ref p from rx);let#[u,rfl,ru]:=rv.one;have hd:=ok.dep;let#[bs,rb]:=WB I d ok.n ok.dat ru;let#[ar,r,pl,hz]:=I.list ok.sq;let#[as,ra]:=yj I ds ok.ns ok.Nn r;let#[e,e1,e2]:=mq (A:=X.A.in1) rb ok.lay (by show X.A.units+1+_ < _;lia) ra ok.DN;let#[#[c,dd,da,sl],ho,hc,n,R3]:=pl.isList;cases(show c=.type "list" from hc);cases(show da=.seq ar.toArray n from R3);have l1:=-r;have l2:=-ok.Nn;have gm:=ix.lt;have at_:∀m (hm:m< -ar) (kL:m< -ds),e ar[m]=PyData.eqv (toP ds[m]) (toP d):=λ m hm kL=>by have:=K8 (·[m]?) e2;simp only[w6,i5 hm,i5 kL,Option.map_some,Option.some.injEq]at this;exact this
  have hs:-ds<=16777216:=by
   have h2:-zs<=sizeLine:=hz;have h3:sizeLine=16777216:=by decide
   lia
  refine K5 PySem.F.slot_list_index #[_,ho,rfl] PySem.F.entry_list_index (PySem.F.args_list_index_2 _ _) (SeqAt.list_indexAt p ar.toArray n dd sl u e j (by simp;lia) () ?_ ?_) #[ho,λ y hy=>e1 y (~~~hy),?_]
  ·have:=at_ j () gm;simp only[getElem_toArray];rw[this];exact ix.hit _ (i5 gm)
  ·intro m hm hmj;have eV:m< -ar:= ~~~hm
   have:=at_ m eV ();simp only[getElem_toArray];rw[this];exact ix.no m _ hmj (i5 ())
  ·exact#[.int _,H,I.tok _,#[_,rfl],q],λ x xs d ds H M Q2 Q hx hd hm q k=>by
  let#[p,es,y,j,rfl,rfl,hM,ok,ix,q]:=q;cases(az.mp hx);let#[v,r,rfl,hv,hr]:=ae.mp hd;cases(ah.mp hr);let#[zs,hz,lV]:=hm p _ hM;exact#[p,es,zs,y,v,j,rfl,rfl,#[fK.of hz,lV,hv,ok.ns,ok.n,ok.DN,ok.lay,ok.dep],ix,k _ H _ M (aq.mpr rfl) hm `o q]⟩
def Sl:D->List D->Mem->bK->Prop:=λ x vs M Q=>(∃p ds y,x=.ref p/\vs=[]/\M p>`B/\ds[-ds-1]?>y/\Q y (af M p (.lst ds.dropLast)))\/
 ∃p ds i k y,x=.ref p/\vs=[.int i]/\M p>`B/\-(2^63)<=i/\i<2^63/\seqIndex? i (-ds)>k/\ds[k]?>y/\Q y (af M p (.lst (ds.eraseIdx k)))
theorem ay.eraseIdx:∀{ds:List D} {xs:List V} (n:Nat),ay K H ds xs->ay K H (ds.eraseIdx n) (xs.eraseIdx n)
 |[],xs,n,h=>by rw[ah]at h;subst h;simp[ah]
 |d::ds,xs,0,h=>by let#[x,r,rfl,a,b]:=ae.mp h;exact b
 |d::ds,xs,n+1,h=>by let#[x,r,rfl,a,b]:=ae.mp h;rw[eraseIdx_cons_succ,eraseIdx_cons_succ,ae];exact#[x,_,rfl,a,b.eraseIdx n]
theorem ay.dropLast(h:ay K H ds xs):ay K H ds.dropLast xs.dropLast:=by rw[dropLast_eq_take,dropLast_eq_take,-h];exact h.take _
def NN.or{id:String}{r r':V->List V->Hp->VK->Prop}(h:NN X id r)(h':NN X id r'):NN X id (λ x vs H Q=>r x vs H Q\/r' x vs H Q):=by
 intro im s σ H x xs v us Q I a b q;rcases q with q|q
 ·exact h im s σ H x xs v us Q I a b q
 ·exact h' im s σ H x xs v us Q I a b q
def Oo:TC X "list.pop" Sl:=⟨_,NN.or Rg Hl,λ x xs d ds H M Q2 Q hx hd hm q k=>by
 rcases q with⟨p,es,y,rfl,rfl,hM,hy,q⟩|⟨p,es,i,j,y,rfl,rfl,hM,h1,h2,hs,hy,q⟩
 ·cases(az.mp hx);cases(ah.mp hd);let#[zs,h1,h2]:=hm p _ hM;let#[v,hv,YL]:=h2.get hy;have t:=ao.lst (o:=.lst zs.dropLast) h1;exact .inl #[p,zs,v,rfl,rfl,h1,by rw[-h2];exact hv,k _ _ y _ (sB.mono t y YL) (hm.put (u:=.lst es.dropLast) t #[_,aH,ay.mono t _ h2.dropLast]) t q]
 ·cases(az.mp hx);let#[v0,r,rfl,hv0,hr]:=ae.mp hd;cases(ah.mp hr);cases(aq.mp hv0);let#[zs,g1,g2]:=hm p _ hM;let#[v,hv,YL]:=g2.get hy;have t:=ao.lst (o:=.lst (zs.eraseIdx j)) g1;exact .inr #[p,zs,i,j,v,rfl,rfl,g1,h1,h2,by rw[-g2];exact hs,hv,k _ _ y _ (sB.mono t y YL) (hm.put (u:=.lst (es.eraseIdx j)) t #[_,aH,ay.mono t _ (g2.eraseIdx j)]) t q]⟩
def Dd{l:Nat}:∀v σ H Q,NU K (uq 3 (du (lv i) (du (lv j) (du (lv l) ur)))) v σ H Q->wJ K 3 (dR (cX i) (dR (cX j) (dR (cX l) ux))) v σ H Q:=λ v σ H Q ⟨d,δ,M,Q2,hd,hs,hm,q,k⟩=>by
 cases d with
 |tup ds=>
  let#[p,xs,rfl,hq,hx]:=aM.mp hd;let#[hl,q]:=q
  match ds,hl,hx,q with
  |[a,b,c],hl,hx,q=>let#[x,r,rfl,ha,hx]:=ae.mp hx;let#[y,r,rfl,hb,hx]:=ae.mp hx;let#[z,r,rfl,hc,hx]:=ae.mp hx;cases(ah.mp hx);exact#[p,[x,y,z],rfl,hq,rfl,x,[y,z],rfl,y,[z],rfl,z,[],rfl,rfl,k _ H _ M (((hs.set ha).set hb).set hc) hm `o q]
 |_=>exact q.elim
def EN{l:Nat}{y z:Str}{px py pz pt:Pos}(h:∀cl C fp s H,PG `l (.Tuple [.Name x px,.Name y py,.Name z pz] k pt) (wJ X.K 3 (dR (cX i) (dR (cX j) (dR (cX l) ux)))))(hi:i< -cA)(hj:j< -cA)(hl:l< -cA):NL X scope cA fr (.Tuple [.Name x px,.Name y py,.Name z pz] k pt) (uq 3 (du (lv i) (du (lv j) (du (lv l) ur)))):=#[#[_,h,Iv (lI (jK hi) (lI (jK hj) (lI (jK hl) Iw eX p_) eX (nX eX p_)) eX (nX eX (nX eX p_))),Dd]]
end L3
namespace L4
open PySem.Spec L2 L3 L5
def wc3{y z:Str}{px py pz pt:Pos}(fr:List Nat)(it:WI X (.Tuple [.Name x px,.Name y py,.Name z pz] k pt) iter wi)(hi:∀{cl C fp s H},Tx (ba X scope cl [x,y,z] fr C fp s H) ifs tt)(he:∀{cl C fp s H},WE (ba X scope cl [x,y,z] fr C fp s H) elt te)(b:iG X scope fr:=by exact zA `w)(calm:X.calm=true:=by rfl)(xe:∀e s,X.xe e s->False:=by exact λ _ _ h=>h)(Pc:∀cl C fp s H,PG (ba X scope cl [x,y,z] fr C fp s H) (.Tuple [.Name x px,.Name y py,.Name z pz] k pt) (wJ X.K 3 (dR (cX 0) (dR (cX 1) (dR (cX 2) ux)))):=by exact λ _ _ _ _ _=>yq rfl (gB (hG (i:=0) (ii `w) rfl (by first|exact Or.inl rfl|exact Or.inr rfl)) (gB (hG (i:=1) (ii `w) rfl (by first|exact Or.inl rfl|exact Or.inr rfl)) (gB (hG (i:=2) (ii `w) rfl (by first|exact Or.inl rfl|exact Or.inr rfl)) tN)))):eZ X scope [x,y,z] fr (.Tuple [.Name x px,.Name y py,.Name z pz] k pt) iter ifs elt wi (uq 3 (du (lv 0) (du (lv 1) (du (lv 2) ur)))) tt te:=
 #[b,calm,xe,it,EN Pc `g `g `g,λ _ _ _ _ _=>hi,λ _ _ _ _ _=>he]
end L4
namespace L3
open PySem.Spec L2 L5 PyProof.Rows
section
variable {Q:bK}
def Kz{l:Nat}{a b c:D}(h:N (((δ.set i (some a)).set j (some b)).set l (some c)) M):uq 3 (du (lv i) (du (lv j) (du (lv l) ur))) (.tup [a,b,c]) δ M N:=#[rfl,h]
def KP{i j:Int}(q:Q (.int (max i j)) M):OQ [.int i,.int j] M Q:=#[i,j,rfl,q]
def Gj{b:Bool}(q:Q (.int (if b then 1 else 0)) M):OS [.bl b] M Q:=.inl #[b,rfl,q]
def pB{i j:Int}(h:uW i j)(q:Q (.int (i*j)) M):BX (.int i) (.int j) M Q:=.inl (Ge h q)
def vI{k:Int}(h0:0<=k)(h1:k<=10000)(q:Q (.tup (List.replicate k.toNat d)) M):BX (.tup [d]) (.int k) M Q:=.inl (Gd h0 h1 q)
def Gb{k:Int}(hM:M p>(.lst [d]))(h0:0<=k)(h1:k<=10000)(q:∀p,M p=none->Q `j (af M p (.lst (List.replicate k.toNat d)))):BX `j (.int k) M Q:=by
 refine .inr #[p,k,[d],rfl,rfl,hM,Int.le_trans `c h0,u6 h1 `c,?_,?_]
 ·have:[d].length*k.toNat<=10000:=by simp;lia
  exact XQ this
 ·have e:(List.replicate k.toNat [d]).flatten=List.replicate k.toNat d:=by
   generalize k.toNat=n
   induction n with
   |zero=>rfl
   |succ n ih=>rw[m8,x5,ih,m8];rfl
  rw[e];exact q
def cJ(h:M a>`B):cO M `z>ds:=by show a_ M a>ds;unfold a_;rw[h]
def my{x y:D}(hs:cO M y>ds)(hx:Pl k x)(hd:∀e∈ds,Pl k e)(hk:k<=60):Z9 M x y ds:=by have f:=lh λ e he=>(hd e he).f9;exact#[hs,f.nr,hx.f9.nr,f.lay,hx.f9.lay,by have:=hx.f9.dep;lia]
def Jl{x:D}(hx:Pl k x)(hd:∀e∈ds,Pl k e){b:Bool}(hb:b=true↔x∈ds):(ds.any λ e=>PyData.eqv (toP e) (toP x))=b:=by
 rw[B0,hb,List.any_eq_true];constructor
 ·rintro⟨e,he,h⟩;rw[<- (jM e x (hd e he) hx).mp h];exact he
 ·intro h;exact#[x,h,(jM x x hx hx).mpr rfl]
def tG{x y:D}{b:Bool}(hs:cO M y>ds)(hx:Pl k x)(hd:∀e∈ds,Pl k e)(hk:k<=60)(hb:b=true↔x∈ds)(q:Q (.bl b) M):Nu x y M Q:=by refine .inr #[ds,my hs hx hd hk,?_];rw[Jl hx hd hb];exact q
def pA{x y:D}{b:Bool}(hs:cO M y>ds)(hx:Pl k x)(hd:∀e∈ds,Pl k e)(hk:k<=60)(hb:b=true↔x∈ds)(q:Q (.bl (!b)) M):n_ x y M Q:=by refine .inr #[ds,my hs hx hd hk,?_];rw[Jl hx hd hb];exact q
def tW{xs:List α}{enc:α->D}(inj:∀a b,enc a=enc b->a=b)(a:α):enc a∈xs.map enc↔a∈xs:=by
 rw[G7];constructor
 ·rintro⟨b,hb,e⟩;rw[<- inj _ _ e];exact hb
 ·intro h;exact#[a,h,rfl]
def iX[DecidableEq α]{xs:List α}{a:α}(enc:α->D)(inj:∀a b,enc a=enc b->a=b)(hM:M p>(.lst (xs.map enc)))(ha:a∈xs)(hp:∀a,Pl k (enc a))(hk:k<=60)(q:Q (.int (xs.idxOf a:Nat)) M):zl `j [enc a] M Q:=by
 have gm:xs.idxOf a< -xs:=idxOf_lt_length_of_mem ha;refine#[p,xs.map enc,enc a,xs.idxOf a,rfl,rfl,hM,my (cJ hM) (hp a) (g_ λ x _=>hp x) hk,#[C1>=gm,λ e he=>?_,λ m e hm he=>?_],q]
 ·rw[w6,i5 gm,getElem_idxOf]at he;cases he;exact(jM _ _ (hp a) (hp a)).mpr rfl
 ·rw[w6,i5 ()]at he;cases he;refine IE (hp _) (hp a) #[(λ z=>by cases z),λ z=>?_];have:=inj _ _ z;have dQ:=not_of_lt_findIdx (p:=(·==a)) (xs:=xs) (i:=m) hm;exact bi (show(xs[m]==a)=true by rw[this];simp) (~~~dQ)
def PL{y:D}(hM:M p>(.lst (ds++[y])))(q:Q y (af M p `B)):Sl `j [] M Q:=by refine .inl #[p,ds++[y],y,rfl,rfl,hM,by simp,?_];rw[dropLast_concat];exact q
def Ga{y:D}(hM:M p>`B)(hj:ds[j]?>y)(hz:-ds<=10000)(q:Q y (af M p (.lst (ds.eraseIdx j)))):Sl `j [.int (j:Int)] M Q:=by have hl:j< -ds:=(g9.mp hj).1;exact .inr #[p,ds,j,j,y,rfl,rfl,hM,Int.le_trans `c (Int.natCast_nonneg j),u6 (show(j:Int)<=10000 by lia) `c,by rw[seqIndex_of () ()];simp,hj,q]
end
def N8(i:Nat)(te:bU):lO:=λ E δ M=>∃a,δ[i]?>(some (.int a))/\te δ M λ d M1=>∃b,d=.int b/\E.nx (δ.set i (some (.int (a+b)))) M1
section
variable {pos:Pos}
def JS(i:Nat)(he:WE X e te)(hN:X.N.Nodup:=by exact nd)(hi:X.N[i]?>x:=by rfl)(hx:Loc X.env.scope x:=by subst_vars)(hf:JO X x:=by ac_rfl):WS X (.AugAssign (.Name x pos') .Add e pos) (N8 i te):=⟨have he:=he.h;lb (Qm hN hi hx he RI hf) λ E σ H ⟨δ,M,D2,hs,hm,⟨a,ea,q⟩,k⟩=>by
 let#[v,ev,hv]:=hs.get i _ ea;cases(aq.mp hv);refine#[_,ev,δ,M,_,hs,hm,q,λ y H1 d M1 hd bJ t1 q1=>?_];let#[b,rfl,q1]:=q1;cases(aq.mp hd);exact#[_,_,rfl,rfl,k.nx _ _ _ _ ((hs.mono t1).set (aq.mpr rfl)) bJ t1 q1]⟩
end
def Lb{E:ka}{a:Int}(ea:δ[i]?>(some (.int a)))(h:te δ M λ d M1=>∃b,d=.int b/\E.nx (δ.set i (some (.int (a+b)))) M1):N8 i te E δ M:=#[a,ea,h]
def II(R:Src->Mem->Prop)(ds:List D)(M1:Mem):Prop:=match ds with
 |[.tup xs]=>R (.fix (eK xs)) M1
 |[x]=>(∃zs,cO M1 x>zs)/\R (.fn (eO x)) M1
 |_=>False
def Gn(h:ta δ M (II R)):Ow ta δ M R:=h
def Gp{xs:List D}(h:R (.fix (eK xs)) M):II R [.tup xs] M:=h
def Gq{xs:List D}(hM:M a>`J)(h:R (.fn (eO `z)) M):II R [.ref a] M:=#[#[xs,cJ hM],h]
end L3
namespace L4
open PySem.Spec L2 L3 L5
section
variable {pos:Pos}
end
end L4
namespace L2
open PySem.Spec PyProof.Rows
def X3(K:L8)(x y:V)(H:Hp)(Q:Bool->Prop):Prop:=(∃a o,y=.ref a/\rg H a x o/\Q o.isSome)\/∃a b kvs k,y=.ref a/\x=.ref b/\mJ K H a kvs/\k.dep<=5/\eS K H k (.ref b)/\Q (gy kvs k).isSome
def LJ(neg:Bool)(hu:e_ X):gP X (compareOp (if neg then .NotIn else .In)) (λ x y H Q=>X3 X.K x y H λ b=>Q (.bl (if neg then !b else b)) H):=by
 intro im s σ H x y v u Q I rx ry h;rcases h with⟨a,o,rfl,g,q⟩|⟨a,b,kvs,k,rfl,rfl,d,hk,qC,q⟩
 ·cases(show u=Value.ref a from ry);cases neg with
  |false=>exact ZR () I g rx λ s3 I3=>#[.bl o.isSome,H,I3,rfl,q]
  |true=>exact Np () I g rx λ s3 I3=>#[.bl (!o.isSome),H,I3,rfl,q]
 ·cases(show u=Value.ref a from ry);cases(show v=Value.ref b from rx);cases neg with
  |false=>exact Xy hu I d hk qC λ s3 I3=>#[.bl (gy kvs k).isSome,H,I3,rfl,q]
  |true=>exact J_ hu I d hk qC λ s3 I3=>#[.bl (!(gy kvs k).isSome),H,I3,rfl,q]
def UH(K:L8)(x y:V)(H:Hp)(Q:VK):Prop:=(∃a v,x=.ref a/\rg H a y (some v)/\Q v H)\/∃a b kvs k v,x=.ref a/\y=.ref b/\mJ K H a kvs/\k.dep<=5/\eS K H k (.ref b)/\gy kvs k>v/\Q v H
def RH(hu:e_ X):zH X (λ x y H Q=>UH X.K x y H Q):=by
 intro value slice im s σ H x y v u Q I rx ry h hs;rcases h with⟨a,w,rfl,g,q⟩|⟨a,b,kvs,k,w,rfl,rfl,d,hk,qC,g,q⟩
 ·cases(show v=Value.ref a from rx);refine tail_any (ops:=[.ref a,u]) (wQ I g) PySem.F.slot_dict_getitem.lookup ?_ hs;exact Eg () I g ry λ w' s3 I3 iT=>#[w,H,I3,iT,q]
 ·cases(show v=Value.ref a from rx);cases(show u=Value.ref b from ry);let#[_,_,xs,_,dd]:=d.of I;refine tail_any (ops:=[.ref a,.ref b]) dd.typeIs PySem.F.slot_dict_getitem.lookup ?_ hs;exact Dh hu I d hk qC g λ w' s3 I3 iT=>#[w,H,I3,iT,q]
def UG(K:L8):Ex:=λ o i v H Q=>(∃a H',o=.ref a/\Js H a i v H'/\Q H')\/∃a b kvs k,o=.ref a/\i=.ref b/\mJ K H a kvs/\k.dep<=5/\eS K H k (.ref b)/\-kvs<sizeLine/\Q (u8 H a (nk a (iJ kvs k b v)))
def Ko(hu:e_ X):uS X (UG X.K):=by
 intro im s σ H o i v ov iv u Q I ro ri rv h;rcases h with⟨a,H',rfl,g,q⟩|⟨a,b,kvs,k,rfl,rfl,d,hk,qC,hl,q⟩
 ·cases(show ov=Value.ref a from ro);exact Ef () I g ri rv λ s3 I3=>#[H',I3,q]
 ·cases(show ov=Value.ref a from ro);cases(show iv=Value.ref b from ri);exact Dg hu I d hk qC hl rv λ s3 I3=>#[_,I3,q]
def zy:dj X (.builtin "len") (λ xs H Q=>∃a,xs=[.ref a]/\((∃kvs,H a>(.dK kvs)/\Q (.int (-kvs)) H)\/∃kvs,H a>nk a kvs/\Q (.int (-kvs)) H)):=by
 intro im s σ H xs us Q I r h;let#[a,rfl,h]:=h;let#[u,rfl,ru]:=vals1 r;cases(show u=Value.ref a from ru);rcases h with⟨kvs,e,q⟩|⟨kvs,e,q⟩
 ·exact VW I (.inl e) λ t s' I'=>#[.int (-kvs),H,I',#[t,rfl],q]
 ·exact TV I e λ t s' I'=>#[.int (-kvs),H,I',#[t,rfl],q]
end L2
namespace L3
open PySem.Spec L2 L5 PyProof.Rows
noncomputable instance ad0:DecidableEq D:=λ a b=>Classical.propDecidable (a=b)
noncomputable def cL(kvs:List (D×D))(k:D):Option D:=(kvs.find? λ p=>decide (p.1=k)).map (·.2)
noncomputable def putD(kvs:List (D×D))(k v:D):List (D×D):=if(cL kvs k).isSome=true then kvs.map (λ p=>if p.1=k then(p.1,v)else p)else kvs++[(k,v)]
def iD(t:Bool)(x:D):Prop:=match t with
 |false=>∃k:Key,x=iK k
 |true=>∃ks:List IK,x=qA (.t ks)/\(IK.t ks).dep<=5
def zK(K:L8)(H:Hp):Option D->Option V->Prop
 |none,none=>True
 |some d,some v=>sB K H d v
 |_,_=>False
def Jt.look{kvs:List (D×D)}{xs:List (Key×V)}(h:Jt K H kvs xs)(k:Key):zK K H (cL kvs (iK k)) (gW xs k):=by
 induction h with
 |nil=>exact True.intro
 |@cons p q ps qs jQ t ih=>
  let#[h1,h2]:=jQ;unfold cL gW at ih ⊢;by_cases e:q.1=k
  ·have e':p.1=iK k:=by rw[h1,e]
   simp only[B3,C9 e,C9 e',Option.map_some];exact h2
  ·have e':¬p.1=iK k:=λ z=>e (wj (h1.symm.trans z));simp only[B3,B4 e,B4 e'];exact ih
def EA.look{kvs:List (D×D)}{xs:List fb}(h:EA K H kvs xs)(k:IK):zK K H (cL kvs (qA k)) (gy xs k):=by
 induction h with
 |nil=>exact True.intro
 |@cons p q ps qs jQ t ih=>
  let#[h1,_,_,h2]:=jQ;unfold cL gy at ih ⊢;by_cases e:q.1=k
  ·have e':p.1=qA k:=by rw[h1,e]
   simp only[B3,C9 e,C9 e',Option.map_some];exact h2
  ·have e':¬p.1=qA k:=λ z=>e (ug (h1.symm.trans z));simp only[B3,B4 e,B4 e'];exact ih
theorem zK.isSome{o:Option D}{u:Option V}(h:zK K H o u):o.isSome=u.isSome:=by
 cases o with
 |none=>cases u with
  |none=>rfl
  |some _=>exact(show False from h).elim
 |some _=>cases u with
  |none=>exact(show False from h).elim
  |some _=>rfl
def zK.some_of{u:Option V}(h:zK K H (some d) u):∃v,u>v/\sB K H d v:=by
 cases u with
 |none=>exact(show False from h).elim
 |some v=>exact#[v,rfl,h]
def EA.keys{kvs:List (D×D)}{xs:List fb}(h:EA K H kvs xs)(e:H a>nk a xs):mJ K H a xs:=by
 refine#[e,?_];clear e
 induction h with
 |nil=>intro p hp;cases hp
 |@cons p q ps qs jQ t ih=>
  intro x hx;rcases E8.mp hx with rfl|hx
  ·let#[h1,h2,h3,_]:=jQ;rw[h1]at h3;exact#[h2,mD _ h3]
  ·exact ih x hx
def Gy(xs:List (Key×V))(k:Key)(v:V):putK xs k v=if(gW xs k).isSome=true then xs.map (λ kv=>if kv.1=k then(kv.1,v)else kv)else xs++[(k,v)]:=by unfold putK;rw[oJ]
def Jt.put{kvs:List (D×D)}{xs:List (Key×V)}(h:Jt K H kvs xs)(k:Key)(hd:sB K H d v):Jt K H (putD kvs (iK k) d) (putK xs k v):=by
 rw[Gy];unfold putD;rw[(h.look k).isSome];by_cases e:(gW xs k).isSome=true
 ·rw[L1 e,L1 e];clear e
  induction h with
  |nil=>exact .nil
  |@cons p q ps qs jQ t ih=>
   rw[D9,D9];refine .cons ?_ ih;let#[h1,h2]:=jQ;by_cases e:q.1=k
   ·rw[L1 e,L1 (by rw[h1,e])];exact#[h1,hd]
   ·rw[L7 e,L7 (λ z=>e (wj (h1.symm.trans z)))];exact#[h1,h2]
 ·rw[L7 e,L7 e];exact Paired.snoc h #[rfl,hd]
def EA.put{kvs:List (D×D)}{xs:List fb}(h:EA K H kvs xs)(k:IK)(hk:k.dep<=5)(hb:sB K H (qA k) (.ref b))(hd:sB K H d v):EA K H (putD kvs (qA k) d) (iJ xs k b v):=by
 unfold putD iJ;rw[(h.look k).isSome];by_cases e:(gy xs k).isSome=true
 ·rw[L1 e,L1 e];clear e
  induction h with
  |nil=>exact .nil
  |@cons p q ps qs jQ t ih=>
   rw[D9,D9];refine .cons ?_ ih;let#[h1,h2,h3,h4]:=jQ;by_cases e:q.1=k
   ·rw[L1 e,L1 (by rw[h1,e])];exact#[h1,h2,h3,hd]
   ·rw[L7 e,L7 (λ z=>e (ug (h1.symm.trans z)))];exact#[h1,h2,h3,h4]
 ·rw[L7 e,L7 e];exact Paired.snoc h #[rfl,hk,hb,hd]
def Su(neg:Bool):jq:=λ x y M Q=>∃a t kvs,y=.ref a/\M a>(.bV t kvs)/\iD t x/\Q (.bl (if neg then !(cL kvs x).isSome else(cL kvs x).isSome)) M
def nI(h:sB K H (qA (.t ks)) v):∃b,v=.ref b:=by unfold qA at h;let#[p,xs,rfl,_]:=aM.mp h;exact#[p,rfl]
def He(neg:Bool)(hu:e_ X):iO X (compareOp (if neg then .NotIn else .In)) (Su neg):=⟨_,LJ neg hu,λ x y d e H M Q2 Q hd he hm q k=>by
 let#[a,t,kvs,rfl,hM,ok,q]:=q;cases(az.mp he);have hr:=hm a _ hM;cases t with
 |false=>let#[xs,hx,rel]:=hr;let#[kk,rfl]:=ok;rw[lK hd];refine .inl #[a,_,rfl,rg.k9 hx,k _ H _ M `P hm `o ?_];rw[<- (rel.look kk).isSome];exact q
 |true=>
  let#[xs,hx,rel]:=hr;let#[ks,rfl,iL]:=ok;let#[b,rfl]:=nI hd;refine .inr #[a,b,xs,_,rfl,rfl,rel.keys hx,iL,mD _ hd,k _ H _ M `P hm `o ?_];rw[<- (rel.look _).isSome];exact q⟩
def V1:jq:=λ x y M Q=>Nu x y M Q\/Su false x y M Q
def U5(hu:e_ X):iO X (compareOp .In) V1:=(vT hu).or (He false hu)
def BW:jq:=λ x y M Q=>n_ x y M Q\/Su true x y M Q
def vS(hu:e_ X):iO X (compareOp .NotIn) BW:=(gE hu).or (He true hu)
def V3:jq:=λ x y M Q=>∃a t kvs d,x=.ref a/\M a>(.bV t kvs)/\iD t y/\cL kvs y>d/\Q d M
def Sn:jq:=λ x y M Q=>Tt x y M Q\/V3 x y M Q
def dH(hu:e_ X):Xl X Sn:=by
 let#[r,h1,h2]:=(L3.aG:Xl X Tt);refine#[_,h1.or (RH hu),λ x y d e H M Q2 Q hd he hm q k=>?_];rcases q with q|⟨a,t,kvs,w,rfl,hM,ok,hl,q⟩
 ·exact .inl (h2 x y d e H M Q2 Q hd he hm q k)
 ·cases(az.mp hd);have hr:=hm a _ hM;cases t with
  |false=>let#[xs,hx,rel]:=hr;let#[kk,rfl]:=ok;have hv:=rel.look kk;rw[hl]at hv;let#[v,e1,e2]:=hv.some_of;rw[lK he];exact .inr (.inl #[a,v,rfl,by rw[<- e1];exact rg.k9 hx,k _ H _ M e2 hm `o q])
  |true=>let#[xs,hx,rel]:=hr;let#[ks,rfl,iL]:=ok;have hv:=rel.look (.t ks);rw[hl]at hv;let#[v,e1,e2]:=hv.some_of;let#[b,rfl]:=nI he;exact .inr (.inr #[a,b,xs,_,v,rfl,rfl,rel.keys hx,iL,mD _ he,e1,k _ H _ M e2 hm `o q])
def V2:mQ:=λ o i v M N=>∃a t kvs,o=.ref a/\M a>(.bV t kvs)/\iD t i/\-kvs<sizeLine/\N (af M a (.bV t (putD kvs i v)))
def OP:mQ:=λ o i v M N=>Nr o i v M N\/V2 o i v M N
def uS.or{t u:Ex}(h:uS X t)(g:uS X u):uS X (λ o i v H Q=>t o i v H Q\/u o i v H Q):=by
 intro im s σ H o i v ov iv uu Q I ro ri rv q;rcases q with q|q
 ·exact h im s σ H o i v ov iv uu Q I ro ri rv q
 ·exact g im s σ H o i v ov iv uu Q I ro ri rv q
def x_(hu:e_ X):NM X OP:=by
 let#[r,h1,h2]:=(oY:NM X Nr);refine#[_,uS.or h1 (Ko hu),λ o i v d j e H M Q2 Q hd hj he hm q k=>?_];rcases q with q|⟨a,t,kvs,rfl,hM,ok,hl,q⟩
 ·exact .inl (h2 o i v d j e H M Q2 Q hd hj he hm q k)
 ·cases(az.mp hd);have hr:=hm a _ hM;cases t with
  |false=>let#[xs,hx,rel]:=hr;let#[kk,rfl]:=ok;rw[lK hj];have t:=ao.mut (o:=.dK (putK xs kk v)) hx (λ _ z=>by cases z) (λ _ _ z=>by cases z);refine .inr (.inl #[a,_,rfl,Js.k9 hx (by rw[<- D7 rel];exact hl),k _ _ (hm.put (u:=.bV false (putD kvs (iK kk) e)) t #[_,aH,(rel.put kk he).mono t]) t q])
  |true=>let#[xs,hx,rel]:=hr;let#[ks,rfl,iL]:=ok;let#[b,rfl]:=nI hj;have t:=ao.mut (o:=nk a (iJ xs (.t ks) b v)) hx (λ _ z=>by cases z) (λ _ _ z=>by cases z);refine .inr (.inr #[a,b,xs,_,rfl,rfl,rel.keys hx,iL,mD _ hj,by rw[<- D7 rel];exact hl,k _ _ (hm.put (u:=.bV true (putD kvs (qA (.t ks)) e)) t #[_,aH,(rel.put (.t ks) iL hj he).mono t]) t q])
def BZ:List D->Mem->bK->Prop:=λ xs M Q=>Ei xs M Q\/∃a t kvs,xs=[.ref a]/\M a>(.bV t kvs)/\Q (.int (-kvs:Nat)) M
def jl:fJ X (.builtin "len") BZ:=by
 let#[r,h1,h2]:=(L3.bT:fJ X (.builtin "len") Ei);refine#[_,h1.or zy,λ xs ds H M Q2 Q hd hm q k=>?_];rcases q with q|⟨a,t,kvs,rfl,hM,q⟩
 ·exact .inl (h2 xs ds H M Q2 Q hd hm q k)
 ·let#[x,r,rfl,hx,hr]:=ae.mp hd;cases(ah.mp hr);cases(az.mp hx);have hr:=hm a _ hM;cases t with
  |false=>let#[xs,hx,rel]:=hr;exact .inr #[a,rfl,.inl #[xs,hx,by rw[<- D7 rel];exact k _ H _ M (aq.mpr rfl) hm `o q]]
  |true=>let#[xs,hx,rel]:=hr;exact .inr #[a,rfl,.inr #[xs,hx,by rw[<- D7 rel];exact k _ H _ M (aq.mpr rfl) hm `o q]]
def Ul(t:Bool):bU:=λ _ M Q=>∀p,M p=none->Q `j (af M p (.bV t []))
def EZ(t:Bool){pos:Pos}:WE X (.Dict [] [] pos) (Ul t):=by
 refine#[?_];cases t with
 |false=>refine bA GO λ σ H Q ⟨δ,M,Q2,hs,hm,q,k⟩ p hp=>?_;exact k _ _ `j _ (az.mpr rfl) (hm.put (u:=.bV false []) `Q #[[],aH,.nil]) `Q (q p (hm.free hp))
 |true=>refine bA vP λ σ H Q ⟨δ,M,Q2,hs,hm,q,k⟩ p hp=>?_;exact k _ _ `j _ (az.mpr rfl) (hm.put (u:=.bV true []) `Q #[[],aH,.nil]) `Q (q p (hm.free hp))
end L3
namespace L4
open PySem.Spec L2 L3 L5
end L4
namespace L2
open PySem.Spec PySem.W PyProof.Rows L5
def GP{k v:Expr}{tk tv:TE}{pos:Pos}(hu:e_ X)(hk:PE X k tk)(hv:PE X v tv):PE X (.Dict [some k] [v] pos) (λ σ H Q=>∀p,H p=none->tk σ (u8 H p (nk p [])) λ x H1=>tv σ H1 λ y H2=>∃b ik,x=.ref b/\H2 p>nk p []/\ik.dep<=5/\eS X.K H2 ik (.ref b)/\Q `j (u8 H2 p (nk p (iJ [] ik b y)))):=by
 intro im s σ H Q I h;refine wpAny_Dict_any rfl rfl `g `g ?_;have I0:=I.laid (a:=s⁻¹) (o:=nk s⁻¹ []) (t':=s.toks) (λ _ _ q=>j4 _ q) `G (qh (BM s.heap I.big));refine pairTrees_cons_walk (cZ (hk im _ σ _ _ I0 (h _ (I.aX.fresh `G))) λ kv s1 ⟨x,H1,I1,r1,q1⟩=>cZ (hv im s1 σ H1 _ I1 q1) λ vv s2 ⟨y,H2,I2,r2,q2⟩=>pairTrees_nil_walk ?_);let#[b,ik,rfl,hp,hd,qC,q]:=q2;cases(show kv=Value.ref b from r1);generalize s⁻¹=p at*;let#[z,nm,xs,rel,dd]:=mJ.of I2 (kvs:=[]) #[hp,λ _ z=>by cases z];cases rel;have lG:(iJ [] ik b y).length<=sizeLine:=by have:=pG [] ik b y;exact G9 this `c
 unfold storeAll;rw[C8];refine K1 (K1 (wpAny_dictSet_heap (knd:=aP X.prog X.w) (hsz:=J9 _) (show X.A.units+8<cLine by lia) #[hd,jX I2 ik qC rfl] dd λ h' xG hs=>K3 ?_));dsimp only;rw[forIn_nil];let#[q',es,ep,hq,h2,h3,h4,_,h5]:=xG;exact K3 #[.ref p,_,ie I2 (hp>=True.intro) hs #[q',hq] (qh #[lG,nm,_,EG.put .nil ik r2,q',es,ep,hq,h2,h3,h4,h5]),rfl,q]
end L2
namespace L3
open PySem.Spec L2 L5 PyProof.Rows
def Px(tk tv:bU):bU:=λ δ M Q=>∀p,M p=none->tk δ (af M p (.bV true [])) λ x M1=>tv δ M1 λ y M2=>M2 p>(.bV true [])/\iD true x/\Q `j (af M2 p (.bV true [(x,y)]))
def Lh{k v:Expr}{tk tv:bU}{pos:Pos}(hu:e_ X)(hk:QE X k tk)(hv:QE X v tv):QE X (.Dict [some k] [v] pos) (Px tk tv):=by refine bA (GP hu hk hv) ?_;rintro σ H Q ⟨δ,M,Q2,hs,hm,q,k⟩ p hp;have t0:ao H (u8 H p (nk p [])):=ao.laid hp;refine#[δ,af M p (.bV true []),_,hs.mono t0,hm.put (u:=.bV true []) t0 #[[],aH,.nil],q p (hm.free hp),λ x H1 d M1 hd bJ t1 q1=>?_];refine#[δ,M1,_,(hs.mono t0).mono t1,bJ,q1,λ y H2 e M2 he kL t2 q2=>?_];let#[h_,#[ks,rfl,iL],q2]:=q2;have hd2:=sB.mono t2 _ hd;let#[b,rfl]:=nI hd2;let#[xs,hx,rel]:=kL p _ h_;cases rel;have t:=ao.mut (o:=nk p (iJ [] (.t ks) b y)) hx (λ _ z=>by cases z) (λ _ _ z=>by cases z);exact#[b,.t ks,rfl,hx,iL,mD _ hd2,k _ _ _ _ (az.mpr rfl) (kL.put (u:=.bV true [(qA (.t ks),e)]) t #[_,aH,((EA.put (kvs:=[]) .nil (.t ks) iL hd2 he):EA X.K H2 [(qA (.t ks),e)] (iJ [] (.t ks) b y)).mono t]) ((t0.trans t1).trans (t2.trans t)) q2]
section
variable {Q:bK}{kvs:List (D×D)}{x y v:D}{t:Bool}{N:Mem->Prop}{xs:List D}
def rS(h:M a>(.bV t kvs))(hk:iD t x)(q:Q (.bl (!(cL kvs x).isSome)) M):BW x `z M Q:=.inr #[a,t,kvs,rfl,h,hk,q]
def cE(h:Tt x y M Q):Sn x y M Q:=.inl h
def tw(h:M a>(.bV t kvs))(hk:iD t x)(e:cL kvs x>d)(q:Q d M):Sn `z x M Q:=.inr #[a,t,kvs,d,rfl,h,hk,e,q]
def tm(h:M a>(.bV t kvs))(hk:iD t x)(hl:-kvs<sizeLine)(q:N (af M a (.bV t (putD kvs x v)))):OP `z x v M N:=.inr #[a,t,kvs,rfl,h,hk,hl,q]
def KS(h:M a>(.bV t kvs))(q:Q (.int (-kvs:Nat)) M):BZ [.ref a] M Q:=.inr #[a,t,kvs,rfl,h,q]
def fm(h:Ei xs M Q):BZ xs M Q:=.inl h
end
end L3
namespace KK
open L3 L4 L5
open L2 hiding aG gb
abbrev Row:=List Int
end KK
variable {io r:List KK.Row}{ls:KK.Row}
namespace KK
open L3 L4 L5
open L2 hiding aG gb
def sw.free(h:sw M M')(hp:M' p=none):M p=none:=by
 cases e:M p with
 |none=>rfl
 |some o=>rw[h p o e]at hp;cases hp
def sw.trans{M2:Mem}(h:sw M M1)(g:sw M1 M2):sw M M2:=λ b o e=>g b o (h b o e)
def sw.new(h:sw M M')(hp:M' p=none)(x:MO):sw M (af M' p x):=Ym h hp x
def aU{x:MO}(h:M p>x)(g:M q=none):p≠q:=λ z=>by subst z;rw[h]at g;cases g
def Uu{ds:List α}{X:Prop}(h:-ds<=16)(q:X):-ds<=sizeLine/\X:=#[G9 h `c,q]
def pC{Q:bK}(q:Q (.bl true) M):Nt false .bf .bf M Q:=q
def BI{sp:fM}(h:∀ds M Q,¬sp ds M Q):bS P w K mg base eQ k f fd ps (cI K sp):=
 #[λ _ _ _ _ ⟨ds,M,Q,_,_,q,_⟩=>bi q (h ds M Q),λ _ _ _ _ _ _ _ _ _ _ _ _ _ ⟨ds,M,Q,_,_,q,_⟩=>bi q (h ds M Q)]
def Z6:D->Prop
 | .bf=>True| .bl _=>True| .int _=>True| .str _=>True|_=>False
def zG(M:Mem):Nat->D->D->Prop
 |0,_,_=>False
 |k+1,x,y=>(x=y/\Z6 x)\/(∃ds es,x=.tup ds/\y=.tup es/\-ds=-es/\-ds<=10000/\∀(i:Nat)(d e:D),ds[i]?>d->es[i]?>e->zG M k d e)\/
  ∃p q ds es,x=.ref p/\y=.ref q/\M p>`B/\M q>(.lst es)/\-ds=-es/\-ds<=10000/\∀(i:Nat)(d e:D),ds[i]?>d->es[i]?>e->zG M k d e
def vF(M:Mem)(k:Nat){r:List Int}(h:-r<=10000):zG M (k+2) (row r) (row r):=
 .inr (.inl ⟨_,_,rfl,rfl,rfl,C1>=h,λ i d e hd he=>by
  rw[hd]at he;cases he;let#[x,_,rfl]:=G7.mp (k9 hd);exact .inl #[rfl,True.intro]⟩)
def vE(hl:-ds<=10000)(h:∀d∈ds,zG M k d d):zG M (k+1) (.tup ds) (.tup ds):=
 .inr (.inl ⟨ds,ds,rfl,rfl,rfl,hl,λ i d e hd he=>by
  rw[hd]at he;cases he;exact h d (k9 hd)⟩)
def FH(k:Nat):fM:=λ ds M Q=>∃x y,ds=[x,y]/\zG M k x y/\Q (.bl true) M
def Kg:∀ds M Q,¬FH 0 ds M Q:=λ ds M Q ⟨_,_,_,h,_⟩=>h
def JR(a:Nat):∀b:Nat,(a^^^b)+2*(a&&& b)=a+b:=by
 induction a using Nat.strongRecOn with
 |ind a ih=>
  intro b;by_cases h:a=0
  ·subst h;simp
  ·have h1:=ih (a/2) () (b/2);rw[<- Nat.xor_div_two,<- Nat.and_div_two]at h1;have x1:(a^^^b)%2=1↔¬(a%2=1↔b%2=1):=Nat.xor_mod_two_eq_one;have x2:(a&&& b)%2=1↔a%2=1/\b%2=1:=Nat.and_mod_two_eq_one;lia
def zB(a b:Nat):Builtin.bitXor (a:Int) (b:Int)=((a^^^b:Nat):Int):=by rw[PyProof.Rows.bitXor_and,PyProof.Rows.bitAnd_pp () ()];have:=JR a b;simp only[x3];lia
structure Tb(m h:Nat)(io:List Row):Prop where
 len:-io=m
 pos:0<m
 bZ:m<=300
 wL:h<=12
 row:∀r∈io,-r=h/\∀x∈r,0<=x/\x<(m:Int)
def bt(io:List Row)(ls:Row):D:=.tup [.tup (io.map row),row ls]
def aE(io:List Row)(h x:Nat):Nat:=((io.getD x []).getD h 0).toNat
def Tb.at{h:Nat}(T:Tb m h io){x:Nat}(hx:x<m)(hi:i<h):(io.getD x []).length=h/\(io.getD x []).getD i 0=(aE io i x:Int)/\aE io i x<m:=by
 have u_:x< -io:=T.len>=hx
 have e:io.getD x []=io[x]:=by rw[b8,i5 u_];rfl
 have hr:=T.row _ (A4 u_);unfold aE;rw[e];have um:i<(io[x]).length:=hr.1>=hi
 have e2:(io[x]).getD i 0=(io[x])[i]:=by rw[b8,i5 um];rfl
 have hb:=hr.2 _ (A4 um);rw[e2];exact#[hr.1,(),()]
def qO(f:Nat->Nat):Nat->Nat->Nat
 |0,x=>x
 |n+1,x=>qO f n (f x)
theorem yI{f:Nat->Nat}(hf:∀x,x<m->f x<m):∀n x,x<m->qO f n x<m
 |0,x,h=>h
 |n+1,x,h=>yI hf n (f x) (hf x h)
def xA(io:List Row):Nat->Nat->Row->Nat
 |_,x,[]=>x
 |i,x,c::cs=>xA io (i+1) (qO (aE io i) c.toNat x) cs
def Tb.sV{h:Nat}(T:Tb m h io)(hi:i<h):∀x,x<m->aE io i x<m:=λ x hx=>(T.at hx hi).2.2
end KK
namespace L2
open PySem.Spec PyProof.Rows
def rA{x:V}(r:ut (x::xs) us):∃u ws,us=u::ws/\sK x u/\ut xs ws:=by
 cases r with
 |cons a b=>exact#[_,_,rfl,a,b]
theorem rR:∀(cs:List be){ar:List ac},ut (cs.map V.ref) ar->ar=cs.map Value.ref
 |[],_,rv=>by cases rv;rfl
 |c::cs,_,rv=>by let#[w,ws,rfl,iT,r4]:=rA rv;obtain rfl:w=Value.ref c:=iT;rw[rR cs r4];rfl
open PySem.W PySem.Calls L5
theorem HX:∀(vs:List ac)(ns:List Int),-vs=-ns->(∀(j:Nat)(v:ac)(n:Int),vs[j]?>v->ns[j]?>n->∃t:Tok,v=Value.int n t)->IntsAre vs ns
 |[],[],_,_=>.nil
 |[],_::_,h,_=>by cases h
 |_::_,[],h,_=>by cases h
 |v::vs,n::ns,h,k=>by let#[t,rfl]:=k 0 v n rfl rfl;exact .cons n t (HX vs ns (~~~h) λ j v n a b=>k (j+1) v n (~~~a) (~~~b))
def wC(h:IntsAre vs ns):ut (ns.map V.int) vs:=by
 induction h with
 |nil=>exact .nil
 |cons n t _ ih=>exact .cons #[t,rfl] ih
theorem pU:∀{ns:List Int} {vs:List ac},ut (ns.map V.int) vs->IntsAre vs ns
 |[],_,h=>by cases h;exact .nil
 |n::ns,_,h=>by let#[u,us,rfl,ru,r]:=rA h;let#[t,rfl]:=ru;exact .cons n t (pU r)
def xh(hc:X.calm=true):dj X (.builtin "sorted") (λ xs H Q=>∃(a:be)(kvs:List (Key×V))(ns:List Int),xs=[.ref a]/\H a>(.dK kvs)/\kvs.map (·.1)=ns.map Sum.inl/\-ns<64/\∀(iz:List Int)(p:be),iz.Perm ns->iz.Pairwise (·<=·)->H p=none->Q `j (u8 H p (.lst (iz.map V.int)))):=by
 intro im s σ H xs us Q I r ⟨a,kvs,ns,e,hd,hk,uw,q⟩;subst e;let#[u,rfl,rx]:=vals1 r;cases(show u=Value.ref a from rx);let#[z,nm,vs,rel,dd]:=BN I.aX hd;let#[ep,R7]:=dd.dictAt;have len:-vs=-ns:=by rw[<- D7 rel];have:=K8 List.length hk;simpa using this
 refine call_function_entry kind_sorted plain_sorted entry_sorted (args_sorted1 _) ?_;unfold Builtin.«sorted»;refine K1 (m:=checkCount "sorted" 1 1 _) (K3 (K1 (kdu_collect (A:=X.A.in1) (kdl_dict (knd:=cW X.prog X.w) (kvs:=vs) (ep:=ep) nm) (show X.A.in1.handled=none from I.ok.hd hc) R7 (by rw[J8];lia) λ h' tk jp Zc fL=>?_)));have hl:-jp.toList=-ns:=by rw[m9,fL.1,len]
 have keys:vs.map (·.1)=ns.map Sum.inl:=by
  rw[<- hk];clear hk hd R7 dd fL len q z
  induction rel with
  |nil=>rfl
  |cons p _ ih=>rw[D9,D9,ih,p.1]
 have hI:IntsAre jp.toList ns:=HX _ _ hl λ j v n a b=>by
  let#[k,x,e1,e2]:=fL.2 j v (by rw[<- k4];exact a);have e3:k=Sum.inl n:=by have:=K8 (λ l=>l[j]?) keys;simp only[w6,e1,b,Option.map_some,Option.some.injEq]at this;exact this
  subst e3;rcases bO (show pR (Sum.inl n) v=true from e2)with⟨i,t,h1,rfl⟩|⟨x,t,h1,rfl⟩
  ·cases h1;exact#[t,rfl]
  ·cases h1
 refine K1 (wpAny_newList ?_ (by rw[hl,J8];lia));have MP:(h'.push (seqObj "list" jp.toList.toArray 0)).get? h'.objs.size>seqObj "list" jp.toList.toArray 0:=n5 _ rfl;refine K1 (D5 (A1 slot_list_sort #[_,MP,rfl] entry_list_sort (list_sort_tree MP hI () λ out iz a1 a2 a3=>#[_,rfl,?_]) (args_list_sort _)));refine K3 #[_,rfl,?_];let#[c,OI]:=sortedHeap_at (out:=out) MP;have I0:nn X im σ H {s with heap:=h',toks:=tk}:=I.kept (t':=tk) Zc;have kp:∀b o,h'.get? b>o->(sortedHeap (h'.push (seqObj "list" jp.toList.toArray 0)) h'.objs.size jp.toList out).get? b>o:=λ b o e=>sortedHeap_old (G4 (G5 e)) (size_push'>=y6 (G5 e))>=j4 _ e
 exact#[.ref h'.objs.size,_,I0.laid (t':=tk) kp `G (show br X.prog X.w _ _ _ (.lst (iz.map V.int))from#[by rw[C1,a2.length_eq,J8];lia,out.toList,c,wC a1,Array.toArray_toList>=OI]),rfl,q iz _ a2 a3 (I0.aX.fresh `G)]
def xg:dj X (.builtin "sorted") (λ xs H Q=>∃(a:be)(ns:List Int),xs=[.ref a]/\fK X.K H a (ns.map V.int)/\-ns<64/\∀(iz:List Int)(p:be),iz.Perm ns->iz.Pairwise (·<=·)->H p=none->Q `j (u8 H p (.lst (iz.map V.int)))):=by intro im s σ H xs us Q I r ⟨a,ns,e,hq,uw,q⟩;subst e;let#[u,rfl,rx]:=vals1 r;cases(show u=Value.ref a from rx);let#[ar,r',pl,hz]:=I.list hq;have hI:=pU r';have hl:=-r';rw[C1]at hl;refine sorted_ints pl.isList hI () λ out iz a1 a2 a3=>?_;let#[c,OI]:=sortedAll_at s.heap ar out;exact#[.ref (s⁻¹+1),_,I.laid (t':=s.toks) (λ _ _=>sortedAll_old) (Nat.le_succ _) (show br X.prog X.w _ _ _ (.lst (iz.map V.int))from#[by rw[C1,a2.length_eq,J8];lia,out.toList,c,wC a1,Array.toArray_toList>=OI]),rfl,q iz _ a2 a3 (I.aX.fresh (Nat.le_succ _))]
end L2
namespace L3
open PySem.Spec L2 L5 PyProof.Rows
def IU:List D->Mem->bK->Prop:=λ xs M Q=>∃(a:be)(ns:List Int),xs=[.ref a]/\((∃kvs,M a>(.bV false kvs)/\kvs.map (·.1)=ns.map D.int)\/M a>(.lst (ns.map D.int)))/\-ns<64/\∀(iz:List Int)(p:be),iz.Perm ns->iz.Pairwise (·<=·)->M p=none->Q `j (af M p (.lst (iz.map D.int)))
theorem r_:∀{xs:List Key} {ns:List Int},xs.map iK=ns.map D.int->xs=ns.map Sum.inl
 |[],[],_=>rfl
 |[],_::_,h=>by cases h
 |_::_,[],h=>by cases h
 |x::xs,n::ns,h=>by
  rw[D9,D9,List.cons.injEq]at h;rw[D9,r_ h.2];cases x with
  |inl i=>have:=h.1;simp only[iK,D.int.injEq]at this;rw[this]
  |inr i=>have:=h.1;simp[iK]at this
def NC(hc:X.calm=true):fJ X (.builtin "sorted") IU:=⟨_,(xh hc).or xg,λ xs ds H M Q2 Q hd hm q k=>by
 let#[a,ns,rfl,hs,uw,q]:=q;let#[x,r,rfl,hx,hr]:=ae.mp hd;cases(ah.mp hr);cases(az.mp hx);have fin:∀(iz:List Int)(p:be),iz.Perm ns->iz.Pairwise (·<=·)->H p=none->Q `j (u8 H p (.lst (iz.map V.int))):=λ iz p a1 a2 hp=>k _ _ `j _ (az.mpr rfl) (dM hp (jN iz) hm) `Q (q iz p a1 a2 (hm.free hp));rcases hs with⟨kvs,hM,hk⟩|hM
 ·let#[ys,hy,rel]:=hm a _ hM;refine .inl #[a,ys,ns,rfl,hy,?_,uw,fin];refine r_ ?_;rw[<- hk];clear hk hy hM q fin
  induction rel with
  |nil=>rfl
  |cons p _ ih=>rw[D9,D9,D9,ih,p.1]
 ·let#[ys,hy,OH]:=hm a _ hM;rw[d_ OH]at hy;exact .inr #[a,ns,rfl,fK.of hy,uw,fin]⟩
def Ds{Q:bK}(ns:List Int)(h:M a>(.lst (ns.map D.int)))(uw:-ns<64)(q:∀(iz:List Int)(p:be),iz.Perm ns->iz.Pairwise (·<=·)->M p=none->Q `j (af M p (.lst (iz.map D.int)))):IU [.ref a] M Q:=#[a,ns,rfl,.inr h,uw,q]
end L3
namespace L2
open PySem.Spec PyProof.Rows
def Xp(lo:Int)(n:Nat):It:=#[λ i _=>i<n,λ i H x H'=>H'=H/\x=.int (lo-i),λ i _=>n<=i]
def Dc(it:be)(lo:Int)(n:Nat):Turn P w K tg (Xp lo n) [it] it (λ i h=>IsRangeIter h it (lo+(i:Nat)*(-1)) ((n:Int)-(i:Nat)) (-1)) where
 mem:=by simp
 obj:=λ i h st b hb=>by
  have e:b=it:= ~~~hb
  subst e;exact⟨_,st,λ v z=>by
   have z':Data.fields _=Data.cell v:=z;cases z'⟩
 keep:=λ i h h' st k=>k it `g _ st
 item:=by intro X hP hw hK hc i im s σ H E I hf st hg;subst hP hw hK;let#[f0,f1,f2,f3,f4,f5]:=hf it `g;have W:=Walks.range (prog:=X.prog) (w:=X.w) (I.ok.hd hc) it lo (-1) n;refine W.item i s _ _ hg st λ v h' tk hv iR kk=>?_;let#[t,rfl]:=hv;have I1:nn X im σ H {s with heap:=h',toks:=tk}:=I.turned (λ b o hb e=>kk b o (~~~hb) e) f0 f1 f3 f4 f5;refine#[_,rfl,wI (s:={s with heap:=h',toks:=tk}) (n:="range_iterator") iR rfl rfl `c #[.int (lo-i),H,I1,#[t,?_],#[rfl,rfl],iR,λ b hb=>(hf b hb).1]];rw[Int.mul_neg,Int.mul_one,<- Int.sub_eq_add_neg]
 done:=by intro X hP hw hK hc i im s σ H E I hf st hg;subst hP hw hK;let#[f0,f1,f2,f3,f4,f5]:=hf it `g;exact wpAny_pyNext_range_end (I.ok.hd hc) st (by have:n<=i:=hg;lia) λ h' eb=>#[rfl,I.turned (t':=s.toks) (λ b o hb e=>eb b o hb e) f0 f1 f3 f4 f5]
 self:=λ _ _ _ _ _ st h=>wpAny_pyIter_rangeiter st h
def rM(a b:Int):Builtin.Range.rangeSize a b (-1)=((a-b).toNat:Int):=by unfold Builtin.Range.rangeSize;rw[L7 `c];simp only[Int.neg_neg,Int.ediv_one];split<;>lia
def small_down{a b:Int}(ha: -(2^62)<=a)(ha':a<2^62)(hb: -(2^62)<=b)(MX:b<2^62):Builtin.Range.small a b (-1)=true:=by
 unfold Builtin.Range.small;rw[rM];have e:(((a-b).toNat:Nat):Int)=if a-b<=0 then 0 else a-b:=by split<;>lia
 rw[e];simp only[Builtin.Range.rangeFitsLong,A2,ga,w9,beq_iff_eq,show ¬GT.gt (-1:Int) 0 by decide,K7];split<;>lia
def Nl{R:It->Hp->Prop}{hi:Int}{t u v:Tok}{tk:Nat}(I:nn X im σ H s)(h1: -(2^62)<=lo)(h2:lo<2^62)(h3: -(2^62)<=hi)(h4:hi<2^62)(q:R (Xp lo (lo-hi).toNat) H):wpAny `f X.A (pyIter (.ref s⁻¹)) (Z5 X im σ tg R) E {s with heap:=s.heap.push {cls:=.type "range",data:=.fields ([.int lo t,.int hi u,.int (-1) v].toArray)},toks:=tk}:=by
 refine wpAny_pyIter_range (IsRange.new ..) (small_down h1 h2 h3 h4) ?_;have I1:nn X im σ H {s with heap:=s.heap.push {cls:=.type "range",data:=.fields ([.int lo t,.int hi u,.int (-1) v].toArray)},toks:=tk}:=I.kept λ b o e=>j4 _ e;refine⟨(s.heap.push {cls:=.type "range",data:=.fields ([.int lo t,.int hi u,.int (-1) v].toArray)}).objs.size,[(s.heap.push {cls:=.type "range",data:=.fields ([.int lo t,.int hi u,.int (-1) v].toArray)}).objs.size],_,_,H,rfl,
  I1.kept (t':=tk) λ b o e=>j4 _ e,Dc _ lo (lo-hi).toNat,?_,λ b hb=>?_,q⟩
 ·have e1:lo+((0:Nat):Int)*(-1)=lo:=by simp
  have e2:(((lo-hi).toNat:Nat):Int)-((0:Nat):Int)=Builtin.Range.rangeSize lo hi (-1):=by rw[rM];lia
  show IsRangeIter _ _ (lo+((0:Nat):Int)*(-1)) ((((lo-hi).toNat:Nat):Int)-((0:Nat):Int)) (-1);rw[e1,e2];exact n5 _ rfl
 ·have e:b=(s.heap.push {cls:=.type "range",data:=.fields ([.int lo t,.int hi u,.int (-1) v].toArray)}).objs.size:= ~~~hb
  subst e;exact I1.km `G (I1.aX.fresh `G)
def Vm(ta:TA):TI:=λ σ H R=>ta σ H λ vs H1=>∃i j:Int,vs=[.int i,.int j,.int (-1)]/\(-1000000000<=i/\i<=1000000000/\-1000000000<=j/\j<=1000000000)/\R (Xp i (i-j).toNat) H1
def Ly{a b c:Expr}{ta:TA}{p pos:Pos}(hg:Gl X "range")(hm:X.mg "range"=none)(ha:PA X [a,b,c] ta)(hs:starEach [a,b,c] X.env=[(false,eval a X.env),(false,eval b X.env),(false,eval c X.env)]:=by rfl)(hs2:starEach [b,c] X.env=[(false,eval b X.env),(false,eval c X.env)]:=by rfl):PI X tg (.Call (.Name "range" p) [a,b,c] [] pos) (Vm ta):=by
 intro im s σ H R I h;refine Call_ (fB I hg hm boot_range (a8 (cZ (ha pos im s σ H _ I h) λ us s1 ⟨vs,H1,I1,r1,q1⟩=>?_) (by show _=_;rw[hs,hs2]) (by show _=_;rw[hs2];rfl)));let#[i,j,e,#[q1,q2,q3,q4],q]:=q1;subst e;cases r1 with
 |cons r rr=>
  cases rr with
  |cons r' rr=>
   cases rr with
   |cons X5 rr=>cases rr;let#[t,rfl]:=r;let#[t',rfl]:=r';let#[t'',rfl]:=X5;exact call_range_3 `c (Nl I1 () () () () q) (Or.inl (PyProof.noPylong_small ()))
end L2
namespace L3
open PySem.Spec L2 L5 PyProof.Rows
def mO(lo:Int)(n:Nat):List D:=(List.range n).map λ i=>D.int (lo-(i:Nat))
def mC(lo:Int)(n:Nat):(mO lo n).length=n:=by simp[mO]
def sE(h:i<n):(mO lo n)[i]?>(.int (lo-(i:Nat))):=by simp[mO,h]
def IL(h:(mO lo n)[i]?>d):i<n/\d=.int (lo-(i:Nat)):=by
 have hi:i<n:=by have:=(g9.mp h).1;rw[mC]at this;exact this
 rw[sE hi]at h;exact#[hi,(B7 h).symm]
def DT:uT K H1 (Xp lo n) (.fix (mO lo n)):=λ H M ds t hm e=>by cases e;rw[mC];refine#[λ i hi=>hi,λ i hi=>J0 hi.symm,λ i x H' hi y=>?_];let#[e,rfl]:=y;subst e;exact#[ao.refl _,hm,_,sE hi,aq.mpr rfl]
section
variable {a b c:Expr}{p pos:Pos}
def HH(ta:dG):qE:=λ δ M R=>ta δ M λ ds M1=>∃i j:Int,ds=[.int i,.int j,.int (-1)]/\(-1000000000<=i/\i<=1000000000/\-1000000000<=j/\j<=1000000000)/\R (.fix (mO i (i-j).toNat)) M1
def Dx(hg:Gl X "range")(hm:X.mg "range"=none)(ha:QA X [a,b,c] ta)(hs:starEach [a,b,c] X.env=[(false,eval a X.env),(false,eval b X.env),(false,eval c X.env)]:=by rfl)(hs2:starEach [b,c] X.env=[(false,eval b X.env),(false,eval c X.env)]:=by rfl):QI X tg (.Call (.Name "range" p) [a,b,c] [] pos) (HH ta):=AH (Ly hg hm ha hs hs2) λ σ H R ⟨δ,M,R2,hs,hm,q,k⟩=>by refine#[δ,M,_,hs,hm,q,λ xs H1 ds M1 hd bJ t1 q1=>?_];let#[i,j,rfl,hb,q1]:=q1;let#[x,r,rfl,hx,hr]:=ae.mp hd;let#[y,r2,rfl,hy,pV]:=ae.mp hr;let#[z,r3,rfl,hz,YV]:=ae.mp pV;cases(ah.mp YV);cases(aq.mp hx);cases(aq.mp hy);cases(aq.mp hz);exact#[i,j,rfl,hb,k _ H1 _ M1 DT bJ t1 q1]
end
end L3
namespace L4
open PySem.Spec L2 L3
def CU{a b c:Expr}{p pos:Pos}(hm:X.mg "range"=none)(ha:WA X [a,b,c] ta)(hg:Gl X "range":=by rfl)(hs:starEach [a,b,c] X.env=[(false,eval a X.env),(false,eval b X.env),(false,eval c X.env)]:=by rfl)(hs2:starEach [b,c] X.env=[(false,eval b X.env),(false,eval c X.env)]:=by rfl):WI X tg (.Call (.Name "range" p) [a,b,c] [] pos) (HH ta):=#[Dx (hg:=hg) (hm:=hm) ha.h (hs:=hs) (hs2:=hs2)]
def K'(h:ta δ M λ ds M1=>∃i j:Int,ds=[.int i,.int j,.int (-1)]/\(-1000000000<=i/\i<=1000000000/\-1000000000<=j/\j<=1000000000)/\R (.fix (mO i (i-j).toNat)) M1):HH ta δ M R:=h
def lnS{A:Type}{P:List A->Prop}(h:∀a t,-t=n->P (a::t)):∀us:List A,-us=n+1->P us
 |[],e=>nomatch e
 |a::t,e=>h a t (Nat.succ.inj e)
def Yp{A:Type}{P:List A->Prop}(h:∀a,P [a]):∀us:List A,-us=1->P us:=lnS λ a t e=>a7 e>=h a
def ln2{A:Type}{P:List A->Prop}(h:∀a b,P [a,b]):∀us:List A,-us=2->P us:=lnS λ a=>Yp (P:=λ t=>P (a::t)) (h a)
end L4
namespace L2
open PySem.Spec PyProof.Rows
section
open PySem.AutoSeq1 (wpAny_loadPart')
def qU{Q:List ac->bd->Prop}{r:be}{a b c:Int}{t u v:Tok}(hh:A.handled=none)(hr:IsRange s.heap r a b c t u v)(RM:Builtin.Range.small a b c=true)(hn:Builtin.Range.rangeSize a b c=n)(hlen:n<=2^24)(hQ:∀h' tk jp,(∀b o,s.heap.get? b>o->h'.get? b>o)->ItemsOf (λ i v=>∃t,v=.int (a+i*c) t) jp n->Q jp.toList {s with heap:=h',toks:=tk}):wpAny `d A (collect (.ref r)) Q E s:=by
 unfold collect;refine K1 (wpAny_runValue (B9 F.entry_proto_collect ?_));rw[l5 F.plain_proto_collect _];show wpAny _ A.in1 (newList []>>=λ l=>again (.builtin "list.__iadd__" #[[l,.ref r],[]])) _ _ s;refine K1 (x4 ?_);refine K3 #[G0 F.plain_list_iadd _,B9 F.entry_list_iadd ?_];rw[l5 F.plain_list_iadd _];show wpAny _ A.in1 (Builtin.List.listExtendWith (.ref s⁻¹) (.ref r) (.ref s⁻¹)) _ _ _;have hS:(s.heap.push {cls:=.type "list",data:=.seq ([]:List ac).toArray}).get? s⁻¹>{cls:=.type "list",data:=.seq ([].toArray) 0}:=n5 _ rfl;have VS:∀(h':Heap)(tk:Nat)(iq:Array ac)(c':Nat),(∀b o,b≠s⁻¹->(s.heap.push {cls:=.type "list",data:=.seq ([]:List ac).toArray}).get? b>o->h'.get? b>o)->h'.get? s⁻¹>{cls:=.type "list",dict:=none,data:=.seq iq c',slots:=([].toArray)}->ItemsOf (λ i v=>∃t,v=.int (a+i*c) t) iq n->
   wpAny `d A (match Value.ref s⁻¹ with
   |Value.ref a=>do
    match(<- load a).data with
     |Data.seq xs _=>pure xs.toList
     |_=>unsupported "internal:collect"
   |_=>unsupported "internal:collect") Q E {s with heap:=h',toks:=tk}:=λ h' tk iq c' hk JH fL=>by
  show wpAny _ A (load s⁻¹>>=_) _ _ _;refine K1 (wpAny_load JH ?_);exact K3 (hQ h' tk iq (λ b o e=>hk b o (G4 (G5 e)) (j4 _ e)) fL)
 refine K6 (wpAny_extend_range (A:=A) (R:=λ r s'=>∃h' tk iq c',r=.ok (.ret (.ref s⁻¹))/\s'={s with heap:=h',toks:=tk}/\(∀b o,b≠s⁻¹->(s.heap.push {cls:=.type "list",data:=.seq ([]:List ac).toArray}).get? b>o->h'.get? b>o)/\h'.get? s⁻¹>{cls:=.type "list",dict:=none,data:=.seq iq c',slots:=([].toArray)}/\ItemsOf (λ i v=>∃t,v=.int (a+i*c) t) iq n)
  (s:={s with heap:=s.heap.push {cls:=.type "list",data:=.seq ([]:List ac).toArray}}) hh (j4 _ hr) RM hn hlen s⁻¹ _ 0 hS λ h' tk iq c' hk JH fL=>#[h',tk,iq,c',rfl,rfl,hk,JH,fL]) (λ fin s' h=>?_) (λ e s' h=>?_)
 ·cases fin with
  |done f=>let#[h',tk,iq,c',e,rfl,hk,JH,fL]:=h;cases e;exact VS h' tk iq c' hk JH fL
  |again c''=>exact#[h.1,J4 h.2 λ r S8 hr=>by let#[h',tk,iq,c',rfl,rfl,hk,JH,fL]:=hr;exact VS h' tk iq c' hk JH fL]
 ·let#[_,_,_,_,e,_]:=h;cases e
end
def mf(lo:Int)(n:Nat):List V:=(List.range n).map λ(i:Nat)=>V.int (lo+(i:Int))
def rO{jp:Array ac}(h:ItemsOf (λ i v=>∃t,v=Value.int (lo+(i:Int)*1) t) jp n):ut (mf lo n) jp.toList:=by
 let#[hl,hv]:=h;have go:∀(m:Nat)(vs:List ac)(k:Nat),-vs=m->(∀j v,vs[j]?>v->∃t,v=Value.int (lo+((k+j:Nat):Int)) t)->ut ((List.range' k m).map λ(i:Nat)=>V.int (lo+(i:Int))) vs:=by
  intro m
  induction m with
  |zero=>intro vs k hl _;rw[a7 hl];exact .nil
  |succ m ih=>
   intro vs k hl hv;cases vs with
   |nil=>cases hl
   |cons v vs=>rw[range'_succ,D9];let#[t,rfl]:=hv 0 v rfl;refine .cons #[t,by simp] (ih vs (k+1) (~~~hl) λ j u hj=>?_);let#[t,e]:=hv (j+1) u (~~~hj);refine#[t,?_];rw[e];congr 1;lia
 have:=go n jp.toList 0 (~~~hl) (λ j v hj=>by
  let#[t,e]:=hv j v (~~~hj);refine#[t,?_];rw[e,H9,Int.mul_one])
 rw[<- range_eq_range']at this;exact this
def El:dj X (.type "range") (λ xs H Q=>∃j:Int,xs=[.int j]/\∀r,H r=none->Q (.ref r) (u8 H r (.yd 0 j))):=by intro im s σ H xs us Q I rr ⟨j,e,q⟩;subst e;let#[u,rfl,t,rfl]:=vals1 rr;refine call_range_1 #[.ref s⁻¹,_,I.laid (t':=s.toks+1+1) (o:=.yd 0 j) (λ b o e=>j4 _ e) `G #[_,_,_,n5 _ rfl],rfl,q _ (I.aX.fresh `G)]
def Ek:dj X (.type "range") (λ xs H Q=>∃i j:Int,xs=[.int i,.int j]/\∀r,H r=none->Q (.ref r) (u8 H r (.yd i j))):=by intro im s σ H xs us Q I rr ⟨i,j,e,q⟩;subst e;let#[u,u2,rfl,#[t,rfl],#[t2,rfl]]:=vals2 rr;refine call_range_2 #[.ref s⁻¹,_,I.laid (t':=s.toks+1) (o:=.yd i j) (λ b o e=>j4 _ e) `G #[_,_,_,n5 _ rfl],rfl,q _ (I.aX.fresh `G)]
end L2
namespace L3
open PySem.Spec PyProof.Rows L2
section
variable {a:Expr}{p pos dY:Pos}
def wR(lo:Int)(n:Nat):ay K H (cF lo n) (mf lo n):=by
 unfold cF mf;generalize List.range n=l
 induction l with
 |nil=>exact ah.mpr rfl
 |cons x l ih=>exact ae.mpr #[_,_,rfl,aq.mpr rfl,ih]
end
end L3
namespace L2
open PySem.Spec PyProof.Rows L5
open PySem.AutoSeq1 (wpAny_loadPart')
section
variable {T1 T2:String}{S1 S2:Heap->be->Array ac->Prop}
def fN{M:Model}{Q:Option Obj->bd->Prop}(h:Q (s.heap.get? a) s):wpAny M A (loadIfAlive a) Q E s:=λ Γ p hΓ=>by unfold loadIfAlive;simp only[Sem.wp_loadIfAlive];exact K3 h Γ p hΓ
abbrev ju(h:Heap)(z u v r:be)(f1:Bool):Prop:=h.get? z>{cls:=.type "zip",dict:=none,data:=.fields ([rawInt r,.bool f1,.bool false,.ref u,.ref v].toArray),slots:=([].toArray)}
end
def xH:typeLookup (.type "zip") "__len__"=pure none:=by rw[typeLookup_type,builtinLookup_eq_fast];kernel_rfl
def vg:typeLookup (.type "zip") "__length_hint__"=pure none:=by rw[typeLookup_type,builtinLookup_eq_fast];kernel_rfl
section
variable {e2:Expr}{ta:TA}{p pos dY:Pos}
theorem vn:∀ps:List be,ut (ps.map V.ref) (ps.map Value.ref)
 |[]=>.nil
 |p::ps=>.cons rfl (vn ps)
end
end L2
namespace L3
open PySem.Spec PyProof.Rows L2 L5
def xZ{xs:List D}(hm:ul K H M)(e:cO M d>xs)(hd:sB K H d v):∃(b:Bool)(l:be)(xv:List V),v=.ref l/\Sq b K H l xv/\ay K H xs xv:=by
 let#[p,xv,rfl,h1,h2]:=gA e hd hm;cases h1 with
 |inl h1=>exact#[false,p,xv,rfl,h1,h2]
 |inr h1=>exact#[true,p,xv,rfl,h1,h2]
end L3
namespace L5
open L2
structure Sr where
 a:be
 l:be
 k:Bool
 xs:Array ac
def Sr.on(q:Sr)(h:Heap)(i:Nat):Prop:=match q.k with
 |true=>nG "tuple_iterator" h q.a q.l i/\Heap.IsTuple h q.l q.xs
 |false=>nG "list_iterator" h q.a q.l i/\Heap.IsList h q.l q.xs
theorem Sr.keep{q:Sr}{h:Heap}(x:q.on h i)(k1:∀o,h.get? q.a>o->h'.get? q.a>o)(k2:∀o,h.get? q.l>o->h'.get? q.l>o):q.on h' i:=by
 unfold Sr.on at x ⊢;split at x
 ·exact#[x.1.keep k1,gF.keep x.2 k2]
 ·exact#[x.1.keep k1,lA.keep x.2 k2]
structure Ap(qs:List Sr):Prop where
 nd:(qs.map (·.a)).Nodup
 la:∀q∈qs,∀r∈qs,q.l≠r.a
theorem Ap.tail{q:Sr}{qs:List Sr}(D:Ap (q::qs)):Ap qs:=#[(nodup_cons.mp D.nd).2,λ a ha b hb=>D.la a (.tail _ ha) b (.tail _ hb)]
def Ap.ne{q r:Sr}{qs:List Sr}(D:Ap (q::qs))(h:r∈qs):r.a≠q.a:=λ e=>(nodup_cons.mp D.nd).1 (by show q.a∈_;rw[<- e];exact List.mem_map_of_mem (f:=λ x:Sr=>x.a) h)
abbrev rowAt(qs:List Sr)(i:Nat):List ac:=qs.map λ q=>q.xs.getD i .none
set_option tactic.hygienic true in
theorem Sr.item{q:Sr}(x:q.on s.heap i)(lt:i<q.xs.size)(n:q.l≠q.a)(k:∀h',q.on h' (i+1)->Heap.SameBut q.a s.heap h'->Q (q.xs.getD i .none) {s with heap:=h'}):wpAny `d A (Builtin.SmallTypes.nextOf (.ref q.a)) Q E s:=by
 have e:q.xs[i]?>q.xs.getD i .none:=by rw[c8 lt,Array.getD_eq_getD_getElem?,c8 lt];rfl
 unfold Sr.on at x;split at x
 ·rename_i hk;exact gF.item x.1 x.2 e λ h' a s'=>k h' (by unfold Sr.on;rw[hk];exact#[a,gF.keep x.2 λ o e=>s'.extBut _ _ n e]) s'
 ·rename_i hk;exact lA.item x.1 x.2 e λ h' a s'=>k h' (by unfold Sr.on;rw[hk];exact#[a,lA.keep x.2 λ o e=>s'.extBut _ _ n e]) s'
theorem Sr.stop{q:Sr}(hA:A.handled=none)(x:q.on s.heap i)(ge:q.xs.size<=i)(k:∀h' e,Heap.ExtBut q.a s.heap h'->(∃o,h'.get? e>o/\o.cls=.type "StopIteration")->E (.ref e) {s with heap:=h'}):wpAny `d A (Builtin.SmallTypes.nextOf (.ref q.a)) Q E s:=by
 have e:q.xs[i]?=none:=j3 ge;unfold Sr.on at x;split at x
 ·exact gF.stop hA x.1 x.2 e k
 ·exact lA.stop hA x.1 x.2 e k
theorem wN{σ:Type}{b:ac->σ->Sem (ForInStep σ)}{mk:Array ac->σ}(hb:∀(a:be)(jp:Array ac)(s:bd)(Q:ForInStep σ->bd->Prop),wpAny `d A (Builtin.SmallTypes.nextOf `z) (λ x s'=>Q (.yield (mk (jp.push x))) s') E s->wpAny `d A (b `z (mk jp)) Q E s):∀(qs:List Sr)(jp:Array ac)(s:bd)(Q:σ->bd->Prop),Ap qs->(∀q∈qs,q.on s.heap i)->(∀q∈qs,i<q.xs.size)->
   (∀h',(∀q∈qs,q.on h' (i+1))->h'.objs.size=s⁻¹->(∀f o,(∀q∈qs,f≠q.a)->s.heap.get? f>o->h'.get? f>o)->Q (mk (jp++(rowAt qs i).toArray)) {s with heap:=h'})->
   wpAny `d A (forIn (qs.map λ q=>Value.ref q.a) (mk jp) b) Q E s
 |[],jp,s,Q,D,hq,lt,k=>by have:=k s.heap (λ q h=>nomatch h) rfl λ f o _ e=>e;simp only[rowAt,J1,Array.append_empty]at this;exact K3 this
 |q::qs,jp,s,Q,D,hq,lt,k=>by
  have nl:=D.la q (.head _) q (.head _);rw[D9,C8];refine K1 (hb _ _ _ _ (Sr.item (hq q (.head _)) (lt q (.head _)) nl λ h1 o1 s1=>?_));refine wN hb qs _ _ _ D.tail (λ r hr=>Sr.keep (hq r (.tail _ hr)) (λ o e=>s1.extBut _ _ (D.ne hr) e) λ o e=>s1.extBut _ _ (D.la r (.tail _ hr) q (.head _)) e) (λ r hr=>lt r (.tail _ hr)) λ h2 o2 z2 k2=>?_;have:=k h2 (λ r hr=>?_) (z2.trans s1.1) λ f o nf e=>k2 f o (λ r hr=>nf r (.tail _ hr)) (s1.extBut _ _ (nf q (.head _)) e)
  ·rw[show jp.push (q.xs.getD i Value.none)++(rowAt qs i).toArray=jp++(rowAt (q::qs) i).toArray by simp[rowAt]];exact this
  ·rcases E8.mp hr with e|hr
   ·subst e;exact Sr.keep o1 (λ o e=>k2 _ o (λ t ht=>(D.ne ht).symm) e) λ o e=>k2 _ o (λ t ht=>D.la r (.head _) t (.tail _ ht)) e
   ·exact o2 r hr
theorem qi{σ:Type}{b:ac->σ->Sem (ForInStep σ)}{mk:Array ac->σ}(hb:∀(a:be)(jp:Array ac)(s:bd)(Q:ForInStep σ->bd->Prop),wpAny `d A (Builtin.SmallTypes.nextOf `z) (λ x s'=>Q (.yield (mk (jp.push x))) s') E s->wpAny `d A (b `z (mk jp)) Q E s)(hA:A.handled=none):∀(qs:List Sr)(jp:Array ac)(s:bd)(Q:σ->bd->Prop),Ap qs->(∀q∈qs,q.on s.heap i)->(∃q∈qs,q.xs.size<=i)->
   (∀h' e,(∀f o,(∀q∈qs,f≠q.a)->s.heap.get? f>o->h'.get? f>o)->(∃o,h'.get? e>o/\o.cls=.type "StopIteration")->E (.ref e) {s with heap:=h'})->
   wpAny `d A (forIn (qs.map λ q=>Value.ref q.a) (mk jp) b) Q E s
 |[],jp,s,Q,D,hq,ge,k=>by let#[q,h,_]:=ge;cases h
 |q::qs,jp,s,Q,D,hq,ge,k=>by
  have nl:=D.la q (.head _) q (.head _);rw[D9,C8];by_cases lt:i<q.xs.size
  ·refine K1 (hb _ _ _ _ (Sr.item (hq q (.head _)) lt nl λ h1 o1 s1=>?_));refine qi hb hA qs _ _ _ D.tail (λ r hr=>Sr.keep (hq r (.tail _ hr)) (λ o e=>s1.extBut _ _ (D.ne hr) e) λ o e=>s1.extBut _ _ (D.la r (.tail _ hr) q (.head _)) e) ?_ λ h2 e k2 oe=>?_
   ·let#[r,hr,z]:=ge;rcases E8.mp hr with e|hr
    ·subst e;exact bi lt (Nat.not_lt.mpr z)
    ·exact#[r,hr,z]
   ·exact k h2 e (λ f o nf e=>k2 f o (λ r hr=>nf r (.tail _ hr)) (s1.extBut _ _ (nf q (.head _)) e)) oe
  ·refine K1 (hb _ _ _ _ (Sr.stop hA (hq q (.head _)) (y8 lt) λ h1 e s1 oe=>k h1 e (λ f o nf z=>s1 _ _ (nf q (.head _)) z) oe))
end L5
variable {qs:List L5.Sr}
namespace L5
open L2
abbrev gQ(h:Heap)(T:be)(vs:List ac):Prop:=h.get? T>{cls:=.type "tuple",data:=.seq vs.toArray}
structure Zn(z u v:be)(qs:List Sr):Prop where
 ap:Ap qs
 uz:u≠z
 vz:v≠z
 uv:u≠v
 s:∀q∈qs,q.a≠z/\q.a≠u/\q.a≠v/\q.l≠z/\q.l≠v
section
variable {z u v:be}
def Zn.kz(D:Zn z u v qs){h:Heap}(s1:Heap.SameBut z h h')(hq:∀q∈qs,q.on h i):∀q∈qs,q.on h' i:=λ q h=>Sr.keep (hq q h) (λ o e=>s1.extBut _ _ (D.s q h).1 e) λ o e=>s1.extBut _ _ (D.s q h).2.2.2.1 e
def zN{σ:Type}{b:ac->σ->Sem (ForInStep σ)}{mk:Array ac->σ}{c:σ->Sem PySem.Fin}{r:be}{Q:ac->bd->Prop}{s0:bd}(D:Zn z u v qs)(bZ:-qs<=100)(hb:∀(a:be)(jp:Array ac)(s:bd)(Q:ForInStep σ->bd->Prop),wpAny `d A (Builtin.SmallTypes.nextOf `z) (λ x s'=>Q (.yield (mk (jp.push x))) s') E s->wpAny `d A (b `z (mk jp)) Q E s)(hc:∀jp,c (mk jp)=newTuple jp.toList>>=ret)(hz:ju s.heap z u v r true)(e0:Heap.SameBut z s0.heap s.heap)(e1:s={s0 with heap:=s.heap})(hq:∀q∈qs,q.on s0.heap i)(lt:∀q∈qs,i<q.xs.size) (k:∀h',ju h' z u v r true->(∀q∈qs,q.on h' (i+1))->gQ h' s0⁻¹ (rowAt qs i)->h'.objs.size=s0⁻¹+1->
   (∀f o,f≠z->(∀q∈qs,f≠q.a)->s0.heap.get? f>o->h'.get? f>o)->Q (.ref s0⁻¹) {s0 with heap:=h'}):
  wpAny `d A (forIn (qs.map λ q=>Value.ref q.a) (mk ([].toArray)) b>>=c) (λ fin s'=>∃v,fin=.done (.ret v)/\Q v s') E s:=by
 refine K1 (wN hb qs ([].toArray) s _ D.ap (D.kz e0 hq) lt λ h' o' z' k'=>?_);rw[hc];have z2:ju h' z u v r true:=k' _ _ (λ q h=>(D.s q h).1.symm) hz;have e:(([].toArray)++(rowAt qs i).toArray).toList=rowAt qs i:=by simp
 rw[e];refine K1 (wpAny_newTuple ?_ (by show(rowAt qs i).length<=sizeLine;rw[C1];exact G9 bZ `c));refine K3 #[_,rfl,?_];have ez:h'.objs.size=s0⁻¹:=z'.trans e0.1;have up:∀f o,h'.get? f>o->(h'.push {cls:=.type "tuple",data:=.seq (rowAt qs i).toArray}).get? f>o:=λ f o e=>j4 _ e;have t4:gQ (h'.push {cls:=.type "tuple",data:=.seq (rowAt qs i).toArray}) h'.objs.size (rowAt qs i):=n5 _ rfl;rw[ez]at t4;have:=k _ (up _ _ z2) (λ q h=>Sr.keep (o' q h) (λ o e=>up _ o e) λ o e=>up _ o e) t4 (by rw[D3,ez]) λ f o n1 n2 e=>up f o (k' f o n2 (e0.extBut _ _ n1 e));show Q (.ref h'.objs.size) {s with heap:=_};rw[ez,e1];exact this
def JP{r:be}{f1:Bool}{o:Obj}{Q:ac->bd->Prop}(D:Zn z u v qs)(dQ:qs≠[])(bZ:-qs<=100)(hz:ju s.heap z u v r f1)(hr:s.heap.get? r>o)(hu:gQ s.heap u (qs.map λ q=>.ref q.a))(hq:∀q∈qs,q.on s.heap i)(lt:∀q∈qs,i<q.xs.size) (k:∀h',ju h' z u v r true->(∀q∈qs,q.on h' (i+1))->gQ h' s⁻¹ (rowAt qs i)->h'.objs.size=s⁻¹+1->
   (∀f o,f≠z->(∀q∈qs,f≠q.a)->s.heap.get? f>o->h'.get? f>o)->Q (.ref s⁻¹) {s with heap:=h'}):
  wpAny `d A (Builtin.«zip.__next__» #[[.ref z],[]]) (λ fin s'=>∃v,fin=.done (.ret v)/\Q v s') E s:=by
 refine K1 (m:=field (.ref z) 2) (K0 hz rfl (x:=.bool false) rfl ?_);refine K1 (m:=field (.ref z) 3) (K0 hz rfl (x:=.ref u) rfl ?_);refine K1 (D1 hu rfl ?_);have em:(qs.map λ q=>Value.ref q.a).toArray.isEmpty=false:=by cases qs with|nil=>exact bi rfl dQ|cons q qs=>rfl
 simp only[em];refine K1 (m:=Builtin.SmallTypes.ownedTupleIsFree (.ref z)) ?_;unfold Builtin.SmallTypes.ownedTupleIsFree;refine K1 (m:=field (.ref z) 0) (K0 hz rfl (x:=rawInt r) rfl ?_);show wpAny _ _ (loadIfAlive (r:Int).toNat>>=_) _ _ _;rw[x3];refine K1 (fN ?_);rw[hr];show wpAny _ _ (field (.ref z) 1>>=_) _ _ _;refine K1 (m:=field (.ref z) 1) (K0 hz rfl (x:=.bool f1) rfl ?_);cases f1 with
 |false=>
  refine K1 (p7 hz `g λ g1 z1 s1=>?_);refine K3 ?_;rw[L7 `c];rw[List.forIn_toArray];refine zN (mk:=λ jp=>((none,jp):Option PySem.Fin×Array ac)) (s0:=s) (s:={s with heap:=g1}) (r:=r) D bZ ?_ ?_ z1 s1 rfl hq lt k
  rotate_left
  ·intro jp;rfl
  intro a jp s Q h;exact K1 (D5 (K1 (K6 h (λ x s' h'=>K3 (K3 h')) λ _ _ e=>e)))
 |true=>
  refine K3 ?_;rw[L7 `c];rw[List.forIn_toArray];refine zN (mk:=λ jp=>((none,jp):Option PySem.Fin×Array ac)) (s0:=s) (s:=s) (r:=r) D bZ ?_ ?_ hz #[rfl,λ _ _=>rfl] rfl hq lt k
  rotate_left
  ·intro jp;rfl
  intro a jp s Q h;exact K1 (D5 (K1 (K6 h (λ x s' h'=>K3 (K3 h')) λ _ _ e=>e)))
def vf{r:be}{f1:Bool}{Q:PySem.Fin->bd->Prop}(hA:A.handled=none)(D:Zn z u v qs)(hz:ju s.heap z u v r f1)(hr:s.heap.get? r>o)(hu:gQ s.heap u (qs.map λ q=>.ref q.a))(hq:∀q∈qs,q.on s.heap i)(ge:∃q∈qs,q.xs.size<=i)
  (k:∀h' e,(∀f o,f≠z->(∀q∈qs,f≠q.a)->s.heap.get? f>o->h'.get? f>o)->(∃o,h'.get? e>o/\o.cls=.type "StopIteration")->E (.ref e) {s with heap:=h'}):
  wpAny `d A (Builtin.«zip.__next__» #[[.ref z],[]]) Q E s:=by
 refine K1 (m:=field (.ref z) 2) (K0 hz rfl (x:=.bool false) rfl ?_);refine K1 (m:=field (.ref z) 3) (K0 hz rfl (x:=.ref u) rfl ?_);refine K1 (D1 hu rfl ?_);have em:(qs.map λ q=>Value.ref q.a).toArray.isEmpty=false:=by
  cases qs with
  |nil=>let#[q,h,_]:=ge;cases h
  |cons q qs=>rfl
 simp only[em];refine K1 (m:=Builtin.SmallTypes.ownedTupleIsFree (.ref z)) ?_;unfold Builtin.SmallTypes.ownedTupleIsFree;refine K1 (m:=field (.ref z) 0) (K0 hz rfl (x:=rawInt r) rfl ?_);show wpAny _ _ (loadIfAlive (r:Int).toNat>>=_) _ _ _;rw[x3];refine K1 (fN ?_);rw[hr];show wpAny _ _ (field (.ref z) 1>>=_) _ _ _;refine K1 (m:=field (.ref z) 1) (K0 hz rfl (x:=.bool f1) rfl ?_);cases f1 with
 |false=>refine K1 (p7 hz `g λ g1 z1 s1=>?_);refine K3 ?_;rw[L7 `c];rw[List.forIn_toArray];refine K1 (qi (mk:=λ jp=>((none,jp):Option PySem.Fin×Array ac)) ?_ hA qs ([].toArray) {s with heap:=g1} _ D.ap (D.kz s1 hq) ge λ h' e kp oe=>k h' e (λ f o n1 n2 e=>kp f o n2 (s1.extBut _ _ n1 e)) oe);intro a jp s Q h;exact K1 (D5 (K1 (K6 h (λ x s' h'=>K3 (K3 h')) λ _ _ e=>e)))
 |true=>refine K3 ?_;rw[L7 `c];rw[List.forIn_toArray];refine K1 (qi (mk:=λ jp=>((none,jp):Option PySem.Fin×Array ac)) ?_ hA qs ([].toArray) s _ D.ap hq ge λ h' e kp oe=>k h' e (λ f o n1 n2 e=>kp f o n2 e) oe);intro a jp s Q h;exact K1 (D5 (K1 (K6 h (λ x s' h'=>K3 (K3 h')) λ _ _ e=>e)))
theorem AJ{σ:Type}{b:ac×Nat->σ->Sem (ForInStep σ)}{st:σ}(hb:∀(a:be)(j:Nat)(cs:List ac)(s:bd)(Q:ForInStep σ->bd->Prop),(∃o,s.heap.get? z>o)->wpAny `d A (Builtin.SmallTypes.nextOf `z) (λ x s'=>∃cs:List ac,-cs<=100/\gQ s'.heap v cs/\∀h',gQ h' v (cs.set j x)->Heap.SameBut v s'.heap h'->Q (.yield st) {s' with heap:=h'}) (λ _ _=>False) s->wpAny `d A (b (.ref a,j) st) Q E s):∀(rs:List Sr)(j:Nat)(cs:List ac)(s:bd)(Q:σ->bd->Prop),Ap rs->(∀q∈rs,q.a≠v/\q.l≠v/\q.a≠z)->gQ s.heap v cs->-cs<=100->j+-rs<=-cs->(∃o,s.heap.get? z>o)->(∀q∈rs,q.on s.heap i)->(∀q∈rs,i<q.xs.size)->v≠z->
   (∀h',(∀q∈rs,q.on h' (i+1))->h'.objs.size=s⁻¹->gQ h' v (cs.take j++rowAt rs i++cs.drop (j+-rs))->(∀f o,f≠v->(∀q∈rs,f≠q.a)->s.heap.get? f>o->h'.get? f>o)->Q st {s with heap:=h'})->
   wpAny `d A (forIn ((rs.map λ q=>Value.ref q.a).zipIdx j) st b) Q E s
 |[],j,cs,s,Q,D,ne,hv,bZ,hj,hz,hq,lt,vz,k=>by have:=k s.heap (λ q h=>nomatch h) rfl (by simpa[rowAt]using hv) λ f o _ _ e=>e;exact K3 this
 |q::rs,j,cs,s,Q,D,ne,hv,bZ,hj,hz,hq,lt,vz,k=>by
  have nl:=D.la q (.head _) q (.head _);let#[n1,n2,n3]:=ne q (.head _);rw[D9,zipIdx_cons,C8];refine K1 (hb _ _ cs _ _ hz (Sr.item (hq q (.head _)) (lt q (.head _)) nl λ h1 o1 s1=>#[cs,bZ,s1.extBut _ _ n1.symm hv,λ h2 v2 s2=>?_]));have kp:∀f o,f≠v->f≠q.a->s.heap.get? f>o->h2.get? f>o:=λ f o m1 m2 e=>s2.extBut _ _ m1 (s1.extBut _ _ m2 e);let#[oz,ez]:=hz;rw[y9]at hj;refine AJ hb rs (j+1) (cs.set j (q.xs.getD i .none)) _ _ D.tail (λ r hr=>ne r (.tail _ hr)) v2 (length_set>=bZ) (by rw[length_set];lia) #[oz,kp _ _ vz.symm n3.symm ez] (λ r hr=>Sr.keep (hq r (.tail _ hr)) (λ o e=>kp _ o (ne r (.tail _ hr)).1 (D.ne hr) e) λ o e=>kp _ o (ne r (.tail _ hr)).2.1 (D.la r (.tail _ hr) q (.head _)) e) (λ r hr=>lt r (.tail _ hr)) vz λ h3 o3 z3 v3 k3=>?_;refine k h3 (λ r hr=>?_) (z3.trans (s2.1.trans s1.1)) ?_ λ f o m1 m2 e=>k3 f o m1 (λ r hr=>m2 r (.tail _ hr)) (kp f o m1 (m2 q (.head _)) e)
  ·rcases E8.mp hr with e|hr
   ·subst e;exact Sr.keep o1 (λ o e=>k3 _ o n1 (λ t ht=>(D.ne ht).symm) (s2.extBut _ _ n1 e)) λ o e=>k3 _ o n2 (λ t ht=>D.la r (.head _) t (.tail _ ht)) (s2.extBut _ _ n2 e)
   ·exact o3 r hr
  ·have e:(cs.set j (q.xs.getD i .none)).take (j+1)++rowAt rs i++(cs.set j (q.xs.getD i .none)).drop (j+1+-rs)=cs.take j++rowAt (q::rs) i++cs.drop (j+(-rs+1)):=by
    have e1:(cs.set j (q.xs.getD i .none)).take (j+1)=cs.take j++[q.xs.getD i .none]:=by rw[take_add_one,take_set_of_le `G,j6 ()];rfl
    have e2:(cs.set j (q.xs.getD i .none)).drop (j+1+-rs)=cs.drop (j+(-rs+1)):=by rw[drop_set_of_lt (),show j+1+-rs=j+(-rs+1) by lia]
    rw[e1,e2];simp[rowAt]
   rw[y9,<- e];exact v3
end
open PyProof.Rows
section
variable {z u v:be}
def EH{cs:List ac}{Q:ac->bd->Prop}(D:Zn z u v qs)(dQ:qs≠[])(bZ:-qs<=100)(hz:IsZip s.heap z u v .none)(hu:gQ s.heap u (qs.map λ q=>.ref q.a))(hv:gQ s.heap v cs)(hl:-cs=-qs)(hq:∀q∈qs,q.on s.heap i)(lt:∀q∈qs,i<q.xs.size) (k:∀h',ju h' z u v s⁻¹ false->(∀q∈qs,q.on h' (i+1))->gQ h' s⁻¹ (rowAt qs i)->h'.objs.size=s⁻¹+1->
   (∀f o,f≠z->f≠v->(∀q∈qs,f≠q.a)->s.heap.get? f>o->h'.get? f>o)->Q (.ref s⁻¹) {s with heap:=h'}):
  wpAny `d A (Builtin.«zip.__next__» #[[.ref z],[]]) (λ fin s'=>∃v,fin=.done (.ret v)/\Q v s') E s:=by
 refine K1 (m:=field (.ref z) 2) (K0 hz rfl (x:=.bool false) rfl ?_);refine K1 (m:=field (.ref z) 3) (K0 hz rfl (x:=.ref u) rfl ?_);refine K1 (D1 hu rfl ?_);have em:(qs.map λ q=>Value.ref q.a).toArray.isEmpty=false:=by cases qs with|nil=>exact bi rfl dQ|cons q qs=>rfl
 simp only[em];refine K1 (m:=Builtin.SmallTypes.ownedTupleIsFree (.ref z)) ?_;unfold Builtin.SmallTypes.ownedTupleIsFree;refine K1 (m:=field (.ref z) 0) (K0 hz rfl (x:=.none) rfl (K3 ?_));simp only[if_true];refine K1 (K4 (K1 (K0 hz rfl (x:=.ref v) rfl (K1 (p7 hz `g λ g1 z1 s1=>?_)))));have z1:IsZip g1 z u v .ellipsis:=z1;refine K1 (AJ (v:=v) (z:=z) (i:=i) ?_ qs 0 cs {s with heap:=g1} _ D.ap (λ q h=>#[(D.s q h).2.2.1,(D.s q h).2.2.2.2,(D.s q h).1]) (s1.extBut _ _ D.vz hv) (hl>=bZ) (by rw[hl];lia) #[_,z1] (D.kz s1 hq) lt D.vz λ g2 o2 e2 v2 k2=>?_)
 ·intro a j cs s2 Q2 YB h;refine K1 (wpAny_onRaise (K1 (m:=Builtin.SmallTypes.nextOf `z) (K6 h (λ x s' h'=>K3 ?_) λ _ _ e=>e.elim)));let#[cs',h0,h1,h2]:=h';refine K1 (D1 h1 rfl (K1 (C6 h1 rfl (K1 (wpAny_letGo (K3 (h2 _ ?_ (l8 ..))))) (y3>=G9 h0 `c) (Array.size_setIfInBounds>=(y3>=G9 h0 `c)))));unfold gQ;rw[j7 _ h1 rfl];simp[Obj.mapSeq]
 ·rw[take_zero,B2,drop_eq_nil_of_le (by rw[hl];lia),B1]at v2;refine K1 (D1 v2 rfl (K1 (wpAny_newTuple ?_ (by show(rowAt qs i).length<=sizeLine;rw[C1];exact G9 bZ `c))));have ez:g2.objs.size=s⁻¹:=e2.trans s1.1;have z2:IsZip g2 z u v .ellipsis:=k2 _ _ D.vz.symm (λ q h=>(D.s q h).1.symm) z1;have ltz:z<g2.objs.size:=G5 z2;refine K1 (m:=Builtin.SmallTypes.ownedTupleHandOut (.ref z) (.ref g2.objs.size)) ?_;unfold Builtin.SmallTypes.ownedTupleHandOut;have z6:IsZip (g2.push {cls:=.type "tuple",data:=.seq (rowAt qs i).toArray}) z u v .ellipsis:=j4 _ z2;refine K1 (p7 z6 `g λ g7 z7 s7=>p7 (show IsZip g7 z u v (rawInt g2.objs.size)from z7) `g λ g8 z8 s8=>?_);have z8:IsZip g8 z u v (rawInt g2.objs.size):=z8;have go:∀f o,f≠z->g2.get? f>o->g8.get? f>o:=λ f o n1 e=>s8.extBut _ _ n1 (s7.extBut _ _ n1 (j4 _ e));have t8:gQ g8 g2.objs.size (rowAt qs i):=s8.extBut _ _ (J5 ltz) (s7.extBut _ _ (J5 ltz) (n5 _ rfl));have e8:g8.objs.size=g2.objs.size+1:=by rw[s8.1,s7.1,D3]
  rw[ez]at z8 t8 e8;refine K3 #[_,rfl,?_];show Q (.ref g2.objs.size) _;rw[ez];exact k g8 z8 (λ q h=>Sr.keep (o2 q h) (λ o e=>go _ o (D.s q h).1 e) λ o e=>go _ o (D.s q h).2.2.2.1 e) t8 e8 λ f o n1 n2 n3 e=>go f o n1 (k2 f o n2 n3 (s1.extBut _ _ n1 e))
def qZ(h:Heap)(z u v:be)(qs:List Sr)(i N0:Nat):Prop:=gQ h u (qs.map λ q=>.ref q.a)/\(∀q∈qs,q.on h i)/\
 ((i=0/\IsZip h z u v .none/\∃cs,gQ h v cs/\-cs=-qs)\/∃(r:be)(f1:Bool)(o:Obj),ju h z u v r f1/\h.get? r>o/\N0<=r)
def xu(h:Heap)(qs:List Sr)(N0:Nat)(ps:List be):Prop:=ps.Nodup/\∀(j:Nat)(p:be),ps[j]?>p->N0<=p/\gQ h p (rowAt qs j)
def Rf{N0:Nat}{Q:Option ac->bd->Prop}(D:Zn z u v qs)(dQ:qs≠[])(bZ:-qs<=100)(hN:N0<=s⁻¹)(hz:z<N0)(hv:v<N0)(yO:∀q∈qs,q.a<N0)(Z:qZ s.heap z u v qs i N0)(lt:∀q∈qs,i<q.xs.size)(k:∀h',qZ h' z u v qs (i+1) N0->gQ h' s⁻¹ (rowAt qs i)->h'.objs.size=s⁻¹+1->(∀f o,f≠z->f≠v->(∀q∈qs,f≠q.a)->s.heap.get? f>o->h'.get? f>o)->Q (some (.ref s⁻¹)) {s with heap:=h'}):wpAny `d A (pyNext (.ref z)) Q E s:=by
 let#[hu,hq,zz]:=Z;have ku:∀h':Heap,(∀f o,f≠z->f≠v->(∀q∈qs,f≠q.a)->s.heap.get? f>o->h'.get? f>o)->gQ h' u (qs.map λ q=>.ref q.a):=λ h' kp=>kp _ _ D.uz D.uv (λ q h=>(D.s q h).2.1.symm) hu;have ty:s.TypeIs (.ref z) "zip":=by
  rcases zz with⟨_,q,_⟩|⟨r,f1,o,q,_⟩
  ·exact#[_,q,rfl]
  ·exact#[_,q,rfl]
 unfold pyNext;refine K1 (D6 (i9 (name:=Str.ofString "__next__") ty F.slot_zip_next (A1 F.slot_zip_next ty F.entry_zip_next ?_ (F.args_zip_next_1 _))));rcases zz with⟨rfl,q,cs,q2,q3⟩|⟨r,f1,o,q,q2,q3⟩
 ·exact EH D dQ bZ q hu q2 q3 hq lt λ h' a1 a2 a3 a4 a5=>K3 (k h' #[ku h' a5,a2,.inr #[s⁻¹,false,_,a1,a3,hN]] a3 a4 a5)
 ·refine JP D dQ bZ q q2 hu hq lt λ h' a1 a2 a3 a4 a5=>K3 (k h' #[ku h' λ f o n1 _ n3 e=>a5 f o n1 n3 e,a2,.inr #[r,true,o,a1,a5 _ _ (J5 (p9 hz q3)) (λ t ht=>J5 (p9 (yO t ht) q3)) q2,q3]] a3 a4 λ f o n1 _ n3 e=>a5 f o n1 n3 e)
def Rn{N0:Nat}{Q:Option ac->bd->Prop}(hA:A.handled=none)(D:Zn z u v qs)(Z:qZ s.heap z u v qs i N0)(hi:i≠0)(ge:∃q∈qs,q.xs.size<=i)(k:∀h',(∀f o,f≠z->f≠v->(∀q∈qs,f≠q.a)->s.heap.get? f>o->h'.get? f>o)->Q none {s with heap:=h'}):wpAny `d A (pyNext (.ref z)) Q E s:=by
 let#[hu,hq,zz]:=Z;rcases zz with⟨z0,_⟩|⟨r,f1,o,q,q2,q3⟩
 ·exact bi z0 hi
 ·have ty:s.TypeIs (.ref z) "zip":=#[_,q,rfl];unfold pyNext;refine K1 (D6 (i9 (name:=Str.ofString "__next__") ty F.slot_zip_next (A1 F.slot_zip_next ty F.entry_zip_next ?_ (F.args_zip_next_1 _))));refine vf hA D q q2 hu hq ge λ h' e kp oe=>?_;let#[ob,he1,To]:=oe;exact K1 (A7 (T:="StopIteration") (b:=true) #[ob,he1,To] isSubtype_stop (K3 (k _ λ f o n1 _ n3 e=>kp f o n1 n3 e)))
theorem qZ.keep{h:Heap}{S:be}{N0:Nat}(x:qZ h z u v qs i N0)(hS:S<N0)(n1:S≠z)(n2:S≠u)(n3:S≠v)(n4:∀q∈qs,S≠q.a/\S≠q.l)(k:∀f o,f≠S->h.get? f>o->h'.get? f>o):qZ h' z u v qs i N0:=by
 let#[a1,a2,a4]:=x;refine#[k _ _ n2.symm a1,λ q hq=>Sr.keep (a2 q hq) (λ o e=>k _ o (n4 q hq).1.symm e) λ o e=>k _ o (n4 q hq).2.symm e,?_];rcases a4 with⟨z0,q,cs,q2,q3⟩|⟨r,f1,o,q1,q2,q3⟩
 ·exact .inl #[z0,k _ _ n1.symm q,cs,k _ _ n3.symm q2,q3]
 ·exact .inr #[r,f1,o,k _ _ n1.symm q1,k _ _ (J5 (p9 hS q3)) q2,q3]
def VT{R:Result->bd->Prop}{S:be}{N0:Nat}(hA:A.in1.handled=none)(D:Zn z u v qs)(dQ:qs≠[])(bZ:-qs<=100)(hn:n<=10000)(BC:n≠0)(hsz:∀q∈qs,q.xs.size=n)(hz:z<N0)(hv:v<N0)(yO:∀q∈qs,q.a<N0)(hS:S<N0)(n1:S≠z)(n2:S≠u)(n3:S≠v)(n4:∀q∈qs,S≠q.a/\S≠q.l)(res:ac):∀(k i:Nat)(s:bd)(ps:List be)(c:Nat),n-i=k->i<=n->-ps=i->N0<=s⁻¹->qZ s.heap z u v qs i N0->
   s.heap.get? S>{cls:=.type "list",dict:=none,data:=.seq (ps.map Value.ref).toArray c,slots:=([].toArray)}->xu s.heap qs N0 ps->
   (∀(h':Heap)(Qo:List be)(c':Nat),(∀f o,f≠z->f≠v->(∀q∈qs,f≠q.a)->f≠S->s.heap.get? f>o->h'.get? f>o)->h'.get? S>{cls:=.type "list",dict:=none,data:=.seq (Qo.map Value.ref).toArray c',slots:=([].toArray)}->-Qo=n->xu h' qs N0 Qo->R (.ok (.ret res)) {s with heap:=h'})->
   codeAny `d A (.builtin "list.extend.loop" #[[.ref S,.ref z,res],[]]) R s:=by
 intro k
 induction k with
 |zero=>intro i s ps c hk hi hp hN Z Zy pr hR;refine B9 F.entry_extend_loop ?_;rw[l5 n6 _];show wpAny _ A.in1 (pyNext (.ref z)>>=_) _ _ s;let#[q0,h0]:=exists_mem_of_ne_nil _ dQ;refine K1 (Rn hA D Z () #[q0,h0,by rw[hsz q0 h0];lia] λ h' kp=>K3 ?_);refine hR h' ps c (λ f o m1 m2 m3 _ e=>kp f o m1 m2 m3 e) (kp _ _ n1 n3 (λ q h=>(n4 q h).1) Zy) () #[pr.1,λ j p e=>?_];let#[va,e3]:=pr.2 j p e;exact#[va,kp _ _ (J5 (p9 hz va)) (J5 (p9 hv va)) (λ q h=>J5 (p9 (yO q h) va)) e3]
 |succ k ih=>
  intro i s ps c hk hi hp hN Z Zy pr hR;refine B9 F.entry_extend_loop ?_;rw[l5 n6 _];show wpAny _ A.in1 (pyNext (.ref z)>>=_) _ _ s;refine K1 (Rf D dQ bZ hN hz hv yO Z (λ q h=>by rw[hsz q h];lia) λ h' Z' t1 sz kp=>?_);have JH:=kp _ _ n1 n3 (λ q h=>(n4 q h).1) Zy;show wpAny _ A.in1 (updateSeq S (·.push (.ref s⁻¹))>>=λ _=>again (.builtin "list.extend.loop" #[[.ref S,.ref z,res],[]])) _ _ _;refine K1 ?_;have hlen:(ps.map Value.ref).toArray.size=i:=by rw[y3,C1,hp]
  have ot:∀f o,f≠S->h'.get? f>o->(h'.update S (Obj.mapSeq (·.push (.ref s⁻¹)))).get? f>o:=λ f o ne e=>(j5 _ _ (K9 ne)).trans e;refine C6 JH rfl (K3 #[G0 n6 _,ih (i+1) _ (ps++[s⁻¹]) (c+1) () () (by rw[p4,hp];rfl) ?_ (Z'.keep hS n1 n2 n3 n4 ot) ?_ ?_ ?_]) (hlen>=G9 (show i<=10000 by lia) `c) (Array.size_push>=(hlen>=G9 (show i+1<=10001 by lia) `c))
  ·show N0<=(h'.update S _).objs.size;rw[A6,sz];exact Nat.le_succ_of_le hN
  ·rw[j7 _ JH rfl];simp[Obj.mapSeq]
  ·refine#[nodup_append.mpr #[pr.1,by simp,λ q hq q' YX ee=>?_],?_]
   ·let#[j,hj]:=mem_iff_getElem?.mp hq;have lt:=G5 (pr.2 j q hj).2;rw[ee,q8.mp YX]at lt;exact D8 _ lt
   intro j p e;by_cases hj:j< -ps
   ·rw[c7 hj]at e;let#[va,e3]:=pr.2 j p e;exact#[va,ot _ _ (J5 (p9 hS va)) (kp _ _ (J5 (p9 hz va)) (J5 (p9 hv va)) (λ q h=>J5 (p9 (yO q h) va)) e3)]
   ·rw[b7 ()]at e;have hj0:j-ps.length=0:=by have:=(g9.mp e).1;simp at this;lia
    rw[hj0]at e;have ep:s⁻¹=p:= ~~~e
    have ej:j=i:=()
    subst ej;rw[<- ep];exact#[hN,ot _ _ (J5 (p9 hS hN)) t1]
  ·intro h2 Qo c' kp2 hs2 JC UM;exact hR h2 Qo c' (λ f o m1 m2 m3 m5 e=>kp2 f o m1 m2 m3 m5 (ot f o m5 (kp f o m1 m2 m3 e))) hs2 JC UM
end
def oM(a b c:ac):checkTypeCall "zip" #[[a,b,c],[]]=pure .unit:=by kernel_rfl
def qK(a b c:ac):checkBuiltinCall "zip.__new__" #[[.type "zip",a,b,c],[]]=pure .unit:=by kernel_rfl
def kx(a b c d:ac):argsOk "object.__init__" #[[a,b,c,d],[]]:=by unfold argsOk;rw[signature?_of (id:="object.__init__") (n:=['_','_','t','i','n','i','_','_']) (o:=['t','c','e','j','b','o']) `w F.owner_object];kernel_rfl
abbrev zh(b:Bool)(h:Heap)(l:be):Heap:=h.push {cls:=.type (Ws b),data:=.fields ([.ref l,.int 0 0].toArray)}
abbrev z3(b c d:Bool)(h:Heap)(l m n:be):Heap:=zh d (zh c (zh b h l) m) n
abbrev z4(b c d:Bool)(h:Heap)(l m n:be):Heap:=(z3 b c d h l m n).push {cls:=.type "tuple",data:=.seq ([.ref h.objs.size,.ref (zh b h l).objs.size,.ref (zh c (zh b h l) m).objs.size].toArray)}
abbrev z5(b c d:Bool)(h:Heap)(l m n:be):Heap:=(z4 b c d h l m n).push {cls:=.type "tuple",data:=.seq ([.none,.none,.none].toArray)}
abbrev z6(b c d:Bool)(h:Heap)(l m n:be):Heap:=(z5 b c d h l m n).push {cls:=.type "zip",data:=.fields ([.none,.bool false,.bool false,.ref (z3 b c d h l m n).objs.size,.ref (z4 b c d h l m n).objs.size].toArray)}
def xI(b c d:Bool)(l m n:be)(xs ys zs:Array ac):Meets (Builtin.«zip.__new__» #[[.type "zip",.ref l,.ref m,.ref n],[]]) (λ _ R s=>hX b s.heap l xs/\hX c s.heap m ys/\hX d s.heap n zs/\R (.ok (.ret (.ref (z5 b c d s.heap l m n).objs.size))) {s with heap:=z6 b c d s.heap l m n}):=
 .of_wp λ prog w A R s h=>by
  let#[hp,g,dr,tk,os]:=s;let#[a1,a2,a3,h]:=h;have sz:=sub_zip;have b1:hX b (Shared.heap #[hp,g,dr,tk,os]) l xs:=a1;have b2:hX c (Shared.heap #[zh b hp l,g,dr,tk,os]) m ys:=(ja c).keep a2 λ o e=>j4 _ e;have b3:hX d (Shared.heap #[zh c (zh b hp l) m,g,dr,tk,os]) n zs:=(ja d).keep a3 λ o e=>j4 _ (j4 _ e)
  wp_walk using(ja b).start b1,(ja c).start b2,(ja d).start b3
  exact#[_,rfl,h]
def Sr.new{h:Heap}{l:be}{b:Bool}{xs:Array ac}(h1:nG (Ws b) h a l 0)(h2:hX b h l xs):Sr.on #[a,l,b,xs] h 0:=by
 cases b
 ·exact#[h1,h2]
 ·exact#[h1,h2]
def sX{b:Bool}{h:Heap}{l:be}{xs:Array ac}(x:hX b h l xs):l<h.objs.size:=by
 cases b
 ·let#[o,e,_]:=x;exact G5 e
 ·let#[o,e,_]:=x;exact G5 e
def Md{b c d:Bool}{l m n:be}{xs ys zs:Array ac}{Q:ac->bd->Prop}(a1:hX b s.heap l xs)(a2:hX c s.heap m ys)(a3:hX d s.heap n zs) (k:∀(h':Heap)(qs:List Sr),qs=[#[s⁻¹,l,b,xs],#[s⁻¹+1,m,c,ys],#[s⁻¹+2,n,d,zs]]->Zn (s⁻¹+5) (s⁻¹+3) (s⁻¹+4) qs->IsZip h' (s⁻¹+5) (s⁻¹+3) (s⁻¹+4) .none->(∀N,qZ h' (s⁻¹+5) (s⁻¹+3) (s⁻¹+4) qs 0 N)->
   h'.objs.size=s⁻¹+6->(∀f o,s.heap.get? f>o->h'.get? f>o)->Q (.ref (s⁻¹+5)) {s with heap:=h'}):
  wpAny `d A (call (.type "zip") [.ref l,.ref m,.ref n]) Q E s:=by
 refine callType_new F.called_zip `c (oM _ _ _) (qK _ _ _) (λ ob=>kx ob _ _ _) F.entry_zip_new (xI b c d l m n xs ys zs) #[a1,a2,a3,?_];have e1:(zh b s.heap l).objs.size=s⁻¹+1:=D3 ..;have e2:(zh c (zh b s.heap l) m).objs.size=s⁻¹+2:=by rw[D3,e1]
 have e3:(z3 b c d s.heap l m n).objs.size=s⁻¹+3:=by rw[D3,e2]
 have e4:(z4 b c d s.heap l m n).objs.size=s⁻¹+4:=by rw[D3,e3]
 have e5:(z5 b c d s.heap l m n).objs.size=s⁻¹+5:=by rw[D3,e4]
 have e6:(z6 b c d s.heap l m n).objs.size=s⁻¹+6:=by rw[D3,e5]
 have u5:∀f o,(z5 b c d s.heap l m n).get? f>o->(z6 b c d s.heap l m n).get? f>o:=λ f o e=>j4 _ e;have u4:∀f o,(z4 b c d s.heap l m n).get? f>o->(z6 b c d s.heap l m n).get? f>o:=λ f o e=>u5 f o (j4 _ e);have u3:∀f o,(z3 b c d s.heap l m n).get? f>o->(z6 b c d s.heap l m n).get? f>o:=λ f o e=>u4 f o (j4 _ e);have u2:∀f o,(zh c (zh b s.heap l) m).get? f>o->(z6 b c d s.heap l m n).get? f>o:=λ f o e=>u3 f o (j4 _ e);have u1:∀f o,(zh b s.heap l).get? f>o->(z6 b c d s.heap l m n).get? f>o:=λ f o e=>u2 f o (j4 _ e);have u0:∀f o,s.heap.get? f>o->(z6 b c d s.heap l m n).get? f>o:=λ f o e=>u1 f o (j4 _ e);have g6:(z6 b c d s.heap l m n).get? (z5 b c d s.heap l m n).objs.size>_:=n5 _ rfl;have g5:=u5 _ _ (n5 (z4 b c d s.heap l m n) rfl);have g4:=u4 _ _ (n5 (z3 b c d s.heap l m n) rfl);have g3:=u3 _ _ (n5 (zh c (zh b s.heap l) m) rfl);have g2:=u2 _ _ (n5 (zh b s.heap l) rfl);have g1:=u1 _ _ (n5 s.heap rfl);rw[e3,e4,e5]at g6;rw[e4]at g5;rw[e1,e2,e3]at g4;rw[e2]at g3;rw[e1]at g2;show _/\_;rw[e5];refine#[#[_,g6,rfl],k _ _ rfl ?_ g6 (λ N=>#[g4,?_,.inl #[rfl,g6,_,g5,rfl]]) e6 u0]
 ·have lo:∀{x:be} (i:Nat),x<s⁻¹->x≠s⁻¹+i:=λ i h=>G4 (p9 h (A5 _ i));have ne:∀i j:Nat,i≠j->s⁻¹+i≠s⁻¹+j:=λ i j h e=>h (Nat.add_left_cancel e);have hl:=sX a1;have hm:=sX a2;have hn:=sX a3;refine#[#[?_,?_],ne 3 5 `c,ne 4 5 `c,ne 3 4 `c,?_]
  ·refine nodup_cons.mpr #[?_,nodup_cons.mpr #[?_,by simp]]
   ·simp only[D9,J1,E8,not_mem_nil,or_false];exact λ z=>z.elim (ne 0 1 `c) (ne 0 2 `c)
   ·simp only[D9,J1,E8,not_mem_nil,or_false];exact ne 1 2 `c
  ·simp only[E8,not_mem_nil,or_false,forall_eq_or_imp,forall_eq];exact#[#[lo 0 hl,lo 1 hl,lo 2 hl],#[lo 0 hm,lo 1 hm,lo 2 hm],lo 0 hn,lo 1 hn,lo 2 hn]
  ·simp only[E8,not_mem_nil,or_false,forall_eq_or_imp,forall_eq];exact#[#[ne 0 5 `c,ne 0 3 `c,ne 0 4 `c,lo 5 hl,lo 4 hl],#[ne 1 5 `c,ne 1 3 `c,ne 1 4 `c,lo 5 hm,lo 4 hm],ne 2 5 `c,ne 2 3 `c,ne 2 4 `c,lo 5 hn,lo 4 hn]
 ·simp only[E8,not_mem_nil,or_false,forall_eq_or_imp,forall_eq];exact#[Sr.new #[_,g1,rfl,rfl] ((ja b).keep a1 λ o e=>u0 _ o e),Sr.new #[_,g2,rfl,rfl] ((ja c).keep a2 λ o e=>u0 _ o e),Sr.new #[_,g3,rfl,rfl] ((ja d).keep a3 λ o e=>u0 _ o e)]
def qX{z u v:be}(hA:A.handled=none)(D:Zn z u v qs)(dQ:qs≠[])(bZ:-qs<=100)(hn:n<=10000)(BC:n≠0)(hsz:∀q∈qs,q.xs.size=n)(hz:z<s⁻¹)(hu:u<s⁻¹)(hv:v<s⁻¹)(yO:∀q∈qs,q.a<s⁻¹/\q.l<s⁻¹)(hZ:IsZip s.heap z u v .none)(Z:∀N,qZ s.heap z u v qs 0 N)(hQ:∀(h':Heap)(ps:List be)(c:Nat),(∀f o,f≠z->f≠v->(∀q∈qs,f≠q.a)->s.heap.get? f>o->h'.get? f>o)->h'.get? s⁻¹>{cls:=.type "list",data:=.seq (ps.map Value.ref).toArray c}->-ps=n->xu h' qs (s⁻¹+1) ps->Q (.ref s⁻¹) {s with heap:=h'}):wpAny `d A (call (.type "list") [.ref z]) Q E s:=by
 have Z:=Z (s⁻¹+1);refine callType_codes (Q₁:=λ obj s₁=>obj=.ref s⁻¹/\s₁={s with heap:=s.heap.push {cls:=.type "list",data:=.seq ([].toArray)}}) F.called_list (F.typeCall_list_1 _) F.entry_list_init
  (code_list_new _ #[rfl,rfl]) λ obj s₁ h₁=>?_
 let#[rfl,rfl]:=h₁;have up:∀f o,s.heap.get? f>o->(s.heap.push {cls:=.type "list",data:=.seq ([].toArray)}).get? f>o:=λ f o e=>j4 _ e;have hS:(s.heap.push {cls:=.type "list",data:=.seq ([].toArray)}).get? s⁻¹>{cls:=.type "list",data:=.seq ([].toArray)}:=n5 _ rfl;have sz:(s.heap.push {cls:=.type "list",data:=.seq ([].toArray)}).objs.size=s⁻¹+1:=D3 ..;have Z:qZ (s.heap.push {cls:=.type "list",data:=.seq ([].toArray)}) z u v qs 0 (s⁻¹+1):=Z.keep (Nat.lt_succ_self _) (J5 hz) (J5 hu) (J5 hv) (λ q h=>#[J5 (yO q h).1,J5 (yO q h).2]) λ f o _ e=>up f o e;have hZ:=up _ _ hZ;refine#[#[_,hS,rfl],F.args_list_init_2 _ _,?_];have hQ:∀(h':Heap)(ps:List be)(c:Nat),(∀f o,f≠z->f≠v->(∀q∈qs,f≠q.a)->f≠s⁻¹->(s.heap.push {cls:=.type "list",data:=.seq ([].toArray)}).get? f>o->h'.get? f>o)->h'.get? s⁻¹>{cls:=.type "list",data:=.seq (ps.map Value.ref).toArray c}->-ps=n->xu h' qs (s⁻¹+1) ps->Q (.ref s⁻¹) {s with heap:=h'}:=
  λ h' ps c kp a b d=>hQ h' ps c (λ f o n1 n2 n3 e=>kp f o n1 n2 n3 (G4 (G5 e)) (up f o e)) a b d
 generalize s.heap.push {cls:=.type "list",data:=.seq ([].toArray)}=g at*;generalize hN:s⁻¹=N at*;show wpAny _ _ (do let old <- Builtin.List.listItems (.ref N);Builtin.List.listUpdate (.ref N) (λ _=>([].toArray));letGo old.toList.reverse;Builtin.List.listExtendWith (.ref N) (.ref z) .none) _ _ _;refine K1 ?_;unfold Builtin.List.listItems;refine K1 (D1 hS rfl (K3 ?_));show wpAny _ _ (updateSeq N (λ _=>([].toArray))>>=λ _=>letGo (([].toArray):Array ac).toList.reverse>>=λ _=>Builtin.List.listExtendWith (.ref N) (.ref z) .none) _ _ _;refine K1 (C6 hS rfl ?_);have hS2:=j7 (Obj.mapSeq (λ _=>(([].toArray):Array ac))) hS rfl;have o2:∀b o,b≠N->g.get? b>o->(g.update N (Obj.mapSeq (λ _=>(([].toArray):Array ac)))).get? b>o:=λ b o hb e=>(j5 _ _ (K9 hb)).trans e;have s2:(g.update N (Obj.mapSeq (λ _=>(([].toArray):Array ac)))).objs.size=N+1:=by rw[A6,sz]
 refine K1 (wpAny_letGo ?_);have nz:N≠z:=J5 hz;have Z2:=Z.keep (Nat.lt_succ_self _) nz (J5 hu) (J5 hv) (λ q h=>#[J5 (yO q h).1,J5 (yO q h).2]) o2;have W8:=o2 _ _ nz.symm hZ;have hQ:∀(h':Heap)(ps:List be)(c:Nat),(∀f o,f≠z->f≠v->(∀q∈qs,f≠q.a)->f≠N->(g.update N (Obj.mapSeq (λ _=>(([].toArray):Array ac)))).get? f>o->h'.get? f>o)->h'.get? N>{cls:=.type "list",data:=.seq (ps.map Value.ref).toArray c}->-ps=n->xu h' qs (N+1) ps->Q (.ref N) {s with heap:=h'}:=
  λ h' ps c kp a b d=>hQ h' ps c (λ f o n1 n2 n3 n4 e=>kp f o n1 n2 n3 n4 (o2 f o n4 e)) a b d
 generalize g.update N (Obj.mapSeq (λ _=>(([].toArray):Array ac)))=g2 at*;have hT:Shared.TypeIs {s with heap:=g2} (.ref z) "zip":=#[_,W8,rfl];unfold Builtin.List.listExtendWith;refine K1 (J3 hT ?_);have h1:Builtin.List.listSameRef (.ref N) (.ref z)=false:=by simp[Builtin.List.listSameRef,nz]
 have h2:(Value.type "zip"==Value.type "list")=false:=by decide
 have h3:(Value.type "zip"==Value.type "tuple")=false:=by decide
 simp only[h1,h2,h3,Bool.or_false,p5,K7];refine K1 (wpAny_pyIter_zip W8 ?_);refine K1 (D5 ?_);unfold Builtin.List.listLengthHint;refine K1 (C7 hT xH ?_);show wpAny _ _ (specialOf (Value.ref z) (Str.ofString "__length_hint__")>>=_) _ _ _;refine K1 (C7 hT vg ?_);refine K3 ?_;show wpAny _ _ (rule "list.extend.makes-room">>=λ _=>Builtin.List.listTouch (.ref N)>>=λ _=>again (.builtin "list.extend.loop" #[[.ref N,.ref z,.none],[]])) _ _ _;refine K1 (K4 ?_);refine K1 ?_;show wpAny _ _ (updateSeq N (·.push .none)>>=λ _=>updateSeq N (·.pop)) _ _ _;refine K1 (C6 hS2 rfl ?_ (by size_fits) (by simp[Obj.mapSeq]));have hS3:=j7 (Obj.mapSeq (·.push Value.none)) hS2 rfl;refine C6 (hz:=by seq_fits) hS3 rfl ?_;have hS4:=j7 (Obj.mapSeq (·.pop)) hS3 rfl;have o4:∀b o,b≠N->g2.get? b>o->((g2.update N (Obj.mapSeq (·.push Value.none))).update N (Obj.mapSeq (·.pop))).get? b>o:=
  λ b o hb e=>(j5 _ _ (K9 hb)).trans ((j5 _ _ (K9 hb)).trans e)
 have Z4:=Z2.keep (Nat.lt_succ_self _) nz (J5 hu) (J5 hv) (λ q h=>#[J5 (yO q h).1,J5 (yO q h).2]) o4;refine K3 #[G0 n6 _,?_];have lt:∀{x:Nat},x<N->x<N+1:=λ h=>y6 h;refine VT (prog:=prog) (w:=w) (A:=A.in1) (R:=wants (λ r s₂=>r=Value.none/\Q (Value.ref N) s₂) E) (S:=N) (N0:=N+1) hA D dQ bZ hn BC hsz (lt hz) (lt hv) (λ q h=>lt (yO q h).1) (Nat.lt_succ_self _) nz (J5 hu) (J5 hv) (λ q h=>#[J5 (yO q h).1,J5 (yO q h).2]) _ _ 0 {s with heap:=(g2.update N (Obj.mapSeq (·.push Value.none))).update N (Obj.mapSeq (·.pop))} [] _ rfl (J9 _) rfl ?_ Z4 hS4 #[.nil,λ j p e=>by simp at e] λ h' Qo c' kp fT lG pr'=>#[rfl,?_]
 ·show N+1<=_;rw[A6,A6,s2];exact J7 _
 ·exact hQ h' Qo c' (λ f o n1 n2 n3 n4 e=>kp f o n1 n2 n3 n4 (o4 f o n4 e)) fT lG pr'
end L5
namespace L2
open PySem.Spec PyProof.Rows L5
def oy{α:Type}:List α->List α->List α->List (List α)
 |x::xs,y::ys,z::zs=>[x,y,z]::oy xs ys zs
 |_,_,_=>[]
theorem zO:∀{xs ys zs:List α} {j:Nat} {r:List α},(oy xs ys zs)[j]?>r->∃x y z,xs[j]?>x/\ys[j]?>y/\zs[j]?>z/\r=[x,y,z]
 |x::xs,y::ys,z::zs,0,r,e=>#[x,y,z,rfl,rfl,rfl,(B7 e).symm]
 |x::xs,y::ys,z::zs,j+1,r,e=>zO (xs:=xs) (ys:=ys) (zs:=zs) (j:=j) e
 |[],_,_,j,r,e=>by simp[oy]at e
 |_::_,[],_,j,r,e=>by simp[oy]at e
 |_::_,_::_,[],j,r,e=>by simp[oy]at e
def EI:∀{xs ys zs:List α},-xs=n->-ys=n->-zs=n->(oy xs ys zs).length=n:=by
 induction n with
 |zero=>intro xs ys zs h1 h2 h3;rw[a7 h1];rfl
 |succ n ih=>
  intro xs ys zs h1 h2 h3;cases xs with
  |nil=>cases h1
  |cons x xs=>cases ys with
   |nil=>cases h2
   |cons y ys=>cases zs with
    |nil=>cases h3
    |cons z zs=>exact K8 (·+1) (ih (Nat.succ.inj h1) (Nat.succ.inj h2) (Nat.succ.inj h3))
inductive OW:Hp->List (List V)->List be->Hp->Prop
 |nil {H:_}:OW H [] [] H
 |cons {H r rs p ps H':_}:H p=none->OW (u8 H p (.tup r)) rs ps H'->OW H (r::rs) (p::ps) H'
theorem oO(I0:nn X im σ H s):∀(ps:List be)(rs:List (List V))(H1:Hp),nn X im σ H1 {s with heap:=h'}->-ps=-rs->ps.Nodup->(∀p∈ps,s⁻¹<=p/\H1 p=none)-> (∀(j:Nat)(p:be)(r:List V),ps[j]?>p->rs[j]?>r->-r<=sizeLine/\∃us,ut r us/\gQ h' p us)->∃H2,OW H1 rs ps H2/\nn X im σ H2 {s with heap:=h'}/\∀b,b∉ps->H2 b=H1 b
 |[],rs,H1,I,hl,_,_,_=>by
  cases rs with
  |nil=>exact#[H1,.nil,I,λ b _=>rfl]
  |cons r rs=>cases hl
 |p::ps,rs,H1,I,hl,nd,hf,pr=>by
  cases rs with
  |nil=>cases hl
  |cons r rs=>
   let#[f1,us,q1,t]:=pr 0 p r rfl rfl;let#[va,h_]:=hf p o7;have fo:=I0.km (H':=H1) va h_;have I1:nn X im σ (u8 H1 p (.tup r)) {s with heap:=h'}:=nn.oQ I h_ #[f1,us,q1,#[_,t,rfl,_,rfl]] fo.2.1 (G9 I0.sz va) fo.2.2.2.2.1 fo.2.2.2.2.2;have WK:=nodup_cons.mp nd;let#[H2,z1,z2,z3]:=oO I0 ps rs (u8 H1 p (.tup r)) I1 (~~~hl) WK.2 (λ p' ED=>by
    let#[a1,a2]:=hf p' (k8 _ ED);exact#[a1,aJ (λ e:p'=p=>WK.1 (by rw[<- e];exact ED))>=a2]) λ j p' r' e e'=>pr (j+1) p' r' (~~~e) (~~~e')
   refine#[H2,.cons h_ z1,z2,λ b hb=>?_];rw[z3 b λ z=>hb (k8 _ z),aJ (λ e:b=p=>hb (e>=o7))]
section
variable {e2 e3:Expr}{ta:TA}{p pos dY:Pos}
def vals3{x y z:V}(r:ut [x,y,z] us):∃a b c,us=[a,b,c]/\sK x a/\sK y b/\sK z c:=by
 cases r with
 |cons a r=>cases r with
  |cons b r=>cases r with
   |cons c r=>cases r with
    |nil=>exact#[_,_,_,rfl,a,b,c]
def tLZ(K:L8)(ta:TA):TE:=λ σ H Q=>ta σ H λ vs H1=>∃(b c d:Bool)(l m n:be)(xs ys zs:List V)(k:Nat),vs=[.ref l,.ref m,.ref n]/\Sq b K H1 l xs/\Sq c K H1 m ys/\Sq d K H1 n zs/\-xs=k/\-ys=k/\-zs=k/\k≠0/\k<=10000/\
 ∀(ps:List be)(H2:Hp)(r:be),OW H1 (oy xs ys zs) ps H2->H2 r=none->Q (.ref r) (u8 H2 r (.lst (ps.map V.ref)))
def LB(hc:X.calm=true)(hg:Gl X "list")(hm:X.mg "list"=none)(RZ:Gl X "zip")(RX:X.mg "zip"=none)(ha:PA X [e1,e2,e3] ta)(hs:starEach [e1,e2,e3] X.env=[(false,eval e1 X.env),(false,eval e2 X.env),(false,eval e3 X.env)]:=by rfl)(hs2:starEach [e2,e3] X.env=[(false,eval e2 X.env),(false,eval e3 X.env)]:=by rfl)(he:kB X (.Call (.Name "zip" p2) [e1,e2,e3] [] dY) []:=by rfl):PE X (.Call (.Name "list" p) [.Call (.Name "zip" p2) [e1,e2,e3] [] dY] [] pos) (tLZ X.K ta):=by
 intro im s σ H Q I h;refine q9 (fB I hg hm (show bootBuiltins "list">(.type "list") by decide+kernel) ?_);refine a8 ?_ he rfl;rw[he];show wpAny _ _ (spliced ((false,eval (.Call (.Name "zip" p2) [e1,e2,e3] [] dY) X.env)::backTo pos (starEach [] X.env))) _ _ s;refine Calls.spliced_cons ?_;refine Call_ (fB I RZ RX boot_zip (a8 (cZ (ha dY im s σ H _ I h) λ us s1 ⟨vs,H1,I1,r1,q1⟩=>?_) (by show _=_;rw[hs,hs2]) (by show _=_;rw[hs2];rfl)));let#[b,c,d,l,m,n,xs,ys,zs,k,ev,hl,eV,hn,lx,ly,lz,k0,bZ,q]:=q1;subst ev;let#[u1,u2,u3,rfl,r,r',X5]:=vals3 r1;cases(show u1=Value.ref l from r);cases(show u2=Value.ref m from r');cases(show u3=Value.ref n from X5);let#[Ta,v1,p1]:=iS I1 hl;let#[Yx,v2,X9]:=iS I1 eV;let#[is3,v3,p3]:=iS I1 hn;refine Md p1 X9 p3 λ g qs eq D hzp Z g6 g7=>?_;refine Calls.spliced_nil ?_;have sz1:-Ta=k:=v1.length.symm.trans lx;have sz2:-Yx=k:=v2.length.symm.trans ly;have sz3:-is3=k:=v3.length.symm.trans lz;have lt:∀{b:Bool} {l:be} {xs:Array ac},hX b s1.heap l xs->l<g.objs.size:=λ x=>g6>=p9 (sX x) (A5 _ _)
 have EB:∀j:Nat,j<6->s1⁻¹+j<g.objs.size:=λ j h=>g6>=Nat.add_lt_add_left h _
 have ok:=qX (prog:=X.prog) (w:=X.w) (A:=X.A) (E:=X.xe) (s:={s1 with heap:=g}) (Q:=EP X im σ Q) (n:=k) (I1.ok.hd hc) D (by rw[eq];simp) (by rw[eq];show 3<=100;decide) bZ k0;refine ok ?_ (EB 5 `c) (EB 3 `c) (EB 4 `c) ?_ hzp Z ?_
 ·rw[eq];simp only[E8,not_mem_nil,or_false,forall_eq_or_imp,forall_eq,y3];exact#[sz1,sz2,sz3]
 ·rw[eq];simp only[E8,not_mem_nil,or_false,forall_eq_or_imp,forall_eq];exact#[#[EB 0 `c,lt p1],#[EB 1 `c,lt X9],EB 2 `c,lt p3]
 ·intro h' ps c' kp hS lG pr;have Y9:∀b o,s1.heap.get? b>o->h'.get? b>o:=λ b o e=>by have lt:∀k,b≠s1⁻¹+k:=λ k=>G4 (p9 (G5 e) (A5 _ k));refine kp b o (lt 5) (lt 4) ?_ (g7 b o e);rw[eq];simp only[E8,not_mem_nil,or_false,forall_eq_or_imp,forall_eq];exact#[lt 0,lt 1,lt 2]
  have I3:nn X im σ H1 {s1 with heap:=h'}:=I1.kept (t':=s1.toks) Y9;have ge:∀j p,ps[j]?>p->s1⁻¹<=p:=λ j p hj=>G9 (by show s1⁻¹<=g.objs.size+1;rw[g6];exact A5 _ 7) (pr.2 j p hj).1;let#[H2,z1,I4,z3]:=oO (s:=s1) (h':=h') I1 ps (oy xs ys zs) H1 I3 (by rw[lG,EI lx ly lz]) pr.1 (λ p hp=>by
    let#[j,hj]:=mem_iff_getElem?.mp hp;exact#[ge j p hj,I1.aX.fresh (ge j p hj)]) λ j p r hj hr=>by
     let#[x,y,z,ex,ey,ez,rfl]:=zO hr;let#[a,ea,ra]:=v1.get ex;let#[b,eb,rb]:=v2.get ey;let#[c,ec,rc]:=v3.get ez;refine#[by show 3<=sizeLine;decide,[a,b,c],.cons ra (.cons rb (.cons rc .nil)),?_];have t:=(pr.2 j p hj).2;rw[eq]at t;have gd:∀{is:List ac} {u:ac},is[j]?>u->is.toArray.getD j .none=u:=λ e=>by simp[Array.getD_eq_getD_getElem?,e]
     simp only[rowAt,D9,J1,gd ea,gd eb,gd ec]at t;exact t
  have nS:∀p∈ps,p≠g.objs.size:=λ p hp e=>by let#[j,hj]:=mem_iff_getElem?.mp hp;have:=(pr.2 j p hj).1;rw[e]at this;exact bi this (Nat.not_succ_le_self _)
  have fr:s1⁻¹<=g.objs.size:=g6>=A5 _ 6
  have RW:H2 g.objs.size=none:=(z3 _ λ h=>nS _ h rfl).trans (I1.aX.fresh fr);have fo:=I1.km (H':=H2) fr RW;have I5:nn X im σ (u8 H2 g.objs.size (.lst (ps.map V.ref))) {s1 with heap:=h'}:=nn.oQ I4 RW #[C1>=(lG>=G9 bZ `c),ps.map Value.ref,c',vn ps,hS] fo.2.1 (G9 I1.sz fr) fo.2.2.2.2.1 fo.2.2.2.2.2;exact#[.ref g.objs.size,_,I5,rfl,q ps H2 _ z1 RW]
end
def Eo(hc:X.calm=true):dj X (.type "list") (λ xs H Q=>∃r lo hi,xs=[.ref r]/\H r>(.yd lo hi)/\(-100000000<=lo/\lo<=100000000)/\(-100000000<=hi/\hi<=100000000)/\(hi-lo).toNat<=10000/\∀p,H p=none->Q `j (u8 H p (.lst (mf lo (hi-lo).toNat)))):=by
 intro im s σ H xs us Q I rr ⟨r,lo,hi,e,hr,h1,h2,hn,q⟩;subst e;let#[u,rfl,rx]:=vals1 rr;cases rx;let#[t,u,v,ho]:=I.aX r _ hr;have es:Builtin.Range.rangeSize lo hi 1=(((hi-lo).toNat:Nat):Int):=by rw[rangeSize_one];split<;>lia
 refine call_list_range (a:=lo) (b:=hi) (c:=1) (t:=t) (u:=u) (v:=v) (n:=(hi-lo).toNat) (I.ok.hd hc) ho (small_one () () () ()) es () λ h' tk jp c' kp hS fL=>?_;have hf:=I.aX.fresh (J7 s⁻¹);have fo:=I.km (H':=H) (J7 s⁻¹) hf;have I2:nn X im σ (u8 H s⁻¹ (.lst (mf lo (hi-lo).toNat))) {s with heap:=h',toks:=tk}:=
  nn.oQ (I.kept (t':=tk) kp) hf #[by unfold mf;rw[C1,x9];exact G9 hn `c,jp.toList,c',rO fL,(show jp.toList.toArray=jp by simp)>=hS] fo.2.1 I.sz fo.2.2.2.2.1 fo.2.2.2.2.2
 exact#[.ref s⁻¹,_,I2,rfl,q _ hf]
end L2
namespace L3
open PySem.Spec PyProof.Rows L2 L5
def vh(xs ys zs:List D):List D:=(oy xs ys zs).map D.tup
def vM{rs:List (List V)}{ps:List be}(h:OW H rs ps H'):ao H H':=by
 induction h with
 |nil=>exact ao.refl _
 |cons hn _ ih=>exact(ao.laid hn).trans ih
def Ls{rs:List (List V)}{ps:List be}(h:OW H rs ps H')(r:ul K H M):ul K H' M:=by
 induction h with
 |nil=>exact r
 |cons hn _ ih=>exact ih (r.laid hn)
theorem vN:∀{rd:List (List D)} {rs:List (List V)} {ps:List be} {H H2:Hp},OW H rs ps H2->Paired (λ r v=>ay K H r v) rd rs->ay K H2 (rd.map D.tup) (ps.map V.ref)
 |_,_,_,_,_,.nil,.nil=>ah.mpr rfl
 |_,_,_,H,H2,.cons (r:=v) (p:=p) hn z,.cons (a:=r) a t=>by have t1:ao H (u8 H p (.tup v)):=ao.laid hn;have t2:=vM z;exact ae.mpr #[.ref p,_,rfl,aM.mpr #[p,v,rfl,.inl (.inl (t2.tup _ _ aH)),ay.mono (t1.trans t2) _ a],vN z (Paired.qM t λ r v h=>ay.mono t1 r h)]
theorem rm:∀{xs ys zs:List D} {xv yv zv:List V},ay K H xs xv->ay K H ys yv->ay K H zs zv->Paired (λ r v=>ay K H r v) (oy xs ys zs) (oy xv yv zv)
 |[],ys,zs,xv,yv,zv,h1,h2,h3=>by cases(ah.mp h1);exact .nil
 |x::xs,[],zs,xv,yv,zv,h1,h2,h3=>by let#[a,r,rfl,_,_]:=ae.mp h1;cases(ah.mp h2);exact .nil
 |x::xs,y::ys,[],xv,yv,zv,h1,h2,h3=>by let#[a,r,rfl,_,_]:=ae.mp h1;let#[b,q,rfl,_,_]:=ae.mp h2;cases(ah.mp h3);exact .nil
 |x::xs,y::ys,z::zs,xv,yv,zv,h1,h2,h3=>by let#[a,r,rfl,ha,hr]:=ae.mp h1;let#[b,q,rfl,hb,hq]:=ae.mp h2;let#[c,t,rfl,hc,ht]:=ae.mp h3;exact .cons (ae.mpr #[a,_,rfl,ha,ae.mpr #[b,_,rfl,hb,ay.one hc]]) (rm hr hq ht)
section
variable {e2 e3:Expr}{p pos dY:Pos}
def N6(ta:dG):bU:=λ δ M Q=>ta δ M λ ds M1=>∃(d1 d2 d3:D)(xs ys zs:List D)(n:Nat),ds=[d1,d2,d3]/\cO M1 d1>xs/\cO M1 d2>ys/\cO M1 d3>zs/\-xs=n/\-ys=n/\-zs=n/\n≠0/\n<=10000/\∀p,M1 p=none->Q `j (af M1 p (.lst (vh xs ys zs)))
def O5(hc:X.calm=true)(hg:Gl X "list")(hm:X.mg "list"=none)(RZ:Gl X "zip")(RX:X.mg "zip"=none)(ha:WA X [e1,e2,e3] ta)(hs:starEach [e1,e2,e3] X.env=[(false,eval e1 X.env),(false,eval e2 X.env),(false,eval e3 X.env)]:=by rfl)(hs2:starEach [e2,e3] X.env=[(false,eval e2 X.env),(false,eval e3 X.env)]:=by rfl)(he:kB X (.Call (.Name "zip" p2) [e1,e2,e3] [] dY) []:=by rfl):WE X (.Call (.Name "list" p) [.Call (.Name "zip" p2) [e1,e2,e3] [] dY] [] pos) (N6 ta):=by replace ha:=ha.h;refine#[?_];refine bA (LB hc hg hm RZ RX ha hs hs2 he) ?_;rintro σ H Q ⟨δ,M,Q2,hs,hm,q,k⟩;refine#[δ,M,_,hs,hm,q,λ vs H1 ds M1 hd bJ t1 ⟨d1,d2,d3,xs,ys,zs,n,e,s1,s2,s3,l1,l2,l3,n0,bZ,q1⟩=>?_];subst e;let#[v1,r,rfl,YM,hr]:=ae.mp hd;let#[v2,r2,rfl,MF,pV]:=ae.mp hr;let#[v3,r3,rfl,hv3,YV]:=ae.mp pV;cases(ah.mp YV);let#[b1,l,xv,rfl,q3,dx]:=xZ bJ s1 YM;let#[b2,m,yv,rfl,q4,dy]:=xZ bJ s2 MF;let#[b3,n',zv,rfl,q5,dz]:=xZ bJ s3 hv3;refine#[b1,b2,b3,l,m,n',xv,yv,zv,n,rfl,q3,q4,q5,by rw[-dx,l1],by rw[-dy,l2],by rw[-dz,l3],n0,bZ,λ ps H2 r z hn=>?_];have t2:=vM z;have t3:ao H2 (u8 H2 r (.lst (ps.map V.ref))):=ao.laid hn;have m2:=Ls z bJ;exact k _ _ _ _ (az.mpr rfl) (m2.put (u:=.lst (vh xs ys zs)) t3 #[_,aH,ay.mono t3 _ (vN z (rm dx dy dz))]) (t1.trans (t2.trans t3)) (q1 r (m2.free hn))
def N7(ta:dG):bU:=λ δ M Q=>ta δ M λ ds M1=>∃i j:Int,ds=[.int i,.int j]/\(-10000<=i/\i<=10000)/\(-10000<=j/\j<=10000)/\(j-i).toNat<=10000/\∀p,M1 p=none->Q `j (af M1 p (.lst (cF i (j-i).toNat)))
def O6(hc:X.calm=true)(hg:Gl X "list")(hm:X.mg "list"=none)(Zi:Gl X "range")(Y5:X.mg "range"=none)(ha:WA X [e1,e2] ta)(hs:starEach [e1,e2] X.env=[(false,eval e1 X.env),(false,eval e2 X.env)]:=by rfl)(hs2:starEach [e2] X.env=[(false,eval e2 X.env)]:=by rfl):WE X (.Call (.Name "list" p) [.Call (.Name "range" p2) [e1,e2] [] dY] [] pos) (N7 ta):=by replace ha:=ha.h;refine#[?_];refine bA (gC (Eo hc) hg hm (by decide+kernel) (lq (gC Ek Zi Y5 (by decide+kernel) ha `c `c (by show _=_;rw[hs,hs2]) (by show _=_;rw[hs2];rfl)) pI)) ?_;rintro σ H Q ⟨δ,M,Q2,hs,hm,q,k⟩;refine#[δ,M,_,hs,hm,q,λ xs H1 ds M1 hd bJ t1 ⟨i,j,e,hi,hj,hn,q1⟩=>?_];subst e;let#[x,r,rfl,hx,hr]:=ae.mp hd;let#[y,r2,rfl,hy,pV]:=ae.mp hr;cases(ah.mp pV);cases(aq.mp hx);cases(aq.mp hy);refine#[i,j,rfl,λ r MH=>?_];refine#[r,i,j,rfl,aH,#[(),()],#[(),()],hn,λ p hp=>?_];have t2:ao H1 (u8 H1 r (.yd i j)):=ao.laid MH;have t3:=ao.laid (o:=.lst (mf i (j-i).toNat)) hp;exact k _ _ _ _ (az.mpr rfl) ((bJ.laid MH).put (u:=.lst (cF i (j-i).toNat)) t3 #[_,aH,wR i _]) (t1.trans (t2.trans t3)) (q1 p ((bJ.laid MH).free hp))
end
end L3
namespace L4
open L2 L3
section
variable {e2 e3:Expr}{p pos dY:Pos}
end
def KQ{Q:bK}(h:ta δ M λ ds M1=>∃(d1 d2 d3:D)(xs ys zs:List D)(n:Nat),ds=[d1,d2,d3]/\cO M1 d1>xs/\cO M1 d2>ys/\cO M1 d3>zs/\-xs=n/\-ys=n/\-zs=n/\n≠0/\n<=10000/\∀p,M1 p=none->Q `j (af M1 p (.lst (vh xs ys zs)))):N6 ta δ M Q:=h
def KR{Q:bK}(h:ta δ M λ ds M1=>∃i j:Int,ds=[.int i,.int j]/\(-10000<=i/\i<=10000)/\(-10000<=j/\j<=10000)/\(j-i).toNat<=10000/\∀p,M1 p=none->Q `j (af M1 p (.lst (cF i (j-i).toNat)))):N7 ta δ M Q:=h
end L4
namespace L2
open PySem.Spec PyProof.Rows
abbrev jv:=be->Option (Obj×V)
def kj(H:Hp)(C:jv):Hp:=λ b=>match C b with
 |some p=>some (ij p.1 b p.2)
 |none=>H b
def iI(H:Hp)(C:jv):Hp:=λ b=>match C b with
 |some _=>none
 |none=>H b
def jL{C:jv}{p:Obj×V}(e:C b>p):kj H C b>ij p.1 b p.2:=by unfold kj;rw[e]
def bG{C:jv}(e:C b=none):kj H C b=H b:=by unfold kj;rw[e]
def gX{C:jv}{p:Obj×V}(e:C b>p):iI H C b=none:=by unfold iI;rw[e]
def bh{C:jv}(e:C b=none):iI H C b=H b:=by unfold iI;rw[e]
def aF(C:jv)(b:be):C b=none\/∃p,C b>p:=by
 cases e:C b with
 |none=>exact .inl rfl
 |some p=>exact .inr #[p,rfl]
def qw(C:jv)(h:Heap):Prop:=∀b p,C b>p->h.get? b>p.1/\Jd b p.2 h
def Cj{h:Heap}(x:Jd b v h)(k:∀o,h.get? b>o->h'.get? b>o):Jd b v h':=by let#[u,r,o,h1,h2]:=x;exact#[u,r,o,k _ h1,h2]
def qw.obj{C:jv}{h:Heap}(c:qw C h){p:Obj×V}(e:C b>p):br P w H h b (ij p.1 b p.2):=
 #[(c b p e).1,(c b p e).1,(c b p e).2,#[_,(c b p e).1],λ h1 h2 x k=>Cj x k]
section
variable {C:jv}
def iF.Fb{h:Heap}(x:iF P w H h)(hC:∀b p,C b>p->∃o u,H b>(.cQ o u)):iF P w (iI H C) h:=λ b u e=>by
 rcases aF C b with z|⟨p,z⟩
 ·rw[bh z]at e;refine(x b u e).lY (λ c v _ q=>q) (λ c q=>?_) λ c xs q=>?_
  ·rcases aF C c with y|⟨p,y⟩
   ·rw[bh y];exact q
   ·let#[o,u,r]:=hC c p y;rw[r]at q;cases q
  ·rcases aF C c with y|⟨p,y⟩
   ·rw[bh y];exact q
   ·let#[o,u,r]:=hC c p y;rw[r]at q;cases q
 ·rw[gX z]at e;cases e
def iF.cQ{H:Hp}{h:Heap}(x:iF P w H h)(hC:∀b p,C b>p->H b=none)(c:qw C h):iF P w (kj H C) h:=λ b u e=>by
 rcases aF C b with z|⟨p,z⟩
 ·rw[bG z]at e;refine(x b u e).lY (λ c v _ q=>q) (λ c q=>?_) λ c xs q=>?_
  ·rcases aF C c with y|⟨p,y⟩
   ·rw[bG y];exact q
   ·rw[hC c p y]at q;cases q
  ·rcases aF C c with y|⟨p,y⟩
   ·rw[bG y];exact q
   ·rw[hC c p y]at q;cases q
 ·rw[jL z]at e;cases e;exact c.obj z
theorem kJ.cQ(e:kJ P w K mg base A outer s H)(hC:∀b p,C b>p->H b=none/\base.get? b=none/\b∉vd outer)(c:qw C s.heap):kJ P w K mg base A outer s (kj H C):=by
 refine#[e.frames,e.mod,λ b o q=>?_,e.Cm,e.jS,λ b hb=>?_,e.aX.cQ (λ b p z=>(hC b p z).1) c,e.bare]
 ·rcases aF C b with z|⟨p,z⟩
  ·rw[bG z];exact e.bs b o q
  ·rw[(hC b p z).2.1]at q;cases q
 ·rcases aF C b with z|⟨p,z⟩
  ·rw[bG z];exact e.JI b hb
  ·exact bi hb (hC b p z).2.2
theorem CE.Fb{Q:VK}(h:CE outer P w (kj H C) s Q u s')(hC:∀b p,C b>p->H b=none/\b∉vd outer)(c:qw C s.heap):CE outer P w H s (λ v H2=>∃H',H2=iI H' C/\(∀b p,C b>p->H' b>ij p.1 b p.2)/\Q v H') u s':=by
 let#[v,H',os,bare,un,aX,r,q]:=h;have hf:∀b p,C b>p->H' b>ij p.1 b p.2:=λ b p z=>un.mz b _ _ (jL z);have ne:∀b o,H b>o->C b=none:=λ b o e=>by
  rcases aF C b with z|⟨p,z⟩
  ·exact z
  ·rw[(hC b p z).1]at e;cases e
 refine#[v,iI H' C,os,bare,#[λ b o e n hb hx=>?_,λ b o e n hb hx=>?_,λ b o e n hx=>?_,un.there,λ b xs e=>?_,λ b o x e=>?_,λ b ps e=>?_],aX.Fb λ b p z=>#[_,_,hf b p z],r,H',rfl,hf,q]
 ·rcases aF C b with z|⟨p,z⟩
  ·exact un.keep b o e (bG z>=n) hb hx
  ·rw[(c b p z).1]at e;cases e;exact(aX b _ (hf b p z)).1
 ·rcases aF C b with z|⟨p,z⟩
  ·exact un.slot b o e (bG z>=n) hb hx
  ·exact bi hb (hC b p z).2
 ·rcases aF C b with z|⟨p,z⟩
  ·rw[bh z];exact un.free b o e (bG z>=n) hx
  ·exact gX z
 ·rw[bh (ne b _ e)];exact un.lX b xs (bG (ne b _ e)>=e)
 ·rw[bh (ne b _ e)];exact un.mz b o x (bG (ne b _ e)>=e)
 ·rw[bh (ne b _ e)];exact un.mV b ps (bG (ne b _ e)>=e)
theorem kJ.Fb(e:kJ P w K mg base A outer s H)(hC:∀b p,C b>p->H b>ij p.1 b p.2):kJ P w K mg base A outer s (iI H C):=by
 refine#[e.frames,e.mod,λ b o q=>#[(e.bs b o q).1,?_],e.Cm,e.jS,λ b hb=>?_,e.aX.Fb λ b p z=>#[_,_,hC b p z],e.bare]
 ·rcases aF C b with z|⟨p,z⟩
  ·rw[bh z];exact(e.bs b o q).2
  ·exact gX z
 ·rcases aF C b with z|⟨p,z⟩
  ·rw[bh z];exact e.JI b hb
  ·exact gX z
theorem CE.cQ{Q:VK}{u:ac}(h:CE outer P w (iI H C) s (λ v H'=>(∀b p,C b>p->H' b=none)->Q v (kj H' C)) u s')(MN:iF P w H s.heap)(hC:∀b p,C b>p->H b>ij p.1 b p.2)(vb:∀b∈vd outer,H b=none):CE outer P w H s Q u s':=by
 let#[v,H',os,bare,un,aX,r,q]:=h;have nf:∀b p,C b>p->b∉vd outer:=λ b p z hb=>by have:=hC b p z;rw[vb b hb]at this;cases this
 have kc:∀b p,C b>p->s'.heap.get? b>p.1:=λ b p z=>un.keep b _ (MN b _ (hC b p z)).1 (gX z) (nf b p z) `g;have fr:∀b p,C b>p->H' b=none:=λ b p z=>un.free b _ (MN b _ (hC b p z)).1 (gX z) `g;have ne:∀b,H b=none->C b=none:=λ b e=>by
  rcases aF C b with z|⟨p,z⟩
  ·exact z
  ·rw[hC b p z]at e;cases e
 have co:qw C s'.heap:=λ b p z=>#[kc b p z,Cj (MN b _ (hC b p z)).2.2.1 λ o e=>by rw[(MN b _ (hC b p z)).1]at e;cases e;exact kc b p z];refine#[v,kj H' C,os,bare,#[λ b o e n hb hx=>un.keep b o e (bh (ne b n)>=n) hb hx,λ b o e n hb hx=>un.slot b o e (bh (ne b n)>=n) hb hx,λ b o e n hx=>bG (ne b n)>=un.free b o e (bh (ne b n)>=n) hx,un.there,λ b xs e=>?_,λ b o x e=>?_,λ b ps e=>?_],aX.cQ fr co,r,q fr]
 ·rcases aF C b with z|⟨p,z⟩
  ·rw[bG z];exact un.lX b xs (bh z>=e)
  ·rw[hC b p z]at e;cases e
 ·rcases aF C b with z|⟨p,z⟩
  ·rw[bG z];exact un.mz b o x (bh z>=e)
  ·rw[hC b p z]at e;rw[jL z];exact e
 ·rcases aF C b with z|⟨p,z⟩
  ·rw[bG z];exact un.mV b ps (bh z>=e)
  ·rw[hC b p z]at e;cases e
end
structure lS(ps fv:List Str)(sc:Scope):Prop where
 kind:sc.kind=.function
 co:sc.isCoroutine=false
 gen:sc.isGenerator=false
 nd:(ps++fv).Nodup
 par:∀x∈ps,sc.names.lookup x>.local
 Hh:∀y∈sc.names,y.2≠.cell
 Sg:∀x∈fv,sc.names.lookup x>.free
 all:∀x,sc.names.lookup x>.free->x∈fv
def xa(P:Program)(w:World)(K:L8)(mg:Str->Option ac)(base:Heap)(N:List Str)(qual:Str)(scope:Scope)(f c:be)(cl:List (Str×be))(A:Around)(outer:List Env)(s:bd)(H:Hp):Cx where
 prog:=P
 w:=w
 K:=K
 mg:=mg
 base:=base
 A:=A.deeper (PySem.W.envX qual scope s⁻¹ f (.ref c) cl)
 N:=N
 s₀:=s
 H₀:=H
 env:=PySem.W.envX qual scope s⁻¹ f (.ref c) cl
 outer:=outer
 stack:=PySem.W.envX qual scope s⁻¹ f (.ref c) cl::outer
 ex:=[]
 calm:=true
 fn:=λ _=>false
 pn:=[]
 xe:=λ _ _=>False
abbrev SK:=List V->List V->Hp->VK->Prop
structure SY(h:Heap)(H:Hp)(cl:List (Str×be))(fv:List Str)(eu:List V):Prop where
 len:-eu=-fv
 val:∀(i:Nat)(x:Str)(v:V),fv[i]?>x->eu[i]?>v->∃d,cl.lookup x>d/\Jd d v h
 inj:∀x y d,cl.lookup x>d->cl.lookup y>d->x=y
 free:∀x d,cl.lookup x>d->x∈fv/\H d=none
structure mR(P:Program)(w:World)(K:L8)(mg:Str->Option ac)(base:Heap)(k:Nat)(L:iC)(ps fv:List Str)(sp:SK):Prop where
 len:∀vs eu H Q,sp vs eu H Q->-vs=-ps
 run:∀(A:Around)(outer:List Env)(s:bd)(H:Hp)(f c:be)(cl:List (Str×be))(us:List ac)(vs eu:List V)(Q:VK),cz k A->kJ P w K mg base A outer s H->ki f L c cl s.heap->nA c L.qual s.heap->SY s.heap H cl fv eu->ut vs us->sp vs eu H Q->
  codeAny (model P w) A (.call `C #[us,[]]) (CR (λ _ _ _ _ _ _=>False) outer P w H s Q λ _ _ _=>False) s
def OZ:∀{ps:List Str} {us:List ac} {i:Nat},ps.Nodup->ps[i]?>x->us[i]?>u->(ps.zip us).reverse.lookup x>u:=by
 intro ps us i nd h1 h2;have mem:(x,u)∈ps.zip us:=by have:(ps.zip us)[i]?>(x,u):=getElem?_zip_eq_some.mpr #[h1,h2];exact k9 this
 have un:∀v,(x,v)∈ps.zip us->v=u:=λ v hv=>by let#[j,hj]:=mem_iff_getElem?.mp hv;let#[a,b]:=getElem?_zip_eq_some.mp hj;have:=i_ nd h1 a;subst this;rw[h2]at b;exact(B7 b).symm
 have go:∀l:List (Str×ac),(x,u)∈l->(∀v,(x,v)∈l->v=u)->l.lookup x>u:=by
  intro l
  induction l with
  |nil=>intro h;cases h
  |cons p l ih=>
   intro h hu;let#[y,v]:=p;rw[y7];cases hy:x==y with
   |true=>
    have:x=y:= ~~~hy
    subst this;rw[hu v (.head _)]
   |false=>
    rcases E8.mp h with e|h
    ·cases e;simp at hy
    ·exact ih h λ w hw=>hu w (.tail _ hw)
 exact go _ (mem_reverse.mpr mem) λ v hv=>un v (mem_reverse.mp hv)
def Ro{P:Program}{w:World}{K:L8}{mg:Str->Option ac}{base:Heap}{k:Nat}{L:iC}{ps fv:List Str}{sp:SK}(S:lS ps fv L.scope)(len:∀vs eu H Q,sp vs eu H Q->-vs=-ps)(pY:∀(cl:List (Str×be))(c:be)(oh:ac)(us:List ac),-us=-ps->bindArgs (PySem.W.kla_fn "<lambda>" L.qual L.params L.body L.scope cl L.pm (.ref c) oh) #[us,[]]=pure (ps.zip us)) (eJ:∀(A:Around)(outer:List Env)(s:bd)(H:Hp)(f c:be)(cl:List (Str×be))(vs eu:List V)(Q:VK),cz k (A.deeper (PySem.W.envX L.qual L.scope s⁻¹ f (.ref c) cl))->sp vs eu H Q->
   ∃t,PE (xa P w K mg base (ps++fv) L.qual L.scope f c cl A outer s H) L.body t/\t ((vs++eu).map some) H Q):mR P w K mg base (k+1) L ps fv sp:=by
 refine#[len,λ A outer s H f c cl us vs eu Q hr e0 hf hc hC r DZ=>?_];have hl:=len _ _ _ _ DZ;have lim:s.heap.NoLimit:=e0.mod.nolimit.keeps λ b o e=>(e0.bs b o e).1;let#[oh,ef]:=hf;refine PySem.W.kla_callFunE hr.depth ef rfl S.co S.gen rfl hc ?_;rw[pY cl c oh us (by rw[<- -r];exact hl)];refine K3 (wpAny_newFunctionEnv S.Hh (λ y hy=>S.par _ (of_mem_zip (show(y.1,y.2)∈ps.zip us from hy)).1) (λ h1 Y4 MG=>#[lim.fresh _ MG,?_]) S.kind);show codeAny _ _ (.expr L.body (PySem.W.envX L.qual L.scope s⁻¹ f (.ref c) cl)) _ _;have MU:∀b o,s.heap.get? b>o->h1.get? b>o:=λ b o e=>MG.extBut b o (G4 (G5 e)) (j4 _ e);let#[t,ht,hq]:=eJ A outer s H f c cl vs eu Q (hr.deeper _) DZ;have I:nn (xa P w K mg base (ps++fv) L.qual L.scope f c cl A outer s H) [] ((vs++eu).map some) H {s with heap:=h1,toks:=s.toks+(ps.zip us).length}:=by
  have Hi:∀b:be,b∉(xa P w K mg base (ps++fv) L.qual L.scope f c cl A outer s H).ex:=λ b z=>bi (show b∈([]:List be)from z) `g;refine⟨#[e0.mod,S.kind,rfl,rfl,J7 _,hC.inj,λ y hy=>?_,λ y d z=>(by cases z),λ _=>hr.hd,Around.frames_deeper e0.frames,.inr #[rfl,rfl],λ b z=>bi z (Hi b),e0.bs,e0.Cm,λ b _ _=>Hi b,λ b z=>bi z (Hi b),e0.jS,e0.JI],
   rfl,e0.bare,Un.kept MU,#[_,Y4,λ i y v q1 q2 q3=>?_],λ y d q=>?_,e0.aX.fresh `G,λ y d q=>(hC.free y d q).2,λ p hp=>bi (show p∈([]:List (be×Obj))from hp) `g,e0.aX.kept MU,?_⟩
  ·have hy:L.scope.names.lookup y>.cell\/L.scope.names.lookup y>.free:=hy;rcases hy with hy|hy
   ·exact bi rfl (S.Hh _ (m7 hy))
   ·let#[i,hi]:=mem_iff_getElem?.mp (S.all y hy);have lt:i< -eu:=by rw[hC.len];exact(g9.mp hi).1
    let#[d,q,_]:=hC.val i y _ hi (i5 lt);exact#[d,q]
  ·have q2:(vs++eu)[i]?>v:=by
    rw[w6]at q2;cases z:(vs++eu)[i]? with
    |none=>rw[z]at q2;cases q2
    |some a=>rw[z]at q2;cases q2;rfl
   have q1:(ps++fv)[i]?>y:=q1;by_cases hi:i< -ps
   ·rw[c7 hi]at q1;rw[c7 (hl>=hi)]at q2;let#[u,hu,rv]:=r.get q2;exact#[u,rv,.inl #[S.par y (k9 q1),OZ (nodup_append.mp S.nd).1 q1 hu]]
   ·rw[b7 ()]at q1;rw[b7 (),hl]at q2;let#[d,q,u,rv,ic]:=hC.val _ y v q1 q2;exact#[u,rv,.inr #[.inr (S.Sg y (k9 q1)),d,q,let⟨o,a,b⟩:=ic;#[o,MU _ _ a,b]]]
  ·let#[i,hi]:=mem_iff_getElem?.mp (hC.free y d q).1;have lt:i< -eu:=by rw[hC.len];exact(g9.mp hi).1
   let#[d',q',u,_,ic]:=hC.val i y _ hi (i5 lt);have:d'=d:=B7 (q'.symm.trans q);subst this;exact#[some u,let⟨o,a,b⟩:=ic;#[o,MU _ _ a,b]]
  ·show _=(ps++fv).length;rw[C1,p4,p4,hl,hC.len]
 refine PySem.W.kla_codeExpr (K6 (ht [] _ _ H Q I hq) (λ u s' hs=>?_) λ e s' hs=>False.elim hs);let#[v,H',J,rv,q]:=hs;exact#[v,H',J.os,J.bare,J.base,J.aX,rv,q]
structure Wl(cells:List (Str×be))(cn:List (Str×Nat))(σ:St)(C:jv):Prop where
 has:∀x j,(x,j)∈cn->∃d o v,cells.lookup x>d/\σ[j]?>(some v)/\C d>(o,v)
 only:∀d p,C d>p->∃x j,(x,j)∈cn/\cells.lookup x>d
theorem nn.SA(I:nn X im σ H s):∀(cn:List (Str×Nat)),(∀x j,(x,j)∈cn->X.env.kindOf x>.cell/\X.N[j]?>x/\∃v,σ[j]?>(some v))->X.N.Nodup->∃C,Wl X.env.cells cn σ C/\qw C s.heap
 |[],_,_=>#[λ _=>none,#[(λ _ _ h=>nomatch h),(λ _ _ h=>nomatch h)],(λ _ _ h=>nomatch h)]
 |(x,j)::cn,h,nd=>by
  let#[C,h1,h2]:=I.SA cn (λ y i hy=>h y i (.tail _ hy)) nd;let#[hk,hN,v,hv]:=h x j (.head _);let#[m,hn,hl]:=I.loc;let#[u,r,lk]:=hl j x v hN hv (.inr (.inl hk));rcases lk with⟨q,_⟩|⟨_,d,hd,hc⟩
  ·rw[hk]at q;cases q
  let#[o,ho,hz]:=NA r hc;refine#[λ b=>if b=d then some (o,v)else C b,#[λ y i hy=>?_,λ b p hb=>?_],λ b p hb=>?_]
  ·rcases E8.mp hy with e|hy2
   ·cases e;exact#[d,o,v,hd,hv,L1 rfl]
   ·let#[d',o',v',e1,e2,e3]:=h1.has y i hy2;by_cases z:d'=d
    ·subst z;have exy:y=x:=I.ok.inj _ _ _ e1 hd;subst exy;let#[_,hN',_]:=h y i (.tail _ hy2);have:i=j:=i_ nd hN' hN;subst this;exact#[d',o,v,hd,hv,L1 rfl]
    ·exact#[d',o',v',e1,e2,(L7 z).trans e3]
  ·by_cases z:b=d
   ·subst z;exact#[x,j,.head _,hd]
   ·have hb:C b>p:=(L7 z).symm.trans hb;let#[y,i,m1,m2]:=h1.only b p hb;exact#[y,i,.tail _ m1,m2]
  ·by_cases z:b=d
   ·subst z;have hb:some (o,v)>p:=(L1 rfl).symm.trans hb;cases hb;exact#[ho,u,r,hc]
   ·exact h2 b p ((L7 z).symm.trans hb)
section
variable {ve:List V}{ds:List ac}{p pos:Pos}{t:TA}
def Pj(sp:Sp)(ve:List V)(cells:List (Str×be))(cn:List (Str×Nat))(t:TA):TE:=λ σ H Q=>t σ H λ vs H1=>(∀x j,(x,j)∈cn->∃v,σ[j]?>(some v))/\
 ∀C,Wl cells cn σ C->(∀x j y i b,(x,j)∈cn->(y,i)∈cn->cells.lookup x>b->cells.lookup y>b->j=i)->(∀b p,C b>p->H1 b=none)->sp (vs++ve) (kj H1 C) (λ v H'=>Q v (iI H' C)) E0
def GR(F:bS X.prog X.w X.K X.mg X.base eQ k f fd ps sp)(hr:cz k X.A)(hg:Gl X x)(hm:X.mg x>`C)(hk:PySem.W.keepIn X.K `C=true)(hb:Binds X.K fd ps ds)(hd:ut ve ds)(sj:∀x j,(x,j)∈cn->X.env.kindOf x>.cell/\X.N[j]?>x/\X.fn x=true)(hN:X.N.Nodup)(ha:PA X (e::es) t)(nh:qF x:=by decide)(he:kB X e es:=by rfl)(gR:uX X pos es:=by rfl):PE X `y (Pj sp ve X.env.cells cn t):=by
 intro im s σ H Q I h;refine q9 (Be I hg hm ?_ nh);refine PySem.W.callWith_K (h₀:=X.base) I.ok.mod.Vf hk (cZ (ha pos im s σ H _ I h) λ us s1 ⟨vs,H1,I1,r,hv,q⟩=>#[I1.qN,?_]) he gR;let#[C,hC,Xd]:=I1.SA cn (λ x j hx=>#[(sj x j hx).1,(sj x j hx).2.1,hv x j hx]) hN;have fr:∀b p,C b>p->H1 b=none/\X.base.get? b=none/\b∉vd X.stack:=λ b p hb=>by
  let#[y,j,m1,m2]:=hC.only b p hb;have ge:=I1.ok.Tv y b (sj y j m1).2.2 m2;refine#[I1.fV y b m2,Heap.get?_none_of_le (G9 I1.ok.Cm ge),λ z=>?_];rcases E8.mp (I1.oU b z)with z|z
  ·exact I1.OT y b m2 z
  ·let#[_,o,ho,_]:=I1.ok.jS.mem z;exact bi (G5 ho) (Nat.not_lt.mpr ge)
 have q:=q C hC (λ y j z i b m1 m2 e1 e2=>by have:=I1.ok.inj _ _ _ e1 e2;subst this;exact i_ hN (sj _ _ m1).2.1 (sj _ _ m2).2.1) λ b p hb=>(fr b p hb).1;have r2:ut (vs++ve) (us++ds):=r.append hd;have hl:(us++ds).length=-ps:=by rw[<- -r2];exact F.len _ _ _ _ q
 refine wpAny_call (J4 (F.run X.A X.stack s1 (kj H1 C) #[us,[]] (us++ds) (vs++ve) _ E0 hr (I1.Nh.cQ fr Xd) (hb s1 us I1.qN hl) r2 q) λ r s' hq=>?_);cases r with
 |error e=>exact False.elim hq
 |ok fl=>
  cases fl with
  |ret u=>have hq:=CE.Fb hq (λ b p hb=>#[(fr b p hb).1,(fr b p hb).2.2]) Xd;let#[v,H2,I2,rv,H',e,hf,q]:=I1.after hq;exact#[v,H2,I2,rv,e>=q]
  |next=>exact False.elim hq
  |brk=>exact False.elim hq
  |cont=>exact False.elim hq
end
section
variable {p pos:Pos}{t:TA}
structure Wc(H:Hp)(f:be)(L:iC)(fv:List Str)(eu:List V)(C:jv):Prop where
 ex:∃c cl,(∃o,H f>(.cQ o (.ext (ki f L c cl))))/\(∃o,H c>(.cQ o (.ext (nA c L.qual))))/\(∀x y d,cl.lookup x>d->cl.lookup y>d->x=y)/\(∀x d,cl.lookup x>d->x∈fv/\∃p,C d>p)/\
  ∀(i:Nat)(x:Str)(v:V),fv[i]?>x->eu[i]?>v->∃d o,cl.lookup x>d/\C d>(o,v)
 len:-eu=-fv
 cQ:∀b p,C b>p->H b>ij p.1 b p.2
def tFn(P:Program)(w:World)(K:L8)(mg:Str->Option ac)(base:Heap)(k:Nat)(i:Nat)(t:TA):TE:=λ σ H Q=>∃f,σ[i]?>(some `C)/\(∃o L c cl,H f>(.cQ o (.ext (ki f L c cl))))/\t σ H λ vs H1=>∃(L:iC)(ps fv:List Str)(sp:SK)(eu:List V)(C:jv),
 mR P w K mg base k L ps fv sp/\Wc H1 f L fv eu C/\sp vs eu (iI H1 C) λ v H'=>(∀b p,C b>p->H' b=none)->Q v (kj H' C)
def IA{h:Heap}(aX:iF P w H h)(e:H f>(.cQ o (.ext (ki f L c cl)))):ki f L c cl h:=(aX f _ e).2.1
def BJ{h:Heap}(x:ki f L c cl h):PySem.W.FnAt f h:=let⟨oh,e⟩:=x;#[_,_,_,_,e]
def GQ(hr:cz k X.A)(hi:X.N[i]?>x)(hv:SJ X.env.scope x)(ha:PA X (e::es) t)(hd:qF x:=by decide)(qD:V_ x:=by decide)(he:kB X e es:=by rfl)(gR:uX X pos es:=by rfl):PE X `y (tFn X.prog X.w X.K X.mg X.base k i t):=by
 intro im s σ H Q I h;let#[f,ef,#[o0,L0,c0,cl0,e0],h]:=h;refine q9 (cZ (GJ hi hv hd qD im s σ H (λ v H'=>v=.ref f/\H'=H) I #[.ref f,ef,rfl,rfl]) λ u s0 ⟨v,H0,I0,rv,ev,eH⟩=>?_);subst ev;subst eH;cases(show u=Value.ref f from rv);have hf0:=IA I0.aX e0;refine PySem.W.callWith_F (BJ hf0) (cZ (ha pos im s0 σ H0 _ I0 h) λ us s1 ⟨vs,H1,I1,r,L,ps,fv,sp,eu,C,ok,at',q⟩=>?_) he gR;let#[c,cl,#[o1,h1],#[o2,h2],inj,Sg,val]:=at'.ex;have W3:=IA I1.aX h1;have Zs:nA c L.qual s1.heap:=(I1.aX c _ h2).2.1;refine#[BJ W3,wpAny_call (J4 (ok.run X.A X.stack s1 (iI H1 C) f c cl us vs eu _ hr (I1.Nh.Fb at'.cQ) W3 Zs #[at'.len,λ i x v a b=>?_,inj,λ x d z=>?_] r q) λ r s' hq=>?_)]
 ·let#[d,o,e1,e2]:=val i x v a b;exact#[d,e1,(I1.aX d _ (at'.cQ d _ e2)).2.2.1]
 ·let#[a,b,z2]:=Sg x d z;exact#[a,gX z2]
 ·cases r with
  |error e=>exact False.elim hq
  |ok fl=>
   cases fl with
   |ret u=>exact I1.after (CE.cQ hq I1.aX at'.cQ I1.sW)
   |next=>exact False.elim hq
   |brk=>exact False.elim hq
   |cont=>exact False.elim hq
end
end L2
namespace L3
open PySem.Spec PyProof.Rows L2 L5
abbrev CM:=be->Option D
def ip(M:Mem)(C:CM):Mem:=λ b=>match C b with
 |some d=>some (.dE (.uG d))
 |none=>M b
def fF(M:Mem)(C:CM):Mem:=λ b=>match C b with
 |some _=>none
 |none=>M b
def uQ{C:CM}(e:C b>d):ip M C b>(.dE (.uG d)):=by unfold ip;rw[e]
def lN{C:CM}(e:C b=none):ip M C b=M b:=by unfold ip;rw[e]
def Nm{C:CM}(e:C b>d):fF M C b=none:=by unfold fF;rw[e]
def nZ{C:CM}(e:C b=none):fF M C b=M b:=by unfold fF;rw[e]
def dv(C:CM)(b:be):C b=none\/∃d,C b>d:=by
 cases e:C b with
 |none=>exact .inl rfl
 |some p=>exact .inr #[p,rfl]
structure Jv(K:L8)(H:Hp)(C:jv)(M:CM):Prop where
 l:∀b p,C b>p->∃d,M b>d/\sB K H d p.2
 r:∀b d,M b>d->∃p,C b>p
theorem Jv.none{C:jv}{M:CM}(h:Jv K H C M)(b:be):C b=Option.none↔M b=Option.none:=by
 constructor
 ·intro e;rcases dv M b with z|⟨d,z⟩
  ·exact z
  ·let#[p,q]:=h.r b d z;rw[q]at e;cases e
 ·intro e;rcases aF C b with z|⟨p,z⟩
  ·exact z
  ·let#[d,q,_]:=h.l b p z;rw[q]at e;cases e
section
variable {C:jv}{N:CM}
def sU(hC:∀b p,C b>p->∃o v,H b>ij o b v):Ew H (iI H C):=by
 have ne:∀b u,H b>u->(∀o v,u≠ij o b v)->C b=none:=λ b u e n=>by
  rcases aF C b with z|⟨p,z⟩
  ·exact z
  ·let#[o,v,q]:=hC b p z;rw[q]at e;exact bi (B7 e).symm (n o v)
 exact#[λ b xs e=>bh (ne b _ e λ o v z=>by cases z)>=e,λ b o xs e=>bh (ne b _ e λ o v z=>by cases z)>=e,λ b o xs e=>bh (ne b _ e λ o v z=>by cases z)>=e]
def nY(hC:∀b p,C b>p->H b=none):ao H (kj H C):=by
 have ne:∀b u,H b>u->C b=none:=λ b u e=>by
  rcases aF C b with z|⟨p,z⟩
  ·exact z
  ·rw[hC b p z]at e;cases e
 exact#[λ b xs e=>bG (ne b _ e)>=e,λ b o xs e=>bG (ne b _ e)>=e]
def rf.Fb{o:MO}(h:rf K H a o)(hC:∀b p,C b>p->∃o v,H b>ij o b v)(ha:C a=none):rf K (iI H C) a o:=by
 have ts:=sU hC;have kp:∀b u,H b>u->(∀o v,u≠ij o b v)->iI H C b>u:=λ b u e n=>by
  rcases aF C b with z|⟨p,z⟩
  ·rw[bh z];exact e
  ·let#[o,v,q]:=hC b p z;rw[q]at e;exact bi (B7 e).symm (n o v)
 have ea:iI H C a=H a:=bh ha;cases o with
 |lst ds=>let#[xs,h,q]:=h;exact#[xs,ea.trans h,ay.mon ts ds q]
 |bV b kvs=>
  cases b with
  |false=>let#[xs,h,q]:=h;exact#[xs,ea.trans h,Paired.qM q λ p q z=>#[z.1,sB.mon ts _ z.2]]
  |true=>let#[xs,h,q]:=h;exact#[xs,ea.trans h,Paired.qM q λ p q z=>#[z.1,z.2.1,sB.mon ts _ z.2.2.1,sB.mon ts _ z.2.2.2]]
 |dE x=>
  cases x with
  |lam L cl=>let#[c,#[o,h],o',h']:=h;exact#[c,#[o,ea.trans h],o',kp _ _ h' λ o v z=>by cases z]
  |uG d=>let#[o,v,h,q]:=h;exact#[o,v,ea.trans h,sB.mon ts d q]
  |lU q=>let#[cs,h1,h2]:=h;exact#[cs,ea.trans h1,λ p hp=>let⟨o,z⟩:=h2 p hp;#[o,kp _ _ z λ o v y=>by cases y]]
  |uN kvs=>let#[xs,h,q]:=h;exact#[xs,ea.trans h,Paired.qM q λ p q z=>#[z.1,sB.mon ts _ z.2.1,sB.mon ts _ z.2.2]]
def ul.cQ(h:ul K H M)(hC:∀b p,C b>p->H b=none)(c:Jv K H C N):ul K (kj H C) (ip M N):=λ a o e=>by
 have t:=nY hC;rcases dv N a with z|⟨d,z⟩
 ·rw[lN z]at e;exact(h a o e).mono t (bG ((c.none a).mpr z))
 ·rw[uQ z]at e;cases e;let#[p,q]:=c.r a d z;let#[d',q',r]:=c.l a p q;rw[z]at q';cases q';exact#[_,_,jL q,sB.mono t _ r]
theorem ul.Fb(h:ul K H M)(hC:∀b p,C b>p->∃o v,H b>ij o b v)(c:∀b,C b=none↔N b=none):ul K (iI H C) (fF M N):=λ a o e=>by
 rcases dv N a with z|⟨d,z⟩
 ·rw[nZ z]at e;exact(h a o e).Fb hC ((c a).mpr z)
 ·rw[Nm z]at e;cases e
end
section
variable {P:be}{pos:Pos}
def Uj(P:be)(L:iC)(cells:List (Str×be)):bU:=λ _ M Q=>M P>(.dE (.lU L.qual))/\∀f,M f=none->(∀x d,cells.lookup x>d->d≠f)->Q `C (af M f (.dE (.lam L (bq cells L.scope.names []))))
def NT(mN:X.env.code=.ref c)(B:Jq X.mg X.base c P)(yT:defaultsOf L.params X.env=([],[]))(D':L.pm=(X.mg "__name__").getD .none)(hq:X.env.qual++"<lambda>"=L.qual)(vb:∀n,(n,NameKind.free)∈L.scope.names->X.env.kindOf n>.cell\/X.env.kindOf n>.free):WE X (.Lambda L.params L.body L.scope pos) (Uj P L X.env.cells):=by
 refine#[?_];refine bA (GN mN B yT D' hq vb) ?_;rintro σ H Q ⟨δ,M,Q2,hs,hm,⟨hP,q⟩,k⟩;have tb:EF H P L.qual:=hm P _ hP;let#[cs,eP,uo]:=id tb;refine#[tb,λ f c H' nf hf old Xx hc hl=>?_];have t:ao H H':=#[λ b xs e=>old b _ (λ z=>by rw[z,eP]at e;cases e) e,λ b o u e=>old b _ (λ z=>by rw[z,eP]at e;cases e) e];refine k _ H' _ _ (az.mpr rfl) (λ a o e=>?_) t (q f (hm.free nf) hf);by_cases z:a=f
 ·subst z;rw[ab]at e;cases e;exact#[c,hl,hc]
 ·rw[ak z]at e;by_cases y:a=P
  ·subst y;rw[hP]at e;cases e;exact Xx
  ·let#[u,hu]:=(hm a o e).there;exact(hm a o e).mono t (hu>=old a u y hu)
end
structure NR(cells:List (Str×be))(cn:List (Str×Nat))(δ:cS)(C:CM):Prop where
 has:∀x j,(x,j)∈cn->∃b d,cells.lookup x>b/\δ[j]?>(some d)/\C b>d
 only:∀b d,C b>d->∃x j,(x,j)∈cn/\cells.lookup x>b
 inj:∀x j y i b,(x,j)∈cn->(y,i)∈cn->cells.lookup x>b->cells.lookup y>b->x=y
section
variable {p pos:Pos}{t:dG}{sp:fM}
def sDC(sp:fM)(cells:List (Str×be))(cn:List (Str×Nat))(t:dG):bU:=λ δ M Q=>t δ M λ ds M1=>(∀x j,(x,j)∈cn->∃d,δ[j]?>(some d))/\∀C,NR cells cn δ C->(∀b d,C b>d->M1 b=none)->sp ds (ip M1 C) λ d M'=>Q d (fF M' C)
set_option tactic.hygienic true in
def JT(d:cY X.prog X.w X.K X.mg X.base k x ps sp)(hr:cz k X.A)(hg:Gl X x)(sj:∀x j,(x,j)∈cn->X.env.kindOf x>.cell/\X.N[j]?>x/\X.fn x=true)(hN:X.N.Nodup)(ha:WA X (e::es) t)(nh:qF x:=by decide)(he:kB X e es:=by rfl)(gR:uX X pos es:=by rfl):WE X `y (sDC sp X.env.cells cn t):=by
 replace ha:=ha.h;refine#[?_];let#[f,fd,G,hm,kp,b]:=d.ex;refine bA (GR (cn:=cn) G hr hg hm kp b .nil sj hN ha nh he gR) ?_;rintro σ H Q ⟨δ,M,Q2,hs,hm,q,k⟩;refine#[δ,M,_,hs,hm,q,λ vs H1 ds M1 hd bJ t1 ⟨hv,q1⟩=>#[λ x j hx=>?_,λ C hC un hn=>?_]]
 ·let#[d,e]:=hv x j hx;let#[v,e',_]:=hs.get j d e;exact#[v,e']
 ·have ex:∀b p,C b>p->∃d,(∃x j,(x,j)∈cn/\X.env.cells.lookup x>b/\δ[j]?>(some d))/\sB X.K H1 d p.2:=λ b p hb=>by let#[y,i,m1,m2]:=hC.only b p hb;let#[b',o,v,l1,l2,l3]:=hC.has y i m1;rw[m2]at l1;cases l1;rw[hb]at l3;cases l3;let#[d,e]:=hv y i m1;let#[v',e',r]:=hs.get i d e;rw[l2]at e';cases e';exact#[d,#[y,i,m1,m2,e],sB.mono t1 d r]
  let N:CM:=λ b=>match h:C b with
   |some p=>some (ex b p h).choose
   |none=>none
  have N1:∀b p (h:C b>p),N b>(ex b p h).choose:=λ b p h=>by
   show(match h:C b with|some p=>some (ex b p h).choose|none=>none)=_;split
   ·rename_i p' h';have:=h.symm.trans h';cases this;rfl
   ·rename_i h';rw[h]at h';cases h'
  have N2:∀b,C b=none->N b=none:=λ b h=>by
   show(match h:C b with|some p=>some (ex b p h).choose|none=>none)=_;split
   ·rename_i p' h';rw[h]at h';cases h'
   ·rfl
  have cr:Jv X.K H1 C N:=⟨λ b p h=>#[_,N1 b p h,(ex b p h).choose_spec.2],λ b d h=>by
   rcases aF C b with z|⟨p,z⟩
   ·rw[N2 b z]at h;cases h
   ·exact#[p,z]⟩
  have cm:NR X.env.cells cn δ N:=by
   refine⟨λ y i hy=>?_,λ b d hb=>?_,λ x1 j1 y1 i1 b h1 h2 h3 h4=>by
    have e1:=(sj x1 j1 h1).2.1;rw[un x1 j1 y1 i1 b h1 h2 h3 h4,(sj y1 i1 h2).2.1]at e1;exact(B7 e1).symm⟩
   ·let#[b,o,v,l1,l2,l3]:=hC.has y i hy;let#[#[y',i',m1,m2,m3],_]:=(ex b (o,v) l3).choose_spec;refine#[b,(ex b (o,v) l3).choose,l1,?_,N1 b _ l3];have:i'=i:=un y' i' y i b m1 hy m2 l1;rw[<- this];exact m3
   ·let#[p,z]:=cr.r b d hb;let#[y,i,m1,m2]:=hC.only b p z;exact#[y,i,m1,m2]
  have RW:∀b d,N b>d->M1 b=none:=λ b d hb=>let⟨p,z⟩:=cr.r b d hb;bJ.free (hn b p z)
  have cN:∀b,C b=none↔N b=none:=cr.none;refine#[ds,ip M1 N,_,?_,bJ.cQ hn cr,q1 N cm RW,λ v H' d M' lV eV t' q'=>?_]
  ·rw[B1];exact ay.mono (nY hn) ds hd
  ·have hf:∀b p,C b>p->∃o v,H' b>ij o b v:=λ b p z=>#[_,_,t'.cQ _ _ _ (jL z)];have ts:=sU hf;refine k v (iI H' C) d (fF M' N) (sB.mon ts d lV) (eV.Fb hf cN) (t1.trans ?_) q';have tt:=(nY hn).trans t';have ne:∀b u,H1 b>u->C b=none:=λ b u e=>by
    rcases aF C b with z|⟨p,z⟩
    ·exact z
    ·rw[hn b p z]at e;cases e
   exact#[λ b xs e=>bh (ne b _ e)>=tt.tup b xs e,λ b o u e=>bh (ne b _ e)>=tt.cQ b o u e]
end
abbrev lP:=List D->List D->Mem->bK->Prop
def TQ(K:L8)(sp:lP):SK:=λ vs eu H Q=>∃ds cs M Q2,ay K H ds vs/\ay K H cs eu/\ul K H M/\sp ds cs M Q2/\jU K H Q2 Q
abbrev nF(P:Program)(w:World)(K:L8)(mg:Str->Option ac)(base:Heap)(k:Nat)(L:iC)(ps fv:List Str)(sp:lP):Prop:=mR P w K mg base k L ps fv (TQ K sp)
structure qt(M:Mem)(f:be)(L:iC)(fv:List Str)(cs:List D)(C:CM):Prop where
 ex:∃cl,M f>(.dE (.lam L cl))/\(∀x y b,cl.lookup x>b->cl.lookup y>b->x=y)/\(∀x b,cl.lookup x>b->x∈fv/\∃d,C b>d)/\∀(i:Nat)(x:Str)(d:D),fv[i]?>x->cs[i]?>d->∃b,cl.lookup x>b/\C b>d
 len:-cs=-fv
 uG:∀b d,C b>d->M b>(.dE (.uG d))
theorem uB:∀{ds:List D} {vs:List V},-ds=-vs->(∀(i:Nat)(d:D)(v:V),ds[i]?>d->vs[i]?>v->sB K H d v)->ay K H ds vs
 |[],[],_,_=>ah.mpr rfl
 |d::ds,v::vs,hl,h=>ae.mpr #[v,vs,rfl,h 0 d v rfl rfl,uB (~~~hl) λ i d' v' a b=>h (i+1) d' v' (~~~a) (~~~b)]
section
variable {p pos:Pos}{t:dG}
def XU(P:Program)(w:World)(K:L8)(mg:Str->Option ac)(base:Heap)(k:Nat)(i:Nat)(t:dG):bU:=λ δ M Q=>∃f,δ[i]?>(some `C)/\(∃L cl,M f>(.dE (.lam L cl)))/\t δ M λ ds M1=>∃(L:iC)(ps fv:List Str)(sp:lP)(cs:List D)(C:CM),
 nF P w K mg base k L ps fv sp/\qt M1 f L fv cs C/\sp ds cs (fF M1 C) λ d M'=>Q d (ip M' C)
set_option tactic.hygienic true in
def zS(hr:cz k X.A)(hi:X.N[i]?>x)(hv:SJ X.env.scope x)(ha:WA X (e::es) t)(hd:qF x:=by decide)(qD:V_ x:=by decide)(he:kB X e es:=by rfl)(gR:uX X pos es:=by rfl):WE X `y (XU X.prog X.w X.K X.mg X.base k i t):=by
 replace ha:=ha.h;refine#[?_];refine bA (GQ hr hi hv ha hd qD he gR) ?_;rintro σ H Q ⟨δ,M,Q2,hs,hm,⟨f,ef,⟨L0,cl0,el⟩,q⟩,kk⟩;let#[v,ev,rv]:=hs.get i _ ef;cases(az.mp rv);let#[c0,#[o0,h0],_]:=hm f _ el;refine#[f,ev,#[o0,L0,c0,cl0,h0],δ,M,_,hs,hm,q,λ vs H1 ds M1 hd bJ t1 ⟨L,ps,fv,sp,cs,C,ok,at',q1⟩=>?_];let#[cl,hl,inj,Sg,val]:=at'.ex;let#[c,hf,hc]:=bJ f _ hl;have ex:∀b d,C b>d->∃p:Obj×V,H1 b>ij p.1 b p.2/\sB X.K H1 d p.2:=λ b d z=>let⟨o,v,a,r⟩:=bJ b _ (at'.uG b d z);#[(o,v),a,r]
 let N:jv:=λ b=>match h:C b with
  |some d=>some (ex b d h).choose
  |none=>none
 have N1:∀b d (h:C b>d),N b>(ex b d h).choose:=λ b d h=>by
  show(match h:C b with|some d=>some (ex b d h).choose|none=>none)=_;split
  ·rename_i p' h';have:=h.symm.trans h';cases this;rfl
  ·rename_i h';rw[h]at h';cases h'
 have N2:∀b,C b=none->N b=none:=λ b h=>by
  show(match h:C b with|some d=>some (ex b d h).choose|none=>none)=_;split
  ·rename_i p' h';rw[h]at h';cases h'
  ·rfl
 have Nb:∀b p,N b>p->∃d,C b>d/\H1 b>ij p.1 b p.2/\sB X.K H1 d p.2:=λ b p h=>by
  rcases dv C b with z|⟨d,z⟩
  ·rw[N2 b z]at h;cases h
  ·rw[N1 b d z]at h;cases h;exact#[d,z,(ex b d z).choose_spec]
 have hN:∀b,N b=none↔C b=none:=λ b=>by
  constructor
  ·intro h;rcases dv C b with z|⟨d,z⟩
   ·exact z
   ·rw[N1 b d z]at h;cases h
  ·exact N2 b
 have VF:∀b p,N b>p->∃o v,H1 b>ij o b v:=λ b p h=>let⟨_,_,a,_⟩:=Nb b p h;#[_,_,a]
 have ts:=sU VF;let eu:List V:=fv.map λ y=>((cl.lookup y).bind N).elim V.bf (·.2)
 have cv:∀(j:Nat)(y:Str)(d:D),fv[j]?>y->cs[j]?>d->∃b p,cl.lookup y>b/\C b>d/\N b>p/\eu[j]?>p.2:=λ j y d h1 h2=>by let#[b,a1,a2]:=val j y d h1 h2;refine#[b,_,a1,a2,N1 b d a2,?_];show(fv.map _)[j]?=_;rw[w6,h1];show some (((cl.lookup y).bind N).elim V.bf (·.2))=_;rw[a1];show some ((N b).elim V.bf (·.2))=_;rw[N1 b d a2];rfl
 have lc:-eu=-fv:=C1 ..;refine#[L,ps,fv,_,eu,N,ok,#[#[c,cl,hf,hc,inj,λ y b h=>?_,λ j y v h1 h2=>?_],lc,λ b p h=>(Nb b p h).choose_spec.2.1],ds,cs,fF M1 C,_,ay.mon ts ds hd,?_,bJ.Fb VF hN,q1,λ v H' d M' lV eV t' q' vb=>?_]
 ·let#[a,d,b']:=Sg y b h;exact#[a,_,N1 b d b']
 ·have lt:j< -cs:=by rw[at'.len];exact(g9.mp h1).1
  let#[b,p,a1,a2,a3,a4]:=cv j y _ h1 (i5 lt);rw[h2]at a4;cases a4;exact#[b,p.1,a1,a3]
 ·refine uB (by rw[lc,at'.len]) λ j d v h1 h2=>?_;have lt:j< -fv:=by rw[<- at'.len];exact(g9.mp h1).1
  let#[b,p,a1,a2,a3,a4]:=cv j _ d (i5 lt) h1;rw[h2]at a4;cases a4;let#[d',z1,_,z2]:=Nb b p a3;rw[a2]at z1;cases z1;exact sB.mon ts d z2
 ·have cr:Jv X.K H' N C:=#[λ b p h=>let⟨d,z,_,r⟩:=Nb b p h;#[d,z,sB.mono t' d (sB.mon ts d r)],λ b d z=>#[_,N1 b d z]];have t2:=nY vb;refine kk v (kj H' N) d (ip M' C) (sB.mono t2 d lV) (eV.cQ vb cr) (t1.trans #[λ b xs e=>?_,λ b o u e=>?_]) q'
  ·rcases aF N b with z|⟨p,z⟩
   ·rw[bG z];exact t'.tup b xs (bh z>=e)
   ·let#[_,_,a,_]:=Nb b p z;rw[a]at e;cases e
  ·rcases aF N b with z|⟨p,z⟩
   ·rw[bG z];exact t'.cQ b o u (bh z>=e)
   ·let#[_,_,a,_]:=Nb b p z;rw[a]at e;rw[jL z];exact e
end
def Mr{P:Program}{w:World}{K:L8}{mg:Str->Option ac}{base:Heap}{k:Nat}{L:iC}{ps fv:List Str}{sp:lP}(S:lS ps fv L.scope)(len:∀ds cs M Q,sp ds cs M Q->-ds=-ps)(pY:∀(cl:List (Str×be))(c:be)(oh:ac)(us:List ac),-us=-ps->bindArgs (PySem.W.kla_fn "<lambda>" L.qual L.params L.body L.scope cl L.pm (.ref c) oh) #[us,[]]=pure (ps.zip us)) (eJ:∀(A:Around)(outer:List Env)(s:bd)(H:Hp)(f c:be)(cl:List (Str×be))(ds cs:List D)(M:Mem)(Q:bK),cz k (A.deeper (PySem.W.envX L.qual L.scope s⁻¹ f (.ref c) cl))->sp ds cs M Q->
   ∃t,QE (xa P w K mg base (ps++fv) L.qual L.scope f c cl A outer s H) L.body t/\t ((ds++cs).map some) M Q):nF P w K mg base (k+1) L ps fv sp:=by
 refine Ro S (λ vs eu H Q h=>?_) pY λ A outer s H f c cl vs eu Q hr h=>?_
 ·let#[ds,cs,M,Q2,hd,_,_,hs,_]:=h;rw[-hd];exact len ds cs M Q2 hs
 ·let#[ds,cs,M,Q2,hd,hc,hm,hs,kk]:=h;let#[t,ht,q]:=eJ A outer s H f c cl ds cs M Q2 hr hs;refine#[_,ht,(ds++cs).map some,M,Q2,#[?_,λ i d e=>?_],hm,q,kk]
  ·rw[C1,C1,(hd.append hc).length]
  ·rw[w6]at e;cases z:(ds++cs)[i]? with
   |none=>rw[z]at e;cases e
   |some d'=>rw[z]at e;cases e;let#[v,a,r]:=(hd.append hc).get z;exact#[v,by rw[w6,a];rfl,r]
end L3
namespace L2
open PySem.Spec PyProof.Rows
structure jT(K:L8)(x qual:Str)(st:Stmt)(dV:ac)(c f:be)(fd:FuncData):Prop where
 ex:∃(oc:ac)(od:Option be)(kV doc pm:ac)(an:Option be)(ct:ac)(yt:Array (Option ac)),
  fd=PySem.W.fnOf x qual (bN st) (bp st) (aD st) dV kV doc pm an (.ref c) ct/\K.lookup f>#[oc,od,.func fd,yt]/\PySem.W.codeIn K (.ref c) qual=true
 kp:PySem.W.keepIn K `C=true
def jT.ok{x qual:Str}{st:Stmt}{dV:ac}{c f:be}{fd:FuncData}{N ps:List Str}{k:Nat}{sp:Sp}(F:jT K x qual st dV c f fd)(S:ir N ps (aD st))(len:∀vs H Q E,sp vs H Q E->-vs=-ps) (eJ:∀(A:Around)(outer:List Env)(s:bd)(H:Hp)(vs:List V)(Q:VK)(E:XK),cz k (A.deeper (envOfC qual (aD st) s⁻¹ f (.ref c)))->sp vs H Q E->
   ∃t,xw (qT eQ P w K mg base N qual (aD st) f (.ref c) A outer s H E).Mb (bp st) t/\t {nx:=λ _ H'=>Q .bf H',rt:=Q} (start N vs) H):bS P w K mg base eQ (k+1) f fd ps sp:=by
 let#[oc,od,kV,doc,pm,an,ct,yt,rfl,lk,qD]:=F.ex;refine OL lk qD S len λ A outer s H vs Q E hr DZ=>?_;let#[t,h,q]:=eJ A outer s H vs Q E hr DZ;exact#[t,h.Mb,q]
def Na{oc:ac}{od an:Option be}{kV doc pm ct:ac}(l:K.lookup f>#[oc,od,.func `F,yt])(e:PySem.W.codeIn K (.ref c) qual=true)(k:PySem.W.keepIn K `C=true):jT K x qual st dV c f `F:=#[#[oc,od,kV,doc,pm,an,ct,yt,rfl,l,e],k]
def jT.binds{ds:List ac}(F:jT K x qual st dV c f fd)(h:∀(kV doc pm:ac)(an:Option be)(ct:ac)(s:bd),K.In s.heap->∀(us:List ac),(us++ds).length=-ps->BindsTo s `F #[us,[]] (ps.zip (us++ds))):Binds K fd ps ds:=by let#[oc,od,kV,doc,pm,an,ct,yt,rfl,lk,qD]:=F.ex;exact λ s us hk hl=>h kV doc pm an ct s hk us hl
def fI.UZ(F:jT K x qual st dV c f fd)(G:bS P w K mg base eQ k f fd ps sp)(hm:mg x>`C)(b:Binds K fd ps []):fI P w K mg base k x ps sp:=#[f,fd,G,hm,F.kp,b]
def rZ(s:Stmt)(j:Nat)(q:Str)(mg:Str->Option ac):iC:=match bp s with
 |ss=>match ss.getLast? with
  |some (.Return (some (.Call _ es _ _)) _)=>match es[j]? with
   |some (.Lambda a b c _)=>#[q,a,b,c,(mg "__name__").getD .none]
   |_=>#[q,bN s,.Constant .none 0 #[0,0,0,0],aD s,.none]
  |_=>#[q,bN s,.Constant .none 0 #[0,0,0,0],aD s,.none]
end L2
namespace L4
open PySem.Spec L2 L3
def Yc{x qual:Str}{st:Stmt}{dV:ac}{c f:be}{fd:FuncData}{ps:List Str}{k:Nat}{sp:fM}(F:jT K x qual st dV c f fd)(N:List Str) (eJ:∀(A:Around)(outer:List Env)(s:bd)(H:Hp)(E:XK)(ds:List D)(M:Mem)(Q:bK),N.Nodup->cz k (A.deeper (PyProof.Rows.envOfC qual (aD st) s⁻¹ f (.ref c)))->sp ds M Q->
   ∃t,JK (qT eQ P w K mg base N qual (aD st) f (.ref c) A outer s H E).Mb (bp st) t/\t {nx:=λ _ M'=>fin2 Q .bf M',rt:=fin2 Q} (iQ N ds) M) (len:∀ds M Q,sp ds M Q->-ds=-ps:=by intro ds M Q;walk_at "len") (S:ir N ps (aD st):=by exact#[rfl,rfl,rfl,by decide+kernel,rfl,by decide+kernel,by decide+kernel]):bS P w K mg base eQ (k+1) f fd ps (cI K sp):=by
 refine F.ok S (λ vs H Q E h=>?_) (λ A outer s H vs Q E hr h=>?_)
 ·let#[ds,M,Q2,hd,_,hs,_]:=h;rw[-hd];exact len ds M Q2 hs
 ·let#[ds,M,Q2,hd,hm,hs,kk]:=h;let#[t,ht,q]:=eJ A outer s H E ds M Q2 S.nd hr hs;refine#[_,ht.h,iQ N ds,M,_,rK hd,hm,q,#[?_,?_,?_,?_]]
  ·exact λ σ' H' δ' M' _ eV t' ⟨lW,s,q⟩=>kk _ H' .bf lW (dh.mpr rfl) (eV.sub s) t' q
  ·exact λ v H' d M' lV eV t' ⟨lW,s,q⟩=>kk v H' d lW lV (eV.sub s) t' q
  ·exact λ σ' H' δ' M' _ eV t' q=>q
  ·exact λ σ' H' δ' M' _ eV t' q=>q
def Rq{k:Nat}{L:iC}{ps fv:List Str}{sp:lP}(S:lS ps fv L.scope)(len:∀ds cs M Q,sp ds cs M Q->-ds=-ps)(pY:∀(cl:List (Str×be))(c:be)(oh:ac)(us:List ac),-us=-ps->bindArgs (PySem.W.kla_fn "<lambda>" L.qual L.params L.body L.scope cl L.pm (.ref c) oh) #[us,[]]=pure (ps.zip us)) (eJ:∀(A:Around)(outer:List Env)(s:bd)(H:Hp)(f c:be)(cl:List (Str×be))(ds cs:List D)(M:Mem)(Q:bK),cz k (A.deeper (PySem.W.envX L.qual L.scope s⁻¹ f (.ref c) cl))->sp ds cs M Q->
   ∃t,WE (xa P w K mg base (ps++fv) L.qual L.scope f c cl A outer s H) L.body t/\t ((ds++cs).map some) M Q):nF P w K mg base (k+1) L ps fv sp:=
 Mr S len pY λ A outer s H f c cl ds cs M Q hr h=>let⟨t,a,b⟩:=eJ A outer s H f c cl ds cs M Q hr h;#[t,a.h,b]
section
variable {P:be}{pos p:Pos}{t:dG}{sp:fM}
end
def Gi{P:be}{Q:bK}(h:M P>(.dE (.lU L.qual)))(q:∀f,M f=none->(∀x d,cells.lookup x>d->d≠f)->Q `C (af M f (.dE (.lam L (bq cells L.scope.names []))))):Uj P L cells δ M Q:=#[h,q]
def Uv{sp:fM}{t:dG}{Q:bK}(h:t δ M λ ds M1=>(∀x j,(x,j)∈cn->∃d,δ[j]?>(some d))/\∀C,NR cells cn δ C->(∀b d,C b>d->M1 b=none)->sp ds (ip M1 C) λ d M'=>Q d (fF M' C)):sDC sp cells cn t δ M Q:=h
def Gm{t:dG}{Q:bK}(e:δ[i]?>(some `C))(hl:∃L cl,M f>(.dE (.lam L cl)))(h:t δ M λ ds M1=>∃(L:iC)(ps fv:List Str)(sp:lP)(cs:List D)(C:CM),nF P w K mg base k L ps fv sp/\qt M1 f L fv cs C/\sp ds cs (fF M1 C) λ d M'=>Q d (ip M' C)):XU P w K mg base k i t δ M Q:=#[f,e,hl,h]
end L4
namespace L2
open PySem.Spec PyProof.Rows
def Cz(H:Hp)(ts:List be):Prop:=(∀b,H b=none\/(∃o xs,H b>(.cQ o `J))\/H b>(.lU ([].toArray)))/\∀t∈ts,H t>(.lU ([].toArray))
def DO{mb:Str->Option ac}{CX:Ju}{fa:be}{s₁:bd}(KX:K.In s₁.heap)(Y4:s₁.heap.Ns mainGlobals mg)(hb:s₁.heap.Ns builtinsNs mb)(hbb:∀x:Str,x≠"__name__"->mb x=bootBuiltins x)(Y_:s₁.heap.NoLimit)(hg:s₁.gens=([].toArray))(hbm:∃bm ob,mg "__builtins__">(.ref bm)/\bm≠builtinsNs/\s₁.heap.get? bm>ob/\ob.cls=.type "module"/\ob.dict>builtinsNs/\ob.data=.plain)(hT:∀q∈tabs,s₁.heap.get? q.2>(PySem.W.tabObj ([].toArray))/\K.lookup q.2=none/\PySem.W.CodeHd s₁.heap q.1 q.2)(ha:s₁.heap.get? a>{cls:=.type "list",data:=.seq vs.toArray})(hi:IntsAre vs ns)(hl:-ns<=sizeLine)(hr:cz k callerA)(F:∀base:Heap,K.In base->(∀q∈tabs,Jq mg base q.1 q.2)->bS P w K mg base CX k fa fd [x] sp)(pY:∀(s:bd)(u:ac),BindsTo s fd #[[u],[]] [(x,u)])(DZ:∀H:Hp,Cz H (tabs.map (·.2))->fK K H a (ns.map V.int)->sp [.ref a] H (λ v _=>v=.bl true) λ _ _ _=>False)(ZD:∀H e s',CX [] H s₁ (λ _ _ _=>False) e s'->False):codeAny (model P w) callerA (.call (.ref fa) #[[.ref a],[]]) (λ r s'=>r=.ok (.ret (.bool true))/\OldK s₁.heap s'.heap/\s'.os=s₁.os/\AllBare s'.gens) s₁:=by
 have rv:=rq hi;have Yq:=-hi;have tg:∀t∈tabs.map (·.2),s₁.heap.get? t>(PySem.W.tabObj ([].toArray))/\K.lookup t=none:=λ t ht=>by let#[q,hq,rfl]:=G7.mp ht;exact#[(hT q hq).1,(hT q hq).2.1]
 have at':a∉tabs.map (·.2):=λ h=>by have:=(tg a h).1;rw[ha]at this;cases this
 have core:∀H:Hp,Cz H (tabs.map (·.2))->fK K H a (ns.map V.int)->iF P w H s₁.heap->(∀b,H b≠none->b=a\/b∈tabs.map (·.2))->(H a≠none->K.lookup a=none)->
   codeAny (model P w) callerA (.call (.ref fa) #[[.ref a],[]]) (λ r s'=>r=.ok (.ret (.bool true))/\OldK s₁.heap s'.heap/\s'.os=s₁.os/\AllBare s'.gens) s₁:=by
  intro H hO hS aX hA hK;have oo:∀{b:be} {o:Obj},s₁.heap.get? b>o->H b=none->(qQ s₁.heap H).get? b>o:=λ e n=>Ij e n;have Hi:∀{b:be} {o:Obj},s₁.heap.get? b>o->o≠PySem.W.tabObj ([].toArray)->(∀us n,o.data≠.seq us n)->H b=none:=λ{b o} e d1 d2=>by
   cases q:H b with
   |none=>rfl
   |some u=>
    rcases hA b (by rw[q];simp)with e'|e'
    ·subst e';rw[ha]at e;cases e;exact bi rfl (d2 _ _)
    ·rw[(tg b e').1]at e;cases e;exact bi rfl d1
  have noD:∀{b:be} {o:Obj} {es:Array DictEntry} {ep:Nat},s₁.heap.get? b>o->o.data=.dict es ep->H b=none:=λ{b o es ep} e d=>Hi e (λ z=>by rw[z]at d;cases d) λ us n z=>by rw[d]at z;cases z
  have Yi:∀{b:be} {m:Str->Option ac},s₁.heap.Ns b m->(qQ s₁.heap H).Ns b m:=λ{b m} ⟨o,es,ep,e,d,r⟩=>#[o,es,ep,oo e (noD e d),d,r];have hKb:K.In (qQ s₁.heap H):=λ b o e=>oo (KX b o e) (by
   cases q:H b with
   |none=>rfl
   |some u=>
    rcases hA b (by rw[q];simp)with e'|e'
    ·subst e';rw[hK (by rw[q];simp)]at e;cases e
    ·rw[(tg b e').2]at e;cases e)
  have hM:Mod K mg (qQ s₁.heap H):=#[hKb,Yi Y4,#[mb,Yi hb,hbb],let⟨mc,h1,h2⟩:=Y_;#[mc,Yi h1,h2]];have W9:∀q∈tabs,Jq mg (qQ s₁.heap H) q.1 q.2:=λ q hq=>by
   refine#[?_,?_]
   ·let#[bm,ob,b1,b2,b3,b4,b5,b6]:=hbm;exact#[bm,ob,b1,b2,oo b3 (Hi b3 (λ z=>by rw[z]at b4;cases b4) λ us n z=>by rw[b6]at z;cases z),b4,b5,b6]
   ·let#[o,vs,file,tf,flags,tg,WN,text,tt,e,e1,e2,r]:=(hT q hq).2.2;exact#[o,vs,file,tf,flags,tg,WN,text,tt,oo e (Hi e (λ z=>by rw[z]at e1;cases e1) λ us n z=>by rw[e2]at z;cases z),e1,e2,r]
  have e0:kJ P w K mg (qQ s₁.heap H) callerA [] s₁ H:=#[rfl,hM,λ b o e=>Ma e,J0 (Ea _ _),trivial,λ b hb=>bi (show b∈([]:List be)from hb) `g,aX,.of_eq hg];refine J4 ((F _ hKb W9).run callerA [] s₁ H #[[.ref a],[]] [.ref a] [.ref a] _ _ hr e0 (pY s₁ `z) (.cons rfl .nil) (DZ H hO hS)) λ r s' h=>?_;cases r with
  |error e=>exact(ZD H e s' h).elim
  |ok fl=>
   cases fl with
   |next=>exact False.elim h
   |brk=>exact False.elim h
   |cont=>exact False.elim h
   |ret u=>
    let#[v,H',os,bare,un,Vu,r',q]:=h;have q':v=.bl true:=q;subst q';obtain rfl:u=Value.bool true:=r';refine#[rfl,#[λ b o e=>?_,λ b o e=>un.there b o e `g],os,bare];cases q:H b with
    |none=>exact .inl (un.keep b o e q (by intro z;exact bi (show b∈([]:List be)from z) `g) `g)
    |some u=>
     rcases hO.1 b with z|⟨ob,xs,z⟩|z
     ·rw[q]at z;cases z
     ·have z2:=un.mz b ob _ z;let#[e1,_]:=aX b _ z;let#[e2,_]:=Vu b _ z2;rw[e]at e1;cases e1;exact .inl e2
     ·let#[more,z2]:=un.mV b _ z;have e1:s₁.heap.get? b>(PySem.W.tabObj ([].toArray)):=aX b _ z;have e2:s'.heap.get? b>PySem.W.tabObj (([].toArray)++more):=Vu b _ z2;rcases hA b (by rw[q];simp)with e'|e'
      ·subst e';rw[ha]at e1;cases e1
      ·let#[t,ht,rfl]:=G7.mp e';rw[e]at e1;cases e1;exact .inr (.inl #[((hT t ht).2.2.tab (hT t ht).1).isCodeTable,rfl,([].toArray),more,rfl,e2])
 cases hk:K.lookup a with
 |some o=>
  have e:=KX a o hk;rw[ha]at e;cases e;refine core (λ b=>if b∈tabs.map (·.2)then some (.lU ([].toArray))else none) #[λ b=>?_,λ t ht=>L1 ht] (.inr #[_,vs.toArray,_,hk,rfl,rfl,rfl,y3>=(Yq>=hl),~~~rv]) (λ b u z=>?_) (λ b z=>?_) λ z=>bi (L7 at') z
  ·by_cases hb:b∈tabs.map (·.2)
   ·exact .inr (.inr (L1 hb))
   ·exact .inl (L7 hb)
  ·by_cases hb:b∈tabs.map (·.2)
   ·have z':=(L1 hb).symm.trans z;cases z';exact(tg b hb).1
   ·have z':=(L7 hb).symm.trans z;cases z'
  ·by_cases hb:b∈tabs.map (·.2)
   ·exact .inr hb
   ·exact bi (L7 hb) z
 |none=>
  refine core (λ b=>if b=a then some (.cQ {cls:=.type "list",data:=.seq vs.toArray} (.lst (ns.map V.int)))else if b∈tabs.map (·.2)then some (.lU ([].toArray))else none) #[λ b=>?_,λ t ht=>?_] (.inl (.inr #[{cls:=.type "list",data:=.seq vs.toArray},L1 rfl])) (λ b u z=>?_) (λ b z=>?_) λ _=>hk
  ·by_cases hb:b=a
   ·exact .inr (.inl #[_,_,L1 hb])
   ·by_cases ht:b∈tabs.map (·.2)
    ·exact .inr (.inr ((L7 hb).trans (L1 ht)))
    ·exact .inl ((L7 hb).trans (L7 ht))
  ·exact(L7 (λ z=>at' (by rw[<- z];exact ht))).trans (L1 ht)
  ·by_cases hb:b=a
   ·have z':=(L1 hb).symm.trans z;cases z';subst hb;exact#[ha,C1>=hl,vs,_,rv,ha]
   ·have z:=(L7 hb).symm.trans z;by_cases ht:b∈tabs.map (·.2)
    ·have z':=(L1 ht).symm.trans z;cases z';exact(tg b ht).1
    ·have z':=(L7 ht).symm.trans z;cases z'
  ·by_cases hb:b=a
   ·exact .inl hb
   ·by_cases ht:b∈tabs.map (·.2)
    ·exact .inr ht
    ·exact bi ((L7 hb).trans (L7 ht)) z
def EU{l:PySem.W.OpenLaw}{n k:Nat}{q:Program}{loose:List Str}{XP:(Str->Option ac)->Heap->Prop}{YP:World->Heap->Prop}{d:DefRec}{K:Params->L8}{CX:World->Ju}{sp:World->Sp}{x:Str}{tabs:List (be×be)}
  (hn:l.most>n) (RW:n<=sizeLine) (VD:d.params.defaults=[]) (hr:cz k callerA)
  (hY:∀(w:World)(h:Heap),YP w h->(K w.params).In h/\∀q∈tabs,h.get? q.2>(PySem.W.tabObj ([].toArray))/\(K w.params).lookup q.2=none/\PySem.W.CodeHd h q.1 q.2)
  (F:∀(w:World)(mg:Str->Option ac)(fa:be)(h:Heap),(K w.params).In h->h.Ns mainGlobals mg->mg d.name>(.ref fa)->
   ∃fd:FuncData,(∀(s:bd)(u:ac),BindsTo s fd #[[u],[]] [(x,u)])/\
    ∀base:Heap,(K w.params).In base->(∀q∈tabs,Jq mg base q.1 q.2)->bS l.prog w (K w.params) mg base (CX w) k fa fd [x] (sp w))
  (DZ:∀(w:World)(H:Hp)(a:be)(ns:List Int),-ns<=n->Cz H (tabs.map (·.2))->fK (K w.params) H a (ns.map V.int)->sp w [.ref a] H (λ v _=>v=.bl true) λ _ _ _=>False)
  (ZD:∀(w:World)(H:Hp)(s:bd)(e:ac)(s':bd),CX w [] H s (λ _ _ _=>False) e s'->False):
  PySem.W.WalkO q loose XP YP l.row.toRowW d [] (λ f vs=>PySem.call f vs):=by
 refine Att.xp hn VD λ w s₀ s₁ mg mb fa o pm cd doc a vs ns G Y ho hd qD Vx Ie hints hlen hg=>?_;let#[KX,hT]:=hY w _ Y;let#[fd,hb,hF]:=F w mg fa _ KX G.T.g Vx;exact DO KX G.T.g G.T.b G.T.builtins G.T.nolimit hg G.T.bmain hT Ie hints (G9 hlen RW) hr hF hb (λ H hO hS=>DZ w H a ns hlen hO hS) λ H e s'=>ZD w H s₁ e s'
section
variable {κ:Type}[DecidableEq κ]{knd:KeyKind prog w κ}
def ma{d:be}{kvs:List (κ×ac)}{k:κ}{key v:ac}(eW:knd.is k key=true)(hm:s.heap.DictOf knd d kvs)(h1:∀u,valueAt kvs k>u->Q u {s with toks:=s.toks+1})(h2:valueAt kvs k=none->∀h',h'.DictOf knd d (stored kvs k v)->Heap.SameBut d s.heap h'->Q v {s with heap:=h',toks:=s.toks+1})(hsz:-kvs<=sizeLine):wpAny `d A (dictSetDefault d key v) Q E s:=by
 let#[o,es,ep,ho,hc,hd,hk,hp,hn]:=hm;have OH:es.size<=sizeLine:=by
  have e1:=-hp;have e2:-es.toList=es.size:=by simp
  lia
 have hf:findBy knd.is es k=valueAt kvs k:=by rw[<- hp.find k];let#[l]:=es;simp[findBy]
 unfold dictSetDefault
 try with_reducible refine D5 ?_
 refine K1 (knd.pyHash eW ?_);refine K1 (wpAny_dictFind_of (s:={s with toks:=s.toks+1}) eW ho hd hk ?_);have Zf:(es.findIdx? λ e=>knd.is k e.key)=kvs.findIdx? λ kv=>decide (kv.1=k):=by rw[<- hp.findIdx k];let#[l]:=es;simp
 cases hi:es.findIdx? λ e=>knd.is k e.key with
 |some i=>
  have W2:valueAt kvs k=(es[i]?).map (·.val):=by rw[<- hf,findBy_of_findIdx?,hi]
  refine K1 (wpAny_dictEntries (s:={s with toks:=s.toks+1}) ho hd ?_);cases he:es[i]? with
  |none=>exfalso;have gm:i<es.size:=(Array.findIdx?_eq_some_iff_findIdx_eq.mp hi).1;rw[c8 gm]at he;exact nomatch he
  |some e=>rw[he]at W2;exact K1 (K4 (K3 (h1 e.val W2)))
 |none=>
  have W2:valueAt kvs k=none:=by rw[<- hf,findBy_of_findIdx?,hi]
  have MR:k∉kvs.map (·.1):=not_mem_of_findIdx_none (Zf▸hi);have VG:¬(kvs.any λ kv=>decide (kv.1=k))=true:=by rw[List.any_eq_true];rintro⟨kv,qC,he⟩;exact MR (G7.mpr #[kv,qC,ii he])
  refine K1 (K4 (K1 (wpAny_updateDictKeys (hz:=OH) (s:={s with toks:=s.toks+1}) ho hd (K3 (h2 W2 _ ⟨_,_,ep+1,j7 _ ho (Obj.isFreed_of_dict (Obj.data_mapDictKeys hd _)),
   hc.mapDictKeys _,Obj.data_mapDictKeys hd _,hk.push eW _,?_,?_⟩ (l8 ..))))))
  ·rw[stored,L7 VG];have:=hp.append eW (knd.hash k) v;let#[l]:=es;simpa using this
  ·rw[stored,L7 VG,C4,nodup_append];refine#[hn,by simp,?_];intro a ha b hb;simp only[D9,J1,q8]at hb;subst hb;exact λ e=>MR (e▸ha)
def tX(d:be){k:κ}{key:ac}(eW:knd.is k key=true)(hd:(d==sysModules)=false)(v:ac):
  MeetsIn prog w (Builtin.«dict.setdefault» #[[.ref d,key,v],[]]) (λ _ R s=>∃kvs,s.heap.DictOf knd d kvs/\-kvs<=sizeLine/\
   (∀u,valueAt kvs k>u->R (.ok (.ret u)) {s with toks:=s.toks+1})/\
   (valueAt kvs k=none->∀h',h'.DictOf knd d (stored kvs k v)->Heap.SameBut d s.heap h'->R (.ok (.ret v)) {s with heap:=h',toks:=s.toks+1})):=
 .of_wp λ A R s ⟨kvs,hm,hz,h1,h2⟩=>by unfold Builtin.«dict.setdefault»;refine K1 ?_;unfold Builtin.Dict.keyAndDefault;refine K1 (wpAny_notOrdered_dict hm.typeIs ?_);show wpAny _ _ (pure (d,key,some v)) _ _ s;refine K3 ?_;show wpAny _ _ (if(d==sysModules)=true then _ else(dictSetDefault d key v>>=_)) _ _ s;rw[L7 (hd>=o8)];exact K1 (ma eW hm (λ u hu=>K3 #[u,rfl,h1 u hu]) (λ hn h' eV fT=>K3 #[v,rfl,h2 hn h' eV fT]) hz)
end
def Lg:V->List V->Hp->VK->Prop:=λ x vs H Q=>∃a kvs k v,x=.ref a/\vs=[kV k,v]/\H a>(.dK kvs)/\-kvs<sizeLine/\(∀u,gW kvs k>u->Q u H)/\(gW kvs k=none->Q v (u8 H a (.dK (putK kvs k v))))
def DI:TF X "dict.setdefault" Lg:=by
 intro im s σ H x xs v us Q I rx rs ⟨a,kvs,k,y,e1,e2,e,hz,q1,q2⟩;subst e1;subst e2;cases(show v=Value.ref a from rx);let#[u,r,rfl,ru,rr]:=vals2 rs;let#[z,hd,vs,rel,dd]:=BN I.aX e;have hv:=rel.val k;refine call_meetsIn PySem.F.slot_dict_setdefault dd.typeIs PySem.F.entry_dict_setdefault (PySem.F.args_dict_setdefault_3 _ _ _) (tX a (pS ru) hd r) #[vs,dd,by rw[<- -rel];exact z,λ u' hu=>?_,λ hn h' xG hs=>?_]
 ·cases ev:gW kvs k with
  |none=>rw[ev]at hv;exact(show False from(by rw[show valueAt vs k>u' from hu]at hv;exact hv)).elim
  |some w=>rw[ev]at hv;rw[show valueAt vs k>u' from hu]at hv;exact#[w,H,I.tok _,hv,q1 w ev]
 ·cases ev:gW kvs k with
  |some w=>rw[ev]at hv;exact(show False from(by rw[show valueAt vs k=none from hn]at hv;exact hv)).elim
  |none=>
   have hl:(putK kvs k y).length<=sizeLine:=by have:=fR kvs k y;lia
   have he:∃q,h'.get? a>q:=let⟨q,_,_,hq,_⟩:=xG;#[q,hq]
   exact#[y,_,ie I (e>=True.intro) hs he (y_ hl hd (rel.put k rr) xG),rr,q2 ev]
def Cg(X:Cx)(cn:List (Str×Nat)):Bool:=cn.all λ p=>X.env.kindOf p.1==some .cell&&X.N[p.2]?==some p.1&&X.fn p.1
def Ja(h:Cg X cn=true):∀x j,(x,j)∈cn->X.env.kindOf x>.cell/\X.N[j]?>x/\X.fn x=true:=λ x j hx=>by have:=A9.mp h _ hx;rw[A2,A2]at this;exact#[~~~this.1.1,~~~this.1.2,this.2]
def Nc(X:Cx)(ns:List (Str×NameKind)):Bool:=ns.all λ y=>y.2 != .free||X.env.kindOf y.1==some .cell||X.env.kindOf y.1==some .free
def Iy{ns:List (Str×NameKind)}(h:Nc X ns=true):∀n,(n,NameKind.free)∈ns->X.env.kindOf n>.cell\/X.env.kindOf n>.free:=λ n hn=>by
 have:=A9.mp h _ hn;rw[ga,ga]at this;rcases this with(h|h)|h
 ·cases h
 ·exact .inl (~~~h)
 ·exact .inr (~~~h)
theorem mR.mono{sp:SK}(h:mR P w K mg base j L ps fv sp)(hk:j<=k):mR P w K mg base k L ps fv sp:=
 #[h.len,λ A outer s H f c cl us vs eu Q hr=>h.run A outer s H f c cl us vs eu Q (hr.mono hk)]
end L2
namespace L3
open PySem.Spec PyProof.Rows L2 L5
section
variable {o:Expr}{t:dG}
def BU:D->List D->Mem->bK->Prop:=λ d ds M Q=>∃a kvs k v,d=.ref a/\ds=[k,v]/\M a>(.bV false kvs)/\iD false k/\-kvs<sizeLine/\(∀u,cL kvs k>u->Q u M)/\(cL kvs k=none->Q v (af M a (.bV false (putD kvs k v))))
def Am(to:bU)(t:dG):bU:=λ δ M Q=>to δ M λ d M1=>(∃a kvs,d=.ref a/\M1 a>(.bV false kvs))/\t δ M1 λ ds M2=>BU d ds M2 Q
def EW(ho:WE X o to)(ha:WA X (e::es) t)(gM:S4 X o "setdefault":=by rfl)(gL:Wh X cR e es:=by rfl)(gJ:SU apos cR:=by rfl)(hs:kB X e es:=by rfl)(hV:uX X cR es:=by rfl):WE X (.Call (.Attribute o "setdefault" apos) (e::es) [] cR) (Am to t):=by
 replace ho:=ho.h;replace ha:=ha.h;refine#[?_];refine bA (Oh PySem.F.plainAttrs_dict PySem.F.slot_dict_setdefault PySem.F.type_dict_setdefault DI ho ha gM gL gJ hs hV) ?_;rintro σ H Q ⟨δ,M,Q2,hs,hm,q,k⟩;refine#[δ,M,_,hs,hm,q,λ x H1 d M1 hd bJ t1 ⟨⟨a,kvs,e,hM⟩,q1⟩=>#[?_,δ,M1,_,hs.mono t1,bJ,q1,λ xs H2 ds M2 Eb kL t2 q2=>?_]]
 ·subst e;cases(az.mp hd);let#[xs,hx,_]:=bJ a _ hM;exact .inr (.inr (.inl #[rfl,.inl #[xs,hx]]))
 ·let#[a',mY,kk,v,e2,e3,R8,#[ky,rfl],hz,q3,q4]:=q2;subst e2;subst e3;cases(az.mp hd);let#[x1,r1,rfl,MU,MH]:=ae.mp Eb;let#[x2,r2,rfl,MF,pV]:=ae.mp MH;cases(ah.mp pV);rw[lK MU];let#[ys,hy,rel]:=kL a' _ R8;have lk:=rel.look ky;refine#[a',ys,ky,x2,rfl,rfl,hy,by rw[<- D7 rel];exact hz,λ u hu=>?_,λ hn=>?_]
  ·rw[hu]at lk;cases el:cL mY (iK ky)with
   |none=>rw[el]at lk;exact(show False from lk).elim
   |some d'=>rw[el]at lk;exact k _ H2 d' M2 lk kL (t1.trans t2) (q3 d' el)
  ·rw[hn]at lk;cases el:cL mY (iK ky)with
   |some d'=>rw[el]at lk;exact(show False from lk).elim
   |none=>have t:=ao.mut (o:=.dK (putK ys ky x2)) hy (λ _ z=>by cases z) (λ _ _ z=>by cases z);exact k _ _ _ _ (sB.mono t _ MF) (kL.put (u:=.bV false (putD mY (iK ky) v)) t #[_,aH,(rel.put ky MF).mono t]) ((t1.trans t2).trans t) (q4 el)
end
end L3
namespace L4
open L2 L3
def Du{t:dG}{Q:bK}(h:to δ M λ d M1=>(∃a kvs,d=.ref a/\M1 a>(.bV false kvs))/\t δ M1 λ ds M2=>BU d ds M2 Q):Am to t δ M Q:=h
end L4
namespace L2
open PySem.Spec PySem.W PyProof.Rows L5
def QH{t u:TE}(h:PE X e t)(g:PE X e u):PE X e (λ σ H Q=>t σ H Q\/u σ H Q):=λ im s σ H Q I q=>q.elim (h im s σ H Q I) (g im s σ H Q I)
def DC{k v:Expr}{tk tv:TE}{pos:Pos}(hk:PE X k tk)(hv:PE X v tv):PE X (.Dict [some k] [v] pos) (λ σ H Q=>∀p,H p=none->tk σ (u8 H p (.dK [])) λ x H1=>tv σ H1 λ y H2=>∃ky,x=kV ky/\H2 p>(.dK [])/\Q `j (u8 H2 p (.dK (putK [] ky y)))):=by
 intro im s σ H Q I h;refine wpAny_Dict_any rfl rfl `g `g ?_;have I0:nn X im σ (u8 H s⁻¹ (.dK [])) {s with heap:=s.heap.push {cls:=.type "dict",data:=.dict ([].toArray)}}:=I.laid (a:=s⁻¹) (o:=.dK []) (t':=s.toks) (λ _ _ q=>j4 _ q) `G (wO s.heap I.big);refine pairTrees_cons_walk (cZ (hk im _ σ _ _ I0 (h _ (I.aX.fresh `G))) λ kv s1 ⟨x,H1,I1,r1,q1⟩=>cZ (hv im s1 σ H1 _ I1 q1) λ vv s2 ⟨y,H2,I2,r2,q2⟩=>pairTrees_nil_walk ?_);let#[ky,rfl,hp,q]:=q2;generalize s⁻¹=p at*;let#[z,nm,xs,rel,dd]:=BN I2.aX hp;cases rel;have lG:(putK [] ky y).length<=sizeLine:=by have:=fR [] ky y;exact G9 this `c
 unfold storeAll;rw[C8];refine K1 (K1 (wpAny_dictSet_pairs (hsz:=J9 _) (pS r1) dd λ h' xG hs=>K3 ?_));dsimp only;rw[forIn_nil];have he:∃q,h'.get? p>q:=let⟨q,_,_,hq,_⟩:=xG;#[q,hq]
 exact K3 #[.ref p,_,ie I2 (hp>=True.intro) hs he (y_ lG nm (KV.put .nil ky r2) xG),rfl,q]
end L2
namespace L3
open PySem.Spec L2 L5 PyProof.Rows
def FP(tk tv:bU):bU:=λ δ M Q=>∃t:Bool,∀p,M p=none->tk δ (af M p (.bV t [])) λ x M1=>tv δ M1 λ y M2=>M2 p>(.bV t [])/\iD t x/\Q `j (af M2 p (.bV t [(x,y)]))
def zR{k v:Expr}{tk tv:bU}{pos:Pos}(hu:e_ X)(hk:WE X k tk)(hv:WE X v tv):WE X (.Dict [some k] [v] pos) (FP tk tv):=by
 replace hk:=hk.h;replace hv:=hv.h;refine#[?_];refine bA (QH (Lh (pos:=pos) hu hk hv) (DC (pos:=pos) hk hv)) ?_;rintro σ H Q ⟨δ,M,Q2,hs,hm,⟨t,q⟩,k⟩;cases t with
 |true=>exact .inl #[δ,M,Q2,hs,hm,q,k]
 |false=>refine .inr λ p hp=>?_;have t0:ao H (u8 H p (.dK [])):=ao.laid hp;refine#[δ,af M p (.bV false []),_,hs.mono t0,hm.put (u:=.bV false []) t0 #[[],aH,.nil],q p (hm.free hp),λ x H1 d M1 hd bJ t1 q1=>?_];refine#[δ,M1,_,(hs.mono t0).mono t1,bJ,q1,λ y H2 e M2 he kL t2 q2=>?_];let#[h_,#[ky,rfl],q2]:=q2;let#[xs,hx,rel]:=kL p _ h_;cases rel;have t:=ao.mut (o:=.dK (putK [] ky y)) hx (λ _ z=>by cases z) (λ _ _ z=>by cases z);exact#[ky,lK hd,hx,k _ _ _ _ (az.mpr rfl) (kL.put (u:=.bV false [(iK ky,e)]) t #[_,aH,((Jt.put (kvs:=[]) .nil ky he):Jt X.K H2 [(iK ky,e)] (putK [] ky y)).mono t]) ((t0.trans t1).trans (t2.trans t)) q2]
end L3
namespace L4
open PySem.Spec L2 L3 L5
def vJ{tk tv:bU}{Q:bK}(t:Bool)(h:∀p,M p=none->tk δ (af M p (.bV t [])) λ x M1=>tv δ M1 λ y M2=>M2 p>(.bV t [])/\iD t x/\Q `j (af M2 p (.bV t [(x,y)]))):FP tk tv δ M Q:=#[t,h]
end L4
namespace L2
open PySem.Spec PyProof.Rows
def dN(ps fv:List Str)(sc:Scope):Bool:=sc.kind==.function&&!sc.isCoroutine&&!sc.isGenerator&&(ps.all λ x=>sc.names.lookup x==some .local)&&(fv.all λ x=>sc.names.lookup x==some .free)&&sc.names.all λ y=>y.2 != .cell&&(y.2 != .free||fv.contains y.1)
def Hq{sc:Scope}(h:dN ps fv sc=true)(nd:(ps++fv).Nodup):lS ps fv sc:=by unfold dN at h;simp only[A2,A9]at h;let#[#[#[#[#[h1,h2],h3],h4],h5],h6]:=h;refine#[~~~h1,~~~h2,~~~h3,nd,λ x hx=>by simpa using h4 x hx,λ y hy=>by simpa using(h6 y hy).1,λ x hx=>by simpa using h5 x hx,λ x hx=>?_];have:=(h6 _ (m7 hx)).2;simpa using this
def Jj{args:Args}{binds:List (Str×ac)}{T:be}{li:Array ac}{k:Option (Array ac)->Sem (List (Str×ac))}(hk:K.In s.heap)(hd:fd.defaults=.ref T)(l:K.lookup T>o)(hs:o.data=.seq li n)(h1:bindArgs fd args=seqItems? fd.defaults>>=k)(h2:k (some li)=pure binds):BindsTo s fd args binds:=.of_defaults hd (hk _ _ l) hs h1 h2
end L2
namespace L3
open L2
def IM{C:CM}(h:∀b o,ip M C b>o->M' b>o)(n:∀b d,C b>d->M b=none):∀b o,M b>o->fF M' C b>o:=λ b o e=>by
 rcases dv C b with z|⟨d,z⟩
 ·rw[nZ z];exact h b o (lN z>=e)
 ·rw[n b d z]at e;cases e
end L3
namespace L2
def jT.zC(F:jT K x qual st dV c f fd)(h:∀(kV doc pm:ac)(an:Option be)(ct:ac)(s:bd),K.In s.heap->∀(us:List ac),-us=-ps->BindsTo s `F #[us,[]] (ps.zip us)):Binds K fd ps []:=
 F.binds λ kV doc pm an ct s hk us hl=>by rw[B1]at hl ⊢;exact h kV doc pm an ct s hk us hl
end L2
namespace KK
abbrev Cs:=List Nat
def inc:Cs->Nat->Cs
 |[],_=>[]
 |a::as,0=>(a+1)::as
 |a::as,l+1=>a::inc as l
theorem eU:∀(p:Cs)(l:Nat),(inc p l).length=-p
 |[],_=>rfl
 |a::as,0=>rfl
 |a::as,l+1=>by show(inc as l).length+1=_;rw[eU as l];rfl
theorem eT:∀{p:Cs} {l:Nat},l< -p->(inc p l).sum=p.sum+1
 |a::as,0,_=>by show a+1+as.sum=a+as.sum+1;lia
 |a::as,l+1,h=>by have:=eT (p:=as) (l:=l) (~~~h);show a+(inc as l).sum=a+as.sum+1;lia
def wb:Cs->Cs->Prop
 |a::as,b::bs=>b<a\/(a=b/\wb as bs)
 |_,_=>False
theorem jH:∀p:Cs,¬wb p p
 |[],h=>h
 |a::as,h=>h.elim (λ h=>D8 _ h) λ h=>jH as h.2
theorem mw:∀{p q r:Cs},wb p q->wb q r->wb p r
 |a::as,b::bs,c::cs,h,g=>by
  rcases h with h|⟨rfl,h⟩
  ·rcases g with g|⟨rfl,g⟩
   ·exact .inl ()
   ·exact .inl h
  ·rcases g with g|⟨rfl,g⟩
   ·exact .inl g
   ·exact .inr #[rfl,mw h g]
 |[],_,_,h,_=>h.elim
 |_::_,[],_,h,_=>h.elim
 |_::_,_::_,[],_,g=>g.elim
theorem A_:∀{p q:Cs},-p=-q->p=q\/wb p q\/wb q p
 |[],[],_=>.inl rfl
 |a::as,b::bs,h=>by
  rcases Nat.lt_trichotomy a b with z|z|z
  ·exact .inr (.inr (.inl z))
  ·subst z;rcases A_ (p:=as) (q:=bs) (~~~h)with e|e|e
   ·exact .inl (by rw[e])
   ·exact .inr (.inl (.inr #[rfl,e]))
   ·exact .inr (.inr (.inr #[rfl,e]))
  ·exact .inr (.inl (.inl z))
theorem Bc:∀{p q:Cs} {l:Nat},wb p q->wb (inc p l) (inc q l)
 |a::as,b::bs,0,h=>by
  rcases h with h|⟨rfl,h⟩
  ·exact .inl ()
  ·exact .inr #[rfl,h]
 |a::as,b::bs,l+1,h=>by
  rcases h with h|⟨rfl,h⟩
  ·exact .inl h
  ·exact .inr #[rfl,Bc h]
 |[],_,_,h=>h.elim
 |_::_,[],_,h=>h.elim
theorem wa:∀{p:Cs} {i j:Nat},i<j->i< -p->wb (inc p i) (inc p j)
 |a::as,0,j+1,_,_=>.inl ()
 |a::as,i+1,j+1,h,g=>.inr #[rfl,wa () (~~~g)]
def zb(p:Cs)(l:Nat):Prop:=∀j,l<j->p.getD j 0=0
def TJ{a:Nat}{as:Cs}{l:Nat}(h:zb (a::as) (l+1)):zb as l:=λ j g=>by
 have:=h (j+1) ()
 rwa [getD_cons_succ]at this
theorem TK:∀{as:Cs},(∀j,as.getD j 0=0)->as.sum=0
 |[],_=>rfl
 |a::as,h=>by
  have h0:=h 0;rw[getD_cons_zero]at h0;have:=TK (as:=as) λ j=>by have:=h (j+1);rwa [getD_cons_succ]at this
  show a+as.sum=0;lia
theorem Ot:∀{p q:Cs},p.sum=0->¬wb p q
 |a::as,b::bs,h,g=>by
  have h:a+as.sum=0:=h;rcases g with g|⟨rfl,g⟩
  ·lia
  ·exact Ot () g
 |[],_,_,h=>h.elim
 |_::_,[],_,h=>h.elim
theorem Ba:∀{a p:Cs} {h l:Nat},wb a p->a.sum=p.sum->zb p l->wb (inc a h) (inc p l)
 |a::as,b::bs,h,0,g,e,z=>by
  have e:a+as.sum=b+bs.sum:=e;have:bs.sum=0:=TK λ j=>by have:=z (j+1) ();rwa [getD_cons_succ]at this
  rcases g with g|⟨rfl,g⟩
  ·lia
  ·exact bi g (Ot ())
 |a::as,b::bs,h,l+1,g,e,z=>by
  have e:a+as.sum=b+bs.sum:=e;cases h with
  |zero=>exact .inl (by rcases g with g|g<;>lia)
  |succ h=>
   rcases g with g|⟨rfl,g⟩
   ·exact .inl g
   ·exact .inr #[rfl,Ba g () (TJ z)]
 |[],_,_,_,h,_,_=>h.elim
 |_::_,[],_,_,h,_,_=>h.elim
def Ah(p q:Cs):Prop:=p.sum<q.sum\/(p.sum=q.sum/\wb p q)
def Ah.Yy{p:Cs}(h:Ah p p):False:=h.elim (λ h=>D8 _ h) λ h=>jH _ h.2
def Ah.trans{p q r:Cs}(h:Ah p q)(g:Ah q r):Ah p r:=by
 rcases h with h|⟨e,h⟩
 ·rcases g with g|⟨f,g⟩
  ·exact .inl ()
  ·exact .inl ()
 ·rcases g with g|⟨f,g⟩
  ·exact .inl ()
  ·exact .inr #[(),mw h g]
def Ah.not{p q:Cs}(h:Ah p q)(g:Ah q p):False:=(h.trans g).Yy
def Ah.Xs{p q:Cs}(h:-p=-q):p=q\/Ah p q\/Ah q p:=by
 rcases Nat.lt_trichotomy p.sum q.sum with z|z|z
 ·exact .inr (.inl (.inl z))
 ·rcases A_ h with e|e|e
  ·exact .inl e
  ·exact .inr (.inl (.inr #[z,e]))
  ·exact .inr (.inr (.inr #[z.symm,e]))
 ·exact .inr (.inr (.inl z))
theorem Ah.inc{p q:Cs}{l:Nat}(h:Ah p q)(hp:l< -p)(hq:l< -q):Ah (inc p l) (inc q l):=by
 have a:=eT hp;have b:=eT hq;rcases h with h|⟨e,h⟩
 ·exact .inl ()
 ·exact .inr #[(),Bc h]
def Ah.par{a p:Cs}{h l:Nat}(g:Ah a p)(z:zb p l)(hh:h< -a)(hl:l< -p):Ah (KK.inc a h) (KK.inc p l):=by
 have x:=eT hh;have y:=eT hl;rcases g with g|⟨e,g⟩
 ·exact .inl ()
 ·exact .inr #[(),Ba g e z]
def Ah.Yz{p:Cs}(h:i<j)(hj:j< -p):Ah (KK.inc p i) (KK.inc p j):=
 .inr #[by rw[eT hj,eT ()],wa h ()]
theorem lastOf:∀{q:Cs},0<q.sum->∃p l,l< -q/\-p=-q/\q=inc p l/\zb p l
 |[],h=>bi h `c
 |c::cs,h=>by
  have h:0<c+cs.sum:=h;by_cases z:cs.sum=0
  ·refine#[(c-1)::cs,0,by simp,by simp,?_,λ j hj=>?_]
   ·show c::cs=(c-1+1)::cs;rw[show c-1+1=c by lia]
   ·obtain⟨j,rfl⟩:∃k,j=k+1:=#[j-1,()];rw[getD_cons_succ,b8];cases e:cs[j]? with
    |none=>rfl
    |some v=>
     have hv:=k9 e;have:∀{xs:Cs},xs.sum=0->∀v∈xs,v=0:=λ{xs}=>by
      induction xs with
      |nil=>intro _ v hv;cases hv
      |cons x xs ih=>
       intro h v hv;have h:x+xs.sum=0:=h;rcases E8.mp hv with rfl|hv
       ·lia
       ·exact ih () v hv
     exact this z v hv
  ·let#[p,l,hl,hp,e,zz]:=lastOf (q:=cs) ();refine#[c::p,l+1,by simp;lia,by simp[hp],by rw[e];rfl,λ j hj=>?_];obtain⟨j,rfl⟩:∃k,j=k+1:=#[j-1,()];rw[getD_cons_succ];exact zz j ()
def xF(T:Nat):List Nat:=(List.range (T+1)).map (T - ·)
def bz:Nat->Nat->List Cs
 |0,T=>if T=0 then[[]]else[]
 |k+1,T=>(xF T).flatMap λ n=>(bz k (T-n)).map (n::·)
def AX{T:Nat}:n∈xF T↔n<=T:=by
 unfold xF;rw[G7];constructor
 ·rintro⟨a,_,rfl⟩;lia
 ·intro h;exact#[T-n,ce.mpr (),()]
set_option tactic.hygienic true in
theorem bQ:∀{k T:Nat} {p:Cs},p∈bz k T↔p.length=k/\p.sum=T
 |0,T,p=>by
  unfold bz;split
  ·rename_i h;subst h;rw[q8];exact#[λ h=>by subst h;exact#[rfl,rfl],λ h=>j0.mp h.1]
  ·rename_i h;refine#[λ h=>(by cases h),λ g=>?_];have:=j0.mp g.1;subst this;exact bi g.2.symm h
 |k+1,T,p=>by
  unfold bz;rw[mem_flatMap];constructor
  ·rintro⟨n,hn,h⟩;rw[G7]at h;let#[r,hr,rfl]:=h;rw[bQ]at hr;rw[AX]at hn;refine#[by simp[hr.1],?_];show n+r.sum=T;lia
  ·rintro⟨hl,hs⟩;cases p with
   |nil=>cases hl
   |cons n r=>have hs:n+r.sum=T:=hs;refine#[n,AX.mpr (),G7.mpr #[r,bQ.mpr #[~~~hl,()],rfl]]
def Qg(T:Nat):(xF T).Pairwise (GT.gt · ·):=by unfold xF;rw[pairwise_map];have h:(List.range (T+1)).Pairwise (· < ·):=pairwise_lt_range;refine List.Pairwise.imp_of_mem (λ{a b} ha hb OK=>?_) h;rw[ce]at hb;show T-b<T-a;lia
theorem k_:∀(k T:Nat),(bz k T).Pairwise wb
 |0,T=>by unfold bz;split<;>simp
 |k+1,T=>by
  unfold bz;rw[pairwise_flatMap];refine#[λ n _=>?_,?_]
  ·rw[pairwise_map];exact(k_ k (T-n)).imp λ h=>.inr #[rfl,h]
  ·refine(Qg T).imp λ{a b} h x hx y hy=>?_;rw[G7]at hx hy;let#[r,_,rfl]:=hx;let#[s,_,rfl]:=hy;exact .inl h
def zX(T:Nat):bz 1 T=[[T]]:=by
 have h1:∀p∈bz 1 T,p=[T]:=λ p hp=>by
  rw[bQ]at hp
  match p,hp with
  |[a],hp=>rw[show a=T from by simpa using hp.2]
 have h2:[T]∈bz 1 T:=bQ.mpr #[rfl,by simp];have h3:=k_ 1 T;generalize bz 1 T=l at*
 match l,h1,h2,h3 with
 |[a],h1,_,_=>rw[h1 a `g]
 |a::b::c,h1,_,h3=>have ha:=h1 a `g;have hb:=h1 b `g;subst ha;subst hb;exact bi ((pairwise_cons.mp h3).1 _ `g) (jH _)
theorem je{β:Type}{f:α->List β}{m:Nat}:∀{l:List α},(∀x∈l,(f x).length<=m)->(l.flatMap f).length<=-l*m
 |[],_=>by simp
 |a::l,h=>by rw[flatMap_cons,p4,y9,Nat.succ_mul];have:=h a `g;have:=je (f:=f) (m:=m) (l:=l) λ x hx=>h x (k8 _ hx);lia
theorem rH{B:Nat}:∀{k T:Nat},T<B->(bz (k+1) T).length<=B^k
 |0,T,h=>by rw[zX];simp
 |k+1,T,h=>by
  unfold bz;have:=je (f:=λ n=>(bz (k+1) (T-n)).map (n::·)) (m:=B^k) (l:=xF T) λ n hn=>C1>=rH ()
  refine G9 this ?_;unfold xF;rw[C1,x9,Nat.pow_succ,Nat.mul_comm];exact Nat.mul_le_mul_left _ ()
def qY(h T:Nat):List Cs:=(List.range T).flatMap (bz h)
def fA{h T:Nat}{p:Cs}:p∈qY h T↔p.length=h/\p.sum<T:=by
 unfold qY;rw[mem_flatMap];constructor
 ·rintro⟨n,hn,hp⟩;rw[bQ]at hp;rw[ce]at hn;exact#[hp.1,()]
 ·rintro⟨a,b⟩;exact#[p.sum,ce.mpr b,bQ.mpr #[a,rfl]]
def Lj(h T:Nat):(qY h T).Pairwise Ah:=by
 unfold qY;rw[pairwise_flatMap];refine#[λ n _=>?_,?_]
 ·refine List.Pairwise.imp_of_mem (λ{a b} ha hb OK=>?_) (k_ h n);rw[bQ]at ha hb;exact .inr #[(),OK]
 ·refine(pairwise_lt_range (n:=T)).imp λ{a b} h x hx y hy=>?_;rw[bQ]at hx hy;exact .inl ()
def Et(h T:Nat):qY h (T+1)=qY h T++bz h T:=by unfold qY;rw[range_succ,flatMap_append,flatMap_singleton]
theorem vL{R:α->α->Prop}{Q:α->Prop}:∀{l:List α},l.Pairwise R->(∃x∈l,Q x)->∃x∈l,Q x/\∀y∈l,Q y->y=x\/R x y
 |[],_,h=>by let#[x,hx,_]:=h;cases hx
 |a::l,hp,h=>by
  rw[pairwise_cons]at hp;by_cases ha:Q a
  ·refine#[a,by simp,ha,λ y hy _=>?_];rcases E8.mp hy with z|z
   ·exact .inl z
   ·exact .inr (hp.1 y z)
  ·let#[x,hx,hq,hm]:=vL hp.2 (by
    let#[x,hx,hq]:=h;rcases E8.mp hx with rfl|z
    ·exact bi hq ha
    ·exact#[x,z,hq])
   refine#[x,k8 _ hx,hq,λ y hy DX=>?_];rcases E8.mp hy with rfl|z
   ·exact bi DX ha
   ·exact hm y z DX
def dA{α:Type}(f:α->α):Nat->α->α
 |0,x=>x
 |n+1,x=>dA f n (f x)
theorem lF(f:α->α):∀(n:Nat)(x:α),dA f (n+1) x=f (dA f n x)
 |0,x=>rfl
 |n+1,x=>by show dA f (n+1) (f x)=_;rw[lF f n];rfl
def bj{α:Type}(F:Nat->α->α):Nat->α->Cs->α
 |_,s,[]=>s
 |i,s,c::cs=>bj F (i+1) (dA (F i) c s) cs
structure jP{α:Type}(S:α->Prop)(h:Nat)(F:Nat->α->α):Prop where
 cl:∀s i,i<h->S s->S (F i s)
 cm:∀s i j,i<h->j<h->S s->F i (F j s)=F j (F i s)
section
variable {S:α->Prop}{h:Nat}{F:Nat->α->α}
theorem jP.dA(C:jP S h F)(hi:i<h):∀(n:Nat)(s:α),S s->S (dA (F i) n s)
 |0,s,hs=>hs
 |n+1,s,hs=>C.dA hi n _ (C.cl s i hi hs)
theorem jP.yJ(C:jP S h F)(hi:i<h)(hj:j<h):∀(n:Nat)(s:α),S s->KK.dA (F i) n (F j s)=F j (KK.dA (F i) n s)
 |0,s,hs=>rfl
 |n+1,s,hs=>by show KK.dA (F i) n (F i (F j s))=F j (KK.dA (F i) n (F i s));rw[C.cm s i j hi hj hs,C.yJ hi hj n _ (C.cl s i hi hs)]
theorem jP.bj(C:jP S h F):∀(cs:Cs)(i:Nat)(s:α),i+-cs<=h->S s->S (bj F i s cs)
 |[],i,s,_,hs=>hs
 |c::cs,i,s,hl,hs=>by rw[y9]at hl;exact C.bj cs (i+1) _ () (C.dA () _ _ hs)
theorem jP.Se(C:jP S h F)(hj:j<h):∀(cs:Cs)(i:Nat)(s:α),i+-cs<=h->S s->KK.bj F i (F j s) cs=F j (KK.bj F i s cs)
 |[],i,s,_,hs=>rfl
 |c::cs,i,s,hl,hs=>by rw[y9]at hl;show KK.bj F (i+1) (KK.dA (F i) c (F j s)) cs=F j (KK.bj F (i+1) (KK.dA (F i) c s) cs);rw[C.yJ () hj c s hs,C.Se hj cs (i+1) _ () (C.dA () _ _ hs)]
theorem jP.inc(C:jP S h F):∀(cs:Cs)(i l:Nat)(s:α),i+-cs<=h->l< -cs->S s->KK.bj F i s (KK.inc cs l)=F (i+l) (KK.bj F i s cs)
 |c::cs,i,0,s,hl,_,hs=>by rw[y9]at hl;show KK.bj F (i+1) (KK.dA (F i) (c+1) s) cs=F i (KK.bj F (i+1) (KK.dA (F i) c s) cs);rw[lF,C.Se () cs (i+1) _ () (C.dA () _ _ hs)]
 |c::cs,i,l+1,s,hl,hc,hs=>by rw[y9]at hl hc;show KK.bj F (i+1) (KK.dA (F i) c s) (KK.inc cs l)=F (i+(l+1)) (KK.bj F (i+1) (KK.dA (F i) c s) cs);rw[C.inc cs (i+1) l _ () () (C.dA () _ _ hs),show i+1+l=i+(l+1) by lia]
def fZ(F:Nat->α->α)(s0:α)(h:Nat)(p:Cs):Prop:=-p=h/\∀q:Cs,-q=h->Ah q p->bj F 0 s0 q≠bj F 0 s0 p
def fZ.uniq{s0:α}{p q:Cs}(a:fZ F s0 h p)(b:fZ F s0 h q)(e:bj F 0 s0 p=bj F 0 s0 q):p=q:=by
 rcases Ah.Xs (p:=p) (q:=q) (by rw[a.1,b.1])with z|z|z
 ·exact z
 ·exact bi e (b.2 p a.1 z)
 ·exact bi e.symm (a.2 q b.1 z)
def fZ.ex(F:Nat->α->α)(s0:α)(h:Nat){p:Cs}(hp:-p=h):∃q,fZ F s0 h q/\bj F 0 s0 q=bj F 0 s0 p/\(p=q\/Ah q p):=by
 let#[q,hq,e,hm]:=vL (Q:=λ q=>bj F 0 s0 q=bj F 0 s0 p) (Lj h (p.sum+1)) #[p,fA.mpr #[hp,()],rfl];have YX:=fA.mp hq;refine#[q,#[YX.1,λ r hr ha er=>?_],e,hm p (fA.mpr #[hp,()]) rfl];have hs:r.sum<=q.sum:=by rcases ha with z|z<;>lia
 rcases hm r (fA.mpr #[hr,()]) (er.trans e)with z|z
 ·subst z;exact ha.Yy
 ·exact ha.not z
def fZ.dn(C:jP S h F){s0:α}(h0:S s0){p:Cs}{l:Nat}(hl:l< -p)(a:fZ F s0 h (KK.inc p l)):fZ F s0 h p:=by
 have hp:-p=h:=by rw[<- eU p l];exact a.1
 refine#[hp,λ q hq ha e=>?_];refine a.2 (KK.inc q l) (eU>=hq) (ha.inc () hl) ?_;rw[C.inc q 0 l s0 () () h0,C.inc p 0 l s0 () hl h0,e]
def gs(h:Nat):Cs:=List.replicate h 0
theorem ox:∀{p:Cs},p.sum=0->p=gs (-p)
 |[],_=>rfl
 |a::as,e=>by have e:a+as.sum=0:=e;have:=ox (p:=as) ();show a::as=List.replicate (-as+1) 0;rw[m8,show a=0 by lia];exact K8 _ this
def jy(h:Nat):(gs h).sum=0:=by unfold gs;simp
theorem fU(F:Nat->α->α)(s:α):∀(h i:Nat),bj F i s (gs h)=s
 |0,i=>rfl
 |h+1,i=>by show bj F (i+1) s (gs h)=s;exact fU F s h (i+1)
theorem fZ.gs(F:Nat->α->α)(s0:α)(h:Nat):fZ F s0 h (gs h):=by
 refine#[by simp[KK.gs],λ q hq ha=>?_];rcases ha with z|z
 ·rw[jy]at z;lia
 ·rw[jy]at z;have:=ox z.1;rw[hq]at this;rw[this]at z;exact bi z.2 (jH _)
def fZ.par(C:jP S h F){s0:α}(h0:S s0){q:Cs}(a:fZ F s0 h q)(hz:q≠KK.gs h):∃p l,l<h/\-p=h/\q=KK.inc p l/\zb p l/\fZ F s0 h p/\p.sum<q.sum:=by
 have hs:0<q.sum:=Nat.pos_of_ne_zero λ z=>hz (by have:=ox z;rwa [a.1]at this);let#[p,l,hl,hp,e,z]:=lastOf hs;have lG:l< -p:=()
 subst e;refine#[p,l,by rw[<- a.1];exact hl,hp>=a.1,rfl,z,a.dn C h0 lG,by rw[eT lG];lia]
structure zI(F:Nat->α->α)(s0:α)(h:Nat)(kt:List (Cs×α)):Prop where
 ent:∀e∈kt,fZ F s0 h e.1/\bj F 0 s0 e.1=e.2
 Ud:(kt.map (·.1)).Pairwise Ah
 low:∀q,fZ F s0 h q->q∉kt.map (·.1)->∀k∈kt.map (·.1),Ah k q
 iH:kt[0]?>(KK.gs h,s0)
structure uY(F:Nat->α->α)(s0:α)(h:Nat)(kt:List (Cs×α))(d i:Nat):Prop where
 gI:zI F s0 h kt
 up:∀q p l,fZ F s0 h q->q∉kt.map (·.1)->q=KK.inc p l->-p=h->l<h->zb p l->∀j e,kt[j]?>e->e.1=p->d<j\/(j=d/\i<=l)
def uY.start(F:Nat->α->α)(s0:α)(h:Nat):uY F s0 h [(KK.gs h,s0)] 0 0:=by
 refine#[#[λ e he=>?_,by simp,λ q hq hn k hk=>?_,rfl],λ q p l _ _ _ _ _ _ j e hj _=>?_]
 ·rw[q8.mp he];exact#[fZ.gs F s0 h,fU F s0 h 0]
 ·rw[map_singleton,q8]at hk hn;subst hk;rcases Ah.Xs (p:=q) (q:=KK.gs h) (by rw[hq.1];simp[KK.gs])with z|z|z
  ·exact bi z hn
  ·rcases z with z|z
   ·rw[jy]at z;lia
   ·rw[jy]at z;have:=ox z.1;rw[hq.1]at this;exact bi this hn
  ·exact z
 ·cases j with
  |zero=>exact .inr #[rfl,()]
  |succ j=>exact .inl ()
def uY.turn{s0:α}{kt:List (Cs×α)}{d:Nat}(b:uY F s0 h kt d h):uY F s0 h kt (d+1) 0:=
 ⟨b.gI,λ q p l hq hn e hp hl hz j x hj hx=>by
  rcases b.up q p l hq hn e hp hl hz j x hj hx with z|z
  ·by_cases g:j=d+1
   ·exact .inr #[g,()]
   ·exact .inl ()
  ·lia⟩
theorem zI.at{s0:α}{kt:List (Cs×α)}(b:zI F s0 h kt){x y:Cs×α}(hi:kt[i]?>x)(hj:kt[j]?>y)(l:i<j):Ah x.1 y.1:=by
 have um:(kt.map (·.1))[i]?>x.1:=by rw[w6,hi];rfl
 have Ti:(kt.map (·.1))[j]?>y.1:=by rw[w6,hj];rfl
 let#[a,ha]:=g9.mp um;let#[c,hc]:=g9.mp Ti;have:=pairwise_iff_getElem.mp b.Ud i j a c l;rw[ha,hc]at this;exact this
def uY.next(C:jP S h F){s0:α}(h0:S s0){kt:List (Cs×α)}{d:Nat}(b:uY F s0 h kt d i)(hi:i<h){a:Cs}{s:α}(hd:kt[d]?>(a,s)){q:Cs}(hq:fZ F s0 h q)(hn:q∉kt.map (·.1)):q=KK.inc a i\/Ah (KK.inc a i) q:=by
 have hz:q≠KK.gs h:=λ z=>hn (by
  rw[G7];exact#[_,k9 b.gI.iH,z.symm])
 have ha:=(b.gI.ent _ (k9 hd)).1;have W6:-a=h:=ha.1;let#[p,l,hl,hp,e,z,fp,_]:=hq.par C h0 hz;subst e;have key:Ah a p->Ah (KK.inc a i) (KK.inc p l):=λ g=>g.par z () ();by_cases hm:p∈kt.map (·.1)
 ·let#[x,hx,rfl]:=G7.mp hm;let#[j,hj]:=ci hx;rcases b.up _ x.1 l hq hn rfl hp hl z j x hj rfl with g|⟨rfl,g⟩
  ·exact .inr (key (b.gI.at hd hj g))
  ·rw[hd]at hj;cases hj;by_cases e:i=l
   ·exact .inl (by rw[e])
   ·exact .inr (Ah.Yz () ())
 ·exact .inr (key (b.gI.low p fp hm a (G7.mpr #[_,k9 hd,rfl])))
def uY.old(C:jP S h F){s0:α}(h0:S s0){kt:List (Cs×α)}{d:Nat}(b:uY F s0 h kt d i)(hi:i<h){a:Cs}{s:α}(hd:kt[d]?>(a,s))(hk:F i s∈kt.map (·.2)):uY F s0 h kt d (i+1):=by
 refine#[b.gI,λ q p l hq hn e hp hl hz j x hj hx=>?_];have ha:=b.gI.ent _ (k9 hd);have W6:-a=h:=ha.1.1;rcases b.up q p l hq hn e hp hl hz j x hj hx with z|⟨rfl,z⟩
 ·exact .inl z
 ·refine .inr #[rfl,?_];by_cases g:i=l
  ·exfalso;subst g;rw[hd]at hj;cases hj;subst hx;let#[y,hy,ey]:=G7.mp hk;have DX:=b.gI.ent y hy;refine hn (G7.mpr #[y,hy,DX.1.uniq hq ?_]);rw[DX.2,ey,e,C.inc a 0 i s0 () () h0,ha.2,H9]
  ·lia
def uY.new(C:jP S h F){s0:α}(h0:S s0){kt:List (Cs×α)}{d:Nat}(b:uY F s0 h kt d i)(hi:i<h){a:Cs}{s:α}(hd:kt[d]?>(a,s))(hk:F i s∉kt.map (·.2)):uY F s0 h (kt++[(KK.inc a i,F i s)]) d (i+1):=by
 have ha:=b.gI.ent _ (k9 hd);have W6:-a=h:=ha.1.1;have hc:bj F 0 s0 (KK.inc a i)=F i s:=by rw[C.inc a 0 i s0 () () h0,ha.2,H9]
 have vc:(KK.inc a i).length=h:=eU>=W6
 have fc:fZ F s0 h (KK.inc a i):=by
  let#[q,fq,e,hq]:=fZ.ex F s0 h vc;have hn:q∉kt.map (·.1):=λ hm=>by let#[y,hy,rfl]:=G7.mp hm;refine hk (G7.mpr #[y,hy,?_]);rw[<- (b.gI.ent y hy).2,e,hc]
  rcases b.next C h0 hi hd fq hn with z|z
  ·rw[<- z];exact fq
  ·rcases hq with g|g
   ·rw[g];exact fq
   ·exact(z.not g).elim
 have sj:KK.inc a i∉kt.map (·.1):=λ hm=>by let#[y,hy,e]:=G7.mp hm;exact hk (G7.mpr #[y,hy,by rw[<- (b.gI.ent y hy).2,e,hc]])
 have Tp:d< -kt:=(g9.mp hd).1;refine#[#[λ e he=>?_,?_,λ q fq hn k Ii=>?_,?_],λ q p l hq hn e hp hl hz j x hj hx=>?_]
 ·rcases C3.mp he with z|z
  ·exact b.gI.ent e z
  ·rw[q8.mp z];exact#[fc,hc]
 ·rw[C4,pairwise_append];refine#[b.gI.Ud,by simp,λ x hx y hy=>?_];rw[map_singleton,q8]at hy;subst hy;exact b.gI.low _ fc sj x hx
 ·rw[C4,C3]at hn Ii;rw[not_or]at hn;rcases Ii with z|z
  ·exact b.gI.low q fq hn.1 k z
  ·rw[map_singleton,q8]at z;subst z;rcases b.next C h0 hi hd fq hn.1 with g|g
   ·exact bi (by rw[g];simp) hn.2
   ·exact g
 ·rw[c7 ()];exact b.gI.iH
 ·rw[C4,C3,not_or]at hn;by_cases g:j< -kt
  ·rw[c7 g]at hj;rcases b.up q p l hq hn.1 e hp hl hz j x hj hx with z|⟨rfl,z⟩
   ·exact .inl z
   ·refine .inr #[rfl,?_];by_cases g:i=l
    ·exfalso;subst g;rw[hd]at hj;cases hj;subst hx;exact hn.2 (by rw[e];simp)
    ·lia
  ·exact .inl ()
theorem uY.all(C:jP S h F){s0:α}(h0:S s0){kt:List (Cs×α)}{d:Nat}(b:uY F s0 h kt d 0)(hd:-kt<=d):∀(n:Nat)(q:Cs),q.sum<n->fZ F s0 h q->q∈kt.map (·.1)
 |0,q,hs,_=>by lia
 |n+1,q,hs,fq=>by
  refine Decidable.byContradiction λ hn=>?_;have hz:q≠KK.gs h:=λ z=>hn (by
   rw[G7];exact#[_,k9 b.gI.iH,z.symm])
  let#[p,l,hl,hp,e,z,fp,fT]:=fq.par C h0 hz;have:=b.all C h0 hd n p () fp;let#[x,hx,ex]:=G7.mp this;let#[j,hj]:=ci hx;have hjl:j< -kt:=(g9.mp hj).1;rcases b.up q p l fq hn e hp hl z j x hj ex with g|g<;>lia
def zI.nd{s0:α}{kt:List (Cs×α)}(b:zI F s0 h kt):(kt.map (·.2)).Nodup:=by
 have h2:(kt.map (·.1)).Pairwise λ x y=>x≠y:=b.Ud.imp λ a e=>by subst e;exact a.Yy
 have h1:kt.Pairwise λ x y=>x.1≠y.1:=pairwise_map.mp h2;unfold List.Nodup;rw[pairwise_map];refine List.Pairwise.imp_of_mem (λ{x y} hx hy YE=>?_) h1;intro e;have a:=b.ent x hx;have c:=b.ent y hy;exact YE (a.1.uniq c.1 (by rw[a.2,c.2,e]))
def fZ.bZ(C:jP S h F){s0:α}(h0:S s0){U:List α}(hU:∀s,S s->s∈U){p:Cs}(a:fZ F s0 h p):p.sum< -U:=by
 have key:∀(n:Nat)(p:Cs),p.sum=n->fZ F s0 h p->∃L:List Cs,-L=p.sum+1/\L.Nodup/\∀q∈L,fZ F s0 h q/\q.sum<=p.sum:=λ n=>by
  induction n with
  |zero=>exact λ p e fp=>#[[p],by simp[e],by simp,λ q hq=>q8.mp hq>=#[fp,J7 _]]
  |succ n ih=>
   intro p e fp;let#[p',l,hl,hp,e',z,fp',hs]:=fp.par C h0 (λ z=>by rw[z,jy]at e;lia);have es:p.sum=p'.sum+1:=by rw[e',eT ()]
   let#[L,hL,nd,hm]:=ih p' () fp';refine#[p::L,by rw[y9,hL];lia,nodup_cons.mpr #[λ hp=>?_,nd],λ q hq=>?_]
   ·have:=(hm p hp).2;lia
   ·rcases E8.mp hq with rfl|g
    ·exact#[fp,J7 _]
    ·have:=hm q g;exact#[this.1,()]
 let#[L,hL,nd,hm]:=key p.sum p rfl a;have nd2:(L.map (bj F 0 s0)).Nodup:=by unfold List.Nodup;rw[pairwise_map];refine List.Pairwise.imp_of_mem (λ{x y} hx hy YE e=>?_) nd;exact YE ((hm x hx).1.uniq (hm y hy).1 e)
 have:=bv nd2 (l₂:=U) λ s hs=>by let#[q,hq,rfl]:=G7.mp hs;exact hU _ (C.bj q 0 s0 (by rw[(hm q hq).1.1];lia) h0)
 rw[C1]at this;lia
end
open L3 L4 L5
inductive j_{α:Type}(F:Nat->α->α)(h:Nat)(s0:α):α->Prop
 |zero:j_ F h s0 s0
 |step {s:α} {i:Nat}:j_ F h s0 s->i<h->j_ F h s0 (F i s)
set_option tactic.hygienic true in
def j_.sum{S:α->Prop}{h:Nat}{F:Nat->α->α}{s0:α}(C:jP S h F)(h0:S s0){s:α}(r:j_ F h s0 s):∃p:Cs,-p=h/\bj F 0 s0 p=s:=by
 induction r with
 |zero=>exact#[gs h,by simp[gs],fU F s0 h 0]
 |step r hi ih=>let#[p,hp,e]:=ih;rename_i i;exact#[inc p i,eU>=hp,by rw[C.inc p 0 i s0 () () h0,e,H9]]
def j_.ok{S:α->Prop}{h:Nat}{F:Nat->α->α}{s0:α}(C:jP S h F)(h0:S s0){s:α}(r:j_ F h s0 s):S s:=by
 induction r with
 |zero=>exact h0
 |step r hi ih=>exact C.cl _ _ hi ih
structure cj(m h:Nat)(io:List Row):Prop where
 tb:Tb m h io
 di:jP (·<m) h (aE io)
 rW:∀x,x<m->j_ (aE io) h 0 x
structure bW{α:Type}(F:Nat->α->α)(aB:List α)(s:α)(i:Nat)(r:Row):Prop where
 len:-r=i
 at':∀j,j<i->∃k:Nat,r[j]?>(k:Int)/\aB[k]?>F j s
def bW.app{F:Nat->α->α}{aB ts:List α}{s:α}{r:Row}(a:bW F aB s i r):bW F (aB++ts) s i r:=
 ⟨a.len,λ j hj=>by
  let#[k,e,h]:=a.at' j hj;exact#[k,e,c7 (g9.mp h).1>=h]⟩
def bW.next{F:Nat->α->α}{aB:List α}{s:α}{r:Row}(a:bW F aB s i r)(hk:aB[k]?>F i s):bW F aB s (i+1) (r++[(k:Int)]):=by
 refine#[by simp[a.len],λ j hj=>?_];by_cases g:j<i
 ·let#[k,e,h]:=a.at' j g;exact#[k,c7 (a.len>=g)>=e,h]
 ·have:j=i:=()
  subst this;refine#[k,?_,hk];rw[b7 (a.len>=J7 _),a.len,Nat.sub_self];rfl
def bW.nil(F:Nat->α->α)(aB:List α)(s:α):bW F aB s 0 []:=#[rfl,λ j hj=>bi hj ()]
structure kH{α:Type}(F:Nat->α->α)(s0:α)(h:Nat)(U aB:List α)(io:List Row):Prop where
 nd:aB.Nodup
 iH:aB[0]?>s0
 rW:∀s∈aB,j_ F h s0 s
 sub:∀s∈aB,s∈U
 row:∀(d:Nat)(r:Row),io[d]?>r->∃s,aB[d]?>s/\bW F aB s h r
section
variable {F:Nat->α->α}{s0:α}{h:Nat}{U aB:List α}
def kH.start(hU:s0∈U):kH F s0 h U [s0] []:=
 #[by simp,rfl,λ s hs=>q8.mp hs>=.zero,λ s hs=>q8.mp hs>=hU,λ d r e=>by cases e]
def kH.add(e:kH F s0 h U aB io){d:Nat}{s:α}(hd:aB[d]?>s)(hi:i<h)(hU:F i s∈U)(hn:F i s∉aB):kH F s0 h U (aB++[F i s]) io:=by
 refine#[nodup_append.mpr #[e.nd,by simp,λ a ha b hb z=>hn (by rw[<- q8.mp hb,<- z];exact ha)],?_,λ t ht=>?_,λ t ht=>?_,λ j r hj=>?_]
 ·rw[c7 (g9.mp e.iH).1];exact e.iH
 ·rcases C3.mp ht with z|z
  ·exact e.rW t z
  ·rw[q8.mp z];exact .step (e.rW s (k9 hd)) hi
 ·rcases C3.mp ht with z|z
  ·exact e.sub t z
  ·rw[q8.mp z];exact hU
 ·let#[t,ht,hr]:=e.row j r hj;exact#[t,c7 (g9.mp ht).1>=ht,hr.app]
def kH.next(e:kH F s0 h U aB io){s:α}{r:Row}(hd:aB[-io]?>s)(hr:bW F aB s h r):kH F s0 h U aB (io++[r]):=by
 refine#[e.nd,e.iH,e.rW,e.sub,λ j q hj=>?_];by_cases g:j< -io
 ·rw[c7 g]at hj;exact e.row j q hj
 ·have hl:=(g9.mp hj).1;rw[p4,j9]at hl;have:j=-io:=()
  subst this;rw[b7 `G,Nat.sub_self]at hj;cases hj;exact#[s,hd,hr]
def kH.bZ(e:kH F s0 h U aB io):-aB<=-U:=bv e.nd e.sub
def rX{l:List α}(h:l.Nodup){x:α}(a:l[i]?>x)(b:l[j]?>x):i=j:=by let#[hi,_]:=g9.mp a;exact(getElem?_inj hi h).mp (a.trans b.symm)
theorem kH.at(e:kH F s0 h U aB io)(hl:-io=-aB){d:Nat}{s:α}(hd:aB[d]?>s)(hi:i<h):aB[aE io i d]?>F i s:=by have Tp:=(g9.mp hd).1;let#[t,ht,hr]:=e.row d io[d] (i5 ());rw[hd]at ht;cases ht;let#[k,e1,e2]:=hr.at' i hi;unfold aE;rw[b8 (l:=io),i5 (l:=io) (i:=d) ()];show aB[((io[d]).getD i 0).toNat]?=_;rw[b8,e1];exact e2
def kH.tb{S:α->Prop}(C:jP S h F)(h0:S s0)(e:kH F s0 h U aB io)(hl:-io=-aB)(hU:-U<=300)(hh:h<=12):cj (-io) h io:=by
 have h1:0< -aB:=(g9.mp e.iH).1;have lt:∀{d i:Nat},d< -io->i<h->aE io i d< -io:=λ{d i} hd hi=>by rw[hl];exact(g9.mp (e.at hl (i5 (show d< -aB by lia)) hi)).1
 refine#[#[rfl,(),by have:=e.bZ;lia,hh,λ r hr=>?_],#[λ x i hi hx=>lt hx hi,λ x i j hi hj hx=>?_],λ x hx=>?_]
 ·let#[d,hd]:=ci hr;let#[s,hs,Ia]:=e.row d r hd;refine#[Ia.len,λ x hx=>?_];let#[j,hj]:=ci hx;have hjl:=(g9.mp hj).1;let#[k,e1,e2]:=Ia.at' j (by rw[<- Ia.len];exact hjl);rw[hj]at e1;cases e1;have:=(g9.mp e2).1;lia
 ·have hs:=i5 (show x< -aB by lia);have ss:=(e.rW _ (k9 hs)).ok C h0;refine rX e.nd (x:=F i (F j aB[x])) (e.at hl (e.at hl hs hj) hi) ?_;rw[C.cm _ i j hi hj ss];exact e.at hl (e.at hl hs hi) hj
 ·have hs:=i5 (show x< -aB by lia);have key:∀s,j_ F h s0 s->∃k,aB[k]?>s/\j_ (aE io) h 0 k:=λ s r=>by
   induction r with
   |zero=>exact#[0,e.iH,.zero]
   |step r hi ih=>let#[k,hk,hr]:=ih;exact#[_,e.at hl hk hi,.step hr hi]
  let#[k,hk,hr]:=key _ (e.rW _ (k9 hs));rw[rX e.nd hs hk];exact hr
end
def SV(m h:Nat)(io:List Row)(f:Nat->Cs):Prop:=∀x,x<m->fZ (aE io) 0 h (f x)/\bj (aE io) 0 0 (f x)=x
def cj.fst{h:Nat}(T:cj m h io):∃f,SV m h io f:=by
 have:∀x:Nat,∃p:Cs,x<m->fZ (aE io) 0 h p/\bj (aE io) 0 0 p=x:=λ x=>by
  by_cases hx:x<m
  ·let#[p,hp,e]:=(T.rW x hx).sum T.di T.tb.pos;let#[q,fq,eq,_]:=fZ.ex (aE io) 0 h hp;exact#[q,λ _=>#[fq,by rw[eq,e]]]
  ·exact#[[],λ g=>bi g hx]
 exact#[λ x=>Classical.choose (this x),λ x hx=>Classical.choose_spec (this x) hx]
theorem SV.bZ{h:Nat}{f:Nat->Cs}(T:cj m h io)(hf:SV m h io f){x:Nat}(hx:x<m):(f x).sum<m:=by
 have:=(hf x hx).1.bZ T.di (s0:=0) T.tb.pos (U:=List.range m) λ s hs=>ce.mpr hs
 rwa [x9]at this
abbrev nD(v:Nat):D:=.int (v:Int)
def eY(p:Cs):D:=.tup (p.map nD)
def Nx(p:Cs):eY p=row (p.map λ v:Nat=>(v:Int)):=by unfold eY row;rw[G8];rfl
theorem kN(io:List Row):∀(p:Cs)(i x:Nat),xA io i x (p.map λ v:Nat=>(v:Int))=bj (aE io) i x p
 |[],i,x=>rfl
 |c::cs,i,x=>by
  have e:∀n y,qO (aE io i) n y=dA (aE io i) n y:=λ n=>by
   induction n with
   |zero=>exact λ y=>rfl
   |succ n ih=>exact λ y=>by show qO (aE io i) n (aE io i y)=_;rw[ih];rfl
  show xA io (i+1) (qO (aE io i) c x) (cs.map _)=bj (aE io) (i+1) (dA (aE io i) c x) cs;rw[kN io cs,e]
open L2 hiding aG gb
def mB(h:sw M M')(F:Flow M f c):Fl f c M M':=by let#[ns,p,b,sd,ct,h1,h2,h3]:=F;exact#[#[ns,p,b,sd,ct,h _ _ h1,h _ _ h2,h3],λ b o _ e=>h b o e]
def sw.rfl:sw M M:=λ _ _ e=>e
structure Enc{α:Type}(k:Nat)(enc:α->D):Prop where
 inj:∀a b,enc a=enc b->a=b
 pl:∀a,Pl k (enc a)
structure Sx{α:Type}(enc:α->D)(F:Nat->α->α)(s0:α)(h:Nat)(U:List α)(p q:be)(aB:List α)(io:List Row)(M0 M:Mem):Prop where
 ext:sw M0 M
 np:M0 p=none
 nq:M0 q=none
 pq:p≠q
 st:M p>(.lst (aB.map enc))
 iT:M q>(.lst (io.map row))
 ex:kH F s0 h U aB io
 le:-io<=-aB
section
variable {enc:α->D}{F:Nat->α->α}{s0:α}{h:Nat}{U:List α}{r:be}{aB:List α}{M0:Mem}
theorem Sx.new(x:Sx enc F s0 h U p q aB io M0 M)(hr:M r=none)(o:MO):Sx enc F s0 h U p q aB io M0 (af M r o):=
 #[x.ext.new hr o,x.np,x.nq,x.pq,ak (aU x.st hr)>=x.st,ak (aU x.iT hr)>=x.iT,x.ex,x.le]
theorem Sx.free(x:Sx enc F s0 h U p q aB io M0 M)(hr:M r=none):M0 r=none/\p≠r/\q≠r:=#[x.ext.free hr,aU x.st hr,aU x.iT hr]
theorem Sx.own(x:Sx enc F s0 h U p q aB io M0 M)(hr:M0 r=none/\p≠r/\q≠r)(o:MO):Sx enc F s0 h U p q aB io M0 (af M r o):=
 #[x.ext.own hr.1,x.np,x.nq,x.pq,ak hr.2.1>=x.st,ak hr.2.2>=x.iT,x.ex,x.le]
theorem Sx.add(x:Sx enc F s0 h U p q aB io M0 M){d:Nat}{s:α}(hd:aB[d]?>s)(hi:i<h)(hU:F i s∈U)(hn:F i s∉aB):Sx enc F s0 h U p q (aB++[F i s]) io M0 (af M p (.lst (aB.map enc++[enc (F i s)]))):=
 #[x.ext.own x.np,x.np,x.nq,x.pq,by rw[ab,C4];rfl,ak (K9 x.pq)>=x.iT,x.ex.add hd hi hU hn,by rw[p4];have:=x.le;lia]
theorem Sx.next(x:Sx enc F s0 h U p q aB io M0 M){s:α}{r:Row}(hd:aB[-io]?>s)(hr:bW F aB s h r):Sx enc F s0 h U p q aB (io++[r]) M0 (af M q (.lst (io.map row++[row r]))):=
 ⟨x.ext.own x.nq,x.np,x.nq,x.pq,ak x.pq>=x.st,by rw[ab,C4];rfl,x.ex.next hd hr,by
  have:=(g9.mp hd).1;rw[p4,j9];lia⟩
theorem Sx.bZ(x:Sx enc F s0 h U p q aB io M0 M):-aB<=-U/\-io<=-U:=by have:=x.ex.bZ;have:=x.le;lia
end
def fE[DecidableEq α]{xs:List α}{a:α}(h:a∈xs):xs[xs.idxOf a]?>a:=by rw[i5 (idxOf_lt_length_of_mem h),getElem_idxOf]
def cnt(v lo w:Nat):Nat:=if v<lo+w then v else lo+(v-lo)%w
def I_{v lo w:Nat}(h:0<w):cnt v lo w<lo+w:=by
 unfold cnt;split
 ·lia
 ·have:=Nat.mod_lt (v-lo) h;lia
def Cd{v a lo w:Nat}(h:0<w):cnt (cnt v lo w+a) lo w=cnt (v+a) lo w:=by
 unfold cnt;by_cases g:v<lo+w
 ·rw[L1 g]
 ·rw[L7 g];have hm:=Nat.mod_lt (v-lo) h;have e2:((v-lo)%w+a)%w=(v+a-lo)%w:=by rw[Nat.mod_add_mod];congr 1;lia
  by_cases g2:lo+(v-lo)%w+a<lo+w
  ·rw[L1 g2,L7 (),<- e2,Nat.mod_eq_of_lt (show(v-lo)%w+a<w by lia)];lia
  ·rw[L7 g2,L7 (),<- e2,show lo+(v-lo)%w+a-lo=(v-lo)%w+a by lia]
def Cc{v a b lo w:Nat}(h:0<w):cnt (cnt (v+a) lo w+b) lo w=cnt (cnt (v+b) lo w+a) lo w:=by rw[Cd h,Cd h,show v+a+b=v+b+a by lia]
def gr(m:Nat)(ls:Row):Prop:=ls.Pairwise (· < ·)/\∀x∈ls,0<=x/\x<(m:Int)
theorem gr.nil(m:Nat):gr m []:=#[.nil,λ x h=>by cases h]
def gr.up(h:gr m ls):gr (m+1) ls:=#[h.1,λ x hx=>by have:=h.2 x hx;lia]
def gr.add(h:gr m ls):gr (m+1) (ls++[(m:Int)]):=by
 refine#[pairwise_append.mpr #[h.1,by simp,λ x hx y hy=>?_],λ x hx=>?_]
 ·rw[q8.mp hy];exact(h.2 x hx).2
 ·rcases C3.mp hx with z|z
  ·have:=h.2 x z;lia
  ·rw[q8.mp z];lia
def gr.bZ:∀{ls:Row},gr m ls->-ls<=m:=λ{ls} h=>by
 have nd:(ls.map Int.toNat).Nodup:=by unfold List.Nodup;rw[pairwise_map];refine List.Pairwise.imp_of_mem (λ{a b} ha hb OK=>?_) h.1;have:=h.2 a ha;have:=h.2 b hb;lia
 have:=bv nd (l₂:=List.range m) λ x hx=>by let#[y,hy,rfl]:=G7.mp hx;have:=h.2 y hy;exact ce.mpr ()
 rwa [C1,x9]at this
def nJ[DecidableEq α]{enc:α->D}{F:Nat->α->α}{s0:α}{h:Nat}{U:List α}{pw:be}{aB:List α}{M0:Mem}{r:Row}{s:α}{jt js jr:Nat}{E:ka}(en:Enc k enc)(hk:k<=60)(X:Sx enc F s0 h U p q aB io M0 M)(hb:-U<=300)(hh:h<=12)(fw:M0 pw=none/\p≠pw/\q≠pw)(hw:M pw>(.lst (r.map D.int)))(hr:bW F aB s i r)(hd:aB[-io]?>s)(hi:i<h)(hU:F i s∈U)(et:δ[jt]?>(some (enc (F i s))))(es:δ[js]?>(some `j))(er:δ[jr]?>(some (.ref pw)))(kk:∀(gY:List α)(r':Row)(M':Mem),Sx enc F s0 h U p q gY io M0 M'->M' pw>(.lst (r'.map D.int))->bW F gY s (i+1) r'->gY[-io]?>s->E.nx δ M'):Kr (Pw (rN (Ks n_ (gZ jt) (gZ js))) (An (Uq "list" og (gZ js) (iy (gZ jt) tj))) FO) (An (Uq "list" og (gZ jr) (iy (Uq "list" zl (gZ js) (iy (gZ jt) tj)) tj))) E δ M:=by
 have vt:∀{M:Mem} {Q:bK},Q (enc (F i s)) M->gZ jt δ M Q:=λ q=>gf et q;have vs:∀{M:Mem} {Q:bK},Q `j M->gZ js δ M Q:=λ q=>gf es q;have vr:∀{M:Mem} {Q:bK},Q (.ref pw) M->gZ jr δ M Q:=λ q=>gf er q;refine iY (λ δ' M'=>δ'=δ/\∃gY,Sx enc F s0 h U p q gY io M0 M'/\M' pw>(.lst (r.map D.int))/\bW F gY s i r/\gY[-io]?>s/\F i s∈gY) (λ N hN=>?_) ?_
 ·refine Gk (nK (Aw (vt (vs ?_))));refine pA (k:=k) (b:=decide (F i s∈aB)) (ds:=aB.map enc) (cJ X.st) (en.pl _) (g_ λ x _=>en.pl x) hk (by rw[bn];exact(tW en.inj _).symm) ?_;refine kX (λ hn=>?_) (λ hn=>?_)
  ·have hn:F i s∉aB:= ~~~hn
   refine tH (Az (vs #[#[rfl,_,X.st],kY (vt (ke ?_))]));refine fu X.st (by rw[C1];have:=X.bZ;exact p8 (show -aB<=300 by lia) `c) ?_;exact hN _ _ #[rfl,aB++[F i s],X.add hd hi hU hn,ak (K9 fw.2.1)>=hw,hr.app,c7 (g9.mp hd).1>=hd,by simp]
  ·have hn:F i s∈aB:= ~~~hn
   exact hN _ _ #[rfl,aB,X,hw,hr,hd,hn]
 ·rintro δ' M' ⟨rfl,gY,X,hw,hr,hd,hm⟩;refine tH (Az (vr #[#[rfl,_,hw],kY (Az (vs #[#[rfl,_,X.st],kY (vt (ke ?_))]))]));refine iX enc en.inj X.st hm en.pl hk ?_;refine ke (fu hw (C1>=(hr.len>=p8 (show i<=300 by lia) `c)) ?_);exact kk gY (r++[((gY.idxOf (F i s):Nat):Int)]) _ (X.own fw _) (by rw[ab,C4];rfl) (hr.next (fE hm)) hd
def cg:Enc 0 nD:=#[λ a b z=>Int.ofNat.inj (D.int.inj z),λ a=>dw 0 _]
def Nj:Enc 1 eY:=by refine#[λ a b z=>?_,λ a=>yp λ e he=>by let#[x,_,rfl]:=G7.mp he;exact dw 0 _];have:=D.tup.inj z;exact List.map_inj_right (f:=nD) (λ a b z=>cg.inj a b z) |>.mp this
def pD(p:Nat×Nat):D:=.tup [.int (p.1:Int),.int (p.2:Int)]
def IJ:Enc 1 pD:=by
 refine#[λ a b z=>?_,λ a=>yp λ e he=>?_]
 ·have:=D.tup.inj z;injection this with h1 h2
  injection h2 with h2 _
  exact Prod.ext (cg.inj _ _ h1) (cg.inj _ _ h2)
 ·rcases E8.mp he with rfl|he
  ·exact dw 0 _
  ·rw[q8.mp he];exact dw 0 _
def stC:List (Nat×Nat)->Cs->Cs->Cs
 |(lo,w)::cs,a::ws,v::s=>cnt (v+a) lo w::stC cs ws s
 |_,_,_=>[]
def uM:List (Nat×Nat)->List Cs
 |[]=>[[]]
 |(lo,w)::cs=>(List.range (lo+w)).flatMap λ x=>(uM cs).map (x::·)
theorem z_:∀{cs:List (Nat×Nat)} {ws s:Cs},-ws=-cs->-s=-cs->(stC cs ws s).length=-cs
 |[],[],[],_,_=>rfl
 |(lo,w)::cs,a::ws,v::s,h,g=>by show(stC cs ws s).length+1=_;rw[z_ (cs:=cs) (~~~h) (~~~g)];rfl
theorem Aa:∀{cs:List (Nat×Nat)} {ws us s:Cs},(∀c∈cs,0<c.2)->-ws=-cs->-us=-cs->-s=-cs->stC cs ws (stC cs us s)=stC cs us (stC cs ws s)
 |[],_,_,_,_,_,_,_=>rfl
 |(lo,w)::cs,a::ws,b::us,v::s,hc,h1,h2,h3=>by show cnt (cnt (v+b) lo w+a) lo w::stC cs ws (stC cs us s)=cnt (cnt (v+a) lo w+b) lo w::stC cs us (stC cs ws s);rw[Cc (hc (lo,w) `g),Aa (λ c hh=>hc c (by simp[hh])) (~~~h1) (~~~h2) (~~~h3)]
theorem Ab:∀{cs:List (Nat×Nat)} {ws s:Cs},(∀c∈cs,0<c.2)->-ws=-cs->-s=-cs->stC cs ws s∈uM cs
 |[],[],[],_,_,_=>by simp[stC,uM]
 |(lo,w)::cs,a::ws,v::s,hc,h1,h2=>by show cnt (v+a) lo w::stC cs ws s∈(List.range (lo+w)).flatMap λ x=>(uM cs).map (x::·);rw[mem_flatMap];exact#[_,ce.mpr (I_ (hc (lo,w) `g)),G7.mpr #[_,Ab (λ c hh=>hc c (by simp[hh])) (~~~h1) (~~~h2),rfl]]
theorem zM:∀{cs:List (Nat×Nat)},(∀c∈cs,0<c.2)->gs (-cs)∈uM cs
 |[],_=>by simp[gs,uM]
 |(lo,w)::cs,hc=>by show 0::gs (-cs)∈(List.range (lo+w)).flatMap λ x=>(uM cs).map (x::·);rw[mem_flatMap];have:=hc (lo,w) `g;exact#[0,ce.mpr (by show 0<lo+w;have:0<w:=this;lia),G7.mpr #[_,zM λ c hh=>hc c (by simp[hh]),rfl]]
def uL(cs:List (Nat×Nat))(lo w:Nat):(uM ((lo,w)::cs)).length=(lo+w)*(uM cs).length:=by show((List.range (lo+w)).flatMap λ x=>(uM cs).map (x::·)).length=_;rw[length_flatMap];simp only[C1];rw[map_const',x9,sum_replicate_nat]
abbrev ZY:=Nat×Nat×Nat×Nat
def xT:List (Nat×Nat)->Cs->Cs->List ZY
 |c::cs,a::ws,v::s=>(v,a,c)::xT cs ws s
 |_,_,_=>[]
def Fd(t:ZY):D:=.tup [.int (t.1:Int),.int (t.2.1:Int),pD t.2.2]
theorem zT:∀{cs:List (Nat×Nat)} {ws s:Cs},-ws=-cs->-s=-cs->vh (s.map nD) (ws.map nD) (cs.map pD)=(xT cs ws s).map Fd/\stC cs ws s=(xT cs ws s).map λ t=>cnt (t.1+t.2.1) t.2.2.1 t.2.2.2
 |[],[],[],_,_=>#[rfl,rfl]
 |c::cs,a::ws,v::s,h,g=>by
  have ih:=zT (cs:=cs) (ws:=ws) (s:=s) (~~~h) (~~~g);refine#[?_,?_]
  ·show Fd (v,a,c)::vh (s.map nD) (ws.map nD) (cs.map pD)=Fd (v,a,c)::(xT cs ws s).map Fd;rw[ih.1]
  ·show cnt (v+a) c.1 c.2::stC cs ws s=cnt (v+a) c.1 c.2::(xT cs ws s).map _;rw[ih.2]
theorem zU:∀{cs:List (Nat×Nat)} {ws s:Cs} {t:ZY},t∈xT cs ws s->t.2.2∈cs
 |c::cs,a::ws,v::s,t,h=>by
  rcases E8.mp (show t∈(v,a,c)::xT cs ws s from h)with e|e
  ·rw[e];simp
  ·exact k8 _ (zU e)
 |[],_,_,_,h=>by cases h
 |_::_,[],_,_,h=>by cases h
 |_::_,_::_,[],_,h=>by cases h
theorem zV:∀{cs:List (Nat×Nat)} {ws s:Cs},(xT cs ws s).length<=-cs
 |c::cs,a::ws,v::s=>by show(xT cs ws s).length+1<=-cs+1;exact Nat.succ_le_succ zV
 |[],_,_=>J7 _
 |_::_,[],_=>J9 _
 |_::_,_::_,[]=>J9 _
def mS(cs:List (Nat×Nat)):Prop:=(∃lo w,cs=[(lo,w)]/\lo<=3/\1<=w/\w<=4)\/∃lo w S_ w',cs=[(lo,w),(S_,w')]/\lo<=2/\1<=w/\w<=2/\S_<=2/\1<=w'/\w'<=2
def mS.pos(h:mS cs):∀c∈cs,0<c.2:=by
 rcases h with⟨lo,w,rfl,_,h,_⟩|⟨lo,w,S_,w',rfl,_,h,_,_,h',_⟩
 ·intro c hc;rw[q8.mp hc];exact h
 ·intro c hc;rcases E8.mp hc with rfl|hc
  ·exact h
  ·rw[q8.mp hc];exact h'
def mS.box(h:mS cs):(uM cs).length<=16/\1<=-cs/\-cs<=2:=by
 rcases h with⟨lo,w,rfl,h1,h2,h3⟩|⟨lo,w,S_,w',rfl,h1,h2,h3,h4,h5,h6⟩
 ·rw[uL];show(lo+w)*1<=16/\1<=1/\1<=2;lia
 ·rw[uL,uL];show(lo+w)*((S_+w')*1)<=16/\1<=2/\2<=2;refine#[G9 (Nat.mul_le_mul (show lo+w<=4 by lia) (show(S_+w')*1<=4 by lia)) `c,(),()]
def mS.di(h:mS cs){ws:List Cs}(hw:∀w∈ws,-w=-cs):jP (λ s:Cs=>-s=-cs) (-ws) (λ i s=>stC cs (ws.getD i []) s):=by
 have hl:∀{i},i< -ws->(ws.getD i []).length=-cs:=λ{i} hi=>b8>=(i5 hi>=hw _ (A4 hi))
 exact#[λ s i hi hs=>z_ (hl hi) hs,λ s i j hi hj hs=>Aa h.pos (hl hi) (hl hj) hs]
def stN(L:Nat)(sz:Cs)(i:Nat)(s:Nat×Nat):Nat×Nat:=(s.1^^^sz.getD i 0,max s.2 (if 1<sz.getD i 0 then 1 else 0)*L)
def Ji:List (Nat×Nat):=(List.range 8).flatMap λ a=>(List.range 2).map λ b=>(a,b)
def AY{s:Nat×Nat}:s∈Ji↔s.1<8/\s.2<2:=by
 unfold Ji;rw[mem_flatMap];constructor
 ·rintro⟨a,ha,h⟩;let#[b,hb,rfl]:=G7.mp h;exact#[ce.mp ha,ce.mp hb]
 ·rintro⟨h1,h2⟩;exact#[s.1,ce.mpr h1,G7.mpr #[s.2,ce.mpr h2,rfl]]
def Kc{L h:Nat}{sz:Cs}(hL:L<=1)(hs:∀x∈sz,x<5):jP (λ s=>s∈Ji) h (stN L sz):=by
 have hz:∀i,sz.getD i 0<5:=λ i=>by
  rw[b8];cases e:sz[i]? with
  |none=>decide
  |some v=>exact hs v (k9 e)
 refine#[λ s i _ hs=>?_,λ s i j _ _ _=>?_]
 ·rw[AY]at hs ⊢;refine#[Nat.xor_lt_two_pow (n:=3) hs.1 (by have:=hz i;show sz.getD i 0<8;lia),?_];show max s.2 (if 1<sz.getD i 0 then 1 else 0)*L<2;have:max s.2 (if 1<sz.getD i 0 then 1 else 0)<=1:=by refine Nat.max_le.mpr #[(),?_];split<;>lia
  exact p8 (Nat.mul_le_mul this hL) `c
 ·unfold stN;dsimp only;refine Prod.ext ?_ ?_
  ·show s.1^^^_^^^_=s.1^^^_^^^_;rw[Nat.xor_assoc,Nat.xor_assoc,Nat.xor_comm (sz.getD j 0)]
  ·show max (max s.2 _*L) _*L=max (max s.2 _*L) _*L;rcases Nat.le_one_iff_eq_zero_or_eq_one.mp hL with e|e
   ·subst e;simp
   ·subst e;simp only[Nat.mul_one];rw[Nat.max_assoc,Nat.max_assoc,Nat.max_comm (if 1<sz.getD j 0 then 1 else 0)]
def Jy(io:List Row)(w:Nat)(ws:Cs)(i:Nat)(s:Nat×Nat):Nat×Nat:=(aE io i s.1,(s.2+ws.getD i 0)%w)
def Er(m w:Nat):List (Nat×Nat):=(List.range m).flatMap λ a=>(List.range w).map λ b=>(a,b)
def nR{w:Nat}{s:Nat×Nat}:s∈Er m w↔s.1<m/\s.2<w:=by
 unfold Er;rw[mem_flatMap];constructor
 ·rintro⟨a,ha,h⟩;let#[b,hb,rfl]:=G7.mp h;exact#[ce.mp ha,ce.mp hb]
 ·rintro⟨h1,h2⟩;exact#[s.1,ce.mpr h1,G7.mpr #[s.2,ce.mpr h2,rfl]]
def ND(m w:Nat):(Er m w).length=m*w:=by unfold Er;rw[length_flatMap];simp only[C1,x9];rw[map_const',x9,sum_replicate_nat]
def Kd{h w:Nat}{ws:Cs}(T:cj m h io)(hw:0<w):jP (λ s=>s∈Er m w) h (Jy io w ws):=by
 refine#[λ s i hi hs=>?_,λ s i j hi hj hs=>?_]
 ·rw[nR]at hs ⊢;exact#[T.di.cl _ _ hi hs.1,Nat.mod_lt _ hw]
 ·rw[nR]at hs;refine Prod.ext (T.di.cm _ _ _ hi hj hs.1) ?_;show((s.2+ws.getD j 0)%w+ws.getD i 0)%w=((s.2+ws.getD i 0)%w+ws.getD j 0)%w;rw[Nat.mod_add_mod,Nat.mod_add_mod,Nat.add_right_comm]
def sS{h:Nat}(T:Tb m h io){x:Nat}(hx:x<m)(hi:i<h):iN (io.map row) (x:Int)>row (io.getD x [])/\iN ((io.getD x []).map D.int) (i:Int)>(.int (aE io i x)):=by
 have u_:x< -io:=T.len>=hx
 have a:=T.at hx hi;refine#[bx (by rw[w6,i5 u_,b8,i5 u_];rfl),?_];rw[Jk (a.1>=hi),a.2.1]
def Us{h:Nat}{dB:List Row}{ord:List Nat}(T:cj m h io)(hp:ord.Perm (List.range m))(h0:ord[0]?>0)(hl:-dB=m)(hr:∀(d:Nat)(r:Row),dB[d]?>r->∃x,ord[d]?>x/\bW (aE io) ord x h r):cj m h dB:=by
 have e:kH (aE io) 0 h (List.range m) ord dB:=#[hp.nodup_iff.mpr nodup_range,h0,λ s hs=>T.rW s (ce.mp (hp.mem_iff.mp hs)),λ s hs=>hp.mem_iff.mp hs,hr];have ol:-ord=m:=by rw[hp.length_eq,x9]
 have:=e.tb T.di T.tb.pos (by rw[hl,ol]) (x9>=T.tb.bZ) T.tb.wL
 rwa [hl]at this
def Gg{Q:bK}(h:M p>`B)(q:∀p,M p=none->Q `j (af M p `B)):dList [.ref p] M Q:=by show(match cO M `j with|some ds=>∀p,M p=none->Q `j (af M p `B)|none=>False);rw[cJ h];exact q
def Rj{xs:Row}(h:xs.Pairwise (·<=·))(nd:xs.Nodup)(hb:∀x∈xs,0<=x/\x<(m:Int)):gr m xs:=by refine#[?_,hb];have:=List.Pairwise.and h nd;exact this.imp λ{a b} z=>by have:=z.1;have:=z.2;lia
def GV(hm:0<m){ns:List Nat}(h:ns.Perm ((List.range (m-1)).map (·+1))):(0::ns).Perm (List.range m):=by obtain⟨k,rfl⟩:∃k,m=k+1:=#[m-1,()];rw[range_succ_eq_map];exact h.cons 0
def dO(ord:List Nat)(r:Row):Row:=r.map λ y=>(ord.idxOf y.toNat:Int)
def Kx{h:Nat}{ord:List Nat}(G:cj m h io)(hp:ord.Perm (List.range m)){x:Nat}(hx:x<m):bW (aE io) ord x h (dO ord (io.getD x [])):=by
 have u_:x< -io:=G.tb.len>=hx
 have e:(io.getD x []).length=h:=by rw[b8,i5 u_];exact(G.tb.row _ (A4 u_)).1
 refine#[by unfold dO;rw[C1];exact e,λ j hj=>#[ord.idxOf (aE io j x),?_,fE (hp.mem_iff.mpr (ce.mpr (G.di.cl _ _ hj hx)))]];unfold dO aE;rw[w6,i5 (),b8 (l:=io.getD x []),i5 ()];rfl
def FY{xs:Row}{ord:List Nat}(hp:ord.Perm (List.range m))(L:gr m ls)(h:xs.Perm (dO ord ls))(hs:xs.Pairwise (·<=·)):gr m xs:=by
 have Th:-ord=m:=by rw[hp.length_eq,x9]
 have lH:∀y∈ls,y.toNat∈ord:=λ y hy=>hp.mem_iff.mpr (ce.mpr (by have:=L.2 y hy;lia));refine Rj hs (h.nodup_iff.mpr ?_) λ x hx=>?_
 ·unfold dO List.Nodup;rw[pairwise_map];refine List.Pairwise.imp_of_mem (λ{a b} ha hb OK=>?_) L.1;intro e;have e:ord.idxOf a.toNat=ord.idxOf b.toNat:=()
  have h1:=fE (lH a ha);rw[e,fE (lH b hb)]at h1;have:=B7 h1;have:=L.2 a ha;have:=L.2 b hb;lia
 ·let#[y,hy,rfl]:=G7.mp (h.mem_iff.mp hx);have:=idxOf_lt_length_of_mem (lH y hy);lia
def Hk{ns:List Nat}{b:Bool}(h:b=true↔ns=[]):b=true↔ns.map nD=[]:=by rw[h,map_eq_nil_iff]
theorem AZ{β:Type}(f:α->β):∀(l:List α)(j:Nat),(l.map f).eraseIdx j=(l.eraseIdx j).map f
 |[],_=>rfl
 |a::l,0=>rfl
 |a::l,j+1=>by show f a::(l.map f).eraseIdx j=f a::(l.eraseIdx j).map f;rw[AZ f l j]
theorem vO:∀{l:List α} {j:Nat} (h:j< -l),([l[j]]++l.eraseIdx j).Perm l
 |a::l,0,_=>.refl _
 |a::l,j+1,h=>by have:=vO (l:=l) (j:=j) (~~~h);show(l[j]'(~~~h)::a::l.eraseIdx j).Perm (a::l);exact(List.Perm.swap _ _ _).trans (this.cons a)
def zp{δc:cS}{xs:List α}(enc out:α->D)(hn:-xs<=sizeLine)(hl:M1 a>(.lst (xs.map enc)))(hs:∀(i:Nat)(x:α)(N:D->Mem->Prop),xs[i]?>x->N (out x) M1->g (enc x) δc M1 λ δ2 M2=>te δ2 M2 N)(hd:Qe (xs.map out) M1):∃(B:Nat)(W:Nat->List D->Mem->Prop),W 0 [] M1/\∀i jp M,W i jp M->i<=B/\-jp<=sizeLine/\match li (.at a) M with
   |none=>False
   |some ds=>match ds[i]? with
    |none=>i=-ds/\Qe jp M
    |some d=>g d δc M λ δ2 M2=>x' δ2 M2 λ b M3=>if b=true then te δ2 M3 λ y M4=>W (i+1) (jp++[y]) M4 else W (i+1) jp M3:=by
 refine Jc (ds:=xs.map enc) (λ i jp M=>M=M1/\jp=(xs.take i).map out) #[rfl,rfl] (λ i jp M _ h=>h.1>=hl) (λ i jp M _ h=>?_) (λ i d jp M hd2 h=>?_) (λ jp M h=>?_)
 ·rw[h.2,C1,A3];exact G9 (Nat.min_le_right _ _) hn
 ·let#[rfl,rfl]:=h;rw[w6]at hd2;let#[x,hx,rfl]:=ca.mp hd2;exact hs i x (λ y M4=>M4=M/\_) hx #[rfl,by rw[take_one hx,C4];rfl]
 ·let#[rfl,rfl]:=h;rw[C1,A0];exact hd
def Sk{t:Nat}(h:i<t+1):(xF t)[i]?>(t-i):=by unfold xF;rw[w6,l9 h];rfl
def Nk(t:Nat):(xF t).length=t+1:=by simp[xF]
def iw(q t i:Nat):List Cs:=((xF t).take i).flatMap λ n=>(bz q (t-n)).map (n::·)
def jC(q t:Nat):iw q t (t+1)=bz (q+1) t:=by unfold iw;rw[j2 (Nk>=J7 _)];rfl
def oS{q t:Nat}(h:i<t+1):iw q t (i+1)=iw q t i++(bz q (t-(t-i))).map ((t-i)::·):=by unfold iw;rw[take_one (Sk h),flatMap_append,flatMap_singleton]
def rG{q t:Nat}(hq:q<=5)(ht:t<=19)(h:i<=t+1):(iw q t i).length<=sizeLine:=by
 have h1:(iw q t i).length<=(iw q t (t+1)).length:=by
  rw[jC];unfold iw;show _<=((xF t).flatMap λ n=>(bz q (t-n)).map (n::·)).length;generalize(λ n=>(bz q (t-n)).map (n::·))=f;have e:(xF t).flatMap f=((xF t).take i).flatMap f++((xF t).drop i).flatMap f:=by rw[<- flatMap_append,take_append_drop]
  rw[e,p4];lia
 rw[jC]at h1;have:=rH (B:=20) (k:=q) (T:=t) ();have h3:20^q<=20^5:=Nat.pow_le_pow_right `c hq;exact G9 h1 (G9 this (G9 h3 `c))
def xU{q t:Nat}(hq:q<=6)(ht:t<=19):(bz q t).length<=sizeLine:=by
 cases q with
 |zero=>unfold bz;split<;>decide
 |succ q=>rw[<- jC];exact rG () ht `G
def jY{α:Type}(enc:α->D)(kvs:List (α×D)):List (D×D):=kvs.map λ p=>(enc p.1,p.2)
section
variable [DecidableEq α]{enc:α->D}
theorem pK(inj:∀a b,enc a=enc b->a=b)(x:α):∀kvs:List (α×D),cL (jY enc kvs) (enc x)=(kvs.find? λ p=>decide (p.1=x)).map (·.2)
 |[]=>rfl
 |p::kvs=>by
  have ih:=pK inj x kvs;unfold cL jY at ih ⊢;rw[D9,B3,B3];by_cases z:p.1=x
  ·rw[C9 z,C9 (by rw[z])];rfl
  ·rw[B4 z,B4 (λ h=>z (inj _ _ h))];exact ih
def jF(inj:∀a b,enc a=enc b->a=b){kvs:List (α×D)}{x:α}(h:x∉kvs.map (·.1)):cL (jY enc kvs) (enc x)=none:=by
 rw[pK inj,find?_eq_none.mpr]
 ·rfl
 ·intro p hp;rw[bn];exact λ e=>h (G7.mpr #[p,hp,e])
def gH(inj:∀a b,enc a=enc b->a=b){kvs:List (α×D)}{x:α}(nd:(kvs.map (·.1)).Nodup)(h:(x,d)∈kvs):cL (jY enc kvs) (enc x)>d:=by
 rw[pK inj];cases e:kvs.find? λ p=>decide (p.1=x)with
 |none=>have:=find?_eq_none.mp e _ h;simp at this
 |some q=>
  have h1:=find?_some e;have h2:=mem_of_find?_eq_some e;rw[bn]at h1;let#[i,hi]:=ci h;let#[j,hj]:=ci h2;have e1:(kvs.map (·.1))[i]?>x:=by rw[w6,hi];rfl
  have e2:(kvs.map (·.1))[j]?>x:=by rw[w6,hj,<- h1];rfl
  have:=rX nd e1 e2;subst this;rw[hi]at hj;cases hj;rfl
def nO(inj:∀a b,enc a=enc b->a=b){kvs:List (α×D)}{x:α}(v:D)(h:x∉kvs.map (·.1)):putD (jY enc kvs) (enc x) v=jY enc (kvs++[(x,v)]):=by unfold putD;rw[jF inj h,L7 `g];unfold jY;rw[C4];rfl
end
def gh(x:Nat):iD false (nD x):=#[.inl x,rfl]
theorem Hv:∀{p:Cs} {c:Nat},c∈p->c<=p.sum
 |a::p,c,h=>by
  show c<=a+p.sum;rcases E8.mp h with rfl|h
  ·lia
  ·have:=Hv h;lia
theorem wG(F:Nat->α->α):∀(cs:Cs)(i:Nat)(s:α)(c:Nat),bj F i s (cs++[c])=dA (F (i+-cs)) c (bj F i s cs)
 |[],i,s,c=>rfl
 |d::cs,i,s,c=>by show bj F (i+1) _ (cs++[c])=_;rw[wG F cs (i+1),y9,show i+1+-cs=i+(-cs+1) by lia];rfl
structure uV(io:List Row)(m h:Nat)(L:List Cs)(es:List (Nat×Cs)):Prop where
 ent:∀e∈es,fZ (aE io) 0 h e.2/\bj (aE io) 0 0 e.2=e.1/\e.1<m
 nd:(es.map (·.1)).Nodup
 all:∀p∈L,bj (aE io) 0 0 p∈es.map (·.1)
theorem uV.nil(io:List Row)(m h:Nat):uV io m h (qY h 0) []:=#[λ e h=>(by cases h),.nil,λ p hp=>(by have:=(fA.mp hp).2;lia)]
def uV.bZ{h:Nat}{L:List Cs}{es:List (Nat×Cs)}(f:uV io m h L es):-es<=m:=by
 have:=bv f.nd (l₂:=List.range m) λ x hx=>by let#[e,he,rfl]:=G7.mp hx;exact ce.mpr (f.ent e he).2.2
 rwa [C1,x9]at this
def jd(h T i:Nat):List Cs:=qY h T++(bz h T).take i
def sr{h T:Nat}{p:Cs}(hp:(bz h T)[i]?>p):jd h T (i+1)=jd h T i++[p]:=by unfold jd;rw[take_one hp,x6]
def Iu(h T:Nat):jd h T (bz h T).length=jd h (T+1) 0:=by unfold jd;rw[A0,take_zero,B1,Et]
def Ir{h T:Nat}{p q:Cs}(hp:(bz h T)[i]?>p)(hq:-q=h)(ha:Ah q p):q∈jd h T i:=by
 have D':=bQ.mp (k9 hp);unfold jd;rw[C3];by_cases hs:q.sum<T
 ·exact .inl (fA.mpr #[hq,hs])
 ·have hqs:q.sum=T:=by rcases ha with z|z<;>lia
  let#[j,hj]:=ci (bQ.mpr #[hq,hqs]:q∈bz h T);have hl:wb q p:=by
   rcases ha with z|z
   ·lia
   ·exact z.2
  refine .inr ?_;by_cases hji:j<i
  ·exact k9 (i:=j) (getElem?_take_of_lt hji>=hj)
  ·exfalso;let#[h1,e1]:=g9.mp hp;let#[h2,e2]:=g9.mp hj;by_cases he:j=i
   ·subst he;rw[hp]at hj;cases hj;exact jH _ hl
   ·have:=pairwise_iff_getElem.mp (k_ h T) i j h1 h2 ();rw[e1,e2]at this;exact jH _ (mw this hl)
def uV.old{h T:Nat}{es:List (Nat×Cs)}(f:uV io m h (jd h T i) es){p:Cs}(hp:(bz h T)[i]?>p)(hk:bj (aE io) 0 0 p∈es.map (·.1)):uV io m h (jd h T (i+1)) es:=
 ⟨f.ent,f.nd,λ q hq=>by
  rw[sr hp]at hq;rcases C3.mp hq with z|z
  ·exact f.all q z
  ·rw[q8.mp z];exact hk⟩
def uV.new{h T:Nat}{es:List (Nat×Cs)}(G:cj m h io)(f:uV io m h (jd h T i) es){p:Cs}(hp:(bz h T)[i]?>p)(hk:bj (aE io) 0 0 p∉es.map (·.1)):uV io m h (jd h T (i+1)) (es++[(bj (aE io) 0 0 p,p)]):=by
 have D':=bQ.mp (k9 hp);refine#[λ e he=>?_,?_,λ q hq=>?_]
 ·rcases C3.mp he with z|z
  ·exact f.ent e z
  ·rw[q8.mp z];refine#[#[D'.1,λ q hq ha e=>hk ?_],rfl,G.di.bj p 0 0 () G.tb.pos];rw[<- e];exact f.all q (Ir hp hq ha)
 ·rw[C4];exact nodup_append.mpr #[f.nd,by simp,λ a ha b hb z=>hk (by rw[map_singleton,q8]at hb;have hb:b=bj (aE io) 0 0 p:=hb;rw[<- hb,<- z];exact ha)]
 ·rw[sr hp]at hq;rw[C4,C3];rcases C3.mp hq with z|z
  ·exact .inl (f.all q z)
  ·rw[q8.mp z];exact .inr `g
def uV.full{h T:Nat}{es:List (Nat×Cs)}(G:cj m h io)(f:uV io m h (jd h T 0) es)(hT:m<=T):m<=-es:=by
 let#[g,hg]:=G.fst;have:=bv (nodup_range (n:=m)) (l₂:=es.map (·.1)) λ x hx=>by
  have hx:=ce.mp hx;have h1:=hg.bZ G hx;have:=f.all (g x) (by unfold jd;rw[C3];exact .inl (fA.mpr #[(hg x hx).1.1,()]))
  rwa [(hg x hx).2]at this
 rwa [C1,x9]at this
def uV.get{h:Nat}{L:List Cs}{es:List (Nat×Cs)}{g:Nat->Cs}(f:uV io m h L es)(hm:m<=-es)(hg:SV m h io g){x:Nat}(hx:x<m):(x,g x)∈es:=by
 have m_:∀y∈es.map (·.1),y∈List.range m:=λ y hy=>by let#[e,he,rfl]:=G7.mp hy;exact ce.mpr (f.ent e he).2.2
 have lH:x∈es.map (·.1):=by
  refine Decidable.byContradiction λ hn=>?_;have:=bv (nodup_cons.mpr #[hn,f.nd]) (l₂:=List.range m) λ y hy=>by
   rcases E8.mp hy with rfl|z
   ·exact ce.mpr hx
   ·exact m_ y z
  rw[y9,C1,x9]at this;lia
 let#[e,he,ex]:=G7.mp lH;have h1:=f.ent e he;have:e.2=g x:=h1.1.uniq (hg x hx).1 (by rw[h1.2.1,(hg x hx).2,ex]);rw[<- this,<- ex];exact he
theorem HR:∀{p:Cs} {i c:Nat},p[i]?>c->p.take i++[c+1]++p.drop (i+1)=inc p i
 |a::p,0,c,h=>by cases h;rfl
 |a::p,i+1,c,h=>by have:=HR (p:=p) (i:=i) (c:=c) (~~~h);show a::(p.take i++[c+1]++p.drop (i+1))=a::inc p i;rw[this]
def ni{α:Type}(enc:α->D)(e:Cs×α):D:=.tup [eY e.1,enc e.2]
theorem sw.uG{C:CM}(h:∀b d,C b>d->M1 b>(.dE (.uG d)))(e:sw (fF M1 C) M'):sw M1 (ip M' C):=λ b o eo=>by
 rcases dv C b with z|⟨d,z⟩
 ·rw[lN z];exact e b o (nZ z>=eo)
 ·rw[uQ z,<- h b d z];exact eo
def lD{cs:List D}{C:CM}(h:qt M f L fv cs C)(e:sw M M1):qt M1 f L fv cs C:=by let#[cl,h1,h2]:=h.ex;exact#[#[cl,e _ _ h1,h2],h.len,λ b d z=>e _ _ (h.uG b d z)]
structure Wg{α:Type}(F:Nat->α->α)(s0:α)(h:Nat)(most:Nat)(kt:List (Cs×α)):Prop where
 gI:zI F s0 h kt
 ZN:most<=-kt\/∀q,fZ F s0 h q->q∈kt.map (·.1)
end KK
namespace L2
open PySem.Spec PyProof.Rows
theorem ig:∀(names:List (Str×NameKind))(jp:List (Str×be))(x:Str)(c:be),(bq cells names jp).lookup x>c->(x,NameKind.free)∈names\/jp.lookup x>c
 |[],jp,x,c,e=>.inr e
 |(n,k)::r,jp,x,c,e=>by
  unfold bq at e;by_cases z:(k==NameKind.free)=true
  ·rw[L1 z]at e;have z:k=.free:= ~~~z
   subst z;rcases ig r _ x c e with h|h
   ·exact .inl (k8 _ h)
   ·by_cases y:x=n
    ·subst y;exact .inl (o7 ..)
    ·rw[y7]at h;have:(x==n)=false:= ~~~y
     rw[this]at h;exact .inr h
  ·rw[L7 z]at e;rcases ig r _ x c e with h|h
   ·exact .inl (k8 _ h)
   ·exact .inr h
end L2
namespace L3
open L2
def sw.TR{C:CM}(e:∀b o,ip M C b>o->M' b>o)(n:∀b d,C b>d->M b=none):∀b o,M b>o->fF M' C b>o:=IM e n
end L3
namespace KK
open L3 L4 L5
def Ak:fM:=λ ds M Q=>∃ns:List Int,ds=[.fl (ns.map D.int)]/\∀f c M',Flow M' f c->sw M M'->Q `C M'
def tR{x:XM}(F:Fl f c M M')(h:M b>(.dE x))(hf:Flow M f c):M' b>(.dE x):=by refine F.mv b _ (λ z=>?_) h;subst z;let#[ns,p,bb,sd,ct,h1,_]:=hf;rw[h]at h1;cases h1
end KK
namespace L2
abbrev Cw(l:List Nat):Prop:=l.Pairwise (· < ·)
def mh{l:List Nat}(h:Cw l){x:Nat}(hi:l[i]?>x)(hj:l[j]?>y)(lt:i<j):x<y:=by let#[a,ha]:=g9.mp hi;let#[b,hb]:=g9.mp hj;have:=pairwise_iff_getElem.mp h i j a b lt;rw[ha,hb]at this;exact this
theorem qq{xs:Array Nat}(h:Cw xs.toList):∀(fuel lo hi:Nat),lo<=hi->hi<=xs.size->hi-lo<=fuel->(∀(i:Nat)(v:Nat),i<lo->xs.toList[i]?>v->v<j)->(∀(i:Nat)(v:Nat),hi<=i->xs.toList[i]?>v->j<=v)->
  SetTable.below.go xs j fuel lo hi<=xs.size/\(∀(i:Nat)(v:Nat),i<SetTable.below.go xs j fuel lo hi->xs.toList[i]?>v->v<j)/\(∀(i:Nat)(v:Nat),SetTable.below.go xs j fuel lo hi<=i->xs.toList[i]?>v->j<=v)
 |0,lo,hi,h1,h2,h3,h4,h5=>by
  have:lo=hi:=()
  subst this;exact#[h2,h4,h5]
 |fuel+1,lo,hi,h1,h2,h3,h4,h5=>by
  unfold SetTable.below.go;by_cases hl:lo<hi
  ·rw[L1 hl];have hm:(lo+hi)/2<xs.size:=()
   have hg:xs.getD ((lo+hi)/2) j=xs[(lo+hi)/2]:=by simp[Array.getD,hm]
   have hv:xs.toList[(lo+hi)/2]?>xs[(lo+hi)/2]:=by rw[k4,c8 hm]
   dsimp only;rw[hg];by_cases hc:xs[(lo+hi)/2]<j
   ·rw[L1 hc];refine qq h fuel _ hi () h2 () (λ i v um e=>?_) h5;by_cases z:i=(lo+hi)/2
    ·subst z;rw[hv]at e;cases e;exact hc
    ·exact Nat.lt_trans (mh h e hv ()) hc
   ·rw[L7 hc];refine qq h fuel lo _ () () () h4 (λ i v um e=>?_);by_cases z:i=(lo+hi)/2
    ·subst z;rw[hv]at e;cases e;lia
    ·have:=mh h hv e ();lia
  ·rw[L7 hl];have:lo=hi:=()
   subst this;exact#[h2,h4,h5]
def jo{xs:Array Nat}(h:Cw xs.toList)(j:Nat):SetTable.below xs j<=xs.size/\(∀(i:Nat)(v:Nat),i<SetTable.below xs j->xs.toList[i]?>v->v<j)/\(∀(i:Nat)(v:Nat),SetTable.below xs j<=i->xs.toList[i]?>v->j<=v):=
 qq h xs.size 0 xs.size (J9 _) `G () (λ i v h=>bi h ()) λ i v h e=>by rw[k7 (m9>=h)]at e;cases e
def below_at{xs:Array Nat}(h:Cw xs.toList)(e:xs.toList[i]?>j):SetTable.below xs j=i:=by
 let#[_,h1,h2]:=jo h j;refine C5 (y8 λ z=>?_) (y8 λ z=>?_)
 ·exact D8 _ (h1 i j z e)
 ·have hl:=(g9.mp e).1;have e2:=i5 (l:=xs.toList) (i:=SetTable.below xs j) ();have a:=h2 _ _ `G e2;have b:=mh h e2 e z;lia
def zE{xs:Array Nat}(h:Cw xs.toList)(e:xs.toList[i]?>j):SetTable.below xs (j+1)=i+1:=by
 let#[h0,h1,h2]:=jo h (j+1);have hl:=(g9.mp e).1;refine C5 (y8 λ z=>?_) (y8 λ z=>?_)
 ·have hs:i+1< -xs.toList:=by rw[m9];lia
  have e2:=i5 hs;have a:=h1 (i+1) _ z e2;have b:=mh h e e2 ();lia
 ·have:=h2 i j () e;lia
def zD{xs:Array Nat}(h:Cw xs.toList):SetTable.below xs 0=0:=by
 let#[h0,h1,h2]:=jo h 0;refine Decidable.byContradiction λ z=>?_;have hs:0< -xs.toList:=by rw[m9];lia
 exact bi (h1 0 _ () (i5 hs)) ()
def rL(h:Cw t.place.toList)(e:t.place.toList[i]?>j):t.slot j=.live i:=by unfold SetTable.slot;dsimp only;rw[below_at h e,<- k4,e];simp
def xY(hd:t.dummies=([].toArray))(h:Cw t.place.toList)(n:j∉t.place.toList):t.slot j=.empty:=by
 unfold SetTable.slot;dsimp only;have:(t.place[SetTable.below t.place j]?==some j)=false:=by rw[beq_eq_false_iff_ne];intro e;rw[<- k4]at e;exact n (k9 e)
 rw[this,hd];simp[SetTable.has,SetTable.below]
def Kv{xs:Array Nat}(h:Cw xs.toList)(n:j∉xs.toList):Cw (SetTable.insertAt xs (SetTable.below xs j) j).toList:=by
 rw[SetTable.toList_insertAt];let#[h0,h1,h2]:=jo h j;generalize SetTable.below xs j=b at*;have hp:Cw (xs.toList.take b++xs.toList.drop b):=take_append_drop>=h
 unfold Cw at hp ⊢;rw[pairwise_append]at hp ⊢;refine#[hp.1,pairwise_cons.mpr #[λ y hy=>?_,hp.2.1],λ x hx y hy=>?_]
 ·let#[i,hi]:=ci hy;rw[getElem?_drop]at hi;have:=h2 (b+i) y () hi;by_cases z:j=y
  ·subst z;exact bi (k9 hi) n
  ·lia
 ·let#[i,hi]:=ci hx;have hib:i<b:=by have:=(g9.mp hi).1;rw[A3]at this;lia
  rw[getElem?_take_of_lt hib]at hi;have hxj:=h1 i x hib hi;rcases E8.mp hy with rfl|hy
  ·exact hxj
  ·exact hp.2.2 x hx y hy
def AW{xs:Array Nat}{p:Nat}:k∈(SetTable.insertAt xs p j).toList↔k=j\/k∈xs.toList:=by have:=(SetTable.insertAt_perm xs p j).mem_iff (a:=k);rw[this,Array.toList_push,C3,q8];exact#[λ h=>h.symm,λ h=>h.symm]
def o_(mask i:Nat):List Nat:=(List.range (SetTable.runEnd mask i+1-i)).map (i+·)
def jn(mask:Nat):Nat->Nat×Nat->List Nat
 |0,_=>[]
 |B+1,(i,pt)=>o_ mask i++jn mask B (SetTable.leap mask i pt)
def iV(mask B:Nat)(p:SetTable.Probe):List Nat:=(List.range (p.more+1)).map (p.j+·)++jn mask B (SetTable.leap mask p.i p.perturb)
def md(mask i:Nat):i<=SetTable.runEnd mask i/\SetTable.runEnd mask i<=i+9:=by unfold SetTable.runEnd;split<;>lia
def FU(mask i:Nat):1<=(o_ mask i).length/\(o_ mask i).length<=10:=by unfold o_;rw[C1,x9];have:=md mask i;lia
theorem qp(mask:Nat):∀(B:Nat)(q:Nat×Nat),(jn mask B q).length<=10*B
 |0,_=>J7 _
 |B+1,(i,pt)=>by show(o_ mask i++jn mask B (SetTable.leap mask i pt)).length<=_;rw[p4];have:=(FU mask i).2;have:=qp mask B (SetTable.leap mask i pt);lia
def pb{B pt:Nat}{d:Option Nat}:iV mask B {j:=i,more:=SetTable.runEnd mask i-i,i:=i,perturb:=pt,dummy:=d}=jn mask (B+1) (i,pt):=by unfold iV;show _=o_ mask i++jn mask B (SetTable.leap mask i pt);unfold o_;have:=md mask i;rw[show SetTable.runEnd mask i-i+1=SetTable.runEnd mask i+1-i by lia]
def Dp{B:Nat}{p:SetTable.Probe}(h:0<p.more):iV t.mask B p=p.j::iV t.mask B (t.advance p)/\(t.advance p).dummy=p.dummy:=by
 unfold SetTable.advance;rw[L1 h];refine#[?_,rfl];unfold iV;dsimp only;rw[range_succ_eq_map,D9,G8,A8,Nat.add_zero,show p.more-1+1=p.more by lia];have e:((p.j+·)∘Nat.succ)=(p.j+1+·):=funext λ x=>by show p.j+(x+1)=p.j+1+x;lia
 rw[e]
def Dq{B:Nat}{p:SetTable.Probe}(h:p.more=0):iV t.mask (B+1) p=p.j::iV t.mask B (t.advance p)/\(t.advance p).dummy=p.dummy:=by
 have hn:¬GT.gt p.more 0:=()
 unfold SetTable.advance;rw[L7 hn];refine#[?_,rfl];have e1:iV t.mask (B+1) p=(List.range (p.more+1)).map (p.j+·)++jn t.mask (B+1) (SetTable.leap t.mask p.i p.perturb):=rfl;rw[e1,h];show _::jn t.mask (B+1) ((SetTable.leap t.mask p.i p.perturb).1,(SetTable.leap t.mask p.i p.perturb).2)=_;rw[<- pb (d:=p.dummy)];rfl
def FZ{p:SetTable.Probe}(h:p.more=0):iV mask 0 p=[p.j]:=by unfold iV;rw[h];rfl
theorem Iq(hd:t.dummies=([].toArray))(hr:Cw t.place.toList){hashAt:Nat->Int}{h:Int}:∀(fuel B:Nat)(p:SetTable.Probe),(iV t.mask B p).length<=fuel->p.dummy=none->(∃e∈iV t.mask B p,e∉t.place.toList)->
  ∃pre j post,iV t.mask B p=pre++j::post/\(∀k∈pre,∃i,t.place.toList[i]?>k/\hashAt i≠h)/\
   ((j∉t.place.toList/\SetTable.probe.go t hashAt h fuel p>(.empty j none))\/
    (∃i B' next,t.place.toList[i]?>j/\hashAt i=h/\SetTable.probe.go t hashAt h fuel p>(.candidate j i next)/\next.dummy=none/\(post≠[]->iV t.mask B' next=post)))
 |0,B,p,hl,_,⟨e,he,_⟩=>by rw[j0.mp (Nat.le_zero.mp hl)]at he;cases he
 |fuel+1,B,p,hl,hp,⟨e,he,dQ⟩=>by
  have st:∃rest,iV t.mask B p=p.j::rest/\(t.advance p).dummy=none/\(rest≠[]->∃B',iV t.mask B' (t.advance p)=rest):=by
   by_cases hm:0<p.more
   ·let#[e1,e2]:=Dp (t:=t) (B:=B) hm;exact#[_,e1,e2.trans hp,λ _=>#[B,rfl]]
   ·have hm:p.more=0:=()
    cases B with
    |zero=>
     have:(t.advance p).dummy=p.dummy:=by unfold SetTable.advance;rw[L7 ()]
     exact#[[],FZ hm,this.trans hp,λ z=>bi rfl z]
    |succ B=>let#[e1,e2]:=Dq (t:=t) (B:=B) hm;exact#[_,e1,e2.trans hp,λ _=>#[B,rfl]]
  let#[rest,e1,e2,e3]:=st;rw[e1]at hl he ⊢;unfold SetTable.probe.go;by_cases hj:p.j∈t.place.toList
  ·let#[i,hi]:=ci hj;rw[rL hr hi];dsimp only;by_cases hh:hashAt i=h
   ·rw[L1 (~~~hh)];by_cases BB:rest=[]
    ·exact#[[],p.j,rest,rfl,λ k hk=>(by cases hk),.inr #[i,0,_,hi,hh,rfl,e2,λ z=>bi BB z]]
    ·let#[B',VP]:=e3 BB;exact#[[],p.j,rest,rfl,λ k hk=>(by cases hk),.inr #[i,B',_,hi,hh,rfl,e2,λ _=>VP]]
   ·rw[L7 (~~~hh)];have W4:e∈rest:=by
     rcases E8.mp he with z|z
     ·subst z;exact bi hj dQ
     ·exact z
    let#[B',VP]:=e3 (ne_nil_of_mem W4);let#[pre,j,post,f1,f2,f3]:=Iq hd hr fuel B' (t.advance p) (by rw[VP];simpa using hl) e2 #[e,VP>=W4,dQ];rw[VP]at f1;refine#[p.j::pre,j,post,by rw[f1];rfl,λ k hk=>?_,f3];rcases E8.mp hk with rfl|z
    ·exact#[i,hi,hh]
    ·exact f2 k z
  ·rw[xY hd hr hj];dsimp only;rw[hp];exact#[[],p.j,rest,rfl,λ k hk=>(by cases hk),.inl #[hj,rfl]]
def Xb(m i:Nat):Nat:=(i*5+1)%m
def yJ(m:Nat):Nat->Nat->Nat
 |0,i=>i
 |k+1,i=>yJ m k (Xb m i)
theorem nU(m:Nat):∀(a b i:Nat),yJ m (a+b) i=yJ m b (yJ m a i)
 |0,b,i=>by rw[H9];rfl
 |a+1,b,i=>by rw[Nat.add_right_comm];show yJ m (a+b) (Xb m i)=yJ m b (yJ m a (Xb m i));exact nU m a b _
def Yb(m:Nat):Nat->Nat->List Nat
 |0,_=>[]
 |k+1,i=>i::Yb m k (Xb m i)
theorem AL(m:Nat):∀(n i j:Nat),j∈Yb m n i->∃k,k<n/\yJ m k i=j
 |0,i,j,h=>by cases h
 |n+1,i,j,h=>by
  rcases E8.mp h with rfl|h
  ·exact#[0,Nat.succ_pos _,rfl]
  ·let#[k,hk,e]:=AL m n _ j h;exact#[k+1,Nat.succ_lt_succ hk,e]
abbrev NO(m:Nat):Prop:=m=7\/m=31\/m=127
def AM(h:NO m):((List.range (m+1)).all λ j=>(Yb (m+1) (m+1) 0).contains j)=true/\yJ (m+1) (m+1) 0=0:=by
 rcases h with rfl|rfl|rfl
 ·exact#[by decide+kernel,by decide+kernel]
 ·exact#[by decide+kernel,by decide+kernel]
 ·exact#[by decide+kernel,by decide+kernel]
def wq(h:NO m)(hj:j<=m):∃k,k<m+1/\yJ (m+1) k 0=j:=by have:=A9.mp (AM h).1 j (ce.mpr ());exact AL _ _ _ _ (~~~this)
def Mz(h:NO m)(hi:i<=m)(hj:j<=m):∃k,k<m+1/\yJ (m+1) k i=j:=by
 let#[a,ha,ea]:=wq h hi;let#[b,hb,eb]:=wq h hj;by_cases z:a<=b
 ·refine#[b-a,(),?_];rw[<- ea,<- nU,show a+(b-a)=b by lia];exact eb
 ·refine#[m+1-a+b,(),?_];rw[nU,<- ea,<- nU _ a (m+1-a),show a+(m+1-a)=m+1 by lia,(AM h).2];exact eb
def lp(mask:Nat):Nat->Nat×Nat->Nat×Nat
 |0,q=>q
 |k+1,q=>lp mask k (SetTable.leap mask q.1 q.2)
theorem Ht(m:Nat):∀(a b:Nat)(q:Nat×Nat),lp m (a+b) q=lp m b (lp m a q)
 |0,b,i=>by rw[H9];rfl
 |a+1,b,i=>Nat.add_right_comm>=Ht m a b _
theorem Oq:∀(k:Nat)(q:Nat×Nat),q.1<=m->(lp m k q).1<=m
 |0,_,h=>h
 |k+1,q,_=>Oq k _ (Nat.le_of_lt_succ (Nat.mod_lt _ (Nat.succ_pos _)))
theorem Hr:∀(k:Nat)(q:Nat×Nat),(lp m k q).2=q.2/32^k
 |0,q=>by rw[Nat.pow_zero,Nat.div_one];rfl
 |k+1,q=>by show(lp m k (SetTable.leap m q.1 q.2)).2=_;rw[Hr k,Nat.pow_succ,Nat.mul_comm,<- Nat.div_div_eq_div_mul];rfl
theorem Hs:∀(k i:Nat),lp m k (i,0)=(yJ (m+1) k i,0)
 |0,_=>rfl
 |k+1,i=>by show lp m k ((i*5+1+0/32)%(m+1),0/32)=_;exact Hs k _
def FT:i∈o_ m i:=by unfold o_;have:=md m i;exact G7.mpr #[0,ce.mpr (),rfl]
theorem Co:∀(B k:Nat)(q:Nat×Nat),k<B->(lp m k q).1∈jn m B q
 |0,k,q,h=>by lia
 |B+1,0,(i,pt),_=>l0 _ FT
 |B+1,k+1,(i,pt),h=>j8 _ (Co B k _ ())
def xl{pt:Nat}(h:NO m)(hi:i<=m)(hp:pt<2^64)(hj:j<=m):j∈jn m (m+15) (i,pt):=by
 have e:lp m 13 (i,pt)=((lp m 13 (i,pt)).1,0):=by refine Prod.ext rfl ?_;rw[Hr];exact Nat.div_eq_of_lt (p9 hp `c)
 let#[k,hk,ek]:=Mz h (Oq 13 (i,pt) hi) hj;have e2:(lp m (13+k) (i,pt)).1=j:=Ht>=(e>=(Hs>=ek))
 rw[<- e2];exact Co _ _ _ ()
def Py(hi:i<=m)(h:j∈o_ m i):j<=m:=by unfold o_ at h;let#[k,hk,rfl]:=G7.mp h;rw[ce]at hk;unfold SetTable.runEnd at hk;split at hk<;>lia
theorem om:∀(B:Nat)(q:Nat×Nat),q.1<=m->j∈jn m B q->j<=m
 |0,_,_,h=>by cases h
 |B+1,(i,pt),hi,h=>by
  rcases C3.mp h with h|h
  ·exact Py hi h
  ·exact om B _ (Nat.le_of_lt_succ (Nat.mod_lt _ (Nat.succ_pos _))) h
def Cp(h:Int):SetTable.bits h<2^64:=by unfold SetTable.bits;have:=B6 h (b:=2^64) `c;have:=p6 h (b:=2^64) `c;lia
def Di{l:List Nat}(h:-l<=m):∃j,j<=m/\j∉l:=by
 refine Decidable.byContradiction λ z=>?_;have hs:List.range (m+1)⊆l:=λ j hj=>by refine Decidable.byContradiction λ n=>z #[j,?_,n];have:=ce.mp hj;lia
 have:=bv nodup_range hs;rw[x9]at this;lia
structure Tab0(t:SetTable)(n:Nat):Prop where
 dm:t.dummies=([].toArray)
 N_:Cw t.place.toList
 sz:t.place.size=n
 le:∀j∈t.place.toList,j<=t.mask
 pl:t.plain=true
 WL:NO t.mask
def Lk(T:Tab0 t n)(hj:j<=t.mask)(nj:j∉t.place.toList):Tab0 (t.put j).1 (n+1)/\(t.put j).1.mask=t.mask/\(t.put j).1.led=t.led:=by
 have hd:SetTable.has t.dummies j=false:=by rw[T.dm];simp[SetTable.has,SetTable.below]
 unfold SetTable.put;dsimp only;rw[hd];refine#[#[T.dm,Kv T.N_ nj,?_,λ k hk=>?_,T.pl,T.WL],rfl,rfl]
 ·have:=(SetTable.insertAt_perm t.place (SetTable.below t.place j) j).length_eq;rw[m9,m9,Array.size_push,T.sz]at this;exact this
 ·rcases AW.mp hk with rfl|hk
  ·exact hj
  ·exact T.le k hk
theorem Tab0.fits(T:Tab0 t n)(hn:n<=t.mask):t.fits n=true:=by unfold SetTable.fits SetTable.fill;rw[T.sz,T.dm];simp[hn]
def tQ(mask:Nat)(owner:Array (Option Nat)):List Nat:=(List.range (mask+1)).filterMap λ j=>owner.getD j none
theorem qc{f g:Nat->Option Nat}:∀(l:List Nat),(∀j∈l,f j=g j)->l.filterMap f=l.filterMap g
 |[],_=>rfl
 |a::l,h=>by rw[o6,o6,h a o7,qc l λ j hj=>h j (k8 _ hj)]
theorem IB{f:Nat->Option Nat}:∀(l:List Nat),(∀j∈l,f j≠none)->(l.filterMap f).length=-l
 |[],_=>rfl
 |a::l,h=>by
  cases e:f a with
  |none=>exact bi e (h a o7)
  |some b=>rw[filterMap_cons_some e,y9,y9,IB l λ j hj=>h j (k8 _ hj)]
def GU(hs:owner.size=mask+1)(hp:(tQ mask owner).Perm (List.range k))(hk:k<=mask):∃j,j<=mask/\(owner.getD j (some 0)).isNone=true:=by
 refine Decidable.byContradiction λ z=>?_;have:=IB (f:=λ j=>owner.getD j none) (List.range (mask+1)) λ j hj e=>by
  have lt:=ce.mp hj;refine z #[j,(),?_];have h1:j<owner.size:=()
  simp only[Array.getD,h1,dite_true]at e ⊢;rw[e];rfl
 have h2:(tQ mask owner).length=k:=by rw[hp.length_eq,x9]
 unfold tQ at h2;rw[x9]at this;lia
def LG(hs:owner.size=mask+1)(hp:(tQ mask owner).Perm (List.range k))(hj:j<=mask)(hn:(owner.getD j (some 0)).isNone=true): (owner.setIfInBounds j (some k)).size=mask+1/\(tQ mask (owner.setIfInBounds j (some k))).Perm (List.range (k+1)):=by
 refine#[Array.size_setIfInBounds>=hs,?_];have h1:j<owner.size:=()
 have hnn:owner.getD j none=none:=by simp only[Array.getD,h1,dite_true]at hn ⊢;exact Option.isNone_iff_eq_none.mp hn
 let#[l1,l2,e]:=append_of_mem (ce.mpr (show j<mask+1 by lia));have nd:(l1++j::l2).Nodup:=by rw[<- e];exact nodup_range
 have n1:j∉l1:=λ z=>by have:=(nodup_append.mp nd).2.2 j z j o7;exact this rfl
 have n2:j∉l2:=(nodup_cons.mp (nodup_append.mp nd).2.1).1;have dE:∀i,i≠j->(owner.setIfInBounds j (some k)).getD i none=owner.getD i none:=λ i hi=>by
  simp only[Array.getD,Array.size_setIfInBounds];by_cases h2:i<owner.size
  ·simp only[h2,dite_true];have:(owner.setIfInBounds j (some k))[i]?=owner[i]?:=by rw[Array.getElem?_setIfInBounds,L7 (K9 hi)]
   rw[c8 h2,c8 (Array.size_setIfInBounds>=h2)]at this;exact B7 this
  ·simp only[h2,dite_false]
 have at':(owner.setIfInBounds j (some k)).getD j none>k:=by
  simp only[Array.getD,Array.size_setIfInBounds,h1,dite_true];have:(owner.setIfInBounds j (some k))[j]?>(some k):=by rw[Array.getElem?_setIfInBounds,L1 rfl,L1 h1]
  rw[c8 (Array.size_setIfInBounds>=h1)]at this;exact B7 this
 unfold tQ at hp ⊢;rw[e,filterMap_append,filterMap_cons_none (f:=λ j=>owner.getD j none) hnn]at hp;rw[e,filterMap_append,filterMap_cons_some (f:=λ i=>(owner.setIfInBounds j (some k)).getD i none) at',qc l1 λ i hi=>dE i λ z=>n1 (z▸hi),qc l2 λ i hi=>dE i λ z=>n2 (z▸hi),range_succ];exact perm_middle.trans ((hp.cons k).trans (perm_append_singleton k (List.range k)).symm)
theorem pM(f:Nat->Option Nat):∀l:List Nat,((l.filterMap λ j=>(f j).map (j,·)).map (·.1)).Sublist l
 |[]=>.slnil
 |a::l=>by
  cases e:f a with
  |none=>rw[filterMap_cons_none (by rw[e];rfl)];exact(pM f l).cons a
  |some b=>rw[filterMap_cons_some (b:=(a,b)) (by rw[e];rfl),D9];exact(pM f l).cons₂ a
theorem pL(f:Nat->Option Nat):∀l:List Nat,(l.filterMap λ j=>(f j).map (j,·)).map (·.2)=l.filterMap f
 |[]=>rfl
 |a::l=>by
  cases e:f a with
  |none=>rw[filterMap_cons_none (by rw[e];rfl),filterMap_cons_none e];exact pL f l
  |some b=>rw[filterMap_cons_some (b:=(a,b)) (by rw[e];rfl),D9,filterMap_cons_some e,pL f l]
structure Tab(t:SetTable)(n:Nat):Prop extends Tab0 t n where
 Tu:(t.mask=7/\n<=4)\/(t.mask=31/\n<=18)\/(t.mask=127/\n<=76)
def Tab.fit(T:Tab t n):t.fits n=true:=T.fits (by have:=T.Tu;lia)
def Df(f m:Nat)(led:Bool):Tab (.fresh f m led) 0:=#[#[rfl,List.Pairwise.nil,rfl,λ j h=>(by cases h),rfl,.inl rfl],.inl #[rfl,J9 _]]
def mK(T:Tab0 t n):t.tooFull=decide (GE.ge (n*5) (t.mask*3)):=by unfold SetTable.tooFull SetTable.fill;rw[T.dm,T.sz];rfl
open PySem.Spec PyProof.Rows
abbrev fi(es:Array (Int×ac))(ep:Nat)(t:SetTable):Obj:={cls:=.type "set",dict:=none,data:=.set es ep t}
def vy{h:Heap}{es es':Array (Int×ac)}{t':SetTable}(ho:h.get? a>fi es ep t):(h.update a (Obj.putSet es' t')).get? a>fi es' (ep+1) t':=by have:=j7 (Obj.putSet es' t') ho (by rw[putSet_of es' t' rfl];rfl);rw[putSet_of es' t' rfl]at this;exact this
def xk(w:World):Bool:=w.params.followText "set-order"
abbrev f'(w:World):Obj:=fi ([].toArray) 0 (.fresh 0 0 (!xk w))
def Mc(a:ac)(h:Q (.ref s⁻¹) {s with heap:=s.heap.push (f' w)}):codeAny `d A (.call (.builtin "set.__new__") #[[.type "set",a],[]]) (wants Q E) s:=by
 refine codeAny_of_tree ?_;show wpAny _ A.in1 (checkBuiltinCall "set.__new__" #[[.type "set",a],[]]>>=λ _=>again (.builtin "set.__new__" #[[.type "set",a],[]])) _ _ s;refine K1 (wpAny_of_eq (F.newCall_set_1 a) (K3 #[G0 F.plain_set_new _,B9 F.entry_set_new ?_]));rw[l5 F.plain_set_new _];unfold Builtin.«set.__new__» Builtin.Frozenset.newClass;have m_:=sub_set_self;let#[hp,g,d,tk,os]:=s;dsimp only
 wp_walk
 refine wpAny_askSetting (K3 ?_);dsimp only;simp only[newObj];refine K1 (wpAny_alloc (K3 ?_));exact K3 h
def zw{T newId yN:String}{Bi:Builtin}{args:List ac}{Q Q₁:ac->bd->Prop}(ft:TypeCalled T newId yN)(hct:checkTypeCall T #[args,[]]=pure .unit)(Sj:entryFor table yN>Bi)(Ig:codeAny `d A.in1 (.call (.builtin newId) #[.type T::args,[]]) (wants Q₁ E) s) (Vw:∀obj s₁,Q₁ obj s₁->s₁.TypeIs obj T/\wpAny `d A.in1.in1 (checkBuiltinCall yN #[obj::args,[]]) (λ _ s₁=>wpAny `d A.in1.in1 (Bi #[obj::args,[]])
    (λ fin s'=>match fin with| .done f=>wants (λ r s₂=>r=.none/\Q obj s₂) E (.ok f) s'| .again c'=>c'.quiet=true/\codeAny `d A.in1 c' (wants (λ r s₂=>r=.none/\Q obj s₂) E) s')
    (λ e s'=>wants (λ r s₂=>r=.none/\Q obj s₂) E (.error e) s') s₁) (λ e s'=>wants (λ r s₂=>r=.none/\Q obj s₂) E (.error e) s') s₁):
  wpAny `d A (call (.type T) args) Q E s:=by
 let#[c,tl,acU]:=ft.mro;have aa0:=ft.made;have m_:=ft.sub;refine wpAny_call (codeAny_of_tree ?_);show wpAny _ _ (callAny (.type T) _) _ _ _;refine K3 #[Code.quiet_builtin _ (by decide+kernel),B9 F.entry_type_call ?_];rw[Around.under_plain (weight_type_call_type T args []) rfl];have h1:=ft.notType;have h2:=ft.canCreate
 repeat(any_goals (first|assumption|wp_step))
 refine J4 Ig λ r s₁ hr=>?_;cases r with
 |error e=>exact hr
 |ok fl=>
  cases fl with
  |ret obj=>
   let#[hT,aX]:=Vw _ _ hr;have hli:=ft.init.lookup;have hbi:=ft.init.bind obj
   repeat(any_goals (first|assumption|wp_step))
   refine J4 (codeAny_call_builtin ft.init.plain Sj aX) λ r₂ s₂ YR=>?_;cases r₂ with
   |error e=>exact YR
   |ok fl=>
    cases fl with
    |ret r=>
     let#[rfl,hq]:=YR
     repeat(any_goals (first|assumption|wp_step))
    |_=>exact YR.elim
  |_=>exact hr.elim
open PySem.W PySem.Calls
theorem AG(next:Nat->Nat):∀(fuel k:Nat)(left:List α)(out:Array α),-left=fuel->(pickOrder.go next fuel k left out).toList.Perm (out.toList++left)
 |0,k,left,out,h=>j0.mp h>=(B1>=List.Perm.refl _)
 |fuel+1,k,left,out,h=>by
  unfold pickOrder.go;have lt:next k%-left< -left:=Nat.mod_lt _ ()
  rw[i5 lt];dsimp only;refine(AG next fuel (k+1) _ _ (by rw[length_eraseIdx_of_lt lt];lia)).trans ?_;rw[Array.toList_push,x6];refine List.Perm.append_left _ ?_;rw[singleton_append];have e:=take_append_drop (next k%-left) left;rw[c9 lt]at e;rw[eraseIdx_eq_take_drop_succ];generalize left[next k%-left]=x at*
  conv=>rhs;rw[<- e]
  exact perm_middle.symm
def DA(next:Nat->Nat)(xs:Array α):(pickOrder next xs).toList.Perm xs.toList:=AG next xs.size 0 xs.toList ([].toArray) (m9)
def iu(w:World)(a:be)(ep:Nat)(es:Array (Int×ac)):Array (Int×ac):=if xk w then pickOrder (w.params.setOrder a ep) es else es
def oG(w:World)(a:be)(ep:Nat)(es:Array (Int×ac)):(iu w a ep es).toList.Perm es.toList:=by
 unfold iu;split
 ·exact DA _ _
 ·exact List.Perm.refl _
def oF(w:World)(a:be)(ep:Nat)(es:Array (Int×ac)):(iu w a ep es).size=es.size:=by
 have:=(oG w a ep es).length_eq
 rwa [m9,m9]at this
def oX:entryFor table "set.__iter__">Builtin.«frozenset.__iter__»:=entryFor_alias (id':="frozenset.__iter__") `w rfl (by decide+kernel) `w
def dg:Slot "set_iterator" "__next__" "set_iterator.__next__":=
 .of (owner:="set_iterator") (n:="__next__") (by rw[typeLookup_type,builtinLookup_eq_fast];kernel_rfl) (by decide+kernel) (by decide+kernel) (by decide+kernel)
  (by first|exact .inl (by decide+kernel)|exact .inr (by decide+kernel)) (by rw[isSubtype_type];kernel_rfl)
def kR:Slot "set_iterator" "__iter__" "set_iterator.__iter__":=
 .of (owner:="set_iterator") (n:="__iter__") (by rw[typeLookup_type,builtinLookup_eq_fast];kernel_rfl) (by decide+kernel) (by decide+kernel) (by decide+kernel)
  (by first|exact .inl (by decide+kernel)|exact .inr (by decide+kernel)) (by rw[isSubtype_type];kernel_rfl)
def jW:entryFor table "set_iterator.__next__">Builtin.«set_iterator.__next__»:=entryFor_of_tree `w
def qJ:entryFor table "set_iterator.__iter__">Builtin.«dict_keyiterator.__iter__»:=entryFor_alias (id':="dict_keyiterator.__iter__") `w rfl (by decide+kernel) `w
def vB:Manifest.owners.lookup (String.ofList ['r','o','t','a','r','e','t','i','_','t','e','s'].reverse)>Manifest.sig_set_iterator:=by kernel_rfl
def kU(a:ac):argsOk "set_iterator.__next__" #[[a],[]]:=by unfold argsOk;rw[signature?_of (id:="set_iterator.__next__") (n:=['_','_','t','x','e','n','_','_']) (o:=['r','o','t','a','r','e','t','i','_','t','e','s']) `w vB];kernel_rfl
def sZ(a:ac):argsOk "set_iterator.__iter__" #[[a],[]]:=by unfold argsOk;rw[signature?_of (id:="set_iterator.__iter__") (n:=['_','_','r','e','t','i','_','_']) (o:=['r','o','t','a','r','e','t','i','_','t','e','s']) `w vB];kernel_rfl
abbrev siO(sl i:Nat)(a:be)(n ep:Nat):Obj:={cls:=.type "set_iterator",data:=.fields ([.int sl 0,.int i 0,.ref a,.int n 0,.int ep 0].toArray)}
section
variable {I:be}{es:Array (Int×ac)}
def vD{sl:Nat}{Q:Option (ac×Nat)->bd->Prop}(ho:s.heap.get? a>fi es ep t)(T:Tab t es.size)(hl:t.led=!xk w)(hs:xk w=false->SetTable.below t.place sl=i)(h:∀Kk:Nat,(xk w=false->i<es.size->SetTable.below t.place Kk=i+1)->Q ((iu w a ep es)[i]?.map λ e=>(e.2,Kk)) s):wpAny `d A (setNext a sl i ep) Q E s:=by
 unfold setNext;refine K1 (wpAny_setState_of ho rfl T.fit ?_);dsimp only;unfold setsByText;refine K1 (K1 (wpAny_askSetting (K3 ?_)));show wpAny _ _ (if xk w=true then _ else _) _ _ s;cases hb:xk w with
 |true=>
  rw[L1 rfl,L7 `g];refine K1 ?_;unfold setWalk;refine K1 (wpAny_setState_of ho rfl T.fit ?_);dsimp only;unfold setsByText;refine K1 (K1 (wpAny_askSetting (K3 ?_)));show wpAny _ _ (if xk w=true then _ else _) _ _ s;rw[hb,L1 rfl];refine K1 (wpAny_askSetting (K3 (K3 ?_)));have:=h sl λ z=>by rw[hb]at z;cases z
  unfold iu at this;rw[hb,L1 rfl]at this;exact this
 |false=>
  rw[L7 `c];refine wpAny_ite_split (λ z=>bi z ?_) λ _=>?_
  ·show ¬((!t.plain&&decide (GT.gt es.size 1))=true);rw[T.pl];simp
  refine K1 ?_;show wpAny _ _ (if(!t.led&&!es.isEmpty)=true then _ else _) _ _ s;rw[hl,hb,L7 `g];refine K3 ?_;rw[hs hb];have e2:iu w a ep es=es:=by unfold iu;rw[hb];rfl
  rw[e2]at h;by_cases lt:i<es.size
  ·have EB:i<t.place.size:=T.sz>=lt
   have:=h (t.place[i]+1) λ _ _=>zE T.N_ (by rw[k4,c8 EB]);rw[c8 lt]at this ⊢;rw[c8 EB];exact K3 this
  ·have:=h 0 λ _ z=>bi z lt;rw[j3 (y8 lt)]at this ⊢;exact K3 this
def Jo(w:World)(I a:be)(es:Array (Int×ac))(ep:Nat)(t:SetTable)(i:Nat)(h:Heap):Prop:=∃sl:Nat,h.get? I>siO sl i a es.size ep/\h.get? a>fi es ep t/\(xk w=false->SetTable.below t.place sl=i)
def Km{e:Int×ac}{Q:Option ac->bd->Prop}(ne:a≠I)(T:Tab t es.size)(hl:t.led=!xk w)(st:Jo w I a es ep t i s.heap)(lt:i<es.size)(he:(iu w a ep es)[i]?>e)(hQ:∀h',Jo w I a es ep t (i+1) h'->Heap.SameBut I s.heap h'->Q (some e.2) {s with heap:=h'}):wpAny `d A (pyNext (.ref I)) Q E s:=by
 let#[sl,hI,ha,hb]:=st;have hT:s.TypeIs (.ref I) "set_iterator":=#[_,hI,rfl];unfold pyNext;refine K1 (D6 (i9 (name:=Str.ofString "__next__") hT dg (A1 dg hT jW ?_ (kU _))));refine K1 (K3 ?_);refine K1 (wpAny_fieldsOf hI rfl ?_);dsimp only;refine K1 (wpAny_setEntries_of ha rfl T.fit ?_);rw[L7 `g];rw[show((i:Int)).toNat=i from x3 i,show((ep:Int)).toNat=ep from x3 ep,show((sl:Int)).toNat=sl from x3 sl];refine K1 (vD ha T hl hb λ Kk fT=>?_);rw[he];dsimp only[Option.map];refine K1 (D4 hI rfl `g ?_);have h1:=j7 (Obj.mapFields (·.setIfInBounds 0 (rawInt Kk))) hI rfl;refine K1 (D4 h1 rfl (by simp[Obj.mapFields]) ?_);have h2:=j7 (Obj.mapFields (·.setIfInBounds 1 (rawInt ((i:Int)+1)))) h1 rfl;have sb:=(l8 s.heap I (Obj.mapFields (·.setIfInBounds 0 (rawInt Kk)))).trans (l8 _ I (Obj.mapFields (·.setIfInBounds 1 (rawInt ((i:Int)+1)))));refine K3 #[_,rfl,K3 (hQ _ #[Kk,?_,?_,λ z=>fT z lt] sb)]
 ·exact h2
 ·rw[sb.2 a ne];exact ha
def Pu{Q:Option ac->bd->Prop}(hh:A.handled=none)(T:Tab t es.size)(hl:t.led=!xk w)(st:Jo w I a es ep t es.size s.heap)(hQ:∀h',Heap.ExtBut I s.heap h'->Q none {s with heap:=h'}):wpAny `d A (pyNext (.ref I)) Q E s:=by let#[sl,hI,ha,hb]:=st;have hT:s.TypeIs (.ref I) "set_iterator":=#[_,hI,rfl];unfold pyNext;refine K1 (D6 (i9 (name:=Str.ofString "__next__") hT dg (A1 dg hT jW ?_ (kU _))));refine K1 (K3 ?_);refine K1 (wpAny_fieldsOf hI rfl ?_);dsimp only;refine K1 (wpAny_setEntries_of ha rfl T.fit ?_);rw[L7 `g];rw[show((es.size:Int)).toNat=es.size from x3 _,show((ep:Int)).toNat=ep from x3 ep,show((sl:Int)).toNat=sl from x3 sl];refine K1 (vD ha T hl hb λ Kk fT=>?_);rw[j3 (oF>=J7 _)];dsimp only[Option.map];refine K1 (D4 hI rfl `g ?_);show wpAny _ _ (newExc (.type "StopIteration") []>>=_) _ _ _;refine K1 ?_;simp only[newExc,newTuple];refine K1 (x4 ?_ (by size_fits));refine K1 (m:=firstArgMember _ _) (wpAny_of_eq (a:=Value.none) (by first|rfl|(simp only[firstArgMember];rfl)) ?_);refine x4 ?_ (by size_fits);simp only[raiseNew];refine K1 (wpAny_handled ?_);rw[show A.in1.handled=none from hh];refine K1 (K3 (wpAny_throw ?_));refine K1 (A7 (T:="StopIteration") (b:=true) #[_,n5 _ rfl,rfl] isSubtype_stop ?_);exact K3 (hQ _ (((l8 ..).extBut.push _).push _))
def Kl(st:Jo w I a es ep t i s.heap)(h:Q (.ref I) s):wpAny `d A (pyIter (.ref I)) Q E s:=by let#[sl,hI,ha,hb]:=st;have hT:s.TypeIs (.ref I) "set_iterator":=#[_,hI,rfl];refine wpAny_pyIter_slot hT kR (A1 kR hT qJ ?_ (sZ _));exact K3 #[_,rfl,"set_iterator",_,hT,dg.lookup,h]
def CV(hh:A.handled=none)(I a:be)(ne:a≠I)(T:Tab t es.size)(hl:t.led=!xk w):Walks prog w A I [I,a] [I] es.size (λ i v=>∃e,(iu w a ep es)[i]?>e/\e.2=v) (Jo w I a es ep t) where
 sub:=λ b hb=>by simp at hb;simp[hb]
 frame:=λ _ _ _ st hk=>let⟨sl,h1,h2,h3⟩:=st;#[sl,hk I `g _ h1,hk a `g _ h2,h3]
 item:=λ i s Q E hi st hQ=>by
  have lt:i<(iu w a ep es).size:=oF>=hi
  exact Km ne T hl st hi (c8 lt) λ h' iR sb=>hQ _ h' s.toks #[_,c8 lt,rfl] iR λ b o hb e=>by rw[sb.2 b λ z=>hb (by simp[z])];exact e
 done:=λ s Q E st hQ=>Pu hh T hl st λ h' W4=>hQ h' s.toks λ b o hb e=>W4 b o (λ h=>hb (by simp[h])) e
 self:=λ _ _ _ _ st hQ=>Kl st hQ
def FI(ha:s.heap.get? a>fi es ep t)(T:Tab t es.size)(hQ:Q (.ref s⁻¹) {s with heap:=s.heap.push (siO 0 0 a es.size ep)}):wpAny `d A (pyIter `z) Q E s:=by have hT:s.TypeIs `z "set":=#[_,ha,rfl];refine wpAny_pyIter_slot hT F.slot_set_iter (A1 F.slot_set_iter hT oX ?_ (F.args_set_iter_1 _));unfold Builtin.«frozenset.__iter__» Builtin.Frozenset.slot0 Builtin.Frozenset.sizeOf;refine K1 (K1 (K3 ?_));refine K3 ?_;refine K1 (K1 (wpAny_setEntries_of ha rfl T.fit (K3 ?_)));refine K1 ?_;unfold setDrawn;refine K1 (wpAny_setState_of ha rfl T.fit ?_);dsimp only;unfold setsByText;refine K1 (K1 (wpAny_askSetting (K3 (K3 ?_))));show wpAny _ _ (if(!xk w&&(!t.plain&&decide (GT.gt es.size 1)))=true then _ else _) _ _ s;rw[T.pl,L7 `g];refine K1 (K3 ?_);unfold setEpoch;refine K1 (K1 (wpAny_setState_of ha rfl T.fit (K3 ?_)));refine K1 (x4 ?_ (by size_fits));exact K3 #[_,rfl,"set_iterator",_,#[_,n5 _ rfl,rfl],dg.lookup,hQ]
def FJ{Q:Bool->bd->Prop}(hT:s.TypeIs `z "set")(h:Q false s):wpAny `d A (Builtin.List.listLengthHint `z) Q E s:=by
 unfold Builtin.List.listLengthHint;refine K1 (C7 hT F.slot_set_len.lookup ?_);generalize hid:("set.__len__":String)=id0
 wp_delta
 rw[show splitId id0>("set","__len__")from by subst hid;decide+kernel];subst hid;refine K1 (A7 (T:="set") (b:=true) hT (by rw[isSubtype_type];kernel_rfl) ?_);refine wpAny_ite_split (λ OK=>bi OK `c) (λ _=>?_);refine wpAny_ite_split (λ _=>?_) (λ OK=>bi (by decide+kernel) OK);refine K1 (J3 hT ?_);exact K3 h
def Kf(T:Tab t es.size)(hl:t.led=!xk w):KdlSrc prog w "set" a a es.size (λ i v=>∃e,(iu w a ep es)[i]?>e/\e.2=v) (λ h=>h.get? a>fi es ep t) where
 type:=λ _ hm=>#[_,hm,rfl]
 there:=λ _ hm=>#[G5 hm,G5 hm]
 keep:=λ _ _ hm hk=>hk a (.inl rfl) _ hm
 notList:=by decide
 notTuple:=by decide
 hint:=λ _ _ _ _ hm hq=>FJ #[_,hm,rfl] hq
 iter:=λ _ s hh hm=>#[_,_,(λ _ _ hq=>FI hm T hq),CV hh _ a (G4 (G5 hm)) T hl,#[0,n5 _ rfl,j4 _ hm,λ _=>zD T.N_]]
end
end L2
namespace KK
open L3 L4 L5
open L2 hiding aG gb
abbrev kd(K:List Nat)(x:Nat):Nat:=K.getD x 0
abbrev kI(v:Nat):Int:=v
def HG{K:List Nat}{x:Nat}(h:x< -K):K[x]?>kd K x:=by unfold kd;rw[b8,i5 h];rfl
structure Wd(m h:Nat)(io:List Row)(K:List Nat):Prop where
 len:-K=m
 lt:∀x,x<m->kd K x<m
 Oz:∀x,x<m->kd K (kd K x)=kd K x
 iH:kd K 0=0
 xV:∀x z i,x<m->z<m->i<h->kd K x=kd K z->kd K (aE io i x)=kd K (aE io i z)
section
variable {h:Nat}{K:List Nat}
theorem Wd.di(G:cj m h io)(k:Wd m h io K):jP (λ s=>s<m/\kd K s=s) h (λ i s=>kd K (aE io i s)):=by
 refine#[λ x i hi hx=>?_,λ x i j hi hj hx=>?_]
 ·have:=G.di.cl x i hi hx.1;exact#[k.lt _ this,k.Oz _ this]
 ·have a:=G.di.cl x i hi hx.1;have b:=G.di.cl x j hj hx.1;show kd K (aE io i (kd K (aE io j x)))=kd K (aE io j (kd K (aE io i x)));rw[k.xV _ (aE io j x) i (k.lt _ b) b hi (k.Oz _ b),k.xV _ (aE io i x) j (k.lt _ a) a hj (k.Oz _ a),G.di.cm x i j hi hj hx.1]
set_option tactic.hygienic true in
def Wd.rcd(G:cj m h io)(k:Wd m h io K){x:Nat}(r:j_ (aE io) h 0 x):x<m/\j_ (λ i s=>kd K (aE io i s)) h 0 (kd K x):=by
 induction r with
 |zero=>exact#[G.tb.pos,k.iH>=.zero]
 |step r hi ih=>
  rename_i s i;refine#[G.di.cl _ _ hi ih.1,?_];have:=j_.step ih.2 hi
  rwa [k.xV _ s i (k.lt _ ih.1) ih.1 hi (k.Oz _ ih.1)]at this
end
def RD{α:Type}[DecidableEq α](T:List α)(t:α):Nat:=T.idxOf t
def fz{α:Type}[DecidableEq α](T:List α):List Nat:=T.map λ t=>RD T t
def wB[DecidableEq α](t:α)(l:List α):(t::l).idxOf t=0:=idxOf_cons_self
def nQ[DecidableEq α](T:List α):(fz T).length=-T:=by simp[fz]
def kh[DecidableEq α]{T:List α}{x:Nat}{t:α}(h:T[x]?>t):kd (fz T) x=RD T t:=by have lt:=(g9.mp h).1;have:=HG (K:=fz T) (x:=x) (nQ>=lt);unfold fz at this;rw[w6,h]at this;exact(B7 this).symm
def mj[DecidableEq α]{T:List α}{x:Nat}{t:α}(h:T[x]?>t):T[kd (fz T) x]?>t:=kh h>=fE (k9 h)
def FW{h:Nat}(G:Tb m h io){x:Nat}(hx:x<m):iN (io.map row) (x:Int)>(.tup ((io.getD x []).map D.int))/\(io.getD x []).length=h/\∀y∈io.getD x [],0<=y/\y<(m:Int):=by
 have h0:x< -io:=G.len>=hx
 rw[b8,i5 h0];exact#[bx (by rw[w6,i5 h0];rfl),G.row _ (A4 h0)]
def Vg{K:List Nat}{x:Nat}(h:x< -K):iN (K.map nD) (x:Int)>nD (kd K x):=bx (by rw[w6,HG h];rfl)
def As(x:Nat):N' x=nD x:=by show D.int (0+(x:Int))=_;rw[G1]
def rQ{x:Nat}(h:(List.range n)[i]?>x):x<n:=ce.mp (k9 h)
end KK
namespace L2
open PySem.Spec PyProof.Rows
def Pe(t:TE):TO:=λ σ H Q=>t σ H λ x H1=>(∃i,x=.int i/\Q (some i) H1)\/(x=.bf/\Q none H1)
def GC{te:TE}(h:PE X e te):PO X (some e) (Pe te):=by
 intro im s σ H Q I hw;rw[evalPart_some];refine cZ (h im s σ H _ I hw) λ u s1 ⟨x,H1,I1,r1,q1⟩=>?_;rcases q1 with⟨i,rfl,q⟩|⟨rfl,q⟩
 ·let#[t,rfl]:=r1;exact#[some i,H1,I1,.int i t,q]
 ·cases(show u=Value.none from r1);exact#[none,H1,I1,.none,q]
end L2
namespace L3
open PySem.Spec PyProof.Rows L2 L5
def ya(t:bU):JL:=λ δ M Q=>t δ M λ d M1=>match d with
 | .int i=>Q (some i) M1
 | .bf=>Q none M1
 |_=>False
def ET{ta:bU}(h:WE X e ta):WO X (some e) (ya ta):=⟨have h:=h.h;GD (GC h) λ σ H Q ⟨δ,M,Q2,hs,hm,q,k⟩=>by
 refine#[δ,M,_,hs,hm,q,λ x H1 d M1 hd bJ t1 q1=>?_];cases d with
 |int i=>exact .inl #[i,aq.mp hd,k _ _ _ bJ t1 q1]
 |bf=>exact .inr #[dh.mp hd,k _ _ _ bJ t1 q1]
 |_=>exact q1.elim⟩
end L3
namespace L4
open L2 L3
def vH{ta:bU}{QO:Option Int->Mem->Prop}(h:ta δ M λ d M1=>match d with| .int i=>QO (some i) M1| .bf=>QO none M1|_=>False):ya ta δ M QO:=h
end L4
namespace KK
open L2 L3 L4
def yf{Q:bK}(h:M a>`B)(q:∀p,M p=none->Q `j (af M p `B)):zk `z none none M Q:=Av h λ p hp=>by
 have e:cutD ds none none=ds:=by show(ds.drop 0).take (-ds-0)=ds;rw[drop_zero,Nat.sub_zero,A0]
 rw[e];exact q p hp
end KK
namespace L2
open PySem.Spec PyProof.Rows
section
variable {κ:Type}[DecidableEq κ]{knd:HeapKind prog w κ}
def mW{d:be}{xs:List (κ×be×ac)}{k:κ}{v:ac}(hu:knd.room A)(eW:knd.is s.heap k a)(hm:s.heap.DictOfH knd d xs)(h1:∀p,atKey xs k>p->Q p.2 {s with toks:=s.toks+knd.draws k})(h2:atKey xs k=none->∀h',h'.DictOfH knd d (storedH xs k a v)->Heap.SameBut d s.heap h'->Q v {s with heap:=h',toks:=s.toks+knd.draws k})(hsz:-xs<=sizeLine):wpAny `d A (dictSetDefault d `z v) Q E s:=by
 let#[o,es,ep,ho,hc,hd,he,his,hn]:=hm;unfold dictSetDefault
 try with_reducible refine D5 ?_
 refine K1 (knd.pyHash hu eW ?_);refine K1 (wpAny_dictFind_heap (s:={s with toks:=s.toks+knd.draws k}) hu eW ho hd he his hn ?_ ?_)
 ·intro MS;have MR:k∉xs.map (·.1):=not_mem_keys_of_get MS;have W7:=atKey_none_of_get MS;refine K1 (K4 (K1 (wpAny_updateDictKeys (hz:=by have e:=size_of_entries he;lia) (s:={s with toks:=s.toks+knd.draws k}) ho hd (K3 (h2 W7 _ ⟨_,_,ep+1,j7 _ ho (Obj.isFreed_of_dict (Obj.data_mapDictKeys hd _)),
   hc.mapDictKeys _,Obj.data_mapDictKeys hd _,?_,?_,?_⟩ (l8 ..))))))
  ·rw[storedH_new W7];simp[he,entryOfKey]
  ·rw[storedH_new W7];intro x hx;rcases C3.mp hx with hx|hx
   ·exact knd.keeps (his x hx) ho hd (l8 ..)
   ·rw[q8.mp hx];exact knd.keeps eW ho hd (l8 ..)
  ·rw[storedH_new W7,C4,nodup_append];refine#[hn,by simp,λ x hx y hy=>?_];simp only[D9,J1,q8]at hy;subst hy;exact λ e=>MR (e▸hx)
 ·intro j p hj;refine K1 (wpAny_dictEntries (s:={s with toks:=s.toks+knd.draws k}) ho hd ?_);have e1:es[j]?>entryOfKey knd (k,p):=by rw[<- k4,he,w6,hj];rfl
  rw[e1];exact K1 (K4 (K3 (h1 p (atKey_of_get hn hj))))
def qL(d a:be){k:κ}(hd:(d==sysModules)=false)(v:ac):
  MeetsIn prog w (Builtin.«dict.setdefault» #[[.ref d,.ref a,v],[]]) (λ A R s=>knd.room A.in1/\∃xs,knd.is s.heap k a/\s.heap.DictOfH knd d xs/\-xs<=sizeLine/\
   (∀p,atKey xs k>p->R (.ok (.ret p.2)) {s with toks:=s.toks+knd.draws k})/\
   (atKey xs k=none->∀h',h'.DictOfH knd d (storedH xs k a v)->Heap.SameBut d s.heap h'->R (.ok (.ret v)) {s with heap:=h',toks:=s.toks+knd.draws k})):=
 .of_wp λ A R s ⟨hu,xs,hk,hm,hz,h1,h2⟩=>by unfold Builtin.«dict.setdefault»;refine K1 ?_;unfold Builtin.Dict.keyAndDefault;refine K1 (wpAny_notOrdered_dict hm.typeIs ?_);show wpAny _ _ (pure (d,Value.ref a,some v)) _ _ s;refine K3 ?_;show wpAny _ _ (if(d==sysModules)=true then _ else(dictSetDefault d `z v>>=_)) _ _ s;rw[L7 (hd>=o8)];exact K1 (mW hu hk hm (λ p hp=>K3 #[_,rfl,h1 p hp]) (λ hn h' eV fT=>K3 #[v,rfl,h2 hn h' eV fT]) hz)
end
def Gx(K:L8):V->List V->Hp->VK->Prop:=λ x vs H Q=>∃a b kvs k v,x=.ref a/\vs=[.ref b,v]/\mJ K H a kvs/\k.dep<=5/\eS K H k (.ref b)/\-kvs<sizeLine/\(∀u,gy kvs k>u->Q u H)/\(gy kvs k=none->Q v (u8 H a (nk a (iJ kvs k b v))))
def yA(hu:e_ X):TF X "dict.setdefault" (Gx X.K):=by
 intro im s σ H x xs v us Q I rx rs ⟨a,b,kvs,k,y,e1,e2,dk,hk,qC,hz,q1,q2⟩;subst e1;subst e2;cases(show v=Value.ref a from rx);let#[u,r,rfl,ru,rr]:=vals2 rs;cases(show u=Value.ref b from ru);let#[z,hd,vs,rel,dd]:=dk.of I;have hv:=rel.val k;refine call_meetsIn PySem.F.slot_dict_setdefault dd.typeIs PySem.F.entry_dict_setdefault (PySem.F.args_dict_setdefault_3 _ _ _) (qL (knd:=aP X.prog X.w) (k:=k) a b hd r) #[iU hu,vs,#[hk,jX I k qC rfl],dd,by rw[<- D7 rel];exact z,λ p hp=>?_,λ hn h' xG hs=>?_]
 ·rw[hp]at hv;cases ev:gy kvs k with
  |none=>rw[ev]at hv;exact(show False from hv).elim
  |some w=>rw[ev]at hv;exact#[w,H,I.tok _,hv,q1 w ev]
 ·rw[hn]at hv;cases ev:gy kvs k with
  |some w=>rw[ev]at hv;exact(show False from hv).elim
  |none=>
   have lG:(iJ kvs k b y).length<=sizeLine:=by have:=pG kvs k b y;lia
   let#[q,es,ep,hq,h2,h3,h4,_,h5]:=xG;exact#[y,_,ie I (dk.at_>=True.intro) hs #[q,hq] (qh #[lG,hd,_,rel.put k rr,q,es,ep,hq,h2,h3,h4,h5]),rr,q2 ev]
def XI(r:V->List V->Hp->VK->Prop)(to:TE)(t:TA):TE:=λ σ H Q=>to σ H λ x H1=>(∃a kvs,x=.ref a/\H1 a>nk a kvs)/\t σ H1 λ xs H2=>r x xs H2 Q
def QC{o:Expr}{to:TE}{t:TA}{id:String}{r:V->List V->Hp->VK->Prop}(slot:Slot "dict" name id)(HZ:Wa id)(hm:TF X id r)(ho:PE X o to)(ha:PA X (e::es) t)(gM:S4 X o name:=by rfl)(gL:Wh X cR e es:=by rfl)(gJ:SU apos cR:=by rfl)(hs:kB X e es:=by rfl)(hV:uX X cR es:=by rfl):PE X (.Call (.Attribute o name apos) (e::es) [] cR) (XI r to t):=by intro im s σ H Q I h;refine wpAny_Call_method_late gM gL gJ rfl (cZ (ho im s σ H _ I h) λ v s1 ⟨x,H1,I1,r1,⟨a,kvs,ex,ea⟩,q1⟩=>?_);subst ex;cases(show v=Value.ref a from r1);let#[#[_,_,_,_,ob,_,_,e1,e2,_],_,_]:=(show br X.prog X.w H1 s1.heap a (nk a kvs)from I1.aX a _ ea);refine#["dict",id,PySem.F.plainAttrs_dict,slot,HZ,#[ob,e1,e2.1],λ b eb=>by cases eb;exact#[ob,e1,e2.2.1],?_];have hA:=ha cR im s1 σ H1 _ I1 q1;rw[hs]at hA ⊢;refine Calls.callWith_builtin (by show(false||(backTo cR (starEach es X.env)).any (·.1))=false;rw[hV]<;>rfl) (Calls.evalArgs_plain ?_);exact cZ hA λ us s2 ⟨vs,H2,I2,r2,q2⟩=>hm im s2 σ H2 `z vs `z us Q I2 rfl r2 q2
end L2
namespace L3
open PySem.Spec PyProof.Rows L2 L5
def lB(kvs:List (List Bool×D))(k:List Bool):Option D:=(kvs.find? λ p=>decide (p.1=k)).map (·.2)
def NH{as bs:List Bool}(h:Cr as=Cr bs):as=bs:=by
 have h:=IK.t.inj h;refine List.map_inj_right (λ a b e=>?_) |>.mp h
 have e:=IK.i.inj e;cases a<;>cases b<;>first|rfl|(simp[L2.b2i]at e)
def Cq(bs:List Bool):(Cr bs).dep<=5:=by
 unfold Cr IK.dep;have:∀l:List Bool,IK.iM (l.map λ b=>IK.i (L2.b2i b))=0:=by
  intro l
  induction l with
  |nil=>rw[J1];unfold IK.iM;rfl
  |cons b l ih=>rw[D9];unfold IK.iM;rw[ih];unfold IK.dep;rfl
 rw[this];decide
theorem BR:∀(bs:List Bool){xs:List V},ay K H (bs.map D.bl) xs->fS K H (bs.map λ b=>IK.i (L2.b2i b)) xs
 |[],xs,h=>by rw[J1]at h ⊢;unfold fS;exact ah.mp h
 |b::bs,xs,h=>by rw[D9]at h ⊢;let#[x,r,rfl,h1,h2]:=ae.mp h;unfold fS;refine#[x,r,rfl,?_,BR bs h2];unfold eS;exact .inr #[b,aR.mp h1,rfl]
def BS{bs:List Bool}(h:sB K H (Tw bs) v):∃b,v=.ref b/\eS K H (Cr bs) v:=by let#[p,xs,rfl,hq,hx]:=aM.mp h;refine#[p,rfl,?_];unfold Cr eS;exact#[p,xs,rfl,hq,BR bs hx]
def NQ.look{kvs:List (List Bool×D)}{xs:List fb}(h:NQ K H kvs xs)(k:List Bool):zK K H (lB kvs k) (gy xs (Cr k)):=by
 induction h with
 |nil=>exact True.intro
 |@cons p q ps qs jQ t ih=>
  let#[h1,_,h2]:=jQ;unfold lB gy at ih ⊢;by_cases e:p.1=k
  ·have e':q.1=Cr k:=by rw[h1,e]
   simp only[B3,C9 e,C9 e',Option.map_some];exact h2
  ·have e':¬q.1=Cr k:=λ z=>e (NH (h1.symm.trans z));simp only[B3,B4 e,B4 e'];exact ih
def NQ.ok{kvs:List (List Bool×D)}{xs:List fb}(h:NQ K H kvs xs)(e:H a>nk a xs):mJ K H a xs:=by
 refine#[e,?_];clear e
 induction h with
 |nil=>intro p hp;cases hp
 |@cons p q ps qs jQ t ih=>
  intro x hx;rcases E8.mp hx with rfl|hx
  ·let#[h1,h2,_]:=jQ;rw[h1];exact#[Cq _,(BS h2).choose_spec.2]
  ·exact ih x hx
section
variable {o:Expr}{t:dG}{pos:Pos}
def wZ:D->List D->Mem->bK->Prop:=λ d ds M Q=>∃a kvs bs v,d=.ref a/\ds=[Tw bs,v]/\M a>(.dE (.uN kvs))/\-kvs<sizeLine/\(∀u,lB kvs bs>u->Q u M)/\(lB kvs bs=none->Q v (af M a (.dE (.uN (kvs++[(bs,v)])))))
def vG(to:bU)(t:dG):bU:=λ δ M Q=>to δ M λ d M1=>(∃a kvs,d=.ref a/\M1 a>(.dE (.uN kvs)))/\t δ M1 λ ds M2=>wZ d ds M2 Q
def CW(hu:e_ X)(ho:WE X o to)(ha:WA X (e::es) t)(gM:S4 X o "setdefault":=by rfl)(gL:Wh X cR e es:=by rfl)(gJ:SU apos cR:=by rfl)(hs:kB X e es:=by rfl)(hV:uX X cR es:=by rfl):WE X (.Call (.Attribute o "setdefault" apos) (e::es) [] cR) (vG to t):=by
 replace ho:=ho.h;replace ha:=ha.h;refine#[?_];refine bA (QC PySem.F.slot_dict_setdefault PySem.F.type_dict_setdefault (yA hu) ho ha gM gL gJ hs hV) ?_;rintro σ H Q ⟨δ,M,Q2,hs,hm,q,k⟩;refine#[δ,M,_,hs,hm,q,λ x H1 d M1 hd bJ t1 ⟨⟨a,kvs,e,hM⟩,q1⟩=>#[?_,δ,M1,_,hs.mono t1,bJ,q1,λ xs H2 ds M2 Eb kL t2 q2=>?_]]
 ·subst e;cases(az.mp hd);let#[xs,hx,_]:=bJ a _ hM;exact#[a,xs,rfl,hx]
 ·let#[a',mY,bs,v,e2,e3,R8,hz,q3,q4]:=q2;subst e2;subst e3;cases(az.mp hd);let#[x1,r1,rfl,MU,MH]:=ae.mp Eb;let#[x2,r2,rfl,MF,pV]:=ae.mp MH;cases(ah.mp pV);let#[b,rfl,qC]:=BS MU;let#[ys,hy,rel]:=kL a' _ R8;have lk:=rel.look bs;refine#[a',b,ys,Cr bs,x2,rfl,rfl,rel.ok hy,Cq bs,qC,by rw[<- D7 rel];exact hz,λ u hu=>?_,λ hn=>?_]
  ·rw[hu]at lk;cases el:lB mY bs with
   |none=>rw[el]at lk;exact(show False from lk).elim
   |some d'=>rw[el]at lk;exact k _ H2 d' M2 lk kL (t1.trans t2) (q3 d' el)
  ·rw[hn]at lk;cases el:lB mY bs with
   |some d'=>rw[el]at lk;exact(show False from lk).elim
   |none=>
    have pt:iJ ys (Cr bs) b x2=ys++[(Cr bs,b,x2)]:=by unfold iJ;rw[hn];rfl
    rw[pt];have t:=ao.mut (o:=nk a' (ys++[(Cr bs,b,x2)])) hy (λ _ z=>by cases z) (λ _ _ z=>by cases z);exact k _ _ _ _ (sB.mono t _ MF) (kL.put (u:=.dE (.uN (mY++[(bs,v)]))) t #[_,aH,NQ.mono t (Paired.snoc rel #[rfl,MU,MF])]) ((t1.trans t2).trans t) (q4 el)
def Ao:bU:=λ _ M Q=>∀p,M p=none->Q `j (af M p (.dE (.uN [])))
def EY:WE X (.Dict [] [] pos) Ao:=by refine#[?_];refine bA vP ?_;rintro σ H Q ⟨δ,M,Q2,hs,hm,q,k⟩ p hp;exact k _ _ `j _ (az.mpr rfl) (hm.put (u:=.dE (.uN [])) `Q #[[],aH,.nil]) `Q (q p (hm.free hp))
end
end L3
namespace L4
open L2 L3
def yh{t:dG}{Q:bK}(h:to δ M λ d M1=>(∃a kvs,d=.ref a/\M1 a>(.dE (.uN kvs)))/\t δ M1 λ ds M2=>wZ d ds M2 Q):vG to t δ M Q:=h
def Dw{Q:bK}(h:∀p,M p=none->Q `j (af M p (.dE (.uN [])))):Ao δ M Q:=h
end L4
namespace KK
open L3 L4 L5
open L2 hiding aG gb
def Jz(r q:List Row)(i:Nat)(p:Nat×Nat):Nat×Nat:=(aE r i p.1,aE q i p.2)
def Pr(r q:List Row)(h x y v:Nat):Prop:=j_ (Jz r q) h (0,x) (y,v)
def AE{h m2:Nat}{q:List Row}(G:cj m h r)(T:Tb m2 h q){x:Nat}(hx:x<m2){p:Nat×Nat}(R:j_ (Jz r q) h (0,x) p):p.1<m/\p.2<m2:=by
 induction R with
 |zero=>exact#[G.tb.pos,hx]
 |step R hi ih=>exact#[G.di.cl _ _ hi ih.1,T.sV hi _ ih.2]
def UL{h:Nat}{q:List Row}(G:cj m h r)(x:Nat)(hy:y<m):∃v,Pr r q h x y v:=by
 have:∀y,j_ (aE r) h 0 y->∃v,Pr r q h x y v:=λ y R=>by
  induction R with
  |zero=>exact#[x,.zero]
  |step R hi ih=>let#[v,hv]:=ih;exact#[_,.step hv hi]
 exact this y (G.rW y hy)
section
variable {h:Nat}
set_option tactic.hygienic true in
def tK{p:Nat×Nat}(R:j_ (Jz r r) h (0,0) p):p.2=p.1:=by
 induction R with
 |zero=>rfl
 |step R hi ih=>rename_i s i;show aE r i s.2=aE r i s.1;rw[ih]
set_option tactic.hygienic true in
def tL(G:cj m h r){x:Nat}(hx:x<m)(hi:i<h){p:Nat×Nat}(R:j_ (Jz r r) h (0,aE r i x) p):∃v,Pr r r h x p.1 v/\v<m/\p.2=aE r i v:=by
 induction R with
 |zero=>exact#[x,.zero,hx,rfl]
 |step R hj ih=>rename_i s j;let#[v,h1,h2,h3]:=ih;refine#[aE r j v,.step h1 hj,G.di.cl _ _ hj h2,?_];show aE r j s.2=_;rw[h3,G.di.cm v j i hj hi h2]
set_option tactic.hygienic true in
def Qp(G:cj m h r):∀{x:Nat},j_ (aE r) h 0 x->∀y v,Pr r r h x y v->Pr r r h y x v:=λ{x} R=>by
 induction R with
 |zero=>intro y v P;have:=tK P;cases(show v=y from this);exact .zero
 |step R hi ih=>rename_i s i;intro y v P;have hs:s<m:=R.ok G.di G.tb.pos;let#[v0,h1,h2,h3]:=tL G hs hi P;have:=j_.step (ih y v0 h1) hi;rw[show v=aE r i v0 from h3];exact this
set_option tactic.hygienic true in
def Lp(G:cj m h r):∀{x:Nat},j_ (aE r) h 0 x->∀y v v',Pr r r h x y v->Pr r r h x y v'->v=v':=λ{x} R=>by
 induction R with
 |zero=>intro y v v' P P';rw[show v=y from tK P,show v'=y from tK P']
 |step R hi ih=>rename_i s i;intro y v v' P P';have hs:s<m:=R.ok G.di G.tb.pos;let#[v0,h1,h2,h3]:=tL G hs hi P;let#[v1,g1,g2,g3]:=tL G hs hi P';rw[show v=aE r i v0 from h3,show v'=aE r i v1 from g3,ih y v0 v1 h1 g1]
noncomputable def mul(r:List Row)(h x y:Nat):Nat:=Classical.epsilon λ v=>Pr r r h x y v
def yz(G:cj m h r){x:Nat}(hy:y<m):Pr r r h x y (mul r h x y):=by exact Classical.epsilon_spec (UL G x hy)
def tV(G:cj m h r){x v:Nat}(hx:x<m)(P:Pr r r h x y v):v=mul r h x y:=Lp G (G.rW x hx) y v _ P (yz G (AE G G.tb hx P).1)
def mul_0(G:cj m h r){x:Nat}(hx:x<m):mul r h x 0=x:=(tV G hx .zero).symm
def tU(G:cj m h r){x:Nat}(hx:x<m)(hy:y<m)(hi:i<h):mul r h x (aE r i y)=aE r i (mul r h x y):=(tV G hx (.step (yz G hy) hi)).symm
def AV(G:cj m h r){x:Nat}(hx:x<m)(hy:y<m):mul r h x y=mul r h y x:=tV G hy (Qp G (G.rW x hx) y _ (yz G hy))
def AS(G:cj m h r){x:Nat}(hx:x<m)(hy:y<m)(hi:i<h):mul r h (aE r i x) y=aE r i (mul r h x y):=by rw[AV G `M hy,tU G hy hx hi,AV G hy hx]
theorem AU(G:cj m h r){x:Nat}(hx:x<m)(hi:i<h):∀(n y:Nat),y<m->qO (aE r i) n (mul r h x y)=mul r h x (qO (aE r i) n y)
 |0,y,_=>rfl
 |n+1,y,hy=>by show qO (aE r i) n (aE r i (mul r h x y))=mul r h x (qO (aE r i) n (aE r i y));rw[<- tU G hx hy hi];exact AU G hx hi n _ (G.di.cl _ _ hi hy)
theorem AR(G:cj m h r){x:Nat}(hx:x<m):∀(cs:Row)(i y:Nat),i+-cs<=h->y<m->xA r i (mul r h x y) cs=mul r h x (xA r i y cs)
 |[],i,y,_,_=>rfl
 |c::cs,i,y,hl,hy=>by rw[y9]at hl;show xA r (i+1) (qO (aE r i) c.toNat (mul r h x y)) cs=mul r h x (xA r (i+1) (qO (aE r i) c.toNat y) cs);rw[AU G hx () _ y hy];exact AR G hx cs (i+1) _ () (yI (G.tb.sV ()) _ _ hy)
def JZ(G:cj m h r){x:Nat}(hx:x<m){cs:Row}(hl:-cs=h):xA r 0 x cs=mul r h x (xA r 0 0 cs):=by
 have:=AR G hx cs 0 0 () G.tb.pos
 rwa [mul_0 G hx]at this
end
structure CA(r q:List Row)(h x:Nat)(kv:List (Nat×Nat))(ws:List Nat):Prop where
 nd:(kv.map (·.1)).Nodup
 pr:∀e∈kv,Pr r q h x e.1 e.2
 iH:(0,x)∈kv
 wt:∀y∈ws,y∈kv.map (·.1)
 dn:∀y∈kv.map (·.1),y∉ws->∀i,i<h->aE r i y∈kv.map (·.1)
section
variable {h m2 x:Nat}{q:List Row}{ws:List Nat}
def CA.start(r q:List Row)(h x:Nat):CA r q h x [(0,x)] [0]:=#[by simp,λ e he=>q8.mp he>=.zero,by simp,λ y hy=>~~~hy,λ y hy n=>bi (~~~hy) (~~~n)]
def CA.bZ(G:cj m h r)(T:Tb m2 h q)(hx:x<m2)(c:CA r q h x kv ws):-kv<=m:=by
 have:=bv c.nd (l₂:=List.range m) λ y hy=>by let#[e,he,rfl]:=G7.mp hy;exact ce.mpr (AE G T hx (c.pr e he)).1
 rwa [C1,x9]at this
def CA.all(G:cj m h r)(c:CA r q h x kv [])(hy:y<m):y∈kv.map (·.1):=by
 have:∀y,j_ (aE r) h 0 y->y∈kv.map (·.1):=λ y R=>by
  induction R with
  |zero=>exact G7.mpr #[_,c.iH,rfl]
  |step R hi ih=>exact c.dn _ ih `g _ hi
 exact this y (G.rW y hy)
end
structure rh(r q:List Row)(h x:Nat)(kv:List (Nat×Nat))(ws:List Nat)(y v i:Nat):Prop where
 nd:(kv.map (·.1)).Nodup
 pr:∀e∈kv,Pr r q h x e.1 e.2
 iH:(0,x)∈kv
 wt:∀y∈ws,y∈kv.map (·.1)
 dn:∀z∈kv.map (·.1),z∉ws->z≠y->∀i,i<h->aE r i z∈kv.map (·.1)
 at':(y,v)∈kv
 so:∀j,j<i->aE r j y∈kv.map (·.1)
section
variable {h x v:Nat}{q:List Row}{ws:List Nat}
def CA.pop(c:CA r q h x kv (ws++[y])):∃v,rh r q h x kv ws y v 0:=by let#[e,he,rfl]:=G7.mp (c.wt y `g);exact#[e.2,c.nd,c.pr,c.iH,λ z hz=>c.wt z (l0 _ hz),λ z hz n ne=>c.dn z hz (by rw[C3,q8];exact λ o=>o.elim n ne),he,λ j hj=>bi hj ()]
def rh.old(c:rh r q h x kv ws y v i)(hn:aE r i y∈kv.map (·.1)):rh r q h x kv ws y v (i+1):=
 ⟨c.nd,c.pr,c.iH,c.wt,c.dn,c.at',λ j hj=>by
  by_cases z:j=i
  ·rw[z];exact hn
  ·exact c.so j ()⟩
def rh.new(c:rh r q h x kv ws y v i)(hi:i<h)(hn:aE r i y∉kv.map (·.1)):rh r q h x (kv++[(aE r i y,aE q i v)]) (ws++[aE r i y]) y v (i+1):=by
 have up:∀z,z∈kv.map (·.1)->z∈(kv++[(aE r i y,aE q i v)]).map (·.1):=λ z hz=>C4>=l0 _ hz
 have nw:aE r i y∈(kv++[(aE r i y,aE q i v)]).map (·.1):=by simp
 refine#[?_,λ e he=>?_,l0 _ c.iH,λ z hz=>?_,λ z hz n ne j hj=>?_,l0 _ c.at',λ j hj=>?_]
 ·rw[C4];exact nodup_append.mpr #[c.nd,by simp,λ a ha b hb z=>hn (by rw[z,q8.mp hb]at ha;exact ha)]
 ·rcases C3.mp he with he|he
  ·exact c.pr e he
  ·rw[q8.mp he];exact j_.step (c.pr _ c.at') hi
 ·rcases C3.mp hz with hz|hz
  ·exact up z (c.wt z hz)
  ·rw[q8.mp hz];exact nw
 ·rw[C3,q8,not_or]at n;rw[C4]at hz;rcases C3.mp hz with hz|hz
  ·exact up _ (c.dn z hz n.1 ne j hj)
  ·exact bi (~~~hz) n.2
 ·by_cases z:j=i
  ·rw[z];exact nw
  ·exact up _ (c.so j ())
def rh.done(c:rh r q h x kv ws y v h):CA r q h x kv ws:=
 ⟨c.nd,c.pr,c.iH,c.wt,λ z hz n i hi=>by
  by_cases e:z=y
  ·rw[e];exact c.so i hi
  ·exact c.dn z hz n e i hi⟩
end
structure Crd(m:Nat)(r q:List Row)(h x:Nat)(kv:List (Nat×Nat)):Prop where
 nd:(kv.map (·.1)).Nodup
 pr:∀e∈kv,Pr r q h x e.1 e.2
 all:∀y,y<m->∃v,(y,v)∈kv
 bZ:-kv<=m
 iH:(0,x)∈kv
def CA.crd{h m2 x:Nat}{q:List Row}(G:cj m h r)(T:Tb m2 h q)(hx:x<m2)(c:CA r q h x kv []):Crd m r q h x kv:=
 ⟨c.nd,c.pr,λ y hy=>by
  let#[e,he,e2]:=G7.mp (c.all G hy);subst e2;exact#[e.2,he],c.bZ G T hx,c.iH⟩
def c_(ls:Row)(x:Nat):Bool:=decide ((x:Int)∈ls)
noncomputable def uZ(m:Nat)(r:List Row)(h:Nat)(ls:Row)(x:Nat):List Bool:=(List.range m).map λ y=>c_ ls (mul r h x y)
noncomputable def eM(m:Nat)(r:List Row)(h:Nat)(ls:Row):List (List Bool):=(List.range m).map (uZ m r h ls)
def dJ{h x:Nat}(hx:x<m):(eM m r h ls)[x]?>uZ m r h ls x:=by unfold eM;rw[w6,l9 hx];rfl
def Hx{h x:Nat}(hy:y<m):(uZ m r h ls x)[y]?>c_ ls (mul r h x y):=by unfold uZ;rw[w6,l9 hy];rfl
def pO{h x z:Nat}:uZ m r h ls x=uZ m r h ls z↔∀y,y<m->c_ ls (mul r h x y)=c_ ls (mul r h z y):=by
 constructor
 ·intro e y hy;have:=Hx (r:=r) (h:=h) (ls:=ls) (x:=x) hy;rw[e,Hx hy]at this;exact(B7 this).symm
 ·intro e;unfold uZ;exact n9 λ y hy=>e y (ce.mp hy)
def gg{h:Nat}(ls:Row)(G:cj m h r):Wd m h r `m:=by
 have tl:(eM m r h ls).length=m:=by simp[eM]
 have tt:∀x z,x<m->z<m->(kd `m x=kd `m z↔uZ m r h ls x=uZ m r h ls z):=λ x z hx hz=>by
  constructor
  ·intro e;have a:=mj (dJ (r:=r) (h:=h) (ls:=ls) hx);rw[e,mj (dJ hz)]at a;exact(B7 a).symm
  ·intro e;rw[kh (dJ hx),kh (dJ hz),e]
 have lt:∀x,x<m->kd `m x<m:=λ x hx=>by have:=(g9.mp (mj (dJ (r:=r) (h:=h) (ls:=ls) hx))).1;lia
 refine#[nQ>=tl,lt,λ x hx=>?_,?_,λ x z i hx hz hi e=>?_]
 ·refine(tt _ _ (lt x hx) hx).mpr ?_;have a:=mj (dJ (r:=r) (h:=h) (ls:=ls) hx);rw[dJ (lt x hx)]at a;exact B7 a
 ·rw[kh (dJ G.tb.pos)];have a:=dJ (r:=r) (h:=h) (ls:=ls) G.tb.pos;cases hc:eM m r h ls with
  |nil=>rw[hc]at tl;have:=G.tb.pos;simp at tl;lia
  |cons t l=>rw[hc]at a;rw[<- B7 a];exact wB t l
 ·rw[tt _ _ `M (G.di.cl _ _ hi hz)];rw[tt x z hx hz,pO]at e;refine pO.mpr λ y hy=>?_;rw[AS G hx hy hi,AS G hz hy hi,<- tU G hx hy hi,<- tU G hz hy hi];exact e _ (G.di.cl _ _ hi hy)
def HF{h x z:Nat}(hx:x<m)(hz:z<m):kd `m x=kd `m z↔uZ m r h ls x=uZ m r h ls z:=by
 constructor
 ·intro e;have a:=mj (dJ (r:=r) (h:=h) (ls:=ls) hx);rw[e,mj (dJ hz)]at a;exact(B7 a).symm
 ·intro e;rw[kh (dJ hx),kh (dJ hz),e]
structure JM(m h:Nat)(r:List Row)(ls:Row)(m2:Nat)(q:List Row)(eI:Row)(g:Nat->Nat):Prop where
 lt:∀x,x<m->g x<m2
 iH:g 0=0
 st:∀x i,x<m->i<h->g (aE r i x)=aE q i (g x)
 ls:∀x,x<m->c_ ls x=c_ eI (g x)
section
variable {h m2:Nat}{q:List Row}{eI:Row}{g:Nat->Nat}
theorem JM.qO(G:cj m h r)(H:JM m h r ls m2 q eI g)(hi:i<h):∀(n x:Nat),x<m->g (qO (aE r i) n x)=KK.qO (aE q i) n (g x)
 |0,x,_=>rfl
 |n+1,x,hx=>by show g (KK.qO (aE r i) n (aE r i x))=KK.qO (aE q i) n (aE q i (g x));rw[JM.qO G H hi n _ `M,H.st x i hx hi]
theorem JM.xA(G:cj m h r)(H:JM m h r ls m2 q eI g):∀(cs:Row)(i x:Nat),i+-cs<=h->x<m->g (xA r i x cs)=KK.xA q i (g x) cs
 |[],i,x,_,_=>rfl
 |c::cs,i,x,hl,hx=>by rw[y9]at hl;show g (KK.xA r (i+1) (KK.qO (aE r i) c.toNat x) cs)=KK.xA q (i+1) (KK.qO (aE q i) c.toNat (g x)) cs;rw[JM.xA G H cs (i+1) _ () (yI (G.tb.sV ()) _ _ hx),H.qO G () _ _ hx]
end
structure Lst(m h:Nat)(r:List Row)(ls:Row)(aB:List Nat)(io:List Row)(eI:Row):Prop where
 ex:kH (λ i s=>kd `m (aE r i s)) 0 h (List.range m) aB io
 len:-io=-aB
 Hu:gr (-aB) eI
 mem:∀d s,aB[d]?>s->c_ eI d=c_ ls s
section
variable {h:Nat}{aB:List Nat}{eI:Row}
def Lst.all(G:cj m h r)(L:Lst m h r ls aB io eI){x:Nat}(hx:x<m):kd `m x∈aB:=by
 have k:=gg ls G;have:∀s,j_ (λ i s=>kd `m (aE r i s)) h 0 s->s∈aB:=λ s R=>by
  induction R with
  |zero=>exact k9 L.ex.iH
  |step R hi ih=>let#[d,hd]:=ci ih;exact k9 (L.ex.at L.len hd hi)
 exact this _ (k.rcd G (G.rW x hx)).2
noncomputable def goL(m h:Nat)(r:List Row)(ls:Row)(aB:List Nat)(x:Nat):Nat:=aB.idxOf (kd `m x)
def Lst.go(G:cj m h r)(L:Lst m h r ls aB io eI){x:Nat}(hx:x<m):aB[goL m h r ls aB x]?>kd `m x:=fE (L.all G hx)
def Lst.Yn{x:Nat}(G:cj m h r)(hx:x<m):c_ ls (kd `m x)=c_ ls x:=by
 have k:=gg ls G;have e:=(HF (ls:=ls) (k.lt x hx) hx).mp (k.Oz x hx);have:=pO.mp e 0 G.tb.pos
 rwa [mul_0 G (k.lt x hx),mul_0 G hx]at this
def Lst.hom(G:cj m h r)(L:Lst m h r ls aB io eI):JM m h r ls (-aB) io eI (goL m h r ls aB):=by
 have k:=gg ls G;refine#[λ x hx=>(g9.mp (L.go G hx)).1,?_,λ x i hx hi=>?_,λ x hx=>?_]
 ·refine rX L.ex.nd (L.go G G.tb.pos) ?_;rw[k.iH];exact L.ex.iH
 ·refine rX L.ex.nd (L.go G `M) ?_;have:=L.ex.at L.len (L.go G hx) hi
  rwa [k.xV _ x i (k.lt x hx) hx hi (k.Oz x hx)]at this
 ·rw[L.mem _ _ (L.go G hx),Lst.Yn G hx]
end
end KK
namespace L4
open L2 L3
def vm{p pos:Pos}{t:dG}(h1:X.prog=P)(h2:X.w=w)(h3:X.K=K)(h4:X.mg=mg)(h5:X.base=base)(hr:cz k X.A)(hi:X.N[i]?>x)(hv:SJ X.env.scope x)(ha:WA X (e::es) t)(hd:qF x:=by decide)(qD:V_ x:=by decide)(he:kB X e es:=by rfl)(gR:uX X pos es:=by rfl):WE X `y (XU P w K mg base k i t):=by subst h1;subst h2;subst h3;subst h4;subst h5;exact zS hr hi hv ha hd qD he gR
end L4
namespace L2
open PySem.Spec PyProof.Rows
structure qv(P:Program)(w:World)(K:L8)(mg:Str->Option ac)(base:Heap)(k:Nat)(x:Str)(ps:List Str)(sp:Sp):Prop where
 ex:∃(f:be)(fd:FuncData),bS P w K mg base eQ k f fd ps sp/\mg x>`C/\PySem.W.keepIn K `C=true/\Binds K fd ps [.none]
def qv.UZ(F:jT K x qual st dV c f fd)(G:bS P w K mg base eQ k f fd ps sp)(hm:mg x>`C)(b:Binds K fd ps [.none]):qv P w K mg base k x ps sp:=#[f,fd,G,hm,F.kp,b]
def jT.SG(F:jT K x qual st dV c f fd)(hn:-ps=n+1)(h:∀(kV doc pm:ac)(an:Option be)(ct:ac)(s:bd),K.In s.heap->∀(us:List ac),-us=n->BindsTo s `F #[us,[]] (ps.zip (us++[.none]))):Binds K fd ps [.none]:=
 F.binds λ kV doc pm an ct s hk us hl=>h kV doc pm an ct s hk us (by rw[p4,j9]at hl;lia)
section
variable {p pos:Pos}{t:TA}
def LC(d:qv X.prog X.w X.K X.mg X.base k x ps sp)(hr:cz k X.A)(hg:Gl X x)(ha:PA X (e::es) t)(nh:qF x:=by decide)(he:kB X e es:=by rfl)(gR:uX X pos es:=by rfl):PE X `y (λ σ H Q=>t σ H λ vs H1=>sp (vs++[.bf]) H1 Q E0):=by let#[f,fd,G,hm,kp,b]:=d.ex;exact AI (E:=E0) G hr hg hm kp b (.cons rfl .nil) Oi ha nh he gR
end
end L2
namespace L3
open PySem.Spec PyProof.Rows L2 L5
def sDD(sp:fM)(t:dG):bU:=λ δ M Q=>t δ M λ ds M1=>sp (ds++[.bf]) M1 Q
abbrev OY(P:Program)(w:World)(K:L8)(mg:Str->Option ac)(base:Heap)(k:Nat)(x:Str)(ps:List Str)(sp:fM):Prop:=qv P w K mg base k x ps (cI K sp)
theorem sG:∀{ds:List D} {vs:List V} {d:D} {v:V},ay K H ds vs->sB K H d v->ay K H (ds++[d]) (vs++[v])
 |[],vs,d,v,h,g=>by cases(ah.mp h);exact ae.mpr #[v,[],rfl,g,ah.mpr rfl]
 |a::ds,vs,d,v,h,g=>by let#[x,r,rfl,h1,h2]:=ae.mp h;exact ae.mpr #[x,r++[v],rfl,h1,sG h2 g]
def O7{p pos:Pos}{t:dG}{sp:fM}(d:OY X.prog X.w X.K X.mg X.base k x ps sp)(ha:WA X (e::es) t)(hr:cz k X.A:=by exact hr.mono (by first|decide|lia))(hg:Gl X x:=by rfl)(nh:qF x:=by decide)(he:kB X e es:=by rfl)(gR:uX X pos es:=by rfl):WE X `y (sDD sp t):=by replace ha:=ha.h;refine#[?_];refine bA (LC d hr hg ha nh he gR) ?_;rintro σ H Q ⟨δ,M,Q2,hs,hm,q,k⟩;exact#[δ,M,_,hs,hm,q,λ xs H1 ds M1 hd bJ t1 q1=>#[ds++[.bf],M1,Q2,sG hd (dh.mpr rfl),bJ,q1,k.mono t1]]
end L3
namespace L4
open L2 L3
def Uw{sp:fM}{t:dG}{Q:bK}(h:t δ M λ ds M1=>sp (ds++[.bf]) M1 Q):sDD sp t δ M Q:=h
end L4
namespace L3
open L2
def wd{lf:be}{cs:List D}{C:CM}(h:dN ps fv L.scope=true)(hl:-cs=-fv)(uo:∀(i:Nat)(x:Str),fv[i]?>x->∃j,(x,j)∈cn/\∀d,cs[i]?>d->δ[j]?>(some d))(hC:NR cells cn δ C)(hM:M lf>(.dE (.lam L (bq cells L.scope.names []))))(hn:∀b d,C b>d->M b=none):qt (ip M C) lf L fv cs C:=by
 unfold dN at h;simp only[A2,A9]at h;let#[#[_,h5],h6]:=h;have fr:∀x,(x,NameKind.free)∈L.scope.names->x∈fv:=λ x hx=>by simpa using(h6 _ hx).2
 have Tc:∀x∈fv,∃j,(x,j)∈cn:=λ x hx=>by let#[i,hi]:=ci hx;let#[j,hj,_]:=uo i x hi;exact#[j,hj]
 have hc:∀n,(n,NameKind.free)∈L.scope.names->∃c,cells.lookup n>c:=λ n hx=>by let#[j,hj]:=Tc n (fr n hx);let#[b,_,e,_]:=hC.has n j hj;exact#[b,e]
 have look:=fH (cells:=cells) L.scope.names [] hc λ x c e=>by simp at e
 have free:=λ x c e=>(ig (cells:=cells) L.scope.names [] x c e).elim (fr x) λ z=>by simp at z
 have WZ:C lf=none:=by
  rcases dv C lf with z|⟨d,z⟩
  ·exact z
  ·rw[hn lf d z]at hM;cases hM
 refine#[#[bq cells L.scope.names [],lN WZ>=hM,λ x y b e1 e2=>?_,λ x b e=>#[free x b e,?_],λ i x d ex ed=>?_],hl,λ b d e=>uQ e]
 ·let#[j,hj]:=Tc x (free x b e1);let#[i,hi]:=Tc y (free y b e2);exact hC.inj x j y i b hj hi (look x b e1) (look y b e2)
 ·let#[j,hj]:=Tc x (free x b e);let#[b',d,e1,_,e3]:=hC.has x j hj;rw[look x b e]at e1;cases e1;exact#[d,e3]
 ·let#[j,hj,hd]:=uo i x ex;have hm:(x,NameKind.free)∈L.scope.names:=m7 (by simpa using h5 _ (k9 ex));let#[b,hb]:=Option.isSome_iff_exists.mp (gO (cells:=cells) L.scope.names [] hm);let#[b',d',e1,e2,e3]:=hC.has x j hj;rw[look _ b hb]at e1;cases e1;rw[hd d ed]at e2;cases e2;exact#[b,hb,e3]
def qt.no{cs:List D}{C:CM}(h:qt M f L fv cs C)(e:∀b o,M b>o->M1 b>o)(ha:M1 a>`B):fF M1 C a>`B:=by
 rcases dv C a with z|⟨d,z⟩
 ·rw[nZ z];exact ha
 ·have:=e _ _ (h.uG a d z);rw[ha]at this;cases this
end L3
namespace KK
open L3 L4 L5
open L2 hiding aG gb
def Dy(r:List Row)(ls:Row)(x y:Nat)(p:Cs):Prop:=c_ ls (bj (aE r) 0 x p)≠c_ ls (bj (aE r) 0 y p)
section
variable {h:Nat}{x:Nat}
def nW(G:cj m h r)(hx:x<m){p:Cs}(hp:-p=h):bj (aE r) 0 x p=mul r h x (bj (aE r) 0 0 p):=by
 have:=JZ G hx (cs:=p.map λ v:Nat=>(v:Int)) (C1>=hp)
 rwa [kN,kN]at this
def gn(G:cj m h r)(hx:x<m){p:Cs}(hp:-p=h):bj (aE r) 0 x p<m:=G.di.bj p 0 x () hx
def sO(G:cj m h r)(hx:x<m)(hy:y<m):(∀q:Cs,-q=h->¬Dy r ls x y q)↔∀z,z<m->c_ ls (mul r h x z)=c_ ls (mul r h y z):=by
 constructor
 ·intro no z hz;let#[p,hp,e]:=(G.rW z hz).sum G.di G.tb.pos;have:=no p hp;unfold Dy at this;rw[nW G hx hp,nW G hy hp,e]at this;exact Decidable.not_not.mp this
 ·intro al q hq pq;unfold Dy at pq;rw[nW G hx hq,nW G hy hq]at pq;exact pq (al _ (gn G G.tb.pos hq))
end
end KK
namespace L2
abbrev oE(mask:Nat)(h:Int):List Nat:=jn mask (mask+15) (SetTable.bits h%(mask+1),SetTable.bits h)
def SQ(mask:Nat)(WH:Nat->Prop)(h:Int)(j:Nat):Prop:=∃pre post,oE mask h=pre++j::post/\∀k∈pre,WH k
def SQ.mono{WH U0:Nat->Prop}{h:Int}(a:SQ mask WH h j)(s:∀k,WH k->U0 k):SQ mask U0 h j:=
 let⟨pre,post,e,o⟩:=a
 #[pre,post,e,λ k hk=>s k (o k hk)]
def Jp(t:SetTable)(hs:List Int):Prop:=∀(i:Nat)(j:Nat)(h:Int),t.place.toList[i]?>j->hs[i]?>h->SQ t.mask (·∈t.place.toList) h j
theorem wK:∀(fuel i pt:Nat),(∃e∈jn mask fuel (i,pt),(owner.getD e (some 0)).isNone=true)->
  ∃pre j post,jn mask fuel (i,pt)=pre++j::post/\(∀k∈pre,(owner.getD k (some 0)).isNone=false)/\(owner.getD j (some 0)).isNone=true/\SetTable.layClean.free mask owner fuel i pt>j
 |0,i,pt,⟨e,he,_⟩=>by cases he
 |fuel+1,i,pt,⟨e,he,hn⟩=>by
  unfold SetTable.layClean.free;have eb:jn mask (fuel+1) (i,pt)=(List.range (SetTable.runEnd mask i+1-i)).map (i+·)++jn mask fuel (SetTable.leap mask i pt):=rfl;rw[eb];cases hf:(List.range (SetTable.runEnd mask i+1-i)).find? λ k=>(owner.getD (i+k) (some 0)).isNone with
  |some k=>let#[h1,as,bs,h2,h3]:=find?_eq_some_iff_append.mp hf;refine#[as.map (i+·),i+k,bs.map (i+·)++jn mask fuel (SetTable.leap mask i pt),by rw[h2,C4,D9,x6,A8],λ z hz=>?_,h1,rfl];let#[y,hy,rfl]:=G7.mp hz;have:=h3 y hy;simpa using this
  |none=>
   rcases C3.mp (eb▸he)with he|he
   ·let#[k,hk,rfl]:=G7.mp he;exact bi hn (find?_eq_none.mp hf k hk)
   ·let#[pre,j,post,a,b,c,d]:=wK fuel (SetTable.leap mask i pt).1 (SetTable.leap mask i pt).2 #[e,he,hn];refine#[(List.range (SetTable.runEnd mask i+1-i)).map (i+·)++pre,j,post,by rw[x6,<- a],λ z hz=>?_,c,d];rcases C3.mp hz with hz|hz
    ·let#[k,hk,rfl]:=G7.mp hz;exact Bool.eq_false_iff.mpr (find?_eq_none.mp hf k hk)
    ·exact b z hz
structure Own(mask:Nat)(hs:List Int)(owner:Array (Option Nat))(k:Nat):Prop where
 sz:owner.size=mask+1
 pm:(tQ mask owner).Perm (List.range k)
 rc:∀j i h,owner.getD j none>i->hs[i]?>h->SQ mask (λ s=>owner.getD s none≠none) h j
def sv(hs:owner.size=mask+1)(hj:j<=mask):owner.getD j (some 0)=owner.getD j none:=by
 have h1:j<owner.size:=()
 simp[Array.getD,h1]
def Own.next(M:NO mask){hs:List Int}(O:Own mask hs owner k){h:Int}(hk:hs[k]?>h)(kl:k<=mask):∃j,SetTable.layClean.free mask owner (SetTable.turns mask) (SetTable.bits h%(mask+1)) (SetTable.bits h)>j/\Own mask hs (owner.setIfInBounds j (some k)) (k+1):=by
 have hi:SetTable.bits h%(mask+1)<=mask:=Nat.le_of_lt_succ (Nat.mod_lt _ (Nat.succ_pos _));let#[e,he,dQ]:=GU O.sz O.pm kl;let#[pre,j,post,a,b,c,d]:=wK (mask:=mask) (owner:=owner) (SetTable.turns mask) (SetTable.bits h%(mask+1)) (SetTable.bits h) #[e,xl M hi (Cp h) he,dQ];have aw:oE mask h=pre++j::post:=a;have le:∀z∈oE mask h,z<=mask:=λ z hz=>om (mask+15) (SetTable.bits h%(mask+1),SetTable.bits h) hi hz;have jm:j<=mask:=le j (by rw[aw];simp);let#[h4,h5]:=LG O.sz O.pm jm c;have cn:owner.getD j none=none:=by rw[sv O.sz jm]at c;exact Option.isNone_iff_eq_none.mp c
 have dE:∀i,i≠j->(owner.setIfInBounds j (some k)).getD i none=owner.getD i none:=λ i hi=>by rw[Array.getD_eq_getD_getElem?,Array.getD_eq_getD_getElem?,Array.getElem?_setIfInBounds,L7 (K9 hi)]
 have at':(owner.setIfInBounds j (some k)).getD j none>k:=by rw[Array.getD_eq_getD_getElem?,Array.getElem?_setIfInBounds,L1 rfl,L1 (by rw[O.sz];lia)];rfl
 have up:∀s,owner.getD s none≠none->(owner.setIfInBounds j (some k)).getD s none≠none:=λ s z=>by
  by_cases g:s=j
  ·rw[g,at'];simp
  ·rw[dE s g];exact z
 refine#[j,d,h4,h5,λ j' i h' z hz=>?_];by_cases g:j'=j
 ·subst g;rw[at']at z;cases z;rw[hk]at hz;cases hz;refine#[pre,post,aw,λ s hs=>up s ?_];have:=b s hs;rw[sv O.sz (le s (by rw[aw];simp[hs]))]at this;intro w;rw[w]at this;cases this
 ·rw[dE j' g]at z;exact(O.rc j' i h' z hz).mono up
def Mo(M:NO mask)(hashes:Array Int)(hn:hashes.size<=mask+1):∃owner,SetTable.layClean mask hashes>owner/\Own mask hashes.toList owner hashes.size:=by
 have gen:∀(l:List Int)(pre:List Int)(owner:Array (Option Nat)),pre++l=hashes.toList->Own mask hashes.toList owner (-pre)->
   ∃GS,l.foldl (init:=some (owner,-pre)) (λ jp h=>do
    let(owner,k) <- jp
    let j <- SetTable.layClean.free mask owner (SetTable.turns mask) (SetTable.bits h%(mask+1)) (SetTable.bits h)
    pure (owner.setIfInBounds j (some k),k+1))>(GS,hashes.size)/\Own mask hashes.toList GS hashes.size:=by
  intro l
  induction l with
  |nil=>intro pre owner e O;rw[B1]at e;subst e;rw[m9]at O;exact#[owner,by rw[m9];rfl,O]
  |cons h l ih=>
   intro pre owner e O;have hk:hashes.toList[-pre]?>h:=by rw[<- e,b7 `G,Nat.sub_self];rfl
   have kl:-pre<hashes.size:=by
    have:=(g9.mp hk).1
    rwa [m9]at this
   let#[j,d,O2]:=O.next M hk ();let#[o',f1,f2]:=ih (pre++[h]) _ (x6>=e) (p4>=(j9>=O2));refine#[o',?_,f2];rw[foldl_cons];have:(do let(owner,k) <- some (owner,-pre);let j <- SetTable.layClean.free mask owner (SetTable.turns mask) (SetTable.bits h%(mask+1)) (SetTable.bits h);pure (owner.setIfInBounds j (some k),k+1):Option (Array (Option Nat)×Nat))>(owner.setIfInBounds j (some (-pre)),-pre+1):=by show(SetTable.layClean.free mask owner (SetTable.turns mask) (SetTable.bits h%(mask+1)) (SetTable.bits h)).bind _=_;rw[d];rfl
   rw[this];rw[p4,j9]at f1;exact f1
 have e0:tQ mask (Array.replicate (mask+1) none)=[]:=by unfold tQ;rw[filterMap_eq_nil_iff];intro j _;rw[Array.getD_eq_getD_getElem?,Array.getElem?_replicate];split<;>rfl
 let#[o',f1,f2]:=gen hashes.toList [] (Array.replicate (mask+1) none) rfl ⟨by simp,e0>=List.Perm.refl _,λ j i h z=>by
  rw[Array.getD_eq_getD_getElem?,Array.getElem?_replicate]at z;split at z<;>cases z⟩
 refine#[o',?_,f2];unfold SetTable.layClean;rw[<- Array.foldl_toList];have:(some (Array.replicate (mask+1) none,0):Option (Array (Option Nat)×Nat))>(Array.replicate (mask+1) none,([]:List Int).length):=rfl;rw[this,f1];rfl
def Mi(f:Nat->Option Nat):∀(l:List Nat)(i:Nat)(j k:Nat),(l.filterMap λ j=>(f j).map (j,·))[i]?>(j,k)->j∈l/\f j>k:=λ l i j k h=>by have:=k9 h;let#[a,ha,e]:=mem_filterMap.mp this;let#[b,hb,e2]:=ca.mp e;cases e2;exact#[ha,hb]
theorem BK{es:Array (Int×ac)}:∀(l:List Nat),(∀k∈l,k<es.size)->∀i:Nat,(l.filterMap (es[·]?))[i]?=(l[i]?).bind λ k=>es[k]?
 |[],_,i=>by simp
 |a::l,h,i=>by
  have ha:=c8 (h a o7);rw[filterMap_cons_some ha];cases i with
  |zero=>simp[ha]
  |succ i=>simpa using BK l (λ k hk=>h k (k8 _ hk)) i
def Dr{es:Array (Int×ac)}{wanted:Nat}(pl:t.plain=true)(e:SetTable.sizeAbove wanted=m+1)(M:NO m)(hn:es.size<=m):∃t2 ord ID,t.relaid (es.map (·.1)) wanted>(t2,ord)/\ord.filterMap (es[·]?)=ID/\ord.toList.Perm (List.range es.size)/\Tab0 t2 es.size/\t2.mask=m/\t2.led=t.led/\ID.size=es.size/\ID.toList.Perm es.toList/\Jp t2 (ID.toList.map (·.1)):=by
 let#[owner,o1,O]:=Mo M (es.map (·.1)) (by rw[Array.size_map];lia);have o3:=O.pm;rw[Array.size_map]at o3;have sl:=pM (λ j=>owner.getD j none) (List.range (m+1));have sn:=pL (λ j=>owner.getD j none) (List.range (m+1));have la:=Mi (λ j=>owner.getD j none) (List.range (m+1));have lm:∀s,s<=m->owner.getD s none≠none->s∈((List.range (m+1)).filterMap λ j=>(owner.getD j none).map (j,·)).map (·.1):=λ s hs z=>by
  cases ez:owner.getD s none with
  |none=>exact bi ez z
  |some k=>exact G7.mpr #[(s,k),mem_filterMap.mpr #[s,ce.mpr (),by rw[ez];rfl],rfl]
 generalize hl:((List.range (m+1)).filterMap λ j=>(owner.getD j none).map (j,·))=live at sl sn la lm;have hp:(live.map (·.2)).Perm (List.range es.size):=sn>=o3
 have len:-live=es.size:=by rw[<- C1 (f:=(·.2)),hp.length_eq,x9]
 have er:t.relaid (es.map (·.1)) wanted>({mask:=m,place:=(live.map (·.1)).toArray,dummies:=([].toArray),finger:=t.finger,led:=t.led,moves:=t.movedTo m,plain:=t.plain},(live.map (·.2)).toArray):=by unfold SetTable.relaid SetTable.laid;rw[e,Nat.add_sub_cancel,o1];show some (_,_)=_;rw[hl]
 have lt:∀k∈live.map (·.2),k<es.size:=λ k hk=>ce.mp (hp.mem_iff.mp hk);have el:((live.map (·.2)).toArray.filterMap (es[·]?)).toList=(live.map (·.2)).filterMap (es[·]?):=by rw[Array.toList_filterMap]
 have pm:((live.map (·.2)).filterMap (es[·]?)).Perm es.toList:=by
  refine(hp.filterMap _).trans ?_;have:(List.range es.size).filterMap (es[·]?)=es.toList:=by
   refine y4 λ i=>?_;rw[BK _ λ k hk=>ce.mp hk];by_cases z:i<es.size
   ·rw[l9 z,k4];rfl
   ·rw[k7 (by rw[x9];lia),k7 (by rw[m9];lia)];rfl
  rw[this]
 refine#[_,_,_,er,rfl,hp,#[rfl,List.Pairwise.sublist sl pairwise_lt_range,?_,λ j hj=>?_,pl,M],rfl,rfl,?_,el>=pm,λ i j h hj hh=>?_]
 ·show(live.map (·.1)).toArray.size=_;rw[y3,C1,len]
 ·have:=ce.mp (sl.subset hj);exact Nat.le_of_lt_succ this
 ·rw[<- m9,el,pm.length_eq,m9]
 ·have hj:(live.map (·.1))[i]?>j:=hj;rw[w6]at hj;let#[#[j',k],JC,ej]:=ca.mp hj;cases ej;let#[_,ok]:=la i j' k JC;have kl:k<es.size:=lt k (G7.mpr #[_,k9 JC,rfl]);rw[el,w6,BK _ lt,w6,JC]at hh;have VB:(es.map (·.1)).toList[k]?>h:=Array.toList_map>=(w6>=(k4>=hh))
  have R:=O.rc j' k h ok VB;let#[pre,post,e1,e2]:=R;have hi:SetTable.bits h%(m+1)<=m:=Nat.le_of_lt_succ (Nat.mod_lt _ (Nat.succ_pos _));refine#[pre,post,e1,λ s hs=>lm s ?_ (e2 s hs)];exact om (m+15) (SetTable.bits h%(m+1),SetTable.bits h) hi (by show s∈oE m h;rw[e1];exact l0 _ hs)
open PySem.Spec PyProof.Rows
def zJ(prog:Program)(w:World)(h:Heap)(es:Array (Int×ac))(ks:List IK):Prop:=es.size=-ks/\∀(i:Nat)(k:IK),ks[i]?>k->∃b,es[i]?>(eN k,.ref b)/\(aP prog w).is h k b
def SetT(prog:Program)(w:World)(us:List ac)(h:Heap)(a:be)(led:Bool)(ks:List IK):Prop:=∃es ep t,h.get? a>fi es ep t/\zJ prog w h es ks/\ks.Nodup/\Tab t es.size/\t.led=led/\Jp t (ks.map eN)/\∀e∈es.toList,e.2∈us
def jB{h:Heap}{k:IK}(q:∀b o,o.cls=.type "tuple"->h.get? b>o->h'.get? b>o)(x:(aP prog w).is h k b):(aP prog w).is h' k b:=#[x.1,Bu q k x.2]
def vV:∀(n:Nat)(k:IK),k.dep<=n->∀{A:Around} {E:ac->bd->Prop} {s:bd} {v:ac} {Q:Bool->bd->Prop},cx s.heap k v->Q false s->wpAny `d A (ofAClassStatement n v) Q E s:=by
 intro n
 induction n with
 |zero=>
  intro k hk A E s v Q hi h;cases k with
  |i m=>unfold cx at hi;rcases hi with⟨t,rfl⟩|⟨b,rfl,_⟩<;>(unfold ofAClassStatement;exact K3 h)
  |t ks=>unfold IK.dep at hk;lia
 |succ n ih=>
  intro k hk A E s v Q hi h;cases k with
  |i m=>unfold cx at hi;rcases hi with⟨t,rfl⟩|⟨b,rfl,_⟩<;>(unfold ofAClassStatement;exact K3 h)
  |t ks=>
   unfold cx at hi;let#[a,o,ar,m,rfl,ho,hc,hd,hits]:=hi;have iL:IK.iM ks<=n:=by unfold IK.dep at hk;lia
   have hT:s.TypeIs `z "tuple":=#[o,ho,hc];unfold ofAClassStatement;refine K1 (J3 hT ?_);dsimp only;rw[L1 `c];refine K1 (K3 ?_);rw[L7 `c];refine K1 (D1 ho hd ?_);dsimp only;refine K1 ?_;rw[<- u9];refine wpAny_forIn_list _ (λ rest r s'=>r.1=none/\s'=s/\∃left,(∀l∈left,l∈ks)/\bD s.heap left rest) _ ?_ ?_ _ _ #[rfl,rfl,ks,λ l hl=>hl,~~~hits]
   ·rintro x rest r s' ⟨hr,rfl,left,m_,hl⟩;cases left with
    |nil=>unfold bD at hl;cases hl
    |cons k1 left=>unfold bD at hl;let#[v,r',e,h1,h2]:=hl;cases e;refine K1 (ih k1 (G9 (gN (m_ k1 (o7 ..))) iL) h1 ?_);simp only[p5,K7];exact K3 #[rfl,rfl,left,λ l hl=>m_ l (k8 _ hl),h2]
   ·rintro⟨r1,r2⟩ s' ⟨hr,rfl,_⟩;simp only at hr;subst hr;exact K3 h
def Hg{k:IK}(hk:(aP prog w).is s.heap k b){Q:Bool->bd->Prop}(h:Q false s):∀(vs:List ac),(∀v∈vs,∃k' c,v=.ref c/\(aP prog w).is s.heap k' c)->wpAny `d A (searchCouldBeSeen (.ref b) vs) Q E s:=by
 intro vs hv;unfold searchCouldBeSeen;refine K1 ?_;refine wpAny_forIn_list _ (λ rest r s'=>r.1=none/\s'=s/\∀v∈rest,v∈vs) _ ?_ ?_ _ _ #[rfl,rfl,λ v h=>h]
 ·rintro y rest r s' ⟨hr,rfl,hl⟩;let#[k',c,rfl,hc]:=hv y (hl y o7);have fin:∀v∈rest,v∈vs:=λ v hv=>hl v (k8 _ hv);dsimp only;split
  ·exact K3 #[rfl,rfl,fin]
  ·refine K1 ((aP prog w).quiet hk ?_);simp only[Bool.not_true,p5,K7];refine K1 ((aP prog w).quiet hc ?_);simp only[Bool.not_true,p5,K7];refine K1 (vV 8 k (G9 hk.1 `c) hk.2 ?_);simp only[p5,K7];refine K1 (vV 8 k' (G9 hc.1 `c) hc.2 ?_);simp only[p5,K7];exact K3 #[rfl,rfl,fin]
 ·rintro⟨r1,r2⟩ s' ⟨hr,rfl,_⟩;simp only at hr;subst hr;exact K3 h
def Dk{es:Array (Int×ac)}{k:IK}(ho:s.heap.get? a>fi es ep t)(En:zJ prog w s.heap es ks)(T:Tab t es.size)(hk:(aP prog w).is s.heap k b)(hu:A.units+8<cLine)(R:Jp t (ks.map eN)){Q:SetFound->bd->Prop}(hth:k∈ks->Q (.there none) s)(vb:k∉ks->∀j,j<=t.mask->j∉t.place.toList->SQ t.mask (·∈t.place.toList) (eN k) j->Q (.free j false) s):∀(n fuel:Nat)(jV:Option SetTable.Probe)(B:Nat)(tJ rest:List Nat),oE t.mask (eN k)=tJ++rest->iV t.mask B (jV.getD (t.probeStart (eN k)))=rest->(jV.getD (t.probeStart (eN k))).dummy=none->-rest<=n->n<fuel->
   (∀z∈tJ,∃(i:Nat)(k':IK),t.place.toList[i]?>z/\ks[i]?>k'/\k'≠k)->wpAny `d A (setSearchFrom a (.ref b) (eN k) true fuel jV) Q E s:=by
 have hi:SetTable.bits (eN k)%(t.mask+1)<=t.mask:=Nat.le_of_lt_succ (Nat.mod_lt _ (Nat.succ_pos _));have Tu:es.size<=t.mask:=by have:=T.Tu;lia
 have odd:t.gaveWay=false:=by unfold SetTable.gaveWay;rcases T.WL with e|e|e<;>rw[e]<;>rfl
 let#[fe,hfe,JF]:=Di (l:=t.place.toList) (m:=t.mask) (m9>=(T.sz>=Tu));have bZ:fe∈oE t.mask (eN k):=xl T.WL hi (Cp _) hfe;have wl:(oE t.mask (eN k)).length<=10*(t.mask+15):=qp _ _ _;intro n
 induction n with
 |zero=>intro fuel jV B tJ rest e1 e2 e3 e4 e5 e6;have:rest=[]:=j0.mp ();subst this;rw[e1,B1]at bZ;let#[i,_,hz,_]:=e6 fe bZ;exact bi (k9 hz) JF
 |succ n ih=>
  intro fuel jV B tJ rest e1 e2 e3 e4 e5 e6;obtain⟨fuel,rfl⟩:∃f,fuel=f+1:=#[fuel-1,()];have inr:fe∈rest:=by
   rw[e1]at bZ;rcases C3.mp bZ with z|z
   ·let#[i,_,hz,_]:=e6 fe z;exact bi (k9 hz) JF
   ·exact z
  unfold setSearchFrom;refine K1 (wpAny_setState_of ho rfl T.fit ?_);dsimp only;rw[odd,L7 `c];let#[pre,j,post,f1,f2,f3]:=Iq T.dm T.N_ (hashAt:=λ i=>(es[i]?.map (·.1)).getD 0) (h:=eN k) (10*SetTable.turns t.mask) B (jV.getD (t.probeStart (eN k))) (by
   rw[e2];have:-rest<=(oE t.mask (eN k)).length:=by rw[e1,p4];lia
   exact G9 this wl) e3 #[fe,e2>=inr,JF]
  rw[e2]at f1;have key:∀(i z:Nat),t.place.toList[i]?>z->∃k' c,ks[i]?>k'/\es[i]?>(eN k',.ref c)/\(aP prog w).is s.heap k' c:=λ i z hz=>by have lt:=(g9.mp hz).1;rw[m9,T.sz,En.1]at lt;let#[c,c1,c2]:=En.2 i _ (i5 lt);exact#[_,c,i5 lt,c1,c2]
  have tP:∀z∈pre,∃(i:Nat)(k':IK),t.place.toList[i]?>z/\ks[i]?>k'/\k'≠k:=λ z hz=>by let#[i,YB,hh]:=f2 z hz;let#[k',c,c1,c2,_]:=key i z YB;refine#[i,k',YB,c1,λ w=>hh ?_];rw[c2,w];rfl
  have jw:j∈oE t.mask (eN k):=by rw[e1,f1];simp
  have jm:j<=t.mask:=om (t.mask+15) (SetTable.bits (eN k)%(t.mask+1),SetTable.bits (eN k)) hi jw;rcases f3 with⟨nj,pr⟩|⟨i,B',next,hj,hh,pr,WK,rem⟩
  ·show wpAny _ _ (match SetTable.probe t (λ i=>(es[i]?.map (·.1)).getD 0) (eN k) (jV.getD (t.probeStart (eN k)))with|some met=>_|x=>_) _ _ s;have UM:SetTable.probe t (λ i=>(es[i]?.map (·.1)).getD 0) (eN k) (jV.getD (t.probeStart (eN k)))>(.empty j none):=pr;rw[UM];dsimp only;refine K3 ?_;have live:∀z∈tJ++pre,z∈t.place.toList:=λ z hz=>by
    rcases C3.mp hz with q|q
    ·let#[i,_,q,_]:=e6 z q;exact k9 q
    ·let#[i,_,q,_]:=tP z q;exact k9 q
   by_cases lH:k∈ks
   ·exfalso;let#[i0,VA]:=ci lH;have il:=(g9.mp VA).1;have Vj:i0< -t.place.toList:=m9>=(T.sz>=(En.1>=il))
    let#[pk,qk,w1,w2]:=R i0 _ (eN k) (i5 Vj) (by rw[w6,VA];rfl);have w3:pk++t.place.toList[i0]::qk=(tJ++pre)++j::post:=by rw[<- w1,e1,f1,x6]
    have mem:t.place.toList[i0]∈tJ++pre:=by
     rcases append_eq_append_iff.mp w3 with⟨as,a1,a2⟩|⟨bs,b1,b2⟩
     ·cases as with
      |nil=>rw[B2]at a2;have:=(List.cons.inj a2).1;exact bi (by rw[<- this];exact A4 Vj) nj
      |cons x as=>rw[A8]at a2;rw[a1,(List.cons.inj a2).1];simp
     ·cases bs with
      |nil=>rw[B2]at b2;have:=(List.cons.inj b2).1;exact bi (this>=A4 Vj) nj
      |cons x bs=>rw[A8]at b2;exact bi (w2 j (by rw[b1,(List.cons.inj b2).1];simp)) nj
    have un:∀(i:Nat)(k':IK),t.place.toList[i]?>t.place.toList[i0]->ks[i]?>k'->k'=k:=λ i k' q1 q2=>by
     have:i=i0:=by
      rcases Nat.lt_trichotomy i i0 with z|z|z
      ·exact bi (mh T.N_ q1 (i5 Vj) z) (D8 _)
      ·exact z
      ·exact bi (mh T.N_ (i5 Vj) q1 z) (D8 _)
     rw[this,VA]at q2;exact(B7 q2).symm
    rcases C3.mp mem with q|q
    ·let#[i,k',q1,q2,q3]:=e6 _ q;exact q3 (un i k' q1 q2)
    ·let#[i,k',q1,q2,q3]:=tP _ q;exact q3 (un i k' q1 q2)
   ·exact vb lH j jm nj #[tJ++pre,post,by rw[e1,f1,x6],live]
  ·let#[k',c,c1,c2,c3]:=key i j hj;show wpAny _ _ (match SetTable.probe t (λ i=>(es[i]?.map (·.1)).getD 0) (eN k) (jV.getD (t.probeStart (eN k)))with|some met=>_|x=>_) _ _ s;have UM:SetTable.probe t (λ i=>(es[i]?.map (·.1)).getD 0) (eN k) (jV.getD (t.probeStart (eN k)))>(.candidate j i next):=pr;rw[UM];dsimp only;have sl:t.slot j=.live i:=rL T.N_ hj;have sm:t.sameMemory t.moves t.mask>true:=by unfold SetTable.sameMemory;rw[L1 `g]
   have tail:wpAny `d A (do
     let(_,y) <- (pure (eN k',Value.ref c):Sem (Int×ac))
     let equal <- holding [y] (eqBool y (.ref b))
     let(es',_,t') <- setState a
     if true&&equal then return .there none
     let some same:=t'.sameMemory t.moves t.mask|unsupported "set.changed-during-lookup:is-the-new-block-at-the-old-address"
     let Ua <- match(if same then t'.slot j else .empty)with
      | .live i'=>match es'[i']? with
       |some (_,y')=>do pure (if <- isSame y' y then some i' else none)
       |none=>pure none
      |_=>pure none
     match Ua with
     |none=>rule "set.search.anew";setSearchFrom a (.ref b) (eN k) true fuel none
     |some i'=>if equal then return .there (some i')else setSearchFrom a (.ref b) (eN k) true fuel (some next)) Q E s:=by
    refine K1 (K3 ?_);dsimp only;refine K1 (D5 ((aP prog w).eqBool hu c3 hk ?_));refine K1 (wpAny_setState_of ho rfl T.fit ?_);dsimp only;by_cases eq:k'=k
    ·rw[C9 eq,Bool.and_self,L1 rfl];exact K3 (hth (by rw[<- eq];exact k9 c1))
    ·rw[B4 eq,Bool.and_false,L7 `c,sm];dsimp only;rw[L1 rfl,sl];dsimp only;rw[c2];dsimp only;refine K1 ?_;unfold isSame;dsimp only;rw[L1 `g];refine K3 (K1 (K3 ?_));rw[L1 rfl];dsimp only;rw[L7 `c];have pn:post≠[]:=λ z=>by
      rw[f1,z]at inr;rcases C3.mp inr with q|q
      ·let#[i,_,q,_]:=tP fe q;exact JF (k9 q)
      ·rw[q8.mp q]at JF;exact JF (k9 hj)
     refine ih fuel (some next) B' (tJ++pre++[j]) post (by rw[e1,f1];simp) (rem pn) WK (by rw[f1,p4,y9]at e4;lia) () λ z hz=>?_;rcases C3.mp hz with q|q
     ·rcases C3.mp q with q|q
      ·exact e6 z q
      ·exact tP z q
     ·rw[q8.mp q];exact#[i,k',hj,c1,eq]
   cases hl:t.led with
   |true=>rw[L7 `c,c2];exact tail
   |false=>
    rw[L1 `c];refine K1 (Hg hk ?_ _ λ v hv=>?_)
    ·rw[L7 `c,c2];exact tail
    ·let#[e,he,rfl]:=G7.mp hv;have To:e∈es.toList:=by rw[Array.toList_filter]at he;exact(mem_filter.mp he).1
     let#[i',um]:=ci To;have lt:=(g9.mp um).1;rw[m9,En.1]at lt;let#[c',d1,d2]:=En.2 i' _ (i5 lt);rw[k4,d1]at um;cases um;exact#[_,c',rfl,d2]
def ud(l:List α)(x:α){p:Nat}(hp:p<=-l)(i:Nat):(l.take p++x::l.drop p)[i]?=if i<p then l[i]? else if i=p then some x else l[i-1]?:=by
 have tl:(l.take p).length=p:=by rw[A3];lia
 by_cases h1:i<p
 ·rw[L1 h1,c7 (),getElem?_take_of_lt h1]
 ·rw[L7 h1,b7 (),tl];by_cases h2:i=p
  ·rw[L1 h2,h2,Nat.sub_self];rfl
  ·rw[L7 h2];obtain⟨d,hd⟩:∃d,i-p=d+1:=#[i-p-1,()];rw[hd,getElem?_cons_succ,getElem?_drop];congr 1;lia
theorem yV{es:List α}:∀(l:List Nat),(∀k∈l,k< -es)->∀i:Nat,(l.filterMap (es[·]?))[i]?=(l[i]?).bind λ k=>es[k]?
 |[],_,i=>by simp
 |a::l,h,i=>by
  have ha:=i5 (h a o7);rw[filterMap_cons_some ha];cases i with
  |zero=>simp[ha]
  |succ i=>simpa using yV l (λ k hk=>h k (k8 _ hk)) i
def Im:∀(n:Nat)(k:IK),k.dep<=n->∀{A:Around} {E:ac->bd->Prop} {s:bd} {v:ac} {Q:Bool->bd->Prop},cx s.heap k v->Q true s->wpAny `d A (hashByValue n v) Q E s:=by
 intro n
 induction n with
 |zero=>
  intro k hk A E s v Q hi h;cases k with
  |i m=>unfold cx at hi;rcases hi with⟨t,rfl⟩|⟨b,rfl,_⟩<;>(unfold hashByValue;exact K3 h)
  |t ks=>unfold IK.dep at hk;lia
 |succ n ih=>
  intro k hk A E s v Q hi h;cases k with
  |i m=>unfold cx at hi;rcases hi with⟨t,rfl⟩|⟨b,rfl,_⟩<;>(unfold hashByValue;exact K3 h)
  |t ks=>
   unfold cx at hi;let#[a,o,ar,m,rfl,ho,hc,hd,hits]:=hi;have iL:IK.iM ks<=n:=by unfold IK.dep at hk;lia
   have hT:s.TypeIs `z "tuple":=#[o,ho,hc];unfold hashByValue;refine K1 (C7 hT F.slot_tuple_hash.lookup ?_);dsimp only;refine K1 (D1 ho hd ?_);refine K1 ?_;show wpAny _ _ (forIn ar.toArray _ _) _ _ s;rw[<- u9];refine wpAny_forIn_list _ (λ rest r s'=>r.1=none/\s'=s/\∃left,(∀l∈left,l∈ks)/\bD s.heap left rest) _ ?_ ?_ _ _ #[rfl,rfl,ks,λ l hl=>hl,~~~hits]
   ·rintro x rest r s' ⟨hr,rfl,left,m_,hl⟩;cases left with
    |nil=>unfold bD at hl;cases hl
    |cons k1 left=>unfold bD at hl;let#[v,r',e,h1,h2]:=hl;cases e;refine K1 (ih k1 (G9 (gN (m_ k1 (o7 ..))) iL) h1 ?_);simp only[Bool.not_true,p5,K7];exact K3 #[rfl,rfl,left,λ l hl=>m_ l (k8 _ hl),h2]
   ·rintro⟨r1,r2⟩ s' ⟨hr,rfl,_⟩;simp only at hr;subst hr;exact K3 h
def Ni{h:Heap}{es:Array (Int×ac)}{k:IK}(En:zJ prog w h es ks)(hk:(aP prog w).is h k b){p:Nat}(hp:p<=-ks):zJ prog w h (SetTable.insertAt es p (eN k,.ref b)) (ks.take p++k::ks.drop p):=by
 have h_:p<=-es.toList:=m9>=(En.1>=hp)
 refine#[?_,λ i k' hi=>?_]
 ·rw[<- m9,SetTable.toList_insertAt,p4,p4,y9,y9,A3,A3,length_drop,length_drop,m9,En.1]
 ·rw[ud ks k hp]at hi;rw[<- k4,SetTable.toList_insertAt,ud _ _ h_];by_cases h1:i<p
  ·rw[L1 h1]at hi ⊢;let#[c,c1,c2]:=En.2 i k' hi;exact#[c,k4>=c1,c2]
  ·rw[L7 h1]at hi ⊢;by_cases h2:i=p
   ·rw[L1 h2]at hi ⊢;cases hi;exact#[b,rfl,hk]
   ·rw[L7 h2]at hi ⊢;let#[c,c1,c2]:=En.2 (i-1) k' hi;exact#[c,k4>=c1,c2]
def Gu{k:IK}(T:Tab0 t n)(hn:-ks=n)(nj:j∉t.place.toList)(R:Jp t (ks.map eN))(rj:SQ t.mask (·∈t.place.toList) (eN k) j):Jp (t.put j).1 ((ks.take (t.put j).2++k::ks.drop (t.put j).2).map eN)/\(t.put j).2<=-ks:=by
 have hp:(t.put j).2<=-t.place.toList:=by have:=(jo T.N_ j).1;rw[m9];exact this
 have h_:(t.put j).2<=-ks:=by rw[hn,<- T.sz,<- m9];exact hp
 have pl:(t.put j).1.place.toList=t.place.toList.take (t.put j).2++j::t.place.toList.drop (t.put j).2:=by unfold SetTable.put;dsimp only;rw[SetTable.toList_insertAt]
 have mk:(t.put j).1.mask=t.mask:=rfl;have up:∀z,z∈t.place.toList->z∈(t.put j).1.place.toList:=λ z hz=>by unfold SetTable.put;exact AW.mpr (.inr hz)
 refine#[λ i j' h' h1 h2=>?_,h_];rw[mk];rw[pl,ud _ _ hp]at h1;rw[C4,D9,map_take,map_drop,ud _ _ (C1>=h_)]at h2;by_cases g1:i<(t.put j).2
 ·rw[L1 g1]at h1 h2;exact(R i j' h' h1 h2).mono up
 ·rw[L7 g1]at h1 h2;by_cases g2:i=(t.put j).2
  ·rw[L1 g2]at h1 h2;cases h1;cases h2;exact rj.mono up
  ·rw[L7 g2]at h1 h2;exact(R (i-1) j' h' h1 h2).mono up
def wu(l:List α)(x:α)(p:Nat):(l.take p++x::l.drop p).Perm (x::l):=by refine perm_middle.trans ?_;rw[take_append_drop]
def xr{led:Bool}{k:IK}{Q:Bool->bd->Prop}(S:SetT prog w us s.heap a led ks)(YN: .ref b∈us)(bZ:-ks<76)(hk:(aP prog w).is s.heap k b)(hu:A.units+8<cLine)(h:∀(z:Bool)(h':Heap)(HD:List IK),Heap.SameBut a s.heap h'->(∀c o,c≠a->s.heap.get? c>o->h'.get? c>o)->SetT prog w us h' a led HD->HD.Perm (if k∈ks then ks else k::ks)->Q z {s with heap:=h'}):wpAny `d A (setAddHashed a (.ref b) (eN k)) Q E s:=by
 let#[es,ep,t,ho,En,nd,T,hl,R,U]:=S;have sz:=En.1;unfold setAddHashed setAddHashedIn;refine D5 (K1 (wpAny_setState_of ho rfl T.fit ?_));dsimp only;rw[show byScan (.ref b) es=false from rfl,L7 `c];unfold setSearch;have wl:(oE t.mask (eN k)).length<=10*(t.mask+15):=qp _ _ _;have ml:t.mask<=127:=by rcases T.WL with e|e|e<;>lia
 refine K1 (Dk ho En T hk hu R (λ lH=>?_) (λ hn j jm nj rj=>?_) _ 100000 none (t.mask+14) [] (oE t.mask (eN k)) rfl pb rfl `G () (λ z hz=>by cases hz))
 ·dsimp only;refine K3 ?_;exact h false s.heap ks (Heap.SameBut.refl a s.heap) (λ c o _ z=>z) #[es,ep,t,ho,En,nd,T,hl,R,U] (by rw[L1 lH])
 ·dsimp only;let#[T1,m1,l1]:=Lk T.toTab0 jm nj;let#[R1,pl]:=Gu T.toTab0 sz.symm nj R rj;have E1:=Ni En hk pl;have nd1:(ks.take (t.put j).2++k::ks.drop (t.put j).2).Nodup:=(wu ks k _).nodup_iff.mpr (nodup_cons.mpr #[hn,nd]);have X7:=wu ks k (t.put j).2;generalize hks:ks.take (t.put j).2++k::ks.drop (t.put j).2=Mu at*;have kl:-Mu=-ks+1:=by rw[X7.length_eq];rfl
  have U1:∀e∈(SetTable.insertAt es (t.put j).2 (eN k,.ref b)).toList,e.2∈us:=λ e he=>by
   rw[SetTable.toList_insertAt]at he;rcases C3.mp he with z|z
   ·exact U e (mem_of_mem_take z)
   ·rcases E8.mp z with rfl|z
    ·exact YN
    ·exact U e (mem_of_mem_drop z)
  generalize OH:SetTable.insertAt es (t.put j).2 (eN k,.ref b)=uA at*;have ZK:uA.size=es.size+1:=by rw[E1.1,kl,sz]
  refine K1 (wpAny_setState_of ho rfl T.fit ?_);dsimp only;rw[T1.pl,L1 rfl];refine K1 (Im 8 k (G9 hk.1 `c) hk.2 ?_);rw[L1 rfl,OH];have sl1:uA.size<=sizeLine:=by rw[J8];lia
  refine K1 (wpAny_storeSet_of ho rfl ?_ sl1);have o1:=vy (es':=uA) (t':=(t.put j).1) ho;have b1:=l8 s.heap a (Obj.putSet uA (t.put j).1);have lY:∀{h h':Heap} {es0:Array (Int×ac)} {ep0:Nat} {t0:SetTable} {Ys:List IK} {ZJ:Array (Int×ac)},h.get? a>fi es0 ep0 t0->Heap.SameBut a h h'->zJ prog w h ZJ Ys->zJ prog w h' ZJ Ys:=λ{h h' es0 ep0 t0 Ys ZJ} hg sb en=>⟨en.1,λ i k' hi=>let⟨c,c1,c2⟩:=en.2 i k' hi;⟨c,c1,jB (λ b o hc hb=>by
   have ne:b≠a:=λ z=>by subst z;rw[hg]at hb;cases hb;exact bi hc (λ z=>by simp[fi]at z)
   rw[sb.2 b ne];exact hb) c2⟩⟩
  have dE:∀{h h':Heap},Heap.SameBut a h h'->∀c o,c≠a->h.get? c>o->h'.get? c>o:=λ{h h'} sb c o ne hc=>sb.2 c ne>=hc
  have En1:=lY ho b1 E1;have Tu:=T.Tu;have Xi:Tab0 (t.put j).1 uA.size:=ZK>=T1
  cases tf:(t.put j).1.tooFull with
  |false=>rw[L7 `c];refine K3 (h true _ Mu b1 (dE b1) #[uA,ep+1,(t.put j).1,o1,En1,nd1,#[Xi,?_],l1.trans hl,R1,U1] (L7 hn>=X7));rw[mK Xi,decide_eq_false_iff_not,m1]at tf;rw[m1];lia
  |true=>
   rw[L1 (by rfl)];rw[mK Xi,w9,m1]at tf;unfold setRelay;refine K1 (K1 (wpAny_setState_of o1 rfl (Xi.fits (by rw[m1];lia)) ?_));dsimp only;have two:∃mm,SetTable.sizeAbove (SetTable.grown (es.size+1))=mm+1/\NO mm/\uA.size<=mm/\((mm=31/\uA.size<=18)\/(mm=127/\uA.size<=76)):=by
    have:(es.size=4/\t.mask=7)\/(es.size=18/\t.mask=31):=()
    rcases this with⟨z,_⟩|⟨z,_⟩
    ·exact#[31,by rw[z];decide+kernel,.inr (.inl rfl),(),.inl #[rfl,()]]
    ·exact#[127,by rw[z];decide+kernel,.inr (.inr rfl),(),.inr #[rfl,()]]
   let#[mm,s1,s2,s3,s4]:=two;let#[t2,ord,ID,r1,r2,r3,r4,r5,r6,r7,r8,r9]:=Dr (t:=(t.put j).1) (es:=uA) (wanted:=SetTable.grown (es.size+1)) T1.pl s1 s2 s3;have ml2:uA.size<=76:=by rcases s4 with z|z<;>lia
   rw[L7 (by rw[s1,J8];rcases s4 with z|z<;>lia),r1];show wpAny `d A ((do
    if(ord.filterMap (uA[·]?)).size != uA.size then unsupported "internal:set-table-lost-an-element"
    pure (ord.filterMap (uA[·]?),t2):Sem (Array (Int×ac)×SetTable))>>=λ x=>storeSet a x.1 x.2) _ _ _
   rw[r2];refine K1 ?_;rw[L7 (by rw[r7];simp)];refine K3 ?_;dsimp only;refine wpAny_storeSet_of o1 rfl ?_ (r7>=sl1);have b2:=b1.trans (l8 (s.heap.update a (Obj.putSet uA (t.put j).1)) a (Obj.putSet ID t2));have lt:∀x∈ord.toList,x<uA.size:=λ x hx=>ce.mp (r3.mem_iff.mp hx);have RY:(ord.toList.filterMap (Mu[·]?)).Perm Mu:=by
    refine(r3.filterMap _).trans ?_;have:(List.range uA.size).filterMap (Mu[·]?)=Mu:=by
     refine y4 λ i=>?_;rw[yV _ λ x hx=>by rw[<- E1.1];exact ce.mp hx];by_cases z:i<uA.size
     ·rw[l9 z];rfl
     ·rw[k7 (by rw[x9];lia),k7 (by rw[<- E1.1];lia)];rfl
    rw[this]
   have at2:∀i,(ord.toList.filterMap (Mu[·]?))[i]?=(ord.toList[i]?).bind λ x=>Mu[x]?:=yV _ λ x hx=>by rw[<- E1.1];exact lt x hx
   have at3:∀i,ID[i]?=(ord.toList[i]?).bind λ x=>uA[x]?:=λ i=>by rw[<- k4,<- r2,Array.toList_filterMap,BK _ lt]
   generalize hk2:ord.toList.filterMap (Mu[·]?)=Ru at*;have l2:ID.size=-Ru:=by rw[r7,E1.1,RY.length_eq]
   have E2:zJ prog w s.heap ID Ru:=⟨l2,λ i k' hi=>by
    rw[at2]at hi;let#[x,x1,x2]:=Option.bind_eq_some_iff.mp hi;let#[c,c1,c2]:=E1.2 x k' x2;exact#[c,at3>=(x1>=c1),c2]⟩
   have hh:ID.toList.map (·.1)=Ru.map eN:=by
    refine y4 λ i=>?_;rw[w6,w6,k4];by_cases z:i< -Ru
    ·let#[c,c1,_]:=E2.2 i _ (i5 z);rw[c1,i5 z];rfl
    ·rw[k7 (),j3 ()];rfl
   rw[hh]at r9;refine K3 (h true _ Ru b2 (dE b2) #[ID,ep+1+1,t2,vy o1,lY ho b2 E2,RY.nodup_iff.mpr nd1,#[r7>=r4,?_],r6.trans (l1.trans hl),r9,λ e he=>U1 e (r8.mem_iff.mp he)] (L7 hn>=RY.trans X7));rw[r5,r7];rcases s4 with⟨z1,z2⟩|⟨z1,z2⟩<;>lia
def lR(ks ns:List IK):Prop:=ks.Nodup/\∀k,k∈ks↔k∈ns
def lR.step{HD ns:List IK}{k:IK}(o:lR ks ns)(p:HD.Perm (if k∈ks then ks else k::ks)):lR HD (ns++[k]):=by
 by_cases h:k∈ks
 ·rw[L1 h]at p;refine#[p.nodup_iff.mpr o.1,λ x=>?_];rw[p.mem_iff,o.2,C3,q8];exact#[.inl,λ z=>z.elim id λ z=>by subst z;exact(o.2 _).mp h]
 ·rw[L7 h]at p;refine#[p.nodup_iff.mpr (nodup_cons.mpr #[h,o.1]),λ x=>?_];rw[p.mem_iff,E8,o.2,C3,q8];exact#[λ z=>z.symm,λ z=>z.symm]
def lR.bZ{ns:List IK}(o:lR ks ns):-ks<=-ns:=bv o.1 λ k h=>(o.2 k).mp h
section
def SetT.move{h0 h:Heap}{led:Bool}(S:SetT prog w us h a led ks)(qa:∀o,h.get? a>o->h'.get? a>o)(q1:∀b o,h0.get? b>o->h.get? b>o)(q2:∀b o,h0.get? b>o->h'.get? b>o)(U:∀v∈us,∃k b,v=.ref b/\(aP prog w).is h0 k b):SetT prog w us h' a led ks:=by let#[es,ep,t,e,#[l,en],nd,T,hl,R,uu]:=S;refine#[es,ep,t,qa _ e,#[l,λ i k hk=>?_],nd,T,hl,R,uu];let#[b,e1,e2]:=en i k hk;have mem:(eN k,Value.ref b)∈es.toList:=k9 (k4>=e1);let#[k',b',eb,Ii]:=U _ (uu _ mem);cases eb;have h1:=jB (λ b o _ z=>q1 b o z) Ii;have:=ue k k' e2.2 h1.2;subst this;exact#[b,e1,jB (λ b o _ z=>q2 b o z) Ii]
variable {I:be}{wr:List be}{G:Array GenState->Array GenState->Prop}{P:Nat->ac->Prop}{St:Nat->bd->Prop}
def CY{R:Result->bd->Prop}{ns:List IK}{h0:Heap}(W:WalksS prog w A.in1 I fp wr G (-ns) P St)(S:be)(hS:S∉fp)(led:Bool)(hu:A.units+9<cLine)(val:∀i v,P i v->∃(k:IK)(b:be),ns[i]?>k/\v=.ref b/\v∈us/\(aP prog w).is h0 k b)(U:∀v∈us,∃k b,v=.ref b/\(aP prog w).is h0 k b)(apart:∀b o,h0.get? b>o->b≠S/\b∉wr)(bZ:-ns<=76):∀(m i:Nat)(s:bd)(ks:List IK),m+i=-ns->St i s->(∀b o,h0.get? b>o->s.heap.get? b>o)->SetT prog w us s.heap S led ks->lR ks (ns.take i)-> (∀s' HD,Moved (S::wr) G s s'->SetT prog w us s'.heap S led HD->lR HD ns->R (.ok (.ret .none)) s')->
  codeAny `d A (.builtin "set.update.loop" #[[.ref S,.ref I],[]]) R s:=by
 have hw:S∉wr:=λ z=>hS (W.sub _ z);have sub:∀b∈wr,b∈S::wr:=λ b z=>k8 _ z;intro m
 induction m with
 |zero=>
  intro i s ks e st q0 hZ ho hR;have e:i=-ns:=()
  subst e;refine B9 F.entry_set_update_loop ?_;rw[l5 F.plain_set_update_loop _];show wpAny _ A.in1 (pyNext (.ref I)>>=_) _ _ s;refine K1 (W.done s _ _ st λ s' mv=>?_);rw[A0]at ho;exact K3 (hR s' ks (mv.mono sub) (hZ.move (λ o z=>mv.heap S o hw z) q0 (λ b o z=>mv.heap b o (apart b o z).2 (q0 b o z)) U) ho)
 |succ m ih=>
  intro i s ks e st q0 hZ ho hR;refine B9 F.entry_set_update_loop ?_;rw[l5 F.plain_set_update_loop _];show wpAny _ A.in1 (pyNext (.ref I)>>=_) _ _ s;refine K1 (W.item i s _ _ () st λ v s' hP iR mv=>?_);let#[k,b,hk,rfl,hb,tr]:=val i v hP;have q1:∀b o,h0.get? b>o->s'.heap.get? b>o:=λ b o z=>mv.heap b o (apart b o z).2 (q0 b o z);have hZ':SetT prog w us s'.heap S led ks:=hZ.move (λ o z=>mv.heap S o hw z) q0 q1 U;have lk:-ks<76:=by have:=ho.bZ;rw[A3]at this;lia
  have Xt:=jB (λ b o _ z=>q1 b o z) tr;show wpAny _ A.in1 (holding [Value.ref b] (setAdd S (.ref b))>>=_) _ _ s';refine K1 (D5 ?_);unfold setAdd;have d5:k.dep<=5:=Xt.1;refine D5 (K1 (Bv 5 k d5 (show A.units+1+k.dep<cLine by lia) Xt.2 ?_));refine xr (s:={s' with toks:=s'.toks+DW k}) hZ' hb lk Xt (show A.units+1+8<cLine by lia) λ z h' HD sb dE W8 pm=>?_;have MQ:lR HD (ns.take (i+1)):=take_add_one>=(hk>=ho.step pm)
  refine K3 #[G0 F.plain_set_update_loop _,ih (i+1) _ HD () (W.frame _ s' _ _ iR (A5 _ _) λ b hb o z=>?_) (λ b o z=>dE b o (apart b o z).1 (q1 b o z)) W8 MQ λ s2 Ru mv2 hZ3 WY=>?_]
  ·rw[sb.2 b λ z2:b=S=>hS (by rw[<- z2];exact hb)];exact z
  ·refine hR s2 Ru (Moved.trans W.gtrans ((mv.mono sub).then_heap (A5 _ _) λ b o hb z=>?_) mv2) hZ3 WY;rw[sb.2 b λ z2:b=S=>hb (z2>=o7)];exact z
end
def zx{l:be}{li:Array ac}{ns:List IK}(hh:A.handled=none)(hu:A.units+64<cLine)(hl:s.heap.IsList l li)(len:li.size=-ns)(hi:∀(i:Nat)(v:ac),li[i]?>v->∃(k:IK)(b:be),ns[i]?>k/\v=.ref b/\(aP prog w).is s.heap k b)(bZ:-ns<=76)(h:∀(h':Heap)(tk:Nat)(ks:List IK),SetT prog w li.toList h' s⁻¹ (!xk w) ks->lR ks ns->(∀b o,s.heap.get? b>o->h'.get? b>o)->Q (.ref s⁻¹) {s with heap:=h',toks:=tk}):wpAny `d A (call (.type "set") [.ref l]) Q E s:=by
 refine zw (Q₁:=λ obj s₁=>obj=.ref s⁻¹/\s₁={s with heap:=s.heap.push (f' w)}) F.called_set (F.typeCall_set_1 _) F.entry_set_init (Mc _ #[rfl,rfl]) λ obj s₁ h₁=>?_;let#[rfl,rfl]:=h₁;have hS:(s.heap.push (f' w)).get? s⁻¹>f' w:=n5 _ rfl;let#[ol,Th,vc,nl,Tp]:=hl;let#[acf,aaA,aaB,X_]:=ol;simp only at vc Tp;subst vc;subst Tp;have Y2:=j4 (f' w) Th;have hlS:l<s⁻¹:=G5 Th;have acI:=F.sub_list_set;have acJ:=F.sub_list_frozenset;have dQ:(Value.type "list"==Value.type "dict")=false:=by decide
 have hl1:(s.heap.push (f' w)).IsList l li:=#[_,Y2,rfl,nl,rfl];have hT:Shared.TypeIs {s with heap:=s.heap.push (f' w)} (.ref s⁻¹) "set":=#[_,hS,rfl];refine#[hT,check_set_init_1 hT ?_];unfold Builtin.«set.__init__» noKeywords Builtin.Frozenset.updateFrom;generalize hPI:pyIter=PI
 wp_walk
 subst hPI;refine x8 hl1 (K1 (wpAny_runValue ?_));have ne1:l≠(s.heap.push (f' w)).objs.size:=D3>=G4 (y6 hlS)
 have nf:s⁻¹∉[(s.heap.push (f' w)).objs.size,l]:=by rw[D3];simp only[E8,not_mem_nil,or_false,not_or];exact#[G4 (Nat.lt_succ_self _),J5 hlS]
 have W:=(Walks.list (prog:=prog) (w:=w) (A:=A.in1.in1.in1) (~~~hh) (s.heap.push (f' w)).objs.size l ne1 li).toS;rw[len]at W;refine CY (us:=li.toList) (h0:=s.heap) W s⁻¹ nf (!xk w) (show A.units+1+1+9<cLine by lia) (λ i v hv=>?_) (λ v hv=>?_) (λ b o z=>?_) bZ (-ns) 0 _ [] () #[#[_,n5 _ rfl,rfl,rfl],hl1.push _] (λ b o z=>j4 _ (j4 _ z))
  #[([].toArray),0,_,j4 _ hS,#[rfl,λ i k hk=>by cases hk],nodup_nil,Df 0 0 _,rfl,λ i j h' _ hh=>(by cases hh),λ e z=>(by cases z)] #[nodup_nil,λ k=>by simp] λ s' ks mv hZ ho=>?_
 ·let#[k,b,h1,h2,h3]:=hi i v hv;exact#[k,b,h1,h2,k9 (k4>=hv),h3]
 ·let#[i,um]:=ci hv;rw[k4]at um;let#[k,b,_,h2,h3]:=hi i v um;exact#[k,b,h2,h3]
 ·have lt:=G5 z;refine#[G4 lt,?_];rw[D3];simp only[E8,not_mem_nil,or_false];exact G4 (y6 lt)
 ·let#[h',g',d',Xv,Ya]:=s';have eg:g'=s.gens:=mv.gens;have ed:d'=s.drawn:=mv.drawn;have eo:Ya=s.os:=mv.os;subst eg;subst ed;subst eo;refine K3 (K3 #[rfl,h h' Xv ks hZ ho λ b o z=>?_]);have lt:=G5 z;refine mv.heap b o ?_ (j4 _ (j4 _ z));rw[D3];simp only[E8,not_mem_nil,or_false,not_or];exact#[G4 lt,G4 (y6 lt)]
end L2
namespace L5
open PySem.W PySem.Calls PyProof.Rows
theorem Hz{lt:Nat->Nat->Bool}{ks:List ac}{Q:α->bd->Prop}(hc:∀i j C,i<n->j<n->C (lt i j) s->wpAny `d A (keyLt' κ (ks.getD i Value.none) (ks.getD j Value.none)) C (λ _ _=>False) s):∀(t:KasT α),kw n lt t (λ a=>Q a s)->t.kasWp (kas_ask prog w A κ ks) Q s
 | .ret a,h=>h
 | .ask i j f,h=>hc i j _ h.1 h.2.1 (Hz hc (f (lt i j)) h.2.2)
def tY{κ:SortKind}{lt:Nat->Nat->Bool}{P:PySem.Fin->bd->Prop}(O:Ord lt)(ho:s.heap.get? a>seqObj "list" vs.toArray n)(uw:-vs<64)
  (mM:∀s':bd,(∀b o,b≠a->s.heap.get? b>o->s'.heap.get? b>o)->2<=-vs->∀C:SortKind->bd->Prop,C κ s'->wpAny `d A (keyKind' vs.toArray) C E s')
  (hc:∀s':bd,(∀b o,b≠a->s.heap.get? b>o->s'.heap.get? b>o)->∀i j (C:Bool->bd->Prop),i< -vs->j< -vs->C (lt i j) s'->wpAny `d A (keyLt' κ (vs.getD i Value.none) (vs.getD j Value.none)) C (λ _ _=>False) s')
  (h:∀out,Out lt vs Value.none out->P (.done (.ret .none)) {s with heap:=sortedHeap s.heap a vs (List.toArray out)}):
  wpAny `d A (Builtin.«list.sort» #[[.ref a],[]]) P E s:=by
 have s1:=l8 s.heap a (Obj.mapSeq λ _=>(([].toArray):Array ac));obtain⟨e1,ho1⟩:∃e1,(s.heap.update a (Obj.mapSeq λ _=>(([].toArray):Array ac))).get? a>(seqObj "list" ([].toArray) e1):=#[_,get?_update_seq ho λ _=>([].toArray)];have WY:(((s.heap.update a (Obj.mapSeq λ _=>(([].toArray):Array ac))).push (seqObj "tuple" vs.toArray 0)).push (seqObj "list" ([].toArray) 0)).get? a>(seqObj "list" ([].toArray) e1):=j4 _ (j4 _ ho1);have keep:∀b o,b≠a->s.heap.get? b>o->(((s.heap.update a (Obj.mapSeq λ _=>(([].toArray):Array ac))).push (seqObj "tuple" vs.toArray 0)).push (seqObj "list" ([].toArray) 0)).get? b>o:=λ b o ne z=>j4 _ (j4 _ ((s1.2 b ne).trans z));rw[list_sort_plain];refine K1 (listItems_at ho rfl ?_);refine K1 (listUpdate_at ho rfl ?_ (by rw[y3,J8];lia) (J9 _));refine K1 (seqEpoch_at ho1 rfl ?_);refine K1 (wpAny_newTuple ?_ (by show -vs<=_;rw[J8];lia));refine K1 (wpAny_newList ?_ (J9 _));refine D5 ?_;show wpAny `d A _ P E {s with heap:=((s.heap.update a (Obj.mapSeq λ _=>(([].toArray):Array ac))).push (seqObj "tuple" vs.toArray 0)).push (seqObj "list" ([].toArray) 0)};dsimp only;have fin:∀(iR:SortSt)(out:List ac),(arrOf iR).map (·.2)=List.toArray out->failedOf iR=none->-out=-vs->Out lt vs Value.none out->wpAny `d A (do
   let touched:=(<- seqEpoch a) != e1
   Builtin.List.listUpdate `z λ _=>(arrOf iR).map (·.2)
   if let some e:=failedOf iR then rule "list.sort.comparison-raised";throw e
   if touched then rule "list.sort.modified";raiseError "ValueError" "list modified during sort"
   ret .none) P E {s with heap:=((s.heap.update a (Obj.mapSeq λ _=>(([].toArray):Array ac))).push (seqObj "tuple" vs.toArray 0)).push (seqObj "list" ([].toArray) 0)}:=λ iR out e hf hl hO=>by
  rw[e];refine K1 (seqEpoch_at WY rfl ?_);refine K1 (listUpdate_at WY rfl ?_ (J9 _) (by rw[y3,hl,J8];lia));rw[hf];simp only[bne_self_eq_false,p5,K7];exact K3 (h out hO)
 by_cases h2:-vs<2
 ·have z2:vs.toArray.size<2:=y3>=h2
  rw[L1 z2,L1 z2];refine K1 (K3 (K1 ?_));rw[StateT.run_pure];refine K3 ?_;refine fin (SortSt.mk' general' (vs.toArray.zip vs.toArray) ([].toArray) 7 none) vs ?_ rfl rfl (AK O _ h2);show(vs.toArray.zip vs.toArray).map (·.2)=_;apply Array.toList_inj.mp;simp;exact map_snd_zip ()
 ·have z2:¬vs.toArray.size<2:=y3>=h2
  rw[L7 z2,L7 z2];refine K1 (mM _ keep () _ ?_);refine K1 (K6 (kat_run (Q:=λ iR s'=>s'={s with heap:=((s.heap.update a (Obj.mapSeq λ _=>(([].toArray):Array ac))).push (seqObj "tuple" vs.toArray 0)).push (seqObj "list" ([].toArray) 0)}/\∃p:Array Nat,p.size=-vs/\arrOf iR=p.map (kas_item (vs.toArray.zip vs.toArray))/\failedOf iR=none/\Pm (-vs) p/\Up lt p (-vs))
   (G:=λ p s'=>s'={s with heap:=((s.heap.update a (Obj.mapSeq λ _=>(([].toArray):Array ac))).push (seqObj "tuple" vs.toArray 0)).push (seqObj "list" ([].toArray) 0)}/\Pm (-vs) p/\Up lt p (-vs)) rfl () uw (λ p iR s' a1 a2 a3 a4=>#[a4.1,p,a1,a2,a3,a4.2]) (Hz (hc _ keep) _ (Bh O () λ p p1 p2=>#[rfl,p1,p2]))) ?_ λ _ _ x=>x)
  rintro⟨⟨⟩,iR⟩ s' ⟨rfl,p,hp,Zt,hf,p1,p2⟩;dsimp only;exact fin iR _ (kat_snds rfl Zt) hf (by rw[C1,m9,hp]) #[p,p1,p2,rfl]
end L5
namespace L2
open PySem.W PySem.Calls PyProof.Rows L5
open HT (lexLt cb cM cp cu)
theorem wm{fin:Bool}{Q:Bool->bd->Prop}:∀{xs ys:List ac} {ns ms:List Int} {i:Nat},IntsAre xs ns->IntsAre ys ms->fin=decide (-ns< -ms)->Q (lexLt ns ms) s->KatLex prog w A true fin Q (xs.zip ys) i s
 |_,_,_,_,_,.nil,.nil,hf,h=>by subst hf;exact kat_nil h
 |_,_,_,_,_,.nil,.cons _ _ _,hf,h=>by subst hf;exact kat_nil h
 |_,_,_,_,_,.cons _ _ _,.nil,hf,h=>by subst hf;exact kat_nil h
 |_,_,_,_,i,.cons x tx hx,.cons y ty hy,hf,h=>by
  rw[zip_cons_cons];refine kat_cons (SeqAt.EqAt.int_int x tx y ty prog w _ _ ?_);unfold HT.lexLt at h;by_cases e:x=y
  ·rw[L1 e]at h;rw[show(x==y)=true by simp[e]];refine kat_yes (wm hx hy ?_ h);rw[hf];simp
  ·rw[L7 e]at h;rw[show(x==y)=false by simp[e]];refine kat_no ?_;cases i with
   |zero=>exact oneLt_int h
   |succ i=>exact kat_one _ _ (lt_int h)
open PySem.Spec
def nV(r:List Int):IK:=.t (r.map .i)
def MD{a b:List Int}(h:nV a=nV b):a=b:=by unfold nV at h;have h:=IK.t.inj h;exact List.map_inj_right (λ x y z=>IK.i.inj z) |>.mp h
theorem Bt:∀r:List Int,IK.iM (r.map .i)=0
 |[]=>rfl
 |a::r=>by show max (IK.dep (.i a)) (IK.iM (r.map .i))=0;rw[Bt r];rfl
def Bw(r:List Int):(nV r).dep<=5:=by unfold nV IK.dep;rw[Bt];decide
theorem Bj:∀r:List Int,fS K H (r.map .i) (r.map V.int)
 |[]=>by unfold fS;rfl
 |a::r=>by unfold fS;exact#[_,_,rfl,by unfold eS;exact .inl rfl,Bj r]
def HC{r:List Int}(h:gu K H p (r.map V.int)):eS K H (nV r) `j:=by unfold nV eS;exact#[p,_,rfl,h,Bj r]
def Mj(key:Nat->List Int):Ord λ i j=>lexLt (key i) (key j):=#[λ a b h=>pN _ _ h,λ a b c h g=>yD _ _ _ h g]
def yU(l:List α)(d:α):(List.range (-l)).map (λ i=>l.getD i d)=l:=by refine ext_getElem `g λ i h1 h2=>?_;simp[h2]
abbrev sP(X:Cx)(H:Hp)(q:be)(r:List Int):Prop:=r≠[]/\gu X.K H q (r.map V.int)
noncomputable def RC(prog:Program)(w:World)(h:Heap)(e:Int×ac):IK:=@Classical.epsilon IK #[.i 0] λ k=>∃b,e.2=.ref b/\(aP prog w).is h k b
def Bn{h:Heap}{e:Int×ac}{k:IK}(e1:e.2=.ref b)(e2:(aP X.prog X.w).is h k b):RC X.prog X.w h e=k:=by have:=@Classical.epsilon_spec IK (λ k=>∃b,e.2=.ref b/\(aP X.prog X.w).is h k b) #[k,b,e1,e2];let#[b',z1,z2]:=this;rw[e1]at z1;cases z1;exact ue _ _ z2.2 e2.2
theorem Aq(I:nn X im σ H s)(U:∀v∈us,∃q r,v=.ref q/\sP X H q r):∀(l:List (Int×ac)),(∀e∈l,e.2∈us)->
  ∃(qs:List be)(rs:List (List Int)),l.map (·.2)=qs.map Value.ref/\-qs=-rs/\(∀(i:Nat) q r,qs[i]?>q->rs[i]?>r->sP X H q r)/\l.map (RC X.prog X.w s.heap)=rs.map nV
 |[],_=>#[[],[],rfl,rfl,λ i q r h=>(by cases h),rfl]
 |e::l,h=>by
  let#[qs,rs,a,b,c,d]:=Aq I U l λ e he=>h e (k8 _ he);let#[q,r,e1,e2]:=U _ (h e o7);refine#[q::qs,r::rs,by rw[D9,D9,a,e1],by simp[b],λ i q' r' h1 h2=>?_,?_]
  ·cases i with
   |zero=>cases h1;cases h2;exact e2
   |succ i=>exact c i q' r' (~~~h1) (~~~h2)
  ·rw[D9,D9,d,Bn e1 (k:=nV r) #[Bw r,jX I (nV r) (HC e2.2) rfl]]
def vC(hc:X.calm=true){S:be}{Q:VK}(I:nn X im σ H s)(hZ:SetT X.prog X.w us s.heap S (!xk X.w) ks)(U:∀v∈us,∃q r,v=.ref q/\sP X H q r)(uw:-ks<64)(q:∀(qs:List be)(rs:List (List Int))(p:be),-qs=-rs->(∀(i:Nat) q r,qs[i]?>q->rs[i]?>r->sP X H q r)->(rs.map nV).Perm ks->H p=none->Q `j (u8 H p (.lst (qs.map V.ref)))):wpAny `f X.A (call (.builtin "sorted") [.ref S]) (EP X im σ Q) X.xe s:=by
 let#[es,ep,t,ho,En,nd,T,hl,R,uu]:=hZ;have sz:=En.1;refine call_function_entry kind_sorted plain_sorted entry_sorted (args_sorted1 _) ?_;unfold Builtin.«sorted»;refine K1 (m:=checkCount "sorted" 1 1 _) (K3 (K1 (kdu_collect (A:=X.A.in1) (Kf (ep:=ep) T hl) (show X.A.in1.handled=none from I.ok.hd hc) ho (by rw[J8];lia) λ h' tk jp Zc fL=>?_)));have pw:=oG X.w S ep es;generalize hW:iu X.w S ep es=os at pw fL;have OJ:jp.toList=os.toList.map (·.2):=by
  have l2:-os.toList=es.size:=by rw[pw.length_eq,m9]
  refine y4 λ j=>?_;rw[w6];by_cases z:j<es.size
  ·have lt:j<jp.size:=fL.1>=z
   let#[e,e1,e2]:=fL.2 j _ (c8 lt);rw[k4,k4,c8 lt,e1,<- e2];rfl
  ·rw[k7 (by rw[m9,fL.1];lia),k7 ()];rfl
 let#[qs,rs,a1,a2,a3,a4]:=Aq I U os.toList λ e he=>uu e (pw.mem_iff.mp he);have kk:es.toList.map (RC X.prog X.w s.heap)=ks:=by
  refine y4 λ i=>?_;rw[w6,k4];by_cases z:i< -ks
  ·let#[c,c1,c2]:=En.2 i _ (i5 z);rw[c1,i5 z];exact K8 some (Bn rfl c2)
  ·rw[k7 (),j3 ()];rfl
 have pk:(rs.map nV).Perm ks:=by rw[<- a4,<- kk];exact pw.map _
 rw[a1]at OJ;have qn:-qs=-ks:=by rw[a2,<- C1 (f:=nV),pk.length_eq]
 rw[OJ];have I0:nn X im σ H {s with heap:=h',toks:=tk}:=I.kept (t':=tk) Zc;refine K1 (wpAny_newList ?_ (by rw[C1,J8];lia));have MP:(h'.push (seqObj "list" (qs.map Value.ref).toArray 0)).get? h'.objs.size>seqObj "list" (qs.map Value.ref).toArray 0:=n5 _ rfl;have tup:∀i,i< -qs->∃(o:Obj)(ar:List ac)(n:Nat),(qs.map Value.ref).getD i Value.none=.ref (qs.getD i 0)/\h'.get? (qs.getD i 0)>o/\o.cls=.type "tuple"/\o.data=.seq ar.toArray n/\IntsAre ar (rs.getD i [])/\rs.getD i []≠[]:=λ i hi=>by
  have Zg:i< -rs:=()
  have:=a3 i _ _ (i5 hi) (i5 Zg);let#[ar,rv,#[o,e1,e2,n,e3],_]:=I0.tuple this.2;refine#[o,ar,n,?_,?_,e2,e3,?_,?_]
  ·simp[b8,hi]
  ·rw[show qs.getD i 0=qs[i] by simp[b8,hi]];exact e1
  ·rw[show rs.getD i []=rs[i] by simp[b8,Zg]];exact pU rv
  ·rw[show rs.getD i []=rs[i] by simp[b8,Zg]];exact this.1
 have stays:∀{s':bd},(∀b o,b≠h'.objs.size->(h'.push (seqObj "list" (qs.map Value.ref).toArray 0)).get? b>o->s'.heap.get? b>o)->∀i,i< -qs->∃(o:Obj)(ar:List ac)(n:Nat),(qs.map Value.ref).getD i Value.none=.ref (qs.getD i 0)/\s'.heap.get? (qs.getD i 0)>o/\o.cls=.type "tuple"/\o.data=.seq ar.toArray n/\IntsAre ar (rs.getD i [])/\rs.getD i []≠[]:=λ{s'} kp i hi=>by let#[o,ar,n,b1,b2,b3]:=tup i hi;exact#[o,ar,n,b1,kp _ o (G4 (G5 b2)) (j4 _ b2),b3]
 refine K1 (D5 (A1 slot_list_sort #[_,MP,rfl] entry_list_sort (tY (κ:=tuples' true) (Mj λ i=>rs.getD i []) MP (by rw[C1];lia) (λ s' kp h2 C hC=>?_) (λ s' kp i j C hi hj hC=>?_) λ out hO=>#[_,rfl,?_]) (args_list_sort _)))
 ·have lX:∀(n:Nat),n<=-qs->∃fs,KatTups s'.heap ((qs.drop (-qs-n)).map Value.ref) fs/\-fs=n/\∀v∈fs,∃i t,v=Value.int i t:=λ n=>by
   induction n with
   |zero=>intro _;rw[Nat.sub_zero,drop_length];exact#[[],KatTups.nil,rfl,λ v hv=>by cases hv]
   |succ n ih=>
    intro hn;let#[fs,f1,f2,f3]:=ih ();have lt:-qs-(n+1)< -qs:=()
    let#[o,ar,m,b1,b2,b3,b4,b5,b6]:=stays kp _ lt;have eq:qs.drop (-qs-(n+1))=qs.getD (-qs-(n+1)) 0::qs.drop (-qs-n):=by rw[c9 lt,show -qs-(n+1)+1=-qs-n by lia];simp[b8,lt]
    rw[eq,D9];generalize rs.getD (-qs-(n+1)) []=r at b5 b6;cases b5 with
    |nil=>exact bi rfl b6
    |cons x tx hx=>
     refine#[_::fs,KatTups.cons b2 b3 b4 (by simp;rfl) f1,by simp[f2],λ v hv=>?_];rcases E8.mp hv with rfl|hv
     ·exact#[x,tx,rfl]
     ·exact f3 v hv
  let#[fs,t1,t2,t3]:=lX (-qs) `G;rw[Nat.sub_self,drop_zero]at t1;rw[C1]at h2;refine kat_kind (T:=.type "int") t1 () (λ v hv=>?_) rfl hC;let#[i,t,rfl]:=t3 v hv;exact(show Looks _ s'.heap (pure (Value.type "int")) _ from .now)
 ·rw[C1]at hi hj;let#[o,ar,n,b1,b2,b3,b4,b5,b6]:=stays kp i hi;let#[o',its',n',c1,c2,c3,c4,c5,c6]:=stays kp j hj;rw[b1,c1];refine kat_lt b2 b4 c2 c4 ?_;refine wm b5 c5 ?_ hC;rw[y3,y3,IntsAre.length b5,IntsAre.length c5]
 ·refine K3 #[_,rfl,?_];let#[c,OI]:=sortedHeap_at (out:=out.toArray) MP;let#[pp,p1,_,p3]:=hO;rw[C1]at p1;have pm:pp.toList.Perm (List.range (-qs)):=by have:=p1;unfold Pm at this;simpa using Array.Perm.toList this
  have below:∀i∈pp.toList,i< -qs:=λ i hi=>ce.mp (pm.mem_iff.mp hi);have eo:out=(pp.toList.map λ i=>qs.getD i 0).map Value.ref:=by rw[p3,G8];refine n9 λ i hi=>?_;have:=below i hi;simp[b8,this]
  have kp:∀b o,h'.get? b>o->(sortedHeap (h'.push (seqObj "list" (qs.map Value.ref).toArray 0)) h'.objs.size (qs.map Value.ref) out.toArray).get? b>o:=λ b o e=>sortedHeap_old (G4 (G5 e)) (size_push'>=y6 (G5 e))>=j4 _ e
  have ln:(pp.toList.map λ i=>qs.getD i 0).length=-qs:=by rw[C1,pm.length_eq,x9]
  refine#[.ref h'.objs.size,_,I0.laid (t':=tk) kp `G (show br X.prog X.w _ _ _ (.lst ((pp.toList.map λ i=>qs.getD i 0).map V.ref))from#[by rw[C1,ln,J8];lia,out,c,eo>=rp _,OI]),rfl,q (pp.toList.map λ i=>qs.getD i 0) (pp.toList.map λ i=>rs.getD i []) _ `g (λ i q' r' g1 g2=>?_) ?_ (I0.aX.fresh `G)]
  ·rw[w6]at g1 g2;let#[x,x1,x2]:=ca.mp g1;rw[x1]at g2;have:=below x (k9 x1);have h2:x< -rs:=()
   refine a3 x q' r' ?_ ?_
   ·rw[i5 this,<- x2];simp[b8,this]
   ·rw[i5 h2,<- B7 g2];simp[b8,h2]
  ·refine(List.Perm.map nV ?_).trans pk;have:=pm.map λ i=>rs.getD i [];rw[a2,yU rs []]at this;exact this
section
variable {ta:TA}{p pos dY:Pos}
def TY(X:Cx)(ta:TA):TE:=λ σ H Q=>ta σ H λ vs H1=>∃(l:be)(ps:List be)(io:List (List Int)),vs=[.ref l]/\fK X.K H1 l (ps.map V.ref)/\-ps=-io/\(∀(i:Nat) p r,ps[i]?>p->io[i]?>r->sP X H1 p r)/\-io<64/\
 ∀(qs:List be)(rs:List (List Int))(p:be),-qs=-rs->(∀(i:Nat) q r,qs[i]?>q->rs[i]?>r->sP X H1 q r)->rs.Nodup->(∀r,r∈rs↔r∈io)->H1 p=none->Q `j (u8 H1 p (.lst (qs.map V.ref)))
def Lz(hc:X.calm=true)(hu:e_ X)(hg:Gl X "sorted")(hm:X.mg "sorted"=none)(RZ:Gl X "set")(RX:X.mg "set"=none)(ha:PA X [e1] ta)(hs:kB X e1 []:=by rfl)(he:kB X (.Call (.Name "set" p2) [e1] [] dY) []:=by rfl):PE X (.Call (.Name "sorted" p) [.Call (.Name "set" p2) [e1] [] dY] [] pos) (TY X ta):=by
 intro im s σ H Q I h;refine q9 (fB I hg hm (show bootBuiltins "sorted">(.builtin "sorted") by decide+kernel) ?_ `c `c);refine PyProof.Rows.callWith_builtin1 ?_ he rfl;rw[he];show wpAny _ _ (spliced ((false,eval (.Call (.Name "set" p2) [e1] [] dY) X.env)::backTo pos (starEach [] X.env))) _ _ s;refine Calls.spliced_cons ?_;refine Call_ (fB I RZ RX (show bootBuiltins "set">(.type "set") by decide+kernel) (a8 (cZ (ha dY im s σ H _ I h) λ us s1 ⟨vs,H1,I1,r1,q1⟩=>?_) hs (by rfl)));let#[l,ps,io,ev,hl,pl,row,bZ,q]:=q1;subst ev;let#[u1,rfl,rx]:=vals1 r1;cases(show u1=Value.ref l from rx);let#[ar,r',X8,hz]:=I1.list hl;have hits:=rR _ r';subst hits;have tree:∀(i:Nat)(v:ac),(ps.map Value.ref).toArray[i]?>v->∃(k:IK)(b:be),(io.map nV)[i]?>k/\v=.ref b/\(aP X.prog X.w).is s1.heap k b:=λ i v hv=>by
  rw[getElem?_toArray,w6]at hv;let#[b,b1,b2]:=ca.mp hv;have lt:=(g9.mp b1).1;have EB:i< -io:=()
  have iT:=row i b _ b1 (i5 EB);exact#[nV io[i],b,by rw[w6,i5 EB];rfl,b2.symm,Bw _,jX I1 _ (HC iT.2) rfl]
 refine zx (ns:=io.map nV) (I1.ok.hd hc) hu X8.isList (by simp[pl]) tree (by rw[C1];lia) λ h' tk ks hZ ho kp=>Calls.spliced_nil ?_;have I2:nn X im σ H1 {s1 with heap:=h',toks:=tk}:=I1.kept (t':=tk) kp;refine vC hc I2 hZ (λ v hv=>?_) (by have:=ho.bZ;rw[C1]at this;lia) λ qs rs p' g1 g2 g3 g4=>q qs rs p' g1 g2 ?_ (λ r=>?_) g4
 ·have hv:v∈ps.map Value.ref:= ~~~hv
  let#[b,hb,rfl]:=G7.mp hv;let#[i,hi]:=ci hb;have lt:=(g9.mp hi).1;exact#[b,io[i]'(),rfl,row i b _ hi (i5 ())]
 ·have:(rs.map nV).Nodup:=g3.nodup_iff.mpr ho.1;exact(pairwise_map.mp this).imp λ z w=>z (by rw[w])
 ·have:nV r∈rs.map nV↔nV r∈io.map nV:=g3.mem_iff.trans (ho.2 _);have inj:∀l:List (List Int),nV r∈l.map nV↔r∈l:=λ l=>⟨λ z=>by
   let#[a,a1,a2]:=G7.mp z;rw[<- MD a2];exact a1,λ z=>G7.mpr #[r,z,rfl]⟩
  rw[inj,inj]at this;exact this
end
end L2
namespace L3
open PySem.Spec PyProof.Rows L2 L5
abbrev cV(r:List Int):D:=.tup (r.map D.int)
section
variable {p pos dY:Pos}
def N3(ta:dG):bU:=λ δ M Q=>ta δ M λ ds M1=>∃(l:be)(io:List (List Int)),ds=[.ref l]/\M1 l>(.lst (io.map cV))/\(∀r∈io,r≠[])/\-io<64/\∀(rs:List (List Int))(p:be),rs.Nodup->(∀r,r∈rs↔r∈io)->M1 p=none->Q `j (af M1 p (.lst (rs.map cV)))
theorem FV:∀{io:List (List Int)} {xv:List V},ay K H (io.map cV) xv->∃ps:List be,xv=ps.map V.ref/\-ps=-io/\∀(i:Nat) p r,ps[i]?>p->io[i]?>r->gu K H p (r.map V.int)
 |[],xv,h=>by cases(ah.mp h);exact#[[],rfl,rfl,λ i p r z=>by cases z]
 |r::io,xv,h=>by
  let#[x,t,rfl,h1,h2]:=ae.mp h;let#[ps,a,b,c]:=FV h2;let#[p,xs,rfl,h3,h4]:=aM.mp h1;rw[d_ h4]at h3;refine#[p::ps,by rw[a];rfl,by simp[b],λ i p' r' z1 z2=>?_];cases i with
  |zero=>cases z1;cases z2;exact h3
  |succ i=>exact c i p' r' (~~~z1) (~~~z2)
theorem Jn:∀{rs:List (List Int)} {qs:List be},-qs=-rs->(∀(i:Nat) q r,qs[i]?>q->rs[i]?>r->gu K H q (r.map V.int))->ay K H (rs.map cV) (qs.map V.ref)
 |[],[],_,_=>ah.mpr rfl
 |[],_::_,h,_=>by cases h
 |_::_,[],h,_=>by cases h
 |r::rs,q::qs,h,a=>ae.mpr #[_,_,rfl,aM.mpr #[q,_,rfl,a 0 q r rfl rfl,jN r],Jn (Nat.succ.inj h) λ i q' r' z1 z2=>a (i+1) q' r' (~~~z1) (~~~z2)]
def O3(hc:X.calm=true)(hu:e_ X)(hg:Gl X "sorted")(hm:X.mg "sorted"=none)(RZ:Gl X "set")(RX:X.mg "set"=none)(ha:WA X [e1] ta)(hs:kB X e1 []:=by rfl)(he:kB X (.Call (.Name "set" p2) [e1] [] dY) []:=by rfl):WE X (.Call (.Name "sorted" p) [.Call (.Name "set" p2) [e1] [] dY] [] pos) (N3 ta):=by replace ha:=ha.h;refine#[?_];refine bA (Lz hc hu hg hm RZ RX ha hs he) ?_;rintro σ H Q ⟨δ,M,Q2,hs,hm,q,k⟩;refine#[δ,M,_,hs,hm,q,λ vs H1 ds M1 hd bJ t1 ⟨l,io,e,hM,ne,bZ,q1⟩=>?_];subst e;let#[v1,r,rfl,YM,hr]:=ae.mp hd;cases(ah.mp hr);cases(az.mp YM);let#[xv,Zb,OH]:=(show ∃xv,H1 l>(.lst xv)/\ay X.K H1 (io.map cV) xv from bJ l _ hM);have hl:fK X.K H1 l xv:=.inl (.inl Zb);let#[ps,rfl,pl,pr]:=FV OH;refine#[l,ps,io,rfl,hl,pl,λ i p r z1 z2=>#[ne r (k9 z2),pr i p r z1 z2],bZ,λ qs rs p g1 g2 g3 g4 hp=>?_];exact k _ _ `j _ (az.mpr rfl) (dM hp (Jn g1 λ i q r z1 z2=>(g2 i q r z1 z2).2) bJ) (t1.trans `Q) (q1 rs p g3 g4 (bJ.free hp))
end
end L3
namespace L4
open L2 L3
def KD{Q:bK}(h:ta δ M λ ds M1=>∃(l:be)(io:List (List Int)),ds=[.ref l]/\M1 l>(.lst (io.map cV))/\(∀r∈io,r≠[])/\-io<64/\∀(rs:List (List Int))(p:be),rs.Nodup->(∀r,r∈rs↔r∈io)->M1 p=none->Q `j (af M1 p (.lst (rs.map cV)))):N3 ta δ M Q:=h
end L4
namespace KK
open L3 L4 L5
open L2 hiding aG gb
def cq(r:List Row)(ls:Row)(h:Nat):Nat->Nat->Nat->Prop
 |0,x,y=>c_ ls x=c_ ls y
 |t+1,x,y=>cq r ls h t x y/\∀i,i<h->cq r ls h t (aE r i x) (aE r i y)
section
variable {h:Nat}
theorem oi:∀(t x:Nat),cq r ls h t x x
 |0,x=>rfl
 |t+1,x=>#[oi t x,λ i _=>oi t _]
theorem lL:∀(t x y:Nat),cq r ls h t x y->cq r ls h t y x
 |0,x,y,e=>Eq.symm e
 |t+1,x,y,e=>#[lL t x y e.1,λ i hi=>lL t _ _ (e.2 i hi)]
theorem fG:∀(t x y z:Nat),cq r ls h t x y->cq r ls h t y z->cq r ls h t x z
 |0,x,y,z,e,f=>Eq.trans e f
 |t+1,x,y,z,e,f=>#[fG t x y z e.1 f.1,λ i hi=>fG t _ _ _ (e.2 i hi) (f.2 i hi)]
theorem IY:∀(t x y:Nat),cq r ls h t x y->c_ ls x=c_ ls y
 |0,x,y,e=>e
 |t+1,x,y,e=>IY t x y e.1
theorem Cf{p q:Nat->Bool}:∀(l:List Nat),(∀x∈l,p x=true->q x=true)->l.countP p<=l.countP q
 |[],_=>J7 _
 |a::l,i=>by
  have ih:=Cf l λ x hx=>i x (k8 _ hx);have ia:=i a o7;rw[countP_cons,countP_cons];cases pa:p a with
  |false=>simp only[p5,K7];lia
  |true=>rw[L1 rfl,L1 (ia pa)];lia
theorem Ce{p q:Nat->Bool}:∀(l:List Nat),(∀x∈l,p x=true->q x=true)->(∃x∈l,p x=false/\q x=true)->l.countP p<l.countP q
 |[],_,⟨x,hx,_⟩=>by cases hx
 |a::l,i,⟨x,hx,px,qx⟩=>by
  have il:∀x∈l,p x=true->q x=true:=λ x hx=>i x (k8 _ hx);rw[countP_cons,countP_cons];rcases E8.mp hx with e|hx
  ·have:=Cf l il;rw[<- e,px,qx,L1 rfl];simp only[p5,K7];lia
  ·have ih:=Ce l il #[x,hx,px,qx];have ia:=i a o7;cases pa:p a with
   |false=>simp only[p5,K7];lia
   |true=>rw[L1 rfl,L1 (ia pa)];lia
noncomputable def Vc(r:List Row)(ls:Row)(h t x:Nat):Bool:=@decide (∀y,y<x->¬cq r ls h t y x) (Classical.propDecidable _)
def lC{t x:Nat}:Vc r ls h t x=true↔∀y,y<x->¬cq r ls h t y x:=@decide_eq_true_iff _ (Classical.propDecidable _)
def wc{p:Nat->Prop}(hn:p n):∃k,p k/\k<=n/\∀j,j<k->¬p j:=by
 induction n using Nat.strongRecOn with
 |_ n ih=>
  by_cases z:∃j,j<n/\p j
  ·let#[j,hj,pj]:=z;let#[k,a,b,c]:=ih j hj pj;exact#[k,a,(),c]
  ·exact#[n,hn,J7 _,λ j hj pj=>z #[j,hj,pj]]
def xV(r:List Row)(ls:Row)(h m t:Nat):Prop:=∀x y,x<m->y<m->cq r ls h t x y->cq r ls h (t+1) x y
def Pk(G:cj m h r){t:Nat}(s:xV r ls h m t):xV r ls h m (t+1):=λ x y hx hy e=>
 #[e,λ i hi=>s _ _ `M (G.di.cl _ _ hi hy) (e.2 i hi)]
theorem Fh(G:cj m h r){t:Nat}(s:xV r ls h m t):∀k,xV r ls h m (t+k)
 |0=>s
 |k+1=>Pk G (Fh G s k)
def Hw{t:Nat}(n:¬xV r ls h m t):(List.range m).countP (Vc r ls h t)<(List.range m).countP (Vc r ls h (t+1)):=by
 refine Ce _ (λ x _ hx=>lC.mpr λ y hy e=>lC.mp hx y hy e.1) ?_;obtain⟨x,y,hx,hy,e,ne⟩:∃x y,x<m/\y<m/\cq r ls h t x y/\¬cq r ls h (t+1) x y:=by refine dL λ z=>n λ x y hx hy e=>dL λ ne=>z #[x,y,hx,hy,e,ne]
 let#[l,l1,l2,l3]:=wc (p:=λ l=>cq r ls h t l x) (n:=x) (oi t x);obtain⟨z,z1,z2,z3⟩:∃z,z<m/\cq r ls h t l z/\¬cq r ls h (t+1) l z:=by
  by_cases a:cq r ls h (t+1) l x
  ·refine#[y,hy,fG t _ _ _ l1 e,λ b=>ne (fG _ _ _ _ (lL _ _ _ a) b)]
  ·exact#[x,hx,l1,a]
 let#[w,#[w1,w2,w3],w4,w5]:=wc (p:=λ z=>z<m/\cq r ls h t l z/\¬cq r ls h (t+1) l z) #[z1,z2,z3];have lw:l<w:=by
  rcases Nat.lt_trichotomy l w with g|g|g
  ·exact g
  ·subst g;exact bi (oi _ _) w3
  ·exact bi (fG t _ _ _ (lL t _ _ w2) l1) (l3 w g)
 refine#[w,ce.mpr w1,?_,lC.mpr λ y hy e2=>?_]
 ·rw[<- Bool.not_eq_true,lC];exact λ z=>z l lw w2
 ·exact w5 y hy #[(),fG t _ _ _ w2 (lL t _ _ e2.1),λ a=>w3 (fG _ _ _ _ a e2)]
theorem Fg(hm:0<m):∀t:Nat,(∃s,s<t/\xV r ls h m s)\/t+1<=(List.range m).countP (Vc r ls h t)
 |0=>.inr (countP_pos_iff.mpr #[0,ce.mpr hm,lC.mpr λ y hy=>by lia])
 |t+1=>by
  rcases Fg hm t with⟨s,hs,z⟩|z
  ·exact .inl #[s,(),z]
  ·by_cases g:xV r ls h m t
   ·exact .inl #[t,(),g]
   ·have:=Hw g;exact .inr ()
def Ub(G:cj m h r):xV r ls h m m:=by
 rcases Fg (r:=r) (ls:=ls) (h:=h) G.tb.pos m with⟨s,hs,z⟩|z
 ·have:=Fh G z (m-s)
  rwa [show s+(m-s)=m by lia]at this
 ·have:=countP_le_length (p:=Vc r ls h m) (l:=List.range m);rw[x9]at this;lia
theorem IW(G:cj m h r)(hi:i<h):∀(n x y:Nat),x<m->y<m->cq r ls h m x y->cq r ls h m (dA (aE r i) n x) (dA (aE r i) n y)
 |0,x,y,_,_,e=>e
 |n+1,x,y,hx,hy,e=>IW G hi n _ _ `M (G.di.cl _ _ hi hy) ((Ub G x y hx hy e).2 i hi)
theorem IZ(G:cj m h r):∀(p:Cs)(i x y:Nat),i+-p<=h->x<m->y<m->cq r ls h m x y->cq r ls h m (bj (aE r) i x p) (bj (aE r) i y p)
 |[],i,x,y,_,_,_,e=>e
 |c::p,i,x,y,hl,hx,hy,e=>by rw[y9]at hl;exact IZ G p (i+1) _ _ () (G.di.dA () c x hx) (G.di.dA () c y hy) (IW G () c x y hx hy e)
theorem qr(G:cj m h r):∀(t x y:Nat),x<m->y<m->(∀q:Cs,-q=h->¬Dy r ls x y q)->cq r ls h t x y
 |0,x,y,hx,hy,a=>by have:=a (gs h) (by unfold gs;simp);unfold Dy at this;rw[fU,fU]at this;exact(Decidable.not_not.mp this:c_ ls x=c_ ls y)
 |t+1,x,y,hx,hy,a=>⟨qr G t x y hx hy a,λ i hi=>qr G t _ _ `M (G.di.cl _ _ hi hy) λ q hq pq=>by
  refine a (inc q i) (eU>=hq) ?_;unfold Dy at pq ⊢;rw[G.di.Se hi q 0 x () hx,G.di.Se hi q 0 y () hy]at pq
  rwa [G.di.inc q 0 i x () () hx,G.di.inc q 0 i y () () hy,H9]⟩
def Sv(G:cj m h r){x:Nat}(hx:x<m)(hy:y<m):cq r ls h m x y↔∀q:Cs,-q=h->¬Dy r ls x y q:=
 #[λ e q hq pq=>pq (IY m _ _ (IZ G q 0 x y () hx hy e)),qr G m x y hx hy]
end
section
variable {h x:Nat}{p:Cs}
def ME[DecidableEq α]{l:List α}{a b:α}(ha:a∈l)(hb:b∈l)(e:l.idxOf a=l.idxOf b):a=b:=by
 have i:=idxOf_lt_length_of_mem ha;have j:=idxOf_lt_length_of_mem hb;have f:l[l.idxOf a]?>a:=by rw[i5 i,getElem_idxOf]
 have g:l[l.idxOf b]?>b:=by rw[i5 j,getElem_idxOf]
 rw[e,g]at f;exact(B7 f).symm
def Ox{α:Type}[DecidableEq α](l:List α)(a:α):Nat:=l.idxOf a
def Mx[DecidableEq α]{l:List α}{a b:α}(ha:a∈l)(hb:b∈l):Ox l a=Ox l b↔a=b:=#[ME ha hb,λ e=>K8 _ e]
def iZ(r:List Row)(h:Nat)(f:Nat->Nat)(x:Nat):List Int:=(f x:Int)::(List.range h).map λ i=>(f (aE r i x):Int)
def LH{f:Nat->Nat}{t:Nat}(G:cj m h r)(c:∀x y,x<m->y<m->(f x=f y↔cq r ls h t x y))(hx:x<m)(hy:y<m):iZ r h f x=iZ r h f y↔cq r ls h (t+1) x y:=by
 unfold iZ;rw[List.cons.injEq];constructor
 ·rintro⟨a,b⟩;refine#[(c x y hx hy).mp (Int.ofNat.inj a),λ i hi=>(c _ _ `M (G.di.cl _ _ hi hy)).mp ?_];have:=K8 (λ l:List Int=>l[i]?) b;simp only[w6,l9 hi,Option.map_some]at this;exact Int.ofNat.inj (B7 this)
 ·rintro⟨a,b⟩;refine#[K8 _ ((c x y hx hy).mpr a),n9 λ i hi=>?_];have hi:=ce.mp hi;exact K8 _ ((c _ _ `M (G.di.cl _ _ hi hy)).mpr (b i hi))
def Dm(a b:List Int)(e:cV a=cV b):a=b:=by have:=D.tup.inj e;exact(List.map_inj_right λ _ _ z=>D.int.inj z).mp this
end
end KK
namespace L5
open PySem.W PySem.Calls PyProof.Rows
def Kh{l q:be}{Pv:List ac->Prop}{Q:ac->bd->Prop}(Ik:∀Q':List ac->bd->Prop,(∀(h1:Heap)(tk:Nat)(vs:List ac),(∀b o,s.heap.get? b>o->h1.get? b>o)->Pv vs->Q' vs {s with heap:=h1,toks:=tk})->wpAny `d A.in1 (collect (.ref l)) Q' E s)(uw:∀vs,Pv vs->-vs<64) (h:∀(h1:Heap)(tk:Nat)(vs:List ac),(∀b o,s.heap.get? b>o->h1.get? b>o)->Pv vs->∀(h':Heap)(e1:Nat),h'.get? h1.objs.size>(seqObj "list" ([].toArray) e1)->h'.get? (h1.objs.size+2)>(seqObj "list" ([].toArray) 0)->(∀b o,h1.get? b>o->h'.get? b>o)->
   wpAny `d A.in1.in1 (ksk_rest h1.objs.size (.ref q) false vs.toArray e1 (.ref (h1.objs.size+2))) (λ f s'=>f=.done (.ret .none)/\Q (.ref h1.objs.size) s') E {s with heap:=h',toks:=tk}):
  wpAny `d A (call (.builtin "sorted") [.ref l] [(Str.ofString "key",.ref q)]) Q E s:=by
 refine call_function_entry_kw kind_sorted plain_sorted entry_sorted (ksk_s1 _ _) ?_;unfold Builtin.«sorted»;refine K1 (m:=checkCount "sorted" 1 1 _) (K3 (K1 (Ik _ λ h1 tk vs k1 pv=>?_)));have bZ:=uw vs pv;refine K1 (wpAny_newList ?_ (by rw[J8];lia));have h:=h h1 tk vs k1 pv;clear Ik uw;generalize hn:h1.objs.size=n at*;have g1:(h1.push (seqObj "list" vs.toArray 0)).get? n>seqObj "list" vs.toArray 0:=by rw[<- hn];exact n5 _ rfl
 have k2:∀b o,h1.get? b>o->(h1.push (seqObj "list" vs.toArray 0)).get? b>o:=λ b o q=>j4 _ q;show wpAny _ _ _ _ _ {s with heap:=h1.push (seqObj "list" vs.toArray 0),toks:=tk};refine K1 (D5 (wpAny_call_entry_kw slot_list_sort #[_,g1,rfl] entry_list_sort ?body (ksk_l1 _ _)))
 case body=>
  show wpAny `d A.in1.in1 (Builtin.«list.sort» #[[.ref n],[(Str.ofString "key",.ref q)]]) _ _ _;rw[ksk_t1];unfold ksk_tree;generalize hH:h1.push (seqObj "list" vs.toArray 0)=H at*;have eH:H.objs.size=n+1:=by rw[<- hH,size_push',hn]
  obtain⟨c1,o1⟩:∃c1,(H.update n (Obj.mapSeq λ _=>(([].toArray):Array ac))).get? n>(seqObj "list" ([].toArray) c1):=#[_,get?_update_seq g1 λ _=>([].toArray)];refine K1 (listItems_at g1 rfl (K1 (listUpdate_at g1 rfl (K1 (seqEpoch_at o1 rfl (K1 (wpAny_newTuple (K1 (wpAny_newList (D5 ?_) (J9 _))) (by show -vs<=_;rw[J8];lia))))) (by rw[y3,J8];lia) (J9 _))));have e2:(H.update n (Obj.mapSeq λ _=>(([].toArray):Array ac))).objs.size=n+1:=by rw[A6,eH]
  have e3:((H.update n (Obj.mapSeq λ _=>(([].toArray):Array ac))).push (seqObj "tuple" vs.toArray 0)).objs.size=n+2:=by rw[size_push',e2]
  have g3:(((H.update n (Obj.mapSeq λ _=>(([].toArray):Array ac))).push (seqObj "tuple" vs.toArray 0)).push (seqObj "list" ([].toArray) 0)).get? (n+2)>(seqObj "list" ([].toArray) 0):=by rw[<- e3];exact n5 _ rfl
  show wpAny `d A.in1.in1 (ksk_rest n (.ref q) false vs.toArray c1 (.ref ((H.update n (Obj.mapSeq λ _=>(([].toArray):Array ac))).push (seqObj "tuple" vs.toArray 0)).objs.size)) _ _ {s with heap:=((H.update n (Obj.mapSeq λ _=>(([].toArray):Array ac))).push (seqObj "tuple" vs.toArray 0)).push (seqObj "list" ([].toArray) 0),toks:=tk};rw[e3];refine K6 (h _ c1 (j4 _ (j4 _ o1)) g3 λ b o x=>j4 _ (j4 _ (by
   have hb:b<n:=by rw[<- hn];exact G5 x
   rw[Heap.get?_update_ne _ _ _ _ (G4 hb)];exact k2 b o x))) (λ f s' hf=>?_) λ _ _ x=>x
  let#[rfl,hq]:=hf;exact#[_,rfl,K3 #[_,rfl,hq]]
end L5
namespace L2
open PySem.Spec PyProof.Rows L5 PySem.W
def Col(X:Cx)(s:bd)(l:be)(ys:List V):Prop:=∀Q':List ac->bd->Prop,(∀(h1:Heap)(tk:Nat)(vs:List ac),(∀b o,s.heap.get? b>o->h1.get? b>o)->ut ys vs->Q' vs {s with heap:=h1,toks:=tk})->wpAny `f X.A.in1 (collect (.ref l)) Q' X.xe s
def uH{κ:SortKind}{lt:Nat->Nat->Bool}(O:Ord lt){l q:be}{ys:List V}{Q:VK}(I:nn X im σ H s)(Ik:Col X s l ys)(uw:-ys<64)(R:List V->Hp->Prop)(h0:R [] H)(hc:∀(pins':List (be×Obj)) kvs H' s' y x,nn X pins' σ H' s'->R kvs H'->ys[-kvs]?>y->sK y x->wpAny `f X.A.in1.in1 (call (.ref q) [x]) (EP X pins' σ λ k H2=>R (kvs++[k]) H2) (λ _ _=>False) s') (hk:∀(pins':List (be×Obj)) kvs H' s' ks,nn X pins' σ H' s'->ut kvs ks->R kvs H'->-kvs=-ys->(2<=-ys->∀C:SortKind->bd->Prop,C κ s'->wpAny `f X.A.in1.in1 (keyKind' (List.toArray ks)) C X.xe s')/\
   (2<=-ys->∀i j C,i< -ys->j< -ys->C (lt i j) s'->wpAny `f X.A.in1.in1 (keyLt' κ (ks.getD i Value.none) (ks.getD j Value.none)) C (λ _ _=>False) s')/\∀p out,H' p=none->Out lt ys V.bf out->Q `j (u8 H' p (.lst out))):
  wpAny `f X.A (call (.builtin "sorted") [.ref l] [(Str.ofString "key",.ref q)]) (EP X im σ Q) X.xe s:=by
 refine Kh Ik (λ vs r=>by rw[<- -r];exact uw) λ h1 tk ar k1 rv g e1 gD gK gk=>?_;have hlen:=-rv;have I:=I.kept (t':=tk) k1;have e0:({s with heap:=h1,toks:=tk}:bd).heap.objs.size=h1.objs.size:=rfl;have e9:({s with heap:=h1,toks:=tk}:bd).heap=h1:=rfl;have es:({s with heap:=g,toks:=tk}:bd)={{s with heap:=h1,toks:=tk}with heap:=g}:=rfl;rw[es];clear Ik;generalize({s with heap:=h1,toks:=tk}:bd)=s at*;have f1:=I.km (H':=λ _=>none) (b:=h1.objs.size) () rfl;have f3:=I.km (H':=λ _=>none) (b:=h1.objs.size+2) () rfl;have dQ:h1.objs.size≠h1.objs.size+2:=()
 refine Mt (J:=λ ks e s'=>∃kvs H',nn X ((h1.objs.size+2,seqObj "list" (List.toArray ks) e)::(h1.objs.size,seqObj "list" ([].toArray) e1)::im) σ H' s'/\ut kvs ks/\R kvs H'/\-ks<=-ar) () ?_ ?_ ?_ ?_
 ·rintro ks e s' ⟨kvs,H',I',rk,hR,lG⟩;exact#[(I'.pin _ (j8 _ (.head _))).1,lG]
 ·rintro x ks e s' ⟨kvs,H',I',rk,hR,lG⟩ hx;have lk:=-rk;obtain⟨y,hy,ry⟩:∃y,ys[-kvs]?>y/\sK y x:=by
   have hi:-kvs< -ys:=by have:=(g9.mp hx).1;lia
   let#[u,WR,ru]:=rv.get (i5 hi);rw[lk,hx]at WR;cases WR;exact#[_,i5 hi,ru]
  refine K6 (hc _ kvs H' s' y x I' hR hy ry) (λ u s2 hq=>?_) λ _ _ z=>z;let#[kv,H2,I2,ru,hR2]:=hq;have pk:=I2.pin _ (j8 _ (o7 ..));refine#[pk.1,λ h' c hh' sb=>#[kvs++[kv],H2,?_,rk.append (.cons ru .nil),hR2,?_]]
  ·have I3:nn X ((h1.objs.size,seqObj "list" ([].toArray) e1)::im) σ H2 s2:=I2.eR λ p hp=>I2.pin p (j8 _ (.tail _ hp));have pd:=I2.pin _ (j8 _ (List.Mem.tail _ (o7 ..)));have fk:kG X ((h1.objs.size,seqObj "list" ([].toArray) e1)::im) H2 (h1.objs.size+2):=⟨pk.2.1,f3.2.1,f3.2.2.1,f3.2.2.2.1,f3.2.2.2.2.1,λ p hp=>by
    rcases C3.mp hp with z|z
    ·exact f3.2.2.2.2.2 p (l0 _ z)
    ·rcases E8.mp z with rfl|z
     ·exact dQ
     ·exact f3.2.2.2.2.2 p (j8 _ z)⟩
   have I4:nn X ((h1.objs.size,seqObj "list" ([].toArray) e1)::im) σ H2 {s2 with heap:=h'}:=vp (t':=s2.toks) (ch:=[h1.objs.size+2]) I3 (λ b o hb e=>(sb.2 b (λ z=>hb (by simp[z]))).trans e) λ b MX=>by
    have:b=h1.objs.size+2:= ~~~MX
    subst this;exact fk
   refine I4.eR λ p hp=>?_;rcases E8.mp hp with rfl|z
   ·exact#[hh',pk.2.1,f3.2.1,f3.2.2.1,λ v z=>by cases z]
   ·exact I4.pin p (j8 _ z)
  ·have:=(g9.mp hx).1;rw[p4,j9];lia
 ·have I5:nn X im σ H {s with heap:=g}:=I.kept (t':=s.toks) λ b o q=>gk b o (by rw[<- e9];exact q);have hn:∀b,h1.objs.size<=b->H b=none:=λ b hb=>I.aX.fresh ();refine#[[],H,I5.eR λ p hp=>?_,.nil,h0,J9 _];rcases E8.mp hp with rfl|z
  ·exact#[gK,hn _ (),f3.2.1,f3.2.2.1,λ v z=>by cases z]
  ·rcases E8.mp z with rfl|z
   ·exact#[gD,hn _ (),f1.2.1,f1.2.2.1,λ v z=>by cases z]
   ·exact I5.pin p (j8 _ z)
 ·rintro ks e s' ⟨kvs,H',I',rk,hR,_⟩ lG;have lk:=-rk;let#[mM,gm,hQ]:=hk _ kvs H' s' ks I' rk hR ();have pk:=I'.pin _ (j8 _ (o7 ..));have pd:=I'.pin _ (j8 _ (List.Mem.tail _ (o7 ..)));rw[hlen]at mM gm;refine Rt O lG () pk.1 pd.1 dQ mM gm λ out h' c ho hD BD=>#[rfl,?_];let#[p,p1,p2,p3]:=ho;subst p3;have I6:nn X im σ H' s':=I'.eR λ p hp=>I'.pin p (j8 _ (.tail _ (.tail _ hp)));have I7:nn X im σ H' {s' with heap:=h'}:=vp (t':=s'.toks) (ch:=[h1.objs.size,h1.objs.size+2]) I6 (λ b o hb e=>BD b o (λ z=>hb (by simp[z])) (λ z=>hb (by simp[z])) e) λ b MX=>by
   simp at MX;rcases MX with rfl|rfl
   ·exact#[pd.2.1,f1.2]
   ·exact#[pk.2.1,f3.2]
  have rv':ut (p.toList.map λ i=>ys.getD i V.bf) (p.toList.map λ i=>ar.getD i Value.none):=E_ rv _;have YC:(p.toList.map λ i=>ys.getD i V.bf).length<=sizeLine:=by rw[C1,m9,p1.size,J8];lia
  refine#[.ref h1.objs.size,_,nn.oQ (D:=h1.objs.size) (o:=.lst (p.toList.map λ i=>ys.getD i V.bf)) I7 pd.2.1 (show _/\∃(ar:List ac)(n:Nat),ut _ ar/\_ from#[YC,_,c,rv',hD]) f1.2.1 (G9 I.sz ()) f1.2.2.2.2.1 f1.2.2.2.2.2,rfl,hQ _ _ pd.2.1 #[p,hlen>=p1,hlen>=p2,rfl]]
def Je(I:nn X im σ H s)(hr:cz k A)(en:kJ X.prog X.w X.K X.mg X.base A X.stack s H){sp:SK}{eu:List V}(ok:mR X.prog X.w X.K X.mg X.base k L ps fv sp)(hf:∃o,H f>(.cQ o (.ext (ki f L c `v))))(qD:∃o,H c>(.cQ o (.ext (nA c L.qual))))(EE:dN ps fv L.scope=true)(OF:fv=cn.map (·.1))(sj:∀x j,(x,j)∈cn->X.env.kindOf x>.cell/\X.N[j]?>x)(hN:X.N.Nodup)(hl:-eu=-cn)(uo:∀(i:Nat)(x:Str)(j:Nat)(v:V),cn[i]?>(x,j)->eu[i]?>v->σ[j]?>(some v)){y:V}{x:ac}(r:sK y x){Q:VK}(q:sp [y] eu H Q):wpAny `f A (call `C [x]) (EP X im σ Q) (λ _ _=>False) s:=by
 let#[o1,h1]:=hf;let#[o2,h2]:=qD;have W3:=IA I.aX h1;have Zs:nA c L.qual s.heap:=(I.aX c _ h2).2.1;unfold dN at EE;simp only[A2,A9]at EE;let#[#[_,h5],h6]:=EE;have val:∀i x j,cn[i]?>(x,j)->∃v,eu[i]?>v/\σ[j]?>(some v):=λ i x j e=>by have lt:=(g9.mp e).1;have ev:=i5 (show i< -eu by lia);exact#[_,ev,uo i x j _ e ev]
 let#[C,hC,Xd]:=I.SA cn (λ x j hx=>by
  let#[i,hi]:=ci hx;let#[v,_,hv]:=val i x j hi;exact#[(sj x j hx).1,(sj x j hx).2,v,hv]) hN
 have fr:∀x,(x,NameKind.free)∈L.scope.names->x∈fv:=λ x hx=>by simpa using(h6 _ hx).2
 have Tc:∀x∈fv,∃j,(x,j)∈cn:=λ x hx=>by rw[OF]at hx;let#[p,hp,rfl]:=G7.mp hx;exact#[p.2,hp]
 have look:=fH (cells:=X.env.cells) L.scope.names [] (λ n hx=>by
  let#[j,hj]:=Tc n (fr n hx);let#[d,_,_,e,_]:=hC.has n j hj;exact#[d,e]) λ x c e=>by simp at e
 have free:=λ x c e=>(ig (cells:=X.env.cells) L.scope.names [] x c e).elim (fr x) λ z=>by simp at z
 refine wpAny_call (J4 (ok.run A X.stack s H f c _ [x] [y] eu _ hr en W3 Zs #[by rw[hl,OF,C1],λ i x v e1 e2=>?_,λ x y d e1 e2=>I.ok.inj _ _ _ (look x d e1) (look y d e2),λ x d e=>#[free x d e,I.fV x d (look x d e)]] (.cons r .nil) q) λ r s' hq=>?_)
 ·rw[OF,w6]at e1;let#[p,hp,rfl]:=ca.mp e1;have hx:p.1∈fv:=OF>=G7.mpr #[p,k9 hp,rfl]
  have hm:(p.1,NameKind.free)∈L.scope.names:=by have:=h5 _ hx;exact m7 (~~~this)
  let#[b,hb]:=Option.isSome_iff_exists.mp (gO (cells:=X.env.cells) L.scope.names [] hm);let#[b',o',v',z1,z2,z3]:=hC.has p.1 p.2 (k9 hp);rw[look _ b hb]at z1;cases z1;rw[uo i p.1 p.2 v hp e2]at z2;cases z2;exact#[b,hb,(Xd b _ z3).2]
 ·cases r with
  |error e=>exact False.elim hq
  |ok fl=>
   cases fl with
   |ret u=>exact I.after hq
   |next=>exact False.elim hq
   |brk=>exact False.elim hq
   |cont=>exact False.elim hq
def RB(I:nn X im σ H s)(hu:A.units+1<cLine){kvs:List V}{ks:List ac}{key:Nat->Ky}(rk:ut kvs ks)(hl:-kvs=n)(eW:∀i k,kvs[i]?>k->qu X.K true H k (key i)): (2<=n->∀C:SortKind->bd->Prop,C (tuples' true) s->wpAny `f A (keyKind' (List.toArray ks)) C E s)/\ (2<=n->∀i j C,i<n->j<n->C (klt (key i) (key j)) s->wpAny `f A (keyLt' (tuples' true) (ks.getD i Value.none) (ks.getD j Value.none)) C (λ _ _=>False) s):=by
 have lk:=-rk;refine#[λ h2 C hC=>?_,λ h2 i j C hi hj hC=>?_]
 ·let#[fs,t1,t2,t3]:=wg I rk eW;refine kat_kind (T:=.type "int") t1 () (λ v hv=>?_) rfl hC;let#[i,t,rfl]:=t3 v hv;exact(show Looks _ s.heap (pure (Value.type "int")) _ from .now)
 ·have gi:∀i,i<n->∃k u,kvs[i]?>k/\ks.getD i Value.none=u/\sK k u:=λ i hi=>by
   have um:i< -kvs:=()
   let#[u,e,r]:=rk.get (i5 um);exact#[_,u,i5 um,by rw[b8,e];rfl,r]
  let#[k1,u1,a1,a2,a3]:=gi i hi;let#[k2,u2,b1,b2,b3]:=gi j hj;rw[a2,b2];exact Ry I hu (eW i k1 a1) (eW j k2 b1) a3 b3 hC
def Ny(I:nn X im σ H s)(hc:X.calm=true){r:be}(h:H r>(.yd 0 n))(bZ:n<64):Col X s r (mf 0 n):=λ Q' k=>by
 let#[t,u,v,ho]:=I.aX r _ h;have es:Builtin.Range.rangeSize 0 (n:Int) 1=((n:Nat):Int):=by rw[rangeSize_one];split<;>lia
 exact qU (A:=X.A.in1) (a:=0) (b:=n) (c:=1) (t:=t) (u:=u) (v:=v) (n:=n) (I.ok.hd hc) ho (small_one () () () ()) es () λ h' tk jp kp fL=>k h' tk jp.toList kp (rO fL)
section
variable {P:be}{lp p pos kp:Pos}{te:TE}
def Gw(X:Cx)(k:Nat)(P:be)(L:iC)(cn:List (Str×Nat))(σ:St)(x:V)(H:Hp)(Q:VK):Prop:=
 ∃(r:be)(n:Nat)(ps fv:List Str)(sp:SK)(eu:List V),x=.ref r/\H r>(.yd 0 n)/\n<64/\mR X.prog X.w X.K X.mg X.base k L ps fv sp/\dN ps fv L.scope=true/\fv=cn.map (·.1)/\-eu=-cn/\(∀(i:Nat)(x:Str)(j:Nat)(v:V),cn[i]?>(x,j)->eu[i]?>v->σ[j]?>(some v))/\EF H P L.qual/\
 ∀H':Hp,(∀b u,b≠P->H b>u->H' b>u)->EF H' P L.qual->∃(R:List V->Hp->Prop)(key:Nat->Ky),R [] H'/\(∀kvs H2,R kvs H2->∀b o u,H' b>(.cQ o u)->H2 b>(.cQ o u))/\(∀kvs H2 v,R kvs H2->(mf 0 n)[-kvs]?>v->sp [v] eu H2 (λ k H3=>R (kvs++[k]) H3))/\
  ∀kvs H2,R kvs H2->-kvs=n->(∀i k,kvs[i]?>k->qu X.K true H2 k (key i))/\∀p out,H2 p=none->Out (λ i j=>klt (key i) (key j)) (mf 0 n) V.bf out->Q `j (u8 H2 p (.lst out))
def kW(a:Int)(n:Nat):(mf a n).length=n:=by unfold mf;rw[C1,x9]
def LA(hc:X.calm=true)(hr:cz (k+2) X.A)(hg:Gl X "sorted")(hm:X.mg "sorted"=none)(he:PE X e te)(mN:X.env.code=.ref c)(B:Jq X.mg X.base c P)(yT:defaultsOf L.params X.env=([],[]))(D':L.pm=(X.mg "__name__").getD .none)(hq:X.env.qual++"<lambda>"=L.qual)(vb:∀n,(n,NameKind.free)∈L.scope.names->X.env.kindOf n>.cell\/X.env.kindOf n>.free)(sj:∀x j,(x,j)∈cn->X.env.kindOf x>.cell/\X.N[j]?>x)(hN:X.N.Nodup)(hs:starEach [e] X.env=[(false,eval e X.env)]:=by rfl)(D_:backTo pos (starEach [e] X.env)=(false,eval e X.env)::backTo pos (starEach [] X.env):=by rfl)(hs2:(backTo pos (starEach [e] X.env)).any (·.1)=false:=by rfl):PE X (.Call (.Name "sorted" p) [e] [#[some "key",.Lambda L.params L.body L.scope lp,kp]] pos) (λ σ H Q=>te σ H λ x H1=>Gw X k P L cn σ x H1 Q):=by
 intro im s σ H Q I h;refine q9 (fB I hg hm PyProof.Rows.boot_sorted ?_ `c `c);refine PyProof.Rows.callWith_kw (cZ ((lq he pI (by show _=_;rw[hs];rfl)) pos im s σ H (λ vs H1=>match vs with|[x]=>Gw X k P L cn σ x H1 Q|_=>False) I h) λ us s1 ⟨vs,H1,I1,r1,q1⟩=>?_) D_ hs2;cases vs with
 |nil=>exact q1.elim
 |cons x vs=>
  cases vs with
  |cons _ _=>exact q1.elim
  |nil=>
  let#[r,n,ps,fv,sp,eu,rfl,YS,bZ,ok,EE,OF,hl,uo,tb,q]:=(show Gw X k P L cn σ x H1 Q from q1);refine cZ ((Lu (GN (pos:=lp) mN B yT D' hq vb) Qq) pos im s1 σ H1 (λ vs H2=>∃f c,vs=[.ref f]/\(∀b u,b≠P->H1 b>u->H2 b>u)/\EF H2 P L.qual/\(∃o,H2 c>(.cQ o (.ext (nA c L.qual))))/\∃o,H2 f>(.cQ o (.ext (ki f L c `v)))) I1 #[tb,λ f c H2 _ _ old Xw MW Zj=>#[f,c,rfl,old,Xw,MW,Zj]]) λ ws s2 ⟨zs,H2,I2,rz,f,cf,e2,old,Xw,MW,Zj⟩=>?_;subst e2;let#[u,rfl,ru]:=vals1 r1;let#[v,rfl,rv]:=vals1 rz;cases(show u=Value.ref r from ru);cases(show v=Value.ref f from rv);let#[R,key,h0,BD,wF,hk]:=q H2 old Xw;have rP:r≠P:=λ z=>by let#[cs,z1,_]:=tb;rw[z,z1]at YS;cases YS
  have room:cz k X.A.in1.in1:=(hr.in1 (k:=k+1)).in1;have hu1:X.A.in1.in1.units+1<cLine:=by have:=room.units;lia
  refine uH (Mv key) (κ:=tuples' true) I2 (Ny I2 hc (old r _ rP YS) bZ) (kW>=bZ) R h0 (λ pins' kvs H' s' y x I' hR hy ry=>?_) λ pins' kvs H' s' ks I' rk hR lG=>?_
  ·let#[o1,z1]:=Zj;let#[o2,z2]:=MW;exact Je I' room I'.Nh.in1.in1 ok #[o1,BD kvs H' hR _ _ _ z1] #[o2,BD kvs H' hR _ _ _ z2] EE OF sj hN hl uo ry (wF kvs H' y hR hy)
  ·rw[kW]at lG ⊢;let#[a1,a2]:=hk kvs H' hR lG;let#[b1,b2]:=RB (E:=X.xe) I' hu1 rk lG a1;exact#[b1,b2,a2]
end
def Hy(s:Stmt)(j:Nat)(q:Str)(mg:Str->Option ac):iC:=match(bp s)[j]? with
 |some (.Assign _ (.Call _ _ [⟨_,.Lambda a b c _,_⟩] _) _)=>#[q,a,b,c,(mg "__name__").getD .none]
 |_=>#[q,bN s,.Constant .none 0 #[0,0,0,0],aD s,.none]
end L2
namespace L3
open PySem.Spec PyProof.Rows L2 L5
section
variable {P:be}{lp p pos dY kp:Pos}
def OO(Pr:Program)(w:World)(K:L8)(mg:Str->Option ac)(base:Heap)(k:Nat)(P:be)(L:iC)(cn:List (Str×Nat))(δ:cS)(ds:List D)(M1:Mem)(Q:bK):Prop:=∃(n:Nat)(ps fv:List Str)(sp:lP)(cs:List D)(R:List D->Mem->Prop)(key:Nat->Ky),
 ds=[.int n]/\n<64/\nF Pr w K mg base k L ps fv sp/\dN ps fv L.scope=true/\fv=cn.map (·.1)/\-cs=-cn/\(∀(i:Nat)(x:Str)(j:Nat)(d:D),cn[i]?>(x,j)->cs[i]?>d->δ[j]?>(some d))/\M1 P>(.dE (.lU L.qual))/\R [] M1/\
 (∀lE M2,R lE M2->-lE<n->sp [.int (-lE:Nat)] cs M2 (λ k M3=>R (lE++[k]) M3))/\
 ∀lE M2,R lE M2->-lE=n->(∀i k,lE[i]?>k->NP true M2 k (key i))/\∀p out,M2 p=none->Out (λ i j=>klt (key i) (key j)) (cF 0 n) D.bf out->Q `j (af M2 p (.lst out))
def N4(Pr:Program)(w:World)(K:L8)(mg:Str->Option ac)(base:Heap)(k:Nat)(P:be)(L:iC)(cn:List (Str×Nat))(ta:dG):bU:=λ δ M Q=>ta δ M λ ds M1=>OO Pr w K mg base k P L cn δ ds M1 Q
def O4(hc:X.calm=true)(hr:cz (k+2) X.A)(hg:Gl X "sorted")(hm:X.mg "sorted"=none)(Zi:Gl X "range")(Y5:X.mg "range"=none)(ha:WA X [e1] ta)(mN:X.env.code=.ref c)(B:Jq X.mg X.base c P)(yT:defaultsOf L.params X.env=([],[]))(D':L.pm=(X.mg "__name__").getD .none)(hq:X.env.qual++"<lambda>"=L.qual)(vb:∀n,(n,NameKind.free)∈L.scope.names->X.env.kindOf n>.cell\/X.env.kindOf n>.free)(sj:∀x j,(x,j)∈cn->X.env.kindOf x>.cell/\X.N[j]?>x)(hN:X.N.Nodup)(hs:kB X e1 []:=by rfl)(ht:starEach [.Call (.Name "range" p2) [e1] [] dY] X.env=[(false,eval (.Call (.Name "range" p2) [e1] [] dY) X.env)]:=by rfl)(D_:backTo pos (starEach [.Call (.Name "range" p2) [e1] [] dY] X.env)=(false,eval (.Call (.Name "range" p2) [e1] [] dY) X.env)::backTo pos (starEach [] X.env):=by rfl)(hs2:(backTo pos (starEach [.Call (.Name "range" p2) [e1] [] dY] X.env)).any (·.1)=false:=by rfl):WE X (.Call (.Name "sorted" p) [.Call (.Name "range" p2) [e1] [] dY] [#[some "key",.Lambda L.params L.body L.scope lp,kp]] pos) (N4 X.prog X.w X.K X.mg X.base k P L cn ta):=by
 replace ha:=ha.h;refine#[?_];refine bA (LA (k:=k) (cn:=cn) hc hr hg hm (gC El Zi Y5 (by decide+kernel) ha `c `c hs (by rfl)) mN B yT D' hq vb sj hN ht D_ hs2) ?_;rintro σ H Q ⟨δ,M,Q2,hs,hm,q,kk⟩;refine#[δ,M,_,hs,hm,q,λ xs H1 ds M1 hd bJ t1 ⟨n,ps,fv,sp,cs,R,key,e,bZ,ok,EE,OF,hl,uo,hP,h0,wF,hk⟩=>?_];subst e;let#[x,r,rfl,hx,hr]:=ae.mp hd;cases(ah.mp hr);cases(aq.mp hx);refine#[(n:Int),rfl,λ r hr=>?_];have m1:=bJ.laid (o:=.yd 0 (n:Int)) hr;have tt:ao H1 (u8 H1 r (.yd 0 (n:Int))):=ao.laid hr;let eu:List V:=cn.map λ p=>((σ[p.2]?).bind id).getD V.bf
 have at':∀(i:Nat)(x:Str)(j:Nat)(d:D),cn[i]?>(x,j)->cs[i]?>d->∃v,eu[i]?>v/\σ[j]?>(some v)/\sB X.K H d v:=λ i x j d a b=>by let#[v,ev,rv]:=hs.get j d (uo i x j d a b);refine#[v,?_,ev,rv];show(cn.map _)[i]?=_;rw[w6,a];show some (((σ[j]?).bind id).getD V.bf)=_;rw[ev];rfl
 have lc:-eu=-cn:=C1 ..;have ent:∀i x j v,cn[i]?>(x,j)->eu[i]?>v->σ[j]?>(some v):=λ i x j v a b=>by have lt:=(g9.mp a).1;let#[v',a1,a2,_]:=at' i x j _ a (i5 (show i< -cs by lia));rw[b]at a1;cases a1;exact a2
 have hcv:ay X.K H cs eu:=uB () λ i d v a b=>by have lt:=(g9.mp a).1;let#[v',a1,_,a3]:=at' i _ _ d (i5 (show i< -cn by lia)) a;rw[b]at a1;cases a1;exact a3
 have tb:EF (u8 H1 r (.yd 0 (n:Int))) P L.qual:=m1 P _ hP;let#[tcs,eP,_]:=id tb;refine#[r,n,ps,fv,_,eu,rfl,aH,bZ,ok,EE,OF,lc,ent,tb,λ H' old Xx=>?_];have t2:ao (u8 H1 r (.yd 0 (n:Int))) H':=#[λ b xs e=>old b _ (λ z=>by rw[z,eP]at e;cases e) e,λ b o u e=>old b _ (λ z=>by rw[z,eP]at e;cases e) e];have m2:ul X.K H' M1:=λ a o e=>by
  by_cases y:a=P
  ·subst y;rw[hP]at e;cases e;exact Xx
  ·let#[u,hu]:=(m1 a o e).there;exact(m1 a o e).mono t2 (hu>=old a u y hu)
 have T_:=t1.trans (tt.trans t2);refine#[λ kvs H2=>∃lE M2,ay X.K H2 lE kvs/\ul X.K H2 M2/\ao H' H2/\R lE M2,key,#[[],M1,by rw[ah],m2,ao.refl _,h0],λ kvs H2 ⟨_,_,_,_,t3,_⟩ b o u e=>t3.cQ b o u e,?_,?_]
 ·rintro kvs H2 v ⟨lE,M2,g1,g2,t3,hR⟩ hv;have JC:=-g1;have lt:=(g9.mp hv).1;rw[kW]at lt;have ev:v=.int (-lE:Nat):=by unfold mf at hv;rw[w6,l9 lt]at hv;have:=B7 hv;rw[<- this,<- JC];exact K8 V.int (G1 _)
  subst ev;refine#[[.int (-lE:Nat)],cs,M2,_,ay.one (aq.mpr rfl),ay.mono (T_.trans t3) _ hcv,g2,wF lE M2 hR (),λ w H3 d3 M3 Zo MT t4 q3=>?_];exact#[lE++[d3],M3,(ay.mono t4 lE g1).append (ay.one Zo),MT,t3.trans t4,q3]
 ·rintro kvs H2 ⟨lE,M2,g1,g2,t3,hR⟩ lG;have JC:=-g1;let#[a1,a2]:=hk lE M2 hR ();refine#[λ i w hw=>?_,λ p out hp ho=>?_]
  ·let#[d3,e3,Zo]:=g1.Ed hw;exact(a1 i d3 e3).v9 Zo g2
  ·let#[π,p1,p2,rfl]:=ho;rw[kW]at p1 p2;have rl:(cF 0 n).length=n:=bc 0 n;refine kk _ _ `j _ (az.mpr rfl) (dM hp (sH (wR (K:=X.K) (H:=H2) 0 n) π.toList) g2) (T_.trans (t3.trans `Q)) (a2 p _ (g2.free hp) #[π,rl>=p1,rl>=p2,rfl])
end
end L3
namespace L4
open L2 L3 L5
def Sy(h:Cg X cn=true):∀x j,(x,j)∈cn->X.env.kindOf x>.cell/\X.N[j]?>x:=λ x j hx=>#[(Ja h x j hx).1,(Ja h x j hx).2.1]
def KG{Pr:Program}{P:be}{Q:bK}(h:ta δ M λ ds M1=>OO Pr w K mg base k P L cn δ ds M1 Q):N4 Pr w K mg base k P L cn ta δ M Q:=h
end L4
namespace KK
open L3 L4 L5
open L2 hiding aG gb
def yr{key:Nat->L2.Ky}{outD:List D}(h:Out (λ i j=>klt (key i) (key j)) (cF 0 n) D.bf outD):∃ord:List Nat,outD=ord.map nD/\ord.Perm (List.range n)/\ord.Pairwise (λ i j=>klt (key j) (key i)=false):=by
 let#[p,p1,p2,rfl]:=h;rw[bc]at p1 p2;have q:p.toList.Perm (List.range n):=by have:=Array.perm_iff_toList_perm.mp p1;simpa using this
 refine#[p.toList,n9 λ i hi=>?_,q,?_]
 ·have hi:=ce.mp (q.mem_iff.mp hi);rw[bY,b8,w6,l9 hi];exact As i
 ·rw[pairwise_iff_getElem];intro i j hi hj xE;have hz:=p1.size;have Ti:j<n:=by rw[<- hz];simpa using hj
  have:=p2 i j (J6 xE) Ti;have g:∀k (hk:k< -p.toList),pg p k=p.toList[k]:=λ k hk=>by
   rw[ll];have Ii:k<p.size:= ~~~hk
   simp[Ii]
  rw[g i hi,g j hj]at this;exact this
section
variable {h m2:Nat}{q:List Row}{g:Nat->Nat}
def Qd(G:cj m h r)(T:Tb m2 h q)(g0:g 0=0)(lt:∀x,x<m->g x<m2)(Q3:∀d,d<m2->∃x,x<m/\g x=d)(st:∀x i,x<m->i<h->g (aE r i x)=aE q i (g x)):cj m2 h q:=by
 refine#[T,#[λ s i hi hs=>?_,λ s i j hi hj hs=>?_],λ d hd=>?_]
 ·let#[x,hx,rfl]:=Q3 s hs;rw[<- st x i hx hi];exact lt _ `M
 ·let#[x,hx,rfl]:=Q3 s hs;rw[<- st x j hx hj,<- st x i hx hi,<- st _ i (G.di.cl _ _ hj hx) hi,<- st _ j `M hj,G.di.cm x i j hi hj hx]
 ·let#[x,hx,rfl]:=Q3 d hd;have go:∀y,j_ (aE r) h 0 y->y<m/\j_ (aE q) h 0 (g y):=λ y R=>by
   induction R with
   |zero=>rw[g0];exact#[G.tb.pos,.zero]
   |step R hi ih=>rw[st _ _ ih.1 hi];exact#[G.di.cl _ _ hi ih.1,.step ih.2 hi]
  exact(go x (G.rW x hx)).2
def Jm(G:cj m h r){x:Nat}(hx:x<m)(hy:y<m)(hi:i<h)(a:∀q:Cs,-q=h->¬Dy r ls x y q):∀q:Cs,-q=h->¬Dy r ls (aE r i x) (aE r i y) q:=λ q hq pq=>by
 refine a (inc q i) (eU>=hq) ?_;unfold Dy at pq ⊢;rw[G.di.Se hi q 0 x () hx,G.di.Se hi q 0 y () hy]at pq
 rwa [G.di.inc q 0 i x () () hx,G.di.inc q 0 i y () () hy,H9]
structure zL(f:Nat->Nat)(xs ch:List Nat):Prop where
 nd:(ch.map f).Nodup
 sl:ch.Sublist xs
 Sw:∀x∈xs,f x∈ch.map f
 hd:ch.head?=xs.head?
 ZI:∀x∈xs,∀c∈ch,f c=f x->c=x\/[c,x].Sublist xs
variable {f:Nat->Nat}{xs ch:List Nat}
def zL.sub(c:zL f xs ch):∀x∈ch,x∈xs:=λ _ h=>c.sl.subset h
theorem zL.nil(f:Nat->Nat):zL f [] []:=#[.nil,.refl _,(λ x h=>nomatch h),rfl,(λ x h=>nomatch h)]
def zL.skip(c:zL f xs ch){x:Nat}(hx:f x∈ch.map f):zL f (xs++[x]) ch:=by
 refine#[c.nd,c.sl.trans (sublist_append_left _ _),λ y hy=>?_,?_,λ y hy d hd e=>?_]
 ·rcases C3.mp hy with z|z
  ·exact c.Sw y z
  ·rw[q8.mp z];exact hx
 ·rw[c.hd];cases xs with
  |nil=>
   have:=c.hd;cases ch with
   |nil=>cases hx
   |cons a l=>cases this
  |cons a l=>rfl
 ·rcases C3.mp hy with z|z
  ·exact(c.ZI y z d hd e).imp id λ s=>s.trans (sublist_append_left _ _)
  ·exact .inr (by rw[q8.mp z];exact(singleton_sublist.mpr (c.sub d hd)).append (.refl [x]))
def zL.add(c:zL f xs ch){x:Nat}(hx:f x∉ch.map f):zL f (xs++[x]) (ch++[x]):=by
 refine#[?_,c.sl.append (.refl _),λ y hy=>?_,?_,λ y hy d hd e=>?_]
 ·rw[C4];exact nodup_append.mpr #[c.nd,by simp,λ a ha b hb e=>hx (by rw[map_singleton,q8]at hb;rw[<- hb,<- e];exact ha)]
 ·rw[C4];rcases C3.mp hy with z|z
  ·exact l0 _ (c.Sw y z)
  ·rw[q8.mp z];exact j8 _ `g
 ·have:=c.hd;cases ch with
  |nil=>
   cases xs with
   |nil=>rfl
   |cons a l=>cases this
  |cons b k=>
   cases xs with
   |nil=>cases this
   |cons a l=>exact this
 ·rcases C3.mp hy with z|z<;>rcases C3.mp hd with w|w
  ·exact(c.ZI y z d w e).imp id λ s=>s.trans (sublist_append_left _ _)
  ·rw[q8.mp w]at e;exact bi (e>=c.Sw y z) hx
  ·rw[q8.mp z]at e;exact bi (by rw[<- e];exact List.mem_map_of_mem w) hx
  ·exact .inl (by rw[q8.mp z,q8.mp w])
def BG(f:Nat->Nat)(ch:List Nat)(x:Nat):Nat:=Ox (ch.map f) (f x)
def eE(r:List Row)(h:Nat)(f:Nat->Nat)(ch:List Nat)(c:Nat):Row:=(List.range h).map λ i=>(BG f ch (aE r i c):Int)
theorem zL.tb(G:cj m h r)(c:zL f xs ch)(perm:xs.Perm (List.range m))(h0:xs.head?>0)(ZT:∀x y i,x<m->y<m->i<h->f x=f y->f (aE r i x)=f (aE r i y)):cj (-ch) h (ch.map (eE r h f ch)):=by
 have mx:∀x,x∈xs↔x<m:=λ x=>by rw[perm.mem_iff,ce]
 have cm:∀d,d< -ch->∃x,ch[d]?>x/\x<m:=λ d hd=>#[ch[d],i5 hd,(mx _).mp (c.sub _ (A4 hd))];have gl:∀x,x<m->BG f ch x< -ch/\∃y,ch[BG f ch x]?>y/\y<m/\f y=f x:=λ x hx=>by
  have i1:=c.Sw x ((mx x).mpr hx);have lt:BG f ch x<(ch.map f).length:=idxOf_lt_length_of_mem i1;have at':(ch.map f)[BG f ch x]?>f x:=i5 lt>=K8 some (getElem_idxOf lt)
  rw[C1]at lt;refine#[lt,?_];rw[w6]at at';let#[y,hy,e]:=ca.mp at';exact#[y,hy,(mx y).mp (c.sub y (k9 hy)),e]
 have gd:∀d x,ch[d]?>x->BG f ch x=d:=λ d x e=>by
  have lt:=(g9.mp e).1;have ed:(ch.map f)[d]?>f x:=by rw[w6,e];rfl
  have xm:=(mx x).mp (c.sub x (k9 e));let#[l1,y,e1,_,e2]:=gl x xm;have ey:(ch.map f)[BG f ch x]?>f x:=w6>=(e1>=K8 some e2)
  exact(getElem?_inj (C1>=l1) c.nd).mp (ey.trans ed.symm)
 have pos:0< -ch:=by
  have:=c.hd.trans h0;cases ch with
  |nil=>cases this
  |cons a l=>simp
 have hsz:-ch<=m:=by
  have nd:ch.Nodup:=(pairwise_map.mp c.nd).imp λ z e=>z (by rw[e]);have:=bv nd (l₂:=List.range m) λ z hz=>ce.mpr ((mx z).mp (c.sub z hz))
  rwa [x9]at this
 have bZ:=G.tb.bZ;have stq:∀d x i,ch[d]?>x->i<h->aE (ch.map (eE r h f ch)) i d=BG f ch (aE r i x):=λ d x i e hi=>by
  have e1:(ch.map (eE r h f ch)).getD d []=eE r h f ch x:=by rw[b8,w6,e];rfl
  have e2:(eE r h f ch x).getD i 0=(BG f ch (aE r i x):Int):=by unfold eE;rw[b8,w6,l9 hi];rfl
  show(((ch.map (eE r h f ch)).getD d []).getD i 0).toNat=_;rw[e1,e2];exact x3 _
 have T:Tb (-ch) h (ch.map (eE r h f ch)):=by refine#[by rw[C1],pos,(),G.tb.wL,λ w hw=>?_];let#[x,hx,rfl]:=G7.mp hw;have xm:=(mx x).mp (c.sub x hx);refine#[by unfold eE;rw[C1,x9],λ v hv=>?_];unfold eE at hv;let#[i,hi,rfl]:=G7.mp hv;have:=(gl _ (G.di.cl _ _ (ce.mp hi) xm)).1;lia
 refine Qd (g:=BG f ch) G T ?_ (λ x hx=>(gl x hx).1) (λ d hd=>?_) λ x i hx hi=>?_
 ·refine gd 0 0 ?_;have:=c.hd.trans h0;cases ch with
  |nil=>cases this
  |cons a l=>exact this
 ·let#[x,e,hx]:=cm d hd;exact#[x,hx,gd d x e]
 ·let#[_,y,e1,ym,e2]:=gl x hx;rw[stq _ y i e1 hi];show Ox _ _=Ox _ _;rw[ZT x y i hx ym hi e2.symm]
def Ol(G:cj m h r){g:Nat->Cs}(hg:SV m h r g){ord:List Nat}(perm:ord.Perm (List.range m))(up:ord.Pairwise λ i j=>klt (EC ((g j).map kI)) (EC ((g i).map kI))=false):ord.head?>0:=by
 have m0:0∈ord:=perm.mem_iff.mpr (ce.mpr G.tb.pos);cases ord with
 |nil=>cases m0
 |cons a l=>
  rcases E8.mp m0 with e|e
  ·rw[<- e];rfl
  ·have am:a<m:=ce.mp (perm.mem_iff.mp o7);have:=(pairwise_cons.mp up).1 0 e;have s0:g 0=gs h:=(hg 0 G.tb.pos).1.uniq (fZ.gs (aE r) 0 h) (by rw[(hg 0 G.tb.pos).2,fU]);have sm:∀p:Cs,(p.map kI).sum=((p.sum:Nat):Int):=λ p=>by
    induction p with
    |nil=>rfl
    |cons c p ih=>rw[D9,sum_cons,sum_cons,ih];exact(Int.natCast_add _ _).symm
   by_cases z:(g a).sum=0
   ·have:=ox z;rw[(hg a am).1.1]at this;have e2:=(hg a am).2;rw[this,fU]at e2;rw[<- e2];rfl
   ·exfalso;unfold klt EC at this;dsimp only at this;rw[sm,sm,s0,jy,L7 ()]at this;have:=s9 this;lia
end
def JB(p q:Cs):Cs:=List.zipWith (·+·) p q
theorem xW{R:α->α->Prop}(as:∀a b,R a b->¬R b a):∀{a b:List α},a.Pairwise R->b.Pairwise R->(∀x,x∈a↔x∈b)->a=b
 |[],[],_,_,_=>rfl
 |[],y::b,_,_,h=>bi ((h y).mpr o7) `g
 |x::a,[],_,_,h=>bi ((h x).mp o7) `g
 |x::a,y::b,ha,hb,h=>by
  let#[a1,a2]:=pairwise_cons.mp ha;let#[b1,b2]:=pairwise_cons.mp hb;have e:x=y:=by
   rcases E8.mp ((h x).mp o7)with z|z
   ·exact z
   ·rcases E8.mp ((h y).mpr o7)with w|w
    ·exact w.symm
    ·exact bi (a1 y w) (as _ _ (b1 x z))
  subst e;rw[xW as a2 b2 λ z=>?_];constructor
  ·intro hz;rcases E8.mp ((h z).mp (k8 _ hz))with w|w
   ·subst w;exact bi (a1 z hz) (as _ _ (a1 z hz))
   ·exact w
  ·intro hz;rcases E8.mp ((h z).mpr (k8 _ hz))with w|w
   ·subst w;exact bi (b1 z hz) (as _ _ (b1 z hz))
   ·exact w
section
variable {S:α->Prop}{h:Nat}{F:Nat->α->α}
theorem Bp(f:α->α):∀(a b:Nat)(x:α),dA f (a+b) x=dA f b (dA f a x)
 |0,b,x=>by rw[H9];rfl
 |a+1,b,x=>Nat.add_right_comm>=Bp f a b (f x)
theorem jP.git(C:jP S h F)(hj:j<h)(cs:Cs)(i:Nat)(hl:i+-cs<=h):∀(n:Nat)(s:α),S s->KK.bj F i (KK.dA (F j) n s) cs=KK.dA (F j) n (KK.bj F i s cs)
 |0,s,_=>rfl
 |n+1,s,hs=>by show KK.bj F i (KK.dA (F j) n (F j s)) cs=KK.dA (F j) n (F j (KK.bj F i s cs));rw[C.git hj cs i hl n _ (C.cl s j hj hs),C.Se hj cs i s hl hs]
theorem jP.JB(C:jP S h F):∀(p q:Cs)(i:Nat)(s:α),-p=-q->i+-p<=h->S s->KK.bj F i (KK.bj F i s p) q=KK.bj F i s (KK.JB p q)
 |[],[],i,s,_,_,_=>rfl
 |c::p,d::q,i,s,e,hl,hs=>by rw[y9]at hl;have fT:=C.dA (i:=i) () c s hs;show KK.bj F (i+1) (KK.dA (F i) d (KK.bj F (i+1) (KK.dA (F i) c s) p)) q=KK.bj F (i+1) (KK.dA (F i) (c+d) s) (KK.JB p q);rw[<- C.git () p (i+1) () d _ fT,C.JB p q (i+1) _ (~~~e) () (C.dA () d _ fT),Bp]
theorem kH.dA{s0:α}{U aB:List α}(e:kH F s0 h U aB io)(hl:-io=-aB)(hi:i<h):∀(n d:Nat)(s:α),aB[d]?>s->aB[KK.dA (aE io i) n d]?>KK.dA (F i) n s
 |0,d,s,hd=>hd
 |n+1,d,s,hd=>e.dA hl hi n _ _ (e.at hl hd hi)
theorem kH.bj{s0:α}{U aB:List α}(e:kH F s0 h U aB io)(hl:-io=-aB):∀(p:Cs)(i d:Nat)(s:α),i+-p<=h->aB[d]?>s->aB[KK.bj (aE io) i d p]?>KK.bj F i s p
 |[],i,d,s,_,hd=>hd
 |c::p,i,d,s,hp,hd=>by rw[y9]at hp;exact e.bj hl p (i+1) _ _ () (e.dA hl () c d s hd)
end
def Rk{a b:Row}(A:gr m a)(B:gr m b)(e:∀d,d<m->c_ a d=c_ b d):a=b:=by
 refine xW (R:=(· < ·)) (λ a b h1 h2=>by lia) A.1 B.1 λ x=>?_;have t:∀{a b:Row},gr m a->(∀d,d<m->c_ a d=c_ b d)->x∈a->x∈b:=λ{a b} A e hx=>by have:=A.2 x hx;have z:=e x.toNat ();unfold c_ at z;rw[show((x.toNat:Nat):Int)=x by lia,C9 hx]at z;exact ii z.symm
 exact#[t A e,t B λ d hd=>(e d hd).symm]
def JV{β:Type}{F:Nat->α->α}{F':Nat->β->β}{a:α}{b:β}{h m m':Nat}{kt:List (Cs×α)}{cU:List (Cs×β)}(E:∀p q:Cs,-p=h->-q=h->(bj F 0 a p=bj F 0 a q↔bj F' 0 b p=bj F' 0 b q))(T:zI F a h kt)(T':zI F' b h cU)(all:∀q,fZ F a h q->q∈kt.map (·.1))(ZW:∀q,fZ F' b h q->q∈cU.map (·.1)):kt.map (·.1)=cU.map (·.1):=by
 have fs:∀p,fZ F a h p↔fZ F' b h p:=λ p=>#[λ f=>#[f.1,λ q hq hA e=>f.2 q hq hA ((E q p hq f.1).mpr e)],λ f=>#[f.1,λ q hq hA e=>f.2 q hq hA ((E q p hq f.1).mp e)]];refine xW (λ a b x y=>x.not y) T.Ud T'.Ud λ p=>#[λ z=>?_,λ z=>?_]
 ·let#[e,he,rfl]:=G7.mp z;exact ZW _ ((fs _).mp (T.ent e he).1)
 ·let#[e,he,rfl]:=G7.mp z;exact all _ ((fs _).mpr (T'.ent e he).1)
def Kt{β:Type}{F:Nat->α->α}{F':Nat->β->β}{a:α}{b:β}{h:Nat}{S:α->Prop}{S':β->Prop}{kt:List (Cs×α)}{cU:List (Cs×β)}{U:List α}{U':List β}{dB:List Row}(E:∀p q:Cs,-p=h->-q=h->(bj F 0 a p=bj F 0 a q↔bj F' 0 b p=bj F' 0 b q))(C:jP S h F)(C':jP S' h F')(ha:S a)(hb:S' b)(T:zI F a h kt)(T':zI F' b h cU)(te:kt.map (·.1)=cU.map (·.1))(X:kH F a h U (kt.map (·.2)) io)(X':kH F' b h U' (cU.map (·.2)) dB)(hl:-io=-kt)(lG:-dB=-cU):io=dB:=by
 have tl:-kt=-cU:=by simpa using K8 List.length te
 refine y4 λ d=>?_;by_cases hd:d< -kt
 ·have r1:=i5 (show d< -io by lia);have r2:=i5 (show d< -dB by lia);let#[s,s1,R]:=X.row d _ r1;let#[s',s2,R']:=X'.row d _ r2;rw[r1,r2];refine K8 some (y4 λ j=>?_);by_cases hj:j<h
  ·let#[k,k1,k2]:=R.at' j hj;let#[k',k1',k2']:=R'.at' j hj;rw[k1,k1'];have Xe:∀{γ:Type} {G:Nat->γ->γ} {c:γ} {t:List (Cs×γ)} {k:Nat} {x:γ},zI G c h t->(t.map (·.2))[k]?>x->∃p,(t.map (·.1))[k]?>p/\-p=h/\bj G 0 c p=x:=λ{γ G c t k x} I e=>by rw[w6]at e;let#[y,hy,rfl]:=ca.mp e;have:=I.ent y (k9 hy);exact#[y.1,by rw[w6,hy];rfl,this.1.1,this.2]
   let#[p,p1,p2,p3]:=Xe T s1;let#[p',p1',X9,p3']:=Xe T' s2;let#[q,q1,q2,q3]:=Xe T k2;let#[q',q1',q2',q3']:=Xe T' k2';rw[te,p1']at p1;cases p1;have e1:bj F 0 a q=bj F 0 a (inc p j):=by rw[q3,C.inc p 0 j a () () ha,p3,H9]
   have e2:bj F' 0 b q'=bj F' 0 b (inc p j):=by rw[q3',C'.inc p 0 j b () () hb,p3',H9]
   have e3:=(E q (inc p j) q2 (eU>=p2)).mp e1;rw[te]at q1;let#[y,y1,y2]:=ca.mp (by rw[w6]at q1;exact q1);let#[y',y1',y2']:=ca.mp (by rw[w6]at q1';exact q1');have f1:=T'.ent y (k9 y1);have f2:=T'.ent y' (k9 y1');have ek:k=k':=by refine(getElem?_inj (l:=cU.map (·.2)) (by rw[C1];exact(g9.mp y1).1) T'.nd).mp ?_;rw[w6,w6,y1,y1'];show some y.2>y'.2;rw[<- f1.2,<- f2.2,show y.1=q from y2,show y'.1=q' from y2',e3,e2]
   rw[ek]
  ·rw[k7 (by rw[R.len];lia),k7 (by rw[R'.len];lia)]
 ·rw[k7 (),k7 ()]
def OV(h:Nat)(r:List Row)(ls:Row)(q:List Row)(eI:Row):Prop:=∀p:Cs,-p=h->c_ ls (bj (aE r) 0 0 p)=c_ eI (bj (aE q) 0 0 p)
def JM.sam{h m2:Nat}{q:List Row}{eI:Row}{g:Nat->Nat}(G:cj m h r)(H:JM m h r ls m2 q eI g):OV h r ls q eI:=λ p hp=>by have:=H.xA G (p.map λ v:Nat=>(v:Int)) 0 0 (by rw[C1];lia) G.tb.pos;rw[kN,kN,H.iH]at this;rw[<- this];exact H.ls _ (gn G G.tb.pos hp)
section
variable {h m2:Nat}{q:List Row}{eI:Row}
noncomputable def stK(m h:Nat)(r:List Row)(ls:Row)(i s:Nat):Nat:=kd `m (aE r i s)
theorem wH(G:cj m h r):∀(p:Cs)(i x:Nat),i+-p<=h->x<m->bj (stK m h r ls) i (kd `m x) p=kd `m (bj (aE r) i x p)
 |[],i,x,_,_=>rfl
 |c::p,i,x,hp,hx=>by
  rw[y9]at hp;have K:=gg ls G;have it:∀(n y:Nat),y<m->dA (stK m h r ls i) n (kd `m y)=kd `m (dA (aE r i) n y):=by
   intro n
   induction n with
   |zero=>intro y _;rfl
   |succ n ih=>intro y hy;show dA (stK m h r ls i) n (kd `m (aE r i (kd `m y)))=kd `m (dA (aE r i) n (aE r i y));rw[K.xV _ y i (K.lt y hy) hy () (K.Oz y hy),ih _ (G.di.cl _ _ () hy)]
  show bj (stK m h r ls) (i+1) (dA (stK m h r ls i) c (kd `m x)) p=kd `m (bj (aE r) (i+1) (dA (aE r i) c x) p);rw[it c x hx,wH G p (i+1) _ () (G.di.dA () c x hx)]
def zZ(G:cj m h r){p p':Cs}(hp:-p=h)(ED:-p'=h):bj (stK m h r ls) 0 0 p=bj (stK m h r ls) 0 0 p'↔∀s:Cs,-s=h->c_ ls (bj (aE r) 0 0 (JB p s))=c_ ls (bj (aE r) 0 0 (JB p' s)):=by have K:=gg ls G;have z:=wH (ls:=ls) G p 0 0 () G.tb.pos;have z':=wH (ls:=ls) G p' 0 0 () G.tb.pos;rw[K.iH]at z z';rw[z,z',HF (gn G G.tb.pos hp) (gn G G.tb.pos ED),pO,<- sO G (gn G G.tb.pos hp) (gn G G.tb.pos ED)];refine forall_congr' λ s=>forall_congr' λ hs=>?_;unfold Dy;rw[G.di.JB p s 0 0 () () G.tb.pos,G.di.JB p' s 0 0 () () G.tb.pos];exact Decidable.not_not
def Kp(G:cj m h r)(G2:cj m2 h q)(s:OV h r ls q eI):∀p p':Cs,-p=h->-p'=h->(bj (stK m h r ls) 0 0 p=bj (stK m h r ls) 0 0 p'↔bj (stK m2 h q eI) 0 0 p=bj (stK m2 h q eI) 0 0 p'):=λ p p' hp ED=>by
 rw[zZ G hp ED,zZ G2 hp ED];refine forall_congr' λ t=>forall_congr' λ ht=>?_;have l:∀p:Cs,-p=h->(JB p t).length=h:=λ p hp=>by unfold JB;rw[length_zipWith,hp,ht,Nat.min_self]
 rw[s _ (l p hp),s _ (l p' ED)]
structure Ey(m h:Nat)(r:List Row)(ls:Row)(kt:List (Cs×Nat))(io:List Row)(eI:Row):Prop where
 lst:Lst m h r ls (kt.map (·.2)) io eI
 gI:zI (stK m h r ls) 0 h kt
 all:∀p,fZ (stK m h r ls) 0 h p->p∈kt.map (·.1)
def Ey.eq{kt cU:List (Cs×Nat)}{dB:List Row}{l l':Row}(G:cj m h r)(G2:cj m2 h q)(s:OV h r ls q eI)(A:Ey m h r ls kt io l)(B:Ey m2 h q eI cU dB l'):io=dB/\l=l':=by
 have E:=Kp G G2 s;have K:=gg ls G;have K2:=gg eI G2;have te:=JV (m:=0) (m':=0) E A.gI B.gI A.all B.all;have tl:-kt=-cU:=by simpa using K8 List.length te
 have a1:=A.lst.len;have b1:=B.lst.len;rw[C1]at a1 b1;refine#[Kt E (K.di G) (K2.di G2) #[G.tb.pos,K.iH] #[G2.tb.pos,K2.iH] A.gI B.gI te A.lst.ex B.lst.ex a1 b1,?_];have a2:=A.lst.Hu;have b2:=B.lst.Hu;rw[C1]at a2 b2;rw[<- tl]at b2;refine Rk a2 b2 λ d hd=>?_;have x1:=i5 hd;have x2:=i5 (show d< -cU by lia);rw[A.lst.mem d kt[d].2 (by rw[w6,x1];rfl),B.lst.mem d cU[d].2 (by rw[w6,x2];rfl)];have f1:=A.gI.ent _ (A4 hd);have f2:=B.gI.ent _ (A4 (show d< -cU by lia));have ep:kt[d].1=cU[d].1:=by have:=K8 (λ l:List Cs=>l[d]?) te;simp only[w6,x1,x2,Option.map_some,Option.some.injEq]at this;exact this
 have z:∀{m:Nat} {r:List Row} {ls:Row} {p:Cs} (G:cj m h r),-p=h->c_ ls (bj (stK m h r ls) 0 0 p)=c_ ls (bj (aE r) 0 0 p):=λ{m r ls p} G hp=>by have:=wH (ls:=ls) G p 0 0 () G.tb.pos;rw[(gg ls G).iH]at this;rw[this,Lst.Yn G (gn G G.tb.pos hp)]
 rw[<- f1.2,<- f2.2,z G f1.1.1,z G2 f2.1.1,<- ep];exact s _ f1.1.1
end
structure Ez{α:Type}(aB:List α)(gG:α->Bool)(i:Nat)(ls:Row):Prop where
 Hu:gr i ls
 is:∀d x,d<i->aB[d]?>x->c_ ls d=gG x
section
variable {aB:List α}{gG:α->Bool}
theorem Ez.nil(aB:List α)(gG:α->Bool):Ez aB gG 0 []:=#[gr.nil 0,λ d x z=>bi z ()]
def Ez.out(c:Ez aB gG i ls){d:Nat}(h:i<=d):c_ ls d=false:=B4 λ z=>by have:=(c.Hu.2 _ z).2;lia
def Ez.yes(c:Ez aB gG i ls){x:α}(hx:aB[i]?>x)(l:gG x=true):Ez aB gG (i+1) (ls++[(i:Int)]):=by
 refine#[c.Hu.add,λ d y hd hy=>?_];by_cases z:d=i
 ·subst z;rw[hx]at hy;cases hy;rw[l];exact C9 `g
 ·rw[<- c.is d y () hy];have:(d:Int)≠(i:Int):=()
  simp[c_,this]
def Ez.no(c:Ez aB gG i ls){x:α}(hx:aB[i]?>x)(l:gG x=false):Ez aB gG (i+1) ls:=by
 refine#[c.Hu.up,λ d y hd hy=>?_];by_cases z:d=i
 ·subst z;rw[hx]at hy;cases hy;rw[l,c.out `G]
 ·exact c.is d y () hy
end
theorem Ac(r:List Row)(w:Nat)(ws:Cs):∀(p:Cs)(i:Nat)(s:Nat×Nat),(bj (Jy r w ws) i s p).1=bj (aE r) i s.1 p
 |[],i,s=>rfl
 |c::p,i,s=>by
  have it:∀(n:Nat)(s:Nat×Nat),(dA (Jy r w ws i) n s).1=dA (aE r i) n s.1:=by
   intro n
   induction n with
   |zero=>intro s;rfl
   |succ n ih=>intro s;exact ih _
  show(bj (Jy r w ws) (i+1) (dA (Jy r w ws i) c s) p).1=bj (aE r) (i+1) (dA (aE r i) c s.1) p;rw[Ac r w ws p (i+1),it]
def Kb{F:Nat->α->α}{s0:α}{h:Nat}{U aB:List α}{gG:α->Bool}(e:kH F s0 h U aB io)(hl:-io=-aB)(c:Ez aB gG (-aB) ls){p:Cs}(hp:-p=h):c_ ls (bj (aE io) 0 0 p)=gG (bj F 0 s0 p):=by have a:=e.bj hl p 0 0 s0 () e.iH;exact c.is _ _ (g9.mp a).1 a
def Kw{h:Nat}{dB:List Row}{xs:Row}{ord:List Nat}(T:cj m h io)(hp:ord.Perm (List.range m))(h0:ord[0]?>0)(hl:-dB=m)(hr:∀(d:Nat)(r:Row),dB[d]?>r->∃x,ord[d]?>x/\bW (aE io) ord x h r)(L:gr m ls)(hx:xs.Perm (dO ord ls)):OV h io ls dB xs:=λ p hq=>by
 have nd:ord.Nodup:=hp.nodup_iff.mpr nodup_range;have e:kH (aE io) 0 h (List.range m) ord dB:=#[nd,h0,λ s hs=>T.rW s (ce.mp (hp.mem_iff.mp hs)),λ s hs=>hp.mem_iff.mp hs,hr];have a:=e.bj (by rw[hl,hp.length_eq,x9]) p 0 0 0 () h0;have lt:=gn T T.tb.pos hq;generalize bj (aE io) 0 0 p=x at*;generalize bj (aE dB) 0 0 p=d at*;unfold c_;refine decide_eq_decide.mpr ?_;rw[hx.mem_iff];unfold dO;rw[G7];constructor
 ·intro z;refine#[_,z,?_];rw[x3];have b:=fE (k9 a);exact K8 _ ((getElem?_inj (g9.mp b).1 nd).mp (b.trans a.symm))
 ·rintro⟨y,hy,e⟩;have yb:=L.2 y hy;have b:=fE (hp.mem_iff.mpr (ce.mpr (show y.toNat<m by lia)));rw[show ord.idxOf y.toNat=d by lia,a]at b;have:=B7 b;rw[show(x:Int)=y by lia];exact hy
end KK
namespace L4
open PySem.Spec L2 L3
section
variable {a b c:Expr}{ta tb tc:bU}
def aS(ha:WE X a ta)(hs:kB X a []:=by rfl):WA X [a] (iy ta tj):=bF ha cD hs
def cT(ha:WE X a ta)(hb:WE X b tb)(hs:starEach [a,b] X.env=(false,eval a X.env)::starEach [b] X.env:=by rfl)(hs2:kB X b []:=by rfl):WA X [a,b] (iy ta (iy tb tj)):=bF ha (aS hb hs2) hs
def O1(ha:WE X a ta)(hb:WE X b tb)(hc:WE X c tc)(hs:starEach [a,b,c] X.env=(false,eval a X.env)::starEach [b,c] X.env:=by rfl)(D_:starEach [b,c] X.env=(false,eval b X.env)::starEach [c] X.env:=by rfl)(hs2:kB X c []:=by rfl):WA X [a,b,c] (iy ta (iy tb (iy tc tj))):=bF ha (cT hb hc D_ hs2) hs
end
end L4
namespace KK
open L3 L4 L5
open L2 hiding aG gb
local macro_rules|`(tactic|walk_at "mem")=>`(tactic|first|assumption|exact ab|(rw[ak (by assumption)];assumption)|(rw[ak (by assumption),ak (by assumption)];assumption)|(rw[ak (by assumption)];exact ab))
local macro_rules|`(tactic|walk_at "rd1")=>`(tactic|first|(with_reducible first|refine PJ ?_|refine Gk ?_|refine KJ ?_|refine yi ?_|refine P_ ?_|refine tH ?_|refine eC ?_|refine PF ?_|refine nK ?_|refine Aw ?_|refine Ut ?_)|((with_reducible refine' gf ?k1 ?_);(case k1=>rfl))|(with_reducible first|refine Ux ?_|refine Qa ?_|refine Ob ?_|refine Le ?_|refine ke ?_|refine kY ?_|refine PC ?_|refine PQ ?_|refine PD ?_|refine La ?_|refine Gr ?_|refine PR ?_|refine KH ?_|refine Lc ?_|refine Ld ?_)|((with_reducible refine' tI ?k1 ?_);(case k1=>walk_at "mem"))|(with_reducible first|refine PB ?_|refine Oe ?_|refine XX ?_|refine Uw ?_|refine Oa ?_|refine rT ?_|refine KI ?_|refine vH ?_|refine Az ?_|refine P0 ?_)|((with_reducible refine Gf ?k1 ?_);(case k1=>first|assumption|decide))|((with_reducible refine PZ ?k1 ?k2 ?_);(case k1=>first|assumption|decide);(case k2=>first|assumption|decide|lia))|((with_reducible refine pB ?k1 ?_);(case k1=>exact Jb (by decide) (by decide)))|(with_reducible first|refine Kz ?_|refine KP ?_|refine Gj ?_)|((with_reducible refine' Lb ?k1 ?_);(case k1=>rfl))|(with_reducible first|refine Od ?_|refine vK ?_|refine Gn ?_|refine Gp ?_)|((with_reducible refine' Gq ?k1 ?_);(case k1=>walk_at "mem"))|(with_reducible first|refine KZ ?_|refine K_ ?_|refine KY ?_|refine KL ?_|refine KA ?_|refine PM ?_|refine nL ?_)|((with_reducible refine' b_ ?k1 ?k2 ?_);(case k1=>walk_at "mem");(case k2=>rfl))|((with_reducible refine' bo ?k2 ?_);(case k2=>rfl))|((with_reducible refine' tu ?k1 ?_);(case k1=>walk_at "mem"))|((with_reducible refine' PH ?k1 ?k2 ?_);(case k1=>walk_at "mem");(case k2=>rfl))|(with_reducible first|refine KD ?_|refine KG ?_|refine KQ ?_|refine KR ?_|refine Du ?_|refine yh ?_|refine Dw ?_|refine Uv ?_|refine KU ?_|refine Ay ?_))
local macro_rules|`(tactic|walk_at "rd")=>`(tactic|repeat(walk_at "rd1"))
local macro_rules|`(tactic|symm)=>`(tactic|walk_at "rd")
local macro_rules|`(tactic|walk_at "rx")=>`(tactic|repeat(first|walk_at "rd1"|((with_reducible refine' Uu ?k1 ?_);(case k1=>exact Nat.le_of_ble_eq_true rfl))))
local macro_rules|`(tactic|rfl')=>`(tactic|walk_at "rx")
local macro_rules|`(tactic|walk_at "len")=>`(tactic|first|(rintro⟨e,_⟩;subst e;rfl)|(rintro⟨_,h⟩;revert h;walk_at "len"))
def top(i:Nat):Stmt:=PySem.Challenge.pw_lastloser_k31_least_tables.main.body.getD i (.Pass #[0,0,0,0])
structure kb(K:L8)(mg:Str->Option ac):Prop where
 all:mg "all"=none
 bool:mg "bool"=none
 enumerate:mg "enumerate"=none
 int:mg "int"=none
 isinstance:mg "isinstance"=none
 len:mg "len"=none
 list:mg "list"=none
 max:mg "max"=none
 range:mg "range"=none
 set:mg "set"=none
 sorted:mg "sorted"=none
 str:mg "str"=none
 sum:mg "sum"=none
 tuple:mg "tuple"=none
 zip:mg "zip"=none
 uh:iE K "bool"
 OB:iE K "int"
 HY:iE K "list"
 OA:iE K "str"
 By:iE K "tuple"
def vA:fM:=λ ds M Q=>∃ns:List Int,ds=[.fl (ns.map D.int)]/\M 72>(.dE (.lU "least.<locals>.<lambda>"))/\M 169>(.dE (.lU "_law_least.<locals>.<lambda>"))/\∀M',Q (.bl true) M'
def LP(F:jO K "_law_pick" "_law_pick" (top 17) f fd)(T:kb K mg):bS P w K mg base eQ 1 f fd ["_law_flow_here","_law_many"] (cI K lZ):=by
 refine mX F ["_law_flow_here","_law_many","_law_cell","_law_digit"] (λ dF A outer s H E ds M Q nd hr h=>?_)
 ·let#[a,c,n,rfl,#[ns,p,b,sd,ct,hf,hc,dQ,hp,hb,BA,D_],BC,hn1,k]:=h;refine⟨_,(aa (cG (oB (aK `L (aI aG `u ag) ag) (nH (aK mi (aI aG `u ag) (ax bT T.len (aS (aI aG `u ag)))))).pt
 (aa (av 2 (aI aG (aI aG `u ag) (aI aG `u ag)))
 (aa (fh (bH bB (aI aG `u ag) ag) (gU `u ag oY))
 (aj (cG (aK Yf `N (bH U3 ag ag))
 (aj (fh `N (gU `u ag oY)))
 (aj (fh (bH lr (bH bB (bH bB (bH kg (aI aG `u ag) ag) (bH lr `N ag)) ag) ag) (gU `u ag oY)))))))
 bg)
 (aa (cG (aK U6 (aI aG `u ag) ag)
 (aa (av 3 (bH lr (aI aG `u ag) `A))
 (aa (fh (bH yx (aI aG `u ag) `A) (gU `u ag oY))
 (aj (aO (ai 3)))))
 bg)
 (aa (fh (bH bB (aI aG `u ag) ag) (gU `u ag oY))
 (aa (fh (bH lr (bH bB (bH bB (bH kg (aI aG `u ag) ag) ag) (aI aG `u ag)) ag) (gU `u ag oY))
 (aj (aO (bH lr (bH yx (bH lr (bH kg (bH bB (bH lr (aI aG `u ag) ag) ag) (bH bB (bH yx (aI aG `u ag) ag) ag)) ag) ag) `A))))))),?_⟩
  refine iY (λ δ' M'=>∃(p b sd ct:Int)(v:Option D),δ'=[some `z,some (.int n),v,none]/\M'=af M a (.lst (OM c p b sd ct))/\0<=p/\0<=b/\0<=sd/\sd<2147483647) (λ N hN=>?_) ?_
  ·symm;refine aL (λ R6=>?_) (λ R6=>?_)
   ·symm;refine aL (λ gR=>?_) (λ gR=>?_)
    ·obtain⟨x,hx⟩:∃x:Int,iN (ns.map D.int) p>(.int x):=by
      have hl:p.toNat< -ns:=by rw[C1]at gR;lia
      refine#[ns[p.toNat],?_];have e:((p.toNat:Nat):Int)=p:=()
      have q:iN (ns.map D.int) ((p.toNat:Nat):Int)>(.int ns[p.toNat]):=bx (by simp[hl]);rw[e]at q;exact q
     symm;refine b_ hc hx ?_;symm;refine XW #[by decide,by decide,by decide] ?_;symm;refine aL (λ R4=>?_) (λ R4=>?_)
     ·symm;rw[dX];refine hN _ _ #[p+1,x,sd,ct,_,rfl,rfl,(),?_,BA,D_];have R4:(10:Int)^(18:Int).toNat<=x:=R4;have e:(10:Int)^(18:Int).toNat=1000000000000000000:=by decide
      lia
     ·symm;rw[dX];refine hN _ _ #[p+1,b,_,ct,_,rfl,rfl,(),hb,B6 _ `c,p6 _ `c]
    ·symm;exact hN _ _ #[p,b,sd,ct,none,rfl,(rB hf).symm,hp,hb,BA,D_]
   ·symm;exact hN _ _ #[p,b,sd,ct,none,rfl,(rB hf).symm,hp,hb,BA,D_]
  ·rintro δ' M' ⟨p,b,sd,ct,v,rfl,rfl,hp,hb,BA,D_⟩;symm;refine aL (λ R6=>?_) (λ R6=>?_)
   ·symm;rw[dX];refine au (k _ _ (B6 _ ()) (p6 _ BC) #[ns,p,_,sd,ct,ab,ak dQ>=hc,dQ,hp,Int.ediv_nonneg hb (),BA,D_])
   ·symm;refine pB (Sz ?_ ?_) ?_
    ·have:=B6 ((sd*48271+12820163+(ct+1))%2147483647) (show(65521:Int)≠0 by decide);lia
    ·have:=p6 ((sd*48271+12820163+(ct+1))%2147483647) (show(0:Int)<65521 by decide);lia
    symm;rw[dX,dX];exact au (k _ _ (B6 _ ()) (p6 _ BC) #[ns,p,b,_,_,ab,ak dQ>=hc,dQ,hp,hb,B6 _ `c,p6 _ `c])
def LY(F:jO K "_law_flow" "_law_flow" (top 16) f fd)(T:kb K mg):bS P w K mg base eQ 1 f fd ["_law_script"] (cI K Ak):=by
 refine mX F ["_law_script"] (λ dF A outer s H E ds M Q nd hr h=>?_)
 ·let#[ns,rfl,k]:=h;refine#[_,(aj (aO (cB (bF (bM Jg T.list (aS `u)) (bF ag (bF ag (bF ag (bF ag cD)))))))),?_];symm;refine Gh λ c sj=>?_;symm;refine#[small (by show 5<=10000;decide),λ fl W0=>?_];have dQ:c≠fl:=λ z=>by subst z;rw[ab]at W0;cases W0
  exact au (k fl c _ #[ns,0,0,1,0,ab,ak dQ>=ab,dQ,by decide,by decide,by decide,by decide] (sw.new (sw.new sw.rfl sj _) W0 _))
def Q9(F:jO K "_law_alike" "_law_alike" (top 19) f fd)(T:kb K mg)(Y7:mg "_law_alike">`C)(R6:Binds K fd ["_law_found","_law_due"] []):∀k,bS P w K mg base eQ (k+1) f fd ["_law_found","_law_due"] (cI K (FH k)):=by
 intro k
 induction k with
 |zero=>exact BI Kg
 |succ k ih=>
 have jh:=fI.of F ih Y7 R6;rw[show k+1+1=k+1+1 by lia];clear ih;refine mX F ["_law_found","_law_due"] (λ dF A outer s H E ds M Q nd hr h=>?_)
 ·let#[x,y,rfl,hs,k]:=h;refine⟨_,(aa (cG (aK Hd `A EX)
 (aj (aO (gx Hd `u EX)))
 bg)
 (aa (cG (EM (oC (ax (iB T.uh) T.isinstance (cT `A (mU (n:="bool") T.bool)))) (xQ (oC (ax (iB T.uh) T.isinstance (cT `u (mU (n:="bool") T.bool)))))).pt
 (aj (aO (w_and (ax (iB T.uh) T.isinstance (cT `A (mU (n:="bool") T.bool))) (w_and (ax (iB T.uh) T.isinstance (cT `u (mU (n:="bool") T.bool))) (vk (gx `L `u `A))))))
 bg)
 (aa (cG (oC (ax (iB T.OB) T.isinstance (cT `A (mU (n:="int") T.int))))
 (aj (aO (w_and (ax (iB T.OB) T.isinstance (cT `u (mU (n:="int") T.int))) (vk (gx `L `u `A)))))
 bg)
 (aa (cG (oC (ax (iB T.OA) T.isinstance (cT `A (mU (n:="str") T.str))))
 (aj (aO (w_and (ax (iB T.OA) T.isinstance (cT `u (mU (n:="str") T.str))) (vk (gx `L `u `A)))))
 bg)
 (aa (cG (EM (aK (AO hr.units) (ax (iB T.By) T.isinstance (cT `A (mU (n:="tuple") T.tuple))) (ax (iB T.By) T.isinstance (cT `u (mU (n:="tuple") T.tuple)))) (xQ (aK (AO hr.units) (ax (iB T.HY) T.isinstance (cT `A (mU (n:="list") T.list))) (ax (iB T.HY) T.isinstance (cT `u (mU (n:="list") T.list)))))).pt
 (aj (aO O8))
 bg)
 (aj (aO (w_and (gx `L (ax bT T.len (aS `u)) (ax bT T.len (aS `A))) (vk (EV (OU rfl) zW T.all (lT [0,1] (aV T.range (aS (ax bT T.len (aS `A)))) aQ (aN jh (cT (aI aG `A `u) (aI aG `N `u)))))))))))))),?_⟩
  rcases hs with⟨rfl,hx⟩|⟨ds,es,rfl,rfl,hl,hz,hs⟩|⟨p,q,ds,es,rfl,rfl,hp,hq,hl,hz,hs⟩
  ·cases x with
   |bf=>rfl';refine pC ?_;rfl';refine pC ?_;rfl';exact au k
   |bl b=>rfl';refine jD (by simp[oN]) ?_;rfl';refine bu (n:="bool") rfl (b:=true) `c ?_;rfl';refine bu (n:="bool") rfl (b:=true) `c ?_;rfl';refine bu (n:="bool") rfl (b:=true) `c ?_;rfl';rw[C9 (rfl:b=b)];exact au k
   |int i=>rfl';refine jD (by simp[oN]) ?_;rfl';refine bu (n:="int") rfl (b:=false) `c ?_;rfl';refine bu (n:="int") rfl (b:=false) `c ?_;rfl';refine bu (n:="int") rfl (b:=true) `c ?_;rfl';refine bu (n:="int") rfl (b:=true) `c ?_;rfl';rw[C9 (rfl:i=i)];exact au k
   |str z=>rfl';refine jD (by simp[oN]) ?_;rfl';refine bu (n:="str") rfl (b:=false) `c ?_;rfl';refine bu (n:="str") rfl (b:=false) `c ?_;rfl';refine bu (n:="str") rfl (b:=false) `c ?_;rfl';refine bu (n:="str") rfl (b:=true) `c ?_;rfl';refine bu (n:="str") rfl (b:=true) `c ?_;rfl';rw[C9 (rfl:z=z)];exact au k
   |_=>cases hx
  ·rfl';refine jD (by simp[oN]) ?_;rfl';refine bu (n:="tuple") rfl (b:=false) `c ?_;rfl';refine bu (n:="tuple") rfl (b:=false) `c ?_;rfl';refine bu (n:="tuple") rfl (b:=false) `c ?_;rfl';refine bu (n:="tuple") rfl (b:=false) `c ?_;rfl';refine bu (n:="tuple") rfl (b:=true) `c ?_;rfl';refine bu (n:="tuple") rfl (b:=true) `c ?_;rfl';refine nM (λ h=>bi rfl h) (λ _=>?_);rfl';refine bu (n:="tuple") rfl (b:=false) `c ?_;rfl';refine bu (n:="tuple") rfl (b:=false) `c ?_;rfl';refine nM (λ h=>bi rfl h) (λ _=>?_);rfl';rw[hl];refine aL (λ _=>?_) (λ hl=>bi rfl hl);rfl';refine#[cw () (),?_];rw[x3];refine mI (λ i jp M'=>M'=M/\jp=(List.replicate i true).map D.bl) #[rfl,rfl] (λ i jp M' hi h=>?_) (λ i d jp M' hd h=>?_) (λ jp M' h=>?_)
   ·let#[_,rfl]:=h;rw[bc]at hi;simp only[C1,k5];exact small ()
   ·let#[rfl,rfl]:=h;let#[hi,rfl]:=dC hd;rfl';refine bo (oq ()) ?_;rfl';refine bo (oq hi) ?_;refine#[_,_,rfl,hs i _ _ (i5 ()) (i5 hi),rfl,?_];rw[replicate_succ',C4];rfl
   ·let#[rfl,rfl]:=h;unfold w_;rw[lM];show fin2 Q (.bl ((List.replicate _ true).all id)) _;rw[ou];exact au k
  ·have tp:oN M `j>"list":=by show(a_ M p).map (λ _=>"list")=_;unfold a_;rw[hp];rfl
   have tq:oN M (.ref q)>"list":=by show(a_ M q).map (λ _=>"list")=_;unfold a_;rw[hq];rfl
   rfl';refine jD (by rw[tq];simp) ?_;rfl';refine bu tq (b:=false) `c ?_;rfl';refine bu tp (b:=false) `c ?_;rfl';refine bu tq (b:=false) `c ?_;rfl';refine bu tq (b:=false) `c ?_;rfl';refine bu tq (b:=false) `c ?_;rfl';refine bu tp (b:=false) `c ?_;rfl';refine nM (λ h=>bi rfl h) (λ _=>?_);rfl';refine bu tq (b:=true) `c ?_;rfl';refine bu tp (b:=true) `c ?_;rfl';refine nM (λ h=>bi rfl h) (λ _=>?_);rfl';rw[hl];refine aL (λ _=>?_) (λ hl=>bi rfl hl);rfl';refine#[cw () (),?_];rw[x3];refine mI (λ i jp M'=>M'=M/\jp=(List.replicate i true).map D.bl) #[rfl,rfl] (λ i jp M' hi h=>?_) (λ i d jp M' hd h=>?_) (λ jp M' h=>?_)
   ·let#[_,rfl]:=h;rw[bc]at hi;simp only[C1,k5];exact small ()
   ·let#[rfl,rfl]:=h;let#[hi,rfl]:=dC hd;rfl';refine b_ hp (oq ()) ?_;rfl';refine b_ hq (oq hi) ?_;refine#[_,_,rfl,hs i _ _ (i5 ()) (i5 hi),rfl,?_];rw[replicate_succ',C4];rfl
   ·let#[rfl,rfl]:=h;unfold w_;rw[lM];show fin2 Q (.bl ((List.replicate _ true).all id)) _;rw[ou];exact au k
def Q7(F:jO K "_law_key" "_law_key" (top 31) f fd)(T:kb K mg):bS P w K mg base eQ 1 f fd ["_law_counts"] (cI K Fy):=by
 refine mX F ["_law_counts"] (λ dF A outer s H E ds M Q nd hr h=>?_)
 ·let#[as,rfl,hz,k]:=h;refine#[_,(aj (aO (de (cT (ax (V7 rfl) T.sum (aS `u)) (dU aZ bP T.tuple (lT [] (ck `u) aQ (bH AN ag `u))))))),?_];symm;refine KC ?_;symm;refine mI (λ i jp M'=>M'=M/\jp=((as.map λ a=>0-a).take i).map D.int) #[rfl,by simp] (λ i jp M' hi h=>?_) (λ i d jp M' hd h=>?_) (λ jp M' h=>?_)
  ·let#[_,rfl]:=h;rw[C1,A3];rw[C1]at hi;exact small ()
  ·let#[rfl,rfl]:=h;rw[w6]at hd;cases e:as[i]? with
   |none=>rw[e]at hd;cases hd
   |some a=>rw[e]at hd;cases hd;symm;refine#[rfl,?_];rw[take_snoc (a:=0-a) (by simp[e]),C4];rfl
  ·let#[rfl,rfl]:=h;symm;refine#[by show 2<=sizeLine;decide,au ?_];have e:(as.map λ a=>0-a).take (as.map D.int).length=as.map λ a=>0-a:=C1>=j2 `g
   rw[e];exact k
def FC:fM:=λ ds M Q=>∃(v lo w:Nat),ds=[.int v,.int lo,.int w]/\0<w/\Q (.int (cnt v lo w)) M
def Ae(B H:Nat):fM:=λ ds M Q=>∃(f c:be),ds=[.ref f]/\Flow M f c/\∀(m h:Nat)(io:List Row)(ls:Row)(M':Mem),cj m h io->m<=B->h<=H->gr m ls->Fl f c M M'->Q (bt io ls) M'
def Q8(F:jO K "_law_counted" "_law_counted" (top 23) f fd)(T:kb K mg):bS P w K mg base eQ 1 f fd ["_law_value","_law_low","_law_wide"] (cI K FC):=by
 refine mX F ["_law_value","_law_low","_law_wide"] (λ dF A outer s H E ds M Q nd hr h=>?_)
 ·let#[v,lo,w,rfl,hw,k]:=h;refine⟨_,(aa (cG (aK mi `u (bH bB `A `N))
 (aj (aO `u))
 bg)
 (aj (aO (bH bB `A (bH lr (bH AN `u `A) `N))))),?_⟩
  rfl';refine aL (λ hl=>?_) (λ hl=>?_)
  ·rfl';unfold cnt at k;rw[L1 ()]at k;exact au k
  ·have OD:(0:Int)<w:=()
   rfl';unfold cnt at k;rw[L7 ()]at k;rw[show(lo:Int)+((v:Int)-(lo:Int))%(w:Int)=((lo+(v-lo)%w:Nat):Int) by
    rw[Int.natCast_add,Int.natCast_emod,Int.natCast_sub ()]]
   exact au k
def LU(F:jO K "_law_long_table" "_law_long_table" (top 25) f fd)(T:kb K mg)(aA:cY P w K mg base 1 "_law_pick" ["_law_flow_here","_law_many"] lZ)(gp:cY P w K mg base 1 "_law_counted" ["_law_value","_law_low","_law_wide"] FC):bS P w K mg base eQ 2 f fd ["_law_flow_here"] (cI K (Ae 19 2)):=by
 refine mX F ["_law_flow_here","_law_low","_law_wide","_law_weights","_law_states","_law_rows","_law_row","_law_weight","_law_then"] (λ dF A outer s H E ds M Q nd hr h=>?_)
 ·let#[f,cc,rfl,hF,k]:=h;refine⟨_,(aa (av 1 `K)
 (aa (av 2 (bH bB ag `K))
 (aa (cC 3 (lT [0] (aV T.range (aS (bH bB ag `K))) aQ (aN aA (cT `A ag))))
 (aa (av 4 (cB (aS ag)))
 (aa (av 5 (cB cD))
 (aa (eD (aK mi (ax bT T.len (aS (ai 5))) (ax bT T.len (aS (ai 4))))
 (aa (av 6 (cB cD))
 (aa (dS (ck (ai 3)) (bE 7)
 (aa (av 8 (aN gp (O1 (bH bB (aI aG (ai 4) (ax bT T.len (aS (ai 5)))) (ai 7)) `A `N)))
 (aa (cG (aK (gE hr.units) (ai 8) (ai 4))
 (aj (bL (dW i7 i4 i6 bC (ai 4) (aS (ai 8)))))
 bg)
 (aj (bL (dW i7 i4 i6 bC (ai 6) (aS (dW i7 PySem.F.slot_list_index PySem.F.type_list_index (fQ hr.units) (ai 4) (aS (ai 8))))))))))
 (aj (bL (dW i7 i4 i6 bC (ai 5) (aS (bM aZ T.tuple (aS (ai 6))))))))))
 (aj (aO (de (cT (bM aZ T.tuple (aS (ai 5))) (dU aZ bP T.tuple (lT [0] (aV T.range (aS (ax bT T.len (aS (ai 5))))) (jz (aK `L (aN aA (cT `A ag)) ag)) `u)))))))))))),?_⟩
  rfl';refine#[f,cc,10,rfl,hF,by decide,by decide,λ d1 o1 Tq VQ Ip=>?_];have F1:Fl f cc M _:=Fl.pick Ip;generalize af M f o1=M1 at*;obtain⟨lo,rfl⟩:∃n:Nat,d1=(n:Int):=#[d1.toNat,()];rfl';refine#[f,cc,10,rfl,F1.bw,by decide,by decide,λ d2 o2 ZF ZE Sa=>?_];have F2:=F1.trans (Fl.pick Sa);generalize af M1 f o2=M2 at*;obtain⟨w,ew⟩:∃n:Nat,1+d2=(n:Int):=#[(1+d2).toNat,()];rfl';rw[ew];refine#[f,cc,2,rfl,F2.bw,by decide,by decide,λ d3 o3 h30 h31 ZA=>?_];have F3:=F2.trans (Fl.pick ZA);generalize af M2 f o3=M3 at*;rfl';refine#[cw () (),?_];rw[bY];refine jk nD (λ ys M'=>Fl f cc M M'/\∀y∈ys,y<3) (by rw[x9];lia) #[F3,λ y h=>by cases h] (λ i x ys M' N hx hl hI hN=>?_) (λ ws M4 hl hI=>?_)
  ·rfl';refine#[f,cc,3,rfl,hI.1.bw,by decide,by decide,λ d o h0 h1 Ec=>?_];obtain⟨y,rfl⟩:∃n:Nat,d=(n:Int):=#[d.toNat,()];refine hN y _ #[hI.1.trans (Fl.pick Ec),λ z hz=>?_];rcases C3.mp hz with e|e
   ·exact hI.2 z e
   ·rw[q8.mp e];lia
  ·let#[F4,hw3]:=hI;rw[x9]at hl;intro qy yP;have F5:=F4.trans (Fl.put (o:=.lst (ws.map nD)) F4.bw yP);have OC:af M4 qy (.lst (ws.map nD)) qy>(.lst (ws.map nD)):=ab;generalize af M4 qy (.lst (ws.map nD))=M5 at*;rfl';intro p hp;rfl';intro q hq;have C:jP (λ _=>True) (-ws) (λ i s=>cnt (s+ws.getD i 0) lo w):=#[λ _ _ _ _=>True.intro,λ s i j _ _ _=>Cc ()];have hU:∀i s,cnt (s+ws.getD i 0) lo w∈List.range (lo+w):=λ i s=>ce.mpr (I_ ());have X0:Sx nD (λ i s=>cnt (s+ws.getD i 0) lo w) 0 (-ws) (List.range (lo+w)) p q [0] [] M5 (af (af M5 p (.lst [.int 0])) q `H):=by have jQ:p≠q:=aU (show af M5 p (.lst [.int 0]) p>_ from ab) hq;refine#[sw.new (sw.new sw.rfl hp _) hq _,hp,sw.free (sw.new sw.rfl hp _) hq,jQ,?_,ab,kH.start (ce.mpr ()),by simp];rw[ak jQ,ab];rfl
   generalize af (af M5 p (.lst [.int 0])) q `H=M6 at*;have hUl:(List.range (lo+w)).length<=19:=by rw[x9];lia
   generalize List.range (lo+w)=U at*;rfl';refine eG #[λ m δ M'=>∃(v6 v7 v8:Option D)(aB:List Nat)(io:List Row),δ=[some `C,some (.int lo),some (.int w),some (.ref qy),some `j,some (.ref q),v6,v7,v8]/\Sx nD (λ i s=>cnt (s+ws.getD i 0) lo w) 0 (-ws) U p q aB io M5 M'/\m=20-io.length,#[_,none,none,none,[0],[],rfl,X0,rfl],?_];rintro m δ M' ⟨v6,v7,v8,aB,io,rfl,X,rfl⟩;have gL:=X.bZ;have DY:=X.st;have qB:=X.iT;rfl';rw[C1,C1];refine aL (λ gm=>?_) (λ MV=>?_)
   ·obtain⟨s,hs⟩:∃s,aB[-io]?>s:=#[_,i5 ()];refine#[λ δ' lW=>∃(v6 v7 v8:Option D)(aB:List Nat)(r:Row),δ'=[some `C,some (.int lo),some (.int w),some (.ref qy),some `j,some (.ref q),v6,v7,v8]/\Sx nD (λ i s=>cnt (s+ws.getD i 0) lo w) 0 (-ws) U p q aB (io++[r]) M5 lW,?_,?_]
    ·rintro δ' lW ⟨v6,v7,v8,aB,r,rfl,X⟩;exact#[_,by rw[p4,j9];lia,v6,v7,v8,aB,_,rfl,X,rfl]
    ·rfl';intro pw Ib;have fw:=X.free Ib;have X1:=X.new Ib `H;have RK:af M' pw `H pw>(.lst (([]:Row).map D.int)):=ab;generalize af M' pw `H=M7 at*;have acD:=X1.ext _ _ OC;rfl';refine BL (ds:=ws.map nD) (λ i δ M8=>∃(v7 v8:Option D)(aB:List Nat)(r:Row),δ=[some `C,some (.int lo),some (.int w),some (.ref qy),some `j,some (.ref q),some (.ref pw),v7,v8]/\Sx nD (λ i s=>cnt (s+ws.getD i 0) lo w) 0 (-ws) U p q aB io M5 M8/\M8 pw>(.lst (r.map D.int))/\bW (λ i s=>cnt (s+ws.getD i 0) lo w) aB s i r/\aB[-io]?>s) #[v7,v8,aB,[],rfl,X1,RK,bW.nil _ _ _,hs] (λ i δ M8 _ h=>?_) (λ i d δ M8 hd h=>?_) (λ δ M8 h=>?_)
     ·let#[_,_,_,_,_,X,_]:=h;exact X.ext _ _ OC
     ·let#[v7,v8,aB,r,rfl,X,hw,hr,hs]:=h;rw[w6]at hd;let#[y,hy,rfl]:=ca.mp hd;have JD:i< -ws:=(g9.mp hy).1;have ey:ws.getD i 0=y:=by rw[b8,hy];rfl
      have DY:=X.st;have qB:=X.iT;rfl';rw[C1];refine b_ X.st (d:=.int s) (bx (by rw[w6,hs];rfl)) ?_;rfl';refine#[s+y,lo,w,rfl,(),eC ?_];have Sd:(0:Nat)<=60:=by decide
      have RL:-U<=300:=()
      have yS:-ws<=12:=()
      with_reducible refine nJ cg Sd X RL yS fw hw hr hs JD (hU i s) ?_ ?_ ?_ (λ gY r' M' X' OD Ia fT=>?_)
      ·show some (some (D.int (cnt (s+y) lo w:Nat)))>(some (nD (cnt (s+ws.getD i 0) lo w)));rw[ey]
      ·rfl
      ·rfl
      ·exact#[_,_,gY,r',rfl,X',OD,Ia,fT]
     ·let#[v7,v8,aB,r,rfl,X,hw,hr,hs]:=h;rw[C1]at hr;have gL:=X.bZ;have qB:=X.iT;rfl';refine#[#[rfl,_,qB],?_];rfl';refine bX hw ?_;rfl';refine fu qB (C1>=p8 (show -io<=300 by lia) `c) ?_;exact#[_,_,_,aB,r,rfl,X.next hs hr]
   ·have el:-io=-aB:=by have:=X.le;lia
    have TG:=X.ex.tb C True.intro el () ();have F6:=F5.trans (mB X.ext F5.bw);have h19:-io<=19:=()
    rfl';refine bX qB ?_;rfl';rw[C1];refine#[cw () (),?_];rw[x3];refine mI (λ i jp M7=>∃ls:Row,jp=ls.map D.int/\gr i ls/\Fl f cc M M7) #[[],rfl,gr.nil 0,F6] (λ i jp M7 hi h=>?_) (λ i d jp M7 hd h=>?_) (λ jp M7 h=>?_)
    ·let#[ls,rfl,L,_]:=h;rw[bc]at hi;have:=L.bZ;rw[C1];exact small ()
    ·let#[ls,rfl,L,F7]:=h;let#[hi,rfl]:=dC hd;rfl';refine#[f,cc,4,rfl,F7.bw,by decide,by decide,λ d o _ _ Ec=>?_];have F8:=F7.trans (Fl.pick Ec);generalize af M7 f o=M8 at*;rfl';refine aL (λ _=>?_) (λ _=>?_)
     ·rfl';exact#[ls++[(i:Int)],by rw[C4,G1];rfl,L.add,F8]
     ·exact#[ls,rfl,L.up,F8]
    ·let#[ls,rfl,L,F7]:=h;rw[bc]at L;rfl';exact au (k _ _ io ls _ TG h19 () L F7)
def FF:fM:=λ ds M Q=>∃(f c:be)(n:Nat),ds=[.ref f,.int n]/\Flow M f c/\n<=6/\∀(m:Nat)(io:List Row)(ls:Row)(M':Mem),cj m n io->m<=16->gr m ls->Fl f c M M'->Q (bt io ls) M'
def L'(F:jO K "_law_any_table" "_law_any_table" (top 24) f fd)(T:kb K mg)(aA:cY P w K mg base 1 "_law_pick" ["_law_flow_here","_law_many"] lZ)(gp:cY P w K mg base 1 "_law_counted" ["_law_value","_law_low","_law_wide"] FC):bS P w K mg base eQ 2 f fd ["_law_flow_here","_law_many"] (cI K FF):=by
 refine mX F ["_law_flow_here","_law_many","_law_counters","_law_weights","_law_states","_law_rows","_law_row","_law_h","_law_trios","_law_then"] (λ dF A outer s H E ds M Q nd hr h=>?_)
 ·let#[f,cc,n,rfl,hF,hn,k]:=h;refine⟨_,(aa (av 2 (cB (aS (de (cT `K (bH bB ag `K))))))
 (aa (cG (aK `L `K ag)
 (aj (av 2 (f_ (lT [0] (aV T.range (aS ag)) aQ (de (cT (aN aA (cT `A ag)) (bH bB ag (aN aA (cT `A ag)))))))))
 bg)
 (aa (cC 3 (lT [2,0] (aV T.range (aS `A)) aQ (f_ (lT [2] (ck `A) aQ (aN aA (cT `A ag))))))
 (aa (av 4 (cB (aS (bH kg (de (aS ag)) (ax bT T.len (aS `N))))))
 (aa (av 5 (cB cD))
 (aa (eD (aK mi (ax bT T.len (aS (ai 5))) (ax bT T.len (aS (ai 4))))
 (aa (av 6 (cB cD))
 (aa (dS (aV T.range (aS `A)) (bE 7)
 (aa (av 8 (O5 rfl (by rfl) T.list (by rfl) T.zip (O1 (aI aG (ai 4) (ax bT T.len (aS (ai 5)))) (aI aG (ai 3) (ai 7)) `N)))
 (aa (av 9 (dU aZ bP T.tuple (wc3 [] (ck (ai 8)) aQ (aN gp (O1 (bH bB `u `A) (aI aG `N ag) (aI aG `N ag))))))
 (aa (cG (aK (gE hr.units) (ai 9) (ai 4))
 (aj (bL (dW i7 i4 i6 bC (ai 4) (aS (ai 9)))))
 bg)
 (aj (bL (dW i7 i4 i6 bC (ai 6) (aS (dW i7 PySem.F.slot_list_index PySem.F.type_list_index (fQ hr.units) (ai 4) (aS (ai 9)))))))))))
 (aj (bL (dW i7 i4 i6 bC (ai 5) (aS (bM aZ T.tuple (aS (ai 6))))))))))
 (aj (aO (de (cT (bM aZ T.tuple (aS (ai 5))) (dU aZ bP T.tuple (lT [0] (aV T.range (aS (ax bT T.len (aS (ai 5))))) (jz (aK `L (aN aA (cT `A ag)) ag)) `u)))))))))))),?_⟩
  refine iY (λ δ' M'=>∃(pc:be)(cs:List (Nat×Nat)),δ'=[some `C,some (.int n),some (.ref pc),none,none,none,none,none,none,none]/\mS cs/\M' pc>(.lst (cs.map pD))/\pc≠f/\Fl f cc M M') (λ N hN=>?_) ?_
  ·rfl';refine#[f,cc,4,rfl,hF,by decide,by decide,λ d1 o1 Tq VQ Ip=>?_];have F1:Fl f cc M _:=Fl.pick Ip;generalize af M f o1=M1 at*;rfl';refine#[f,cc,4,rfl,F1.bw,by decide,by decide,λ d2 o2 ZF ZE Sa=>?_];have F2:=F1.trans (Fl.pick Sa);generalize af M1 f o2=M2 at*;rfl';intro p hp;refine hN _ _ #[p,[(d1.toNat,(1+d2).toNat)],rfl,.inl #[_,_,rfl,(),(),()],?_,(F2.bw.ne hp).1,F2.trans (Fl.put F2.bw hp)];rw[ab];show _>MO.lst [.tup [.int (d1.toNat:Int),.int ((1+d2).toNat:Int)]];rw[show((d1.toNat:Nat):Int)=d1 by lia,show(((1+d2).toNat:Nat):Int)=1+d2 by lia]
  rintro δ' M' ⟨pc,cs,rfl,hc,uj,dQ,F2⟩;refine iY (λ δ' M'=>∃(pc:be)(cs:List (Nat×Nat)),δ'=[some `C,some (.int n),some (.ref pc),none,none,none,none,none,none,none]/\mS cs/\M' pc>(.lst (cs.map pD))/\pc≠f/\Fl f cc M M') (λ N hN=>?_) ?_
  ·rfl';refine#[f,cc,2,rfl,F2.bw,by decide,by decide,λ d1 o1 Tq VQ Ip=>?_];have P1:=Fl.pick Ip;have F3:=F2.trans P1;have uj:=P1.mv _ _ dQ uj;generalize af M' f o1=M3 at*;rfl';refine aL (λ _=>?_) (λ _=>?_)
   ·rfl';refine#[cw () (),?_];rw[bY];refine jk pD (λ ys M'=>Fl f cc M M'/\∀y∈ys,y.1<=2/\1<=y.2/\y.2<=2) `c #[F3,λ y h=>by cases h] (λ i x ys M' N hx hl hI hN=>?_) (λ cs M4 hl hI=>?_)
    ·rfl';refine#[f,cc,3,rfl,hI.1.bw,by decide,by decide,λ d1 o1 Tq VQ Ip=>?_];have F4:=hI.1.trans (Fl.pick Ip);generalize af M' f o1=M5 at*;rfl';refine#[f,cc,2,rfl,F4.bw,by decide,by decide,λ d2 o2 ZF ZE Sa=>?_];have F5:=F4.trans (Fl.pick Sa);generalize af M5 f o2=M6 at*;rfl';have:=hN (d1.toNat,(1+d2).toNat) M6 #[F5,λ y hy=>?_]
     ·unfold pD at this;dsimp only at this;rw[show((d1.toNat:Nat):Int)=d1 by lia,show(((1+d2).toNat:Nat):Int)=1+d2 by lia]at this;exact this
     ·rcases C3.mp hy with e|e
      ·exact hI.2 y e
      ·rw[q8.mp e];dsimp only;lia
    ·let#[F4,h4]:=hI;intro p hp;rfl';have hl:-cs=2:=hl;obtain⟨a,b,rfl⟩:∃a b,cs=[a,b]:=by
      match cs,hl with
      |[a,b],_=>exact#[a,b,rfl]
     have ha:=h4 a `g;have hb:=h4 b `g;exact hN _ _ #[p,[a,b],rfl,.inr #[_,_,_,_,rfl,ha.1,ha.2.1,ha.2.2,hb.1,hb.2.1,hb.2.2],ab,(F4.bw.ne hp).1,F4.trans (Fl.put F4.bw hp)]
   ·rfl';exact hN _ _ #[pc,cs,rfl,hc,uj,dQ,F3]
  clear uj dQ F2 hc M' pc cs;rintro δ' M1 ⟨pc,cs,rfl,hc,uj,dQ,F1⟩;have hbx:=hc.box;rfl';refine#[cw () (),?_];rw[x3,bY];refine jk (β:=be×Cs) (λ y=>.ref y.1) (λ ys M'=>Fl f cc M M'/\M' pc>(.lst (cs.map pD))/\∀y∈ys,y.1≠f/\M' y.1>(.lst (y.2.map nD))/\y.2.length=-cs) (by rw[x9];lia) #[F1,uj,λ y h=>by cases h] (λ i x ys M' N hx hl hI hN=>?_) (λ ys M4 hl hI=>?_)
  ·let#[F2,uj,xD]:=hI;rfl';refine qm pD nD (λ zs M'=>Fl f cc M M'/\M' pc>(.lst (cs.map pD))/\∀y∈ys,y.1≠f/\M' y.1>(.lst (y.2.map nD))/\y.2.length=-cs) () #[F2,uj,xD] (λ _ _ h=>h.2.1) (λ i x zs M' N hx hl hI hN=>?_) (λ zs M4 hl hI=>?_)
   ·let#[F3,uj,xD]:=hI;rfl';refine#[f,cc,3,rfl,F3.bw,by decide,by decide,λ d o h0 h1 Ec=>?_];have P:=Fl.pick Ec;have:=hN d.toNat _ #[F3.trans P,P.mv _ _ dQ uj,λ y hy=>#[(xD y hy).1,P.mv _ _ (xD y hy).1 (xD y hy).2.1,(xD y hy).2.2]];unfold nD at this;rw[show((d.toNat:Nat):Int)=d by lia]at this;exact this
   ·let#[F3,uj,xD]:=hI;intro p hp;refine hN (p,zs) _ #[F3.trans (Fl.put F3.bw hp),ak (aU uj hp)>=uj,λ y hy=>?_];rcases C3.mp hy with e|e
    ·have:=xD y e;exact#[this.1,ak (aU this.2.1 hp)>=this.2.1,this.2.2]
    ·rw[q8.mp e];exact#[(F3.bw.ne hp).1,ab,hl]
  ·let#[F4,uj,xD]:=hI;rw[x9]at hl;intro qy yP;have F5:=F4.trans (Fl.put (o:=.lst (ys.map λ y=>.ref y.1)) F4.bw yP);have uj:af M4 qy (.lst (ys.map λ y=>.ref y.1)) pc>(.lst (cs.map pD)):=ak (aU uj yP)>=uj
   have xD:∀y∈ys,af M4 qy (.lst (ys.map λ y=>.ref y.1)) y.1>(.lst (y.2.map nD))/\y.2.length=-cs:=λ y hy=>#[by rw[ak (aU (xD y hy).2.1 yP)];exact(xD y hy).2.1,(xD y hy).2.2];have OC:af M4 qy (.lst (ys.map λ y=>.ref y.1)) qy>(.lst (ys.map λ y=>.ref y.1)):=ab;generalize af M4 qy (.lst (ys.map λ y=>.ref y.1))=M5 at*;have el:(ys.map (·.2)).length=n:=C1>=hl
   have C:=hc.di (ws:=ys.map (·.2)) λ w hw=>by let#[y,hy,rfl]:=G7.mp hw;exact(xD y hy).2
   rw[el]at C;have hz:gs (-cs)∈uM cs:=zM hc.pos;have hU:∀i s,i<n->-s=-cs->stC cs ((ys.map (·.2)).getD i []) s∈uM cs:=λ i s hi hs=>Ab hc.pos (by rw[b8,w6,i5 ()];exact(xD _ (A4 _)).2) hs;generalize hFe:(λ i s=>stC cs ((ys.map (·.2)).getD i []) s)=F at C;rfl';rw[C1];refine vI () () ?_;rw[x3];rfl';intro p hp;rfl';intro q hq;have X0:Sx eY F (gs (-cs)) n (uM cs) p q [gs (-cs)] [] M5 (af (af M5 p (.lst [.tup (List.replicate (-cs) (.int 0))])) q `H):=by have jQ:p≠q:=aU (show af M5 p (.lst [.tup (List.replicate (-cs) (.int 0))]) p>_ from ab) hq;refine#[sw.new (sw.new sw.rfl hp _) hq _,hp,sw.free (sw.new sw.rfl hp _) hq,jQ,?_,ab,kH.start hz,by simp];rw[ak jQ,ab];show _>MO.lst [eY (gs (-cs))];unfold eY gs;rw[map_replicate];rfl
   generalize af (af M5 p (.lst [.tup (List.replicate (-cs) (.int 0))])) q `H=M6 at*;rfl';refine eG #[λ m δ M'=>∃(v6 v7 v8 v9:Option D)(aB:List Cs)(io:List Row),δ=[some `C,some (.int n),some (.ref pc),some (.ref qy),some `j,some (.ref q),v6,v7,v8,v9]/\Sx eY F (gs (-cs)) n (uM cs) p q aB io M5 M'/\m=20-io.length,#[_,none,none,none,none,_,[],rfl,X0,rfl],?_];rintro m δ M' ⟨v6,v7,v8,v9,aB,io,rfl,X,rfl⟩;have gL:=X.bZ;have DY:=X.st;have qB:=X.iT;rfl';rw[C1,C1];refine aL (λ gm=>?_) (λ MV=>?_)
   ·obtain⟨s,hs⟩:∃s,aB[-io]?>s:=#[_,i5 ()];have Te:-s=-cs:=(X.ex.rW s (k9 hs)).ok C (by simp[gs]);refine#[λ δ' lW=>∃(v6 v7 v8 v9:Option D)(aB:List Cs)(r:Row),δ'=[some `C,some (.int n),some (.ref pc),some (.ref qy),some `j,some (.ref q),v6,v7,v8,v9]/\Sx eY F (gs (-cs)) n (uM cs) p q aB (io++[r]) M5 lW,?_,?_]
    ·rintro δ' lW ⟨v6,v7,v8,v9,aB,r,rfl,X⟩;exact#[_,by rw[p4,j9];lia,v6,v7,v8,v9,aB,_,rfl,X,rfl]
    ·rfl';intro pw Ib;have fw:=X.free Ib;have X1:=X.new Ib `H;have RK:af M' pw `H pw>(.lst (([]:Row).map D.int)):=ab;generalize af M' pw `H=M7 at*;rfl';refine#[cw () (),?_];rw[x3];refine jf (λ i δ M8=>∃(v7 v8 v9:Option D)(aB:List Cs)(r:Row),δ=[some `C,some (.int n),some (.ref pc),some (.ref qy),some `j,some (.ref q),some (.ref pw),v7,v8,v9]/\Sx eY F (gs (-cs)) n (uM cs) p q aB io M5 M8/\M8 pw>(.lst (r.map D.int))/\bW F aB s i r/\aB[-io]?>s) #[v7,v8,v9,aB,[],rfl,X1,RK,bW.nil _ _ _,hs] (λ i d δ M8 hd h=>?_) (λ δ M8 h=>?_)
     ·let#[v7,v8,v9,aB,r,rfl,X,hw,hr,hs]:=h;let#[hi,rfl]:=dC hd;obtain⟨y,hy⟩:∃y,ys[i]?>y:=#[_,i5 ()];have DX:=xD y (k9 hy);have eF:F i s=stC cs y.2 s:=by rw[<- hFe];show stC cs ((ys.map (·.2)).getD i []) s=_;rw[b8,w6,hy];rfl
      have VJ:F i s∈uM cs:=by rw[<- hFe];exact hU i s hi Te
      have tz:=zT (ws:=y.2) (s:=s) DX.2 Te;have DY:=X.st;have qB:=X.iT;rfl';rw[C1];refine b_ X.st (d:=eY s) (bx (by rw[w6,hs];rfl)) ?_;rfl';refine b_ (X.ext _ _ OC) (d:=.ref y.1) (G1>=bx (by rw[w6,hy];rfl)) ?_;rfl';refine#[eY s,.ref y.1,.ref pc,s.map nD,y.2.map nD,cs.map pD,-cs,rfl,rfl,cJ (X.ext _ _ DX.1),cJ (X.ext _ _ uj),C1>=Te,C1>=DX.2,by rw[C1],(),(),λ pt Ic=>?_];rw[tz.1];have hw:af M8 pt (.lst ((xT cs y.2 s).map Fd)) pw>(.lst (r.map D.int)):=ak (aU hw Ic)>=hw
      have X:=X.new Ic (.lst ((xT cs y.2 s).map Fd));have ht:af M8 pt (.lst ((xT cs y.2 s).map Fd)) pt>(.lst ((xT cs y.2 s).map Fd)):=ab;generalize af M8 pt (.lst ((xT cs y.2 s).map Fd))=M9 at*;rfl';have htl:=zV (cs:=cs) (ws:=y.2) (s:=s);refine eB Fd (λ t=>nD (cnt (t.1+t.2.1) t.2.2.1 t.2.2.2)) () ht (λ j t N hj hN=>?_) ?_
      ·let#[a,b,lo,w]:=t;have hm:=hc.pos _ (zU (k9 hj));unfold Fd pD;rfl';exact#[a+b,lo,w,rfl,hm,hN]
      ·have e9:(xT cs y.2 s).map (λ t=>nD (cnt (t.1+t.2.1) t.2.2.1 t.2.2.2))=(F i s).map nD:=by rw[eF,tz.2,G8];rfl
       rw[e9];refine eC ?_;have Sd:(1:Nat)<=60:=by decide
       have RL:(uM cs).length<=300:=()
       have yS:n<=12:=()
       with_reducible refine nJ Nj Sd X RL yS fw hw hr hs hi VJ ?_ ?_ ?_ (λ gY r' M' X' OD Ia fT=>?_)
       ·rfl
       ·rfl
       ·rfl
       ·exact#[_,_,_,gY,r',rfl,X',OD,Ia,fT]
     ·let#[v7,v8,v9,aB,r,rfl,X,hw,hr,hs]:=h;rw[bc]at hr;have gL:=X.bZ;have qB:=X.iT;rfl';refine#[#[rfl,_,qB],?_];rfl';refine bX hw ?_;rfl';refine fu qB (C1>=p8 (show -io<=300 by lia) `c) ?_;exact#[_,_,_,_,aB,r,rfl,X.next hs hr]
   ·have el:-io=-aB:=by have:=X.le;lia
    have TG:=X.ex.tb C (by simp[gs]) el () ();have F6:=F5.trans (mB X.ext F5.bw);have h16:-io<=16:=()
    rfl';refine bX qB ?_;rfl';rw[C1];refine#[cw () (),?_];rw[x3];refine mI (λ i jp M7=>∃ls:Row,jp=ls.map D.int/\gr i ls/\Fl f cc M M7) #[[],rfl,gr.nil 0,F6] (λ i jp M7 hi h=>?_) (λ i d jp M7 hd h=>?_) (λ jp M7 h=>?_)
    ·let#[ls,rfl,L,_]:=h;rw[bc]at hi;have:=L.bZ;rw[C1];exact small ()
    ·let#[ls,rfl,L,F7]:=h;let#[hi,rfl]:=dC hd;rfl';refine#[f,cc,2,rfl,F7.bw,by decide,by decide,λ d o _ _ Ec=>?_];have F8:=F7.trans (Fl.pick Ec);generalize af M7 f o=M8 at*;rfl';refine aL (λ _=>?_) (λ _=>?_)
     ·rfl';exact#[ls++[(i:Int)],by rw[C4,G1];rfl,L.add,F8]
     ·exact#[ls,rfl,L.up,F8]
    ·let#[ls,rfl,L,F7]:=h;rw[bc]at L;rfl';exact au (k _ io ls _ TG h16 L F7)
def Ft:fM:=λ ds M Q=>∃(a:be)(sz:Cs)(l:Str),ds=[.ref a,.str l]/\M a>(.lst (sz.map nD))/\(∀x∈sz,x<5)/\-sz<=6/\∀(m:Nat)(io:List Row)(ls:Row)(M':Mem),cj m (-sz) io->m<=16->gr m ls->sw M M'->Q (bt io ls) M'
def LR(F:jO K "_law_nim_table" "_law_nim_table" (top 20) f fd)(T:kb K mg):bS P w K mg base eQ 1 f fd ["_law_sizes","_law_last"] (cI K Ft):=by
 refine mX F ["_law_sizes","_law_last","_law_states","_law_rows","_law_losing","_law_row","_law_size","_law_number","_law_great","_law_then"] (λ dF A outer s H E ds M Q nd hr h=>?_)
 ·let#[a,sz,l,rfl,ha,h5,h6,k]:=h;obtain⟨L,eL,hL⟩:∃L:Nat,(if decide (l=Str.ofString "loses")=true then(1:Int)else 0)=(L:Int)/\L<=1:=by
   by_cases z:l=Str.ofString "loses"
   ·exact#[1,by simp[z],()]
   ·exact#[0,by simp[z],()]
  have C:=Kc (h:=-sz) hL h5;have hz:((0,0):Nat×Nat)∈Ji:=AY.mpr #[by decide,by decide];have W5:-Ji=16:=by decide
  refine⟨_,(aa (av 2 (cB (aS (de (cT ag ag)))))
 (aa (av 3 (cB cD))
 (aa (eD (aK mi (ax bT T.len (aS (ai 3))) (ax bT T.len (aS `N)))
 (aa (fh (aI aG `N (ax bT T.len (aS (ai 3)))) (oD (n:=2) (dq (bE 7) (dq (bE 8) kM))))
 (aa (av 5 (cB cD))
 (aa (dS (ck `u) (bE 6)
 (aa (av 9 (de (cT (bH U2 (ai 7) (ai 6)) (bH kg (ax (V8 rfl) T.max (cT (ai 8) (bM qo T.int (aS (gx U6 (ai 6) ag))))) (bM qo T.int (aS (gx `L `A zQ)))))))
 (aa (cG (aK (gE hr.units) (ai 9) `N)
 (aj (bL (dW i7 i4 i6 bC `N (aS (ai 9)))))
 bg)
 (aj (bL (dW i7 i4 i6 bC (ai 5) (aS (dW i7 PySem.F.slot_list_index PySem.F.type_list_index (fQ hr.units) `N (aS (ai 9))))))))))
 (aj (bL (dW i7 i4 i6 bC (ai 3) (aS (bM aZ T.tuple (aS (ai 5)))))))))))
 (aa (cC 4 (TL [1] (gT T.enumerate (aS `N)) (jz (aK `L (aI aG `A ag) (bM qo T.int (aS (w_and (gx `L `N zQ) (vk (gx `L (aI aG `A ag) ag))))))) `u))
 (aj (aO (de (cT (bM aZ T.tuple (aS (ai 3))) (bM aZ T.tuple (aS (ai 4))))))))))),?_⟩
  rfl';intro p hp;rfl';intro q hq;have X0:Sx pD (stN L sz) (0,0) (-sz) Ji p q [(0,0)] [] M (af (af M p (.lst [.tup [.int 0,.int 0]])) q `H):=by have jQ:p≠q:=aU (show af M p (.lst [.tup [.int 0,.int 0]]) p>_ from ab) hq;refine#[sw.new (sw.new sw.rfl hp _) hq _,hp,sw.free (sw.new sw.rfl hp _) hq,jQ,?_,ab,kH.start hz,by simp];rw[ak jQ,ab];rfl
  generalize af (af M p (.lst [.tup [.int 0,.int 0]])) q `H=M6 at*;rfl';refine eG #[λ m δ M'=>∃(v5 v6 v7 v8 v9:Option D)(aB:List (Nat×Nat))(io:List Row),δ=[some `z,some (.str l),some `j,some (.ref q),none,v5,v6,v7,v8,v9]/\Sx pD (stN L sz) (0,0) (-sz) Ji p q aB io M M'/\m=20-io.length,#[_,none,none,none,none,none,_,[],rfl,X0,rfl],?_];rintro m δ M' ⟨v5,v6,v7,v8,v9,aB,io,rfl,X,rfl⟩;have gL:=X.bZ;rw[W5]at gL;have DY:=X.st;have qB:=X.iT;rfl';rw[C1,C1];refine aL (λ gm=>?_) (λ MV=>?_)
  ·obtain⟨s,hs⟩:∃s,aB[-io]?>s:=#[_,i5 ()];have MG:s∈Ji:=X.ex.sub s (k9 hs);refine#[λ δ' lW=>∃(v5 v6 v7 v8 v9:Option D)(aB:List (Nat×Nat))(r:Row),δ'=[some `z,some (.str l),some `j,some (.ref q),none,v5,v6,v7,v8,v9]/\Sx pD (stN L sz) (0,0) (-sz) Ji p q aB (io++[r]) M lW,?_,?_]
   ·rintro δ' lW ⟨v5,v6,v7,v8,v9,aB,r,rfl,X⟩;exact#[_,by rw[p4,j9];lia,v5,v6,v7,v8,v9,aB,_,rfl,X,rfl]
   ·rfl';rw[C1];refine b_ X.st (d:=.tup [.int (s.1:Int),.int (s.2:Int)]) (bx (by rw[w6,hs];rfl)) ?_;rfl';intro pw Ib;have fw:=X.free Ib;have X1:=X.new Ib `H;have RK:af M' pw `H pw>(.lst (([]:Row).map D.int)):=ab;generalize af M' pw `H=M7 at*;have ha7:=X1.ext _ _ ha;rfl';refine BL (ds:=sz.map nD) (λ i δ M8=>∃(v6 v9:Option D)(aB:List (Nat×Nat))(r:Row),δ=[some `z,some (.str l),some `j,some (.ref q),none,some (.ref pw),v6,some (.int (s.1:Int)),some (.int (s.2:Int)),v9]/\Sx pD (stN L sz) (0,0) (-sz) Ji p q aB io M M8/\M8 pw>(.lst (r.map D.int))/\bW (stN L sz) aB s i r/\aB[-io]?>s) #[v6,v9,aB,[],rfl,X1,RK,bW.nil _ _ _,hs] (λ i δ M8 _ h=>?_) (λ i d δ M8 hd h=>?_) (λ δ M8 h=>?_)
    ·let#[_,_,_,_,_,X,_]:=h;exact X.ext _ _ ha
    ·let#[v6,v9,aB,r,rfl,X,hw,hr,hs]:=h;rw[w6]at hd;let#[y,hy,rfl]:=ca.mp hd;have JD:i< -sz:=(g9.mp hy).1;have ey:sz.getD i 0=y:=by rw[b8,hy];rfl
     have e1:max (s.2:Int) (if decide (1<(y:Int))=true then 1 else 0)=((max s.2 (if 1<y then 1 else 0):Nat):Int):=by
      by_cases z:1<y
      ·rw[L1 z,L1 (by rw[bn];lia)];lia
      ·rw[L7 z,L7 (by rw[bn];lia)];lia
     rfl';rw[e1];rw[show(if decide (l="loses")=true then(1:Int)else 0)=(L:Int)from eL];have h0:((max s.2 (if 1<y then 1 else 0):Nat):Int)*(L:Int)=((max s.2 (if 1<y then 1 else 0)*L:Nat):Int):=by rw[Int.natCast_mul]
     refine pB (Jb () ()) ?_;rw[h0,zB];refine ke #[by show 2<=sizeLine;decide,eC ?_];have Sd:(1:Nat)<=60:=by decide
     have RL:-Ji<=300:=by rw[W5];decide
     have yS:-sz<=12:=()
     have VJ:=C.cl s i JD MG
     with_reducible refine nJ IJ Sd X RL yS fw hw hr hs JD VJ ?_ ?_ ?_ (λ gY r' M' X' OD Ia fT=>?_)
     ·show some (some (pD (s.1^^^y,max s.2 (if 1<y then 1 else 0)*L)))>(some (pD (stN L sz i s)));unfold stN;rw[ey]
     ·rfl
     ·rfl
     ·exact#[_,_,gY,r',rfl,X',OD,Ia,fT]
    ·let#[v6,v9,aB,r,rfl,X,hw,hr,hs]:=h;rw[C1]at hr;have gL:=X.bZ;rw[W5]at gL;have qB:=X.iT;rfl';refine#[#[rfl,_,qB],?_];rfl';refine bX hw ?_;rfl';refine fu qB (C1>=p8 (show -io<=300 by lia) `c) ?_;exact#[_,_,_,_,_,aB,r,rfl,X.next hs hr]
  ·have el:-io=-aB:=by have:=X.le;lia
   have TG:=X.ex.tb C hz el () ();rfl';refine uE (ds:=eK (aB.map pD)) (λ i jp M7=>M7=M'/\∃ls:Row,jp=ls.map D.int/\gr i ls) #[rfl,[],rfl,gr.nil 0] (λ i jp M7 _ h=>?_) (λ i jp M7 hi h=>?_) (λ i d jp M7 hd h=>?_) (λ jp M7 h=>?_)
   ·let#[rfl,_]:=h;show eO `j M7=_;unfold eO;rw[cJ DY];rfl
   ·let#[rfl,ls,rfl,L]:=h;rw[bR,C1]at hi;have:=L.bZ;rw[C1];exact small ()
   ·let#[rfl,ls,rfl,L]:=h;let#[hi,rfl]:=ib hd;rw[C1]at hi;obtain⟨x,hx⟩:∃x,aB[i]?>x:=#[_,i5 hi];rw[show(aB.map pD).getD i .bf=.tup [.int (x.1:Int),.int (x.2:Int)] by rw[b8,w6,hx];rfl];have y1:∃xB:Row,ls.map D.int++[.int (i:Int)]=xB.map D.int/\gr (i+1) xB:=#[ls++[(i:Int)],by rw[C4];rfl,L.add];have y2:∃xB:Row,ls.map D.int=xB.map D.int/\gr (i+1) xB:=#[ls,rfl,L.up];rfl';refine aL (λ _=>?_) (λ _=>?_)
    ·rfl';refine aL (λ _=>?_) (λ _=>?_)
     ·rfl';exact#[rfl,y1]
     ·exact#[rfl,y2]
    ·rfl';refine aL (λ _=>?_) (λ _=>?_)
     ·rfl';exact#[rfl,y1]
     ·exact#[rfl,y2]
   ·let#[rfl,ls,rfl,L]:=h;rw[bR,C1]at L;intro pl gR;rfl';refine bX (ak (aU qB gR)>=qB) ?_;rfl';refine bX ab ?_;rfl';exact au (k _ io ls _ TG () (el>=L) (X.ext.new gR _))
def sY:fM:=λ ds M Q=>∃(f c:be)(m h:Nat)(io:List Row)(ls:Row),ds=[.ref f,bt io ls]/\Flow M f c/\cj m h io/\m<=6/\h<=3/\(∀(m:Nat)(r2:List Row)(l2:Row)(M':Mem),cj m h r2->m<=18->gr m l2->OV h io ls r2 l2->Fl f c M M'->Q (bt r2 l2) M')
def Ku{h:Nat}(G:Tb m h io):iN (io.map row) 0>(.tup ((io.getD 0 []).map D.int))/\(io.getD 0 []).length=h:=by
 have h0:0< -io:=G.len>=G.pos
 rw[b8,i5 h0];exact#[bx (j:=0) (by rw[w6,i5 h0];rfl),(G.row _ (A4 h0)).1]
def Ha(F:jO K "_law_blown" "_law_blown" (top 21) f fd)(T:kb K mg)(aA:cY P w K mg base 1 "_law_pick" ["_law_flow_here","_law_many"] lZ):bS P w K mg base eQ 2 f fd ["_law_flow_here","_law_table_here"] (cI K sY):=by
 refine mX F ["_law_flow_here","_law_table_here","_law_many","_law_wide","_law_weights","_law_states","_law_rows","_law_row","_law_h","_law_thing","_law_count","_law_then"] (λ dF A outer s H E ds M Q nd hr h=>?_)
 ·let#[f,cc,m,h,fO,JY,rfl,hF,G,hm,hh,k]:=h;have H_:=Ku G.tb;have pX:bt fO JY=.tup [.tup (fO.map row),row JY]:=rfl;rw[pX];refine⟨_,(aa (av 2 (ax bT T.len (aS (aI aG (aI aG `A ag) ag))))
 (aa (av 3 (bH bB ag `K))
 (aa (cC 4 (lT [0,3] (aV T.range (aS `N)) aQ (aN aA (cT `A `N))))
 (aa (av 5 (cB (aS (de (cT ag ag)))))
 (aa (av 6 (cB cD))
 (aa (eD (aK mi (ax bT T.len (aS (ai 6))) (ax bT T.len (aS (ai 5))))
 (aa (fh (aI aG (ai 5) (ax bT T.len (aS (ai 6)))) (oD (n:=2) (dq (bE 9) (dq (bE 10) kM))))
 (aa (av 7 (cB cD))
 (aa (dS (aV T.range (aS `N)) (bE 8)
 (aa (av 11 (de (cT (aI aG (aI aG (aI aG `A ag) (ai 9)) (ai 8)) (bH lr (bH bB (ai 10) (aI aG (ai 4) (ai 8))) (ai 3)))))
 (aa (cG (aK (gE hr.units) (ai 11) (ai 5))
 (aj (bL (dW i7 i4 i6 bC (ai 5) (aS (ai 11)))))
 bg)
 (aj (bL (dW i7 i4 i6 bC (ai 7) (aS (dW i7 PySem.F.slot_list_index PySem.F.type_list_index (fQ hr.units) (ai 5) (aS (ai 11))))))))))
 (aj (bL (dW i7 i4 i6 bC (ai 6) (aS (bM aZ T.tuple (aS (ai 7)))))))))))
 (aj (aO (de (cT (bM aZ T.tuple (aS (ai 6))) (dU aZ bP T.tuple (TL [1] (gT T.enumerate (aS (ai 5))) (jz (aK (vT hr.units) (aI aG `A ag) (aI aG `N ag))) `u)))))))))))),?_⟩
  rfl';refine bo H_.1 ?_;rfl';rw[C1,H_.2];refine#[f,cc,2,rfl,hF,by decide,by decide,λ d1 o1 Tq VQ Ip=>?_];have F1:Fl f cc M _:=Fl.pick Ip;generalize af M f o1=M1 at*;obtain⟨w,ew⟩:∃n:Nat,2+d1=(n:Int):=#[(2+d1).toNat,()];rfl';rw[ew];refine#[cw () (),?_];rw[x3,bY];refine jk nD (λ ys M'=>Fl f cc M M') (by rw[x9];lia) F1 (λ i x ys M' N hx hl hI hN=>?_) (λ ws M4 hl F4=>?_)
  ·rfl';refine#[f,cc,w,rfl,hI.bw,(),(),λ d o h0 h1 Ec=>?_];obtain⟨y,rfl⟩:∃n:Nat,d=(n:Int):=#[d.toNat,()];exact hN y _ (hI.trans (Fl.pick Ec))
  rw[x9]at hl;intro qy yP;have F5:=F4.trans (Fl.put (o:=.lst (ws.map nD)) F4.bw yP);have OC:af M4 qy (.lst (ws.map nD)) qy>(.lst (ws.map nD)):=ab;generalize af M4 qy (.lst (ws.map nD))=M5 at*;have hw0:0<w:=()
  have C:=Kd (ws:=ws) G hw0;have hz:((0,0):Nat×Nat)∈Er m w:=nR.mpr #[G.tb.pos,hw0];have W5:(Er m w).length<=18:=ND>=G9 (Nat.mul_le_mul hm (show w<=3 by lia)) `c
  rfl';intro p hp;rfl';intro q hq;have X0:Sx pD (Jy fO w ws) (0,0) h (Er m w) p q [(0,0)] [] M5 (af (af M5 p (.lst [.tup [.int 0,.int 0]])) q `H):=by have jQ:p≠q:=aU (show af M5 p (.lst [.tup [.int 0,.int 0]]) p>_ from ab) hq;refine#[sw.new (sw.new sw.rfl hp _) hq _,hp,sw.free (sw.new sw.rfl hp _) hq,jQ,?_,ab,kH.start hz,by simp];rw[ak jQ,ab];rfl
  generalize af (af M5 p (.lst [.tup [.int 0,.int 0]])) q `H=M6 at*;rfl';refine eG #[λ m' δ M'=>∃(v7 v8 v9 v10 v11:Option D)(aB:List (Nat×Nat))(io:List Row),δ=[some `C,some (.tup [.tup (fO.map row),row JY]),some (.int h),some (.int w),some (.ref qy),some `j,some (.ref q),v7,v8,v9,v10,v11]/\Sx pD (Jy fO w ws) (0,0) h (Er m w) p q aB io M5 M'/\m'=20-io.length,#[_,none,none,none,none,none,_,[],rfl,X0,rfl],?_];rintro m' δ M' ⟨v7,v8,v9,v10,v11,aB,io,rfl,X,rfl⟩;have gL:=X.bZ;have DY:=X.st;have qB:=X.iT;rfl';rw[C1,C1];refine aL (λ gm=>?_) (λ MV=>?_)
  ·obtain⟨s,hs⟩:∃s,aB[-io]?>s:=#[_,i5 ()];have MG:s∈Er m w:=X.ex.sub s (k9 hs);have D_:=(nR.mp MG).1;refine#[λ δ' lW=>∃(v7 v8 v9 v10 v11:Option D)(aB:List (Nat×Nat))(r:Row),δ'=[some `C,some (.tup [.tup (fO.map row),row JY]),some (.int h),some (.int w),some (.ref qy),some `j,some (.ref q),v7,v8,v9,v10,v11]/\Sx pD (Jy fO w ws) (0,0) h (Er m w) p q aB (io++[r]) M5 lW,?_,?_]
   ·rintro δ' lW ⟨v7,v8,v9,v10,v11,aB,r,rfl,X⟩;exact#[_,by rw[p4,j9];lia,v7,v8,v9,v10,v11,aB,_,rfl,X,rfl]
   ·rfl';rw[C1];refine b_ X.st (d:=.tup [.int (s.1:Int),.int (s.2:Int)]) (bx (by rw[w6,hs];rfl)) ?_;rfl';intro pw Ib;have fw:=X.free Ib;have X1:=X.new Ib `H;have RK:af M' pw `H pw>(.lst (([]:Row).map D.int)):=ab;generalize af M' pw `H=M7 at*;rfl';refine#[cw () (),?_];rw[x3];refine jf (λ i δ M8=>∃(v8 v11:Option D)(aB:List (Nat×Nat))(r:Row),δ=[some `C,some (.tup [.tup (fO.map row),row JY]),some (.int h),some (.int w),some (.ref qy),some `j,some (.ref q),some (.ref pw),v8,some (.int (s.1:Int)),some (.int (s.2:Int)),v11]/\Sx pD (Jy fO w ws) (0,0) h (Er m w) p q aB io M5 M8/\M8 pw>(.lst (r.map D.int))/\bW (Jy fO w ws) aB s i r/\aB[-io]?>s) #[v8,v11,aB,[],rfl,X1,RK,bW.nil _ _ _,hs] (λ i d δ M8 hd h=>?_) (λ δ M8 h=>?_)
    ·let#[v8,v11,aB,r,rfl,X,hw,hr,hs]:=h;let#[hi,rfl]:=dC hd;have ta:=sS G.tb D_ hi;rfl';refine bo (d:=.tup ((fO.getD s.1 []).map D.int)) ta.1 ?_;rfl';rw[G1];refine bo ta.2 ?_;rfl';refine b_ (X.ext _ _ OC) (d:=.int (ws.getD i 0:Nat)) (bx (by rw[w6,i5 (),b8,i5 ()];rfl)) ?_;have YI:(0:Int)<(w:Int):=()
     refine vK (gf rfl (Gf YI (ke #[by show 2<=sizeLine;decide,eC ?_])));have Sd:(1:Nat)<=60:=by decide
     have RL:(Er m w).length<=300:=()
     have yS:h<=12:=()
     have VJ:=C.cl s i hi MG
     with_reducible refine nJ IJ Sd X RL yS fw hw hr hs hi VJ ?_ ?_ ?_ (λ gY r' M' X' OD Ia fT=>?_)
     ·show some (some (D.tup [.int (aE fO i s.1:Nat),.int (((s.2:Int)+(ws.getD i 0:Nat))%(w:Int))]))>(some (D.tup [.int (aE fO i s.1:Nat),.int (((s.2+ws.getD i 0)%w:Nat):Int)]));rw[Int.natCast_emod,Int.natCast_add]
     ·rfl
     ·rfl
     ·exact#[_,_,gY,r',rfl,X',OD,Ia,fT]
    ·let#[v8,v11,aB,r,rfl,X,hw,hr,hs]:=h;rw[bc]at hr;have gL:=X.bZ;have qB:=X.iT;rfl';refine#[#[rfl,_,qB],?_];rfl';refine bX hw ?_;rfl';refine fu qB (C1>=p8 (show -io<=300 by lia) `c) ?_;exact#[_,_,_,_,_,aB,r,rfl,X.next hs hr]
  ·have el:-io=-aB:=by have:=X.le;lia
   have TG:=X.ex.tb C hz el () ();have F6:=F5.trans (mB X.ext F5.bw);rfl';refine bX qB ?_;rfl';refine uE (ds:=eK (aB.map pD)) (λ i jp M7=>M7=M'/\∃ls:Row,jp=ls.map D.int/\Ez aB (λ x=>c_ JY x.1) i ls) #[rfl,[],rfl,Ez.nil _ _] (λ i jp M7 _ h=>?_) (λ i jp M7 hi h=>?_) (λ i d jp M7 hd h=>?_) (λ jp M7 h=>?_)
   ·let#[rfl,_]:=h;show eO `j M7=_;unfold eO;rw[cJ DY];rfl
   ·let#[rfl,ls,rfl,L]:=h;rw[bR,C1]at hi;have:=L.Hu.bZ;rw[C1];exact small ()
   ·let#[rfl,ls,rfl,L]:=h;let#[hi,rfl]:=ib hd;rw[C1]at hi;obtain⟨x,hx⟩:∃x,aB[i]?>x:=#[_,i5 hi];rw[show(aB.map pD).getD i .bf=.tup [.int (x.1:Int),.int (x.2:Int)] by rw[b8,w6,hx];rfl];rfl';refine tG (k:=0) (b:=decide ((x.1:Int)∈JY)) (ds:=JY.map D.int) rfl (dw 0 _) (g_ λ x _=>dw 0 _) `c (by rw[bn];exact(tW (enc:=D.int) (λ a b z=>D.int.inj z) _).symm) ?_;refine aL (λ hz=>?_) (λ hz=>?_)
    ·rfl';exact#[rfl,ls++[(i:Int)],by rw[C4];rfl,L.yes hx (C9 hz)]
    ·exact#[rfl,ls,rfl,L.no hx (B4 hz)]
   ·let#[rfl,ls,rfl,L]:=h;rw[bR,C1]at L;rfl';exact au (k _ io ls _ TG () (el>=L.Hu) (λ p hp=>Kb X.ex el L hp>=K8 (c_ JY) (Ac fO w ws p 0 (0,0)).symm) F6)
def Fp:fM:=λ ds M Q=>∃(f c a:be)(ns:List Nat),ds=[.ref f,.ref a]/\Flow M f c/\M a>(.lst (ns.map nD))/\-ns<=300/\∀(p:be)(iz:List Nat)(M':Mem),iz.Perm ns->M p=none->M' p>(.lst (iz.map nD))->Fl f c M M'->Q `j M'
def Fq:fM:=λ ds M Q=>∃(f c:be)(m h:Nat)(io:List Row)(ls:Row),ds=[.ref f,bt io ls]/\Flow M f c/\cj m h io/\m<=60/\gr m ls/\∀(r2:List Row)(l2:Row)(M':Mem),cj m h r2->gr m l2->OV h io ls r2 l2->Fl f c M M'->Q (bt r2 l2) M'
def LO(F:jO K "_law_shuffled" "_law_shuffled" (top 18) f fd)(T:kb K mg)(aA:cY P w K mg base 1 "_law_pick" ["_law_flow_here","_law_many"] lZ):bS P w K mg base eQ 2 f fd ["_law_flow_here","_law_things"] (cI K Fp):=by
 refine mX F ["_law_flow_here","_law_things","_law_left","_law_told"] (λ dF A outer s H E ds M Q nd hr h=>?_)
 ·let#[f,cc,a,ns,rfl,hF,ha,hl,k]:=h;refine⟨_,(aa (av 2 (bM Jg T.list (aS `A)))
 (aa (av 3 (cB cD))
 (aa (eD (aK (AO hr.units) `N (cB cD))
 (aj (bL (dW i7 i4 i6 bC (ai 3) (aS (dW i7 PySem.F.slot_list_pop PySem.F.type_list_pop Oo `N (aS (aN aA (cT `u (ax bT T.len (aS `N)))))))))))
 (aj (aO (ai 3)))))),?_⟩
  rfl';refine Gg ha λ p hp=>?_;rfl';intro q hq;have jQ:p≠q:=aU (show af M p (.lst (ns.map nD)) p>_ from ab) hq;have Vp:M q=none:=sw.free (sw.new sw.rfl hp _) hq;have pf:=(hF.ne hp).1;have qf:=(hF.ne Vp).1;have F0:Fl f cc M (af (af M p (.lst (ns.map nD))) q `H):=mB (sw.new (sw.new sw.rfl hp _) hq _) hF;have h1:af (af M p (.lst (ns.map nD))) q `H p>(.lst (ns.map nD)):=by rw[ak jQ,ab]
  have h2:af (af M p (.lst (ns.map nD))) q `H q>(.lst (([]:List Nat).map nD)):=ab;generalize af (af M p (.lst (ns.map nD))) q `H=M2 at*;rfl';refine eG #[λ m δ M'=>∃(xs ys:List Nat),δ=[some `C,some `z,some `j,some (.ref q)]/\M' p>(.lst (xs.map nD))/\M' q>(.lst (ys.map nD))/\(ys++xs).Perm ns/\Fl f cc M M'/\m=-xs,#[_,ns,[],rfl,h1,h2,.refl _,F0,rfl],?_];rintro m δ M' ⟨xs,ys,rfl,h1,h2,sh,F1,rfl⟩;have hlen:=sh.length_eq;rw[p4]at hlen;rfl';intro e he;refine Ax (k:=0) (b:=decide (xs=[])) (ak (aU h1 he)>=h1) ab (g_ λ x _=>dw 0 _) (λ e he=>by cases he) `c (Hk (by rw[bn])) ?_;have h1:af M' e `H p>(.lst (xs.map nD)):=ak (aU h1 he)>=h1
  have h2:af M' e `H q>(.lst (ys.map nD)):=ak (aU h2 he)>=h2
  have F1:=F1.trans (Fl.put (o:=.lst []) F1.bw he);generalize af M' e `H=M3 at*;refine kX (λ hn=>?_) (λ hn=>?_)
  ·have hn:xs≠[]:= ~~~hn
   have Vr:0< -xs:=length_pos_iff.mpr hn;refine#[λ δ' M'=>∃(NS Wo:List Nat),δ'=[some `C,some `z,some `j,some (.ref q)]/\M' p>(.lst (NS.map nD))/\M' q>(.lst (Wo.map nD))/\(Wo++NS).Perm ns/\Fl f cc M M'/\-NS< -xs,?_,?_]
   ·rintro δ' M' ⟨NS,Wo,rfl,a1,a2,a3,a4,a5⟩;exact#[_,a5,NS,Wo,rfl,a1,a2,a3,a4,rfl]
   ·rfl';refine#[#[rfl,_,h2],?_];rfl';refine#[#[rfl,_,h1],?_];rfl';rw[C1];refine#[f,cc,-xs,rfl,F1.bw,(),(),λ d o h0 Tq Ec=>?_];have P:=Fl.pick Ec;have F2:=F1.trans P;have h1:=P.mv _ _ pf h1;have h2:=P.mv _ _ qf h2;generalize af M3 f o=M4 at*;obtain⟨j,rfl⟩:∃n:Nat,d=(n:Int):=#[d.toNat,()];have hj:j< -xs:=()
    rfl';refine Ga h1 (y:=nD xs[j]) (by rw[w6,i5 hj];rfl) (by rw[C1];lia) ?_;rfl';refine fu (ds:=ys.map nD) (ak (K9 jQ)>=h2) (C1>=p8 (show -ys<=300 by lia) `c) ?_;refine#[xs.eraseIdx j,ys++[xs[j]],rfl,?_,?_,?_,(F2.own hF hp).own hF Vp,?_]
    ·rw[ak jQ,ab,AZ]
    ·rw[ab,C4];rfl
    ·refine List.Perm.trans ?_ sh;rw[x6];refine List.Perm.append_left _ ?_;exact vO hj
    ·rw[length_eraseIdx_of_lt hj];lia
  ·have hn:xs=[]:= ~~~hn
   subst hn;rw[B1]at sh;rfl';exact au (k q ys _ sh Vp h2 F1)
def Q4(F:jO K "_law_renumbered" "_law_renumbered" (top 22) f fd)(T:kb K mg)(ql:cY P w K mg base 2 "_law_shuffled" ["_law_flow_here","_law_things"] Fp):bS P w K mg base eQ 3 f fd ["_law_flow_here","_law_table_here"] (cI K Fq):=by
 refine mX F ["_law_flow_here","_law_table_here","_law_order","_law_rows"] (λ dF A outer s H E ds M Q nd hr h=>?_)
 ·let#[f,cc,m,h,io,ls,rfl,hF,G,hm,L,k]:=h;have pX:bt io ls=.tup [.tup (io.map row),row ls]:=rfl;rw[pX];have ui:=G.tb.len;have Vr:=G.tb.pos;refine⟨_,(aa (av 2 (bH bB (cB (aS ag)) (aN ql (cT `u (O6 rfl (by rfl) T.list (by rfl) T.range (cT ag (ax bT T.len (aS (aI aG `A ag)))))))))
 (aa (cC 3 (lT [1,2] (ck `N) aQ (dU aZ bP T.tuple (lT [2] (ck (aI aG (aI aG `A ag) `u)) aQ (dW i7 PySem.F.slot_list_index PySem.F.type_list_index (fQ hr.units) `A (aS `u))))))
 (aj (aO (de (cT (bM aZ T.tuple (aS (ai 3))) (bM aZ T.tuple (aS (ax (NC rfl) T.sorted (aS (f_ (lT [2] (ck (aI aG `A ag)) aQ (dW i7 PySem.F.slot_list_index PySem.F.type_list_index (fQ hr.units) `A (aS `u)))))))))))))),?_⟩
  rfl';intro p0 OE;have F0:=Fl.put (o:=.lst [.int 0]) hF OE;have h0:af M p0 (.lst [.int 0]) p0>(.lst [.int 0]):=ab;have n0:=(hF.ne OE).1;generalize af M p0 (.lst [.int 0])=M0 at*;rfl';rw[C1,ui];refine#[1,(m:Int),rfl,#[(),()],#[(),()],(),λ p1 va=>?_];have e1:cF 1 ((m:Int)-1).toNat=((List.range (m-1)).map (·+1)).map nD:=by unfold cF;rw[G8,show((m:Int)-1).toNat=m-1 by lia];refine n9 λ x _=>?_;show D.int (1+(x:Int))=D.int ((x+1:Nat):Int);rw[show(1:Int)+(x:Int)=((x+1:Nat):Int) by lia]
  rw[e1];have F1:=F0.trans (Fl.put (o:=.lst (((List.range (m-1)).map (·+1)).map nD)) F0.bw va);have h0:af M0 p1 (.lst (((List.range (m-1)).map (·+1)).map nD)) p0>(.lst [.int 0]):=ak (aU h0 va)>=h0
  have h1:af M0 p1 (.lst (((List.range (m-1)).map (·+1)).map nD)) p1>(.lst (((List.range (m-1)).map (·+1)).map nD)):=ab;generalize af M0 p1 (.lst (((List.range (m-1)).map (·+1)).map nD))=M1 at*;refine#[f,cc,p1,_,rfl,F1.bw,h1,by simp;lia,λ p2 ns M2 sh h_ h2 F2=>?_];have F3:=F1.trans F2;have h0:=F2.mv _ _ n0 h0;have wD:=GV Vr sh;have hz:(0::ns)[0]?>0:=rfl;have Th:(0::ns).length=m:=by rw[wD.length_eq,x9]
  refine Gs h0 h2 (by rw[C1];rw[y9]at Th;exact small (by show 1+-ns<=10000;lia)) λ po WV=>?_;have e2:[D.int 0]++ns.map nD=(0::ns).map nD:=rfl;rw[e2];generalize 0::ns=ord at*;have F4:=F3.trans (Fl.put (o:=.lst (ord.map nD)) F3.bw WV);have ho:af M2 po (.lst (ord.map nD)) po>(.lst (ord.map nD)):=ab;generalize af M2 po (.lst (ord.map nD))=M3 at*;have hox:∀x∈ord,x<m:=λ x hx=>ce.mp (wD.mem_iff.mp hx);rfl';refine eB nD (λ x=>row (dO ord (io.getD x []))) () ho (λ i x N hx hN=>?_) ?_
  ·have hxm:=hox x (k9 hx);have u_:x< -io:=()
   have hrx:iN (io.map row) (x:Int)>(.tup ((io.getD x []).map D.int)):=bx (by rw[w6,i5 u_,b8,i5 u_];rfl);have hrr:(io.getD x []).length=h/\∀y∈io.getD x [],0<=y/\y<(m:Int):=b8>=(i5 u_>=G.tb.row _ (A4 u_))
   have:=G.tb.wL;rfl';refine bo hrx ?_;rfl';refine fW (enc:=D.int) (λ y=>.int (ord.idxOf y.toNat:Nat)) () (λ j y N hy hN=>?_) ?_
   ·have DX:=hrr.2 y (k9 hy);rfl';refine#[#[rfl,_,ho],?_];rfl';rw[show D.int y=nD y.toNat by show _=D.int (y.toNat:Int);rw[show((y.toNat:Nat):Int)=y by lia]];refine iX nD cg.inj ho (wD.mem_iff.mpr (ce.mpr ())) cg.pl `c ?_;exact hN
   ·rfl';have e3:(io.getD x []).map (λ y=>D.int (ord.idxOf y.toNat:Nat))=(dO ord (io.getD x [])).map D.int:=by unfold dO;rw[G8];rfl
    rw[e3];exact hN
  ·intro pr RQ;have F5:=F4.trans (Fl.put (o:=.lst (ord.map λ x=>row (dO ord (io.getD x [])))) F4.bw RQ);have ho:af M3 pr (.lst (ord.map λ x=>row (dO ord (io.getD x [])))) po>(.lst (ord.map nD)):=ak (aU ho RQ)>=ho
   have e4:(ord.map λ x=>row (dO ord (io.getD x [])))=(ord.map λ x=>dO ord (io.getD x [])).map row:=by rw[G8];rfl
   have MH:af M3 pr (.lst (ord.map λ x=>row (dO ord (io.getD x [])))) pr>(.lst ((ord.map λ x=>dO ord (io.getD x [])).map row)):=by rw[ab,e4]
   generalize af M3 pr (.lst (ord.map λ x=>row (dO ord (io.getD x []))))=M4 at*;have RT:∀(d:Nat)(r:Row),(ord.map λ x=>dO ord (io.getD x []))[d]?>r->∃x,ord[d]?>x/\bW (aE io) ord x h r:=λ d r hd=>by rw[w6]at hd;let#[x,hx,rfl]:=ca.mp hd;exact#[x,hx,Kx G wD (hox x (k9 hx))]
   have rl:(ord.map λ x=>dO ord (io.getD x [])).length=m:=C1>=Th
   have TG:=Us G wD hz rl RT;have SX:=λ xs=>Kw (xs:=xs) G wD hz rl RT L;generalize(ord.map λ x=>dO ord (io.getD x []))=dB at*;have hll:=L.bZ;rfl';refine bX MH ?_;rfl';refine fW (enc:=D.int) (λ y=>.int (ord.idxOf y.toNat:Nat)) () (λ j y N hy hN=>?_) ?_
   ·have DX:=L.2 y (k9 hy);rfl';refine#[#[rfl,_,ho],?_];rfl';rw[show D.int y=nD y.toNat by show _=D.int (y.toNat:Int);rw[show((y.toNat:Nat):Int)=y by lia]];refine iX nD cg.inj ho (wD.mem_iff.mpr (ce.mpr ())) cg.pl `c ?_;exact hN
   ·intro pl gR;have e5:ls.map (λ y=>D.int (ord.idxOf y.toNat:Nat))=(dO ord ls).map D.int:=by unfold dO;rw[G8];rfl
    rw[e5];have F6:=F5.trans (Fl.put (o:=.lst ((dO ord ls).map D.int)) F5.bw gR);have h6:af M4 pl (.lst ((dO ord ls).map D.int)) pl>(.lst ((dO ord ls).map D.int)):=ab;generalize af M4 pl (.lst ((dO ord ls).map D.int))=M5 at*;rfl';refine Ds (dO ord ls) h6 (by unfold dO;rw[C1];lia) λ xs ps hxp YF RP=>?_;rfl';refine bX ab ?_;rfl';exact au (k dB xs _ TG (FY wD L hxp YF) (SX xs hxp) (F6.trans (Fl.put F6.bw RP)))
def GW(F:jO K "_law_table" "_law_table" (top 26) f fd)(T:kb K mg)(aA:cY P w K mg base 1 "_law_pick" ["_law_flow_here","_law_many"] lZ)(mE:cY P w K mg base 2 "_law_long_table" ["_law_flow_here"] (Ae 19 2))(ny:cY P w K mg base 2 "_law_any_table" ["_law_flow_here","_law_many"] FF)(nv:cY P w K mg base 1 "_law_nim_table" ["_law_sizes","_law_last"] Ft)(jg:cY P w K mg base 2 "_law_blown" ["_law_flow_here","_law_table_here"] sY)(eh:cY P w K mg base 3 "_law_renumbered" ["_law_flow_here","_law_table_here"] Fq):bS P w K mg base eQ 4 f fd ["_law_flow_here"] (cI K (Ae 19 6)):=by
 refine mX F ["_law_flow_here","_law_many","_law_table_here","_law_sizes"] (λ dF A outer s H E ds M Q nd hr h=>?_)
 ·let#[f,cc,rfl,hF,k]:=h;refine⟨_,(aa (cG (aK `L `K ag)
 (aj (aO (aN mE (aS `u))))
 bg)
 (aa (av 1 `K)
 (aa (cG (aK `L `K ag)
 (aj (av 1 `K))
 bg)
 (aa (av 2 (aN ny (cT `u `A)))
 (aa (cG (aK `L `K ag)
 (aa (cC 3 (lT [0] (aV T.range (aS `A)) aQ (aN aA (cT `A ag))))
 (aj (av 2 (aN nv (cT (ai 3) (aI aG (cB (cT zQ zQ)) `K))))))
 bg)
 (aa (cG (oB (aK `L `K ag) (oB (aK mi (ax bT T.len (aS (aI aG `N ag))) ag) (nH (aK mi `A ag)))).pt
 (aj (av 2 (aN jg (cT `u `N))))
 bg)
 (aa (cG (aK `L `K ag)
 (aj (av 2 (aN eh (cT `u `N))))
 bg)
 (aj (aO `N))))))))),?_⟩
  rfl';refine#[f,cc,4,rfl,hF,by decide,by decide,λ d1 o1 Tq VQ Ip=>?_];have F1:Fl f cc M _:=Fl.pick Ip;generalize af M f o1=M1 at*;rfl';refine aL (λ _=>?_) (λ _=>?_)
  ·rfl';refine#[f,cc,rfl,F1.bw,λ m h io ls M2 G hm hh L F2=>?_];rfl';exact au (k m h io ls _ G hm () L (F1.trans F2))
  ·rfl';refine#[f,cc,4,rfl,F1.bw,by decide,by decide,λ d2 o2 ZF ZE Sa=>?_];have F2:=F1.trans (Fl.pick Sa);generalize af M1 f o2=M2 at*;refine eC ?_
   with_reducible refine iY (λ δ' M'=>∃n:Nat,δ'=[some `C,some (.int n),none,none]/\n<=6/\Fl f cc M M') (λ N hN=>?_) ?_
   ·rfl';refine#[f,cc,6,rfl,F2.bw,by decide,by decide,λ d3 o3 h30 h31 ZA=>?_];have F3:=F2.trans (Fl.pick ZA);generalize af M2 f o3=M3 at*;rfl';refine aL (λ _=>?_) (λ _=>?_)
    ·rfl';refine#[f,cc,7,rfl,F3.bw,by decide,by decide,λ d4 o4 h40 h41 hF4=>?_];have F4:=F3.trans (Fl.pick hF4);generalize af M3 f o4=M4 at*;rfl';obtain⟨n,rfl⟩:∃n:Nat,d4=(n:Int):=#[d4.toNat,()];exact hN _ _ #[n,rfl,(),F4]
    ·rfl';obtain⟨n,rfl⟩:∃n:Nat,d2=(n:Int):=#[d2.toNat,()];exact hN _ _ #[n,rfl,(),F3]
   rintro δ' M3 ⟨n,rfl,hn,F3⟩;rfl';refine#[f,cc,n,rfl,F3.bw,hn,λ m io ls M4 G hm L F4=>?_];have F4x:=F3.trans F4;clear F4;have F4:=F4x;clear F4x;refine eC ?_
   with_reducible refine iY (λ δ' M'=>∃(v:Option D)(m:Nat)(io:List Row)(ls:Row),δ'=[some `C,some (.int n),some (bt io ls),v]/\cj m n io/\m<=16/\gr m ls/\Fl f cc M M') (λ N hN=>?_) ?_
   ·rfl';refine#[f,cc,3,rfl,F4.bw,by decide,by decide,λ d5 o5 h50 h51 VL=>?_];have F5:=F4.trans (Fl.pick VL);generalize af M4 f o5=M5 at*;rfl';refine aL (λ _=>?_) (λ _=>?_)
    ·rfl';refine#[cw () (),?_];rw[x3,bY];refine jk nD (λ ys M'=>Fl f cc M M'/\∀y∈ys,y<5) (by rw[x9];lia) #[F5,λ y h=>by cases h] (λ i x ys M' N hx hl hI hN=>?_) (λ sz M6 hl hI=>?_)
     ·rfl';refine#[f,cc,5,rfl,hI.1.bw,by decide,by decide,λ d o h0 h1 Ec=>?_];obtain⟨y,rfl⟩:∃n:Nat,d=(n:Int):=#[d.toNat,()];refine hN y _ #[hI.1.trans (Fl.pick Ec),λ z hz=>?_];rcases C3.mp hz with e|e
      ·exact hI.2 z e
      ·rw[q8.mp e];lia
     ·let#[F6,h5]:=hI;rw[x9]at hl;intro ps RP;have nf:=(F6.bw.ne RP).1;have F7:=F6.trans (Fl.put (o:=.lst (sz.map nD)) F6.bw RP);have h7:af M6 ps (.lst (sz.map nD)) ps>(.lst (sz.map nD)):=ab;generalize af M6 ps (.lst (sz.map nD))=M7 at*;rfl';intro pl gR;have h8:af M7 pl (.lst [.str "loses",.str "wins"]) pl>(.lst [.str "loses",.str "wins"]):=ab;have h7:af M7 pl (.lst [.str "loses",.str "wins"]) ps>(.lst (sz.map nD)):=ak (aU h7 gR)>=h7
      have F8:=F7.trans (Fl.put (o:=.lst [.str "loses",.str "wins"]) F7.bw gR);have nl:=(F7.bw.ne gR).1;generalize af M7 pl (.lst [.str "loses",.str "wins"])=M8 at*;rfl';refine#[f,cc,2,rfl,F8.bw,by decide,by decide,λ d9 o9 h90 h91 hF9=>?_];have P:=Fl.pick hF9;have F9:=F8.trans P;have h7:=P.mv _ _ nf h7;have h8:=P.mv _ _ nl h8;generalize af M8 f o9=M9 at*;obtain⟨l,Za⟩:∃l:Str,iN [D.str "loses",D.str "wins"] d9>(.str l):=by
       rcases(show d9=0\/d9=1 by lia)with rfl|rfl
       ·exact#[_,rfl]
       ·exact#[_,rfl]
      refine b_ h8 Za ?_;rfl';refine#[ps,sz,l,rfl,h7,h5,(),λ m io ls M' G hm L hE=>?_];refine eC ?_;rw[hl]at G;exact hN _ _ #[_,m,io,ls,rfl,G,hm,L,F9.trans (mB hE F9.bw)]
    ·rfl';exact hN _ _ #[_,m,io,ls,rfl,G,hm,L,F5]
   clear L hm G io ls m F4 M4;rintro δ' M4 ⟨v,m,io,ls,rfl,G,hm,L,F4⟩
   with_reducible refine iY (λ δ' M'=>∃(v:Option D)(m:Nat)(io:List Row)(ls:Row),δ'=[some `C,some (.int n),some (bt io ls),v]/\cj m n io/\m<=19/\gr m ls/\Fl f cc M M') (λ N hN=>?_) ?_
   ·have ui:=G.tb.len;have MS:∀M',Fl f cc M M'->N [some `C,some (.int n),some (bt io ls),v] M':=λ M' F'=>hN _ _ #[_,m,io,ls,rfl,G,(),L,F'];have pX:bt io ls=.tup [.tup (io.map row),row ls]:=rfl;rw[pX]at MS ⊢;rfl';refine#[f,cc,3,rfl,F4.bw,by decide,by decide,λ d5 o5 h50 h51 VL=>?_];have F5:=F4.trans (Fl.pick VL);generalize af M4 f o5=M5 at*;rfl';refine aL (λ _=>?_) (λ _=>?_)
    ·rfl';rw[C1,ui];refine aL (λ hm7=>?_) (λ _=>?_)
     ·rfl';refine aL (λ hn4=>?_) (λ _=>?_)
      ·rfl';refine#[f,cc,m,n,io,ls,rfl,F5.bw,G,(),(),λ m io ls M6 G hm L _ F6=>?_];refine eC ?_;exact hN _ _ #[_,m,io,ls,rfl,G,(),L,F5.trans F6]
      ·rfl';exact MS _ F5
     ·rfl';exact MS _ F5
    ·rfl';exact MS _ F5
   clear L hm G io ls m F4 M4 v;rintro δ' M4 ⟨v,m,io,ls,rfl,G,hm,L,F4⟩;rfl';refine#[f,cc,2,rfl,F4.bw,by decide,by decide,λ d5 o5 h50 h51 VL=>?_];have F5:=F4.trans (Fl.pick VL);generalize af M4 f o5=M5 at*;rfl';refine aL (λ _=>?_) (λ _=>?_)
   ·rfl';refine#[f,cc,m,n,io,ls,rfl,F5.bw,G,(),L,λ io ls M6 G L _ F6=>?_];rfl';exact au (k m n io ls _ G hm hn L (F5.trans F6))
   ·rfl';exact au (k m n io ls _ G hm hn L F5)
def xX(k:Nat):fM:=λ ds M Q=>∃(n t:Nat),ds=[.int n,.int t]/\n<k/\n<=6/\t<=19/\∀(p:be)(M':Mem),M p=none->M' p>(.lst ((bz n t).map eY))->sw M M'->Q `j M'
def Fo:∀ds M Q,¬xX 0 ds M Q:=λ ds M Q ⟨n,t,_,h,_⟩=>by lia
def GX(F:jO K "_law_sums" "_law_sums" (top 27) f fd)(T:kb K mg)(Y7:mg "_law_sums">`C)(R6:Binds K fd ["_law_many","_law_total"] []):∀k,bS P w K mg base eQ (k+1) f fd ["_law_many","_law_total"] (cI K (xX k)):=by
 intro k
 induction k with
 |zero=>exact BI Fo
 |succ k ih=>
 have kq:=fI.of F ih Y7 R6;rw[show k+1+1=k+1+1 by lia];clear ih;refine mX F ["_law_many","_law_total","_law_found","_law_n"] (λ dF A outer s H E ds M Q nd hr h=>?_)
 ·let#[n,t,rfl,hnk,hn,ht,kk]:=h;refine⟨_,(aa (cG (aK `L `u ag)
 (aj (aO (bH kg (cB (aS (de cD))) (bM qo T.int (aS (gx `L `A ag))))))
 bg)
 (aa (cG (aK `L `u ag)
 (aj (aO (cB (aS (de (aS `A))))))
 bg)
 (aa (av 2 (cB cD))
 (aa (dS (CU T.range (O1 `A (TM NV ag) (TM NV ag))) (bE 3)
 (aj (bL (dW i7 PySem.F.slot_list_extend PySem.F.type_list_extend Hm `N (aS (f_ (lT [3] (ck (aN kq (cT (bH AN `u ag) (bH AN `A (ai 3))))) aQ (bH bB (de (aS `A)) `u))))))))
 (aj (aO `N)))))),?_⟩
  rfl';refine aL (λ h0=>?_) (λ h0=>?_)
  ·have h0:n=0:=()
   subst h0;rfl';intro p hp;rfl';have hE:sw M (af M p (.lst [.tup []])):=sw.new sw.rfl hp _;have h2:af M p (.lst [.tup []]) p>(.lst [.tup []]):=ab;generalize af M p (.lst [.tup []])=M1 at*;have e:∃j:Nat,(if decide ((t:Int)=0)=true then(1:Int)else 0)=(j:Int)/\j<=1/\List.replicate j (D.tup [])=(bz 0 t).map eY:=by
    by_cases z:t=0
    ·subst z;exact#[1,rfl,(),rfl]
    ·refine#[0,by rw[L7];rfl;rw[bn];lia,(),?_];unfold bz;rw[L7 z];rfl
   let#[j,ej,hj,e2]:=e;rw[ej];refine Gb h2 () () λ r hr=>?_;rw[x3,e2];exact au (kk r _ (hE.free hr) ab (hE.new hr _))
  ·rfl';refine aL (λ h1=>?_) (λ h1=>?_)
   ·have h1:n=1:=()
    subst h1;rfl';intro p hp;refine au (kk p _ hp ?_ (sw.new sw.rfl hp _));rw[ab,zX];rfl
   ·obtain⟨q,rfl⟩:∃q,n=q+1:=#[n-1,()];rfl';intro p hp;have hE:sw M (af M p `H):=sw.new sw.rfl hp _;have h2:af M p `H p>(.lst ((iw q t 0).map eY)):=ab;generalize af M p `H=M1 at*;rfl';refine K' ?_;rfl';refine#[(t:Int),-1,rfl,#[(),(),(),()],?_];rw[show((t:Int) - -1).toNat=t+1 by lia];refine jf (λ i δ M'=>∃v:Option D,δ=[some (.int ((q+1:Nat):Int)),some (.int t),some `j,v]/\M' p>(.lst ((iw q t i).map eY))/\sw M M') #[none,rfl,h2,hE] (λ i d δ M' hd h=>?_) (λ δ M' h=>?_)
    ·let#[v,rfl,h2,hE]:=h;let#[hi,rfl]:=IL hd;have hM0:=hp;rfl';refine#[#[rfl,_,h2],?_];rfl';refine#[q,t-(t-i),?_,(),(),(),λ r M2 hr pV VN=>?_]
     ·rw[show((q+1:Nat):Int)-1=(q:Int) by lia,show(t:Int)-((t:Int)-(i:Int))=((t-(t-i):Nat):Int) by lia]
     ·have hsz:=xU (q:=q) (t:=t-(t-i)) () ();refine tI pV ?_;refine zp eY (λ c=>eY ((t-i)::c)) hsz pV (λ j c N hc hN=>?_) ?_
      ·rfl';have vc:=(bQ.mp (k9 hc)).1;unfold eY;refine kZ (C1>=(vc>=small (by show 1+q<=10000;lia))) ?_;rw[show[D.int ((t:Int)-(i:Int))]++c.map nD=((t-i)::c).map nD by rw[show(t:Int)-(i:Int)=((t-i:Nat):Int) by lia];rfl];exact hN
      ·intro u hu;have h2:=VN _ _ h2;have e3:(bz q (t-(t-i))).map (λ c=>eY ((t-i)::c))=((bz q (t-(t-i))).map ((t-i)::·)).map eY:=by rw[G8];rfl
       rw[e3];have hL:=rG (q:=q) (t:=t) (i:=i+1) () () ();rw[oS hi,p4]at hL;rfl';refine PU (ds:=(iw q t i).map eY) (ak (aU h2 hu)>=h2) ab (C1>=(C1>=hL)) ?_;refine#[_,rfl,?_,?_]
       ·rw[ab,oS hi,C4]
       ·exact((hE.trans VN).new hu _).own hM0
    ·let#[v,rfl,h2,hE]:=h;rw[mC,jC]at h2;rfl';exact au (kk p _ hp h2 hE)
def Fz:fM:=λ ds M Q=>∃(m h x:Nat)(io:List Row)(ls:Row)(p:Cs),ds=[bt io ls,.int x,eY p]/\cj m h io/\x<m/\-p=h/\(∀c∈p,c<=1000)/\Q (.int (bj (aE io) 0 x p:Nat)) M
def Aj:fM:=λ ds M Q=>∃(m h:Nat)(io:List Row)(ls:Row),ds=[bt io ls]/\cj m h io/\m<=19/\h<=6/\∀(p:be)(g:Nat->Cs)(M':Mem),M p=none->SV m h io g->M' p>(.lst ((List.range m).map λ x=>eY (g x)))->sw M M'->Q `j M'
def LX(F:jO K "_law_from" "_law_from" (top 28) f fd)(T:kb K mg):bS P w K mg base eQ 1 f fd ["_law_table_here","_law_x","_law_counts"] (cI K Fz):=by
 refine mX F ["_law_table_here","_law_x","_law_counts","_law_h","_law_n","_law_k"] (λ dF A outer s H E ds M Q nd hr h=>?_)
 ·let#[m,h,x,io,ls,p,rfl,G,hx,hp,hc,k]:=h;refine⟨_,(aa (dS (gT T.enumerate (aS `N)) (oD (n:=2) (dq (bE 3) (dq (bE 4) kM)))
 (aj (dS (aV T.range (aS (ai 4))) (bE 5)
 (aj (av 1 (aI aG (aI aG (aI aG `u ag) `A) (ai 3)))))))
 (aj (aO `A))),?_⟩
  have hh:=G.tb.wL;unfold eY;have pX:bt io ls=.tup [.tup (io.map row),row ls]:=rfl;rw[pX];rfl';refine jf (λ i δ M'=>M'=M/\∃v3 v4 v5:Option D,δ=[some (.tup [.tup (io.map row),row ls]),some (.int (bj (aE io) 0 x (p.take i):Nat)),some (.tup (p.map nD)),v3,v4,v5]) #[rfl,none,none,none,rfl] (λ i d δ M' hd h=>?_) (λ δ M' h=>?_)
  ·let#[rfl,v3,v4,v5,rfl]:=h;let#[hi,rfl]:=ib hd;rw[C1]at hi;have Tf:p[i]?>p[i]:=i5 hi;rw[show(p.map nD).getD i .bf=.int (p[i]:Nat) by rw[b8,w6,Tf];rfl];have hci:=hc _ (k9 Tf);have hy:bj (aE io) 0 x (p.take i)<m:=G.di.bj _ 0 x (by rw[A3];lia) hx;have DY:bj (aE io) 0 x (p.take (i+1))=dA (aE io i) p[i] (bj (aE io) 0 x (p.take i)):=by rw[take_one Tf,wG,A3,Nat.min_eq_left (),H9]
   generalize p[i]=c at*;generalize bj (aE io) 0 x (p.take i)=y at*;rfl';refine#[cw () (),?_];rw[x3];refine jf (λ j δ lW=>lW=M'/\∃v5:Option D,δ=[some (.tup [.tup (io.map row),row ls]),some (.int (dA (aE io i) j y:Nat)),some (.tup (p.map nD)),some (.int (i:Int)),some (.int (c:Int)),v5]) #[rfl,_,rfl] (λ j d δ lW hd h=>?_) (λ δ lW h=>?_)
   ·let#[rfl,v5,rfl]:=h;let#[hj,rfl]:=dC hd;have hz:dA (aE io i) j y<m:=G.di.dA () j y hy;have ta:=sS G.tb hz (i:=i) ();have hs:=lF (aE io i) j y;generalize dA (aE io i) j y=z at*;rfl';refine bo (d:=.tup ((io.getD z []).map D.int)) ta.1 ?_;rfl';refine bo ta.2 ?_;rfl';exact#[rfl,_,by rw[hs];rfl]
   ·let#[rfl,v5,rfl]:=h;rw[bc];exact#[rfl,_,_,_,by rw[DY]]
  ·let#[rfl,v3,v4,v5,rfl]:=h;rw[bR,C1,A0];rfl';exact au k
def G'(F:jO K "_law_first_sums" "_law_first_sums" (top 29) f fd)(T:kb K mg)(kq:cY P w K mg base 8 "_law_sums" ["_law_many","_law_total"] (xX 7))(zg:cY P w K mg base 1 "_law_from" ["_law_table_here","_law_x","_law_counts"] Fz):bS P w K mg base eQ 9 f fd ["_law_table_here"] (cI K Aj):=by
 refine mX F ["_law_table_here","_law_many","_law_found","_law_total","_law_counts"] (λ dF A outer s H E ds M Q nd hr h=>?_)
 ·let#[m,h,io,ls,rfl,G,hm,hh,k]:=h;let#[g,hg]:=G.fst;have H_:=Ku G.tb;have ui:=G.tb.len;have pX:bt io ls=.tup [.tup (io.map row),row ls]:=rfl;refine⟨_,(aa (av 1 (ax jl T.len (aS (aI `R (aI `R `u ag) ag))))
 (aa (av 2 (EZ false))
 (aa (av 3 ag)
 (aa (eD (aK mi (ax jl T.len (aS `N)) (ax jl T.len (aS (aI `R `u ag))))
 (aa (dS (ck (aN kq (cT `A (ai 3)))) (bE 4)
 (aj (bL (EW `N (cT (aN zg (O1 `u ag (ai 4))) (ai 4))))))
 (aj (av 3 (bH bB (ai 3) ag)))))
 (aj (aO (f_ (lT [2] (aV T.range (aS (ax jl T.len (aS (aI `R `u ag))))) aQ (aI `R `A `u))))))))),?_⟩
  rw[pX];rfl';refine cE (bo (d:=.tup (io.map row)) rfl ?_);rfl';refine cE (bo H_.1 ?_);rfl';refine fm (nL ?_);rw[C1,H_.2];rfl';intro q hq;rfl';have W_:sw M (af M q (.bV false [])):=sw.new sw.rfl hq _;have hq0:af M q (.bV false []) q>(.bV false (jY nD ((([]:List (Nat×Cs)).map λ e=>(e.1,eY e.2))))):=ab;generalize af M q (.bV false [])=M0 at*;refine eG #[λ m' δ M'=>∃(v4:Option D)(es:List (Nat×Cs))(t:Nat),δ=[some (.tup [.tup (io.map row),row ls]),some (.int (h:Int)),some (.ref q),some (.int (t:Int)),v4]/\sw M M'/\M' q>(.bV false (jY nD (es.map λ e=>(e.1,eY e.2))))/\uV io m h (jd h t 0) es/\m'=m+1-t,#[_,none,[],0,rfl,W_,hq0,by show uV io m h (qY h 0++[]) [];rw[B1];exact uV.nil io m h,rfl],?_];rintro m' δ M1 ⟨v4,es,t,rfl,hE,hd,hf,rfl⟩;have hk0:∀{es:List (Nat×Cs)},(jY nD (es.map λ e=>(e.1,eY e.2))).length=-es:=λ{es}=>by simp[jY]
  have gL:=hf.bZ;rfl';refine KS hd ?_;rfl';refine cE (bo (d:=.tup (io.map row)) rfl ?_);rfl';refine fm (nL ?_);rfl';rw[C1,ui,hk0];refine aL (λ gm=>?_) (λ MV=>?_)
  ·have htm:t<m:=z9 λ z=>by have:=hf.full G z;lia
   refine#[λ δ' M'=>∃(v4:Option D)(es:List (Nat×Cs)),δ'=[some (.tup [.tup (io.map row),row ls]),some (.int (h:Int)),some (.ref q),some (.int ((t+1:Nat):Int)),v4]/\sw M M'/\M' q>(.bV false (jY nD (es.map λ e=>(e.1,eY e.2))))/\uV io m h (jd h (t+1) 0) es,?_,?_]
   ·rintro δ' M' ⟨v4,es,rfl,a1,a2,a3⟩;exact#[_,(),v4,es,t+1,rfl,a1,a2,a3,rfl]
   ·rfl';refine#[h,t,rfl,(),(),(),λ r M2 hr pV VN=>?_];refine tI pV ?_;have hqr:q≠r:=aU hd hr;refine BL (ds:=(bz h t).map eY) (λ i δ M'=>∃(v4:Option D)(es:List (Nat×Cs)),δ=[some (.tup [.tup (io.map row),row ls]),some (.int (h:Int)),some (.ref q),some (.int (t:Int)),v4]/\sw M M'/\M' r>(.lst ((bz h t).map eY))/\M' q>(.bV false (jY nD (es.map λ e=>(e.1,eY e.2))))/\uV io m h (jd h t i) es) #[v4,es,rfl,hE.trans VN,pV,VN _ _ hd,hf] (λ i δ M' _ h=>?_) (λ i d δ M' hd2 h=>?_) (λ δ M' h=>?_)
    ·let#[_,_,_,_,h2,_]:=h;exact h2
    ·let#[v4,es,rfl,hE,pV,hd,hf]:=h;rw[w6]at hd2;let#[p,hp,rfl]:=ca.mp hd2;have D':=bQ.mp (k9 hp);rfl';refine#[#[q,_,rfl,hd],?_];rfl';refine#[m,h,0,io,ls,p,rfl,G,G.tb.pos,D'.1,λ c hc=>?_,?_]
     ·have:=Hv hc;lia
     ·rfl';have OH:=hf.bZ;have eW:(es.map λ e=>(e.1,eY e.2)).map (·.1)=es.map (·.1):=by rw[G8];rfl
      refine#[q,_,nD (bj (aE io) 0 0 p),eY p,rfl,rfl,hd,gh _,hk0>=p8 (show -es<=100 by lia) `c,λ u hu=>?_,λ hu=>?_]
      ·have lH:bj (aE io) 0 0 p∈es.map (·.1):=Decidable.byContradiction λ hn=>by rw[jF cg.inj (eW>=hn)]at hu;cases hu
       exact#[_,es,rfl,hE,pV,hd,hf.old hp lH]
      ·have lH:bj (aE io) 0 0 p∉es.map (·.1):=λ hn=>by let#[e,he,ee]:=G7.mp hn;rw[<- ee,gH (x:=e.1) (d:=eY e.2) cg.inj (eW>=hf.nd) (G7.mpr #[e,he,rfl])]at hu;cases hu
       rw[nO cg.inj _ (eW>=lH)];refine#[_,es++[(bj (aE io) 0 0 p,p)],rfl,hE.own hq,?_,?_,hf.new G hp lH]
       ·rw[ak (K9 hqr)];exact pV
       ·rw[ab,C4];rfl
    ·let#[v4,es,rfl,hE,pV,hd,hf]:=h;rw[C1,Iu]at hf;rfl';exact#[_,es,rfl,hE,hd,hf]
  ·rfl';refine cE (bo (d:=.tup (io.map row)) rfl ?_);rfl';refine fm (nL ?_);rfl';rw[C1,ui];refine#[cw () (),?_];rw[x3,bY];refine fW (λ x=>eY (g x)) (by rw[x9];lia) (λ i x N hx hN=>?_) ?_
   ·have hxm:x<m:=ce.mp (k9 hx);rw[ye];rfl';refine tw hd (gh x) (gH (x:=x) (d:=eY (g x)) cg.inj (G8>=hf.nd) (G7.mpr #[_,hf.get () hg hxm,rfl])) ?_;exact hN
   ·intro u hu;exact au (k u g _ (hE.free hu) hg ab (hE.new hu _))
def HN(ls:Row)(x:Nat):c_ ls x=true↔D.int (x:Int)∈ls.map D.int:=by
 unfold c_;rw[bn];constructor
 ·intro h;exact G7.mpr #[_,h,rfl]
 ·intro h;let#[y,hy,e]:=G7.mp h;rw[<- D.int.inj e];exact hy
def KW{Q:bK}{x:Nat}(q:Q (.bl (c_ ls x)) M):V1 (.int (x:Int)) (row ls) M Q:=.inl (tG (k:=0) (ds:=ls.map D.int) rfl (dw 0 _) (g_ λ x _=>dw 0 _) `c (HN ls x) q)
def tE{Q:bK}{x:Nat}(q:Q (.bl (c_ ls x)) M):Nu (.int (x:Int)) (row ls) M Q:=tG (k:=0) (ds:=ls.map D.int) rfl (dw 0 _) (g_ λ x _=>dw 0 _) `c (HN ls x) q
def FD:fM:=λ ds M Q=>∃(m h:Nat)(r:List Row)(ls:Row),ds=[bt r ls]/\cj m h r/\m<64/\∀(p:be)(f:Nat->Nat)(M':Mem),M p=none->M' p>`I->(∀x y,x<m->y<m->(f x=f y↔∀q:Cs,-q=h->¬Dy r ls x y q))->sw M M'->Q `j M'
def Ar{h:Nat}(G:Tb m h r){x:Nat}(hx:x<m):iN (r.map row) (x:Int)>(.tup (((List.range h).map λ i=>aE r i x).map nD)):=by
 have u_:x< -r:=G.len>=hx
 have e:=i5 u_;refine bx ?_;rw[w6,e];have rl:=(G.row _ (A4 u_)).1;have g:r.getD x []=r[x]:=by rw[b8,e];rfl
 refine K8 (λ z=>some (D.tup z)) (y4 λ i=>?_);rw[w6,w6,w6];by_cases hi:i<h
 ·have:=(G.at hx hi).2.1;rw[g,b8,i5 ()]at this;rw[l9 hi,i5 ()];exact K8 (λ z=>some (D.int z)) this
 ·rw[k7 (),k7 (by rw[x9];lia)];rfl
def L9(F:jO K "_law_classes" "_law_classes" (top 30) f fd)(T:kb K mg):bS P w K mg base eQ 1 f fd ["_law_table_here"] (cI K FD):=by
 refine mX F ["_law_table_here","_law_found","_law_turn","_law_rows","_law_some"] (λ dF A outer s H E ds M Q nd hr h=>?_)
 ·let#[m,h,r,ls,rfl,G,hm,k]:=h;have pX:bt r ls=.tup [.tup (r.map row),row ls]:=rfl;have ui:=G.tb.len;have hh:=G.tb.wL;rw[pX];refine⟨_,(aa (av 1 (f_ (lT [0] (aV T.range (aS (ax bT T.len (aS (aI aG `u ag))))) aQ (bM qo T.int (aS (gx (vT hr.units) `u (aI aG `A ag)))))))
 (aa (dS (aV T.range (aS (ax bT T.len (aS (aI aG `u ag))))) (bE 2)
 (aa (cC 3 (lT [1,0] (aV T.range (aS (ax bT T.len (aS (aI aG `u ag))))) aQ (bH bB (de (aS (aI aG `A `u))) (dU aZ bP T.tuple (lT [1] (ck (aI aG (aI aG `N ag) `u)) aQ (aI aG `A `u))))))
 (aa (av 4 (O3 rfl hr.units (by rfl) T.sorted (by rfl) T.set (aS (ai 3))))
 (aj (av 1 (f_ (lT [4] (ck (ai 3)) aQ (dW i7 PySem.F.slot_list_index PySem.F.type_list_index (fQ hr.units) `A (aS `u)))))))))
 (aj (aO `A)))),?_⟩
  rfl';rw[C1,ui];refine#[cw () (),?_];rw[x3,bY];refine fW (xs:=List.range m) (enc:=N') (λ x=>nD (if c_ ls x then 1 else 0)) (by rw[x9];lia) (λ i x N hx hN=>?_) ?_
  ·rw[ye];rfl';refine tE ?_;rfl';have e:D.int (if c_ ls x=true then 1 else 0)=nD (if c_ ls x then 1 else 0):=by cases c_ ls x<;>rfl
   rw[e];exact hN
  intro p0 OE;have E0:=sw.new (sw.rfl (M:=M)) OE (.lst ((List.range m).map λ x=>nD (if c_ ls x then 1 else 0)));have h0:af M p0 (.lst ((List.range m).map λ x=>nD (if c_ ls x then 1 else 0))) p0>(.lst ((List.range m).map λ x=>nD (if c_ ls x then 1 else 0))):=ab;generalize af M p0 (.lst ((List.range m).map λ x=>nD (if c_ ls x then 1 else 0)))=M0 at*;rfl';rw[C1,ui];refine#[cw () (),?_];rw[x3];refine jf (λ t δ M'=>∃(v2 v3 v4:Option D)(p:be)(f:Nat->Nat),δ=[some (.tup [.tup (r.map row),row ls]),some `j,v2,v3,v4]/\M p=none/\M' p>`I/\(∀x y,x<m->y<m->(f x=f y↔cq r ls h t x y))/\sw M M') #[_,_,_,p0,λ x=>if c_ ls x then 1 else 0,rfl,OE,h0,λ x y _ _=>?_,E0] (λ t d δ M' hd hI=>?_) (λ δ M' hI=>?_)
  ·show(if c_ ls x=true then 1 else 0)=(if c_ ls y=true then 1 else 0)↔c_ ls x=c_ ls y;generalize c_ ls x=a;generalize c_ ls y=b;cases a<;>cases b<;>simp
  ·let#[v2,v3,v4,p,f,rfl,hpM,hp,hf,E1]:=hI;rfl';rw[C1,ui];refine#[cw () (),?_];rw[x3,bY];refine fW (xs:=List.range m) (enc:=N') (λ x=>cV (iZ r h f x)) (by rw[x9];lia) (λ i x N hx hN=>?_) ?_
   ·have hx:=rQ hx;rw[ye];rfl';refine b_ hp (d:=nD (f x)) (bx (by rw[w6,l9 hx];rfl)) ?_;rfl';refine bo (Ar G.tb hx) ?_;rfl';refine fW (xs:=(List.range h).map λ i=>aE r i x) (enc:=nD) (λ y=>nD (f y)) (by rw[C1,x9];lia) (λ j y M2 hy hN=>?_) ?_
    ·rw[w6]at hy;let#[i,hi,rfl]:=ca.mp hy;have hi:=rQ hi;rfl';exact b_ hp (d:=nD (f (aE r i x))) (bx (by rw[w6,l9 `M];rfl)) hN
    ·rfl';refine kZ (C1>=(C1>=(x9>=small (by show 1+h<=10000;lia)))) ?_;have e:[D.int ((f x:Nat):Int)]++((List.range h).map λ i=>aE r i x).map (λ y=>nD (f y))=(iZ r h f x).map D.int:=by unfold iZ;rw[D9,G8,G8];rfl
     rw[e];exact hN
   intro pr RQ;have e:(List.range m).map (λ x=>cV (iZ r h f x))=((List.range m).map (iZ r h f)).map cV:=by rw[G8];rfl
   rw[e];have E2:=E1.new RQ (.lst (((List.range m).map (iZ r h f)).map cV));have h2:af M' pr (.lst (((List.range m).map (iZ r h f)).map cV)) pr>(.lst (((List.range m).map (iZ r h f)).map cV)):=ab;generalize af M' pr (.lst (((List.range m).map (iZ r h f)).map cV))=M2 at*;rfl';refine#[pr,(List.range m).map (iZ r h f),rfl,h2,λ z hz=>?_,C1>=(x9>=hm),λ rs ps AQ mem RP=>?_]
   ·let#[x,_,rfl]:=G7.mp hz;unfold iZ;exact cons_ne_nil _ _
   have E3:=E2.new RP (.lst (rs.map cV));have h3:af M2 ps (.lst (rs.map cV)) pr>(.lst (((List.range m).map (iZ r h f)).map cV)):=ak (aU h2 RP)>=h2
   have s3:af M2 ps (.lst (rs.map cV)) ps>(.lst (rs.map cV)):=ab;generalize af M2 ps (.lst (rs.map cV))=M3 at*;have inr:∀x,x<m->iZ r h f x∈rs:=λ x hx=>(mem _).mpr (G7.mpr #[x,ce.mpr hx,rfl]);rfl';refine eB cV (λ z=>nD (Ox rs z)) (by rw[C1,x9];lia) h3 (λ i z N hz hN=>?_) ?_
   ·rfl';refine#[#[rfl,_,s3],?_];rfl';refine iX cV Dm s3 ((mem _).mpr (k9 hz)) (λ a=>yp (k:=0) (g_ λ x _=>dw 0 _)) `c ?_;exact hN
   ·intro q hq;rw[G8];refine#[_,_,_,q,λ x=>Ox rs (iZ r h f x),rfl,E3.free hq,ab,λ x y hx hy=>?_,E3.new hq _];rw[<- LH G hf hx hy];exact Mx (inr x hx) (inr y hy)
  ·let#[v2,v3,v4,p,f,rfl,hpM,hp,hf,E1]:=hI;rw[bc]at hf;rfl';exact au (k p f _ hpM hp (λ x y hx hy=>(hf x y hx hy).trans (Sv G hx hy)) E1)
def Fx:lP:=λ ds cs M Q=>∃(m x:Nat)(g:Nat->Cs)(a:be),ds=[.int x]/\cs=[.ref a]/\M a>(.lst ((List.range m).map λ x=>eY (g x)))/\x<m/\(g x).length<=1000/\Q (.tup [.int ((g x).map kI).sum,row (((g x).map kI).map λ a=>0-a)]) M
def ZZ(M:Mem):Prop:=M 169>(.dE (.lU "_law_least.<locals>.<lambda>"))
structure Wb(m h:Nat)(r:List Row)(ls:Row)(f:Nat->Nat)(g:Nat->Cs)(ord ch:List Nat)(eI:Row):Prop where
 cl:∀x y,x<m->y<m->(f x=f y↔∀q:Cs,-q=h->¬Dy r ls x y q)
 fs:SV m h r g
 perm:ord.Perm (List.range m)
 up:ord.Pairwise λ i j=>klt (EC ((g j).map kI)) (EC ((g i).map kI))=false
 JJ:zL f ord ch
 Hu:gr (-ch) eI
 isl:∀(d x:Nat),ch[d]?>x->c_ eI d=c_ ls x
def Fv:fM:=λ ds M Q=>∃(m h:Nat)(r:List Row)(ls:Row),ds=[bt r ls]/\ZZ M/\cj m h r/\m<=19/\h<=6/\∀f g ord ch eI M',Wb m h r ls f g ord ch eI->sw M M'->Q (bt (ch.map (eE r h f ch)) eI) M'
theorem Wb.tb{h:Nat}{f:Nat->Nat}{g:Nat->Cs}{ord ch:List Nat}{eI:Row}(G:cj m h r)(L:Wb m h r ls f g ord ch eI):cj (-ch) h (ch.map (eE r h f ch))/\-ch<=m:=by
 refine#[L.JJ.tb G L.perm (Ol G L.fs L.perm L.up) λ x y i hx hy hi e=>(L.cl _ _ `M (G.di.cl _ _ hi hy)).mpr (Jm G hx hy hi ((L.cl x y hx hy).mp e)),?_];have AQ:ch.Nodup:=(pairwise_map.mp L.JJ.nd).imp λ z e=>z (by rw[e]);have:=bv AQ (l₂:=List.range m) λ z hz=>L.perm.mem_iff.mp (L.JJ.sub z hz)
 rwa [x9]at this
def Mp(T:kb K mg)(mF:cY P w K mg base 1 "_law_key" ["_law_counts"] Fy):nF P w K mg base 2 (Hy (top 32) 2 "_law_least.<locals>.<lambda>" mg) ["_law_x"] ["_law_first_of"] Fx:=by
 refine Rq (Hq `w (by decide+kernel)) (λ ds cs M Q h=>?_) (λ _ _ _=>Yp λ _=>rfl) (λ A outer s H f c cl ds cs M Q hr h=>?_)
 ·let#[m,x,g,a,rfl,_]:=h;rfl
 ·let#[m,x,g,a,rfl,rfl,ha,hx,hl,k]:=h;refine#[_,(aN mF (aS (aI aG `A `u))),?_];rfl';refine b_ ha (d:=eY (g x)) (bx (by rw[w6,l9 hx];rfl)) ?_;rfl';exact#[(g x).map kI,by rw[Nx],C1>=hl,k]
def LV(F:jT K "_law_least" "_law_least" (top 32) .none 171 f fd)(T:kb K mg)(B:Jq mg base 171 169)(qR:cY P w K mg base 1 "_law_classes" ["_law_table_here"] FD)(mG:cY P w K mg base 9 "_law_first_sums" ["_law_table_here"] Aj)(mF:cY P w K mg base 1 "_law_key" ["_law_counts"] Fy):bS P w K mg base eQ 15 f fd ["_law_table_here"] (cI K Fv):=by
 refine Yc F ["_law_table_here","_law_classes_here","_law_first_of","_law_order","_law_chosen","_law_x","_law_least_own","_law_rows"] (λ A outer s H E ds M Q nd hr h=>?_)
 ·let#[m,h,r,ls,rfl,hT,G,hm,hh,k]:=h;have pX:bt r ls=.tup [.tup (r.map row),row ls]:=rfl;have ui:=G.tb.len;have EE:dN ["_law_x"] ["_law_first_of"] ((Hy (top 32) 2 "_law_least.<locals>.<lambda>" mg)).scope=true:=by kernel_rfl
  have MY:=(Mp (P:=P) (w:=w) (base:=base) T mF).mono (show _<=5 by decide);refine⟨_,(aa (av 1 (aN qR (aS `u)))
 (aa (av 2 (aN mG (aS `u)))
 (aa (av 3 (O4 (k:=5) (L:=Hy (top 32) 2 "_law_least.<locals>.<lambda>" mg) (cn:=[("_law_first_of",2)]) rfl (hr.mono `c) (by rfl) T.sorted (by rfl) T.range (aS (ax bT T.len (aS (aI aG `u ag)))) rfl B rfl rfl `w (Iy `w) (Sy `w) nd))
 (aa (av 4 (cB cD))
 (aa (dS (ck (ai 3)) (bE 5)
 (aj (cG (aK (gE hr.units) (aI aG `A (ai 5)) (f_ (lT [1] (ck (ai 4)) aQ (aI aG `A `u))))
 (aj (bL (dW i7 i4 i6 bC (ai 4) (aS (ai 5)))))
 bg)))
 (aa (av 6 (f_ (lT [1] (ck (ai 4)) aQ (aI aG `A `u))))
 (aa (cC 7 (lT [0,6,1] (ck (ai 4)) aQ (dU aZ bP T.tuple (lT [2,3] (ck (aI aG (aI aG `A ag) `u)) aQ (dW i7 PySem.F.slot_list_index PySem.F.type_list_index (fQ hr.units) `A (aS (aI aG `N `u)))))))
 (aj (aO (de (cT (bM aZ T.tuple (aS (ai 7))) (dU aZ bP T.tuple (TL [0] (gT T.enumerate (aS (ai 4))) (jz (aK (vT hr.units) `A (aI aG `N ag))) `u))))))))))))),?_⟩
  rfl';refine#[m,h,r,ls,rfl,G,(),λ pc f M1 uj MM hf E1=>?_];rfl';refine#[m,h,r,ls,rfl,G,hm,hh,λ pg g M2 hpg hg Vt E2=>?_];have MM:=E2 _ _ MM;have E2:=E1.trans E2;rw[pX];rfl';rw[C1,ui];refine#[m,["_law_x"],["_law_first_of"],Fx,[.ref pg],λ lE M'=>M'=M2/\-lE<=m/\∀i k,lE[i]?>k->NP true M' k (EC ((g i).map kI)),λ i=>EC ((g i).map kI),rfl,(),MY,EE,rfl,rfl,λ i x j d a b=>?_,E2 _ _ hT,#[rfl,J9 _,λ i k e=>by simp at e],?_,?_]
  ·cases i with
   |zero=>cases a;cases b;rfl
   |succ i=>cases a
  ·rintro lE M' ⟨rfl,kl,kk⟩ gm;have gl:=(hg (-lE) gm).1.1;refine#[m,-lE,g,pg,rfl,rfl,Vt,gm,(),rfl,?_,λ i k e=>?_]
   ·rw[p4,j9];lia
   ·by_cases hi:i< -lE
    ·rw[c7 hi]at e;exact kk i k e
    ·rw[b7 ()]at e;have VA:i-lE.length=0:=by have:=(g9.mp e).1;simp at this;lia
     rw[VA]at e;have hik:i=-lE:=()
     subst hik;exact(B7 e).symm
  rintro lE M' ⟨rfl,kl,kk⟩ hlen;refine#[kk,λ po outD WV ho=>?_];let#[ord,rfl,perm,up]:=yr ho;have mo:∀x∈ord,x<m:=λ x hx=>ce.mp (perm.mem_iff.mp hx);have ol:-ord=m:=by rw[perm.length_eq,x9]
  have E3:=E2.new WV (.lst (ord.map nD));have RS:af M' po (.lst (ord.map nD)) pc>`I:=ak (aU MM WV)>=MM
  have RR:af M' po (.lst (ord.map nD)) po>(.lst (ord.map nD)):=ab;generalize af M' po (.lst (ord.map nD))=M3 at*;have fx:∀x,x<m->iN ((List.range m).map λ x=>nD (f x)) (x:Int)>nD (f x):=λ x hx=>bx (by rw[w6,l9 hx];rfl);clear kk kl ho MY EE Vt;rfl';intro ph Tg;have YZ:=E3.free Tg;have E4:=E3.new Tg `H;have ng:af M3 ph `H pc>`I:=ak (aU RS Tg)>=RS
  have yQ:af M3 ph `H po>(.lst (ord.map nD)):=ak (aU RR Tg)>=RR
  have pW:af M3 ph `H ph>(.lst (([]:List Nat).map nD)):=ab;have pho:po≠ph:=aU RR Tg;have phc:pc≠ph:=aU RS Tg;generalize af M3 ph `H=M4 at*;rfl';refine BL (ds:=ord.map nD) (λ i δ M'=>∃(v5:Option D)(ch:List Nat),δ=[some (.tup [.tup (r.map row),row ls]),some (.ref pc),some (.ref pg),some (.ref po),some (.ref ph),v5,none,none]/\zL f (ord.take i) ch/\M' ph>(.lst (ch.map nD))/\M' po>(.lst (ord.map nD))/\M' pc>`I/\sw M M') #[_,[],rfl,zL.nil f,pW,yQ,ng,E4] (λ i δ M' _ hI=>?_) (λ i d δ M' hd hI=>?_) (λ δ M' hI=>?_)
  ·let#[_,_,_,_,_,h5,_]:=hI;exact h5
  ·clear pW yQ ng E4;let#[v5,ch,rfl,C,pW,yQ,ng,E4]:=hI;rw[w6]at hd;let#[x,hx,rfl]:=ca.mp hd;have xm:=mo x (k9 hx);have cm:∀c∈ch,c<m:=λ c hc=>mo c (mem_of_mem_take (C.sub c hc));have cl:-ch<=m:=by
    have AQ:ch.Nodup:=(pairwise_map.mp C.nd).imp λ z e=>z (by rw[e]);have:=bv AQ (l₂:=List.range m) λ z hz=>ce.mpr (cm z hz)
    rwa [x9]at this
   rfl';refine b_ ng (fx x xm) ?_;rfl';refine eB nD (λ y=>nD (f y)) () pW (λ j y N hy hN=>?_) ?_
   ·rfl';exact b_ ng (fx y (cm y (k9 hy))) hN
   intro pt Ic;have e5:(ch.map λ y=>nD (f y))=(ch.map f).map nD:=by rw[G8];rfl
   rw[e5];have E5:=E4.new Ic `E;have yR:af M' pt `E ph>(.lst (ch.map nD)):=ak (aU pW Ic)>=pW
   have Vs:af M' pt `E po>(.lst (ord.map nD)):=ak (aU yQ Ic)>=yQ
   have ML:af M' pt `E pc>`I:=ak (aU ng Ic)>=ng
   have MJ:af M' pt `E pt>`E:=ab;generalize af M' pt `E=M5 at*;refine pA (k:=0) (b:=decide (f x∈ch.map f)) (ds:=(ch.map f).map nD) (cJ MJ) (dw 0 _) (g_ λ x _=>dw 0 _) `c (by rw[bn];exact(tW cg.inj _).symm) ?_;have tk:=take_one hx;refine kX (λ hz=>?_) (λ hz=>?_)
   ·have hz:f x∉ch.map f:= ~~~hz
    rfl';refine#[#[rfl,_,yR],?_];rfl';refine fu yR (C1>=p8 (show -ch<=300 by lia) `c) ?_;refine#[_,ch++[x],rfl,tk>=C.add hz,by rw[ab,C4];rfl,ak pho>=Vs,ak phc>=ML,E5.own YZ]
   ·have hz:f x∈ch.map f:=Decidable.not_not.mp (~~~hz);exact#[_,ch,rfl,tk>=C.skip hz,yR,Vs,ML,E5]
  clear pW yQ ng E4;let#[v5,ch,rfl,C,pW,yQ,ng,E4]:=hI;rw[C1,A0]at C;have cm:∀c∈ch,c<m:=λ c hc=>mo c (C.sub c hc);have cl:-ch<=m:=by
   have AQ:ch.Nodup:=(pairwise_map.mp C.nd).imp λ z e=>z (by rw[e]);have:=bv AQ (l₂:=List.range m) λ z hz=>ce.mpr (cm z hz)
   rwa [x9]at this
  rfl';refine eB nD (λ y=>nD (f y)) () pW (λ j y N hy hN=>?_) ?_
  ·rfl';exact b_ ng (fx y (cm y (k9 hy))) hN
  intro pt Ic;have e5:(ch.map λ y=>nD (f y))=(ch.map f).map nD:=by rw[G8];rfl
  rw[e5];have E5:=E4.new Ic `E;have yR:af M' pt `E ph>(.lst (ch.map nD)):=ak (aU pW Ic)>=pW
  have ML:af M' pt `E pc>`I:=ak (aU ng Ic)>=ng
  have MJ:af M' pt `E pt>`E:=ab;generalize af M' pt `E=M5 at*;rfl';refine eB nD (λ x=>row (eE r h f ch x)) () yR (λ j x N hx hN=>?_) ?_
  ·have xm:=cm x (k9 hx);rfl';refine bo (Ar G.tb xm) ?_;rfl';refine fW (xs:=(List.range h).map λ i=>aE r i x) (enc:=nD) (λ y=>nD (BG f ch y)) (by rw[C1,x9];lia) (λ j y M2 hy hN=>?_) ?_
   ·rw[w6]at hy;let#[i,hi,rfl]:=ca.mp hy;have ym:=G.di.cl _ _ (rQ hi) xm;rfl';refine#[#[rfl,_,MJ],?_];rfl';refine b_ ML (fx _ ym) ?_;rfl';exact iX nD cg.inj MJ (C.Sw _ (perm.mem_iff.mpr (ce.mpr ym))) cg.pl `c hN
   ·rfl';have e6:((List.range h).map λ i=>aE r i x).map (λ y=>nD (BG f ch y))=(eE r h f ch x).map D.int:=by unfold eE;rw[G8,G8];rfl
    rw[e6];exact hN
  intro pr RQ;have e7:(ch.map λ x=>row (eE r h f ch x))=(ch.map (eE r h f ch)).map row:=by rw[G8];rfl
  rw[e7];have E6:=E5.new RQ (.lst ((ch.map (eE r h f ch)).map row));have Y0:af M5 pr (.lst ((ch.map (eE r h f ch)).map row)) ph>(.lst (ch.map nD)):=ak (aU yR RQ)>=yR
  have YY:af M5 pr (.lst ((ch.map (eE r h f ch)).map row)) pr>(.lst ((ch.map (eE r h f ch)).map row)):=ab;generalize af M5 pr (.lst ((ch.map (eE r h f ch)).map row))=M6 at*;rfl';refine bX YY ?_;rfl';refine uE (ds:=eK (ch.map nD)) (λ i jp M7=>M7=M6/\∃xB:Row,jp=xB.map D.int/\gr i xB/\∀d x,d<i->ch[d]?>x->c_ xB d=c_ ls x) #[rfl,[],rfl,gr.nil 0,λ d x z=>bi z ()] (λ i jp M7 _ h=>?_) (λ i jp M7 hi h=>?_) (λ i d jp M7 hd h=>?_) (λ jp M7 h=>?_)
  ·let#[rfl,_]:=h;show eO (.ref ph) M7=_;unfold eO;rw[cJ Y0];rfl
  ·let#[rfl,xB,rfl,L,_]:=h;rw[bR,C1]at hi;have:=L.bZ;rw[C1];exact small ()
  ·let#[rfl,xB,rfl,L,is]:=h;let#[hi,rfl]:=ib hd;rw[C1]at hi;obtain⟨x,hx⟩:∃x,ch[i]?>x:=#[_,i5 hi];rw[show(ch.map nD).getD i .bf=.int (x:Int) by rw[b8,w6,hx];rfl];rfl';refine tE ?_;have out:c_ xB i=false:=by unfold c_;exact B4 λ z=>by have:=(L.2 _ z).2;lia
   refine kX (λ hz=>?_) (λ hz=>?_)
   ·rfl';refine#[rfl,xB++[(i:Int)],by rw[C4];rfl,L.add,λ d y hd hy=>?_];by_cases z:d=i
    ·subst z;rw[hx]at hy;cases hy;rw[hz];unfold c_;exact C9 `g
    ·rw[<- is d y () hy];unfold c_;have:(d:Int)≠(i:Int):=()
     simp[this]
   ·refine#[rfl,xB,rfl,L.up,λ d y hd hy=>?_];by_cases z:d=i
    ·subst z;rw[hx]at hy;cases hy;rw[hz,out]
    ·exact is d y () hy
  ·let#[rfl,xB,rfl,L,is]:=h;rw[bR,C1]at L is;rfl';exact au (k f g ord ch xB _ #[hf,hg,perm,up,C,L,λ d x hx=>is d x (g9.mp hx).1 hx] E6)
def Fu:fM:=λ ds M Q=>∃(p:Cs)(i:Nat),ds=[eY p,.int i]/\i< -p/\-p<=1000/\Q (eY (inc p i)) M
def Rh:Option Nat->D
 |none=>.bf
 |some m=>.int m
def Al(P:Program)(w:World)(K:L8)(mg:Str->Option ac)(base:Heap):fM:=λ ds M Q=>∃(α:Type)(_:DecidableEq α)(enc:α->D)(t:Bool)(S:α->Prop)(F:Nat->α->α)(s0:α)(h m:Nat)(mo:Option Nat)(f:be)(U:List α)(L:iC)(ps fv:List Str)(sp:lP)(cs:List D)(C:CM),
 ds=[.int h,enc s0,.ref f,Rh mo]/\(mo>m\/(mo=none/\-U<m))/\(∀a b,enc a=enc b->a=b)/\(∀s,iD t (enc s))/\jP S h F/\S s0/\(∀s,S s->s∈U)/\-U<=1000/\h<=12/\nF P w K mg base 5 L ps fv sp/\qt M f L fv cs C/\
 (∀M1 s i Q',sw M M1->S s->i<h->(∀M',sw (fF M1 C) M'->Q' (enc (F i s)) M')->sp [enc s,.int i] cs (fF M1 C) Q')/\
 ∀(p:be)(kt:List (Cs×α))(M':Mem),M p=none->M' p>(.lst ((kt.take m).map (ni enc)))->Wg F s0 h m kt->sw M M'->Q `j M'
def Dv{Q:Bool->Mem->Prop}{mo:Option Nat}(h3:δ[3]?>(some (Rh mo)))(h4:δ[4]?>(some `j))(hp:M p>`B)(hm:mo>m\/(mo=none/\-ds<m))(q:Q (decide ((-ds:Int)<(m:Int))) M):XT (rN (Ks (Nt false) (gZ 3) (sC D.bf))) (rN (Ks (Nv λ i j=>D.bl (decide (i<j))) (Um BZ (iy (gZ 4) tj)) (gZ 3))) δ M Q:=by
 refine Ob (nK (Aw (gf h3 (Ux ?_))));rcases hm with rfl|⟨rfl,lt⟩
 ·refine jD (by simp[oN,Rh]) ?_;refine nK (Aw (Oe (kY (gf h4 (ke (fm (tu hp ?_)))))));exact gf h3 (Od q)
 ·refine pC ?_;rw[show decide ((-ds:Int)<(m:Int))=true from C9 ()]at q;exact q
def rV{Q:bK}{mo:Option Nat}(h3:δ[3]?>(some (Rh mo)))(h4:δ[4]?>(some `j))(hp:M p>`B)(hm:mo>m\/(mo=none/\-ds<m))(q:∀r,M r=none->Q (.ref r) (af M r (.lst (ds.take m)))):XS zk (gZ 4) td (ya (gZ 3)) δ M Q:=by
 refine Oa (gf h4 (rT (vH (gf h3 ?_))));rcases hm with rfl|⟨rfl,lt⟩
 ·refine Dt hp () ?_;rw[x3];exact q
 ·refine yf hp ?_;rw[j2 ()]at q;exact q
def LS(F:jO K "one_more" "one_more" (top 3) f fd)(T:kb K mg):bS P w K mg base eQ 1 f fd ["counts","heap"] (cI K Fu):=by
 refine mX F ["counts","heap"] (λ dF A outer s H E ds M Q nd hr h=>?_)
 ·let#[p,i,rfl,hi,hp,k]:=h;have Tf:p[i]?>p[i]:=i5 hi;refine#[_,(aj (aO (bH bB (bH bB (sR FL `u sQ (zP `A)) (de (aS (bH bB (aI aG `u `A) ag)))) (sR FL `u (zP (bH bB `A ag)) sQ)))),?_];unfold eY at k ⊢;rfl';refine F_ () ?_;rfl';refine bo (d:=.int (p[i]:Nat)) (bx (by rw[w6,Tf];rfl)) ?_;rfl';refine kZ (small (by simp;lia)) ?_;rfl';refine yg () ?_;refine kZ (small (by simp;lia)) ?_;refine au ?_;rw[show((i:Int)).toNat=i by lia,show((i:Int)+1).toNat=i+1 by lia];rw[<- HR Tf,C4,C4,map_take,map_drop]at k;exact k
def vR(F:jT K "first_sums" "first_sums" (top 4) (.ref 29) 35 f fd)(T:kb K mg)(zd:cY P w K mg base 1 "one_more" ["counts","heap"] Fu):bS P w K mg base eQ 7 f fd ["heaps","start","gone","most"] (cI K (Al P w K mg base)):=by
 refine Yc F ["heaps","start","gone","most","told","known","done","counts","heap","there"] (λ A outer s H E ds M Q nd hr h=>?_)
 ·let#[α,_,enc,t,S,F,s0,h,m,mo,f,U,L,ps,fv,sp,cs,C,rfl,Y6,inj,eW,CM,BA,hU,hUl,hh,hL,MZ,Tj,k]:=h;refine⟨_,(aa (av 4 (cB (aS (de (cT (bH kg (de (aS ag)) `u) `A)))))
 (aa (av 5 (zR hr.units `A O8))
 (aa (av 6 ag)
 (aa (eD (oB (aK mi (ai 6) (ax jl T.len (aS (ai 4)))) (nH (EM (aK Hd (ai 3) EX) (xQ (aK mi (ax jl T.len (aS (ai 4))) (ai 3)))).pt)).pt
 (aa (av 7 (aI `R (aI `R (ai 4) (ai 6)) ag))
 (aa (dS (aV T.range (aS `u)) (bE 8)
 (aa (av 9 (zS (k:=5) (i:=2) (hr.mono `c) (by rfl) (by first|exact Or.inl rfl|exact Or.inr (Or.inl rfl)|exact Or.inr (Or.inr rfl)) (cT (aI `R (aI `R (ai 4) (ai 6)) ag) (ai 8))))
 (aj (cG (aK (vS hr.units) (ai 9) (ai 5))
 (aa (fh O8 (gU (ai 5) (ai 9) (x_ hr.units)))
 (aj (bL (dW i7 i4 i6 bC (ai 4) (aS (de (cT (aN zd (cT (ai 7) (ai 8))) (ai 9))))))))
 bg))))
 (aj (JS 6 ag)))))
 (aj (aO (sR FL (ai 4) sQ (ET (ai 3))))))))),?_⟩
  rfl';refine vI () () ?_;rw[x3];rfl';intro p hp;have W_:sw M (af M p (.lst [.tup [.tup (List.replicate h (.int 0)),enc s0]])):=sw.new sw.rfl hp _;have OE:af M p (.lst [.tup [.tup (List.replicate h (.int 0)),enc s0]]) p>(.lst ([(gs h,s0)].map (ni enc))):=by rw[ab];show _>MO.lst [.tup [eY (gs h),enc s0]];unfold eY gs;rw[map_replicate];rfl
  generalize af M p (.lst [.tup [.tup (List.replicate h (.int 0)),enc s0]])=M0 at*;rfl';refine vJ t λ q hq=>?_;have Vp:M q=none:=W_.free hq;have jQ:p≠q:=aU OE hq;rfl';refine#[ab,eW s0,?_];rw[dX];have hE1:sw M (af M0 q (.bV t [(enc s0,.bl true)])):=W_.new hq _;have va:af M0 q (.bV t [(enc s0,.bl true)]) p>(.lst ([(gs h,s0)].map (ni enc))):=ak jQ>=OE
  have Vq:af M0 q (.bV t [(enc s0,.bl true)]) q>(.bV t (jY enc ([(gs h,s0)].map λ e=>(e.2,.bl true)))):=ab;generalize af M0 q (.bV t [(enc s0,.bl true)])=M1 at*;have hkl:∀{kt:List (Cs×α)},(jY enc (kt.map λ e=>(e.2,D.bl true))).length=-kt:=λ{kt}=>by simp[jY]
  have Zd:∀{kt:List (Cs×α)},(kt.map λ e=>(e.2,D.bl true)).map (·.1)=kt.map (·.2):=λ{kt}=>by rw[G8];rfl
  have hS:∀{kt:List (Cs×α)},zI F s0 h kt->(∀e∈kt,S e.2)/\-kt<=-U:=λ{kt} hi=>by
   have h1:∀e∈kt,S e.2:=λ e he=>by have:=hi.ent e he;rw[<- this.2];exact CM.bj e.1 0 s0 (by rw[this.1.1];lia) BA
   refine#[h1,?_];have:=bv hi.nd (l₂:=U) λ x hx=>by let#[e,he,rfl]:=G7.mp hx;exact hU _ (h1 e he)
   rwa [C1]at this
  rfl';refine eG #[λ m' δ M'=>∃(v7 v8 v9:Option D)(kt:List (Cs×α))(d:Nat),δ=[some (.int h),some (enc s0),some `C,some (Rh mo),some `j,some (.ref q),some (.int d),v7,v8,v9]/\sw M M'/\M' p>(.lst (kt.map (ni enc)))/\M' q>(.bV t (jY enc (kt.map λ e=>(e.2,.bl true))))/\uY F s0 h kt d 0/\d<=-kt/\m'=-U+1-d,#[_,none,none,none,_,0,rfl,hE1,va,Vq,uY.start F s0 h,(),rfl],?_];rintro m' δ M' ⟨v7,v8,v9,kt,d,rfl,hE,h_,MI,hB,Tp,rfl⟩;have hlen:=(hS hB.gI).2;have fin:Wg F s0 h m kt->∀(r:be),M' r=none->fin2 Q (.ref r) (af M' r (.lst ((kt.take m).map (ni enc)))):=λ hf r hr=>au (k r kt _ (hE.free hr) ab hf (hE.new hr _));rfl';refine fm (tu h_ ?_);rw[C1];rfl';refine aL (λ gm=>?_) (λ MV=>?_)
  ·refine Dv rfl rfl h_ (m:=m) (by rw[C1];exact Y6.imp id λ z=>#[z.1,by have:=z.2;lia]) ?_;rw[C1];refine aL (λ hlm=>?_) (λ hgm=>?_)
   ·obtain⟨⟨a,s⟩,hs⟩:∃e,kt[d]?>e:=#[_,i5 ()];have R7:iN (kt.map (ni enc)) (d:Int)>(.tup [eY a,enc s]):=bx (by rw[w6,hs];rfl);refine#[λ δ' M'=>∃(v7 v8 v9:Option D)(kt:List (Cs×α)),δ'=[some (.int h),some (enc s0),some `C,some (Rh mo),some `j,some (.ref q),some (.int ((d:Int)+1)),v7,v8,v9]/\sw M M'/\M' p>(.lst (kt.map (ni enc)))/\M' q>(.bV t (jY enc (kt.map λ e=>(e.2,.bl true))))/\uY F s0 h kt (d+1) 0/\d+1<=-kt,?_,?_]
    ·rintro δ' M2 ⟨v7,v8,v9,cU,rfl,a1,a2,a3,a4,a5⟩;exact#[_,(),v7,v8,v9,cU,d+1,rfl,a1,a2,a3,a4,a5,rfl]
    ·rfl';refine cE (b_ h_ R7 ?_);rfl';refine cE (bo (d:=eY a) rfl ?_);rfl';refine#[cw () (),?_];rw[x3];refine jf (λ i δ M2=>∃(v8 v9:Option D)(kt:List (Cs×α)),δ=[some (.int h),some (enc s0),some `C,some (Rh mo),some `j,some (.ref q),some (.int d),some (eY a),v8,v9]/\sw M M2/\M2 p>(.lst (kt.map (ni enc)))/\M2 q>(.bV t (jY enc (kt.map λ e=>(e.2,.bl true))))/\uY F s0 h kt d i/\kt[d]?>(a,s)) #[v8,v9,kt,rfl,hE,h_,MI,hB,hs] (λ i y δ M2 hd2 VB=>?_) (λ δ M2 VB=>?_)
     ·clear h_ MI hE hB hs R7 fin gm hlm hlen Tp;let#[v8,v9,kt,rfl,hE,h_,MI,hB,hs]:=VB;let#[hi,rfl]:=dC hd2;have R7:iN (kt.map (ni enc)) (d:Int)>(.tup [eY a,enc s]):=bx (by rw[w6,hs];rfl);let#[hSe,hlen]:=hS hB.gI;have VH:S s:=hSe _ (k9 hs);have W6:-a=h:=(hB.gI.ent _ (k9 hs)).1.1;have W0:M2 f=M2 f:=rfl;rfl';have pZ:=lD MZ hE;let#[cl,vc,_]:=pZ.ex;refine Gm rfl #[L,cl,vc] ?_;rfl';refine cE (b_ h_ R7 ?_);rfl';refine cE (bo (d:=enc s) rfl ?_);rfl';refine#[L,ps,fv,sp,cs,C,hL,pZ,?_];rw[G1];refine Tj M2 s i _ hE VH hi λ M3 ZC=>?_;have VM:=sw.uG pZ.uG ZC;have hp4:=VM _ _ h_;have RO:=VM _ _ MI;have hE5:=hE.trans VM;generalize ip M3 C=M4 at*;rfl';refine rS RO (eW _) ?_;by_cases lH:F i s∈kt.map (·.2)
      ·rw[show(!(cL (jY enc (kt.map λ e=>(e.2,D.bl true))) (enc (F i s))).isSome)=false by
        let#[e,he,ee]:=G7.mp lH;rw[<- ee,gH (x:=e.2) (d:=.bl true) inj (Zd>=hB.gI.nd) (G7.mpr #[e,he,rfl])];rfl]
       rfl';exact#[_,_,kt,rfl,hE5,hp4,RO,hB.old CM BA hi hs lH,hs]
      ·rw[show(!(cL (jY enc (kt.map λ e=>(e.2,D.bl true))) (enc (F i s))).isSome)=true by
        rw[jF inj (Zd>=lH)];rfl]
       rfl';refine tm RO (eW _) (hkl>=p8 (show -kt<=1000 by lia) `c) ?_;rw[nO inj _ (Zd>=lH)];have RU:af M4 q `O p>(.lst (kt.map (ni enc))):=ak jQ>=hp4
       have YW:af M4 q `O q>(.bV t (jY enc ((kt++[(inc a i,F i s)]).map λ e=>(e.2,.bl true)))):=by rw[ab,C4];rfl
       have hE6:sw M (af M4 q `O):=hE5.own Vp;generalize af M4 q `O=M5 at*;rfl';refine#[#[rfl,_,RU],?_];rfl';refine#[a,i,rfl,(),(),?_];rfl';refine fu RU (C1>=p8 (show -kt<=1000 by lia) `c) ?_;refine#[_,_,kt++[(inc a i,F i s)],rfl,hE6.own hp,?_,?_,hB.new CM BA hi hs lH,?_]
       ·rw[ab,C4];rfl
       ·rw[ak (K9 jQ)];exact YW
       ·rw[c7 (g9.mp hs).1];exact hs
     ·let#[v8,v9,kt,rfl,hE,h_,MI,hB,hs]:=VB;rw[bc]at hB;have:=(g9.mp hs).1;rfl';exact#[1,rfl,_,_,_,kt,rfl,hE,h_,MI,hB.turn,()]
   ·with_reducible refine yi ?_
    refine rV rfl rfl h_ (m:=m) (by rw[C1];exact Y6.imp id λ z=>#[z.1,by have:=z.2;lia]) λ r hr=>?_;rw[<- map_take];exact fin #[hB.gI,.inl ()] r hr
  ·with_reducible refine Ay ?_
   with_reducible refine yi ?_
   refine rV rfl rfl h_ (m:=m) (by rw[C1];exact Y6.imp id λ z=>#[z.1,by have:=z.2;lia]) λ r hr=>?_;rw[<- map_take];exact fin #[hB.gI,.inr λ x hx=>hB.all CM BA () _ x (Nat.lt_succ_self _) hx] r hr
def IH{cs:Row}(h:(eK (cs.map D.int))[i]?>d):i< -cs/\cs[i]?>cs.getD i 0/\cs.take (i+1)=cs.take i++[cs.getD i 0]/\d=.tup [.int (i:Int),.int (cs.getD i 0)]:=by
 let#[hi,e]:=ib h;rw[C1]at hi;have e1:cs[i]?>cs.getD i 0:=by rw[b8,i5 hi];rfl
 refine#[hi,e1,by rw[take_add_one,e1];rfl,?_];rw[e,b8,w6,e1];rfl
abbrev qz(kv:List (Nat×Nat)):List (D×D):=jY nD (kv.map λ e=>(e.1,nD e.2))
def Ms(kv:List (Nat×Nat)):(qz kv).length=-kv:=by simp[jY]
def yG(kv:List (Nat×Nat)):(kv.map λ e=>(e.1,nD e.2)).map (·.1)=kv.map (·.1):=by rw[G8];rfl
def yF{v:Nat}(AQ:(kv.map (·.1)).Nodup)(h:(y,v)∈kv):cL (qz kv) (nD y)>nD v:=gH cg.inj (yG>=AQ) (G7.mpr #[_,h,rfl])
def Ve(h:y∉kv.map (·.1)):cL (qz kv) (nD y)=none:=jF cg.inj (yG>=h)
def Rr{v:Nat}(h:y∉kv.map (·.1)):putD (qz kv) (nD y) (nD v)=qz (kv++[(y,v)]):=by unfold qz;rw[nO cg.inj _ (yG>=h),C4];rfl
def FE:fM:=λ ds M Q=>∃(m h m2 x:Nat)(r q:List Row),ds=[.tup (r.map row),.tup (q.map row),.int x]/\cj m h r/\Tb m2 h q/\x<m2/\∀(p:be)(kv:List (Nat×Nat))(M':Mem),M p=none->M' p>(.bV false (qz kv))->Crd m r q h x kv->sw M M'->Q `j M'
def Ag:fM:=λ ds M Q=>∃(m h x:Nat)(r:List Row),ds=[.tup (r.map row),.int x]/\cj m h r/\x<m/\∀(p:be)(kv:List (Nat×Nat))(M':Mem),M p=none->M' p>(.bV false (qz kv))->Crd m r r h x kv->sw M M'->Q `j M'
def L_(F:jO K "carried" "carried" (top 9) f fd)(T:kb K mg):bS P w K mg base eQ 1 f fd ["steps","others","start"] (cI K FE):=by
 refine mX F ["steps","others","start","told","waiting","thing","heap","later"] (λ dF A outer s H E ds M Q nd hr h=>?_)
 ·let#[m,h,m2,x,r,q,rfl,G,T2,hx,k]:=h;have hm:=G.tb.bZ;have hh:=G.tb.wL;refine⟨_,(aa (av 3 (zR hr.units ag `N))
 (aa (av 4 (cB (aS ag)))
 (aa (eD (aK (AO hr.units) (ai 4) (cB cD))
 (aa (av 5 (TN i7 PySem.F.slot_list_pop PySem.F.type_list_pop Oo (ai 4)))
 (aj (dS (gT T.enumerate (aS (aI `R `u (ai 5)))) (oD (n:=2) (dq (bE 6) (dq (bE 7) kM)))
 (aj (cG (aK (vS hr.units) (ai 7) (ai 3))
 (aa (fh (aI `R (aI `R `A (aI `R (ai 3) (ai 5))) (ai 6)) (gU (ai 3) (ai 7) (x_ hr.units)))
 (aj (bL (dW i7 i4 i6 bC (ai 4) (aS (ai 7))))))
 bg))))))
 (aj (aO (ai 3)))))),?_⟩
  rfl';refine vJ false λ p hp=>?_;rfl';refine#[ab,gh 0,?_];rw[dX];have E1:sw M (af M p (.bV false [(.int 0,.int x)])):=sw.new sw.rfl hp _;have h1:af M p (.bV false [(.int 0,.int x)]) p>(.bV false (qz [(0,x)])):=ab;generalize af M p (.bV false [(.int 0,.int x)])=M1 at*;rfl';intro w hw;have hwM:=E1.free hw;have pw:p≠w:=aU h1 hw;have E2:=E1.new hw (.lst [.int 0]);have h2:af M1 w (.lst [.int 0]) p>(.bV false (qz [(0,x)])):=ak pw>=h1
  have w2:af M1 w (.lst [.int 0]) w>(.lst ([0].map nD)):=ab;generalize af M1 w (.lst [.int 0])=M2 at*;clear E1 h1 M1 hw;rfl';refine eG #[λ me δ M'=>∃(v5 v6 v7:Option D)(kv:List (Nat×Nat))(ws:List Nat),δ=[some (.tup (r.map row)),some (.tup (q.map row)),some (.int x),some `j,some (.ref w),v5,v6,v7]/\M' p>(.bV false (qz kv))/\M' w>(.lst (ws.map nD))/\CA r q h x kv ws/\sw M M'/\-ws<=-kv/\me=2*(m-kv.length)+-ws,#[_,none,none,none,[(0,x)],[0],rfl,h2,w2,CA.start r q h x,E2,J7 _,rfl],?_];clear h2 w2 E2 M2;rintro me δ M1 ⟨v5,v6,v7,kv,ws,rfl,h1,w1,C,E1,lw,rfl⟩;have kf:=C.bZ G T2 hx;rfl';intro e he;refine Ax (k:=0) (b:=decide (ws=[])) (ak (aU w1 he)>=w1) ab (g_ λ x _=>dw 0 _) (λ e he=>by cases he) `c (Hk (by rw[bn])) ?_;have h1:af M1 e `H p>(.bV false (qz kv)):=ak (aU h1 he)>=h1
  have w1:af M1 e `H w>(.lst (ws.map nD)):=ak (aU w1 he)>=w1
  have E1:=E1.new he `H;generalize af M1 e `H=M2 at*;refine kX (λ hn=>?_) (λ hn=>?_)
  ·have hn:ws≠[]:= ~~~hn
   obtain⟨ES,y,rfl⟩:∃ES y,ws=ES++[y]:=#[_,_,(dropLast_concat_getLast hn).symm];let#[v,CI]:=C.pop;have hy:=AE G T2 hx (C.pr _ CI.at');refine#[λ δ' M'=>∃(v5 v6 v7:Option D)(mL:List (Nat×Nat))(xy:List Nat),δ'=[some (.tup (r.map row)),some (.tup (q.map row)),some (.int x),some `j,some (.ref w),v5,v6,v7]/\M' p>(.bV false (qz mL))/\M' w>(.lst (xy.map nD))/\CA r q h x mL xy/\sw M M'/\-kv+-xy=-mL+-ES/\-kv<=-mL,?_,?_]
   ·rintro δ' M' ⟨v5,v6,v7,mL,xy,rfl,a1,a2,a3,a4,a5,a6⟩;have:=a3.bZ G T2 hx;rw[p4,j9]at lw;exact#[_,by rw[p4,j9];lia,v5,v6,v7,mL,xy,rfl,a1,a2,a3,a4,(),rfl]
   rfl';refine#[#[rfl,_,w1],?_];rfl';refine PL (ds:=ES.map nD) (y:=nD y) (by rw[w1,C4];rfl) ?_;have h1:af M2 w (.lst (ES.map nD)) p>(.bV false (qz kv)):=ak pw>=h1
   have w1:af M2 w (.lst (ES.map nD)) w>(.lst (ES.map nD)):=ab;have E1:sw M (af M2 w (.lst (ES.map nD))):=E1.own hwM;generalize af M2 w (.lst (ES.map nD))=M3 at*;let#[r1,r2,r3]:=FW G.tb hy.1;let#[q1,q2,q3]:=FW T2 hy.2;rfl';refine cE (bo r1 ?_);rfl';refine jf (λ i δ M'=>∃(v6 v7:Option D)(mL:List (Nat×Nat))(xy:List Nat),δ=[some (.tup (r.map row)),some (.tup (q.map row)),some (.int x),some `j,some (.ref w),some (nD y),v6,v7]/\M' p>(.bV false (qz mL))/\M' w>(.lst (xy.map nD))/\rh r q h x mL xy y v i/\sw M M'/\-kv+-xy=-mL+-ES/\-kv<=-mL/\-mL<=m) #[v6,v7,kv,ES,rfl,h1,w1,CI,E1,rfl,J7 _,kf] (λ i d δ M' hd hI=>?_) (λ δ M' hI=>?_)
   ·clear h1 w1 CI E1;let#[v6,v7,mL,xy,rfl,h1,w1,CI,E1,l1,l2,l3]:=hI;let#[hi,e1,_,rfl]:=IH hd;rw[r2]at hi;have ex:(r.getD y []).getD i 0=(aE r i y:Int):=(G.tb.at hy.1 hi).2.1;rw[ex];have ez:D.int (aE r i y:Int)=nD (aE r i y):=rfl;rw[ez];rfl';refine rS h1 (gh _) ?_;by_cases lH:aE r i y∈mL.map (·.1)
    ·let#[en,he,ee]:=G7.mp lH;rw[show(!(cL (qz mL) (nD (aE r i y))).isSome)=false by rw[<- ee,yF CI.nd (v:=en.2) he];rfl];rfl';exact#[_,_,mL,xy,rfl,h1,w1,CI.old lH,E1,l1,l2,l3]
    ·rw[show(!(cL (qz mL) (nD (aE r i y))).isSome)=true by rw[Ve lH];rfl];rfl';refine tw h1 (gh _) (yF CI.nd CI.at') ?_;rfl';refine cE (bo q1 ?_);rfl';refine cE (bo (d:=nD (aE q i v)) ?_ ?_)
     ·exact(sS T2 hy.2 hi).2
     rfl';refine tm h1 (gh _) (Ms>=p8 (show -mL<=300 by lia) `c) ?_;rw[Rr lH];have w2:af M' p (.bV false (qz (mL++[(aE r i y,aE q i v)]))) w>(.lst (xy.map nD)):=ak (K9 pw)>=w1
     have h2:af M' p (.bV false (qz (mL++[(aE r i y,aE q i v)]))) p>(.bV false (qz (mL++[(aE r i y,aE q i v)]))):=ab;have E2:sw M (af M' p (.bV false (qz (mL++[(aE r i y,aE q i v)])))):=E1.own hp;generalize af M' p (.bV false (qz (mL++[(aE r i y,aE q i v)])))=M4 at*;have CN:=CI.new hi lH;have nf:=CN.nd;have l4:(mL++[(aE r i y,aE q i v)]).length<=m:=by
      have:=bv nf (l₂:=List.range m) λ z hz=>by let#[e,he,rfl]:=G7.mp hz;exact ce.mpr (AE G T2 hx (CN.pr e he)).1
      rwa [C1,x9]at this
     rfl';refine#[#[rfl,_,w2],?_];rfl';refine fu w2 (C1>=p8 (show -xy<=700 by rw[p4,j9]at lw;lia) `c) ?_;refine#[_,_,_,xy++[aE r i y],rfl,ak pw>=h2,by rw[ab,C4];rfl,CN,E2.own hwM,?_,?_,l4]
     ·rw[p4,p4,j9,j9];lia
     ·rw[p4];lia
   ·let#[v6,v7,mL,xy,rfl,h1,w1,CI,E1,l1,l2,l3]:=hI;rw[bR,C1,r2]at CI;exact#[_,_,_,mL,xy,rfl,h1,w1,CI.done,E1,l1,l2]
  ·have hn:ws=[]:= ~~~hn
   subst hn;rfl';exact au (k p kv _ hp h1 (C.crd G T2 hx) E1)
def GZ(F:jO K "put_to" "put_to" (top 10) f fd)(T:kb K mg)(Eh:cY P w K mg base 1 "carried" ["steps","others","start"] FE):bS P w K mg base eQ 2 f fd ["steps","x"] (cI K Ag):=by
 refine mX F ["steps","x"] (λ dF A outer s H E ds M Q nd hr h=>?_)
 ·let#[m,h,x,r,rfl,G,hx,k]:=h;refine#[_,(aj (aO (aN Eh (O1 `u `u `A)))),?_];rfl';refine#[m,h,m,x,r,r,rfl,G,G.tb,hx,λ p kv M' hp h1 C E1=>?_];exact au (k p kv M' hp h1 C E1)
def Fw:fM:=λ ds M Q=>∃(m h x:Nat)(r:List Row)(ls:Row),ds=[bt r ls,.int x]/\cj m h r/\x<m/\∀M',sw M M'->Q (Tw (uZ m r h ls x)) M'
def FA:fM:=λ ds M Q=>∃(m h:Nat)(r:List Row)(ls:Row),ds=[bt r ls]/\cj m h r/\∀(p:be)(M':Mem),M p=none->M' p>(.lst ((fz (eM m r h ls)).map nD))->sw M M'->Q `j M'
def Bx[DecidableEq α]{T:List α}{b:α}(h:T[i]?>b)(n:b∉T.take i):RD T b=i:=by
 have lt:=(g9.mp h).1;have a:=fE (k9 h);have le:T.idxOf b<=i:=by
  refine y8 λ z=>?_;have e:=take_append_drop i T;have:T.idxOf b=(T.take i++T.drop i).idxOf b:=by rw[e]
  rw[idxOf_append,L7 n,c9 lt]at this;have hb:T[i]=b:=(g9.mp h).2;rw[hb,wB,A3]at this;lia
 refine C5 le (y8 λ z=>n ?_);refine k9 (i:=RD T b) ?_;rw[getElem?_take_of_lt z];exact a
structure Kn(T:List (List Bool))(kvs:List (List Bool×D))(i:Nat):Prop where
 len:-kvs<=i
 look:∀b,lB kvs b=if b∈T.take i then some (nD (RD T b))else none
def Kn.old{T:List (List Bool)}{kvs:List (List Bool×D)}{b0:List Bool}(k:Kn T kvs i)(h:T[i]?>b0)(n:b0∈T.take i):Kn T kvs (i+1):=
 ⟨by have:=k.len;lia,λ b=>by
  rw[k.look,take_one h];by_cases z:b∈T.take i
  ·rw[L1 z,L1 (l0 _ z)]
  ·rw[L7 z,L7 λ q=>(C3.mp q).elim z λ q=>z (q8.mp q>=n)]⟩
def Kn.new{T:List (List Bool)}{kvs:List (List Bool×D)}{b0:List Bool}(k:Kn T kvs i)(h:T[i]?>b0)(n:b0∉T.take i):Kn T (kvs++[(b0,nD i)]) (i+1):=by
 refine#[by rw[p4,j9];have:=k.len;lia,λ b=>?_];have kl:=k.look b;unfold lB at kl ⊢;rw[find?_append,take_one h];cases e:kvs.find? λ p=>decide (p.1=b)with
 |some p=>
  rw[e]at kl;show some p.2=_;by_cases z:b∈T.take i
  ·rw[L1 z]at kl;rw[L1 (l0 _ z)];exact kl
  ·rw[L7 z]at kl;cases kl
 |none=>
  rw[e]at kl;have z:b∉T.take i:=λ z=>by rw[L1 z]at kl;cases kl
  by_cases q:b0=b
  ·subst q;rw[L1 `g,Bx h n];simp
  ·rw[L7 λ w=>(C3.mp w).elim z λ w=>q (q8.mp w).symm];simp[q]
def LW(F:jO K "losing_beside" "losing_beside" (top 12) f fd)(T:kb K mg)(IT:cY P w K mg base 2 "put_to" ["steps","x"] Ag):bS P w K mg base eQ 3 f fd ["table","x"] (cI K Fw):=by
 refine mX F ["table","x","beside"] (λ dF A outer s H E ds M Q nd hr h=>?_)
 ·let#[m,h,x,r,ls,rfl,G,hx,k]:=h;have pX:bt r ls=.tup [.tup (r.map row),row ls]:=rfl;rw[pX];have hm:=G.tb.bZ;have ui:=G.tb.len;refine⟨_,(aa (av 2 (aN IT (cT (aI `R `u ag) `A)))
 (aj (aO (dU aZ bP T.tuple (lT [2,0] (aV T.range (aS (ax jl T.len (aS (aI `R `u ag))))) aQ (gx (U5 hr.units) (aI `R `A `u) (aI `R `N ag))))))),?_⟩
  rfl';refine cE (bo (d:=.tup (r.map row)) rfl ?_);rfl';refine#[m,h,x,r,rfl,G,hx,λ p kv M' hp h1 C E1=>?_];rfl';refine cE (bo (d:=.tup (r.map row)) rfl ?_);rfl';refine fm ?_;rfl';rw[C1,ui];refine#[cw () (),?_];rw[x3,bY];refine fW (xs:=List.range m) (enc:=N') (λ y=>.bl (c_ ls (mul r h x y))) (by rw[x9];lia) (λ i y N hy hN=>?_) ?_
  ·have hy:=rQ hy;let#[v,hv]:=C.all y hy;have ev:v=mul r h x y:=tV G hx (C.pr _ hv);subst ev;rfl';rw[As];refine tw h1 (gh _) (yF C.nd hv) ?_;rfl';refine cE (bo (d:=row ls) rfl ?_);rfl';exact KW hN
  ·rfl';have e:D.tup ((List.range m).map λ y=>D.bl (c_ ls (mul r h x y)))=Tw (uZ m r h ls x):=by unfold Tw uZ;rw[G8];rfl
   rw[e];exact au (k _ E1)
def LZ(F:jO K "first_alike" "first_alike" (top 13) f fd)(T:kb K mg)(nu:cY P w K mg base 3 "losing_beside" ["table","x"] Fw):bS P w K mg base eQ 4 f fd ["table"] (cI K FA):=by
 refine mX F ["table","known"] (λ dF A outer s H E ds M Q nd hr h=>?_)
 ·let#[m,h,r,ls,rfl,G,k]:=h;have pX:bt r ls=.tup [.tup (r.map row),row ls]:=rfl;have hm:=G.tb.bZ;have ui:=G.tb.len;refine⟨_,(aa (av 1 EY)
 (aj (aO (f_ (lT [1,0] (aV T.range (aS (ax jl T.len (aS (aI `R `u ag))))) aQ (CW hr.units `A (cT (aN nu (cT `N `u)) `u))))))),?_⟩
  rfl';intro q hq;have E1:sw M (af M q (.dE (.uN []))):=sw.new sw.rfl hq _;have h1:af M q (.dE (.uN [])) q>(.dE (.uN [])):=ab;generalize af M q (.dE (.uN []))=M1 at*;rfl';refine cE ?_;rw[pX];refine bo (d:=.tup (r.map row)) rfl ?_;rfl';refine fm ?_;rfl';rw[C1,ui];refine#[cw () (),?_];rw[x3,bY];refine jk (xs:=List.range m) (enc:=N') nD (λ ys M'=>ys=(fz (eM m r h ls)).take (-ys)/\sw M M'/\∃kvs,M' q>(.dE (.uN kvs))/\Kn (eM m r h ls) kvs (-ys)) (by rw[x9];lia) #[rfl,E1,[],h1,J7 _,λ b=>by simp[lB]] (λ i x ys M' N hx hl hI hN=>?_) (λ ys M' hl hI=>?_)
  ·let#[e1,E2,kvs,h2,kn]:=hI;have Td:x=i:=by have:=(g9.mp hx).1;rw[x9]at this;rw[l9 this]at hx;exact(B7 hx).symm
   have hx:=rQ hx;have ta:=dJ (r:=r) (h:=h) (ls:=ls) hx;have na:`m[x]?>RD (eM m r h ls) (uZ m r h ls x):=by have:=HG (K:=fz (eM m r h ls)) (x:=x) (by rw[nQ];simp[eM];exact hx);rw[kh ta]at this;exact this
   rw[hl,<- Td]at e1 kn;have fin:∀M2 mY,sw M M2->M2 q>(.dE (.uN mY))->Kn (eM m r h ls) mY (x+1)->N (nD (RD (eM m r h ls) (uZ m r h ls x))) M2:=λ M2 mY a b c=>hN _ _ #[by rw[p4,j9,hl,<- Td,take_one na,<- e1],a,mY,b,by rw[p4,j9,hl,<- Td];exact c];have kl:=kn.len;rfl';refine#[#[q,kvs,rfl,h2],?_];rfl';rw[As];refine#[m,h,x,r,ls,rfl,G,hx,λ M3 E3=>?_];have h3:=E3 _ _ h2;rfl';refine#[q,kvs,uZ m r h ls x,nD x,rfl,rfl,h3,p8 (show -kvs<=300 by lia) `c,λ u hu=>?_,λ hn=>?_]
   ·rw[kn.look]at hu;split at hu
    ·next z=>
     cases hu;exact fin _ kvs (E2.trans E3) h3 (kn.old ta z)
    ·cases hu
   ·rw[kn.look]at hn;split at hn
    ·cases hn
    ·next z=>
     have ix:=Bx ta z;have:=fin (af M3 q (.dE (.uN (kvs++[(uZ m r h ls x,nD x)])))) _ ((E2.trans E3).own hq) ab (kn.new ta z);rw[ix]at this;exact this
  ·let#[e1,E2,kvs,h2,kn]:=hI;rw[x9]at hl;rw[hl,j2 (by rw[nQ];simp[eM])]at e1;subst e1;intro p hp;exact au (k p _ (E2.free hp) ab (E2.new hp _))
noncomputable def WC(ns:List Nat):List (D×D):=jY nD ((List.range (-ns)).map λ d=>(ns.getD d 0,nD d))
def AF(ns:List Nat)(i:Nat)(hi:i<=-ns):((List.range i).map λ d=>(ns.getD d 0,nD d)).map (·.1)=ns.take i:=by
 rw[G8];refine y4 λ j=>?_;rw[w6];by_cases z:j<i
 ·rw[l9 z,getElem?_take_of_lt z];show some (ns.getD j 0)=_;rw[b8,i5 ()];rfl
 ·rw[k7 (by rw[x9];lia),k7 (by rw[A3];lia)];rfl
def UN{ns:List Nat}(AQ:ns.Nodup){d s:Nat}(h:ns[d]?>s):cL (WC ns) (nD s)>nD d:=by
 have lt:=(g9.mp h).1;have e:ns.getD d 0=s:=by rw[b8,h];rfl
 refine gH cg.inj (AF ns (-ns) `G>=(A0>=AQ)) (G7.mpr #[d,ce.mpr lt,by rw[e]])
def NY:fM:=λ ds M Q=>∃(a:be)(ns:List Nat),ds=[.ref a]/\M a>(.lst (ns.map nD))/\ns.Nodup/\-ns<=1000/\∀(p:be)(M':Mem),M p=none->M' p>(.bV false (WC ns))->sw M M'->Q `j M'
def Af(P:Program)(w:World)(K:L8)(mg:Str->Option ac)(base:Heap):fM:=λ ds M Q=>∃(S:Nat->Prop)(F:Nat->Nat->Nat)(h s:Nat)(f q:be)(aB:List Nat)(L:iC)(ps fv:List Str)(sp:lP)(cs:List D)(C:CM),
 ds=[.int s,.int h,.ref f,.ref q]/\h<=12/\S s/\aB.Nodup/\M q>(.bV false (WC aB))/\(∀i,i<h->F i s∈aB)/\nF P w K mg base 5 L ps fv sp/\qt M f L fv cs C/\
 (∀M1 s i Q',sw M M1->S s->i<h->(∀M',sw (fF M1 C) M'->Q' (nD (F i s)) M')->sp [nD s,.int i] cs (fF M1 C) Q')/\
 ∀(r:Row)(M':Mem),bW F aB s h r->sw M M'->Q (row r) M'
def Fs(P:Program)(w:World)(K:L8)(mg:Str->Option ac)(base:Heap):fM:=λ ds M Q=>∃(S:Nat->Prop)(F:Nat->Nat->Nat)(gG:Nat->Bool)(h s0:Nat)(f g:be)(U:List Nat)(L:iC)(ps fv:List Str)(sp:lP)(cs:List D)(C:CM)(L2:iC)(X6 W':List Str)(Wy:lP)(Xc:List D)(C2:CM),
 ds=[.int h,.int s0,.ref f,.ref g]/\h<=12/\jP S h F/\S s0/\(∀s,S s->s∈U)/\-U<=300/\nF P w K mg base 5 L ps fv sp/\qt M f L fv cs C/\
 (∀M1 s i Q',sw M M1->S s->i<h->(∀M',sw (fF M1 C) M'->Q' (nD (F i s)) M')->sp [nD s,.int i] cs (fF M1 C) Q')/\
 nF P w K mg base 5 L2 X6 W' Wy/\qt M g L2 W' Xc C2/\(∀M1 s Q',sw M M1->S s->(∀M',sw (fF M1 C2) M'->Q' (.bl (gG s)) M')->Wy [nD s] Xc (fF M1 C2) Q')/\
 ∀(aB:List Nat)(io:List Row)(ls:Row)(M':Mem),(∃kt:List (Cs×Nat),aB=kt.map (·.2)/\zI F s0 h kt/\∀q,fZ F s0 h q->q∈kt.map (·.1))->kH F s0 h U aB io->-io=-aB->gr (-aB) ls->(∀d s,aB[d]?>s->c_ ls d=gG s)->sw M M'->Q (bt io ls) M'
theorem BF{F:Nat->Nat->Nat}{s0 h:Nat}:∀(cs:Cs)(i s:Nat),i+-cs<=h->j_ F h s0 s->j_ F h s0 (bj F i s cs)
 |[],i,s,_,R=>R
 |c::cs,i,s,hl,R=>by
  rw[y9]at hl;have:∀n s,j_ F h s0 s->j_ F h s0 (dA (F i) n s):=λ n=>by
   induction n with
   |zero=>exact λ s R=>R
   |succ n ih=>exact λ s R=>lF>=.step (ih s R) ()
  exact BF cs (i+1) _ () (this c s R)
def Q5(F:jO K "places_of" "places_of" (top 1) f fd)(T:kb K mg):bS P w K mg base eQ 1 f fd ["names"] (cI K NY):=by
 refine mX F ["names","places","number","name"] (λ dF A outer s H E ds M Q nd hr h=>?_)
 ·let#[a,ns,rfl,ha,AQ,hl,k]:=h;refine⟨_,(aa (av 1 (EZ false))
 (aa (dS (gT T.enumerate (aS `u)) (oD (n:=2) (dq (bE 2) (dq (bE 3) kM)))
 (aj (fh `N (gU `A (ai 3) (x_ hr.units)))))
 (aj (aO `A)))),?_⟩
  rfl';intro q hq;have E1:sw M (af M q (.bV false [])):=sw.new sw.rfl hq _;have h1:af M q (.bV false []) q>(.bV false (jY nD ((List.range 0).map λ d=>(ns.getD d 0,nD d)))):=ab;have ha1:=E1 _ _ ha;have qa:q≠a:=K9 (aU ha hq);generalize af M q (.bV false [])=M1 at*;rfl';refine Sh (ds:=eK (ns.map nD)) (λ i δ M'=>∃v2 v3:Option D,δ=[some `z,some (.ref q),v2,v3]/\sw M M'/\M' q>(.bV false (jY nD ((List.range i).map λ d=>(ns.getD d 0,nD d))))) #[_,_,rfl,E1,h1] (λ i δ M' _ hI=>?_) (λ i d δ M' hd hI=>?_) (λ δ M' hI=>?_)
  ·let#[_,_,_,E2,_]:=hI;show eO `z M'=_;unfold eO;rw[cJ (E2 _ _ ha)];rfl
  ·let#[v2,v3,rfl,E2,h2]:=hI;let#[hi,rfl]:=ib hd;rw[C1]at hi;have en:(ns.map nD).getD i .bf=nD (ns.getD i 0):=by rw[b8,w6,i5 hi,b8,i5 hi];rfl
   rw[en];rfl';refine tm h2 (gh _) (by simp[jY];exact p8 (show i<=1000 by lia) `c) ?_;have hn:ns.getD i 0∉((List.range i).map λ d=>(ns.getD d 0,nD d)).map (·.1):=by rw[AF ns i ()];intro z;let#[j,hj]:=ci z;have lj:=(g9.mp hj).1;rw[A3]at lj;rw[getElem?_take_of_lt ()]at hj;have:=rX AQ hj (show ns[i]?>ns.getD i 0 by rw[b8,i5 hi];rfl);lia
   rw[nO cg.inj _ hn];refine#[_,_,rfl,E2.own hq,?_];rw[ab,range_succ,C4];rfl
  ·let#[v2,v3,rfl,E2,h2]:=hI;rw[bR,C1]at h2;rfl';exact au (k q _ hq h2 E2)
def GY(F:jO K "row_of" "row_of" (top 6) f fd)(T:kb K mg):bS P w K mg base eQ 6 f fd ["there","heaps","gone","places"] (cI K (Af P w K mg base)):=by
 refine mX F ["there","heaps","gone","places"] (λ dF A outer s H E ds M Q nd hr h=>?_)
 ·let#[S,F,h,s,f,q,aB,L,ps,fv,sp,cs,C,rfl,hh,hs,AQ,hq,lH,hL,MZ,Tj,k]:=h;refine#[_,(aj (aO (dU aZ bP T.tuple (lT [3,2,0] (aV T.range (aS `A)) aQ (aI `R `A (vm (P:=P) (w:=w) (K:=K) (mg:=mg) (base:=base) rfl rfl rfl rfl rfl (k:=5) (i:=2) (hr.mono `c) (by rfl) (by first|exact Or.inl rfl|exact Or.inr (Or.inl rfl)|exact Or.inr (Or.inr rfl)) (cT (ai 3) `u))))))),?_];rfl';refine#[cw () (),?_];rw[x3,bY];refine jk (xs:=List.range h) (enc:=N') D.int (λ r M'=>sw M M'/\bW F aB s (-r) r) (by rw[x9];lia) #[sw.rfl,bW.nil F aB s] (λ i x r M' N hx hl hI hN=>?_) (λ r M' hl hI=>?_)
  ·let#[E1,R]:=hI;have Td:x=i:=by have:=(g9.mp hx).1;rw[x9]at this;rw[l9 this]at hx;exact(B7 hx).symm
   have hx:=rQ hx;rw[hl,<- Td]at R;rfl';have pZ:=lD MZ E1;let#[cl,vc,_]:=pZ.ex;refine Gm rfl #[L,cl,vc] ?_;rfl';refine#[L,ps,fv,sp,cs,C,hL,pZ,?_];rw[As];refine Tj M' s x _ E1 hs hx λ M3 ZC=>?_;have VM:=sw.uG pZ.uG ZC;have E5:=E1.trans VM;have YW:=E5 _ _ hq;generalize ip M3 C=M4 at*;have hi:=fE (lH x hx);rfl';refine tw YW (gh _) (UN AQ hi) ?_;have RN:=R.next hi;refine hN _ _ #[E5,?_];rw[p4,j9,hl,<- Td];exact RN
  ·let#[E1,R]:=hI;rw[x9]at hl;rfl';rw[hl]at R;exact au (k r M' R E1)
def LQ(F:jO K "numbered" "numbered" (top 7) f fd)(T:kb K mg)(uC:OY P w K mg base 7 "first_sums" ["heaps","start","gone","most"] (Al P w K mg base))(wW:cY P w K mg base 1 "places_of" ["names"] NY)(IS:cY P w K mg base 6 "row_of" ["there","heaps","gone","places"] (Af P w K mg base)):bS P w K mg base eQ 13 f fd ["heaps","start","gone","is_losing"] (cI K (Fs P w K mg base)):=by
 refine mX F ["heaps","start","gone","is_losing","things","places","steps"] (λ dF A outer s H E ds M Q nd hr h=>?_)
 ·let#[S,F,gG,h,s0,f,g,U,L,ps,fv,sp,cs,C,L2,X6,W',Wy,Xc,C2,rfl,hh,CM,BA,hU,hUl,hL,MZ,Tj,hL2,pZ,hlo,k]:=h;refine⟨_,(aa (cC 4 (TL [] (ck (O7 uC (O1 `u `A `N))) aQ `A))
 (aa (av 5 (aN wW (aS (ai 4))))
 (aa (av 6 (dU aZ bP T.tuple (lT [0,2,5] (ck (ai 4)) aQ (aN IS (bF `u (bF `A (bF `N (bF (ai 3) cD))))))))
 (aj (aO (de (cT (ai 6) (dU aZ bP T.tuple (TL [3] (gT T.enumerate (aS (ai 4))) (jz (oC (vm (P:=P) (w:=w) (K:=K) (mg:=mg) (base:=base) rfl rfl rfl rfl rfl (k:=5) (i:=2) (hr.mono `c) (by rfl) (by first|exact Or.inl rfl|exact Or.inr (Or.inl rfl)|exact Or.inr (Or.inr rfl)) (aS `A)))) `u))))))))),?_⟩
  rfl';refine#[Nat,inferInstance,nD,false,S,F,s0,h,-U+1,none,f,U,L,ps,fv,sp,cs,C,rfl,.inr #[rfl,Nat.lt_succ_self _],cg.inj,gh,CM,BA,hU,(),hh,hL,MZ,Tj,λ p kt M1 hp h1 FS E1=>?_];have hS:∀e∈kt,S e.2:=λ e he=>by have:=FS.gI.ent e he;rw[<- this.2];exact CM.bj e.1 0 s0 (by rw[this.1.1];lia) BA
  have hlen:-kt<=-U:=by
   have:=bv FS.gI.nd (l₂:=U) λ x hx=>by let#[e,he,rfl]:=G7.mp hx;exact hU _ (hS e he)
   rwa [C1]at this
  rw[j2 ()]at h1;have all:∀q,fZ F s0 h q->q∈kt.map (·.1):=FS.ZN.resolve_left ();have cl:∀s∈kt.map (·.2),∀i,i<h->F i s∈kt.map (·.2):=λ s hs i hi=>by let#[e,he,rfl]:=G7.mp hs;have ee:=FS.gI.ent e he;let#[q,fq,eq,_]:=fZ.ex F s0 h (p:=inc e.1 i) (eU>=ee.1.1);let#[e2,To,e3]:=G7.mp (all q fq);refine G7.mpr #[e2,To,?_];rw[<- (FS.gI.ent e2 To).2,e3,eq,CM.inc e.1 0 i s0 (by rw[ee.1.1];lia) (ee.1.1>=hi) BA,ee.2,H9]
  have Yl:=FS.gI.nd;have iH:(kt.map (·.2))[0]?>s0:=by rw[w6,FS.gI.iH];rfl
  have rW:∀s∈kt.map (·.2),j_ F h s0 s:=λ s hs=>by let#[e,he,rfl]:=G7.mp hs;have ee:=FS.gI.ent e he;rw[<- ee.2];exact BF e.1 0 s0 (by rw[ee.1.1];lia) .zero
  have VH:∀s∈kt.map (·.2),S s:=λ s hs=>by let#[e,he,rfl]:=G7.mp hs;exact hS e he
  rfl';refine eB (ni nD) (λ e:Cs×Nat=>nD e.2) () h1 (λ i e N he hN=>?_) ?_
  ·have Zl:ni nD e=.tup [eY e.1,.int (e.2:Int)]:=rfl;rw[Zl];rfl';exact hN
  intro q hq;have e1:kt.map (λ e:Cs×Nat=>nD e.2)=(kt.map (·.2)).map nD:=by rw[G8];rfl
  rw[e1];have ab2:(kt.map (·.2)).length=-kt:=C1 _;have Xu:∃cU:List (Cs×Nat),kt.map (·.2)=cU.map (·.2)/\zI F s0 h cU/\∀q,fZ F s0 h q->q∈cU.map (·.1):=#[kt,rfl,FS.gI,all];generalize kt.map (·.2)=aB at*;have E2:=E1.new hq (.lst (aB.map nD));have h2:af M1 q (.lst (aB.map nD)) q>(.lst (aB.map nD)):=ab;generalize af M1 q (.lst (aB.map nD))=M2 at*;rfl';refine#[q,aB,rfl,h2,Yl,(),λ d M3 hd h3 E3=>?_];have E3':=E2.trans E3;have h23:=E3 _ _ h2;rfl';refine qm nD row (λ rs M'=>sw M M'/\M' q>(.lst (aB.map nD))/\M' d>(.bV false (WC aB))/\∀(j:Nat)(r:Row),rs[j]?>r->∃s,aB[j]?>s/\bW F aB s h r) () #[E3',h23,h3,λ j r z=>by simp at z] (λ _ _ z=>z.2.1) (λ i s rs M' N hs hl hI hN=>?_) (λ rs M' hl hI=>?_)
  ·let#[E4,RO,Zm,YU]:=hI;have hsm:=k9 hs;rfl';refine#[S,F,h,s,f,d,aB,L,ps,fv,sp,cs,C,rfl,hh,VH s hsm,Yl,Zm,λ i hi=>cl s hsm i hi,hL,lD MZ E4,λ M5 s i Q' E5=>Tj M5 s i Q' (E4.trans E5),λ r M5 R E5=>?_];refine hN _ _ #[E4.trans E5,E5 _ _ RO,E5 _ _ Zm,λ j r' z=>?_];by_cases g:j< -rs
   ·rw[c7 g]at z;exact YU j r' z
   ·have lt:=(g9.mp z).1;rw[p4,j9]at lt;have:j=-rs:=()
    subst this;rw[b7 `G,Nat.sub_self]at z;cases z;exact#[s,hl>=hs,R]
  ·let#[E4,RO,Zm,YU]:=hI;have ex:kH F s0 h U aB rs:=#[Yl,iH,rW,λ s hs=>hU s (VH s hs),YU];rfl';refine uE (ds:=eK (aB.map nD)) (λ i jp M7=>sw M M7/\M7 q>(.lst (aB.map nD))/\∃ls:Row,jp=ls.map D.int/\gr i ls/\∀d s,d<i->aB[d]?>s->c_ ls d=gG s) #[E4,RO,[],rfl,gr.nil 0,λ d s z=>bi z ()] (λ i jp M7 _ h=>?_) (λ i jp M7 hi h=>?_) (λ i dd jp M7 hd h=>?_) (λ jp M7 h=>?_)
   ·let#[_,z,_]:=h;show eO (.ref q) M7=_;unfold eO;rw[cJ z];rfl
   ·let#[_,_,ls,rfl,LL,_]:=h;rw[bR,C1]at hi;have:=LL.bZ;rw[C1];exact small ()
   ·let#[E7,hq7,ls,rfl,LL,mm]:=h;let#[hi,rfl]:=ib hd;rw[C1]at hi;obtain⟨s,hs⟩:∃s,aB[i]?>s:=#[_,i5 hi];have es:(aB.map nD).getD i .bf=nD s:=by rw[b8,w6,hs];rfl
    rw[es];rfl';have R9:=lD pZ E7;let#[cl7,Zq,_]:=R9.ex;refine Gm rfl #[L2,cl7,Zq] ?_;rfl';refine#[L2,X6,W',Wy,Xc,C2,hL2,R9,?_];refine hlo M7 s _ E7 (VH s (k9 hs)) λ M8 hE8=>?_;have hE9:=sw.uG R9.uG hE8;have E9:=E7.trans hE9;have hq9:=hE9 _ _ hq7;generalize ip M8 C2=M9 at*;have low:∀d:Nat,(d:Int)∈ls->d<i:=λ d hd=>by have:=LL.2 _ hd;lia
    cases z:gG s with
    |true=>
     rfl';refine#[E9,hq9,ls++[(i:Int)],by rw[C4];rfl,LL.add,λ d s' hd fT=>?_];by_cases g:d=i
     ·subst g;rw[hs]at fT;cases fT;rw[z];exact C9 `g
     ·rw[<- mm d s' () fT];unfold c_;refine decide_eq_decide.mpr ?_;rw[C3,q8];exact#[λ o=>o.elim id λ o=>bi (Int.ofNat.inj o) g,.inl]
    |false=>
     rfl';refine#[E9,hq9,ls,rfl,LL.up,λ d s' hd fT=>?_];by_cases g:d=i
     ·subst g;rw[hs]at fT;cases fT;rw[z];exact B4 λ o=>bi (low d o) (D8 _)
     ·exact mm d s' () fT
   ·let#[E7,hq7,ls,rfl,LL,mm]:=h;rw[bR,C1]at LL mm;rfl';exact au (k aB rs ls _ Xu ex hl LL (λ d s hs=>mm d s (g9.mp hs).1 hs) E7)
def FG:lP:=λ ds cs M Q=>∃(m h x i:Nat)(r:List Row)(K:List Nat)(a:be),ds=[.int x,.int i]/\cs=[.ref a,.tup (r.map row)]/\M a>(.lst (K.map nD))/\Tb m h r/\-K=m/\x<m/\i<h/\Q (nD (kd K (aE r i x))) M
def NZ:lP:=λ ds cs M Q=>∃(x:Nat)(r:List Row)(ls:Row),ds=[.int x]/\cs=[bt r ls]/\Q (.bl (c_ ls x)) M
def Ct(M:Mem):Prop:=M 72>(.dE (.lU "least.<locals>.<lambda>"))
def Ai:fM:=λ ds M Q=>∃(m h:Nat)(r:List Row)(ls:Row),ds=[bt r ls]/\Ct M/\cj m h r/\∀(kt:List (Cs×Nat))(io:List Row)(eI:Row)(M':Mem),Ey m h r ls kt io eI->sw M M'->Q (bt io eI) M'
def Eu{C:CM}{o:MO}(hn:∀b d,C b>d->M b=none)(h:M a>o):ip M C a>o:=by
 rcases dv C a with z|⟨d,z⟩
 ·rw[lN z];exact h
 ·rw[hn a d z]at h;cases h
def Mq(T:kb K mg):nF P w K mg base 1 (rZ (top 14) 2 "least.<locals>.<lambda>" mg) ["x","heap"] ["alike","steps"] FG:=by
 refine Rq (Hq `w (by decide+kernel)) (λ ds cs M Q h=>?_) (λ _ _ _=>ln2 λ _ _=>rfl) (λ A outer s H f c cl ds cs M Q hr h=>?_)
 ·let#[m,h,x,i,r,K,a,rfl,_]:=h;rfl
 ·let#[m,h,x,i,r,K,a,rfl,rfl,ha,G,hK,hx,hi,k]:=h;have ta:=sS G hx hi;refine#[_,(aI aG `N (aI aG (aI aG (ai 3) `u) `A)),?_];rfl';refine bo (d:=.tup ((r.getD x []).map D.int)) ta.1 ?_;rfl';refine bo ta.2 ?_;rfl';exact b_ ha (Vg (by have:=G.sV hi x hx;lia)) k
def Rp(T:kb K mg):nF P w K mg base 1 (rZ (top 14) 3 "least.<locals>.<lambda>" mg) ["x"] ["table"] NZ:=by
 refine Rq (Hq `w (by decide+kernel)) (λ ds cs M Q h=>?_) (λ _ _ _=>Yp λ _=>rfl) (λ A outer s H f c cl ds cs M Q hr h=>?_)
 ·let#[x,r,ls,rfl,_]:=h;rfl
 ·let#[x,r,ls,rfl,rfl,k]:=h;have pX:bt r ls=.tup [.tup (r.map row),row ls]:=rfl;rw[pX];refine#[_,(gx (vT hr.units) `u (aI aG `A ag)),?_];rfl';exact tE k
def G_(F:jT K "least" "least" (top 14) .none 76 f fd)(T:kb K mg)(B:Jq mg base 76 72)(qS:cY P w K mg base 4 "first_alike" ["table"] FA)(ze:cY P w K mg base 13 "numbered" ["heaps","start","gone","is_losing"] (Fs P w K mg base)):bS P w K mg base eQ 14 f fd ["table"] (cI K Ai):=by
 refine Yc F ["table","steps","alike"] (λ A outer s H E ds M Q nd hr h=>?_)
 ·let#[m,h,r,ls,rfl,hT,G,k]:=h;have pX:bt r ls=.tup [.tup (r.map row),row ls]:=rfl;have H_:=Ku G.tb;have ui:=G.tb.len;have KN:=gg ls G;have CM:=KN.di G;have EE:dN ["x","heap"] ["alike","steps"] ((rZ (top 14) 2 "least.<locals>.<lambda>" mg)).scope=true:=by kernel_rfl
  have Y8:dN ["x"] ["table"] ((rZ (top 14) 3 "least.<locals>.<lambda>" mg)).scope=true:=by kernel_rfl
  have MY:=(Mq (P:=P) (w:=w) (base:=base) T).mono (show 1<=5 by decide);have VI:=(Rp (P:=P) (w:=w) (base:=base) T).mono (show 1<=5 by decide);refine⟨_,(aa (av 1 (aI aG `u ag))
 (aa (av 2 (aN qS (aS `u)))
 (aj (aO (JT (cn:=[("alike",2),("steps",1),("table",0)]) ze (hr.mono `c) (by rfl) (Ja `w) nd (bF (ax bT T.len (aS (aI aG `A ag))) (bF ag (bF (NT (L:=rZ (top 14) 2 "least.<locals>.<lambda>" mg) rfl B rfl rfl `w (Iy `w)) (bF (NT (L:=rZ (top 14) 3 "least.<locals>.<lambda>" mg) rfl B rfl rfl `w (Iy `w)) cD))))))))),?_⟩
  rw[pX];rfl';refine#[m,h,r,ls,rfl,G,λ a M1 ha h1 E1=>?_];rfl';refine bo H_.1 ?_;rfl';rw[C1,H_.2];have Zx:Ct M1:=E1 _ _ hT;refine Gi Zx λ lf WZ vc=>?_;have hT2:∀o,Ct (af M1 lf o):=λ o=>by unfold Ct;rw[ak (aU Zx WZ)];exact Zx
  rfl';refine Gi (hT2 _) λ lg Y' ac'=>?_;have E2:=λ o2=>(sw.new (sw.rfl (M:=M1)) WZ _).trans (sw.new sw.rfl Y' o2);have efg:lf≠lg:=λ z=>by subst z;rw[ab]at Y';cases Y'
  rfl';refine#[λ x j hx=>?_,λ C hC hn=>?_]
  ·simp only[E8,not_mem_nil,or_false,Prod.mk.injEq]at hx;rcases hx with⟨_,rfl⟩|⟨_,rfl⟩|⟨_,rfl⟩
   ·exact#[_,rfl]
   ·exact#[_,rfl]
   ·exact#[_,rfl]
  have MZ:=wd (cs:=[.ref a,.tup (r.map row)]) EE rfl (λ i x hx=>by
   match i,hx with
   |0,hx=>cases hx;exact#[2,by simp,λ d hd=>by cases hd;rfl]
   |1,hx=>cases hx;exact#[1,by simp,λ d hd=>by cases hd;rfl]
   |(n+2),hx=>simp at hx) hC (ak efg>=ab) hn
  have pZ:=wd (cs:=[bt r ls]) Y8 rfl (λ i x hx=>by
   match i,hx with
   |0,hx=>cases hx;exact#[0,by simp,λ d hd=>by cases hd;rfl]
   |(n+1),hx=>simp at hx) hC ab hn
  have hA2:=Eu hn (E2 _ _ _ h1);refine#[λ s=>s<m/\kd `m s=s,λ i s=>kd `m (aE r i s),c_ ls,h,0,lf,lg,List.range m,_,_,_,FG,_,C,_,_,_,NZ,_,C,rfl,G.tb.wL,CM,#[G.tb.pos,KN.iH],λ s hs=>ce.mpr hs.1,x9>=G.tb.bZ,MY,MZ,λ M4 s i Q' E4 hs hi q=>?_,VI,pZ,λ M4 s Q' E4 hs q=>?_,λ aB io eI M4 Xu ex hl LL mm E4=>?_]
  ·exact#[m,h,s,i,r,_,a,rfl,rfl,MZ.no E4 (E4 _ _ hA2),G.tb,KN.len,hs.1,hi,q _ sw.rfl]
  ·exact#[s,r,ls,rfl,rfl,q _ sw.rfl]
  ·let#[kt,rfl,gI,all]:=Xu;exact au (k kt io eI _ #[#[ex,hl,LL,mm],gI,all] (E1.trans ((E2 _).trans (sw.TR E4 hn))))
theorem Bb:∀{p q:Cs},wb p q->HT.lexLt ((p.map kI).map λ a:Int=>0-a) ((q.map kI).map λ a:Int=>0-a)=true
 |[],_,h=>h.elim
 |_::_,[],h=>h.elim
 |a::p,b::q,h=>by
  rw[D9,D9,D9,D9,HT.cb];unfold kI;rcases h with h|⟨rfl,h⟩
  ·rw[L7 ()];exact C9 ()
  ·rw[L1 rfl];exact Bb h
theorem Ah.klt{p q:Cs}(h:Ah p q):klt (EC (p.map kI)) (EC (q.map kI))=true:=by
 have sm:∀p:Cs,(p.map kI).sum=((p.sum:Nat):Int):=λ p=>by
  induction p with
  |nil=>rfl
  |cons c p ih=>rw[D9,sum_cons,sum_cons,ih];exact(Int.natCast_add _ _).symm
 unfold L2.klt EC;dsimp only;rw[sm,sm];rcases h with h|⟨e,h⟩
 ·rw[L7 ()];exact C9 ()
 ·rw[L1 ()];exact Bb h
def Wb.lst{m h:Nat}{r:List Row}{ls:Row}{f:Nat->Nat}{g:Nat->Cs}{ord ch:List Nat}{eI:Row}(G:cj m h r)(L:Wb m h r ls f g ord ch eI):Ey m h r ls (ch.map λ x=>(g x,kd `m x)) (ch.map (eE r h f ch)) eI:=by
 have K:=gg ls G;have mo:∀x,x∈ord↔x<m:=λ x=>by rw[L.perm.mem_iff,ce]
 have cm:∀c∈ch,c<m:=λ c hc=>(mo c).mp (L.JJ.sub c hc);have fk:∀x y,x<m->y<m->(f x=f y↔kd `m x=kd `m y):=λ x y hx hy=>by rw[L.cl x y hx hy,sO G hx hy,HF hx hy,pO]
 have gk:∀p:Cs,-p=h->bj (stK m h r ls) 0 0 p=kd `m (bj (aE r) 0 0 p):=λ p hp=>by
  have:=wH (ls:=ls) G p 0 0 () G.tb.pos
  rwa [K.iH]at this
 have gc:∀c,c<m->bj (stK m h r ls) 0 0 (g c)=kd `m c:=λ c hc=>by rw[gk _ (L.fs c hc).1.1,(L.fs c hc).2]
 have bef:∀c x,c<m->x<m->L2.klt (EC ((g x).map kI)) (EC ((g c).map kI))=false->c≠x->Ah (g c) (g x):=λ c x hc hx u ne=>by
  rcases Ah.Xs (p:=g c) (q:=g x) ((L.fs c hc).1.1.trans (L.fs x hx).1.1.symm)with z|z|z
  ·exact bi (by rw[<- (L.fs c hc).2,z,(L.fs x hx).2]) ne
  ·exact z
  ·rw[z.klt]at u;cases u
 have fst:∀c∈ch,fZ (stK m h r ls) 0 h (g c):=λ c hc=>by
  have cl:=cm c hc;refine#[(L.fs c cl).1.1,λ q hq a e=>?_];rw[gk q hq,gc c cl]at e;have ym:=gn G G.tb.pos hq;have F:=(L.fs _ ym);have nq:¬Ah q (g (bj (aE r) 0 0 q)):=λ z=>F.1.2 q hq z F.2.symm;rcases L.JJ.ZI _ ((mo _).mpr ym) c hc ((fk _ _ cl ym).mpr e.symm)with z|z
  ·rw[<- z]at nq;exact nq a
  ·by_cases ne:c=bj (aE r) 0 0 q
   ·rw[<- ne]at nq;exact nq a
   ·exact nq (a.trans (bef _ _ cl ym ((pairwise_cons.mp (L.up.sublist z)).1 _ `g) ne))
 have all:∀p,fZ (stK m h r ls) 0 h p->∃c∈ch,g c=p:=λ p hp=>by have ym:=gn G G.tb.pos hp.1;let#[c,hc,e]:=G7.mp (L.JJ.Sw _ ((mo _).mpr ym));exact#[c,hc,(fst c hc).uniq hp (by rw[gc c (cm c hc),gk p hp.1,(fk _ _ (cm c hc) ym).mp e])]
 have m1:(ch.map λ x=>(g x,kd `m x)).map (·.1)=ch.map g:=by rw[G8];rfl
 have m2:(ch.map λ x=>(g x,kd `m x)).map (·.2)=ch.map (kd `m):=by rw[G8];rfl
 have c0:ch[0]?>0:=by
  have:=L.JJ.hd.trans (Ol G L.fs L.perm L.up);cases ch with
  |nil=>cases this
  |cons a l=>exact this
 have g0:g 0=gs h:=(L.fs 0 G.tb.pos).1.uniq (fZ.gs (aE r) 0 h) (by rw[(L.fs 0 G.tb.pos).2,fU]);have ndp:=pairwise_map.mp L.JJ.nd;have all1:∀p,fZ (stK m h r ls) 0 h p->p∈(ch.map λ x=>(g x,kd `m x)).map (·.1):=λ p hp=>by let#[c,hc,e]:=all p hp;rw[m1];exact G7.mpr #[c,hc,e]
 refine#[#[#[?_,?_,λ s hs=>?_,λ s hs=>?_,λ d w hd=>?_],by simp,~~~L.Hu,λ d s hs=>?_],#[λ e he=>?_,?_,λ q hq hn=>bi (all1 q hq) hn,?_],all1]
 ·rw[m2];refine pairwise_map.mpr (ndp.imp_of_mem λ{a b} ha hb ne e=>ne ((fk a b (cm a ha) (cm b hb)).mpr e))
 ·rw[m2,w6,c0];exact K8 some K.iH
 ·rw[m2]at hs;let#[c,hc,rfl]:=G7.mp hs;exact(K.rcd G (G.rW c (cm c hc))).2
 ·rw[m2]at hs;let#[c,hc,rfl]:=G7.mp hs;exact ce.mpr (K.lt c (cm c hc))
 ·rw[m2];rw[w6]at hd;let#[x,hx,rfl]:=ca.mp hd;have xm:=cm x (k9 hx);refine#[kd `m x,by rw[w6,hx];rfl,by unfold eE;rw[C1,x9],λ j hj=>#[BG f ch (aE r j x),by unfold eE;rw[w6,l9 hj];rfl,?_]];have ym:=G.di.cl _ _ hj xm;have i1:=fE (L.JJ.Sw _ ((mo _).mpr ym));rw[w6]at i1;let#[y,hy,e]:=ca.mp i1;show _>kd `m (aE r j (kd `m x));rw[K.xV _ x j (K.lt x xm) xm hj (K.Oz x xm),<- (fk y _ (cm y (k9 hy)) ym).mp e];unfold BG Ox;rw[w6,hy];rfl
 ·rw[m2,w6]at hs;let#[x,hx,rfl]:=ca.mp hs;rw[L.isl d x hx,Lst.Yn G (cm x (k9 hx))]
 ·let#[c,hc,rfl]:=G7.mp he;exact#[fst c hc,gc c (cm c hc)]
 ·rw[m1];exact pairwise_map.mpr (((L.up.sublist L.JJ.sl).and ndp).imp_of_mem λ{a b} ha hb z=>bef a b (cm a ha) (cm b hb) z.1 λ e=>z.2 (by rw[e]))
 ·rw[w6,c0,<- g0,Option.map_some,K.iH]
def FK{h:Nat}(G:cj m h r)(L:gr m ls):zG M 5 (bt r ls) (bt r ls):=by
 have:=L.bZ;have:=G.tb.bZ;have:=G.tb.wL;have:=G.tb.len;refine vE `g λ d hd=>?_;rcases E8.mp hd with rfl|hd
 ·refine vE (by rw[C1];lia) λ d hd=>?_;let#[w,hw,rfl]:=G7.mp hd;exact vF _ _ (by rw[(G.tb.row w hw).1];lia)
 ·rw[q8.mp hd];exact vF _ _ ()
def Wn(h:Nat)(r:List Row)(ls:Row)(ts:List (Nat×List Row×Row)):Prop:=∀t∈ts,cj t.1 h t.2.1/\OV h r ls t.2.1 t.2.2
def TU(t:Nat×List Row×Row):D:=bt t.2.1 t.2.2
def Wn.add{h:Nat}{ts:List (Nat×List Row×Row)}(A:Wn h r ls ts){t:Nat×List Row×Row}(G:cj t.1 h t.2.1)(S:OV h r ls t.2.1 t.2.2):Wn h r ls (ts++[t]):=λ z hz=>by
 rcases C3.mp hz with e|e
 ·exact A z e
 ·rw[q8.mp e];exact#[G,S]
def Q6(F:jO K "law" "law" (top 33) f fd)(T:kb K mg)(zi:cY P w K mg base 1 "_law_flow" ["_law_script"] Ak)(wX:cY P w K mg base 4 "_law_table" ["_law_flow_here"] (Ae 19 6))(wY:cY P w K mg base 15 "_law_least" ["_law_table_here"] Fv)(eh:cY P w K mg base 3 "_law_renumbered" ["_law_flow_here","_law_table_here"] Fq)(jg:cY P w K mg base 2 "_law_blown" ["_law_flow_here","_law_table_here"] sY)(Nq:cY P w K mg base 14 "least" ["table"] Ai)(jh:cY P w K mg base 6 "_law_alike" ["_law_found","_law_due"] (FH 5)):bS P w K mg base eQ 16 f fd ["_law_script"] (cI K vA):=by
 refine mX F ["_law_script","_law_flow_here","_law_table_here","_law_due","_law_some"] (λ dF A outer s H E ds M Q nd hr h=>?_)
 ·let#[ns,rfl,Zw,Zv,k]:=h;refine⟨_,(aa (av 1 (aN zi (aS `u)))
 (aa (av 2 (aN wX (aS `A)))
 (aa (av 3 (aN wY (aS `N)))
 (aa (av 4 (cB (bF `N (bF (ai 3) (bF (aN eh (cT `A `N)) (bF `N cD))))))
 (aa (cG (oB (aK mi (ax bT T.len (aS (aI aG `N ag))) ag) (nH (aK mi (ax bT T.len (aS (aI aG (aI aG `N ag) ag))) ag))).pt
 (aj (bL (dW i7 i4 i6 bC (ai 4) (aS (aN jg (cT `A `N))))))
 bg)
 (aj (aO (EV (OU rfl) zW T.all (lT [3] (ck (ai 4)) aQ (aN jh (cT (aN Nq (aS `u)) `A))))))))))),?_⟩
  rfl';refine#[ns,rfl,λ f cc M1 hF E1=>?_];have hT:ZZ M1:=by first|exact E1 _ _ Zw|exact E1 _ _ Zv
  have hL:Ct M1:=by first|exact E1 _ _ Zv|exact E1 _ _ Zw
  clear Zw Zv;rfl';refine#[f,cc,rfl,hF,λ m h r ls M2 G hm hh L F2=>?_];have hT:ZZ M2:=tR F2 hT hF;have hL:Ct M2:=tR F2 hL hF;have ui:=G.tb.len;have H_:=Ku G.tb;have pX:bt r ls=.tup [.tup (r.map row),row ls]:=rfl;rfl';refine#[m,h,r,ls,rfl,hT,G,hm,hh,λ fq gq ord ch eI M3 LE E3=>?_];have GL:=LE.tb G;have LT:=LE.lst G;have SD:=JM.sam G (LT.lst.hom G);have hL:Ct M3:=E3 _ _ hL;have F3:=F2.trans (mB E3 F2.bw);have LL:=LE.Hu;generalize ch.map (eE r h fq ch)=dr at*;generalize(ch.map λ x=>(gq x,kd `m x))=kt at*;generalize (-ch)=m2 at*;rfl';refine#[f,cc,m,h,r,ls,rfl,F3.bw,G,(),L,λ r3 l3 M4 G3 L3 S3 F4=>?_];have hL:Ct M4:=tR F4 hL F3.bw;have F4:=F3.trans F4;rfl';intro p hp;have nf:=(F4.bw.ne hp).1;have RU:af M4 p (.lst [bt r ls,bt dr eI,bt r3 l3,bt r ls]) p>(.lst ([(m,r,ls),(m2,dr,eI),(m,r3,l3),(m,r,ls)].map TU)):=ab;have hL:Ct (af M4 p (.lst [bt r ls,bt dr eI,bt r3 l3,bt r ls])):=sw.new sw.rfl hp _ _ _ hL;have F5:=F4.trans (Fl.put (o:=.lst [bt r ls,bt dr eI,bt r3 l3,bt r ls]) F4.bw hp);have hA:Wn h r ls [(m,r,ls),(m2,dr,eI),(m,r3,l3),(m,r,ls)]:=λ t ht=>by
   simp only[E8,not_mem_nil,or_false]at ht;rcases ht with rfl|rfl|rfl|rfl
   ·exact#[G,λ _ _=>rfl]
   ·exact#[GL.1,SD]
   ·exact#[G3,S3]
   ·exact#[G,λ _ _=>rfl]
  have hl4:[(m,r,ls),(m2,dr,eI),(m,r3,l3),(m,r,ls)].length<=4:=by simp
  generalize[(m,r,ls),(m2,dr,eI),(m,r3,l3),(m,r,ls)]=ts at*;generalize af M4 p (.lst [bt r ls,bt dr eI,bt r3 l3,bt r ls])=M5 at*;refine eC ?_
  with_reducible refine iY (λ δ' M'=>∃ts:List (Nat×List Row×Row),δ'=[some (.fl (ns.map D.int)),some `C,some (bt r ls),some (bt dr eI),some `j]/\M' p>(.lst (ts.map TU))/\Wn h r ls ts/\Ct M'/\-ts<=5) (λ N hN=>?_) ?_
  ·have no:N [some (.fl (ns.map D.int)),some `C,some (bt r ls),some (bt dr eI),some `j] M5:=hN _ _ #[ts,rfl,RU,hA,hL,()];rw[pX]at no ⊢;rfl';rw[C1,ui];refine aL (λ h7=>?_) (λ _=>?_)
   ·rfl';refine bo H_.1 ?_;rfl';rw[C1,H_.2];refine aL (λ h4=>?_) (λ _=>?_)
    ·rfl';refine#[#[rfl,_,RU],?_];rfl';refine#[f,cc,m,h,r,ls,rfl,F5.bw,G,(),(),λ m6 r6 l6 M6 G6 hm6 L6 S6 F6=>?_];have WX:=F6.mv _ _ nf RU;have R_:Ct M6:=tR F6 hL F5.bw;rfl';refine fu WX (C1>=p8 hl4 `c) ?_;refine hN _ _ #[ts++[(m6,r6,l6)],rfl,by rw[ab,C4];rfl,hA.add G6 S6,?_,by rw[p4,j9];lia];unfold Ct;rw[ak λ z=>?_]
     ·exact R_
     ·unfold Ct at R_;rw[z]at R_;rw[WX]at R_;cases R_
    ·rfl';exact no
   ·rfl';exact no
  clear RU hA hL hl4 F5 F4;rintro δ' M6 ⟨ts,rfl,WX,hA,R_,hl⟩;rfl';refine Jc (ds:=ts.map TU) (λ i jp M'=>M' p>(.lst (ts.map TU))/\Ct M'/\jp=(List.replicate i true).map D.bl) #[WX,R_,rfl] (λ i jp M' hi h=>h.1) (λ i jp M' hi h=>?_) (λ i d jp M' hd h=>?_) (λ jp M' h=>?_)
  ·let#[_,_,rfl]:=h;rw[C1]at hi;simp only[C1,k5];exact small ()
  ·let#[h1,h2,rfl]:=h;rw[w6]at hd;let#[t,ht,rfl]:=ca.mp hd;let#[Gt,St]:=hA t (k9 ht);unfold TU;rfl';refine#[t.1,_,t.2.1,t.2.2,rfl,h2,Gt,λ cU rs l' M7 T7 E7=>?_];let#[rfl,rfl]:=Ey.eq G Gt St LT T7;rfl';refine#[_,_,rfl,FK GL.1 LL,E7 _ _ h1,E7 _ _ h2,?_];rw[replicate_succ',C4];rfl
  ·let#[_,_,rfl]:=h;unfold w_;rw[lM];show fin2 Q (.bl ((List.replicate _ true).all id)) _;rw[ou];exact au (k _)
def HM(K:L8):iE K "bool":=#[by kernel_rfl,by kernel_rfl,by kernel_rfl,by kernel_rfl,by kernel_rfl,by kernel_rfl]
def MB(K:L8):iE K "int":=#[by kernel_rfl,by kernel_rfl,by kernel_rfl,by kernel_rfl,by kernel_rfl,by kernel_rfl]
def HL(K:L8):iE K "list":=#[by kernel_rfl,by kernel_rfl,by kernel_rfl,by kernel_rfl,by kernel_rfl,by kernel_rfl]
def MA(K:L8):iE K "str":=#[by kernel_rfl,by kernel_rfl,by kernel_rfl,by kernel_rfl,by kernel_rfl,by kernel_rfl]
def DU(K:L8):iE K "tuple":=#[by kernel_rfl,by kernel_rfl,by kernel_rfl,by kernel_rfl,by kernel_rfl,by kernel_rfl]
def Rm(hO:Cz H [72,169])(hS:fK K H a (ns.map V.int)):cI K vA [.ref a] H (λ v _=>v=.bl true) λ _ _ _=>False:=by
 have vb:JN K H a (ns.map V.int):=by
  rcases hS with(h|⟨o,h⟩)|h
  ·rcases hO.1 a with z|⟨o,xs,z⟩|z
   ·rw[z]at h;cases h
   ·rw[z]at h;cases h
   ·rw[z]at h;cases h
  ·exact .inl #[o,h]
  ·exact .inr h
 refine#[[.fl (ns.map D.int)],λ b=>if b=72 then some (.dE (.lU "least.<locals>.<lambda>"))else if b=169 then some (.dE (.lU "_law_least.<locals>.<lambda>"))else none,λ d _=>d=.bl true,ay.one (ko.mpr #[a,_,rfl,vb,jN ns]),λ a o e=>?_,#[ns,rfl,L1 rfl,(L7 `c).trans (L1 rfl),λ _=>rfl],λ v H' d M' hd hm t e=>?_]
 ·by_cases z0:a=72
  ·subst z0;have e:=(L1 rfl).symm.trans e;cases e;exact#[[],hO.2 _ `g,λ p hp=>nomatch hp]
  ·have e:=(L7 z0).symm.trans e;by_cases z1:a=169
   ·subst z1;have e:=(L1 rfl).symm.trans e;cases e;exact#[[],hO.2 _ `g,λ p hp=>nomatch hp]
   ·have e:=(L7 z1).symm.trans e;cases e
 ·subst e;exact aR.mp hd
structure TopC(K:L8)(mg:Str->Option ac)(x:Str)(i:Nat)(dV:ac)(c f:be)(d:FuncData):Prop where
 m:mg x>`C
 F:jT K x x (top i) dV c f d
def Mk{A:Type}{P:List A->Prop}(h:∀a t,-t=n->P (a::t)):∀us:List A,-us=n+1->P us
 |[],e=>nomatch e
 |a::t,e=>h a t (Nat.succ.inj e)
def Mm{A:Type}{P:List A->Prop}(h:∀a,P [a]):∀us:List A,-us=1->P us:=Mk λ a t e=>a7 e>=h a
def Ml{A:Type}{P:List A->Prop}(h:∀a b,P [a,b]):∀us:List A,-us=2->P us:=Mk λ a=>Mm (P:=λ t=>P (a::t)) (h a)
def Rl{A:Type}{P:List A->Prop}(h:∀a b c,P [a,b,c]):∀us:List A,-us=3->P us:=Mk λ a=>Ml (P:=λ t=>P (a::t)) (h a)
def Vb{A:Type}{P:List A->Prop}(h:∀a b c d,P [a,b,c,d]):∀us:List A,-us=4->P us:=Mk λ a=>Rl (P:=λ t=>P (a::t)) (h a)
structure dP(K:L8)(mg:Str->Option ac)(x:Str)(i:Nat)(f:be)(d:FuncData):Prop where
 m:mg x>`C
 F:jO K x x (top i) f d
def dP.mk'{d:FuncData}(t:dP K mg x i f d)(l:PySem.W.OpenLaw)(w:World)(base:Heap)(G:bS l.prog w K mg base eQ k f d ps sp)(h:∀(kV doc pm:ac)(an:Option be)(dF ct:ac)(us:List ac),-us=-ps->bindArgs (PySem.W.fnOf x x (bN (top i)) (bp (top i)) (aD (top i)) .none kV doc pm an dF ct) #[us,[]]=pure (ps.zip us):=by intro _ _ _ _ _ _;first|exact Mm λ _=>rfl|exact Ml λ _ _=>rfl|exact Rl λ _ _ _=>rfl|exact Vb λ _ _ _ _=>rfl|exact acm λ _ _ _ _ _=>rfl):fI l.prog w K mg base k x ps sp:=fI.of t.F G t.m (t.F.binds h)
def all_mk{l:PySem.W.OpenLaw}{w:World}{K:L8}{mg:Str->Option ac}{f0 f1 f2 f3 f4 f5 f6 f7 f8 f9 f10 f11 f12 f13 f14 f15 f16 f17 f18 f19 f20 f21 f22 f23 f24 f25 f26 f27:be}{d0 d1 d2 d3 d4 d5 d6 d7 d8 d9 d10 d11 d12 d13 d14 d15 d16 d17 d18 d19 d20 d21 d22 d23 d24 d25 d26:FuncData}{kV dc pm cd ct:ac}{an:Option be}
  (T:kb K mg)
  (t0:dP K mg "places_of" 1 f0 d0)
  (t1:dP K mg "one_more" 3 f1 d1)
  (t2:TopC K mg "first_sums" 4 (.ref 29) 35 f2 d2)
  (e2:K.lookup 29>{cls:=.type "tuple",data:=.seq ([.none].toArray) 0})
  (t3:dP K mg "row_of" 6 f3 d3)
  (t4:dP K mg "numbered" 7 f4 d4)
  (t5:dP K mg "carried" 9 f5 d5)
  (t6:dP K mg "put_to" 10 f6 d6)
  (t7:dP K mg "losing_beside" 12 f7 d7)
  (t8:dP K mg "first_alike" 13 f8 d8)
  (t9:TopC K mg "least" 14 .none 76 f9 d9)
  (t10:dP K mg "_law_flow" 16 f10 d10)
  (t11:dP K mg "_law_pick" 17 f11 d11)
  (T_:dP K mg "_law_shuffled" 18 f12 d12)
  (T9:dP K mg "_law_alike" 19 f13 d13)
  (t14:dP K mg "_law_nim_table" 20 f14 d14)
  (t15:dP K mg "_law_blown" 21 f15 d15)
  (t16:dP K mg "_law_renumbered" 22 f16 d16)
  (t17:dP K mg "_law_counted" 23 f17 d17)
  (t18:dP K mg "_law_any_table" 24 f18 d18)
  (t19:dP K mg "_law_long_table" 25 f19 d19)
  (t20:dP K mg "_law_table" 26 f20 d20)
  (T8:dP K mg "_law_sums" 27 f21 d21)
  (t22:dP K mg "_law_from" 28 f22 d22)
  (t23:dP K mg "_law_first_sums" 29 f23 d23)
  (t24:dP K mg "_law_classes" 30 f24 d24)
  (t25:dP K mg "_law_key" 31 f25 d25)
  (Ww:TopC K mg "_law_least" 32 .none 171 f26 d26)
  (t27:dP K mg "law" 33 f27 (PySem.W.fnOf "law" "law" (bN (top 33)) (bp (top 33)) (aD (top 33)) .none kV dc pm an cd ct)):
  ∃fd:FuncData,(∀(s:bd)(v:ac),BindsTo s fd #[[v],[]] [("_law_script",v)])/\∀base:Heap,K.In base->(∀q∈([(76,72),(171,169)]:List (be×be)),Jq mg base q.1 q.2)->bS l.prog w K mg base eQ 16 f27 fd ["_law_script"] (cI K vA):=by
 refine#[PySem.W.fnOf "law" "law" (bN (top 33)) (bp (top 33)) (aD (top 33)) .none kV dc pm an cd ct,λ s v=>.of_eq rfl,λ base _ W9=>?_];have b2:=t2.F.zC (ps:=["heaps","start","gone","most"]) λ _ _ _ _ _ s hk=>Vb λ _ _ _ _=>Jj hk rfl e2 rfl rfl rfl;have c2:=t2.F.SG (ps:=["heaps","start","gone","most"]) (n:=3) rfl λ _ _ _ _ _ s hk=>Rl λ _ _ _=>Jj hk rfl e2 rfl rfl rfl;have b9:=t9.F.zC (ps:=["table"]) λ _ _ _ _ _ s hk=>Mm λ _=>.of_eq rfl;have b13:=T9.F.binds (ps:=["_law_found","_law_due"]) λ _ _ _ _ _ _=>Ml λ _ _=>rfl;have b21:=T8.F.binds (ps:=["_law_many","_law_total"]) λ _ _ _ _ _ _=>Ml λ _ _=>rfl;have b26:=Ww.F.zC (ps:=["_law_table_here"]) λ _ _ _ _ _ s hk=>Mm λ _=>.of_eq rfl;have gw:=t11.mk' l w base (LP t11.F T);have CO:=t10.mk' l w base (LY t10.F T);have EL:=fI.of T9.F (Q9 T9.F T T9.m b13 (P:=l.prog) (w:=w) (base:=base) 5) T9.m b13;have EK:=t25.mk' l w base (Q7 t25.F T);have vj:=t17.mk' l w base (Q8 t17.F T);have CH:=t19.mk' l w base (LU t19.F T gw vj);have CT:=t18.mk' l w base (L' t18.F T gw vj);have CG:=t14.mk' l w base (LR t14.F T);have oA:=t15.mk' l w base (Ha t15.F T gw);have CD:=T_.mk' l w base (LO T_.F T gw);have vi:=t16.mk' l w base (Q4 t16.F T CD);have xK:=t20.mk' l w base (GW t20.F T gw CH CT CG oA vi);have CC:=fI.of T8.F (GX T8.F T T8.m b21 (P:=l.prog) (w:=w) (base:=base) 7) T8.m b21;have CL:=t22.mk' l w base (LX t22.F T);have xP:=t23.mk' l w base (G' t23.F T CC CL);have CQ:=t24.mk' l w base (L9 t24.F T);have CJ:=fI.UZ Ww.F (LV Ww.F T (W9 (171,169) `g) CQ xP EK (P:=l.prog) (w:=w) (base:=base)) Ww.m b26;have rn:=t1.mk' l w base (LS t1.F T);have O0:=fI.UZ t2.F (vR t2.F T rn (P:=l.prog) (w:=w) (base:=base)) t2.m b2;have xJ:=qv.UZ t2.F (vR t2.F T rn (P:=l.prog) (w:=w) (base:=base)) t2.m c2;have CS:=t5.mk' l w base (L_ t5.F T);have xN:=t6.mk' l w base (GZ t6.F T CS);have CK:=t7.mk' l w base (LW t7.F T xN);have CP:=t8.mk' l w base (LZ t8.F T CK);have EJ:=t0.mk' l w base (Q5 t0.F T);have xM:=t3.mk' l w base (GY t3.F T);have CF:=t4.mk' l w base (LQ t4.F T xJ EJ xM);have xO:=fI.UZ t9.F (G_ t9.F T (W9 (76,72) `g) CP CF (P:=l.prog) (w:=w) (base:=base)) t9.m b9;exact Q6 t27.F T CO xK CJ vi oA xO EL
def walk{q:Program}{loose:List Str}{XP:(Str->Option ac)->Heap->Prop}{YP:World->Heap->Prop}{d:DefRec}{K:Params->L8}(hn:l.most>63)(VD:d.params.defaults=[])
  (hY:∀(w:World)(h:Heap),YP w h->(K w.params).In h/\∀q∈([(76,72),(171,169)]:List (be×be)),h.get? q.2>(PySem.W.tabObj ([].toArray))/\(K w.params).lookup q.2=none/\PySem.W.CodeHd h q.1 q.2)
  (F:∀(w:World)(mg:Str->Option ac)(fa:be)(h:Heap),(K w.params).In h->h.Ns mainGlobals mg->mg d.name>(.ref fa)->
   ∃fd:FuncData,(∀(s:bd)(u:ac),BindsTo s fd #[[u],[]] [("_law_script",u)])/\∀base:Heap,(K w.params).In base->(∀q∈([(76,72),(171,169)]:List (be×be)),Jq mg base q.1 q.2)->bS l.prog w (K w.params) mg base eQ 16 fa fd ["_law_script"] (cI (K w.params) vA)):
  PySem.W.WalkO q loose XP YP l.row.toRowW d [] (λ f vs=>PySem.call f vs):=
 L2.EU (n:=63) (k:=16) (x:="_law_script") (CX:=λ _=>eQ) (sp:=λ w=>cI (K w.params) vA) hn `c VD #[rfl,by decide,by decide] hY F (λ _ _ a ns hl hO hS=>Rm hO hS) λ _ _ _ _ _ z=>z
end KK
open PySem.W PyProof.Rows
def PySem.W.Fast.tw11853602775933386735:Program:=PySem.Challenge.pw_lastloser_k31_least_tables
theorem PySem.W.Fast.te11853602775933386735 : PySem.Challenge.pw_lastloser_k31_least_tables = PySem.W.Fast.tw11853602775933386735 := rfl
namespace PySem.W.Fast
def tw8536563508378705765:=0
def tw17389258389358423757:=0
def tw14140643319530461175:=0
def tw12047753507359966362:=0
def tw4250763610231685149:=0
def tw340943301801174815:=0
def tw533711057553076144:=0
def tw4179737117646122455:=0
def tw10822770654636846156:=0
def tw7507059337174673100:=0
def tw2350962832499582456:=0
def tw13155594185803108429:=0
def tw18161387011099105501:=0
def tw5169721779156938614:=0
def tw6623416807899850015:=0
def tw16452773001367185136:=0
def tw16696396882357397664:=0
def tw8773248116518628679:=0
def tw10205505449656505480:=0
def tw4489800800708595458:=0
def tw526110554739086334:=0
def tw12375317147662260049:=0
def tw4735562844390618774:=0
def tw6287664434447045044:=0
def tw5781168803892092702:=0
def tw1623171459917331963:=0
def tw1179849655098823546:=0
def tw606850592514592823:=0
def tw14196099877520615396:=0
def tw1993308668351128614:=0
def tw6375581154273443702:=0
def tw17631954532451402081:=0
def tw2390661284059608487:=0
def tw1246664313891282072:=0
def tw7072730575402480690:=0
def tw15887309350680440166:=0
def tw17832352405935827610:=0
def tw5574004459383599289:=0
def tw8834581707886642510:=0
def tw12821700072289822232:=0
def tw8800725784444831530:=0
def tw9293078622777216068:=0
def tw6050303311645067753:=0
def tw1330990258860190432:=0
def tw4131665710828975045:=0
def tw6617047005229136635:=0
def tw14075034420785265253:=0
def tw9328297312873596099:=0
def tw3302264079562352360:=0
def tw1304960728522880270:=0
def tw5303694870788712488:=0
def tw9112715309195836979:=0
def tw13042677335850716247:=0
def tw6707793398305384147:=0
def tw13450791334826142136:=0
def tw7203850378808043825:=0
def tw12880689968886954555:=0
def tw10336715314478105075:=0
def tw16627136607119851827:=0
def tw11598451509873617806:=0
def tw8359388262337564451:=0
def tw4127172053162505341:=0
def tw3743409629549951396:=0
def tw17539759409466577233:=0
def tw13806486524348378492:=0
def tw12385940918365928488:=0
end PySem.W.Fast
namespace KK
open L2
noncomputable def kE(P:Params)(x:Str)(t:Nat)(v:ac):DictEntry:={hash:=PyData.keyHash P x,key:=.str x t,val:=v}
noncomputable def kO(x:Str)(t l n r s u:Nat)(v w:ac):Obj:={cls:=.type "code",data:=.fields ([.str x t,.str x (t+1),.str "/claim/cut.py" (t+2),.int l 0,.int n 0,.int 0 0,.int 0 0,.int 3 0,.ref r,.bool true,.int 181 0,.ref (r+1),.none,v,w,.ref s,.int u 0,.int l 0,.str "/claim/cut.py" (u+1)].toArray)}
noncomputable def kF(x:Str)(i:Nat)(m:Str×Nat)(c:Nat)(d:ac:=.none):Obj:={cls:=.type "function",data:=.func (PySem.W.fnOf x x (bN (top i)) (bp (top i)) (aD (top i)) d .none .none (.str m.1 m.2) none (.ref c) .none)}
noncomputable def kP(x:Str)(a i:Nat)(m:Str×Nat)(t l n u q:Nat)(d:ac:=.none):List (Nat×Obj):=[(a,if q=0 then kO x t l n (a-3) (a-1) u .none .none else kO x t l n (a-5) (a-1) u (.ref (a-3)) (.ref (a-2))),(a+1,kF x i m a d)]
noncomputable def m0:Str×Nat:=("lastloser.least",263)
noncomputable def m1:Str×Nat:=("lastloser.numbering",225)
noncomputable def m2:Str×Nat:=("lastloser.places",187)
noncomputable def m3:Str×Nat:=("lastloser.seeking",199)
noncomputable def m4:Str×Nat:=("lastloser.things",239)
noncomputable def m5:Str×Nat:=("law_lastloser_k31_least_tables",287)
noncomputable def kD(P:Params):Obj:={cls:=.type "dict",data:=.dict ([kE P "__name__" 165 (.str "law_lastloser_k31_least_tables" 287),kE P "__doc__" 166 .none,kE P "__package__" 167 .none,kE P "__loader__" 168 (.builtin "__main__.__loader__#opaque"),kE P "__spec__" 169 .none,kE P "__annotations__" 170 (.ref 6),kE P "__builtins__" 171 (.ref 4),kE P "__file__" 173 (.str "/claim/cut.py" 172),kE P "__cached__" 174 .none,kE P "places_of" 198 (.ref 21),kE P "one_more" 208 (.ref 28),kE P "first_sums" 224 (.ref 36),kE P "row_of" 232 (.ref 41),kE P "numbered" 238 (.ref 46),kE P "carried" 254 (.ref 53),kE P "put_to" 262 (.ref 60),kE P "losing_beside" 270 (.ref 65),kE P "first_alike" 276 (.ref 70),kE P "least" 286 (.ref 77),kE P "_law_flow" 295 (.ref 84),kE P "_law_pick" 305 (.ref 91),kE P "_law_shuffled" 315 (.ref 98),kE P "_law_alike" 321 (.ref 103),kE P "_law_nim_table" 327 (.ref 108),kE P "_law_blown" 333 (.ref 113),kE P "_law_renumbered" 339 (.ref 118),kE P "_law_counted" 348 (.ref 125),kE P "_law_any_table" 354 (.ref 130),kE P "_law_long_table" 360 (.ref 135),kE P "_law_table" 366 (.ref 140),kE P "_law_sums" 372 (.ref 145),kE P "_law_from" 384 (.ref 152),kE P "_law_first_sums" 390 (.ref 157),kE P "_law_classes" 396 (.ref 162),kE P "_law_key" 402 (.ref 167),kE P "_law_least" 408 (.ref 172),kE P "law" 414 (.ref 177)].toArray) 37}
noncomputable def kT(vs:List ac)(n:Nat):Obj:={cls:=.type "tuple",data:=.seq vs.toArray n}
noncomputable def kK(P:Params):L8:=(3,kD P)::[(29,kT [.none] 0)]++[kP "places_of" 20 1 m2 189 2 1 196 1,kP "one_more" 27 3 m3 201 8 2 206 1,kP "first_sums" 35 4 m3 209 10 4 222 1 (.ref 29),kP "row_of" 40 6 m1 227 24 4 230 0,kP "numbered" 45 7 m1 233 26 4 236 0,kP "carried" 52 9 m4 241 32 3 252 1,kP "put_to" 59 10 m4 255 42 2 260 1,kP "losing_beside" 64 12 m0 265 45 2 268 0,kP "first_alike" 69 13 m0 271 48 1 274 0,kP "least" 76 14 m0 277 51 1 284 1,kP "_law_flow" 83 16 m5 289 56 1 293 1,kP "_law_pick" 90 17 m5 296 58 2 303 1,kP "_law_shuffled" 97 18 m5 306 73 2 313 1,kP "_law_alike" 102 19 m5 316 79 2 319 0,kP "_law_nim_table" 107 20 m5 322 91 2 325 0,kP "_law_blown" 112 21 m5 328 105 2 331 0,kP "_law_renumbered" 117 22 m5 334 121 2 337 0,kP "_law_counted" 124 23 m5 340 125 3 346 1,kP "_law_any_table" 129 24 m5 349 129 2 352 0,kP "_law_long_table" 134 25 m5 355 146 1 358 0,kP "_law_table" 139 26 m5 361 161 1 364 0,kP "_law_sums" 144 27 m5 367 176 2 370 0,kP "_law_from" 151 28 m5 373 185 3 382 1,kP "_law_first_sums" 156 29 m5 385 190 1 388 0,kP "_law_classes" 161 30 m5 391 199 1 394 0,kP "_law_key" 166 31 m5 397 206 1 400 0,kP "_law_least" 171 32 m5 403 208 1 406 0,kP "law" 176 33 m5 409 219 1 412 0].flatten
noncomputable def kA:List be:=[3,29,20,21,27,28,35,36,40,41,45,46,52,53,59,60,64,65,69,70,76,77,83,84,90,91,97,98,102,103,107,108,112,113,117,118,124,125,129,130,134,135,139,140,144,145,151,152,156,157,161,162,166,167,171,172,176,177]
def tF{h:Heap}(X:K.In h)(G:h.Ns mainGlobals mg)(m:Str×Nat)(c:Nat)(a:PySem.W.nsIn K mainGlobals x>(some (.ref (c+1))):=by kernel_rfl)(l:K.lookup (c+1)>kF x i m c:=by kernel_rfl)(e:PySem.W.codeIn K (.ref c) x=true:=by kernel_rfl):dP K mg x i (c+1) (PySem.W.fnOf x x (bN (top i)) (bp (top i)) (aD (top i)) .none .none .none (.str m.1 m.2) none (.ref c) .none):=
 #[PySem.W.mg_of X G a,Sf (st:=top i) l e (by unfold PySem.W.keepIn;dsimp only;rw[l];rfl)]
def kn{h:Heap}(X:K.In h)(G:h.Ns mainGlobals mg)(e:PySem.W.nsIn K mainGlobals x>none:=by kernel_rfl):mg x=none:=PySem.W.mg_none_of X G e
def tC{h:Heap}{d:ac}(X:K.In h)(G:h.Ns mainGlobals mg)(m:Str×Nat)(c:Nat)(a:PySem.W.nsIn K mainGlobals x>(some (.ref (c+1))):=by kernel_rfl)(l:K.lookup (c+1)>kF x i m c d:=by kernel_rfl)(e:PySem.W.codeIn K (.ref c) x=true:=by kernel_rfl):TopC K mg x i d c (c+1) (PySem.W.fnOf x x (bN (top i)) (bp (top i)) (aD (top i)) d .none .none (.str m.1 m.2) none (.ref c) .none):=
 #[PySem.W.mg_of X G a,Na (st:=top i) l e (by unfold PySem.W.keepIn;dsimp only;rw[l];rfl)]
noncomputable def Yw(P:Params):L8:=[(72,PySem.W.tabObj ([].toArray)),(169,PySem.W.tabObj ([].toArray))]++kK P
noncomputable def kA0:List be:=[72,169]++kA
def cH{h:Heap}(X:K.In h)(c P:be)(o:Obj)(vs:Array ac)(file:Str)(tf:Nat)(flags:Int)(tg:Nat)(WN:Bool)(text:Int)(tt:Nat)(l:K.lookup c>o)(e1:o.cls=.type "code")(e2:o.data=.fields vs)(e3:vs[11]?>(.ref P))(e4:vs.getD 11 .none=.ref P)(e5:vs.getD 18 .none=.str file tf)(e6:vs.getD 7 .none=.int flags tg)(e7:vs.getD 9 .none=.bool WN)(e8:vs.getD 10 .none=.int text tt)(e9:c≠P):PySem.W.CodeHd h c P:=#[o,vs,file,tf,flags,tg,WN,text,tt,X _ _ l,e1,e2,e3,e4,e5,e6,e7,e8,e9]
def k0{P:Params}{h:Heap}(X:(Yw P).In h):(kK P).In h/\∀q∈([(76,72),(171,169)]:List (be×be)),h.get? q.2>(PySem.W.tabObj ([].toArray))/\(kK P).lookup q.2=none/\PySem.W.CodeHd h q.1 q.2:=by
 have n0:(kK P).lookup 72=none:=by kernel_rfl
 have n1:(kK P).lookup 169=none:=by kernel_rfl
 have Y:(kK P).In h:=λ b o e=>by
  refine X b o ?_;unfold Yw;by_cases z0:b=72
  ·rw[z0,n0]at e;cases e
  by_cases z1:b=169
  ·rw[z1,n1]at e;cases e
  simp only[A8,B2,y7,beq_false_of_ne z0,beq_false_of_ne z1];exact e
 refine#[Y,λ q hq=>?_];simp only[E8,not_mem_nil,or_false]at hq;rcases hq with rfl|rfl
 ·exact#[X _ _ `w,n0,cH Y 76 72 (kO "least" 277 51 1 71 75 284 (.ref 73) (.ref 74)) _ _ _ _ _ _ _ _ `w rfl rfl rfl rfl rfl rfl rfl rfl `c]
 ·exact#[X _ _ `w,n1,cH Y 171 169 (kO "_law_least" 403 208 1 168 170 406 .none .none) _ _ _ _ _ _ _ _ `w rfl rfl rfl rfl rfl rfl rfl rfl `c]
def pg:Program:={PySem.Challenge.pw_lastloser_k31_least_tables with main:={PySem.Challenge.pw_lastloser_k31_least_tables.main with body:=[top 0,top 1,top 2,top 3,top 4,top 5,top 6,top 7,top 8,top 9,top 10,top 11,top 12,top 13,top 14,top 15,top 16,top 17,top 18,top 19,top 20,top 21,top 22,top 23,top 24,top 25,top 26,top 27,top 28,top 29,top 30,top 31,top 32,top 33]}}
def lw:PySem.W.OpenLaw:={PySem.Challenge.rw_lastloser_k31_least_tables with prog:=pg}
end KK
set_option maxRecDepth 100000 in
set_option maxHeartbeats 0 in
def KK.pre:KK.lw.Holds:=by
 w_on;o_law;o_head (PySem.W.kHook KK.Yw KK.kA0 (λ _=>by kernel_rfl));(case hw=>w_witness2)
 refine KK.walk (l:=KK.lw) rfl rfl (K:=KK.kK) (λ w h Y=>KK.k0 (PySem.W.kIn_of Y)) ?F
 case F=>
  intro w mg fa h KX G Vx;have hm:mg "law">(.ref fa):=Vx;have e:=hm.symm.trans (PySem.W.mg_of KX G (v:=.ref (176+1)) `w);cases e;exact KK.all_mk #[KK.kn KX G,KK.kn KX G,KK.kn KX G,KK.kn KX G,KK.kn KX G,KK.kn KX G,KK.kn KX G,KK.kn KX G,KK.kn KX G,KK.kn KX G,KK.kn KX G,KK.kn KX G,KK.kn KX G,KK.kn KX G,KK.kn KX G,KK.HM _,KK.MB _,KK.HL _,KK.MA _,KK.DU _] (KK.tF KX G KK.m2 20) (KK.tF KX G KK.m3 27) (KK.tC KX G KK.m3 35) `w (KK.tF KX G KK.m1 40) (KK.tF KX G KK.m1 45) (KK.tF KX G KK.m4 52) (KK.tF KX G KK.m4 59) (KK.tF KX G KK.m0 64) (KK.tF KX G KK.m0 69) (KK.tC KX G KK.m0 76) (KK.tF KX G KK.m5 83) (KK.tF KX G KK.m5 90) (KK.tF KX G KK.m5 97) (KK.tF KX G KK.m5 102) (KK.tF KX G KK.m5 107) (KK.tF KX G KK.m5 112) (KK.tF KX G KK.m5 117) (KK.tF KX G KK.m5 124) (KK.tF KX G KK.m5 129) (KK.tF KX G KK.m5 134) (KK.tF KX G KK.m5 139) (KK.tF KX G KK.m5 144) (KK.tF KX G KK.m5 151) (KK.tF KX G KK.m5 156) (KK.tF KX G KK.m5 161) (KK.tF KX G KK.m5 166) (KK.tC KX G KK.m5 171) (KK.tF KX G KK.m5 176)
theorem PySem.Challenge.cw_lastloser_k31_least_tables_holds : PySem.Challenge.rw_lastloser_k31_least_tables.Holds :=
 KK.pre
