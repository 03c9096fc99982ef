import PyProof.Rows.All
import Wide.All
import OpenK.AllK
import Wide.FinOn
import Lean
import PyProof.EqAt
import PyProof.EqKinds
import PyProof.TupleCall
import PyProof.StrWalks
import PyProof.ConsumeWalk
import KE.KSortTup
import PyProof.ZipIter
import PyProof.Draws
import PyProof.WalksMore
import PyProof.ListMulRoad
import PyProof.AutoListH
import PyProof.FactsAll.tuple_2
import PyProof.FactsAll.tuple
import PyProof.TupleIter
import PyProof.AttrMissHeap
import PyProof.DictIter
import PyProof.DictWalks
import KE.KDictSum
import KE.KDictOf
import PyProof.DictFindH
import PyProof.EnumMake
import PySem.Challenge.RW_lastloser_k06_whole_longest_plays
set_option Elab.async false
set_option linter.all false
set_option maxRecDepth 100000
set_option maxHeartbeats 4000000
-- CHANGE: your row's module here, as the last of these rows
namespace L2
open PySem PySem.Spec PyProof.Rows
abbrev Key := Sum Int Str
def keyIs : Key → Value → Bool
  | .inl k, v => Value.isInt k v
  | .inr x, v => Value.isStrOf x v
def keyH (w : World) : Key → Int
  | .inl k => hashInt k
  | .inr x => hashStr w x
theorem keyIs_shape : ∀ {k : Key} {v : Value}, keyIs k v = true → (∃ i t, k = Sum.inl i ∧ v = Value.int i t) ∨ (∃ x t, k = Sum.inr x ∧ v = Value.str x t)
  | .inl i, v, h => by
    obtain ⟨t, e⟩ := Value.isInt_shape (k := i) (v := v) h
    exact .inl ⟨i, t, rfl, e⟩
  | .inr x, v, h => by
    obtain ⟨t, e⟩ := Value.isStrOf_shape (x := x) (v := v) h
    exact .inr ⟨x, t, rfl, e⟩
theorem keyIs_int (i : Int) (t : Tok) : keyIs (.inl i) (.int i t) = true := by simp [keyIs, Value.isInt]
theorem key_ll (a b : Int) : decide ((Sum.inl a : Key) = Sum.inl b) = (a == b) := by
  by_cases e : a = b
  · subst e; simp
  · have h : ¬ (Sum.inl a : Key) = Sum.inl b := fun q => e (Sum.inl.inj q)
    rw [decide_eq_false h]
    exact (beq_eq_false_iff_ne.mpr e).symm
theorem key_rr (a b : Str) : decide ((Sum.inr a : Key) = Sum.inr b) = decide (a = b) := by
  by_cases e : a = b
  · subst e; simp
  · have h : ¬ (Sum.inr a : Key) = Sum.inr b := fun q => e (Sum.inr.inj q)
    rw [decide_eq_false h, decide_eq_false e]
theorem key_lr (a : Int) (b : Str) : decide ((Sum.inl a : Key) = Sum.inr b) = false := decide_eq_false (fun q => nomatch q)
theorem key_rl (a : Str) (b : Int) : decide ((Sum.inr a : Key) = Sum.inl b) = false := decide_eq_false (fun q => nomatch q)
def mixKind (prog : Program) (w : World) : PySem.KeyKind prog w Key where
  is := keyIs
  hash := keyH w
  inj := fun v a b ha hb => by
    rcases keyIs_shape ha with ⟨i, t, rfl, rfl⟩ | ⟨x, t, rfl, rfl⟩
    · rcases keyIs_shape hb with ⟨j, u, rfl, e⟩ | ⟨y, u, rfl, e⟩
      · injection e with e1 _; rw [e1]
      · exact nomatch e
    · rcases keyIs_shape hb with ⟨j, u, rfl, e⟩ | ⟨y, u, rfl, e⟩
      · exact nomatch e
      · injection e with e1 _; rw [e1]
  byValue := fun k v h => by
    rcases keyIs_shape h with ⟨i, t, rfl, rfl⟩ | ⟨x, t, rfl, rfl⟩ <;> rfl
  pyHash := fun hv h => by
    rcases keyIs_shape hv with ⟨i, t, rfl, rfl⟩ | ⟨x, t, rfl, rfl⟩
    · exact wpAny_pyHash_int h
    · exact wpAny_pyHash_str h
  eqBool := fun hu hv h => by
    rcases keyIs_shape hu with ⟨i, t, rfl, rfl⟩ | ⟨x, t, rfl, rfl⟩
    · rcases keyIs_shape hv with ⟨j, u, rfl, rfl⟩ | ⟨y, u, rfl, rfl⟩
      · rw [key_ll] at h; exact wpAny_eqBool_int h
      · rw [key_lr] at h; exact SeqAt.EqAt.int_str i t y u _ _ _ _ h
    · rcases keyIs_shape hv with ⟨j, u, rfl, rfl⟩ | ⟨y, u, rfl, rfl⟩
      · rw [key_rl] at h; exact SeqAt.EqAt.str_int x t j u _ _ _ _ h
      · rw [key_rr] at h; exact wpAny_eqBool_str h
  «strs» := fun k x t v h => by
    rcases keyIs_shape h with ⟨i, u, rfl, e⟩ | ⟨y, u, rfl, e⟩
    · exact nomatch e
    · injection e with e1 _
      subst e1
      cases v <;> rfl
theorem mixKind_int (prog : Program) (w : World) (i : Int) (t : Tok) : (mixKind prog w).is (.inl i) (.int i t) = true := keyIs_int i t
end L2
namespace L2
open PySem PySem.Spec PyProof.Rows
inductive V where
  | non | bl (b : Bool) | int (i : Int) | str (x : Str) | byt (b : Array UInt8) | flt (b : UInt64) | ref (a : Addr) | ty (n : String)
  deriving DecidableEq
def RelV : V → Value → Prop
  | .non, u => u = Value.none
  | .bl b, u => u = Value.bool b
  | .int i, u => ∃ t, u = Value.int i t
  | .str x, u => ∃ t, u = Value.str x t
  | .byt b, u => ∃ t, u = Value.bytes b t
  | .flt b, u => ∃ t, u = Value.float b t
  | .ref a, u => u = Value.ref a
  | .ty n, u => u = Value.type n
abbrev Vals : List V → List Value → Prop := Paired RelV
theorem Vals.length {xs : List V} {us : List Value} (r : Vals xs us) : xs.length = us.length := Paired.length r
theorem Vals.get : ∀ {xs : List V} {us : List Value} {i : Nat} {x : V}, Vals xs us → xs[i]? = some x → ∃ u, us[i]? = some u ∧ RelV x u
  | _, _, _, _, .nil, e => by simp at e
  | _, _, 0, _, .cons r _, e => by simp at e; subst e; exact ⟨_, rfl, r⟩
  | _, _, i + 1, x, .cons _ t, e => by
    obtain ⟨u, h1, h2⟩ := Vals.get (i := i) (x := x) t (by simpa using e)
    exact ⟨u, by simpa using h1, h2⟩
theorem Vals.set {x : V} {u : Value} (r : RelV x u) : ∀ {xs : List V} {us : List Value} (i : Nat), Vals xs us → Vals (xs.set i x) (us.set i u)
  | _, _, _, .nil => .nil
  | _, _, 0, .cons _ t => .cons r t
  | _, _, i + 1, .cons q t => .cons q (Vals.set r i t)
theorem Vals.append : ∀ {xs ys : List V} {us ws : List Value}, Vals xs us → Vals ys ws → Vals (xs ++ ys) (us ++ ws)
  | _, _, _, _, .nil, s => s
  | _, _, _, _, .cons r t, s => .cons r (Vals.append t s)
theorem Vals.take : ∀ {xs : List V} {us : List Value} (n : Nat), Vals xs us → Vals (xs.take n) (us.take n)
  | _, _, 0, _ => .nil
  | _, _, _ + 1, .nil => .nil
  | _, _, n + 1, .cons r t => .cons r (Vals.take n t)
theorem Vals.drop : ∀ {xs : List V} {us : List Value} (n : Nat), Vals xs us → Vals (xs.drop n) (us.drop n)
  | _, _, 0, r => r
  | _, _, _ + 1, .nil => .nil
  | _, _, n + 1, .cons _ t => Vals.drop n t
theorem Vals.none_of : ∀ {xs : List V} {us : List Value} {i : Nat}, Vals xs us → xs[i]? = none → us[i]? = none := fun {xs us i} r e => by
  have h1 := r.length
  have h2 : xs.length ≤ i := List.getElem?_eq_none_iff.mp e
  exact List.getElem?_eq_none_iff.mpr (by omega)
def RelO : Option V → Option Value → Prop
  | some v, some u => RelV v u
  | none, none => True
  | _, _ => False
def KV {κ : Type} : List (κ × V) → List (κ × Value) → Prop := Paired fun (p : κ × V) (q : κ × Value) => p.1 = q.1 ∧ RelV p.2 q.2
def kV : Key → V
  | .inl i => .int i
  | .inr x => .str x
inductive HO where
    | lst (xs : List V)
    | tup (xs : List V)
    | dK (kvs : List (Key × V)) | dT (kvs : List (List Key × V))
    | set (S : Int → Bool) (n : Nat)
    | ins (C dx : Addr) (fs : List (Str × V))
    | own (x : Addr)
    | xd (fs : List (Str × V))
    | met (f x : Addr)
    | rng (lo hi : Int)
    | frz (o : Obj) (u : HO)
    | tbl (ps : Array Value)
    | ext (φ : Heap → Prop)
abbrev Hp := Addr → Option HO
def upd (H : Hp) (a : Addr) (o : HO) : Hp := fun b => if b = a then some o else H b
theorem upd_same {H : Hp} {a : Addr} {o : HO} : upd H a o a = some o := by unfold upd; rw [if_pos rfl]
theorem upd_ne {H : Hp} {a b : Addr} {o : HO} (h : b ≠ a) : upd H a o b = H b := by unfold upd; rw [if_neg h]
theorem ne_of {H : Hp} {a b : Addr} {o u : HO} (h : H a = some o) (h' : H b = some u) (d : o ≠ u) : a ≠ b := by
  intro e; subst e; rw [h] at h'; exact d (Option.some.inj h')
theorem ne_of_none {H : Hp} {a b : Addr} {o : HO} (h : H a = some o) (h' : H b = none) : a ≠ b := by
  intro e; subst e; rw [h] at h'; cases h'
section
variable (P : Program) (w : World)
def ObjOk (H : Hp) (h : Heap) (a : Addr) : HO → Prop
  | .lst xs => xs.length ≤ sizeLine ∧ ∃ (its : List Value) (n : Nat), Vals xs its ∧ h.get? a = some { cls := .type "list", data := .seq its.toArray n }
  | .tup xs => xs.length ≤ sizeLine ∧ ∃ its : List Value, Vals xs its ∧ IsTup h a its.toArray
  | .dK kvs => kvs.length ≤ sizeLine ∧ (a == sysModules) = false ∧ ∃ vs, KV kvs vs ∧ h.DictOf (mixKind P w) a vs
  | .dT kvs => kvs.length ≤ sizeLine ∧ (a == sysModules) = false ∧ ∃ xs : List (List Key × Addr × Value),
      Paired (fun (p : List Key × V) (q : List Key × Addr × Value) => p.1 = q.1 ∧ H q.2.1 = some (.tup (p.1.map kV)) ∧ RelV p.2 q.2.2) kvs xs ∧
      ∃ o es ep, h.get? a = some o ∧ o.ExactDict ∧ o.data = .dict es ep ∧ es.toList = xs.map (entryOfKey (tupleKind (mixKind P w))) ∧ (xs.map (·.1)).Nodup
  | .set S n => h.SetOf (intKind P w) a S n
  | .ins C dx fs => H dx = some (.own a) ∧ fs.length ≤ 1000 ∧ dx ≠ a ∧ h.get? a = some (PySem.W.instObj C dx) ∧
      ∃ mA, h.Ns1 dx mA ∧ (∀ f, RelO (fs.lookup f) (mA f)) ∧ PySem.Within mA (fs.map (·.1))
  | .own _ => ∃ o, h.get? a = some o
  | .xd fs => ∃ mA, h.Ns1 a mA ∧ ∀ f, RelO (fs.lookup f) (mA f)
  | .rng lo hi => ∃ t u v, h.get? a = some { cls := .type "range", data := .fields #[.int lo t, .int hi u, .int 1 v] }
  | .frz o u => h.get? a = some o ∧ ObjOk H h a u
  | .tbl ps => h.get? a = some { cls := .none, data := .fields ps }
  | .met f x => h.get? a = some (PySem.W.methodObj (.ref f) (.ref x))
  | .ext φ => φ h ∧ (∃ o, h.get? a = some o) ∧ ∀ h1 h2 : Heap, φ h1 → (∀ o, h1.get? a = some o → h2.get? a = some o) → φ h2
def HOk (H : Hp) (h : Heap) : Prop := ∀ a o, H a = some o → ObjOk P w H h a o
end
section
variable {P : Program} {w : World} {H H' : Hp} {h h' : Heap} {a : Addr} {o : HO}
theorem ObjOk.lt (x : ObjOk P w H h a o) : a < h.objs.size := by
  cases o with
  | lst xs => obtain ⟨_, _, _, _, e⟩ := x; exact Heap.lt_size e
  | tup xs => obtain ⟨_, _, _, p⟩ := x; exact p.lt
  | dK kvs => obtain ⟨_, _, _, _, o, _, _, e, _⟩ := x; exact Heap.lt_size e
  | dT kvs => obtain ⟨_, _, _, _, o, _, _, e, _⟩ := x; exact Heap.lt_size e
  | set S n => obtain ⟨o, _, _, _, e, _⟩ := x; exact Heap.lt_size e
  | ins C dx fs => obtain ⟨_, _, _, e, _⟩ := x; exact Heap.lt_size e
  | own y => obtain ⟨_, e⟩ := x; exact Heap.lt_size e
  | xd fs => obtain ⟨_, ⟨_, _, _, e, _⟩, _⟩ := x; exact Heap.lt_size e
  | rng lo hi => obtain ⟨_, _, _, e⟩ := x; exact Heap.lt_size e
  | frz ob u => obtain ⟨e, _⟩ := x; exact Heap.lt_size e
  | tbl ps => exact Heap.lt_size (show h.get? a = some _ from x)
  | met f y => exact Heap.lt_size (show h.get? a = some _ from x)
  | ext φ => obtain ⟨_, ⟨_, e⟩, _⟩ := x; exact Heap.lt_size e
theorem Paired.mapP {α β : Type} {F G : α → β → Prop} : ∀ {l₁ : List α} {l₂ : List β}, Paired F l₁ l₂ → (∀ a b, F a b → G a b) → Paired G l₁ l₂
  | _, _, .nil, _ => .nil
  | _, _, .cons r t, f => .cons (f _ _ r) (Paired.mapP t f)
theorem ObjOk.stay (x : ObjOk P w H h a o) (k : ∀ b u, (b = a ∨ H b = some (.own a)) → h.get? b = some u → h'.get? b = some u)
    (ho : ∀ b, H b = some (.own a) → H' b = some (.own a)) (ht : ∀ b xs, H b = some (.tup xs) → H' b = some (.tup xs)) : ObjOk P w H' h' a o := by
  induction o with
  | lst xs => obtain ⟨z, its, n, r, e⟩ := x; exact ⟨z, its, n, r, k _ _ (.inl rfl) e⟩
  | tup xs => obtain ⟨z, its, r, ob, e, c⟩ := x; exact ⟨z, its, r, ob, k _ _ (.inl rfl) e, c⟩
  | dK kvs => obtain ⟨z, y, vs, r, ob, es, ep, e, c⟩ := x; exact ⟨z, y, vs, r, ob, es, ep, k _ _ (.inl rfl) e, c⟩
  | dT kvs =>
    obtain ⟨z, y, xs, r, ob, es, ep, e, c⟩ := x
    exact ⟨z, y, xs, Paired.mapP r fun p q z => ⟨z.1, ht _ _ z.2.1, z.2.2⟩, ob, es, ep, k _ _ (.inl rfl) e, c⟩
  | set S n => obtain ⟨ob, es, ep, t, e, c⟩ := x; exact ⟨ob, es, ep, t, k _ _ (.inl rfl) e, c⟩
  | ins C dx fs =>
    obtain ⟨d, z, ne, e, mA, ⟨od, es, ep, e2, c⟩, r⟩ := x
    exact ⟨ho _ d, z, ne, k _ _ (.inl rfl) e, mA, ⟨od, es, ep, k _ _ (.inr d) e2, c⟩, r⟩
  | own y => obtain ⟨ob, e⟩ := x; exact ⟨ob, k _ _ (.inl rfl) e⟩
  | xd fs => obtain ⟨mA, ⟨od, es, ep, e, c⟩, r⟩ := x; exact ⟨mA, ⟨od, es, ep, k _ _ (.inl rfl) e, c⟩, r⟩
  | rng lo hi => obtain ⟨t, u, v, e⟩ := x; exact ⟨t, u, v, k _ _ (.inl rfl) e⟩
  | frz ob u ih => obtain ⟨e, q⟩ := x; exact ⟨k _ _ (.inl rfl) e, ih q⟩
  | tbl ps =>
    have e : h.get? a = some { cls := .none, data := .fields ps } := x
    show h'.get? a = some { cls := .none, data := .fields ps }
    exact k a _ (.inl rfl) e
  | met f y =>
    have e : h.get? a = some (PySem.W.methodObj (.ref f) (.ref y)) := x
    show h'.get? a = some (PySem.W.methodObj (.ref f) (.ref y))
    exact k a _ (.inl rfl) e
  | ext φ => obtain ⟨p, ⟨o, e⟩, st⟩ := x; exact ⟨st _ _ p fun o q => k _ _ (.inl rfl) q, ⟨o, k _ _ (.inl rfl) e⟩, st⟩
theorem HOk.lt (x : HOk P w H h) (e : H a = some o) : a < h.objs.size := (x a o e).lt
theorem HOk.fresh (x : HOk P w H h) (e : h.objs.size ≤ a) : H a = none := by
  cases q : H a with
  | none => rfl
  | some u => exact absurd (Nat.lt_of_lt_of_le (x.lt q) e) (Nat.lt_irrefl _)
theorem HOk.kept (x : HOk P w H h) (k : ∀ b u, h.get? b = some u → h'.get? b = some u) : HOk P w H h' := fun a o e =>
  (x a o e).stay (fun b u _ q => k b u q) (fun _ q => q) fun _ _ q => q
theorem HOk.laid (x : HOk P w H h) (k : ∀ b u, h.get? b = some u → h'.get? b = some u) (hp : h.objs.size ≤ a) (new : ObjOk P w (upd H a o) h' a o) : HOk P w (upd H a o) h' := fun b u e => by
  have hn := x.fresh hp
  by_cases hb : b = a
  · subst hb; rw [upd_same] at e; cases e; exact new
  · rw [upd_ne hb] at e
    exact (x b u e).stay (fun c v _ q => k c v q) (fun c q => by rw [upd_ne (ne_of_none q hn)]; exact q) fun c xs q => by rw [upd_ne (ne_of_none q hn)]; exact q
end
def Rd (H : Hp) (a : Addr) (u : HO) : Prop := H a = some u ∨ ∃ o, H a = some (.frz o u)
theorem Rd.ok {P : Program} {w : World} {H : Hp} {h : Heap} {a : Addr} {u : HO} (r : Rd H a u) (x : HOk P w H h) : ObjOk P w H h a u := by
  rcases r with r | ⟨o, r⟩
  · exact x a u r
  · obtain ⟨_, q⟩ := x a _ r
    exact q
def Mut : Option HO → Prop
  | some (.lst _) => True
  | some (.dK _) => True
  | some (.dT _) => True
  | some (.set _ _) => True
  | some (.ins _ _ _) => True
  | some (.ext _) => True
  | _ => False
section
variable {P : Program} {w : World} {H : Hp} {h h' : Heap} {x e : Addr} {o' : HO}
theorem HOk.write (ok : HOk P w H h) (mu : Mut (H x)) (he : e = x ∨ H e = some (.own x)) (k : ∀ b u, b ≠ e → h.get? b = some u → h'.get? b = some u) (heo : ∃ u, h'.get? e = some u)
    (new : ObjOk P w (upd H x o') h' x o') : HOk P w (upd H x o') h' := fun b u q => by
  have nown : ∀ c y, H c = some (.own y) → c ≠ x := fun c y r z => by subst z; rw [r] at mu; exact mu
  have ntup : ∀ c xs, H c = some (.tup xs) → c ≠ x := fun c xs r z => by subst z; rw [r] at mu; exact mu
  by_cases hb : b = x
  · subst hb; rw [upd_same] at q; cases q; exact new
  · rw [upd_ne hb] at q
    by_cases hbe : b = e
    · have q' : H b = some (.own x) := by
        rcases he with z | z
        · exact absurd (hbe.trans z) hb
        · rw [hbe]; exact z
      rw [q] at q'; cases q'
      obtain ⟨v, hv⟩ := heo
      exact ⟨v, by rw [hbe]; exact hv⟩
    · refine (ok b u q).stay (fun c v hc r => k c v ?_ r) (fun c r => by rw [upd_ne (nown c b r)]; exact r) fun c xs r => by rw [upd_ne (ntup c xs r)]; exact r
      rcases hc with rfl | hc
      · exact hbe
      · rintro rfl
        rcases he with z | z
        · exact nown c b hc z
        · rw [hc] at z; cases z; exact hb rfl
end
structure Un (fs ex : List Addr) (H H' : Hp) (h h' : Heap) : Prop where
  keep : ∀ b o, h.get? b = some o → H b = none → b ∉ fs → b ∉ ex → h'.get? b = some o
  slot : ∀ b o, h.get? b = some o → H b = none → b ∈ fs → b ∉ ex → ∃ sl, h'.get? b = some { o with slots := sl }
  free : ∀ b o, h.get? b = some o → H b = none → b ∉ ex → H' b = none
  there : ∀ b o, h.get? b = some o → b ∉ ex → ∃ o', h'.get? b = some o'
  tups : ∀ b xs, H b = some (.tup xs) → H' b = some (.tup xs)
  frzs : ∀ b o u, H b = some (.frz o u) → H' b = some (.frz o u)
  tbls : ∀ b ps, H b = some (.tbl ps) → ∃ more, H' b = some (.tbl (ps ++ more))
section
variable {fs fs' ex ex' : List Addr} {H H1 H2 : Hp} {h h1 h2 h' : Heap} {a x e : Addr} {o : HO}
theorem Un.any (u : Un fs ex H H1 h h1) {b : Addr} {ob : Obj} (q : h.get? b = some ob) (n : H b = none) (hx : b ∉ ex) : ∃ sl, h1.get? b = some { ob with slots := sl } := by
  by_cases hb : b ∈ fs
  · exact u.slot b ob q n hb hx
  · exact ⟨ob.slots, u.keep b ob q n hb hx⟩
theorem Un.kept (k : ∀ b u, h.get? b = some u → h'.get? b = some u) : Un fs ex H H h h' :=
  ⟨fun b ob q _ _ _ => k b ob q, fun b ob q _ _ _ => ⟨ob.slots, k b ob q⟩, fun _ _ _ n _ => n, fun b ob q _ => ⟨ob, k b ob q⟩, fun _ _ q => q, fun _ _ _ q => q, fun _ ps q => ⟨#[], by rw [q]; simp⟩⟩
theorem Un.refl : Un fs ex H H h h := Un.kept fun _ _ q => q
theorem Un.laid (k : ∀ b u, h.get? b = some u → h'.get? b = some u) (hp : h.objs.size ≤ a) (hn : H a = none) : Un fs ex H (upd H a o) h h' where
  keep := fun b u q _ _ _ => k b u q
  slot := fun b u q _ _ _ => ⟨u.slots, k b u q⟩
  free := fun b u q n _ => by rw [upd_ne (Nat.ne_of_lt (Nat.lt_of_lt_of_le (Heap.lt_size q) hp))]; exact n
  there := fun b u q _ => ⟨u, k b u q⟩
  tups := fun b xs q => by rw [upd_ne (ne_of_none q hn)]; exact q
  frzs := fun b u xs q => by rw [upd_ne (ne_of_none q hn)]; exact q
  tbls := fun b ps q => ⟨#[], by rw [upd_ne (ne_of_none q hn), q]; simp⟩
theorem Un.write (mu : Mut (H x)) (he : e = x ∨ H e = some (.own x)) (k : ∀ b u, b ≠ e → h.get? b = some u → h'.get? b = some u) (heo : ∃ u, h'.get? e = some u) : Un fs ex H (upd H x o) h h' := by
  have hx : ∀ b, H b = none → b ≠ x := fun b n z => by subst z; rw [n] at mu; exact mu
  have hb : ∀ b, H b = none → b ≠ e := fun b n z => by
    subst z
    rcases he with r | r
    · exact hx b n r
    · rw [n] at r; cases r
  have hm : ∀ b u, H b = some u → ¬ Mut (some u) → b ≠ x := fun b u q nm z => by subst z; rw [q] at mu; exact nm mu
  refine ⟨fun b u q n _ _ => k b u (hb b n) q, fun b u q n _ _ => ⟨u.slots, k b u (hb b n) q⟩, fun b u q n _ => by rw [upd_ne (hx b n)]; exact n, fun b u q _ => ?_,
    fun b xs q => by rw [upd_ne (hm b _ q fun z => z)]; exact q, fun b u xs q => by rw [upd_ne (hm b _ q fun z => z)]; exact q, fun b ps q => ⟨#[], by rw [upd_ne (hm b _ q fun z => z), q]; simp⟩⟩
  by_cases hbe : b = e
  · subst hbe; exact heo
  · exact ⟨u, k b u hbe q⟩
end
def trk (h : Heap) (H : Hp) : List Addr := (List.range h.objs.size).filter fun a => (H a).isSome
def hidT (h : Heap) (H : Hp) : Heap := PySem.W.hideAll h (trk h H)
theorem hidT_size (h : Heap) (H : Hp) : (hidT h H).objs.size = h.objs.size := PySem.W.hideAll_size _ _
theorem hidT_get {h : Heap} {H : Hp} {b : Addr} {o : Obj} (e : h.get? b = some o) (n : H b = none) : (hidT h H).get? b = some o :=
  PySem.W.hideAll_get _ e fun hm => by
    have q : (H b).isSome = true := (List.mem_filter.mp hm).2
    rw [n] at q; simp at q
theorem of_hidT {h : Heap} {H : Hp} {b : Addr} {o : Obj} (e : (hidT h H).get? b = some o) : h.get? b = some o ∧ H b = none := by
  have e' : h.get? b = some o := PySem.W.of_hideAll (trk h H) e
  refine ⟨e', ?_⟩
  cases q : H b with
  | none => rfl
  | some x =>
    have hm : b ∈ trk h H := List.mem_filter.mpr ⟨List.mem_range.mpr (Heap.lt_size e'), by simp [q]⟩
    have z : (hidT h H).get? b = none := PySem.W.hideAll_none (trk h H) hm
    rw [z] at e; cases e
end L2
namespace L2
open PySem PySem.Spec PyProof.Rows
structure Mod (K : PySem.W.Frag) (mg : Str → Option Value) (base : Heap) : Prop where
  kin : K.In base
  glob : base.Ns mainGlobals mg
  blt : ∃ mb, base.Ns builtinsNs mb ∧ ∀ x : Str, x ≠ "__name__" → mb x = bootBuiltins x
  nolimit : base.NoLimit
structure Cx where
  prog : Program
  w : World
  K : PySem.W.Frag
  mg : Str → Option Value
  base : Heap
  A : Around
  N : List Str
  s₀ : Shared
  H₀ : Hp
  env : Env
  outer : List Env
  stack : List Env
  ex : List Addr
  fn : Str → Bool
  calm : Bool
  pn : List (Addr × Obj)
  xe : Value → Shared → Prop
def frs (l : List Env) : List Addr := l.filterMap (·.frame)
abbrev Cx.fs (X : Cx) : List Addr := frs X.outer
def Vis (sc : Scope) (x : Str) : Prop := sc.names.lookup x = some .local ∨ sc.names.lookup x = some .cell ∨ sc.names.lookup x = some .free
def Loc (sc : Scope) (x : Str) : Prop := sc.names.lookup x = some .local ∨ sc.names.lookup x = some .cell
def Look (env : Env) (h : Heap) (m : Str → Option Value) (x : Str) (u : Value) : Prop :=
  (env.kindOf x = some .local ∧ m x = some u) ∨ ((env.kindOf x = some .cell ∨ env.kindOf x = some .free) ∧ ∃ c, env.cells.lookup x = some c ∧ h.IsCell c (some u))
structure Cx.Ok (X : Cx) : Prop where
  mod : Mod X.K X.mg X.base
  kind : X.env.scope.kind = .function
  glob : X.env.globals = mainGlobals
  blt : X.env.builtins = builtinsNs
  above : X.s₀.heap.objs.size ≤ X.env.locals
  inj : ∀ x y c, X.env.cells.lookup x = some c → X.env.cells.lookup y = some c → x = y
  has : ∀ x, (X.env.kindOf x = some .cell ∨ X.env.kindOf x = some .free) → ∃ c, X.env.cells.lookup x = some c
  cab : ∀ x c, X.fn x = true → X.env.cells.lookup x = some c → X.s₀.heap.objs.size ≤ c
  hd : X.calm = true → X.A.handled = none
  frames : X.A.frames = some X.stack
  stk : X.stack = X.outer ∨ (X.stack = X.env :: X.outer ∧ X.env.frame = some X.env.locals)
  exf : ∀ b ∈ X.ex, b ≠ X.env.locals ∧ ∀ x c, X.env.cells.lookup x = some c → c ≠ b
  bs : ∀ b o, X.base.get? b = some o → X.s₀.heap.get? b = some o ∧ X.H₀ b = none
  bsz : X.base.objs.size ≤ X.s₀.heap.objs.size
  noex : ∀ b o, X.base.get? b = some o → b ∉ X.ex
  exfs : ∀ b ∈ X.ex, b ∉ X.fs
  funs : X.s₀.heap.FunFrames X.base X.outer
  frf : ∀ b ∈ X.fs, X.H₀ b = none
structure Inv (X : Cx) (pins : List (Addr × Obj)) (σ : List (Option V)) (H : Hp) (s : Shared) : Prop where
  ok : X.Ok
  os : s.os = X.s₀.os
  bare : AllBare s.gens
  base : Un X.fs X.ex X.H₀ H X.s₀.heap s.heap
  loc : ∃ m, s.heap.Ns X.env.locals m ∧ ∀ (i : Nat) (x : Str) (v : V), X.N[i]? = some x → σ[i]? = some (some v) → Vis X.env.scope x → ∃ u, RelV v u ∧ Look X.env s.heap m x u
  cell : ∀ x c, X.env.cells.lookup x = some c → ∃ v, s.heap.IsCell c v
  free : H X.env.locals = none
  freeC : ∀ x c, X.env.cells.lookup x = some c → H c = none
  pin : ∀ p ∈ X.pn ++ pins, s.heap.get? p.1 = some p.2 ∧ H p.1 = none ∧ p.1 ≠ X.env.locals ∧ p.1 ∉ X.fs ∧ ∀ v, p.2.data ≠ .cell v
  hok : HOk X.prog X.w H s.heap
  len : σ.length = X.N.length
section
variable {X : Cx} {pins : List (Addr × Obj)} {σ : List (Option V)} {H H' : Hp} {s : Shared} {h' : Heap}
theorem Cx.Ok.nofr (ok : X.Ok) {b : Addr} {o : Obj} (e : X.base.get? b = some o) : b ∉ X.fs := fun hb => by
  have := (ok.funs.mem hb).1
  rw [e] at this; cases this
theorem Inv.bs (I : Inv X pins σ H s) : ∀ b o, X.base.get? b = some o → s.heap.get? b = some o ∧ H b = none := fun b o e =>
  ⟨I.base.keep b o (I.ok.bs b o e).1 (I.ok.bs b o e).2 (I.ok.nofr e) (I.ok.noex b o e), I.base.free b o (I.ok.bs b o e).1 (I.ok.bs b o e).2 (I.ok.noex b o e)⟩
theorem Inv.bk (I : Inv X pins σ H s) : ∀ b o, X.base.get? b = some o → s.heap.get? b = some o := fun b o e => (I.bs b o e).1
theorem Inv.mod (I : Inv X pins σ H s) : Mod X.K X.mg X.base := I.ok.mod
theorem Inv.kIn (I : Inv X pins σ H s) : X.K.In s.heap := I.ok.mod.kin.keeps I.bk
theorem Inv.lt (I : Inv X pins σ H s) : X.env.locals < s.heap.objs.size := let ⟨_, hn, _⟩ := I.loc; hn.lt
theorem Inv.sz (I : Inv X pins σ H s) : X.s₀.heap.objs.size ≤ s.heap.objs.size := Nat.le_trans I.ok.above (Nat.le_of_lt I.lt)
theorem Inv.nofs (I : Inv X pins σ H s) {a : Addr} (h : s.heap.objs.size ≤ a) : a ∉ X.fs := fun hb => by
  obtain ⟨_, o, ho, _⟩ := I.ok.funs.mem hb
  exact absurd (Nat.lt_of_lt_of_le (Heap.lt_size ho) (Nat.le_trans I.sz h)) (Nat.lt_irrefl _)
theorem Inv.cne (I : Inv X pins σ H s) : ∀ x c, X.env.cells.lookup x = some c → c ≠ X.env.locals := fun x c e z => by
  obtain ⟨v, o, ho, hd⟩ := I.cell x c e
  obtain ⟨m, ⟨o', es, ep, ho', hd', _⟩, _⟩ := I.loc
  rw [z, ho'] at ho; cases ho; rw [hd'] at hd; cases hd
theorem Inv.funs (I : Inv X pins σ H s) : s.heap.FunFrames X.base X.outer := by
  have all : ∀ (l : List Env), (∀ b ∈ frs l, b ∈ X.fs) → X.s₀.heap.FunFrames X.base l → s.heap.FunFrames X.base l := by
    intro l
    induction l with
    | nil => intro _ _; trivial
    | cons env r ih =>
      intro hs hl
      obtain ⟨hk, ⟨L, o, hf, hn, ho, hd⟩, hr⟩ := hl
      have hL : L ∈ X.fs := hs L (by unfold frs; rw [List.filterMap_cons, hf]; exact List.mem_cons_self)
      obtain ⟨sl, e⟩ := I.base.slot L o ho (I.ok.frf L hL) hL fun z => I.ok.exfs L z hL
      exact ⟨hk, ⟨L, _, hf, hn, e, hd⟩, ih (fun b hb => hs b (by unfold frs; rw [List.filterMap_cons, hf]; exact List.mem_cons_of_mem _ hb)) hr⟩
  exact all X.outer (fun _ hb => hb) I.ok.funs
theorem Inv.stack (I : Inv X pins σ H s) : s.heap.FunFrames X.base X.stack := by
  rcases I.ok.stk with e | ⟨e, hf⟩
  · rw [e]; exact I.funs
  · rw [e]
    obtain ⟨m, hn, _⟩ := I.loc
    refine .cons (by rw [I.ok.kind]; decide) hf hn ?_ I.funs
    exact Heap.get?_none_of_le (Nat.le_trans I.ok.bsz I.ok.above)
theorem Inv.stkSub (I : Inv X pins σ H s) : ∀ b ∈ frs X.stack, b ∈ X.env.locals :: X.fs := fun b hb => by
  rcases I.ok.stk with e | ⟨e, hf⟩
  · rw [e] at hb; exact List.mem_cons_of_mem _ hb
  · rw [e] at hb
    unfold frs at hb
    rw [List.filterMap_cons, hf] at hb
    exact hb
theorem Inv.stkFree (I : Inv X pins σ H s) : ∀ b ∈ frs X.stack, H b = none := fun b hb => by
  rcases List.mem_cons.mp (I.stkSub b hb) with e | hb
  · rw [e]; exact I.free
  · obtain ⟨_, o, ho, _⟩ := I.ok.funs.mem hb
    exact I.base.free b o ho (I.ok.frf b hb) fun z => I.ok.exfs b z hb
theorem Inv.step {g' : Array GenState} {t' : Nat} {d' : Drawn} {ch : List Addr} (I : Inv X pins σ H s)
    (hch : ∀ b ∈ ch, (b ∈ X.ex ∨ X.s₀.heap.objs.size ≤ b) ∧ b ≠ X.env.locals ∧ (∀ x c, X.env.cells.lookup x = some c → c ≠ b) ∧ ∀ p ∈ X.pn ++ pins, p.1 ≠ b)
    (keep : ∀ b o, b ≠ X.env.locals → b ∉ X.fs → b ∉ ch → s.heap.get? b = some o → H b = none → h'.get? b = some o)
    (slot : ∀ b o, b ≠ X.env.locals → b ∈ X.fs → b ∉ ch → s.heap.get? b = some o → H b = none → ∃ sl, h'.get? b = some { o with slots := sl }) (free : ∀ b o, b ∉ ch → s.heap.get? b = some o → H b = none → H' b = none)
    (there : ∀ b o, b ∉ ch → s.heap.get? b = some o → ∃ o', h'.get? b = some o')
    (tups : ∀ b xs, H b = some (.tup xs) → H' b = some (.tup xs)) (frzs : ∀ b o u, H b = some (.frz o u) → H' b = some (.frz o u)) (tbls : ∀ b ps, H b = some (.tbl ps) → ∃ more, H' b = some (.tbl (ps ++ more)))
    (ns : ∀ m, s.heap.Ns X.env.locals m → h'.Ns X.env.locals m) (hok : HOk X.prog X.w H' h') (hg : AllBare g') :
    Inv X pins σ H' { s with heap := h', gens := g', drawn := d', toks := t' } := by
  have neL : ∀ b o, X.s₀.heap.get? b = some o → b ≠ X.env.locals := fun b o e => Nat.ne_of_lt (Nat.lt_of_lt_of_le (Heap.lt_size e) I.ok.above)
  have neC : ∀ b o, X.s₀.heap.get? b = some o → b ∉ X.ex → b ∉ ch := fun b o e hx hb => by
    rcases (hch b hb).1 with z | z
    · exact hx z
    · exact absurd (Nat.lt_of_lt_of_le (Heap.lt_size e) z) (Nat.lt_irrefl _)
  have cellK : ∀ x c, X.env.cells.lookup x = some c → ∀ v, s.heap.IsCell c v → h'.IsCell c v := fun x c e v ⟨o, ho, hd⟩ => by
    have nch : c ∉ ch := fun z => (hch c z).2.2.1 x c e rfl
    by_cases hc : c ∈ X.fs
    · obtain ⟨sl, q⟩ := slot c o (I.cne x c e) hc nch ho (I.freeC x c e)
      exact ⟨_, q, hd⟩
    · exact ⟨o, keep c o (I.cne x c e) hc nch ho (I.freeC x c e), hd⟩
  refine ⟨I.ok, I.os, hg, ⟨fun b o e n hb hx => ?_, fun b o e n hb hx => ?_, fun b o e n hx => ?_, fun b o e hx => ?_, fun b xs e => tups b xs (I.base.tups b xs e), fun b o xs e => frzs b o xs (I.base.frzs b o xs e), fun b ps e => ?_⟩, ?_, fun x c e => ?_, ?_, fun x c e => ?_, fun p hp => ?_, hok, I.len⟩
  · exact keep b o (neL b o e) hb (neC b o e hx) (I.base.keep b o e n hb hx) (I.base.free b o e n hx)
  · obtain ⟨sl, e1⟩ := I.base.slot b o e n hb hx
    obtain ⟨sl', e2⟩ := slot b _ (neL b o e) hb (neC b o e hx) e1 (I.base.free b o e n hx)
    exact ⟨sl', e2⟩
  · obtain ⟨o', e1⟩ := I.base.there b o e hx
    exact free b o' (neC b o e hx) e1 (I.base.free b o e n hx)
  · obtain ⟨o', e1⟩ := I.base.there b o e hx
    exact there b o' (neC b o e hx) e1
  · obtain ⟨m1, e1⟩ := I.base.tbls b ps e
    obtain ⟨m2, e2⟩ := tbls b _ e1
    exact ⟨m1 ++ m2, by rw [e2, Array.append_assoc]⟩
  · obtain ⟨m, hn, hl⟩ := I.loc
    refine ⟨m, ns m hn, fun i x v e1 e2 e3 => ?_⟩
    obtain ⟨u, r, l⟩ := hl i x v e1 e2 e3
    refine ⟨u, r, ?_⟩
    rcases l with l | ⟨k, c, e, z⟩
    · exact .inl l
    · exact .inr ⟨k, c, e, cellK x c e _ z⟩
  · obtain ⟨v, z⟩ := I.cell x c e
    exact ⟨v, cellK x c e v z⟩
  · obtain ⟨m, ⟨o, _, _, ho, _⟩, _⟩ := I.loc
    exact free _ o (fun z => (hch _ z).2.1 rfl) ho I.free
  · obtain ⟨v, o, ho, hd⟩ := I.cell x c e
    exact free c o (fun z => (hch c z).2.2.1 x c e rfl) ho (I.freeC x c e)
  · obtain ⟨e, n, ne, nf, d⟩ := I.pin p hp
    have nch : p.1 ∉ ch := fun z => (hch p.1 z).2.2.2 p hp rfl
    exact ⟨keep p.1 p.2 ne nf nch e n, free p.1 p.2 nch e n, ne, nf, d⟩
theorem Inv.un {t' : Nat} (I : Inv X pins σ H s) (u : Un X.fs [] H H' s.heap h') (hok : HOk X.prog X.w H' h') : Inv X pins σ H' { s with heap := h', toks := t' } := by
  obtain ⟨m, ⟨o, es, ep, ho, r⟩, _⟩ := id I.loc
  obtain ⟨sl, hL⟩ := u.any ho I.free (by simp)
  exact I.step (g' := s.gens) (d' := s.drawn) (ch := []) (fun _ z => nomatch z) (fun b o _ hb _ e n => u.keep b o e n hb (by simp)) (fun b o _ hb _ e n => u.slot b o e n hb (by simp)) (fun b o _ e n => u.free b o e n (by simp)) (fun b o _ e => u.there b o e (by simp)) u.tups u.frzs u.tbls (fun m' hm => by
    obtain ⟨o', es', ep', ho', r'⟩ := hm
    rw [ho] at ho'; cases ho'
    exact ⟨_, es', ep', hL, r'⟩) hok I.bare
theorem Inv.call {g' : Array GenState} {t' : Nat} {d' : Drawn} {ch : List Addr} (I : Inv X pins σ H s) (u : Un (frs X.stack) ch H H' s.heap h') (hok : HOk X.prog X.w H' h') (hg : AllBare g')
    (hch : ∀ b ∈ ch, (b ∈ X.ex ∨ X.s₀.heap.objs.size ≤ b) ∧ b ≠ X.env.locals ∧ (∀ x c, X.env.cells.lookup x = some c → c ≠ b) ∧ ∀ p ∈ X.pn ++ pins, p.1 ≠ b) :
    Inv X pins σ H' { s with heap := h', gens := g', drawn := d', toks := t' } := by
  obtain ⟨m, ⟨o, es, ep, ho, r⟩, _⟩ := id I.loc
  obtain ⟨sl, hL⟩ := u.any ho I.free fun z => (hch _ z).2.1 rfl
  exact I.step (ch := ch) hch (fun b o hL hb hc e n => u.keep b o e n (fun z => (List.mem_cons.mp (I.stkSub b z)).elim hL hb) hc) (fun b o _ _ hc e n => u.any e n hc) (fun b o hc e n => u.free b o e n hc) (fun b o hc e => u.there b o e hc) u.tups u.frzs u.tbls (fun m' hm => by
    obtain ⟨o', es', ep', ho', r'⟩ := hm
    rw [ho] at ho'; cases ho'
    exact ⟨_, es', ep', hL, r'⟩) hok hg
theorem Inv.turned {t' : Nat} {it : Addr} (I : Inv X pins σ H s) (k : ∀ b o, b ≠ it → s.heap.get? b = some o → h'.get? b = some o) (hn : H it = none) (hL : it ≠ X.env.locals)
    (h1 : it ∈ X.ex ∨ X.s₀.heap.objs.size ≤ it) (h2 : ∀ x c, X.env.cells.lookup x = some c → c ≠ it) (h3 : ∀ p ∈ X.pn ++ pins, p.1 ≠ it) : Inv X pins σ H { s with heap := h', toks := t' } := by
  have nit : ∀ b u, H b = some u → b ≠ it := fun b u e z => by rw [z, hn] at e; cases e
  refine I.step (g' := s.gens) (d' := s.drawn) (ch := [it]) (fun b hb => ?_) (fun b o _ _ hc e _ => k b o (fun z => hc (by simp [z])) e) (fun b o _ _ hc e _ => ⟨o.slots, k b o (fun z => hc (by simp [z])) e⟩) (fun _ _ _ _ n => n)
    (fun b o hc e => ⟨o, k b o (fun z => hc (by simp [z])) e⟩) (fun _ _ e => e) (fun _ _ _ e => e) (fun b ps e => ⟨#[], by rw [e]; simp⟩) (fun m hm => ?_) (fun b u e => ?_) I.bare
  · have e : b = it := by simpa using hb
    subst e
    exact ⟨h1, hL, h2, h3⟩
  · obtain ⟨o, es, ep, ho, r⟩ := hm
    exact ⟨o, es, ep, k _ o (Ne.symm hL) ho, r⟩
  · refine (I.hok b u e).stay (fun c v hc q => k c v ?_ q) (fun _ q => q) fun _ _ q => q
    rcases hc with z | z
    · rw [z]; exact nit b u e
    · exact nit c _ z
theorem Inv.tok (I : Inv X pins σ H s) (t : Nat) : Inv X pins σ H { s with toks := t } := I.un (h' := s.heap) (t' := t) Un.refl I.hok
theorem Inv.kept {t' : Nat} (I : Inv X pins σ H s) (k : ∀ b u, s.heap.get? b = some u → h'.get? b = some u) : Inv X pins σ H { s with heap := h', toks := t' } := I.un (Un.kept k) (I.hok.kept k)
theorem Inv.laid {a : Addr} {o : HO} {t' : Nat} (I : Inv X pins σ H s) (k : ∀ b u, s.heap.get? b = some u → h'.get? b = some u) (hp : s.heap.objs.size ≤ a) (new : ObjOk X.prog X.w (upd H a o) h' a o) :
    Inv X pins σ (upd H a o) { s with heap := h', toks := t' } := I.un (Un.laid k hp (I.hok.fresh hp)) (I.hok.laid k hp new)
theorem Inv.write {x e : Addr} {o : HO} {t' : Nat} (I : Inv X pins σ H s) (mu : Mut (H x)) (he : e = x ∨ H e = some (.own x)) (k : ∀ b u, b ≠ e → s.heap.get? b = some u → h'.get? b = some u) (heo : ∃ u, h'.get? e = some u)
    (new : ObjOk X.prog X.w (upd H x o) h' x o) : Inv X pins σ (upd H x o) { s with heap := h', toks := t' } := I.un (Un.write mu he k heo) (I.hok.write mu he k heo new)
theorem Inv.weak {σ' : List (Option V)} (I : Inv X pins σ H s) (hl : σ'.length = σ.length) (w : ∀ (i : Nat) v, σ'[i]? = some (some v) → σ[i]? = some (some v)) : Inv X pins σ' H s :=
  ⟨I.ok, I.os, I.bare, I.base, let ⟨m, hn, hl'⟩ := I.loc; ⟨m, hn, fun i x v e1 e2 e3 => hl' i x v e1 (w i v e2) e3⟩, I.cell, I.free, I.freeC, I.pin, I.hok, hl.trans I.len⟩
theorem Inv.pins_of {pins' : List (Addr × Obj)} (I : Inv X pins σ H s) (h : ∀ p ∈ pins', s.heap.get? p.1 = some p.2 ∧ H p.1 = none ∧ p.1 ≠ X.env.locals ∧ p.1 ∉ X.fs ∧ ∀ v, p.2.data ≠ .cell v) : Inv X pins' σ H s :=
  ⟨I.ok, I.os, I.bare, I.base, I.loc, I.cell, I.free, I.freeC, fun p hp => (List.mem_append.mp hp).elim (fun z => I.pin p (List.mem_append_left _ z)) (h p), I.hok, I.len⟩
theorem nodup_ix {N : List Str} (hN : N.Nodup) {i j : Nat} {x : Str} (a : N[i]? = some x) (b : N[j]? = some x) : i = j := by
  obtain ⟨h1, e1⟩ := List.getElem?_eq_some_iff.mp a
  obtain ⟨h2, e2⟩ := List.getElem?_eq_some_iff.mp b
  exact (List.getElem_inj hN).mp (e1.trans e2.symm)
theorem store_ok2 {M : Model} {A : Around} {E : Value → Shared → Prop} {i : Nat} {x : Str} {v : V} {u : Value} {Q : Unit → Shared → Prop} (I : Inv X pins σ H s) (hN : X.N.Nodup) (hi : X.N[i]? = some x) (hx : Loc X.env.scope x) (r : RelV v u)
    (h : ∀ s', Inv X pins (σ.set i (some v)) H s' → (∃ a, Heap.SameBut a s.heap s'.heap ∧ (a = X.env.locals ∨ X.env.cells.lookup x = some a)) → Q () s') (hf : X.fn x = true ∨ X.env.scope.names.lookup x = some .local := by first | exact .inl rfl | exact .inr rfl | assumption) : wpAny M A (storeName X.env x u) Q E s := by
  obtain ⟨m, hn, hl⟩ := id I.loc
  have hcls : (X.env.scope.kind == .class || (X.env.scope.kind == .module && X.env.locals != X.env.globals)) = false := by rw [I.ok.kind]; rfl
  have hiσ : i < σ.length := by rw [I.len]; exact (List.getElem?_eq_some_iff.mp hi).1
  have cne := I.cne
  have tracked : ∀ {a : Addr} {h' : Heap}, (∃ o, s.heap.get? a = some o ∧ H a = none) → Heap.SameBut a s.heap h' → HOk X.prog X.w H h' := fun {a h'} ha hs b ob e => by
    obtain ⟨_, _, hfree⟩ := ha
    refine (I.hok b ob e).stay (fun c w' hc q => (hs.2 c ?_).trans q) (fun _ q => q) fun _ _ q => q
    rintro rfl
    rcases hc with rfl | hc
    · rw [hfree] at e; cases e
    · rw [hfree] at hc; cases hc
  rcases hx with hk | hk
  · refine wpAny_storeName_local hk hn (fun h' hn' hs => ?_) hcls
    obtain ⟨oL, _, _, hoL, _⟩ := id hn
    refine h _ ⟨I.ok, I.os, I.bare, ⟨fun b o e n hb hx => ?_, fun b o e n hb hx => ?_, I.base.free, fun b o e hx => ?_, I.base.tups, I.base.frzs, I.base.tbls⟩, ⟨_, hn', fun j y v' e1 e2 e3 => ?_⟩, fun y c e => ?_, I.free, I.freeC, fun p hp => ?_, tracked ⟨oL, hoL, I.free⟩ hs, by simpa using I.len⟩ ⟨_, hs, .inl rfl⟩
    · exact (hs.2 b (Nat.ne_of_lt (Nat.lt_of_lt_of_le (Heap.lt_size e) I.ok.above))).trans (I.base.keep b o e n hb hx)
    · obtain ⟨sl, e1⟩ := I.base.slot b o e n hb hx
      exact ⟨sl, (hs.2 b (Nat.ne_of_lt (Nat.lt_of_lt_of_le (Heap.lt_size e) I.ok.above))).trans e1⟩
    · obtain ⟨o', e1⟩ := I.base.there b o e hx
      exact ⟨o', (hs.2 b (Nat.ne_of_lt (Nat.lt_of_lt_of_le (Heap.lt_size e) I.ok.above))).trans e1⟩
    · by_cases hj : j = i
      · subst hj
        rw [hi] at e1; cases e1
        rw [List.getElem?_set_self hiσ] at e2
        cases e2
        exact ⟨u, r, .inl ⟨hk, by simp⟩⟩
      · rw [List.getElem?_set_ne (Ne.symm hj)] at e2
        obtain ⟨u', r', q⟩ := hl j y v' e1 e2 e3
        refine ⟨u', r', ?_⟩
        rcases q with ⟨k, e⟩ | ⟨k, c, e, z⟩
        · refine .inl ⟨k, ?_⟩
          have : y ≠ x := fun e => hj (nodup_ix hN e1 (e ▸ hi))
          simp [this, e]
        · exact .inr ⟨k, c, e, z.sameBut hs (cne y c e)⟩
    · obtain ⟨w', z⟩ := I.cell y c e
      exact ⟨w', z.sameBut hs (cne y c e)⟩
    · obtain ⟨e, n, ne, nf, d⟩ := I.pin p hp
      exact ⟨(hs.2 p.1 ne).trans e, n, ne, nf, d⟩
  · have hfn : X.fn x = true := by
      rcases hf with z | z
      · exact z
      · rw [z] at hk; cases hk
    obtain ⟨c, hc⟩ := I.ok.has x (.inl hk)
    obtain ⟨w', z⟩ := I.cell x c hc
    refine wpAny_storeName_cell I.ok.kind hk hc z (fun h' hc' hs => ?_)
    obtain ⟨oc, hoc, hocd⟩ := id z
    refine h { s with heap := h' } ⟨I.ok, I.os, I.bare, ⟨fun b o e n hb hx => ?_, fun b o e n hb hx => ?_, I.base.free, fun b o e hx => ?_, I.base.tups, I.base.frzs, I.base.tbls⟩, ⟨m, hn.sameBut hs (Ne.symm (cne x c hc)), fun j y v' e1 e2 e3 => ?_⟩, fun y c' e => ?_, I.free, I.freeC, fun p hp => ?_, tracked ⟨oc, hoc, I.freeC x c hc⟩ hs, by simpa using I.len⟩ ⟨c, hs, .inr hc⟩
    · exact (hs.2 b (Nat.ne_of_lt (Nat.lt_of_lt_of_le (Heap.lt_size e) (I.ok.cab x c hfn hc)))).trans (I.base.keep b o e n hb hx)
    · obtain ⟨sl, e1⟩ := I.base.slot b o e n hb hx
      exact ⟨sl, (hs.2 b (Nat.ne_of_lt (Nat.lt_of_lt_of_le (Heap.lt_size e) (I.ok.cab x c hfn hc)))).trans e1⟩
    · obtain ⟨o', e1⟩ := I.base.there b o e hx
      exact ⟨o', (hs.2 b (Nat.ne_of_lt (Nat.lt_of_lt_of_le (Heap.lt_size e) (I.ok.cab x c hfn hc)))).trans e1⟩
    · by_cases hj : j = i
      · subst hj
        rw [hi] at e1; cases e1
        rw [List.getElem?_set_self hiσ] at e2
        cases e2
        exact ⟨u, r, .inr ⟨.inl hk, c, hc, hc'⟩⟩
      · rw [List.getElem?_set_ne (Ne.symm hj)] at e2
        obtain ⟨u', r', q⟩ := hl j y v' e1 e2 e3
        refine ⟨u', r', ?_⟩
        rcases q with q | ⟨k, c', e, z'⟩
        · exact .inl q
        · refine .inr ⟨k, c', e, z'.sameBut hs ?_⟩
          rintro rfl
          exact hj (nodup_ix hN e1 (I.ok.inj _ _ _ e hc ▸ hi))
    · by_cases hcc : c' = c
      · subst hcc; exact ⟨_, hc'⟩
      · obtain ⟨w2, z2⟩ := I.cell y c' e
        exact ⟨w2, z2.sameBut hs hcc⟩
    · obtain ⟨e, n, ne, nf, d⟩ := I.pin p hp
      refine ⟨(hs.2 p.1 ?_).trans e, n, ne, nf, d⟩
      intro q
      rw [q, hoc] at e
      have q' : oc = p.2 := Option.some.inj e
      exact d w' (by rw [← q']; exact hocd)
theorem store_ok {M : Model} {A : Around} {E : Value → Shared → Prop} {i : Nat} {x : Str} {v : V} {u : Value} {Q : Unit → Shared → Prop} (I : Inv X pins σ H s) (hN : X.N.Nodup) (hi : X.N[i]? = some x) (hx : Loc X.env.scope x) (r : RelV v u)
    (h : ∀ s', Inv X pins (σ.set i (some v)) H s' → Q () s') (hf : X.fn x = true ∨ X.env.scope.names.lookup x = some .local := by first | exact .inl rfl | exact .inr rfl | assumption) : wpAny M A (storeName X.env x u) Q E s :=
  store_ok2 I hN hi hx r (fun s' I' _ => h s' I') hf
theorem Inv.call' {s' : Shared} {ch : List Addr} (I : Inv X pins σ H s) (ho : s'.os = s.os) (u : Un (frs X.stack) ch H H' s.heap s'.heap) (hok : HOk X.prog X.w H' s'.heap) (hg : AllBare s'.gens)
    (hch : ∀ b ∈ ch, (b ∈ X.ex ∨ X.s₀.heap.objs.size ≤ b) ∧ b ≠ X.env.locals ∧ (∀ x c, X.env.cells.lookup x = some c → c ≠ b) ∧ ∀ p ∈ X.pn ++ pins, p.1 ≠ b) : Inv X pins σ H' s' := by
  obtain ⟨h', g', d', t', o'⟩ := s'
  have e : o' = s.os := ho
  subst e
  exact I.call (g' := g') (t' := t') (d' := d') u hok hg hch
end
abbrev XK := Value → Option Addr → Hp → Prop
abbrev St := List (Option V)
abbrev VK := V → Hp → Prop
abbrev TE := St → Hp → VK → Prop
abbrev TT := St → Hp → (Bool → Hp → Prop) → Prop
abbrev TA := St → Hp → (List V → Hp → Prop) → Prop
structure Ends where
  nx : St → Hp → Prop
  rt : VK
  bk : St → Hp → Prop := fun _ _ => False
  ct : St → Hp → Prop := fun _ _ => False
abbrev TS := Ends → St → Hp → Prop
def EP (X : Cx) (pins : List (Addr × Obj)) (σ : St) (Q : VK) (u : Value) (s' : Shared) : Prop := ∃ v H', Inv X pins σ H' s' ∧ RelV v u ∧ Q v H'
def TP (X : Cx) (pins : List (Addr × Obj)) (σ : St) (Q : Bool → Hp → Prop) (b : Bool) (s' : Shared) : Prop := ∃ H', Inv X pins σ H' s' ∧ Q b H'
def AP (X : Cx) (pins : List (Addr × Obj)) (σ : St) (Q : List V → Hp → Prop) (us : List Value) (s' : Shared) : Prop := ∃ vs H', Inv X pins σ H' s' ∧ Vals vs us ∧ Q vs H'
def SP (X : Cx) (pins : List (Addr × Obj)) (D : Ends) (f : Flow) (s' : Shared) : Prop :=
  match f with
  | .next => ∃ σ' H', Inv X pins σ' H' s' ∧ D.nx σ' H'
  | .brk => ∃ σ' H', Inv X pins σ' H' s' ∧ D.bk σ' H'
  | .cont => ∃ σ' H', Inv X pins σ' H' s' ∧ D.ct σ' H'
  | .ret u => ∃ v σ' H', Inv X pins σ' H' s' ∧ RelV v u ∧ D.rt v H'
def PE (X : Cx) (e : Expr) (t : TE) : Prop :=
  ∀ (pins : List (Addr × Obj)) (s : Shared) (σ : St) (H : Hp) (Q : VK), Inv X pins σ H s → t σ H Q → wpAny (model X.prog X.w) X.A (eval e X.env) (EP X pins σ Q) X.xe s
def PT (X : Cx) (e : Expr) (t : TT) : Prop :=
  ∀ (pins : List (Addr × Obj)) (s : Shared) (σ : St) (H : Hp) (Q : Bool → Hp → Prop), Inv X pins σ H s → t σ H Q → wpAny (model X.prog X.w) X.A (isTrue e X.env (eval e X.env)) (TP X pins σ Q) X.xe s
def PW (X : Cx) (e : Expr) (t : TT) : Prop :=
  ∀ (whole : Sem Value) (pins : List (Addr × Obj)) (s : Shared) (σ : St) (H : Hp) (Q : Bool → Hp → Prop), Inv X pins σ H s → t σ H Q → wpAny (model X.prog X.w) X.A (isTrue e X.env whole) (TP X pins σ Q) X.xe s
theorem PW.pt {X : Cx} {e : Expr} {t : TT} (h : PW X e t) : PT X e t := h _
def PA (X : Cx) (es : List Expr) (t : TA) : Prop :=
  ∀ (pos : Pos) (pins : List (Addr × Obj)) (s : Shared) (σ : St) (H : Hp) (Q : List V → Hp → Prop), Inv X pins σ H s → t σ H Q → wpAny (model X.prog X.w) X.A (spliced (backTo pos (starEach es X.env))) (AP X pins σ Q) X.xe s
def PS (X : Cx) (st : Stmt) (t : TS) : Prop :=
  ∀ (pins : List (Addr × Obj)) (s : Shared) (σ : St) (H : Hp) (D : Ends), Inv X pins σ H s → t D σ H → wpAny (model X.prog X.w) X.A (exec st X.env) (SP X pins D) X.xe s
def PSs (X : Cx) (st : List Stmt) (t : TS) : Prop :=
  ∀ (pins : List (Addr × Obj)) (s : Shared) (σ : St) (H : Hp) (D : Ends), Inv X pins σ H s → t D σ H → wpAny (model X.prog X.w) X.A (execs st X.env) (SP X pins D) X.xe s
theorem thn {α : Type} {t : Sem α} {Q Q' : α → Shared → Prop} {M : Model} {A : Around} {E : Value → Shared → Prop} {s : Shared} (h : wpAny M A t Q E s) (hQ : ∀ a s, Q a s → Q' a s) : wpAny M A t Q' E s := wpAny_mono h hQ fun _ _ x => x
end L2
namespace L2
open PySem PySem.Spec PyProof.Rows
section
variable {X : Cx}
def tVar (i : Nat) : TE := fun σ H Q => ∃ v, σ[i]? = some (some v) ∧ Q v H
def tC (v : V) : TE := fun _ H Q => Q v H
theorem pe_var {i : Nat} {x : Str} {pos : Pos} (hN : X.N[i]? = some x) (hv : Vis X.env.scope x) (hd : (x == ("__debug__" : Str)) = false := by decide) (hcd : (x == ("__classdict__" : Str)) = false := by decide) : PE X (.Name x pos) (tVar i) := by
  intro pins s σ H Q I h
  obtain ⟨v, e, h⟩ := h
  obtain ⟨m, hn, hl⟩ := I.loc
  obtain ⟨u, r, l⟩ := hl i x v hN e hv
  have fin : EP X pins σ Q u s := ⟨v, H, I, r, h⟩
  rcases l with ⟨hk, hm⟩ | ⟨hk, c, hc, hcell⟩
  · exact wpAny_Name (wpAny_loadName_local I.ok.kind hk hn hm fin) hd
  · rcases hk with hk | hk
    · exact wpAny_Name (wpAny_loadName_cell I.ok.kind hk hc hcell fin) hd
    · exact wpAny_Name (wpAny_loadName_free I.ok.kind hk hc hcell fin hcd) hd
theorem pe_int {i j pos} : PE X (.Constant (.int i) j pos) (tC (.int i)) := fun _ _ _ H _ I h => wpAny_Constant_int ⟨.int i, H, I.tok _, ⟨_, rfl⟩, h⟩
theorem pe_bl {b j pos} : PE X (.Constant (.bool b) j pos) (tC (.bl b)) := fun _ _ _ H _ I h => Constant_bool ⟨.bl b, H, I, rfl, h⟩
theorem pe_non {j pos} : PE X (.Constant .none j pos) (tC .non) := fun _ _ _ H _ I h => Constant_none ⟨.non, H, I, rfl, h⟩
theorem pe_str {x j pos} : PE X (.Constant (.str x) j pos) (tC (.str x)) := fun _ _ _ H _ I h => Calls.Constant_str ⟨.str x, H, I.tok _, ⟨_, rfl⟩, h⟩
def Gl (X : Cx) (x : Str) : Prop := X.env.kindOf x = some .globalImplicit
theorem ld_glob {E : Value → Shared → Prop} {pins : List (Addr × Obj)} {s : Shared} {σ : St} {H : Hp} {x : Str} {u : Value} {pos : Pos} {Q : Value → Shared → Prop} (I : Inv X pins σ H s) (hg : Gl X x) (hm : X.mg x = some u) (h : Q u s)
    (hd : (x == ("__debug__" : Str)) = false := by decide) : wpAny (model X.prog X.w) X.A (eval (.Name x pos) X.env) Q E s :=
  Calls.Name_function_global I.ok.kind hg (Calls.loadGlobal_global (by rw [I.ok.glob]; exact I.mod.glob.keeps I.bk) hm h) hd
theorem ld_blt {E : Value → Shared → Prop} {pins : List (Addr × Obj)} {s : Shared} {σ : St} {H : Hp} {x : Str} {u : Value} {pos : Pos} {Q : Value → Shared → Prop} (I : Inv X pins σ H s) (hg : Gl X x) (hm : X.mg x = none) (hv : bootBuiltins x = some u) (h : Q u s)
    (hn : x ≠ "__name__" := by decide) (hd : (x == ("__debug__" : Str)) = false := by decide) : wpAny (model X.prog X.w) X.A (eval (.Name x pos) X.env) Q E s := by
  obtain ⟨mb, h1, h2⟩ := I.mod.blt
  exact Calls.Name_function_global I.ok.kind hg (Calls.loadGlobal_builtin (by rw [I.ok.glob]; exact I.mod.glob.keeps I.bk) hm (by rw [I.ok.blt]; exact h1.keeps I.bk) ((h2 x hn).trans hv) h) hd
theorem pe_bltn {x : Str} {v : V} {u : Value} {pos : Pos} (hg : Gl X x) (hm : X.mg x = none) (hv : bootBuiltins x = some u) (r : RelV v u) (hn : x ≠ "__name__" := by decide) (hd : (x == ("__debug__" : Str)) = false := by decide) : PE X (.Name x pos) (tC v) :=
  fun _ _ _ H _ I h => ld_blt I hg hm hv ⟨v, H, I, r, h⟩ hn hd
variable {a b : Expr} {ta tb : TE} {pos : Pos}
def tB (t : TE) : TT := fun σ H Q => t σ H fun x H1 => ∃ c, x = .bl c ∧ Q c H1
theorem pt_val {e : Expr} {t : TE} (h : PE X e t) (he : ∀ whole, isTrue e X.env whole = (do let v ← whole; standAt e.pos; holding [v] (truthy v)) := by intro _; rfl) : PT X e (tB t) := by
  intro pins s σ H Q I hw
  refine isTrue_plain (thn (h pins s σ H _ I hw) fun v s1 ⟨x, H1, I1, r1, q1⟩ => ?_) (he _)
  obtain ⟨d, rfl, q⟩ := q1
  cases r1
  exact wpAny_truthy_bool ⟨H1, I1, q⟩
variable {tA tB' : TT} {rest : List Expr}
def tAnd (t u : TT) : TT := fun σ H Q => t σ H fun c H1 => if c = true then u σ H1 Q else Q false H1
def tOr (t u : TT) : TT := fun σ H Q => t σ H fun c H1 => if c = true then Q true H1 else u σ H1 Q
def tNot (t : TT) : TT := fun σ H Q => t σ H fun c H1 => Q (!c) H1
theorem pw_and1 (ha : PT X a tA) : PW X (.BoolOp .And [a] pos) tA := by
  intro wh pins s σ H Q I h
  refine isTrue_and (thn (ha pins s σ H Q I h) fun c s1 e => ?_)
  cases c with
  | true => exact isTrue_and_nil e
  | false => exact e
theorem pw_or1 (ha : PT X a tA) : PW X (.BoolOp .Or [a] pos) tA := by
  intro wh pins s σ H Q I h
  refine isTrue_or (thn (ha pins s σ H Q I h) fun c s1 e => ?_)
  cases c with
  | false => exact isTrue_or_nil e
  | true => exact e
theorem pw_and (ha : PT X a tA) (hb : PW X (.BoolOp .And (b :: rest) pos) tB') : PW X (.BoolOp .And (a :: b :: rest) pos) (tAnd tA tB') := by
  intro wh pins s σ H Q I h
  refine isTrue_and (thn (ha pins s σ H _ I h) fun c s1 ⟨H1, I1, q1⟩ => ?_)
  cases c with
  | true => exact hb wh pins s1 σ H1 Q I1 q1
  | false => exact ⟨H1, I1, q1⟩
theorem pw_or (ha : PT X a tA) (hb : PW X (.BoolOp .Or (b :: rest) pos) tB') : PW X (.BoolOp .Or (a :: b :: rest) pos) (tOr tA tB') := by
  intro wh pins s σ H Q I h
  refine isTrue_or (thn (ha pins s σ H _ I h) fun c s1 ⟨H1, I1, q1⟩ => ?_)
  cases c with
  | true => exact ⟨H1, I1, q1⟩
  | false => exact hb wh pins s1 σ H1 Q I1 q1
theorem pt_not (ha : PT X a tA) : PT X (.UnaryOp .Not a pos) (tNot tA) := by
  intro pins s σ H Q I h
  exact isTrue_not (ha pins s σ H (fun c H1 => Q (!c) H1) I h)
def tAndV (ta tb : TE) : TE := fun σ H Q => ta σ H fun x H1 => ∃ c, x = .bl c ∧ if c = true then tb σ H1 Q else Q (.bl false) H1
def tNotV (ta : TE) : TE := fun σ H Q => ta σ H fun x H1 => ∃ c, x = .bl c ∧ Q (.bl (!c)) H1
theorem pe_one {op} {t : TE} (h : PE X a t) : PE X (.BoolOp op [a] pos) t := fun pins s σ H Q I hw => BoolOp_one (h pins s σ H Q I hw)
theorem pe_and (ha : PE X a ta) (hb : PE X (.BoolOp .And (b :: rest) pos) tb) : PE X (.BoolOp .And (a :: b :: rest) pos) (tAndV ta tb) := by
  intro pins s σ H Q I h
  refine BoolOp_and (thn (ha pins s σ H _ I h) fun v s1 ⟨x, H1, I1, r1, q1⟩ => ?_)
  obtain ⟨c, rfl, q1⟩ := q1
  cases r1
  refine wpAny_truthy_bool ?_
  cases c with
  | true => exact hb pins s1 σ H1 Q I1 q1
  | false => exact ⟨.bl false, H1, I1, rfl, q1⟩
theorem pe_not (ha : PE X a ta) : PE X (.UnaryOp .Not a pos) (tNotV ta) := by
  intro pins s σ H Q I h
  refine UnaryOp_ (thn (ha pins s σ H _ I h) fun v s1 ⟨x, H1, I1, r1, q1⟩ => ?_)
  obtain ⟨c, rfl, q1⟩ := q1
  cases r1
  exact not_of (wpAny_truthy_bool ⟨.bl (!c), H1, I1, rfl, q1⟩)
end
end L2
namespace L2
open PySem PySem.Spec PyProof.Rows
def SqL (K : PySem.W.Frag) (H : Hp) (a : Addr) (xs : List V) : Prop :=
  Rd H a (.lst xs) ∨
    ∃ (o : Obj) (its : Array Value) (n : Nat), K.lookup a = some o ∧ o.cls = .type "list" ∧ o.dict = none ∧ o.data = .seq its n ∧ its.size ≤ sizeLine ∧ Vals xs its.toList
def SqT (K : PySem.W.Frag) (H : Hp) (a : Addr) (xs : List V) : Prop :=
  Rd H a (.tup xs) ∨
    ∃ (o : Obj) (its : Array Value) (n : Nat), K.lookup a = some o ∧ o.cls = .type "tuple" ∧ o.data = .seq its n ∧ its.size ≤ sizeLine ∧ Vals xs its.toList
def absV : Value → Option V
  | .none => some .non
  | .bool b => some (.bl b)
  | .int i _ => some (.int i)
  | .str x _ => some (.str x)
  | .bytes b _ => some (.byt b)
  | .float b _ => some (.flt b)
  | .ref a => some (.ref a)
  | .type n => some (.ty n)
  | _ => none
theorem RelV.abs {x : V} {u : Value} (r : RelV x u) : absV u = some x := by
  cases x with
  | non => cases r; rfl
  | bl _ => cases r; rfl
  | int _ => obtain ⟨t, rfl⟩ := r; rfl
  | str _ => obtain ⟨t, rfl⟩ := r; rfl
  | byt _ => obtain ⟨t, rfl⟩ := r; rfl
  | flt _ => obtain ⟨t, rfl⟩ := r; rfl
  | ref _ => cases r; rfl
  | ty _ => cases r; rfl
theorem RelV.inj {x y : V} {u : Value} (r : RelV x u) (q : RelV y u) : x = y := Option.some.inj (r.abs.symm.trans q.abs)
theorem Vals.inj : ∀ {xs ys : List V} {us : List Value}, Vals xs us → Vals ys us → xs = ys
  | _, _, _, .nil, .nil => rfl
  | _, _, _, .cons r t, .cons r' t' => by rw [r.inj r', Vals.inj t t']
section
variable {X : Cx} {pins : List (Addr × Obj)} {σ : St} {H : Hp} {s : Shared} {a : Addr} {xs ys : List V}
theorem SqL.of {K : PySem.W.Frag} (h : H a = some (.lst xs)) : SqL K H a xs := .inl (.inl h)
theorem SqT.of {K : PySem.W.Frag} (h : H a = some (.tup xs)) : SqT K H a xs := .inl (.inl h)
theorem Inv.list (I : Inv X pins σ H s) (h : SqL X.K H a xs) : ∃ its : List Value, Vals xs its ∧ PlainL s.heap a its.toArray ∧ xs.length ≤ sizeLine := by
  rcases h with h | ⟨o, its, n, hk, hc, hd, hs, hz, r⟩
  · obtain ⟨z, its, n, r, e⟩ := h.ok I.hok
    exact ⟨its, r, ⟨_, n, e, rfl, rfl, rfl⟩, z⟩
  · refine ⟨its.toList, r, ⟨o, n, I.kIn a o hk, hc, hd, by simpa using hs⟩, ?_⟩
    have e := r.length
    simp only [Array.length_toList] at e
    omega
theorem Inv.tuple (I : Inv X pins σ H s) (h : SqT X.K H a xs) : ∃ its : List Value, Vals xs its ∧ IsTup s.heap a its.toArray ∧ xs.length ≤ sizeLine := by
  rcases h with h | ⟨o, its, n, hk, hc, hs, hz, r⟩
  · obtain ⟨z, its, r, p⟩ := h.ok I.hok
    exact ⟨its, r, p, z⟩
  · refine ⟨its.toList, r, ⟨o, I.kIn a o hk, hc, n, by simpa using hs⟩, ?_⟩
    have e := r.length
    simp only [Array.length_toList] at e
    omega
theorem Inv.list_inj (I : Inv X pins σ H s) (h : SqL X.K H a xs) (h' : SqL X.K H a ys) : xs = ys := by
  obtain ⟨its, r, ⟨o, n, e, _, _, d⟩, _⟩ := I.list h
  obtain ⟨its', r', ⟨o', n', e', _, _, d'⟩, _⟩ := I.list h'
  rw [e] at e'; cases e'
  rw [d] at d'
  injection d' with d1 _
  have : its = its' := by simpa using congrArg Array.toList d1
  subst this
  exact r.inj r'
theorem Inv.tuple_inj (I : Inv X pins σ H s) (h : SqT X.K H a xs) (h' : SqT X.K H a ys) : xs = ys := by
  obtain ⟨its, r, ⟨o, e, _, n, d⟩, _⟩ := I.tuple h
  obtain ⟨its', r', ⟨o', e', _, n', d'⟩, _⟩ := I.tuple h'
  rw [e] at e'; cases e'
  rw [d] at d'
  injection d' with d1 _
  have : its = its' := by simpa using congrArg Array.toList d1
  subst this
  exact r.inj r'
end
abbrev Cx.wish (X : Cx) (E : Value → Shared → Prop) : Cx := { X with xe := E }
abbrev Cx.nox (X : Cx) : Cx := X.wish fun _ _ => False
theorem Cx.Ok.wish {X : Cx} (ok : X.Ok) (E : Value → Shared → Prop) : (X.wish E).Ok :=
  ⟨ok.mod, ok.kind, ok.glob, ok.blt, ok.above, ok.inj, ok.has, ok.cab, ok.hd, ok.frames, ok.stk, ok.exf, ok.bs, ok.bsz, ok.noex, ok.exfs, ok.funs, ok.frf⟩
theorem Cx.Ok.unwish {X : Cx} {E : Value → Shared → Prop} (ok : (X.wish E).Ok) : X.Ok :=
  ⟨ok.mod, ok.kind, ok.glob, ok.blt, ok.above, ok.inj, ok.has, ok.cab, ok.hd, ok.frames, ok.stk, ok.exf, ok.bs, ok.bsz, ok.noex, ok.exfs, ok.funs, ok.frf⟩
section
variable {X : Cx} {pins : List (Addr × Obj)} {σ : St} {H : Hp} {s : Shared} {E : Value → Shared → Prop}
theorem Inv.wish (I : Inv X pins σ H s) (E : Value → Shared → Prop) : Inv (X.wish E) pins σ H s := ⟨I.ok.wish E, I.os, I.bare, I.base, I.loc, I.cell, I.free, I.freeC, I.pin, I.hok, I.len⟩
theorem Inv.unwish (I : Inv (X.wish E) pins σ H s) : Inv X pins σ H s := ⟨I.ok.unwish, I.os, I.bare, I.base, I.loc, I.cell, I.free, I.freeC, I.pin, I.hok, I.len⟩
theorem SP.unwish {D : Ends} {f : Flow} {s' : Shared} (h : SP (X.wish E) pins D f s') : SP X pins D f s' := by
  cases f with
  | next => obtain ⟨σ', H', I, q⟩ := h; exact ⟨σ', H', I.unwish, q⟩
  | brk => obtain ⟨σ', H', I, q⟩ := h; exact ⟨σ', H', I.unwish, q⟩
  | cont => obtain ⟨σ', H', I, q⟩ := h; exact ⟨σ', H', I.unwish, q⟩
  | ret u => obtain ⟨v, σ', H', I, r, q⟩ := h; exact ⟨v, σ', H', I.unwish, r, q⟩
theorem PSs.nox {st : List Stmt} {t : TS} (h : PSs X.nox st t) : PSs X st t := fun pins s σ H D I hw =>
  wpAny_mono (h pins s σ H D (I.wish _) hw) (fun _ _ q => q.unwish) fun _ _ z => False.elim z
end
section
variable {X : Cx} {st : Stmt} {rest : List Stmt} {t u : TS} {e : Expr} {te : TE} {pos : Pos}
def tNext : TS := fun D σ H => D.nx σ H
def tSeq (t u : TS) : TS := fun D σ H => t { D with nx := u D } σ H
theorem pss_nil : PSs X [] tNext := fun _ _ σ H _ I h => wpAny_execs_nil ⟨σ, H, I, h⟩
theorem pss_cons (h1 : PS X st t) (h2 : PSs X rest u) : PSs X (st :: rest) (tSeq t u) := by
  intro pins s σ H D I h
  refine wpAny_execs_cons (thn (h1 pins s σ H { D with nx := u D } I h) fun f s1 q => ?_)
  cases f with
  | next =>
    obtain ⟨σ', H', I', q⟩ := q
    exact h2 pins s1 σ' H' D I' q
  | ret v => exact q
  | brk => exact q
  | cont => exact q
theorem pss_one (h1 : PS X st t) : PSs X [st] t := by
  intro pins s σ H D I h
  refine wpAny_execs_cons (thn (h1 pins s σ H D I h) fun f s1 q => ?_)
  cases f with
  | next => exact wpAny_execs_nil q
  | ret v => exact q
  | brk => exact q
  | cont => exact q
theorem Inv.quiet {pins : List (Addr × Obj)} {σ : St} {H : Hp} {s : Shared} (I : Inv X pins σ H s) : interactive X.env = false := by simp [interactive, I.ok.kind]
def tDrop (te : TE) : TS := fun D σ H => te σ H fun _ H1 => D.nx σ H1
theorem ps_expr (he : PE X e te) (hs : swapsWith e none pos.line X.env = pure false := by rfl) : PS X (.Expr e pos) (tDrop te) := by
  intro pins s σ H D I h
  exact wpAny_Expr_any (thn (he pins s σ H _ I h) fun v s1 ⟨x, H1, I1, r1, q1⟩ => ⟨σ, H1, I1, q1⟩) I.quiet hs
def tRet (te : TE) : TS := fun D σ H => te σ H D.rt
theorem ps_ret (he : PE X e te) : PS X (.Return (some e) pos) (tRet te) := by
  intro pins s σ H D I h
  exact wpAny_Return_some (thn (he pins s σ H _ I h) fun v s1 ⟨x, H1, I1, r1, q1⟩ => ⟨x, σ, H1, I1, r1, q1⟩)
def tIfS (c : TT) (t u : TS) : TS := fun D σ H => c σ H fun b H1 => if b = true then t D σ H1 else u D σ H1
theorem ps_if {c : Expr} {a b : List Stmt} {tc : TT} (hc : PT X c tc) (ha : PSs X a t) (hb : PSs X b u) : PS X (.If c a b pos) (tIfS tc t u) := by
  intro pins s σ H D I h
  refine wpAny_If (thn (hc pins s σ H _ I h) fun d s1 ⟨H1, I1, q1⟩ => ?_)
  cases d with
  | true => exact ha pins s1 σ H1 D I1 q1
  | false => exact hb pins s1 σ H1 D I1 q1
def tNever : TS := fun _ _ _ => False
theorem pss_never {sts : List Stmt} : PSs X sts tNever := fun _ _ _ _ _ _ h => h.elim
end
abbrev TG := V → St → Hp → (St → Hp → Prop) → Prop
abbrev TGs := List V → St → Hp → (St → Hp → Prop) → Prop
def PG (X : Cx) (target : Expr) (t : TG) : Prop :=
  ∀ (pins : List (Addr × Obj)) (s : Shared) (σ : St) (H : Hp) (v : V) (u : Value) (Q : St → Hp → Prop), Inv X pins σ H s → RelV v u → t v σ H Q →
    wpAny (model X.prog X.w) X.A (assign target X.env u) (fun _ s' => ∃ σ' H', Inv X pins σ' H' s' ∧ Q σ' H') X.xe s
def PGs (X : Cx) (ts : List Expr) (t : TGs) : Prop :=
  ∀ (pins : List (Addr × Obj)) (s : Shared) (σ : St) (H : Hp) (vs : List V) (us : List Value) (Q : St → Hp → Prop), Inv X pins σ H s → Vals vs us → t vs σ H Q →
    wpAny (model X.prog X.w) X.A (assignInOrder ((assignEach ts X.env).map (·.2)) us) (fun _ s' => ∃ σ' H', Inv X pins σ' H' s' ∧ Q σ' H') X.xe s
abbrev TSet := V → V → V → Hp → (Hp → Prop) → Prop
def PSet (X : Cx) (t : TSet) : Prop :=
  ∀ (pins : List (Addr × Obj)) (s : Shared) (σ : St) (H : Hp) (o i v : V) (ov iv u : Value) (Q : Hp → Prop), Inv X pins σ H s → RelV o ov → RelV i iv → RelV v u → t o i v H Q →
    wpAny (model X.prog X.w) X.A (setItem ov iv u) (fun _ s' => ∃ H', Inv X pins σ H' s' ∧ Q H') X.xe s
section
variable {X : Cx} {pos : Pos}
def gName (i : Nat) : TG := fun v σ H Q => Q (σ.set i (some v)) H
theorem pg_name {i : Nat} {x : Str} (hN : X.N.Nodup) (hi : X.N[i]? = some x) (hx : Loc X.env.scope x) (hf : X.fn x = true ∨ X.env.scope.names.lookup x = some .local := by first | exact .inl rfl | exact .inr rfl | assumption) : PG X (.Name x pos) (gName i) := by
  intro pins s σ H v u Q I r h
  exact wpAny_assign_Name (store_ok I hN hi hx r (fun s' I' => ⟨_, H, I', h⟩) hf)
def gNil : TGs := fun vs σ H Q => vs = [] ∧ Q σ H
def gCons (t : TG) (u : TGs) : TGs := fun vs σ H Q => ∃ v r, vs = v :: r ∧ t v σ H fun σ' H' => u r σ' H' Q
theorem pgs_nil : PGs X [] gNil := by
  intro pins s σ H vs us Q I r h
  obtain ⟨e, h⟩ := h
  subst e
  cases r
  exact assignInOrder_nil ⟨σ, H, I, h⟩
theorem pgs_cons {e : Expr} {es : List Expr} {t : TG} {u : TGs} (h1 : PG X e t) (h2 : PGs X es u)
    (hs : (assignEach (e :: es) X.env).map (·.2) = assign e X.env :: (assignEach es X.env).map (·.2) := by rfl) : PGs X (e :: es) (gCons t u) := by
  intro pins s σ H vs us Q I r h
  obtain ⟨v, vr, e1, h⟩ := h
  subst e1
  cases r with
  | cons r rr =>
    rw [hs]
    refine assignInOrder_cons (thn (h1 pins s σ H _ _ _ I r h) fun _ s1 ⟨σ1, H1, I1, q1⟩ => ?_)
    exact h2 pins s1 σ1 H1 _ _ Q I1 rr q1
def gTup (K : PySem.W.Frag) (n : Nat) (t : TGs) : TG := fun v σ H Q => ∃ a xs, v = .ref a ∧ SqT K H a xs ∧ xs.length = n ∧ t xs σ H Q
theorem pg_tup {es : List Expr} {k : Nat} {t : TGs} {n : Nat} (hc : X.calm = true) (h : PGs X es t)
    (hn : (assignEach es X.env).length = n := by rfl) (hst : (assignEach es X.env).findIdx? (·.1) = none := by rfl) : PG X (.Tuple es k pos) (gTup X.K n t) := by
  intro pins s σ H v u Q I r hw
  obtain ⟨a, xs, e1, hq, hl, hw⟩ := hw
  subst e1
  cases r
  obtain ⟨its, rv, ht, hz⟩ := I.tuple hq
  refine assign_Tuple_tuple (I.ok.hd hc) ht (by simp [hn, ← hl, rv.length]) hst fun h' hx => ?_
  have I1 : Inv X pins σ H { s with heap := h' } := I.kept (t' := s.toks) fun b o e => hx b o (Nat.ne_of_lt (Heap.lt_size e)) e
  exact h pins _ σ H xs _ Q I1 (by simpa using rv) hw
def gSub (to ti : TE) (t : TSet) : TG := fun v σ H Q => to σ H fun o H1 => ti σ H1 fun i H2 => t o i v H2 fun H3 => Q σ H3
theorem pg_sub {o i : Expr} {to ti : TE} {t : TSet} (ho : PE X o to) (hi : PE X i ti) (hs : PSet X t)
    (ha : ∀ v, assign (.Subscript o i pos) X.env v = (do
      let ov ← holding [v] (eval o X.env)
      let iv ← holding [v, ov] (eval i X.env)
      standAt pos
      holding [v, ov, iv] (setItem ov iv v)
      release [v, ov, iv] []) := by intro _; rfl) : PG X (.Subscript o i pos) (gSub to ti t) := by
  intro pins s σ H v u Q I r h
  rw [ha]
  refine wpAny_bind (wpAny_holding (thn (ho pins s σ H _ I h) fun ov s1 ⟨x, H1, I1, r1, q1⟩ => ?_))
  refine wpAny_bind (wpAny_holding (thn (hi pins s1 σ H1 _ I1 q1) fun iv s2 ⟨y, H2, I2, r2, q2⟩ => ?_))
  refine wpAny_bind (wpAny_standAt (wpAny_bind (wpAny_holding (thn (hs pins s2 σ H2 x y v ov iv u _ I2 r1 r2 r q2) fun _ s3 ⟨H3, I3, q3⟩ => ?_))))
  exact wpAny_release ⟨σ, H3, I3, q3⟩
def tAsg (te : TE) (g : TG) : TS := fun D σ H => te σ H fun x H1 => g x σ H1 D.nx
theorem ps_asg {tg e : Expr} {te : TE} {g : TG} (he : PE X e te) (hg : PG X tg g) (hs : swapsWithSole [tg] e pos.line X.env = pure false := by rfl) (hw : swappedStores [tg] e X.env = pure none := by rfl)
    (h1 : (assignEach [tg] X.env).map (·.2) = [assign tg X.env] := by rfl) : PS X (.Assign [tg] e pos) (tAsg te g) := by
  intro pins s σ H D I h
  refine wpAny_Assign_stores (thn (he pins s σ H _ I h) fun v s1 ⟨x, H1, I1, r1, q1⟩ => ?_) hs hw
  rw [h1]
  exact thn (hg pins s1 σ H1 x v _ I1 r1 q1) fun _ s2 q => q
theorem ps_set {i : Nat} {x : Str} {e : Expr} {te : TE} {pos' : Pos} (hN : X.N.Nodup) (hi : X.N[i]? = some x) (hx : Loc X.env.scope x) (he : PE X e te) (hs : swapsWith e (some (.Name x pos')) pos.line X.env = pure false := by rfl) (hf : X.fn x = true ∨ X.env.scope.names.lookup x = some .local := by first | exact .inl rfl | exact .inr rfl | assumption) :
    PS X (.Assign [.Name x pos'] e pos) (tAsg te (gName i)) := by
  intro pins s σ H D I h
  refine wpAny_Assign_Name (thn (he pins s σ H _ I h) fun v s1 ⟨y, H1, I1, r1, q1⟩ => ?_) hs
  exact store_ok I1 hN hi hx r1 (fun s2 I2 => ⟨_, H1, I2, q1⟩) hf
end
section
variable {X : Cx} {pos : Pos}
def tWhile (c : TT) (tb : TS) : TS := fun D σ H => ∃ W : Nat → St → Hp → Prop, (∃ m, W m σ H) ∧ ∀ m σ H, W m σ H →
  c σ H fun b H1 => if b = true then ∃ N : St → Hp → Prop, (∀ σ' H', N σ' H' → ∃ m', m' < m ∧ W m' σ' H') ∧ tb { D with nx := N, ct := N, bk := D.nx } σ H1 else D.nx σ H1
theorem ps_while {c : Expr} {body : List Stmt} {tc : TT} {tb : TS} (hp : PassesOwn (model X.prog X.w) X.A X.env X.xe) (hc : PT X c tc) (hb : PSs X body tb) : PS X (.While c body [] pos) (tWhile tc tb) := by
  intro pins s σ H D I h
  obtain ⟨W, ⟨m0, w0⟩, turn⟩ := h
  refine wpAny_While (codeAny_whileLoop (fun n s' => ∃ σ' H', Inv X pins σ' H' s' ∧ W n σ' H') ?_ m0 ⟨σ, H, I, w0⟩)
  rintro n s1 ⟨σ1, H1, I1, w1⟩
  refine wpAny_passesOwn hp (thn (hc pins s1 σ1 H1 _ I1 (turn n σ1 H1 w1)) fun b s2 ⟨H2, I2, q2⟩ => ?_)
  cases b with
  | true =>
    obtain ⟨N, hN, q2⟩ := q2
    rw [if_pos rfl]
    refine wpAny_passesOwn hp (thn (hb pins s2 σ1 H2 _ I2 q2) fun f s3 q3 => ?_)
    cases f with
    | next =>
      obtain ⟨σ3, H3, I3, n3⟩ := q3
      obtain ⟨m', hm, w3⟩ := hN σ3 H3 n3
      exact ⟨m', hm, σ3, H3, I3, w3⟩
    | cont =>
      obtain ⟨σ3, H3, I3, n3⟩ := q3
      obtain ⟨m', hm, w3⟩ := hN σ3 H3 n3
      exact ⟨m', hm, σ3, H3, I3, w3⟩
    | brk => exact q3
    | ret v => exact q3
  | false =>
    rw [if_neg Bool.false_ne_true]
    exact wpAny_execs_nil ⟨σ1, H2, I2, q2⟩
end
structure It where
  go : Nat → Hp → Prop
  yld : Nat → Hp → V → Hp → Prop
  stop : Nat → Hp → Prop
def FpOk (X : Cx) (pins : List (Addr × Obj)) (H : Hp) (b : Addr) : Prop :=
  H b = none ∧ b ≠ X.env.locals ∧ b ∉ X.fs ∧ (b ∈ X.ex ∨ X.s₀.heap.objs.size ≤ b) ∧ (∀ x c, X.env.cells.lookup x = some c → c ≠ b) ∧ ∀ p ∈ X.pn ++ pins, p.1 ≠ b
theorem Inv.fpOk {X : Cx} {pins : List (Addr × Obj)} {σ : St} {H H' : Hp} {s : Shared} {b : Addr} (I : Inv X pins σ H s) (hb : s.heap.objs.size ≤ b) (hn : H' b = none) : FpOk X pins H' b := by
  refine ⟨hn, Nat.ne_of_gt (Nat.lt_of_lt_of_le I.lt hb), I.nofs hb, .inr (Nat.le_trans I.sz hb), fun x c e z => ?_, fun p hp z => ?_⟩
  · obtain ⟨v, q⟩ := I.cell x c e
    exact absurd (Nat.lt_of_lt_of_le q.lt (by rw [z]; exact hb)) (Nat.lt_irrefl _)
  · exact absurd (Nat.lt_of_lt_of_le (Heap.lt_size (I.pin p hp).1) (by rw [z]; exact hb)) (Nat.lt_irrefl _)
structure Turn (P : Program) (w : World) (K : PySem.W.Frag) (tg : Expr) (J : It) (fp : List Addr) (it : Addr) (tn : Nat → Heap → Prop) : Prop where
  mem : it ∈ fp
  obj : ∀ i h, tn i h → ∀ b ∈ fp, ∃ o, h.get? b = some o ∧ ∀ v, o.data ≠ .cell v
  keep : ∀ i h h', tn i h → (∀ b ∈ fp, ∀ o, h.get? b = some o → h'.get? b = some o) → tn i h'
  item : ∀ (X : Cx), X.prog = P → X.w = w → X.K = K → X.calm = true → ∀ (i : Nat) (pins : List (Addr × Obj)) (s : Shared) (σ : St) (H : Hp) (E : Value → Shared → Prop), Inv X pins σ H s → (∀ b ∈ fp, FpOk X pins H b) → tn i s.heap → J.go i H →
    wpAny (model P w) X.A (pyNext (.ref it)) (fun r s1 => ∃ u, r = some u ∧
      wpAny (model P w) X.A (letOwnedTupleGo tg (.ref it) u) (fun _ s2 => ∃ x H', Inv X pins σ H' s2 ∧ RelV x u ∧ J.yld i H x H' ∧ tn (i + 1) s2.heap ∧ ∀ b ∈ fp, H' b = none) E s1) E s
  done : ∀ (X : Cx), X.prog = P → X.w = w → X.K = K → X.calm = true → ∀ (i : Nat) (pins : List (Addr × Obj)) (s : Shared) (σ : St) (H : Hp) (E : Value → Shared → Prop), Inv X pins σ H s → (∀ b ∈ fp, FpOk X pins H b) → tn i s.heap → J.stop i H →
    wpAny (model P w) X.A (pyNext (.ref it)) (fun r s1 => r = none ∧ Inv X pins σ H s1) E s
  self : ∀ (A : Around) (i : Nat) (s : Shared) (Q : Value → Shared → Prop) (E : Value → Shared → Prop), tn i s.heap → Q (.ref it) s → wpAny (model P w) A (pyIter (.ref it)) Q E s
abbrev TI := St → Hp → (It → Hp → Prop) → Prop
def PIE (X : Cx) (pins : List (Addr × Obj)) (σ : St) (tg : Expr) (R : It → Hp → Prop) (itv : Value) (s2 : Shared) : Prop :=
  ∃ (it : Addr) (fp : List Addr) (tn : Nat → Heap → Prop) (J : It) (H' : Hp), itv = .ref it ∧ Inv X pins σ H' s2 ∧ Turn X.prog X.w X.K tg J fp it tn ∧ tn 0 s2.heap ∧ (∀ b ∈ fp, FpOk X pins H' b) ∧ R J H'
def PI (X : Cx) (tg iter : Expr) (wi : TI) : Prop :=
  ∀ (pins : List (Addr × Obj)) (s : Shared) (σ : St) (H : Hp) (R : It → Hp → Prop), Inv X pins σ H s → wi σ H R →
    wpAny (model X.prog X.w) X.A (eval iter X.env) (fun v s1 => wpAny (model X.prog X.w) X.A (pyIter v) (PIE X pins σ tg R) X.xe s1) X.xe s
theorem go_of {M : Model} {A : Around} {E : Value → Shared → Prop} {s : Shared} {tg : Expr} {it : Addr} {u : Value} {o : Obj} {n : String} {vs : Array Value} {Q : Unit → Shared → Prop} (ho : s.heap.get? it = some o) (hc : o.cls = .type n) (hd : o.data = .fields vs)
    (hn : ["enumerate", "zip", "dict_itemiterator", "dict_reverseitemiterator", "odict_iterator", "itertools.zip_longest", "itertools.pairwise"].contains n = false) (hQ : Q () s) : wpAny M A (letOwnedTupleGo tg (.ref it) u) Q E s := by
  unfold letOwnedTupleGo
  cases tg <;> first
    | exact wpAny_pure hQ
    | (cases u <;> first
        | exact wpAny_pure hQ
        | (refine wpAny_bind (wpAny_load ho ?_)
           rw [hc, hd]
           show wpAny M A (if (["enumerate", "zip", "dict_itemiterator", "dict_reverseitemiterator", "odict_iterator", "itertools.zip_longest", "itertools.pairwise"].contains n && vs[0]? == some (rawInt _)) = true then _ else _) Q E s
           rw [if_neg (by intro h; rw [hn, Bool.false_and] at h; cases h)]
           exact wpAny_pure hQ))
def Itl (K : PySem.W.Frag) (a : Addr) : It :=
  ⟨fun i H => ∃ xs x, SqL K H a xs ∧ xs[i]? = some x, fun i H x H' => H' = H ∧ ∀ xs, SqL K H a xs → xs[i]? = some x, fun i H => ∃ xs, SqL K H a xs ∧ xs.length ≤ i⟩
def Itt (K : PySem.W.Frag) (a : Addr) : It :=
  ⟨fun i H => ∃ xs x, SqT K H a xs ∧ xs[i]? = some x, fun i H x H' => H' = H ∧ ∀ xs, SqT K H a xs → xs[i]? = some x, fun i H => ∃ xs, SqT K H a xs ∧ xs.length ≤ i⟩
def Itr (lo : Int) (n : Nat) : It := ⟨fun i _ => i < n, fun i H x H' => H' = H ∧ x = .int (lo + i), fun i _ => n ≤ i⟩
theorem turn_list {P : Program} {w : World} {K : PySem.W.Frag} {tg : Expr} (a it : Addr) : Turn P w K tg (Itl K a) [it] it (fun i h => h.IsListIter it a i) where
  mem := by simp
  obj := fun i h st b hb => by
    have e : b = it := by simpa using hb
    subst e
    obtain ⟨o, e, c, d⟩ := st
    exact ⟨o, e, fun v z => by rw [d] at z; cases z⟩
  keep := fun i h h' st k => st.at fun o e => k it (by simp) o e
  item := by
    intro X hP hw hK hc i pins s σ H E I hf st hg
    subst hP hw hK
    obtain ⟨xs, x, hq, hx⟩ := hg
    obtain ⟨its, rv, p, hz⟩ := I.list hq
    obtain ⟨u, hu, ru⟩ := rv.get hx
    obtain ⟨f0, f1, f2, f3, f4, f5⟩ := hf it (by simp)
    refine wpAny_pyNext_list_item st p.isList (x := u) (by simpa using hu) fun h' st' sb => ?_
    have I1 : Inv X pins σ H { s with heap := h' } := I.turned (t' := s.toks) (fun b o hb e => (sb.2 b hb).trans e) f0 f1 f3 f4 f5
    obtain ⟨o, e, c, d⟩ := id st'
    exact ⟨u, rfl, go_of (s := { s with heap := h' }) e c d (by decide) ⟨x, H, I1, ru, ⟨rfl, fun ys hy => by rw [I.list_inj hy hq]; exact hx⟩, st', fun b hb => (hf b hb).1⟩⟩
  done := by
    intro X hP hw hK hc i pins s σ H E I hf st hg
    subst hP hw hK
    obtain ⟨xs, hq, hx⟩ := hg
    obtain ⟨its, rv, p, hz⟩ := I.list hq
    obtain ⟨f0, f1, f2, f3, f4, f5⟩ := hf it (by simp)
    have hl := rv.length
    exact wpAny_pyNext_list_end (I.ok.hd hc) st p.isList (by simp; omega) fun h' eb => ⟨rfl, I.turned (t' := s.toks) (fun b o hb e => eb b o hb e) f0 f1 f3 f4 f5⟩
  self := fun _ _ _ _ _ st h => wpAny_pyIter_listiter st h
theorem turn_tuple {P : Program} {w : World} {K : PySem.W.Frag} {tg : Expr} (a it : Addr) : Turn P w K tg (Itt K a) [it] it (fun i h => h.IsTupleIter it a i) where
  mem := by simp
  obj := fun i h st b hb => by
    have e : b = it := by simpa using hb
    subst e
    obtain ⟨o, e, c, d⟩ := st
    exact ⟨o, e, fun v z => by rw [d] at z; cases z⟩
  keep := fun i h h' st k => st.at fun o e => k it (by simp) o e
  item := by
    intro X hP hw hK hc i pins s σ H E I hf st hg
    subst hP hw hK
    obtain ⟨xs, x, hq, hx⟩ := hg
    obtain ⟨its, rv, p, hz⟩ := I.tuple hq
    obtain ⟨u, hu, ru⟩ := rv.get hx
    obtain ⟨f0, f1, f2, f3, f4, f5⟩ := hf it (by simp)
    refine wpAny_pyNext_tuple_item st (show s.heap.IsTuple a its.toArray from p) (x := u) (by simpa using hu) fun h' st' sb => ?_
    have I1 : Inv X pins σ H { s with heap := h' } := I.turned (t' := s.toks) (fun b o hb e => (sb.2 b hb).trans e) f0 f1 f3 f4 f5
    obtain ⟨o, e, c, d⟩ := id st'
    exact ⟨u, rfl, go_of (s := { s with heap := h' }) e c d (by decide) ⟨x, H, I1, ru, ⟨rfl, fun ys hy => by rw [I.tuple_inj hy hq]; exact hx⟩, st', fun b hb => (hf b hb).1⟩⟩
  done := by
    intro X hP hw hK hc i pins s σ H E I hf st hg
    subst hP hw hK
    obtain ⟨xs, hq, hx⟩ := hg
    obtain ⟨its, rv, p, hz⟩ := I.tuple hq
    obtain ⟨f0, f1, f2, f3, f4, f5⟩ := hf it (by simp)
    have hl := rv.length
    exact wpAny_pyNext_tuple_end (I.ok.hd hc) st (show s.heap.IsTuple a its.toArray from p) (by simp; omega) fun h' eb => ⟨rfl, I.turned (t' := s.toks) (fun b o hb e => eb b o hb e) f0 f1 f3 f4 f5⟩
  self := fun _ _ _ _ _ st h => wpAny_pyIter_tupleiter st h
theorem turn_range {P : Program} {w : World} {K : PySem.W.Frag} {tg : Expr} (it : Addr) (lo : Int) (n : Nat) : Turn P w K tg (Itr lo n) [it] it (fun i h => IsRangeIter h it (lo + (i : Nat) * 1) ((n : Int) - (i : Nat)) 1) where
  mem := by simp
  obj := fun i h st b hb => by
    have e : b = it := by simpa using hb
    subst e
    exact ⟨_, st, fun v z => by
      have z' : Data.fields _ = Data.cell v := z
      cases z'⟩
  keep := fun i h h' st k => k it (by simp) _ st
  item := by
    intro X hP hw hK hc i pins s σ H E I hf st hg
    subst hP hw hK
    obtain ⟨f0, f1, f2, f3, f4, f5⟩ := hf it (by simp)
    have W := Walks.range (prog := X.prog) (w := X.w) (I.ok.hd hc) it lo 1 n
    refine W.item i s _ _ hg st fun v h' tk hv st' kk => ?_
    obtain ⟨t, rfl⟩ := hv
    have I1 : Inv X pins σ H { s with heap := h', toks := tk } := I.turned (fun b o hb e => kk b o (by simpa using hb) e) f0 f1 f3 f4 f5
    refine ⟨_, rfl, go_of (s := { s with heap := h', toks := tk }) (n := "range_iterator") st' rfl rfl (by decide) ⟨.int (lo + i), H, I1, ⟨t, ?_⟩, ⟨rfl, rfl⟩, st', fun b hb => (hf b hb).1⟩⟩
    rw [Int.mul_one]
  done := by
    intro X hP hw hK hc i pins s σ H E I hf st hg
    subst hP hw hK
    obtain ⟨f0, f1, f2, f3, f4, f5⟩ := hf it (by simp)
    exact wpAny_pyNext_range_end (I.ok.hd hc) st (by have : n ≤ i := hg; omega) fun h' eb => ⟨rfl, I.turned (t' := s.toks) (fun b o hb e => eb b o hb e) f0 f1 f3 f4 f5⟩
  self := fun _ _ _ _ _ st h => wpAny_pyIter_rangeiter st h
end L2
namespace L2
open PySem PySem.Spec PyProof.Rows
section
variable {X : Cx} {tg : Expr}
theorem range_it {pins : List (Addr × Obj)} {σ : St} {H : Hp} {s : Shared} {R : It → Hp → Prop} {E : Value → Shared → Prop} {lo hi : Int} {t u v : Tok} {tk : Nat} (I : Inv X pins σ H s) (h1 : -(2 ^ 62) ≤ lo) (h2 : lo < 2 ^ 62) (h3 : -(2 ^ 62) ≤ hi) (h4 : hi < 2 ^ 62)
    (q : R (Itr lo (hi - lo).toNat) H) : wpAny (model X.prog X.w) X.A (pyIter (.ref s.heap.objs.size)) (PIE X pins σ tg R) E { s with heap := s.heap.push { cls := .type "range", data := .fields #[.int lo t, .int hi u, .int 1 v] }, toks := tk } := by
  refine wpAny_pyIter_range (IsRange.new ..) (small_one h1 h2 h3 h4) ?_
  have I1 : Inv X pins σ H { s with heap := s.heap.push { cls := .type "range", data := .fields #[.int lo t, .int hi u, .int 1 v] }, toks := tk } := I.kept fun b o e => Heap.get?_push_of_some _ e
  refine ⟨(s.heap.push { cls := .type "range", data := .fields #[.int lo t, .int hi u, .int 1 v] }).objs.size, [(s.heap.push { cls := .type "range", data := .fields #[.int lo t, .int hi u, .int 1 v] }).objs.size], _, _, H, rfl,
    I1.kept (t' := tk) fun b o e => Heap.get?_push_of_some _ e, turn_range _ lo (hi - lo).toNat, ?_, fun b hb => ?_, q⟩
  · have e1 : lo + ((0 : Nat) : Int) * 1 = lo := by simp
    have e2 : (((hi - lo).toNat : Nat) : Int) - ((0 : Nat) : Int) = Builtin.Range.rangeSize lo hi 1 := by rw [rangeSize_one]; split <;> omega
    show IsRangeIter _ _ (lo + ((0 : Nat) : Int) * 1) ((((hi - lo).toNat : Nat) : Int) - ((0 : Nat) : Int)) 1
    rw [e1, e2]
    exact Heap.get?_push_size _ rfl
  · have e : b = (s.heap.push { cls := .type "range", data := .fields #[.int lo t, .int hi u, .int 1 v] }).objs.size := by simpa using hb
    subst e
    exact I1.fpOk (Nat.le_refl _) (I1.hok.fresh (Nat.le_refl _))
def iRng1 (ta : TA) : TI := fun σ H R => ta σ H fun vs H1 => ∃ j : Int, vs = [.int j] ∧ -(2 ^ 62) ≤ j ∧ j < 2 ^ 62 ∧ R (Itr 0 j.toNat) H1
theorem pi_range1 {a : Expr} {ta : TA} {p pos : Pos} (hg : Gl X "range") (hm : X.mg "range" = none) (ha : PA X [a] ta) (hs : starEach [a] X.env = [(false, eval a X.env)] := by rfl) : PI X tg (.Call (.Name "range" p) [a] [] pos) (iRng1 ta) := by
  intro pins s σ H R I h
  refine Call_ (ld_blt I hg hm boot_range (PyProof.Rows.callWith_type1 (thn (ha pos pins s σ H _ I h) fun us s1 ⟨vs, H1, I1, r1, q1⟩ => ?_) hs rfl))
  obtain ⟨j, e, q1, q2, q⟩ := q1
  subst e
  cases r1 with
  | cons r rr =>
    cases rr
    obtain ⟨t, rfl⟩ := r
    exact call_range_1 (range_it I1 (by omega) (by omega) q1 q2 (by simpa using q))
def tFor (wi : TI) (g : TG) (tb : TS) : TS := fun D σ H => wi σ H fun J H1 => ∃ W : Nat → Nat → St → Hp → Prop, (∃ m, W 0 m σ H1) ∧ ∀ i m σ H, W i m σ H →
  (J.stop i H ∧ D.nx σ H) ∨ (J.go i H ∧ ∃ N : St → Hp → Prop, (∀ σ' H', N σ' H' → ∃ m', m' < m ∧ W (i + 1) m' σ' H') ∧ ∀ x H', J.yld i H x H' → g x σ H' fun σ2 H2 => tb { D with nx := N, ct := N, bk := D.nx } σ2 H2)
def pinsAt (fp : List Addr) (h : Heap) : List (Addr × Obj) := fp.filterMap fun b => (h.get? b).map fun o => (b, o)
theorem mem_pinsAt {fp : List Addr} {h : Heap} {b : Addr} {o : Obj} (hb : b ∈ fp) (e : h.get? b = some o) : (b, o) ∈ pinsAt fp h := List.mem_filterMap.mpr ⟨b, hb, by rw [e]; rfl⟩
theorem of_pinsAt {fp : List Addr} {h : Heap} {p : Addr × Obj} (hp : p ∈ pinsAt fp h) : p.1 ∈ fp ∧ h.get? p.1 = some p.2 := by
  obtain ⟨b, hb, e⟩ := List.mem_filterMap.mp hp
  cases q : h.get? b with
  | none => rw [q] at e; cases e
  | some o =>
    rw [q] at e
    have e' : (b, o) = p := Option.some.inj e
    subst e'
    exact ⟨hb, q⟩
theorem Inv.pinned {pins : List (Addr × Obj)} {σ : St} {H : Hp} {s : Shared} {fp : List Addr} (I : Inv X pins σ H s) (hf : ∀ b ∈ fp, FpOk X pins H b) (ho : ∀ b ∈ fp, ∃ o, s.heap.get? b = some o ∧ ∀ v, o.data ≠ .cell v) : Inv X (pins ++ pinsAt fp s.heap) σ H s :=
  I.pins_of fun p hp => (List.mem_append.mp hp).elim (fun z => I.pin p (List.mem_append_right _ z)) fun z => by
    obtain ⟨hb, e⟩ := of_pinsAt z
    obtain ⟨f0, f1, f2, _⟩ := hf p.1 hb
    obtain ⟨o, e', d⟩ := ho p.1 hb
    rw [e] at e'; cases e'
    exact ⟨e, f0, f1, f2, d⟩
theorem Inv.unpinned {pins pl : List (Addr × Obj)} {σ : St} {H : Hp} {s : Shared} (I : Inv X (pins ++ pl) σ H s) : Inv X pins σ H s := I.pins_of fun p hp => I.pin p (List.mem_append_right _ (List.mem_append_left _ hp))
theorem ps_for {iter : Expr} {body : List Stmt} {wi : TI} {g : TG} {tb : TS} {pos : Pos} (hp : PassesOwn (model X.prog X.w) X.A X.env X.xe) (hc : X.calm = true) (hi : PI X tg iter wi) (hg : PG X tg g) (hb : PSs X body tb)
    (hs : ∀ x, foldedSetIterable iter X.env x = pure x := by intro _; rfl) : PS X (.For tg iter body [] pos) (tFor wi g tb) := by
  intro pins s σ H D I h
  refine wpAny_For (thn (hi pins s σ H _ I h) fun v s1 h1 => thn h1 fun itv s2 h2 => ?_) hs
  obtain ⟨it, fp, tn, J, H2, e, I2, T, st2, f2, W, ⟨m0, w0⟩, turn⟩ := h2
  subst e
  -- what stays true of the iterator's objects through the loop
  have stat : ∀ {H' : Hp}, (∀ b ∈ fp, H' b = none) → ∀ b ∈ fp, FpOk X pins H' b := fun hn b hb => ⟨hn b hb, (f2 b hb).2⟩
  refine codeAny_forLoop_any (fun n s' => ∃ i σ' H', Inv X pins σ' H' s' ∧ tn i s'.heap ∧ (∀ b ∈ fp, H' b = none) ∧ W i n σ' H') ?_ m0 ⟨0, σ, H2, I2, st2, fun b hb => (f2 b hb).1, w0⟩
  rintro n s3 ⟨i, σ3, H3, I3, st3, fr3, w3⟩
  rcases turn i n σ3 H3 w3 with ⟨stop, qn⟩ | ⟨go, N, hN, step⟩
  · refine wpAny_passesOwn hp (thn (T.done X rfl rfl rfl hc i pins s3 σ3 H3 X.xe I3 (stat fr3) st3 stop) fun r s4 ⟨hr, I4⟩ => ?_)
    subst hr
    exact wpAny_execs_nil ⟨σ3, H3, I4, qn⟩
  · refine wpAny_passesOwn hp (thn (T.item X rfl rfl rfl hc i pins s3 σ3 H3 X.xe I3 (stat fr3) st3 go) fun r s4 ⟨u, hr, h4⟩ => ?_)
    subst hr
    refine wpAny_passesOwn hp (thn h4 fun _ s5 ⟨x, H5, I5, r5, y5, st5, fr5⟩ => ?_)
    have I5' := I5.pinned (stat fr5) (T.obj _ _ st5)
    refine wpAny_passesOwn hp (thn (hg _ s5 σ3 H5 x u _ I5' r5 (step x H5 y5)) fun _ s6 ⟨σ6, H6, I6, q6⟩ => ?_)
    refine wpAny_passesOwn hp (thn (hb _ s6 σ6 H6 _ I6 q6) fun f s7 q7 => ?_)
    have again : ∀ {σ7 : St} {H7 : Hp}, Inv X (pins ++ pinsAt fp s5.heap) σ7 H7 s7 → N σ7 H7 → ∃ m, m < n ∧ ∃ i σ' H', Inv X pins σ' H' s7 ∧ tn i s7.heap ∧ (∀ b ∈ fp, H' b = none) ∧ W i m σ' H' := fun {σ7 H7} I7 n7 => by
      obtain ⟨m', hm, w7⟩ := hN σ7 H7 n7
      refine ⟨m', hm, i + 1, σ7, H7, I7.unpinned, T.keep _ _ _ st5 fun b hb o e => (I7.pin (b, o) (List.mem_append_right _ (List.mem_append_right _ (mem_pinsAt hb e)))).1, fun b hb => ?_, w7⟩
      obtain ⟨o, e, d⟩ := T.obj _ _ st5 b hb
      exact (I7.pin (b, o) (List.mem_append_right _ (List.mem_append_right _ (mem_pinsAt hb e)))).2.1
    cases f with
    | next => obtain ⟨σ7, H7, I7, n7⟩ := q7; exact again I7 n7
    | cont => obtain ⟨σ7, H7, I7, n7⟩ := q7; exact again I7 n7
    | brk => obtain ⟨σ7, H7, I7, q7⟩ := q7; exact ⟨σ7, H7, I7.unpinned, q7⟩
    | ret v => obtain ⟨x7, σ7, H7, I7, r7, q7⟩ := q7; exact ⟨x7, σ7, H7, I7.unpinned, r7, q7⟩
end
end L2
namespace L2
open PySem PySem.Spec PyProof.Rows
abbrev R2 := V → V → Hp → VK → Prop
def OpR (X : Cx) (f : Value → Value → Sem Value) (r : R2) : Prop :=
  ∀ (pins : List (Addr × Obj)) (s : Shared) (σ : St) (H : Hp) (x y : V) (v u : Value) (Q : VK), Inv X pins σ H s → RelV x v → RelV y u → r x y H Q →
    wpAny (model X.prog X.w) X.A (f v u) (EP X pins σ Q) X.xe s
def CallR (X : Cx) (f : Value) (r : List V → Hp → VK → Prop) : Prop :=
  ∀ (pins : List (Addr × Obj)) (s : Shared) (σ : St) (H : Hp) (xs : List V) (us : List Value) (Q : VK), Inv X pins σ H s → Vals xs us → r xs H Q →
    wpAny (model X.prog X.w) X.A (call f us) (EP X pins σ Q) X.xe s
def tOp (r : R2) (ta tb : TE) : TE := fun σ H Q => ta σ H fun x H1 => tb σ H1 fun y H2 => r x y H2 Q
def rI (C : Int → Int → Prop) (g : Int → Int → V) : R2 := fun x y H Q => ∃ i j, x = .int i ∧ y = .int j ∧ C i j ∧ Q (g i j) H
def rI0 (g : Int → Int → V) : R2 := fun x y H Q => ∃ i j, x = .int i ∧ y = .int j ∧ Q (g i j) H
section
variable {X : Cx} {a b c : Expr} {ta tb tc : TE} {pos : Pos}
theorem binT (ha : PE X a ta) (hb : PE X b tb) {pins : List (Addr × Obj)} {s : Shared} {σ : St} {H : Hp} {R : V → V → Hp → Prop} (I : Inv X pins σ H s)
    (h : ta σ H fun x H1 => tb σ H1 fun y H2 => R x y H2) {Q : Value → Shared → Prop} {f : Value → Value → Sem Value}
    (hf : ∀ v u s2 x y H2, Inv X pins σ H2 s2 → RelV x v → RelV y u → R x y H2 → wpAny (model X.prog X.w) X.A (f v u) Q X.xe s2) :
    wpAny (model X.prog X.w) X.A (eval a X.env) (fun v s₁ => wpAny (model X.prog X.w) X.A (eval b X.env) (fun u s₂ => wpAny (model X.prog X.w) X.A (f v u) Q X.xe s₂) X.xe s₁) X.xe s := by
  refine thn (ha pins s σ H _ I h) fun v s1 ⟨x, H1, I1, r1, q1⟩ => ?_
  refine thn (hb pins s1 σ H1 _ I1 q1) fun u s2 ⟨y, H2, I2, r2, q2⟩ => ?_
  exact hf v u s2 x y H2 I2 r1 r2 q2
theorem pe_op {op : Operator} {r : R2} (ho : OpR X (binaryOp op) r) (ha : PE X a ta) (hb : PE X b tb) : PE X (.BinOp a op b pos) (tOp r ta tb) := by
  intro pins s σ H Q I h
  exact wpAny_BinOp (binT ha hb I h fun v u s2 x y H2 I2 rx ry q => ho pins s2 σ H2 x y v u Q I2 rx ry q)
theorem opI {f : Value → Value → Sem Value} {C : Int → Int → Prop} {g : Int → Int → Int}
    (rule : ∀ (i j : Int) (t u : Tok) (s : Shared) (Q : Value → Shared → Prop) (E : Value → Shared → Prop), C i j → Q (.int (g i j) s.toks) { s with toks := s.toks + 1 } → wpAny (model X.prog X.w) X.A (f (.int i t) (.int j u)) Q E s) :
    OpR X f (rI C fun i j => .int (g i j)) := by
  intro pins s σ H x y v u Q I rx ry h
  obtain ⟨i, j, rfl, rfl, hc, q⟩ := h
  obtain ⟨t, rfl⟩ := rx
  obtain ⟨t', rfl⟩ := ry
  exact rule i j t t' s _ _ hc ⟨.int (g i j), H, I.tok _, ⟨_, rfl⟩, q⟩
theorem opI0 {f : Value → Value → Sem Value} {g : Int → Int → Int}
    (rule : ∀ (i j : Int) (t u : Tok) (s : Shared) (Q : Value → Shared → Prop) (E : Value → Shared → Prop), Q (.int (g i j) s.toks) { s with toks := s.toks + 1 } → wpAny (model X.prog X.w) X.A (f (.int i t) (.int j u)) Q E s) :
    OpR X f (rI0 fun i j => .int (g i j)) := by
  intro pins s σ H x y v u Q I rx ry h
  obtain ⟨i, j, rfl, rfl, q⟩ := h
  obtain ⟨t, rfl⟩ := rx
  obtain ⟨t', rfl⟩ := ry
  exact rule i j t t' s _ _ ⟨.int (g i j), H, I.tok _, ⟨_, rfl⟩, q⟩
theorem opB0 {f : Value → Value → Sem Value} {g : Int → Int → Bool}
    (rule : ∀ (i j : Int) (t u : Tok) (s : Shared) (Q : Value → Shared → Prop) (E : Value → Shared → Prop), Q (.bool (g i j)) s → wpAny (model X.prog X.w) X.A (f (.int i t) (.int j u)) Q E s) :
    OpR X f (rI0 fun i j => .bl (g i j)) := by
  intro pins s σ H x y v u Q I rx ry h
  obtain ⟨i, j, rfl, rfl, q⟩ := h
  obtain ⟨t, rfl⟩ := rx
  obtain ⟨t', rfl⟩ := ry
  exact rule i j t t' s _ _ ⟨.bl (g i j), H, I, rfl, q⟩
def CDiv (i j : Int) : Prop := 0 < j ∧ j < 1073741824
def CPow (i j : Int) : Prop := 0 ≤ j ∧ j ≤ 1000000 ∧ i.natAbs < 2 ^ 64
def CMul (i j : Int) : Prop := (-(2 ^ 64) < i ∧ i < 2 ^ 64) ∨ (-(2 ^ 64) < j ∧ j < 2 ^ 64)
theorem CMul.ok {i j : Int} (h : CMul i j) : IntMulOk i j := by
  rcases h with ⟨h1, h2⟩ | ⟨h1, h2⟩
  · exact .of_left (intBits_le_64 h1 h2)
  · exact .of_right (intBits_le_64 h1 h2)
theorem op_add : OpR X (binaryOp .Add) (rI0 fun i j => .int (i + j)) := opI0 fun _ _ _ _ _ _ _ q => add_int q
theorem op_sub : OpR X (binaryOp .Sub) (rI0 fun i j => .int (i - j)) := opI0 fun _ _ _ _ _ _ _ q => sub_int q
theorem op_mul : OpR X (binaryOp .Mult) (rI CMul fun i j => .int (i * j)) := opI fun _ _ _ _ _ _ _ hc q => mul_int q hc.ok
theorem op_fdiv : OpR X (binaryOp .FloorDiv) (rI CDiv fun i j => .int (i / j)) := opI fun i j _ _ _ _ _ hc q => by
  have h1 : (0 : Int) < j := hc.1
  have h2 : j < 1073741824 := hc.2
  exact floordiv_int (by omega) (by rw [Int.fdiv_eq_ediv_of_nonneg i (by omega)]; exact q) (.inl (PyProof.noPylong_small (by omega)))
theorem op_mod : OpR X (binaryOp .Mod) (rI (fun _ j => 0 < j) fun i j => .int (i % j)) := opI fun i j _ _ _ _ _ hc q => by
  have h1 : (0 : Int) < j := hc
  exact mod_int' (by omega) (by rw [Int.fmod_eq_emod_of_nonneg i (by omega)]; exact q)
theorem op_pow : OpR X (binaryOp .Pow) (rI CPow fun i j => .int (i ^ j.toNat)) := opI fun _ _ _ _ _ _ _ hc q => pow_int_small hc.1 hc.2.1 hc.2.2 q
end
def scal : V → V → Bool
  | .non, .non => true | .non, .int _ => true | .int _, .non => true | .non, .bl _ => true | .bl _, .non => true | .non, .str _ => true | .str _, .non => true
  | .int _, .int _ => true | .bl _, .bl _ => true | .str _, .str _ => true | .byt _, .byt _ => true
  | .int _, .str _ => true | .str _, .int _ => true | .bl _, .str _ => true | .str _, .bl _ => true
  | _, _ => false
def rEq : R2 := fun x y H Q => scal x y = true ∧ Q (.bl (decide (x = y))) H
def rNe : R2 := fun x y H Q => scal x y = true ∧ Q (.bl (!decide (x = y))) H
theorem dec_int {i j : Int} : decide (V.int i = V.int j) = (i == j) := by
  rw [Bool.eq_iff_iff]
  simp
theorem dec_bl {i j : Bool} : decide (V.bl i = V.bl j) = (i == j) := by
  rw [Bool.eq_iff_iff]
  simp
theorem dec_str {i j : Str} : decide (V.str i = V.str j) = (i == j) := by
  rw [Bool.eq_iff_iff]
  simp
theorem dec_byt {i j : Array UInt8} : decide (V.byt i = V.byt j) = (i.toList == j.toList) := by
  rw [Bool.eq_iff_iff]
  cases i
  cases j
  simp
section
variable {X : Cx} {a b c : Expr} {ta tb tc : TE} {pos : Pos}
theorem fin_bl {pins : List (Addr × Obj)} {σ : St} {H : Hp} {s : Shared} {Q : VK} {k k' : Bool} (I : Inv X pins σ H s) (q : Q (.bl k) H) (e : k = k') : EP X pins σ Q (.bool k') s := by
  subst e
  exact ⟨.bl k, H, I, rfl, q⟩
theorem op_eq : OpR X (compareOp .Eq) rEq := by
  intro pins s σ H x y v u Q I rx ry h
  obtain ⟨hs, q⟩ := h
  cases x with
  | non =>
    cases rx
    cases y with
    | non => cases ry; exact PySem.EqNone.eq_none_none (fin_bl I q (by simp))
    | bl j => cases ry; exact PySem.EqNone.eq_none_bool (fin_bl I q (by simp))
    | int j => obtain ⟨t', rfl⟩ := ry; exact PySem.EqNone.eq_none_int (fin_bl I q (by simp))
    | str j => obtain ⟨t', rfl⟩ := ry; exact PySem.EqNone.eq_none_str (fin_bl I q (by simp))
    | _ => exact absurd (show false = true from hs) Bool.false_ne_true
  | bl i =>
    cases rx
    cases y with
    | non => cases ry; exact PySem.EqNone.eq_bool_none (fin_bl I q (by simp))
    | bl j => cases ry; exact eq_bool (fin_bl I q dec_bl)
    | str j => obtain ⟨t', rfl⟩ := ry; exact PySem.EqMixed.eq_bool_str (fin_bl I q (by simp))
    | _ => exact absurd (show false = true from hs) Bool.false_ne_true
  | int i =>
    obtain ⟨t, rfl⟩ := rx
    cases y with
    | non => cases ry; exact PySem.EqNone.eq_int_none (fin_bl I q (by simp))
    | int j => obtain ⟨t', rfl⟩ := ry; exact eq_int (fin_bl I q dec_int)
    | str j => obtain ⟨t', rfl⟩ := ry; exact PySem.EqMixed.eq_int_str (fin_bl I q (by simp))
    | _ => exact absurd (show false = true from hs) Bool.false_ne_true
  | str i =>
    obtain ⟨t, rfl⟩ := rx
    cases y with
    | non => cases ry; exact PySem.EqNone.eq_str_none (fin_bl I q (by simp))
    | bl j => cases ry; exact PySem.EqMixed.eq_str_bool (fin_bl I q (by simp))
    | int j => obtain ⟨t', rfl⟩ := ry; exact PySem.EqMixed.eq_str_int (fin_bl I q (by simp))
    | str j => obtain ⟨t', rfl⟩ := ry; exact eq_str (fin_bl I q dec_str)
    | _ => exact absurd (show false = true from hs) Bool.false_ne_true
  | byt i =>
    obtain ⟨t, rfl⟩ := rx
    cases y with
    | byt j => obtain ⟨t', rfl⟩ := ry; exact PySem.W.eq_bytes (fin_bl I q dec_byt)
    | _ => exact absurd (show false = true from hs) Bool.false_ne_true
  | _ => cases y <;> exact absurd (show false = true from hs) Bool.false_ne_true
theorem op_ne : OpR X (compareOp .NotEq) rNe := by
  intro pins s σ H x y v u Q I rx ry h
  obtain ⟨hs, q⟩ := h
  cases x with
  | non =>
    cases rx
    cases y with
    | non => cases ry; exact PySem.EqNone.ne_none_none (fin_bl I q (by simp))
    | bl j => cases ry; exact PySem.EqNone.ne_none_bool (fin_bl I q (by simp))
    | int j => obtain ⟨t', rfl⟩ := ry; exact PySem.EqNone.ne_none_int (fin_bl I q (by simp))
    | str j => obtain ⟨t', rfl⟩ := ry; exact PySem.EqNone.ne_none_str (fin_bl I q (by simp))
    | _ => exact absurd (show false = true from hs) Bool.false_ne_true
  | bl i =>
    cases rx
    cases y with
    | non => cases ry; exact PySem.EqNone.ne_bool_none (fin_bl I q (by simp))
    | bl j => cases ry; exact ne_bool (fin_bl I q (congrArg not dec_bl))
    | str j => obtain ⟨t', rfl⟩ := ry; exact PySem.EqMixed.ne_bool_str (fin_bl I q (by simp))
    | _ => exact absurd (show false = true from hs) Bool.false_ne_true
  | int i =>
    obtain ⟨t, rfl⟩ := rx
    cases y with
    | non => cases ry; exact PySem.EqNone.ne_int_none (fin_bl I q (by simp))
    | int j => obtain ⟨t', rfl⟩ := ry; exact ne_int (fin_bl I q (congrArg not dec_int))
    | str j => obtain ⟨t', rfl⟩ := ry; exact PySem.EqMixed.ne_int_str (fin_bl I q (by simp))
    | _ => exact absurd (show false = true from hs) Bool.false_ne_true
  | str i =>
    obtain ⟨t, rfl⟩ := rx
    cases y with
    | non => cases ry; exact PySem.EqNone.ne_str_none (fin_bl I q (by simp))
    | bl j => cases ry; exact PySem.EqMixed.ne_str_bool (fin_bl I q (by simp))
    | int j => obtain ⟨t', rfl⟩ := ry; exact PySem.EqMixed.ne_str_int (fin_bl I q (by simp))
    | str j => obtain ⟨t', rfl⟩ := ry; exact ne_str (fin_bl I q (congrArg not dec_str))
    | _ => exact absurd (show false = true from hs) Bool.false_ne_true
  | byt i =>
    obtain ⟨t, rfl⟩ := rx
    cases y with
    | byt j => obtain ⟨t', rfl⟩ := ry; exact PySem.W.ne_bytes (fin_bl I q (congrArg not dec_byt))
    | _ => exact absurd (show false = true from hs) Bool.false_ne_true
  | _ => cases y <;> exact absurd (show false = true from hs) Bool.false_ne_true
theorem op_lt : OpR X (compareOp .Lt) (rI0 fun i j => .bl (decide (i < j))) := opB0 fun _ _ _ _ _ _ _ q => lt_int q
theorem op_gt : OpR X (compareOp .Gt) (rI0 fun i j => .bl (decide (j < i))) := opB0 fun _ _ _ _ _ _ _ q => gt_int q
theorem op_ge : OpR X (compareOp .GtE) (rI0 fun i j => .bl (decide (j ≤ i))) := opB0 fun _ _ _ _ _ _ _ q => ge_int q
theorem op_in_str : OpR X (compareOp .In) (fun x y H Q => ∃ i j, x = .str i ∧ y = .str j ∧ Q (.bl (!(Builtin.Str.occurrences j i 0 j.length 1).isEmpty)) H) := by
  intro pins s σ H x y v u Q I rx ry h
  obtain ⟨i, j, rfl, rfl, q⟩ := h
  obtain ⟨t, rfl⟩ := rx
  obtain ⟨t', rfl⟩ := ry
  exact in_str (fin_bl I q rfl)
theorem op_isN : OpR X (compareOp .Is) (fun x y H Q => y = .non ∧ Q (.bl (decide (x = .non))) H) := by
  intro pins s σ H x y v u Q I rx ry h
  obtain ⟨rfl, q⟩ := h
  cases ry
  refine is_none_gen (fin_bl I q ?_)
  cases x <;> first
    | (cases rx; rfl)
    | (obtain ⟨t, rfl⟩ := rx; rfl)
theorem OpR.or {f : Value → Value → Sem Value} {r r' : R2} (h : OpR X f r) (h' : OpR X f r') : OpR X f (fun x y H Q => r x y H Q ∨ r' x y H Q) := by
  intro pins s σ H x y v u Q I rx ry q
  rcases q with q | q
  · exact h pins s σ H x y v u Q I rx ry q
  · exact h' pins s σ H x y v u Q I rx ry q
theorem nomark (b : Expr) {op : CmpOp} (h : op ≠ .In := by decide) (h2 : op ≠ .NotIn := by decide) : behindInMarks op b = false := by
  have e1 : (op == CmpOp.In) = false := by cases op <;> first | rfl | exact absurd rfl h
  have e2 : (op == CmpOp.NotIn) = false := by cases op <;> first | rfl | exact absurd rfl h2
  cases b <;> simp [behindInMarks, e1, e2]
theorem pe_cmpR {op : CmpOp} {r : R2} (ho : OpR X (compareOp op) r) (ha : PE X a ta) (hb : PE X b tb) (hm : behindInMarks op b = false) : PE X (.Compare a [op] [b] pos) (tOp r ta tb) := by
  intro pins s σ H Q I h
  exact wpAny_Compare1 (binT ha hb I h fun v u s2 x y H2 I2 rx ry q => ho pins s2 σ H2 x y v u Q I2 rx ry q) hm
def tTest (t : TE) : TT := fun σ H Q => t σ H fun x H' => ∃ k, x = .bl k ∧ Q k H'
theorem pt_cmpR {op : CmpOp} {r : R2} (ho : OpR X (compareOp op) r) (ha : PE X a ta) (hb : PE X b tb) (hm : behindInMarks op b = false) : PT X (.Compare a [op] [b] pos) (tTest (tOp r ta tb)) := by
  intro pins s σ H Q I h
  refine wpAny_isTrue_Compare1 (thn (ha pins s σ H _ I h) fun v s1 ⟨x, H1, I1, r1, q1⟩ => thn (hb pins s1 σ H1 _ I1 q1) fun u s2 ⟨y, H2, I2, r2, q2⟩ =>
    thn (ho pins s2 σ H2 x y v u _ I2 r1 r2 q2) fun c s3 ⟨z, H3, I3, r3, k, e, q3⟩ => ?_) hm
  subst e
  cases r3
  exact wpAny_truthy_bool ⟨H3, I3, q3⟩
theorem line63 : (sizeLine : Nat) < 2 ^ 63 := by rw [sizeLine_eq]; decide
theorem op_add_str : OpR X (binaryOp .Add) (fun x y H Q => ∃ i j, x = .str i ∧ y = .str j ∧ i.length + j.length ≤ sizeLine ∧ Q (.str (i ++ j)) H) := by
  intro pins s σ H x y v u Q I rx ry h
  obtain ⟨i, j, rfl, rfl, hz, q⟩ := h
  obtain ⟨t, rfl⟩ := rx
  obtain ⟨t', rfl⟩ := ry
  exact add_str (fun t' tk => ⟨.str (i ++ j), H, I.tok _, ⟨_, rfl⟩, q⟩) hz
theorem vals1 {x : V} {us : List Value} (r : Vals [x] us) : ∃ u, us = [u] ∧ RelV x u := by
  cases r with
  | cons r1 r2 => cases r2; exact ⟨_, rfl, r1⟩
theorem vals2 {x y : V} {us : List Value} (r : Vals [x, y] us) : ∃ u w', us = [u, w'] ∧ RelV x u ∧ RelV y w' := by
  cases r with
  | cons r1 r2 =>
    cases r2 with
    | cons r3 r4 => cases r4; exact ⟨_, _, rfl, r1, r3⟩
theorem call_min2 (hc : X.calm = true) : CallR X (.builtin "min") (fun xs H Q => ∃ i j, xs = [.int i, .int j] ∧ Q (.int (if j < i then j else i)) H) := by
  intro pins s σ H xs us Q I r h
  obtain ⟨i, j, rfl, q⟩ := h
  obtain ⟨u, w', rfl, ⟨t, rfl⟩, ⟨t', rfl⟩⟩ := vals2 r
  refine min_two_ints (I.ok.hd hc) fun h' tk k => ⟨_, H, I.kept k, ?_, q⟩
  by_cases hj : j < i
  · rw [if_pos hj, if_pos hj]; exact ⟨_, rfl⟩
  · rw [if_neg hj, if_neg hj]; exact ⟨_, rfl⟩
end
end L2
namespace L2
open PySem PySem.Spec PyProof.Rows
structure ObjM (h : Heap) (x dx C : Addr) (mA : Str → Option Value) : Prop where
  obj : h.get? x = some (PySem.W.instObj C dx)
  ns : h.Ns1 dx mA
  ne : dx ≠ x
theorem lookIn_ns {h : Heap} {dx : Addr} {mA : Str → Option Value} (n : h.Ns1 dx mA) : ∃ od, h.get? dx = some od ∧ ∀ name, PySem.W.lookIn name od = some (mA name) := by
  obtain ⟨o, es, ep, ho, hd, hk, _, hm⟩ := n
  refine ⟨o, ho, fun name => ?_⟩
  have e := hm name
  unfold nsFind findBy at e
  rw [← Array.find?_toList] at e
  unfold PySem.W.lookIn
  rw [hd]
  dsimp only
  split
  · rename_i y q
    rw [q] at e
    exact congrArg some e
  · rename_i q
    rw [q] at e
    have a : es.toList.any (·.refKey) = false := by
      rw [List.any_eq_false]
      intro y hy
      obtain ⟨z, t, hkey⟩ := hk y (Array.mem_toList_iff.mp hy)
      simp [DictEntry.refKey, hkey]
    have a' : ¬ es.toList.any (·.refKey) = true := by rw [a]; exact Bool.false_ne_true
    rw [if_neg a']
    exact congrArg some e
theorem ObjM.look {h : Heap} {x dx C : Addr} {mA : Str → Option Value} (I : ObjM h x dx C mA) : ∃ od, PySem.W.InstAt h x (PySem.W.instObj C dx) C (some od) ∧ ∀ name, PySem.W.lookIn name od = some (mA name) :=
  let ⟨od, ho, hl⟩ := lookIn_ns I.ns
  ⟨od, ⟨I.obj, rfl, rfl, ho⟩, hl⟩
section
variable {prog : Program} {w : World} {A : Around} {E : Value → Shared → Prop} {s : Shared} {K : PySem.W.Frag} {x dx C f : Addr} {mA : Str → Option Value} {name : Str} {v : Value}
end
section
variable {P : Program} {w : World} {H H' : Hp} {h h' : Heap} {a C dx : Addr} {fs fs' : List (Str × V)}
theorem ins_get (hok : HOk P w H h) (e : H a = some (.ins C dx fs)) : ∃ mA, ObjM h a dx C mA ∧ (∀ f, RelO (fs.lookup f) (mA f)) ∧ PySem.Within mA (fs.map (·.1)) ∧ fs.length ≤ 1000 ∧ H dx = some (.own a) := by
  obtain ⟨d, z, ne, ob, mA, n, r, q⟩ := (show ObjOk P w H h a (.ins C dx fs) from hok a _ e)
  exact ⟨mA, ⟨ob, n, ne⟩, r, q, z, d⟩
end
structure Cls (K : PySem.W.Frag) (C : Addr) : Prop where
  pg : PySem.W.plainGet K C Str.empty = true
  hd : PySem.W.hasDictIn K C = true
  po : PySem.W.plainOver K C = true
  sa : PySem.W.findIn K (.ref C) "__setattr__" = some (some (.builtin "object.__setattr__"))
theorem Cls.get {K : PySem.W.Frag} {C : Addr} (c : Cls K C) (f : Str) : PySem.W.plainGet K C f = true := c.pg
section
variable {X : Cx} {pins : List (Addr × Obj)} {σ : St} {H : Hp} {s : Shared} {a C dx : Addr} {fs : List (Str × V)} {f : Str} {v : V} {A : Around} {E : Value → Shared → Prop}
end
section
variable {X : Cx} {o e value : Expr} {f : Str} {pos pos' tpos : Pos} {ta tv : TE}
end
section
variable {X : Cx} {pins : List (Addr × Obj)} {σ : St} {H : Hp} {s : Shared} {A : Around} {E : Value → Shared → Prop} {Q : Value → Shared → Prop} {c : Value} {b : Bool}
inductive TyOf (K : PySem.W.Frag) (H : Hp) : V → Value → Prop where
  | non : TyOf K H .non (.type "NoneType")
  | bl (x : Bool) : TyOf K H (.bl x) (.type "bool")
  | int (i : Int) : TyOf K H (.int i) (.type "int")
  | str (x : Str) : TyOf K H (.str x) (.type "str")
  | flt (x : UInt64) : TyOf K H (.flt x) (.type "float")
  | lst {a : Addr} {xs : List V} (e : H a = some (.lst xs)) : TyOf K H (.ref a) (.type "list")
  | frz {a : Addr} {o : Obj} {xs : List V} (e : H a = some (.frz o (.lst xs))) : TyOf K H (.ref a) (.type "list")
  | tup {a : Addr} {xs : List V} (e : H a = some (.tup xs)) : TyOf K H (.ref a) (.type "tuple")
  | dK {a : Addr} {kvs : List (Key × V)} (e : H a = some (.dK kvs)) : TyOf K H (.ref a) (.type "dict")
  | dT {a : Addr} {kvs : List (List Key × V)} (e : H a = some (.dT kvs)) : TyOf K H (.ref a) (.type "dict")
  | ins {a C dx : Addr} {fs : List (Str × V)} (e : H a = some (.ins C dx fs)) (cl : Cls K C) (ha : PySem.W.findIn K (.ref C) "__class__" = some (some (.builtin "object.__class__")))
      (hn : PySem.W.specialIn K (.builtin "object.__class__") "__get__" = some (some (.builtin "getset_descriptor.__get__"))) (htk : PySem.W.takesIn K (.builtin "object.__class__") = some true)
      (hm : PySem.W.mroIn K C (.type "object") = some true) : TyOf K H (.ref a) (.ref C)
theorem isinst_ok {x : V} {u t : Value} (I : Inv X pins σ H s) (rx : RelV x u) (ty : TyOf X.K H x t) (e : PySem.W.kitOne X.K t c = some b) (h : ∀ tk, Q (.bool b) { s with toks := tk }) :
    wpAny (model X.prog X.w) A (call (.builtin "isinstance") [u, c]) Q E s := by
  cases ty with
  | non => cases (show u = Value.none from rx); exact PySem.W.kia_one PySem.W.kitx_none I.kIn True.intro e (fun z => nomatch z) h
  | bl y => cases (show u = Value.bool y from rx); exact PySem.W.kia_one PySem.W.kitx_bool I.kIn True.intro e (fun z => nomatch z) h
  | int i => obtain ⟨t, q⟩ := (show ∃ t, u = Value.int i t from rx); cases q; exact PySem.W.kia_one PySem.W.kitx_int I.kIn True.intro e (fun z => nomatch z) h
  | str y => obtain ⟨t, q⟩ := (show ∃ t, u = Value.str y t from rx); cases q; exact PySem.W.kia_one PySem.W.kitx_str I.kIn True.intro e (fun z => nomatch z) h
  | flt y => obtain ⟨t, q⟩ := (show ∃ t, u = Value.float y t from rx); cases q; exact PySem.W.kia_one PySem.W.kitx_float I.kIn True.intro e (fun z => nomatch z) h
  | @lst a xs ea =>
    cases (show u = Value.ref a from rx)
    obtain ⟨_, _, n, _, h1⟩ := (show ObjOk X.prog X.w H s.heap a (.lst xs) from I.hok a _ ea)
    exact PySem.W.kia_one PySem.W.kitx_list I.kIn ⟨_, h1, rfl⟩ e (fun z => nomatch z) h
  | @frz a ob xs ea =>
    cases (show u = Value.ref a from rx)
    obtain ⟨_, _, _, n, _, h1⟩ := (show ObjOk X.prog X.w H s.heap a (.frz ob (.lst xs)) from I.hok a _ ea)
    exact PySem.W.kia_one PySem.W.kitx_list I.kIn ⟨_, h1, rfl⟩ e (fun z => nomatch z) h
  | @tup a xs ea =>
    cases (show u = Value.ref a from rx)
    obtain ⟨_, _, _, p⟩ := (show ObjOk X.prog X.w H s.heap a (.tup xs) from I.hok a _ ea)
    obtain ⟨o, h1, h2, _⟩ := p
    exact PySem.W.kia_one PySem.W.kitx_tuple I.kIn ⟨o, h1, h2⟩ e (fun z => nomatch z) h
  | @dK a kvs ea =>
    cases (show u = Value.ref a from rx)
    obtain ⟨_, _, vs, _, p⟩ := (show ObjOk X.prog X.w H s.heap a (.dK kvs) from I.hok a _ ea)
    obtain ⟨o, es, ep, h1, h2, _⟩ := p
    exact PySem.W.kia_one PySem.W.kitx_dict I.kIn ⟨o, h1, h2.1⟩ e (fun z => nomatch z) h
  | @dT a kvs ea =>
    cases (show u = Value.ref a from rx)
    obtain ⟨_, _, xs, _, o, es, ep, h1, h2, _⟩ := (show ObjOk X.prog X.w H s.heap a (.dT kvs) from I.hok a _ ea)
    exact PySem.W.kia_one PySem.W.kitx_dict I.kIn ⟨o, h1, h2.1⟩ e (fun z => nomatch z) h
  | @ins a C dx fs ea cl ha hn htk hm =>
    cases (show u = Value.ref a from rx)
    obtain ⟨mA, O, _⟩ := ins_get I.hok ea
    obtain ⟨od, J, _⟩ := O.look
    exact PySem.W.kia_one (PySem.W.kitx_own (cl.get _) cl.hd ha hn htk hm) I.kIn J e (fun z => nomatch z) h
end
end L2
namespace L2
open PySem PySem.Spec PyProof.Rows
structure Room (k : Nat) (A : Around) : Prop where
  hd : A.handled = none
  dp : A.depth + 3 * k + 5 < recursionLimit
  un : A.units + 16 * k + 200 < cLine
theorem Room.mono {j k : Nat} {A : Around} (r : Room k A) (h : j ≤ k) : Room j A := ⟨r.hd, by have := r.dp; omega, by have := r.un; omega⟩
theorem Room.deeper {k : Nat} {A : Around} (r : Room (k + 1) A) (env : Env) : Room k (A.deeper env) :=
  ⟨r.hd, by have := r.dp; show A.depth + 1 + 3 * k + 5 < _; omega, by have := r.un; show A.units + 3 + 16 * k + 200 < _; omega⟩
theorem Room.in1 {k : Nat} {A : Around} (r : Room (k + 1) A) : Room k A.in1 :=
  ⟨r.hd, by have := r.dp; show A.depth + 3 * k + 5 < _; omega, by have := r.un; show A.units + 1 + 16 * k + 200 < _; omega⟩
theorem Room.depth {k : Nat} {A : Around} (r : Room k A) : A.depth < recursionLimit := by have := r.dp; omega
theorem Room.units {k : Nat} {A : Around} (r : Room k A) : A.units + 64 < cLine := by have := r.un; omega
def tNil : TA := fun _ H Q => Q [] H
def tCons (ta : TE) (tr : TA) : TA := fun σ H Q => ta σ H fun x H1 => tr σ H1 fun xs H2 => Q (x :: xs) H2
section
variable {X : Cx} {e : Expr} {es : List Expr} {te : TE} {t : TA} {pos : Pos}
theorem pa_nil : PA X [] tNil := fun _ _ _ _ H Q I h => Calls.spliced_nil ⟨[], H, I, .nil, h⟩
theorem pa_cons (ha : PE X e te) (hr : PA X es t) (hs : starEach (e :: es) X.env = (false, eval e X.env) :: starEach es X.env := by rfl) : PA X (e :: es) (tCons te t) := by
  intro pos pins s σ H Q I h
  rw [hs]
  show wpAny _ _ (spliced ((false, eval e X.env) :: backTo pos (starEach es X.env))) _ _ s
  refine Calls.spliced_cons (thn (ha pins s σ H _ I h) fun u s1 ⟨x, H1, I1, r1, q1⟩ => ?_)
  exact thn (hr pos pins s1 σ H1 _ I1 q1) fun us s2 ⟨xs, H2, I2, r2, q2⟩ => ⟨x :: xs, H2, I2, .cons r1 r2, q2⟩
def tTup (t : TA) : TE := fun σ H Q => t σ H fun xs H1 => xs.length ≤ sizeLine ∧ ∀ p, H1 p = none → Q (.ref p) (upd H1 p (.tup xs))
def tLst (t : TA) : TE := fun σ H Q => t σ H fun xs H1 => xs.length ≤ sizeLine ∧ ∀ p, H1 p = none → Q (.ref p) (upd H1 p (.lst xs))
theorem pe_tup {x1} (h : PA X es t) : PE X (.Tuple es x1 pos) (tTup t) := by
  intro pins s σ H Q I hq
  refine wpAny_Tuple_spliced (thn (h pos pins s σ H _ I hq) fun us s1 ⟨xs, H1, I1, r, z, q⟩ => ⟨by rw [← r.length]; exact z, ?_⟩)
  have hf : H1 s1.heap.objs.size = none := I1.hok.fresh (Nat.le_refl _)
  refine ⟨.ref s1.heap.objs.size, upd H1 s1.heap.objs.size (.tup xs), I1.laid (t' := s1.toks) (fun b u e => Heap.get?_push_of_some _ e) (Nat.le_refl _) ?_, rfl, q _ hf⟩
  exact ⟨z, us, r, ⟨_, Heap.get?_push_size _ rfl, rfl, _, rfl⟩⟩
theorem pe_lst (h : PA X es t) : PE X (.List es pos) (tLst t) := by
  intro pins s σ H Q I hq
  refine wpAny_List_spliced (thn (h pos pins s σ H _ I hq) fun us s1 ⟨xs, H1, I1, r, z, q⟩ => ⟨by rw [← r.length]; exact z, ?_⟩)
  have hf : H1 s1.heap.objs.size = none := I1.hok.fresh (Nat.le_refl _)
  refine ⟨.ref s1.heap.objs.size, upd H1 s1.heap.objs.size (.lst xs), I1.laid (t' := s1.toks) (fun b u e => Heap.get?_push_of_some _ e) (Nat.le_refl _) ?_, rfl, q _ hf⟩
  exact ⟨z, us, 0, r, Heap.get?_push_size _ rfl⟩
end
abbrev Sp := List V → Hp → VK → XK → Prop
abbrev CXT := List Env → Hp → Shared → XK → Value → Shared → Prop
structure Env0 (P : Program) (w : World) (K : PySem.W.Frag) (mg : Str → Option Value) (base : Heap) (A : Around) (outer : List Env) (s : Shared) (H : Hp) : Prop where
  frames : A.frames = some outer
  mod : Mod K mg base
  bs : ∀ b o, base.get? b = some o → s.heap.get? b = some o ∧ H b = none
  bsz : base.objs.size ≤ s.heap.objs.size
  funs : s.heap.FunFrames base outer
  frf : ∀ b ∈ frs outer, H b = none
  hok : HOk P w H s.heap
  bare : AllBare s.gens
def CE (outer : List Env) (P : Program) (w : World) (H : Hp) (s : Shared) (Q : VK) (u : Value) (s' : Shared) : Prop :=
  ∃ v H', s'.os = s.os ∧ AllBare s'.gens ∧ Un (frs outer) [] H H' s.heap s'.heap ∧ HOk P w H' s'.heap ∧ RelV v u ∧ Q v H'
def CR (CX : CXT) (outer : List Env) (P : Program) (w : World) (H : Hp) (s : Shared) (Q : VK) (E : XK) (r : Result) (s' : Shared) : Prop :=
  match r with
  | .ok (.ret u) => CE outer P w H s Q u s'
  | .ok _ => False
  | .error e => CX outer H s E e s'
structure FnOk (P : Program) (w : World) (K : PySem.W.Frag) (mg : Str → Option Value) (base : Heap) (CX : CXT) (k : Nat) (f : Addr) (fd : FuncData) (ps : List Str) (sp : Sp) : Prop where
  len : ∀ vs H Q E, sp vs H Q E → vs.length = ps.length
  run : ∀ (A : Around) (outer : List Env) (s : Shared) (H : Hp) (args : Args) (us : List Value) (vs : List V) (Q : VK) (E : XK), Room k A → Env0 P w K mg base A outer s H → BindsTo s fd args (ps.zip us) → Vals vs us → sp vs H Q E →
    codeAny (model P w) A (.call (.ref f) args) (CR CX outer P w H s Q E) s
theorem Env0.in1 {P : Program} {w : World} {K : PySem.W.Frag} {mg : Str → Option Value} {base : Heap} {A : Around} {outer : List Env} {s : Shared} {H : Hp} (e : Env0 P w K mg base A outer s H) :
    Env0 P w K mg base A.in1 outer s H := ⟨e.frames, e.mod, e.bs, e.bsz, e.funs, e.frf, e.hok, e.bare⟩
section
variable {X : Cx} {pins : List (Addr × Obj)} {σ : St} {H : Hp} {s s' : Shared}
theorem Inv.env0 (I : Inv X pins σ H s) : Env0 X.prog X.w X.K X.mg X.base X.A X.stack s H :=
  ⟨I.ok.frames, I.ok.mod, I.bs, Nat.le_trans I.ok.bsz I.sz, I.stack, I.stkFree, I.hok, I.bare⟩
theorem Inv.after {Q : VK} {u : Value} (I : Inv X pins σ H s) (h : CE X.stack X.prog X.w H s Q u s') : EP X pins σ Q u s' := by
  obtain ⟨v, H', os, bare, un, hok, r, q⟩ := h
  obtain ⟨hh, g, d, t, os'⟩ := s'
  obtain rfl : os' = s.os := os
  exact ⟨v, H', I.call (h' := hh) (g' := g) (d' := d) (t' := t) (ch := []) un hok bare (fun b z => absurd z (by simp)), r, q⟩
end
def tCall (sp : Sp) (dvs : List V) (E : XK) (t : TA) : TE := fun σ H Q => t σ H fun vs H1 => sp (vs ++ dvs) H1 Q E
def Binds (K : PySem.W.Frag) (fd : FuncData) (ps : List Str) (ds : List Value) : Prop :=
  ∀ (s : Shared) (us : List Value), K.In s.heap → (us ++ ds).length = ps.length → BindsTo s fd ⟨us, []⟩ (ps.zip (us ++ ds))
theorem Binds.all {K : PySem.W.Frag} {fd : FuncData} {ps : List Str} (h : ∀ us : List Value, us.length = ps.length → bindArgs fd ⟨us, []⟩ = pure (ps.zip us)) : Binds K fd ps [] := fun s us _ hl => by
  rw [List.append_nil] at hl ⊢
  exact .of_eq (h us hl)
def Passes (CX : CXT) (X : Cx) (E : XK) : Prop := ∀ (pins : List (Addr × Obj)) (σ : St) (H : Hp) (s : Shared) (e : Value) (s' : Shared), Inv X pins σ H s → CX X.stack H s E e s' → X.xe e s'
section
variable {X : Cx} {CX : CXT} {k : Nat} {f C : Addr} {fd : FuncData} {ps : List Str} {sp : Sp} {dvs : List V} {ds : List Value} {E : XK} {x m : Str} {p pos apos : Pos} {e o : Expr} {es : List Expr} {ta : TE} {t : TA}
theorem run_fn {pins : List (Addr × Obj)} {σ : St} {H : Hp} {s : Shared} {Q : VK} {us : List Value} {vs : List V} (F : FnOk X.prog X.w X.K X.mg X.base CX k f fd ps sp) (hr : Room k X.A) (hb : Binds X.K fd ps ds) (hd : Vals dvs ds) (hx : Passes CX X E)
    (I : Inv X pins σ H s) (r : Vals vs us) (h : sp (vs ++ dvs) H Q E) : wpAny (model X.prog X.w) X.A (call (.ref f) us) (EP X pins σ Q) X.xe s := by
  have r2 : Vals (vs ++ dvs) (us ++ ds) := r.append hd
  have hl : (us ++ ds).length = ps.length := by rw [← r2.length]; exact F.len _ _ _ _ h
  refine wpAny_call (codeAny_mono (F.run X.A X.stack s H ⟨us, []⟩ (us ++ ds) (vs ++ dvs) Q E hr I.env0 (hb s us I.kIn hl) r2 h) fun r s' hq => ?_)
  cases r with
  | error e => exact hx pins σ H s e s' I hq
  | ok fl =>
    cases fl with
    | ret u => exact I.after hq
    | next => exact False.elim hq
    | brk => exact False.elim hq
    | cont => exact False.elim hq
theorem pe_call (F : FnOk X.prog X.w X.K X.mg X.base CX k f fd ps sp) (hr : Room k X.A) (hg : Gl X x) (hm : X.mg x = some (.ref f)) (hk : PySem.W.keepIn X.K (.ref f) = true) (hb : Binds X.K fd ps ds) (hd : Vals dvs ds) (hx : Passes CX X E)
    (ha : PA X (e :: es) t) (hdb : (x == ("__debug__" : Str)) = false := by decide) (he : starEach (e :: es) X.env = (false, eval e X.env) :: starEach es X.env := by rfl) (hpl : (backTo pos (starEach es X.env)).any (·.1) = false := by rfl) :
    PE X (.Call (.Name x p) (e :: es) [] pos) (tCall sp dvs E t) := by
  intro pins s σ H Q I h
  refine wpAny_Call_Name_kw (ld_glob I hg hm ?_ hdb)
  refine PySem.W.callWith_K (h₀ := X.base) I.ok.mod.kin hk (thn (ha pos pins s σ H _ I h) fun us s1 ⟨vs, H1, I1, r, q⟩ => ⟨I1.kIn, ?_⟩) he hpl
  exact run_fn F hr hb hd hx I1 r q
end
def PK (X : Cx) (kws : List Keyword) (t : TA) : Prop :=
  ∀ (pos : Pos) (pins : List (Addr × Obj)) (s : Shared) (σ : St) (H : Hp) (Q : List V → Hp → Prop), Inv X pins σ H s → t σ H Q → wpAny (model X.prog X.w) X.A (evalAll ((backToKw pos (keywordEach kws X.env)).map (·.2))) (AP X pins σ Q) X.xe s
section
variable {X : Cx} {CX : CXT} {k : Nat} {f C : Addr} {fd : FuncData} {ps ks : List Str} {sp : Sp} {E : XK} {x m : Str} {p pos apos kpos : Pos} {e o : Expr} {es : List Expr} {kws : List Keyword} {te ta : TE} {t tk : TA} {nm : Option Str}
theorem pk_nil : PK X [] tNil := fun _ _ _ _ H Q I h => wpAny_evalAll_nil ⟨[], H, I, .nil, h⟩
theorem pk_cons (ha : PE X e te) (hr : PK X kws t) : PK X (⟨nm, e, kpos⟩ :: kws) (tCons te t) := by
  intro pos pins s σ H Q I h
  show wpAny _ _ (evalAll ((do let v ← eval e X.env; standAt pos; pure v) :: (backToKw pos (keywordEach kws X.env)).map (·.2))) _ _ s
  refine wpAny_evalAll_cons (wpAny_bind (thn (ha pins s σ H _ I h) fun u s1 ⟨x, H1, I1, r1, q1⟩ => wpAny_bind (wpAny_standAt (wpAny_pure ?_))))
  exact thn (hr pos pins s1 σ H1 _ I1 q1) fun us s2 ⟨xs, H2, I2, r2, q2⟩ => ⟨x :: xs, H2, I2, .cons r1 r2, q2⟩
variable {g : List Value → List Value → List Value} {gV : List V → List V → List V}
end
structure FnScope (N P : List Str) (sc : Scope) : Prop where
  kind : sc.kind = .function
  co : sc.isCoroutine = false
  gen : sc.isGenerator = false
  nd : N.Nodup
  pre : N.take P.length = P
  par : ∀ x ∈ P, sc.names.lookup x = some .local ∨ sc.names.lookup x = some .cell
  nofree : ∀ y ∈ sc.names, y.2 ≠ .free
theorem bindL_out {kindOf : Str → Option NameKind} {x : Str} : ∀ {binds : List (Str × Value)} {m : Str → Option Value}, (∀ v, (x, v) ∉ binds) → bindL kindOf binds m x = m x
  | [], _, _ => rfl
  | (n, v) :: r, m, h => by
    unfold bindL
    rw [bindL_out fun w hw => h w (List.mem_cons_of_mem _ hw)]
    split
    · have : x ≠ n := by rintro rfl; exact h v List.mem_cons_self
      simp [this]
    · rfl
theorem bindC_out {kindOf : Str → Option NameKind} {x : Str} : ∀ {binds : List (Str × Value)} {m : Str → Option Value}, (∀ v, (x, v) ∉ binds) → bindC kindOf binds m x = m x
  | [], _, _ => rfl
  | (n, v) :: r, m, h => by
    unfold bindC
    rw [bindC_out fun w hw => h w (List.mem_cons_of_mem _ hw)]
    split
    · rfl
    · have : x ≠ n := by rintro rfl; exact h v List.mem_cons_self
      simp [this]
theorem bindL_get {kindOf : Str → Option NameKind} {x : Str} {v : Value} : ∀ {P : List Str} {vs : List Value} {i : Nat} {m : Str → Option Value}, P.Nodup → P[i]? = some x → vs[i]? = some v → kindOf x = some .local →
    bindL kindOf (P.zip vs) m x = some v
  | [], _, _, _, _, h, _, _ => by simp at h
  | _ :: _, [], _, _, _, _, h, _ => by simp at h
  | p :: P, w :: vs, 0, m, nd, h1, h2, hk => by
    simp at h1 h2; subst h1; subst h2
    show bindL kindOf ((p, w) :: P.zip vs) m p = _
    unfold bindL
    rw [bindL_out fun v hv => (List.nodup_cons.mp nd).1 (List.of_mem_zip hv).1, if_pos hk]
    simp
  | p :: P, w :: vs, i + 1, m, nd, h1, h2, hk => by
    show bindL kindOf ((p, w) :: P.zip vs) m x = _
    unfold bindL
    exact bindL_get (i := i) (List.nodup_cons.mp nd).2 (by simpa using h1) (by simpa using h2) hk
theorem bindC_get {kindOf : Str → Option NameKind} {x : Str} {v : Value} : ∀ {P : List Str} {vs : List Value} {i : Nat} {m : Str → Option Value}, P.Nodup → P[i]? = some x → vs[i]? = some v → kindOf x ≠ some .local →
    bindC kindOf (P.zip vs) m x = some v
  | [], _, _, _, _, h, _, _ => by simp at h
  | _ :: _, [], _, _, _, _, h, _ => by simp at h
  | p :: P, w :: vs, 0, m, nd, h1, h2, hk => by
    simp at h1 h2; subst h1; subst h2
    show bindC kindOf ((p, w) :: P.zip vs) m p = _
    unfold bindC
    rw [bindC_out fun v hv => (List.nodup_cons.mp nd).1 (List.of_mem_zip hv).1, if_neg hk]
    simp
  | p :: P, w :: vs, i + 1, m, nd, h1, h2, hk => by
    show bindC kindOf ((p, w) :: P.zip vs) m x = _
    unfold bindC
    exact bindC_get (i := i) (List.nodup_cons.mp nd).2 (by simpa using h1) (by simpa using h2) hk
def start (N : List Str) (vs : List V) : St := vs.map some ++ List.replicate (N.length - vs.length) none
def cxOf (CX : CXT) (P : Program) (w : World) (K : PySem.W.Frag) (mg : Str → Option Value) (base : Heap) (N : List Str) (qual : Str) (scope : Scope) (f : Addr) (cd : Value) (A : Around) (outer : List Env) (s : Shared) (H : Hp) (E : XK) : Cx where
  prog := P
  w := w
  K := K
  mg := mg
  base := base
  A := A.deeper (envOfC qual scope s.heap.objs.size f cd)
  N := N
  s₀ := s
  H₀ := H
  env := envOfC qual scope s.heap.objs.size f cd
  outer := outer
  stack := envOfC qual scope s.heap.objs.size f cd :: outer
  ex := []
  calm := true
  fn := fun _ => true
  pn := []
  xe := fun e s' => wpAny (model P w) (A.deeper (envOfC qual scope s.heap.objs.size f cd)) (leaving (envOfC qual scope s.heap.objs.size f cd) e) (fun _ s'' => CX outer H s E e s'') (fun e' s'' => CX outer H s E e' s'') s'
theorem cell_has {sc : Scope} {n : Nat} {x : Str} (h : sc.names.lookup x = some .cell) : ∃ c, (cellsFrom n sc.names []).lookup x = some c := by
  have q := PySem.W.cellsFrom_some sc.names n [] (.inl h)
  exact Option.isSome_iff_exists.mp q
theorem inv_start {CX : CXT} {P : Program} {w : World} {K : PySem.W.Frag} {mg : Str → Option Value} {base : Heap} {N ps : List Str} {qual : Str} {scope : Scope} {f : Addr} {cd : Value} {A : Around} {outer : List Env} {s s1 : Shared} {H : Hp} {E : XK} {us : List Value} {vs : List V}
    (S : FnScope N ps scope) (hd : A.handled = none) (e0 : Env0 P w K mg base A outer s H) (hl : vs.length = ps.length) (r : Vals vs us)
    (x : InCallC s s.heap.objs.size (bindL (envOfC qual scope s.heap.objs.size f cd).kindOf (ps.zip us) fun _ => none) (cellsFrom (s.heap.objs.size + 1) scope.names []) (bindC (envOfC qual scope s.heap.objs.size f cd).kindOf (ps.zip us) fun _ => none) s1) :
    Inv (cxOf CX P w K mg base N qual scope f cd A outer s H E) [] (start N vs) H s1 := by
  have hpl : ps.length ≤ N.length := by have := congrArg List.length S.pre; rw [List.length_take] at this; omega
  obtain ⟨h1, tk, rfl, hk⟩ := x.done
  have noA : ∀ b : Addr, b ∉ (cxOf CX P w K mg base N qual scope f cd A outer s H E).ex := fun b z => absurd (show b ∈ ([] : List Addr) from z) (by simp)
  refine ⟨⟨e0.mod, S.kind, rfl, rfl, Nat.le_refl _, fun y z c h1 h2 => ?_, fun y hy => ?_, fun y c _ h => ?_, fun _ => hd, Around.frames_deeper e0.frames, .inr ⟨rfl, rfl⟩, fun b z => absurd z (noA b), e0.bs, e0.bsz, fun b _ _ => noA b, fun b z => absurd z (noA b), e0.funs, e0.frf⟩,
    rfl, e0.bare, Un.kept hk, ⟨_, x.toInCall.ns, fun i y v h1 h2 h3 => ?_⟩, fun y c h => ⟨_, x.cell y c h⟩, e0.hok.fresh (Nat.le_refl _), fun y c h => ?_, fun p hp => absurd (show p ∈ ([] : List (Addr × Obj)) from hp) (by simp), e0.hok.kept hk, ?_⟩
  · exact name_of_addr x.apart (PySem.mem_of_lookup h1) (PySem.mem_of_lookup h2)
  · have hy : scope.names.lookup y = some .cell ∨ scope.names.lookup y = some .free := hy
    rcases hy with hy | hy
    · exact cell_has hy
    · exact absurd rfl (S.nofree _ (PySem.mem_of_lookup hy))
  · exact Nat.le_of_lt (x.above y c (PySem.mem_of_lookup h))
  · have hi : i < vs.length := by
      unfold start at h2
      by_cases hi : i < vs.length
      · exact hi
      · rw [List.getElem?_append_right (by simpa using hi)] at h2
        rw [List.getElem?_replicate] at h2
        split at h2 <;> cases h2
    have ha : vs[i]? = some v := by
      unfold start at h2
      rw [List.getElem?_append_left (by simpa using hi), List.getElem?_map] at h2
      cases e : vs[i]? with
      | none => rw [e] at h2; cases h2
      | some a => rw [e] at h2; cases h2; rfl
    obtain ⟨u, hu, rv⟩ := r.get ha
    have hp : ps[i]? = some y := by
      rw [← S.pre, List.getElem?_take_of_lt (by omega)]; exact h1
    have ndP : ps.Nodup := by rw [← S.pre]; exact S.nd.sublist (List.take_sublist _ _)
    refine ⟨u, rv, ?_⟩
    rcases S.par y (List.mem_of_getElem? hp) with k | k
    · exact .inl ⟨k, bindL_get ndP hp hu k⟩
    · obtain ⟨c, e⟩ := cell_has (n := s.heap.objs.size + 1) k
      refine .inr ⟨.inl k, c, e, ?_⟩
      have q := x.cell y c e
      rw [bindC_get ndP hp hu (by show scope.names.lookup y ≠ _; rw [k]; decide)] at q
      exact q
  · exact e0.hok.fresh (Nat.le_of_lt (x.above y c (PySem.mem_of_lookup h)))
  · unfold start
    show _ = N.length
    rw [List.length_append, List.length_map, List.length_replicate]
    omega
theorem fn_of {CX : CXT} {P : Program} {w : World} {K : PySem.W.Frag} {mg : Str → Option Value} {base : Heap} {k : Nat} {f : Addr} {name qual : Str} {params : Arguments} {body : List Stmt} {scope : Scope} {dV kV doc pm cdv ct oc : Value} {an od : Option Addr}
    {osl : Array (Option Value)} {N ps : List Str} {sp : Sp} (lk : K.lookup f = some ⟨oc, od, .func (PySem.W.fnOf name qual params body scope dV kV doc pm an cdv ct), osl⟩) (hcd : PySem.W.codeIn K cdv qual = true) (S : FnScope N ps scope)
    (len : ∀ vs H Q E, sp vs H Q E → vs.length = ps.length)
    (hbody : ∀ (A : Around) (outer : List Env) (s : Shared) (H : Hp) (vs : List V) (Q : VK) (E : XK), Room k (A.deeper (envOfC qual scope s.heap.objs.size f cdv)) → sp vs H Q E →
      ∃ t, PSs (cxOf CX P w K mg base N qual scope f cdv A outer s H E) body t ∧ t { nx := fun _ H' => Q .non H', rt := Q } (start N vs) H) :
    FnOk P w K mg base CX (k + 1) f (PySem.W.fnOf name qual params body scope dV kV doc pm an cdv ct) ps sp := by
  refine ⟨len, fun A outer s H args us vs Q E hr e0 hb r hsp => ?_⟩
  have hl := len _ _ _ _ hsp
  have KX : K.In s.heap := e0.mod.kin.keeps fun b o e => (e0.bs b o e).1
  have lim : s.heap.NoLimit := e0.mod.nolimit.keeps fun b o e => (e0.bs b o e).1
  have hkind : ∀ y ∈ ps.zip us, scope.names.lookup y.1 = some .local ∨ (scope.names.lookup y.1 = some .cell ∧ ((cellsFrom (s.heap.objs.size + 1) scope.names []).lookup y.1).isSome = true) := fun ⟨n, v⟩ hy => by
    rcases S.par n (List.of_mem_zip hy).1 with q | q
    · exact .inl q
    · exact .inr ⟨q, PySem.W.cellsFrom_some _ _ _ (.inl q)⟩
  refine codeAny_call_function hr.depth (KX _ _ lk) rfl S.co S.gen rfl (PySem.W.codeRec_of KX hcd) (hb _ _ _ _ ?_)
  refine wpAny_newFunctionEnv_cells S.kind hkind fun env he s1 x => ?_
  subst he
  refine ⟨lim.keeps x.toInCall.keep, codeAny_func ?_⟩
  obtain ⟨t, ht, hq⟩ := hbody A outer s H vs Q E (hr.deeper _) hsp
  have I : Inv (cxOf CX P w K mg base N qual scope f cdv A outer s H E) [] (start N vs) H s1 := inv_start S hr.hd e0 hl r x
  refine wpAny_mono (ht [] s1 (start N vs) H _ I hq) (fun fl s' hs => ?_) fun e s' hs => hs
  have fin : ∀ {σ' : St} {H' : Hp} {v : V} {u : Value}, Inv (cxOf CX P w K mg base N qual scope f cdv A outer s H E) [] σ' H' s' → RelV v u → Q v H' → CE outer P w H s Q u s' :=
    fun {σ' H' v u} J rv q => ⟨v, H', J.os, J.bare, J.base, J.hok, rv, q⟩
  cases fl with
  | ret u =>
    obtain ⟨v, σ', H', J, rv, q⟩ := hs
    exact fin J rv q
  | next =>
    obtain ⟨σ', H', J, q⟩ := hs
    exact fin (v := V.non) (u := Value.none) J rfl q
  | brk =>
    obtain ⟨_, _, _, q⟩ := hs
    exact False.elim q
  | cont =>
    obtain ⟨_, _, _, q⟩ := hs
    exact False.elim q
end L2
namespace L2
open PySem PySem.Spec PyProof.Rows
section
variable {X : Cx} {x : Str} {p pos : Pos} {e : Expr} {es : List Expr} {t : TA} {id T : String} {r : List V → Hp → VK → Prop}
def tCB (r : List V → Hp → VK → Prop) (t : TA) : TE := fun σ H Q => t σ H fun vs H1 => r vs H1 Q
theorem pe_callB (hc : CallR X (.builtin id) r) (hg : Gl X x) (hm : X.mg x = none) (hv : bootBuiltins x = some (.builtin id)) (ha : PA X (e :: es) t) (hn : x ≠ "__name__" := by decide) (hdb : (x == ("__debug__" : Str)) = false := by decide)
    (he : starEach (e :: es) X.env = (false, eval e X.env) :: starEach es X.env := by rfl) (hpl : (backTo pos (starEach es X.env)).any (·.1) = false := by rfl) : PE X (.Call (.Name x p) (e :: es) [] pos) (tCB r t) := by
  intro pins s σ H Q I h
  refine wpAny_Call_Name_kw (ld_blt I hg hm hv ?_ hn hdb)
  exact PyProof.Rows.callWith_builtin1 (thn (ha pos pins s σ H _ I h) fun us s1 ⟨vs, H1, I1, r1, q1⟩ => hc pins s1 σ H1 vs us Q I1 r1 q1) he hpl
theorem pe_callTy (hc : CallR X (.type T) r) (hg : Gl X x) (hm : X.mg x = none) (hv : bootBuiltins x = some (.type T)) (ha : PA X (e :: es) t) (hn : x ≠ "__name__" := by decide) (hdb : (x == ("__debug__" : Str)) = false := by decide)
    (he : starEach (e :: es) X.env = (false, eval e X.env) :: starEach es X.env := by rfl) (hpl : (backTo pos (starEach es X.env)).any (·.1) = false := by rfl) : PE X (.Call (.Name x p) (e :: es) [] pos) (tCB r t) := by
  intro pins s σ H Q I h
  refine wpAny_Call_Name_kw (ld_blt I hg hm hv ?_ hn hdb)
  exact PyProof.Rows.callWith_type1 (thn (ha pos pins s σ H _ I h) fun us s1 ⟨vs, H1, I1, r1, q1⟩ => hc pins s1 σ H1 vs us Q I1 r1 q1) he hpl
end
end L2
namespace HT
open PySem PyProof.Rows
def lexLt : List Int → List Int → Bool
  | [], [] => false
  | [], _ :: _ => true
  | _ :: _, [] => false
  | x :: xs, y :: ys => if x = y then lexLt xs ys else decide (x < y)
theorem lexLt_cons (x y : Int) (xs ys : List Int) : lexLt (x :: xs) (y :: ys) = if x = y then lexLt xs ys else decide (x < y) := rfl
theorem lexLt_nil_nil : lexLt [] [] = false := rfl
theorem lexLt_nil_cons (y : Int) (ys : List Int) : lexLt [] (y :: ys) = true := rfl
theorem lexLt_cons_nil (x : Int) (xs : List Int) : lexLt (x :: xs) [] = false := rfl
theorem eqAt_int (A : Around) (s : Shared) (a : Int) (t : Tok) (c : Int) (u : Tok) : ∃ e, SeqAt.EqAt A s (.int a t) (.int c u) e ∧ (e = true ↔ a = c) :=
  ⟨(a == c), SeqAt.EqAt.int_int a t c u, by simp⟩
theorem rcLt_int (A : Around) (s : Shared) (a : Int) (t : Tok) (c : Int) (u : Tok) (prog : Program) (w : World) (E : Value → Shared → Prop) (Q : Value → Shared → Prop) (h : Q (.bool (decide (a < c))) s) :
    wpAny (model prog w) A (richCompare .Lt (.int a t) (.int c u)) Q E s :=
  (PyProof.Rows.lt_int h : wpAny (model prog w) A (compareOp .Lt (.int a t) (.int c u)) Q E s)
section
open PySem.SeqAt
open PySem.AutoSeq1 (wpAny_loadPart')
open PySem.MeetsSeq PySem.MeetsSeq2 PySem.MeetsSeq3
theorem tuple_lt_ints (l b : Addr) (items items2 : Array Value) (n n2 : Nat) (dd dd2 : Option Addr) (sl sl2 : Array (Option Value)) (ns ms : List Int) (hi : IntsAre items.toList ns) (hj : IntsAre items2.toList ms) :
    Meets (Builtin.«tuple.__lt__» ⟨[.ref l, .ref b], []⟩)
      (fun _ R s => s.heap.get? l = some { cls := .type "tuple", dict := dd, data := .seq items n, slots := sl } ∧ s.heap.get? b = some { cls := .type "tuple", dict := dd2, data := .seq items2 n2, slots := sl2 } ∧
        R (.ok (.ret (.bool (lexLt ns ms)))) s) :=
  .of_wp fun prog w A R s h => by
    obtain ⟨hp, g, d, tk, os⟩ := s; obtain ⟨hl, hb, h⟩ := h
    have f2 := AutoSeq1.sub_tuple_tuple
    have z1 : items.size = ns.length := by rw [← hi.length]; simp
    have z2 : items2.size = ms.length := by rw [← hj.length]; simp
    wp_walk using wpAny_loadPart' hl, wpAny_loadPart' hb, wpAny_forIn_list _ (fun rest b s' => b.1 = none ∧ s' = ⟨hp, g, d, tk, os⟩ ∧ ∃ (vs ws : List Value) (ns' ms' : List Int), rest = vs.zip ws ∧
      IntsAre vs ns' ∧ IntsAre ws ms' ∧ ns'.length + items2.size = ms'.length + items.size ∧ R (.ok (.ret (.bool (lexLt ns' ms')))) ⟨hp, g, d, tk, os⟩) _
    case turn =>
      rintro ⟨y, x⟩ rest b s' ⟨hb', rfl, vs, ws, ns', ms', hz, hvi, hwi, hlen, hR⟩
      cases hvi with
      | nil => rw [List.zip_nil_left] at hz; cases hz
      | cons a t hvi' =>
        cases hwi with
        | nil => rw [List.zip_nil_right] at hz; cases hz
        | cons c u hwi' =>
          rw [List.zip_cons_cons] at hz
          injection hz with hyx hrest
          injection hyx with hy hx
          subst hy hx
          rw [lexLt_cons] at hR
          simp only [List.length_cons] at hlen
          obtain ⟨e, he, hiff⟩ := eqAt_int A.in1 ⟨hp, g, d, tk, os⟩ a t c u
          refine wpAny_bind (he prog w _ _ ?_)
          cases e with
          | true =>
            rw [if_pos (hiff.mp rfl)] at hR
            wp_walk
            exact ⟨rfl, rfl, _, _, _, _, hrest, hvi', hwi', by omega, hR⟩
          | false =>
            rw [if_neg (fun q => absurd (hiff.mpr q) Bool.false_ne_true)] at hR
            have hri := rcLt_int A.in1 ⟨hp, g, d, tk, os⟩ a t c u prog w
            wp_walk using hri
            exact ⟨_, rfl, by simpa using hR⟩
    case fin =>
      rintro ⟨b1, b2⟩ s' ⟨hb', rfl, vs, ws, ns', ms', hz, hvi, hwi, hlen, hR⟩
      simp only at hb'
      subst hb'
      have hv : lexLt ns' ms' = decide (items.size < items2.size) := by
        cases hvi with
        | nil =>
          cases hwi with
          | nil =>
            simp only [List.length_nil] at hlen
            rw [lexLt_nil_nil]
            exact (decide_eq_false (by omega)).symm
          | cons c u hw =>
            simp only [List.length_nil, List.length_cons] at hlen
            rw [lexLt_nil_cons]
            exact (decide_eq_true (by omega)).symm
        | cons a t hv =>
          cases hwi with
          | nil =>
            simp only [List.length_nil, List.length_cons] at hlen
            rw [lexLt_cons_nil]
            exact (decide_eq_false (by omega)).symm
          | cons c u hw =>
            rw [List.zip_cons_cons] at hz
            cases hz
      rw [hv] at hR
      wp_walk
      exact ⟨_, rfl, by simpa [Builtin.Tuple.tupleCompareSizes] using hR⟩
    case h =>
      exact ⟨rfl, rfl, items.toList, items2.toList, ns, ms, rfl, hi, hj, by omega, h⟩
end
section
variable {prog : Program} {w : World} {A : Around} {E : Value → Shared → Prop} {s : Shared}
theorem lt_tupInts {l b : Addr} {items items2 : Array Value} {ns ms : List Int} {Q : Value → Shared → Prop} (hl : IsTup s.heap l items) (hb : IsTup s.heap b items2) (hi : IntsAre items.toList ns) (hj : IntsAre items2.toList ms)
    (hu : A.units < cLine) (h : Q (.bool (lexLt ns ms)) s) : wpAny (model prog w) A (compareOp .Lt (.ref l) (.ref b)) Q E s := by
  obtain ⟨⟨cls, dd, data, sl⟩, ho, hc, n, hd⟩ := id hl
  obtain ⟨⟨cls2, dd2, data2, sl2⟩, ho2, hc2, n2, hd2⟩ := id hb
  simp only at hc hd hc2 hd2
  subst hc hd hc2 hd2
  exact richCompare_meets_room (op := .Lt) ⟨_, ho, rfl⟩ ⟨_, ho2, rfl⟩ PySem.F.slot_tuple_lt PySem.F.entry_tuple_lt (PySem.F.args_tuple_lt_2 _ _) (tuple_lt_ints l b items items2 n n2 dd dd2 sl sl2 ns ms hi hj)
    ⟨ho, ho2, show Value.bool (lexLt ns ms) ≠ Value.notImplemented ∧ Q (.bool (lexLt ns ms)) s from ⟨(fun x => nomatch x), h⟩⟩ hu
theorem cat_tup {t b : Addr} {vs ws : List Value} {Q : Value → Shared → Prop} (ht : IsTup s.heap t vs.toArray) (hb : IsTup s.heap b ws.toArray) (hv : vs ≠ [])
    (h1 : ws = [] → Q (.ref t) s) (h2 : ws ≠ [] → Q (.ref s.heap.objs.size) { s with heap := s.heap.push { cls := .type "tuple", data := .seq (vs ++ ws).toArray } })
    (hsz : vs.length + ws.length ≤ sizeLine) : wpAny (model prog w) A (binaryOp .Add (.ref t) (.ref b)) Q E s := by
  obtain ⟨⟨cls, dd, data, sl⟩, ho, hc, n, hd⟩ := id ht
  obtain ⟨⟨cls2, dd2, data2, sl2⟩, ho2, hc2, n2, hd2⟩ := id hb
  simp only at hc hd hc2 hd2
  subst hc hd hc2 hd2
  have e : vs.toArray ++ ws.toArray = (vs ++ ws).toArray := by simp
  by_cases hw : ws = []
  · exact concat_meets ⟨_, ho, rfl⟩ ⟨_, ho2, rfl⟩ noFill_tuple_add seq_tuple_add PySem.F.slot_tuple_add PySem.F.entry_tuple_add (PySem.F.args_tuple_add_2 _ _)
      (tuple_addW1 t b vs.toArray ws.toArray n n2 dd dd2 sl sl2 (by simpa using hv) (by simp [hw])) ⟨ho, ho2, h1 hw⟩
  · refine concat_meets ⟨_, ho, rfl⟩ ⟨_, ho2, rfl⟩ noFill_tuple_add seq_tuple_add PySem.F.slot_tuple_add PySem.F.entry_tuple_add (PySem.F.args_tuple_add_2 _ _)
      (tuple_addW2 t b vs.toArray ws.toArray n n2 dd dd2 sl sl2 (by simpa using hv) (by simpa using hw) (by rw [List.size_toArray, List.size_toArray]; exact hsz)) ⟨ho, ho2, ?_⟩
    rw [e]
    exact h2 hw
def sIx (n d : Nat) : Option Int → Nat
  | none => d
  | some v => if v < 0 then (v + (n : Int)).toNat else min v.toNat n
theorem sIx_le (n d : Nat) (hd : d ≤ n) (o : Option Int) : sIx n d o ≤ n := by
  cases o with
  | none => exact hd
  | some v =>
    show (if v < 0 then (v + (n : Int)).toNat else min v.toNat n) ≤ n
    by_cases hv : v < 0
    · rw [if_pos hv]; omega
    · rw [if_neg hv]; exact Nat.min_le_right _ _
theorem clip_eq (v : Int) (n d : Nat) : (if v < 0 then max (v + (n : Int)) 0 else min v (n : Int)) = ((sIx n d (some v) : Nat) : Int) := by
  show (if v < 0 then max (v + (n : Int)) 0 else min v (n : Int)) = (((if v < 0 then (v + (n : Int)).toNat else min v.toNat n) : Nat) : Int)
  by_cases hv : v < 0
  · simp only [if_pos hv]; omega
  · simp only [if_neg hv]; omega
theorem adjust_gen (lo hi : Option Int) (n : Nat) : Builtin.Slice.sliceAdjust lo hi 1 (n : Int) = (((sIx n 0 lo : Nat) : Int), ((sIx n n hi : Nat) : Int)) := by
  have h1 : ¬ ((1 : Int) < 0) := by omega
  unfold Builtin.Slice.sliceAdjust
  simp only [h1, if_false]
  refine Prod.ext ?_ ?_
  · cases lo with
    | none => rfl
    | some v => exact clip_eq v n 0
  · cases hi with
    | none => rfl
    | some v => exact clip_eq v n n
theorem places_gen (i j : Nat) : Builtin.Slice.slicePlaces (i : Int) (j : Int) 1 = j - i := by
  unfold Builtin.Slice.slicePlaces
  have h1 : (1 : Int) > 0 := by omega
  simp only [h1, if_true, Int.ediv_one]
  split <;> omega
theorem slicePart_ {v : Value} {o : Option Int} {Q : Option Int → Shared → Prop} (p : IsPart v o) (h : Q o s) : wpAny (model prog w) A (Builtin.Slice.slicePartIndex v) Q E s := by
  cases p with
  | none => exact slicePart_none h
  | int i t => exact slicePart_int h
theorem sliceApplied_gen {sl : Addr} {vl vu : Value} {lo hi : Option Int} {n : Nat} {Q : Int × Int × Nat → Shared → Prop} (hs : s.heap.IsSliceOf sl vl vu .none) (pl : IsPart vl lo) (pu : IsPart vu hi)
    (h : Q (((sIx n 0 lo : Nat) : Int), 1, sIx n n hi - sIx n 0 lo) s) : wpAny (model prog w) A (Builtin.Slice.sliceApplied (.ref sl) (pure (n : Int))) Q E s := by
  obtain ⟨os, hos, hcs, hds⟩ := id hs
  unfold Builtin.Slice.sliceApplied Builtin.Slice.sliceFields
  refine wpAny_bind (wpAny_bind (wpAny_field hos hds (x := vl) rfl (wpAny_bind (wpAny_field hos hds (x := vu) rfl (wpAny_bind (wpAny_field hos hds (x := .none) rfl (wpAny_pure ?_)))))))
  refine wpAny_bind (slicePart_none ?_)
  show wpAny _ _ (if ((1 : Int) == 0) = true then _ else _) _ _ s
  rw [if_neg (by decide)]
  refine wpAny_bind (slicePart_ pl (wpAny_bind (slicePart_ pu (wpAny_bind (wpAny_pure ?_)))))
  show wpAny _ _ (match Builtin.Slice.sliceAdjust lo hi 1 (n : Int) with | (lo, hi) => pure (lo, (1 : Int), Builtin.Slice.slicePlaces lo hi 1)) _ _ s
  rw [adjust_gen lo hi n]
  show wpAny _ _ (pure (((sIx n 0 lo : Nat) : Int), (1 : Int), Builtin.Slice.slicePlaces ((sIx n 0 lo : Nat) : Int) ((sIx n n hi : Nat) : Int) 1)) _ _ s
  rw [places_gen]
  exact wpAny_pure h
theorem pick_gen (xs : Array Value) (i k : Nat) : ((List.range k).filterMap fun (m : Nat) => xs[((i : Int) + (m : Int) * 1).toNat]?).toArray = ((xs.toList.drop i).take k).toArray := by
  have e : (fun (m : Nat) => xs[((i : Int) + (m : Int) * 1).toNat]?) = fun m => xs[i + m]? := by
    funext m
    have : ((i : Int) + (m : Int) * 1).toNat = i + m := by omega
    rw [this]
  rw [e]
  have := pick_run xs i k
  rw [List.filterMap_map] at this
  have e2 : ((fun x => xs[x]?) ∘ fun x => i + x) = fun m => xs[i + m]? := rfl
  rw [e2] at this
  rw [this]
theorem getItem_tuple_cut {t sl : Addr} {items : Array Value} {vl vu : Value} {lo hi : Option Int} {Q : Value → Shared → Prop} (ht : IsTup s.heap t items) (hs : s.heap.IsSliceOf sl vl vu .none) (pl : IsPart vl lo) (pu : IsPart vu hi)
    (hw : ¬ (sIx items.size 0 lo = 0 ∧ sIx items.size items.size hi = items.size))
    (h : Q (.ref s.heap.objs.size) { s with heap := s.heap.push { cls := .type "tuple", data := .seq ((items.toList.drop (sIx items.size 0 lo)).take (sIx items.size items.size hi - sIx items.size 0 lo)).toArray } })
    (hsz : items.size ≤ sizeLine) : wpAny (model prog w) A (getItem (.ref t) (.ref sl)) Q E s := by
  have htake : sizeOk (.seq ((items.toList.drop (sIx items.size 0 lo)).take (sIx items.size items.size hi - sIx items.size 0 lo)).toArray) := by
    show ((items.toList.drop (sIx items.size 0 lo)).take (sIx items.size items.size hi - sIx items.size 0 lo)).toArray.size ≤ sizeLine
    rw [List.size_toArray, List.length_take, List.length_drop, Array.length_toList]
    omega
  have hj : sIx items.size items.size hi ≤ items.size := sIx_le _ _ (Nat.le_refl _) hi
  obtain ⟨os, hos, hcs, hds⟩ := id hs
  have hTs : s.TypeIs (.ref sl) "slice" := ⟨os, hos, hcs⟩
  unfold getItem
  try with_reducible refine wpAny_holding ?_
  first | refine wpAny_bind (wpAny_pure ?_) | skip
  refine wpAny_bind (wpAny_sequenceKey ht.typeIs (by decide) ?_)
  refine wpAny_bind (wpAny_callSpecial?_slot (name := Str.ofString "__getitem__") ht.typeIs PyProof.Rows.slot_tuple_getitem
    (wpAny_call_entry PyProof.Rows.slot_tuple_getitem ht.typeIs entry_tuple_getitem ?_ (args_tuple_getitem _ _)))
  show wpAny _ _ (Builtin.Tuple.tupleItemsOf (.ref t) >>= _) _ _ s
  refine wpAny_bind (tupleItemsOf_ ht ?_)
  refine wpAny_bind (wpAny_typeOf hTs ?_)
  rw [if_pos (by decide)]
  refine wpAny_bind (sliceApplied_gen hs pl pu ?_)
  have hno : ¬ ((((sIx items.size 0 lo : Nat) : Int) == 0 && (1 : Int) == 1 && (sIx items.size items.size hi - sIx items.size 0 lo) == items.size) = true) := by
    intro q
    rw [Bool.and_eq_true, Bool.and_eq_true] at q
    have q1 : ((sIx items.size 0 lo : Nat) : Int) = 0 := eq_of_beq q.1.1
    have q2 : sIx items.size items.size hi - sIx items.size 0 lo = items.size := eq_of_beq q.2
    exact hw ⟨by omega, by omega⟩
  show wpAny _ _ (if (((sIx items.size 0 lo : Nat) : Int) == 0 && (1 : Int) == 1 && (sIx items.size items.size hi - sIx items.size 0 lo) == items.size) = true then _ else _) _ _ s
  rw [if_neg hno, pick_gen]
  first
    | exact wpAny_bind (m := Builtin.Tuple.tupleExact _) (wpAny_newObj_type (wpAny_pure ⟨_, rfl, wpAny_pure h⟩) htake)
    | exact wpAny_bind (m := Builtin.Tuple.tupleExact _) (wpAny_newObj_type (wpAny_bind (wpAny_pure (wpAny_pure ⟨_, rfl, wpAny_pure h⟩))) htake)
    | exact wpAny_bind (wpAny_bind (m := Builtin.Tuple.tupleExact _) (wpAny_newObj_type (wpAny_pure (wpAny_pure ⟨_, rfl, wpAny_pure h⟩)) htake))
    | exact wpAny_bind (wpAny_bind (m := Builtin.Tuple.tupleExact _) (wpAny_newObj_type (wpAny_pure ⟨_, rfl, wpAny_pure h⟩) htake))
end
end HT
namespace L2
open PySem PySem.Spec PyProof.Rows
abbrev TO := St → Hp → (Option Int → Hp → Prop) → Prop
def PO (X : Cx) (e : Option Expr) (t : TO) : Prop :=
  ∀ (pins : List (Addr × Obj)) (s : Shared) (σ : St) (H : Hp) (Q : Option Int → Hp → Prop), Inv X pins σ H s → t σ H Q →
    wpAny (model X.prog X.w) X.A (evalPart e X.env) (fun u s' => ∃ o H', Inv X pins σ H' s' ∧ IsPart u o ∧ Q o H') X.xe s
def tNoPart : TO := fun _ H Q => Q none H
def tPart (t : TE) : TO := fun σ H Q => t σ H fun x H1 => ∃ i, x = .int i ∧ Q (some i) H1
theorem intsAre_of {ns : List Int} : ∀ {us : List Value}, Vals (ns.map V.int) us → IntsAre us ns := by
  induction ns with
  | nil => intro us r; rw [List.map_nil] at r; cases r; exact .nil
  | cons n ns ih =>
    intro us r
    rw [List.map_cons] at r
    cases r with
    | cons r1 r2 =>
      obtain ⟨t, e⟩ := r1
      subst e
      exact .cons n t (ih r2)
section
variable {X : Cx} {e : Expr} {te : TE} {lo hi : Option Expr} {tl th : TO} {pos p2 : Pos}
theorem po_none : PO X none tNoPart := by
  intro pins s σ H Q I h
  rw [evalPart_none]
  exact wpAny_pure ⟨none, H, I, .none, h⟩
theorem po_some (h : PE X e te) : PO X (some e) (tPart te) := by
  intro pins s σ H Q I hw
  rw [evalPart_some]
  refine thn (h pins s σ H _ I hw) fun u s1 ⟨x, H1, I1, r1, q1⟩ => ?_
  obtain ⟨i, rfl, q⟩ := q1
  obtain ⟨t, rfl⟩ := r1
  exact ⟨some i, H1, I1, .int i t, q⟩
def SlR (X : Cx) (r : V → Option Int → Option Int → Hp → VK → Prop) : Prop :=
  ∀ (pins : List (Addr × Obj)) (s : Shared) (σ : St) (H : Hp) (x : V) (v vl vu : Value) (lo hi : Option Int) (sl : Addr) (Q : VK), Inv X pins σ H s → RelV x v → s.heap.IsSliceOf sl vl vu .none → IsPart vl lo → IsPart vu hi → r x lo hi H Q →
    ∃ T id, typeLookup (.type T) "__getitem__" = pure (some (.builtin id)) ∧ s.TypeIs v T ∧ wpAny (model X.prog X.w) X.A (getItem v (.ref sl)) (EP X pins σ Q) X.xe s
theorem SlR.or {r r' : V → Option Int → Option Int → Hp → VK → Prop} (h : SlR X r) (h' : SlR X r') : SlR X (fun x lo hi H Q => r x lo hi H Q ∨ r' x lo hi H Q) := by
  intro pins s σ H x v vl vu lo hi sl Q I rx hs pl pu q
  rcases q with q | q
  · exact h pins s σ H x v vl vu lo hi sl Q I rx hs pl pu q
  · exact h' pins s σ H x v vl vu lo hi sl Q I rx hs pl pu q
def tSl (r : V → Option Int → Option Int → Hp → VK → Prop) (te : TE) (tl th : TO) : TE := fun σ H Q => te σ H fun x H1 => tl σ H1 fun l H2 => th σ H2 fun u H3 => r x l u H3 Q
theorem pe_slice {r : V → Option Int → Option Int → Hp → VK → Prop} (hr : SlR X r) (he : PE X e te) (hl : PO X lo tl) (hu : PO X hi th) : PE X (.Subscript e (.Slice lo hi none p2) pos) (tSl r te tl th) := by
  intro pins s σ H Q I h
  refine Subscript_ (thn (he pins s σ H _ I h) fun v s1 ⟨x, H1, I1, r1, q1⟩ => ?_)
  refine wpAny_Slice (thn (hl pins s1 σ H1 _ I1 q1) fun vl s2 ⟨l, H2, I2, pl, q2⟩ => thn (hu pins s2 σ H2 _ I2 q2) fun vu s3 ⟨u, H3, I3, pu, q3⟩ => ?_)
  rw [evalPart_none]
  refine wpAny_pure ?_
  have I4 : Inv X pins σ H3 { s3 with heap := s3.heap.push { cls := .type "slice", data := .fields #[vl, vu, .none] } } := I3.kept (t' := s3.toks) fun b ob q => Heap.get?_push_of_some _ q
  obtain ⟨T, id, hT, ht, hg⟩ := hr pins { s3 with heap := s3.heap.push { cls := .type "slice", data := .fields #[vl, vu, .none] } } σ H3 x v vl vu l u s3.heap.objs.size Q I4 r1 (Heap.IsSliceOf.new ..) pl pu q3
  show wpAny (model X.prog X.w) X.A (subscriptTail e (.Slice lo hi none p2) v (.ref s3.heap.objs.size)) (EP X pins σ Q) X.xe { s3 with heap := s3.heap.push { cls := .type "slice", data := .fields #[vl, vu, .none] } }
  exact tail_any (ops := [.ref s3.heap.objs.size, v]) ht hT hg (by with_unfolding_all rfl)
def cutV (xs : List V) (lo hi : Option Int) : List V := (xs.drop (HT.sIx xs.length 0 lo)).take (HT.sIx xs.length xs.length hi - HT.sIx xs.length 0 lo)
theorem cutV_length (xs : List V) (lo hi : Option Int) : (cutV xs lo hi).length ≤ xs.length := by
  unfold cutV
  rw [List.length_take, List.length_drop]
  omega
def rSlT (K : PySem.W.Frag) : V → Option Int → Option Int → Hp → VK → Prop := fun x lo hi H Q => ∃ a xs, x = .ref a ∧ SqT K H a xs ∧
  ¬ (HT.sIx xs.length 0 lo = 0 ∧ HT.sIx xs.length xs.length hi = xs.length) ∧ ∀ p, H p = none → Q (.ref p) (upd H p (.tup (cutV xs lo hi)))
theorem sl_tup : SlR X (rSlT X.K) := by
  intro pins s σ H x v vl vu lo hi sl Q I rx hs pl pu h
  obtain ⟨a, xs, rfl, hx, hw, q⟩ := h
  cases rx
  obtain ⟨its, r, ht, hz⟩ := I.tuple hx
  have hlen : its.toArray.size = xs.length := by rw [List.size_toArray]; exact r.length.symm
  refine ⟨"tuple", _, PyProof.Rows.slot_tuple_getitem.lookup, ht.typeIs, ?_⟩
  refine HT.getItem_tuple_cut ht hs pl pu (by rw [hlen]; exact hw) ?_ (by rw [hlen]; exact hz)
  rw [hlen]
  refine ⟨.ref s.heap.objs.size, _, I.laid (t' := s.toks) (o := .tup (cutV xs lo hi)) (fun b ob q => Heap.get?_push_of_some _ q) (Nat.le_refl _) ?_, rfl, q _ (I.hok.fresh (Nat.le_refl _))⟩
  exact ⟨Nat.le_trans (cutV_length xs lo hi) hz, _, (r.drop (HT.sIx xs.length 0 lo)).take (HT.sIx xs.length xs.length hi - HT.sIx xs.length 0 lo), IsTup.new _ _⟩
def rCatT (K : PySem.W.Frag) : R2 := fun x y H Q => ∃ a b xs ys, x = .ref a ∧ y = .ref b ∧ SqT K H a xs ∧ SqT K H b ys ∧ xs ≠ [] ∧ xs.length + ys.length ≤ sizeLine ∧
  (ys = [] → Q (.ref a) H) ∧ (ys ≠ [] → ∀ p, H p = none → Q (.ref p) (upd H p (.tup (xs ++ ys))))
theorem Vals.nil_iff {xs : List V} {us : List Value} (r : Vals xs us) : us = [] ↔ xs = [] := by
  cases r with
  | nil => simp
  | cons _ _ => simp
theorem op_catT : OpR X (binaryOp .Add) (rCatT X.K) := by
  intro pins s σ H x y v u Q I rx ry h
  obtain ⟨a, b, xs, ys, rfl, rfl, ha, hb, hx, hz, q1, q2⟩ := h
  cases rx
  cases ry
  obtain ⟨its, r1, p1, _⟩ := I.tuple ha
  obtain ⟨its2, r2, p2, _⟩ := I.tuple hb
  refine HT.cat_tup p1 p2 (fun z => hx (r1.nil_iff.mp z)) (fun z => ⟨.ref a, H, I, rfl, q1 (r2.nil_iff.mp z)⟩) (fun z => ?_) (by rw [← r1.length, ← r2.length]; exact hz)
  refine ⟨.ref s.heap.objs.size, _, I.laid (t' := s.toks) (o := .tup (xs ++ ys)) (fun b ob q => Heap.get?_push_of_some _ q) (Nat.le_refl _) ?_, rfl, q2 (fun w => z (r2.nil_iff.mpr w)) _ (I.hok.fresh (Nat.le_refl _))⟩
  exact ⟨by rw [List.length_append]; exact hz, _, r1.append r2, IsTup.new _ _⟩
end
end L2
namespace L2
open PySem PySem.Spec PyProof.Rows
def ixN (n : Nat) (i : Int) : Option Nat := if 0 ≤ i then (if i < n then some i.toNat else none) else if -(n : Int) ≤ i then some (i + n).toNat else none
def atI {α : Type} (xs : List α) (i : Int) : Option α := (ixN xs.length i).bind fun j => xs[j]?
theorem ixN_seq {n : Nat} {i : Int} {j : Nat} (h : ixN n i = some j) : seqIndex? i n = some j ∧ j < n ∧ -(n : Int) ≤ i ∧ i < n := by
  unfold ixN at h
  by_cases h0 : 0 ≤ i
  · rw [if_pos h0] at h
    by_cases h1 : i < n
    · rw [if_pos h1] at h
      have e : i.toNat = j := Option.some.inj h
      exact ⟨by rw [seqIndex_of h0 h1, e], by omega, by omega, h1⟩
    · rw [if_neg h1] at h; cases h
  · rw [if_neg h0] at h
    by_cases h1 : -(n : Int) ≤ i
    · rw [if_pos h1] at h
      have e : (i + n).toNat = j := Option.some.inj h
      exact ⟨by rw [seqIndex_neg (by omega) h1, e], by omega, h1, by omega⟩
    · rw [if_neg h1] at h; cases h
theorem atI_get {α : Type} {xs : List α} {i : Int} {v : α} (h : atI xs i = some v) : ∃ j, seqIndex? i xs.length = some j ∧ xs[j]? = some v ∧ j < xs.length ∧ -(xs.length : Int) ≤ i ∧ i < xs.length := by
  unfold atI at h
  cases e : ixN xs.length i with
  | none => rw [e] at h; cases h
  | some j =>
    rw [e] at h
    obtain ⟨h1, h2, h3, h4⟩ := ixN_seq e
    exact ⟨j, h1, h, h2, h3, h4⟩
theorem atI_nat {α : Type} {xs : List α} {j : Nat} {v : α} (h : xs[j]? = some v) : atI xs (j : Int) = some v := by
  have hj : j < xs.length := (List.getElem?_eq_some_iff.mp h).1
  have e : ixN xs.length (j : Int) = some j := by
    unfold ixN
    rw [if_pos (by omega), if_pos (by omega)]; simp
  unfold atI; rw [e]; exact h
def PlainIx (b : Expr) : Prop := ∀ o i, subscripted b false o i = operate [o, i] (getItem o i)
def IxR (X : Cx) (r : R2) : Prop :=
  ∀ (value slice : Expr) (pins : List (Addr × Obj)) (s : Shared) (σ : St) (H : Hp) (x y : V) (v u : Value) (Q : VK), Inv X pins σ H s → RelV x v → RelV y u → r x y H Q →
    subscripted slice false v u = operate [v, u] (getItem v u) → wpAny (model X.prog X.w) X.A (subscriptTail value slice v u) (EP X pins σ Q) X.xe s
def MtR (X : Cx) (id : String) (r : V → List V → Hp → VK → Prop) : Prop :=
  ∀ (pins : List (Addr × Obj)) (s : Shared) (σ : St) (H : Hp) (x : V) (xs : List V) (v : Value) (us : List Value) (Q : VK), Inv X pins σ H s → RelV x v → Vals xs us → r x xs H Q →
    wpAny (model X.prog X.w) X.A (call (.builtin id) (v :: us)) (EP X pins σ Q) X.xe s
section
variable {X : Cx} {a b : Expr} {ta tb : TE} {pos : Pos}
theorem IxR.or {r r' : R2} (h : IxR X r) (h' : IxR X r') : IxR X (fun x y H Q => r x y H Q ∨ r' x y H Q) := by
  intro value slice pins s σ H x y v u Q I rx ry q hs
  rcases q with q | q
  · exact h value slice pins s σ H x y v u Q I rx ry q hs
  · exact h' value slice pins s σ H x y v u Q I rx ry q hs
theorem pe_ix {r : R2} (hr : IxR X r) (ha : PE X a ta) (hb : PE X b tb) (hs : PlainIx b) : PE X (.Subscript a b pos) (tOp r ta tb) := by
  intro pins s σ H Q I h
  exact Subscript_ (binT ha hb I h fun v u s2 x y H2 I2 rx ry q => hr a b pins s2 σ H2 x y v u Q I2 rx ry q (hs _ _))
def rIxL (K : PySem.W.Frag) : R2 := fun x y H Q => ∃ p xs i v, x = .ref p ∧ y = .int i ∧ SqL K H p xs ∧ atI xs i = some v ∧ Q v H
def rIxT (K : PySem.W.Frag) : R2 := fun x y H Q => ∃ p xs i v, x = .ref p ∧ y = .int i ∧ SqT K H p xs ∧ atI xs i = some v ∧ Q v H
def rIxS : R2 := fun x y H Q => ∃ z i c, x = .str z ∧ y = .int i ∧ z.length ≤ sizeLine ∧ atI z.cps.toList i = some c ∧ Q (.str ⟨#[c]⟩) H
theorem ix_list : IxR X (rIxL X.K) := by
  intro value slice pins s σ H x y v u Q I rx ry h hs
  obtain ⟨p, xs, i, z, rfl, rfl, hq, he, q⟩ := h
  cases rx
  obtain ⟨t, rfl⟩ := ry
  obtain ⟨its, r, pl, hz⟩ := I.list hq
  obtain ⟨j, h1, h2, h3, h4, h5⟩ := atI_get he
  obtain ⟨w, ew, rw'⟩ := r.get h2
  have hl := r.length
  have hn := line63
  have fin : EP X pins σ Q w s := ⟨z, H, I, rw', q⟩
  by_cases h0 : 0 ≤ i
  · have hj : i.toNat = j := by
      rw [seqIndex_of h0 h5] at h1
      exact Option.some.inj h1
    exact item_listR pl.isList h0 (by omega) (by rw [hj]; simpa using ew) fin hs
  · have hj : (i + (its.toArray.size : Int)).toNat = j := by
      rw [seqIndex_neg (by omega) h4] at h1
      rw [List.size_toArray, ← hl]
      exact Option.some.inj h1
    exact subscriptTail_builtinR (x := w) pl.isList.typeIs slot_list_getitem.lookup
      (wpAny_getItem_list_neg (Q := fun r s' => r = w ∧ EP X pins σ Q r s') pl.isList (by omega) (by rw [List.size_toArray] <;> omega) (by omega) (by rw [hj]; simpa using ew) ⟨rfl, fin⟩) hs
theorem ix_tup : IxR X (rIxT X.K) := by
  intro value slice pins s σ H x y v u Q I rx ry h hs
  obtain ⟨p, xs, i, z, rfl, rfl, hq, he, q⟩ := h
  cases rx
  obtain ⟨t, rfl⟩ := ry
  obtain ⟨its, r, pl, hz⟩ := I.tuple hq
  obtain ⟨j, h1, h2, h3, h4, h5⟩ := atI_get he
  obtain ⟨w, ew, rw'⟩ := r.get h2
  have hl := r.length
  have hn := line63
  have fin : EP X pins σ Q w s := ⟨z, H, I, rw', q⟩
  exact subscriptTail_builtinR (x := w) pl.typeIs slot_tuple_getitem.lookup
    (getItem_tuple (j := j) (Q := fun r s' => r = w ∧ EP X pins σ Q r s') pl (by omega) (by omega) (by rw [List.size_toArray, ← hl]; exact h1) (by simpa using ew) ⟨rfl, fin⟩) hs
theorem ix_str : IxR X rIxS := by
  intro value slice pins s σ H x y v u Q I rx ry h hs
  obtain ⟨z, i, c, rfl, rfl, hz, he, q⟩ := h
  obtain ⟨t, rfl⟩ := rx
  obtain ⟨t', rfl⟩ := ry
  obtain ⟨j, h1, h2, h3, h4, h5⟩ := atI_get he
  have hl : z.cps.toList.length = z.length := by simp [Str.length]
  rw [hl] at h1 h4 h5
  have hn := line63
  exact tail_any (typeIs_str s z t) slot_str_getitem.lookup (getItem_str (c := c) (by
    have e1 : decide (i < -(2 ^ 63 : Int)) = false := decide_eq_false (by omega)
    have e2 : decide (i ≥ 2 ^ 63) = false := decide_eq_false (by omega)
    rw [e1, e2, Bool.or_false]) (by rw [h1]; simpa using h2) ⟨.str ⟨#[c]⟩, H, I.tok _, ⟨_, rfl⟩, q⟩) hs
def rIx (K : PySem.W.Frag) : R2 := fun x y H Q => rIxL K x y H Q ∨ rIxT K x y H Q ∨ rIxS x y H Q
theorem ix_seq : IxR X (rIx X.K) := ix_list.or (ix_tup.or ix_str)
theorem mapSeq_set (its : List Value) (n j : Nat) (u : Value) : Obj.mapSeq (·.setIfInBounds j u) { cls := .type "list", data := .seq its.toArray n } = { cls := .type "list", data := .seq (its.set j u).toArray n } := by
  simp [Obj.mapSeq]
theorem Inv.lst {pins : List (Addr × Obj)} {σ : St} {H : Hp} {s : Shared} {p : Addr} {xs : List V} (I : Inv X pins σ H s) (h : H p = some (.lst xs)) :
    ∃ (its : List Value) (n : Nat), Vals xs its ∧ s.heap.get? p = some { cls := .type "list", data := .seq its.toArray n } ∧ xs.length ≤ sizeLine := by
  obtain ⟨z, its, n, r, e⟩ := I.hok p _ h
  exact ⟨its, n, r, e, z⟩
theorem Inv.lstUpd {pins : List (Addr × Obj)} {σ : St} {H : Hp} {s : Shared} {p : Addr} {xs ys : List V} {its its' : List Value} {n n' : Nat} {f : Obj → Obj} (I : Inv X pins σ H s) (h : H p = some (.lst xs))
    (ho : s.heap.get? p = some { cls := .type "list", data := .seq its.toArray n }) (hf : f { cls := .type "list", data := .seq its.toArray n } = { cls := .type "list", data := .seq its'.toArray n' }) (r : Vals ys its') (hz : ys.length ≤ sizeLine) (t : Nat) :
    Inv X pins σ (upd H p (.lst ys)) { s with heap := s.heap.update p f, toks := t } := by
  have e : (s.heap.update p f).get? p = some { cls := .type "list", data := .seq its'.toArray n' } := by
    rw [Heap.get?_update_self f ho (by rw [hf] <;> rfl), hf]
  refine I.write (x := p) (e := p) (by rw [h]; trivial) (.inl rfl) (fun b u hb q => (Heap.get?_update_other _ _ (Ne.symm hb)).trans q) ⟨_, e⟩ ?_
  exact ⟨hz, its', n', r, e⟩
def rSetL : V → V → V → Hp → (Hp → Prop) → Prop := fun o i v H Q => ∃ p xs k j, o = .ref p ∧ i = .int k ∧ H p = some (.lst xs) ∧ ixN xs.length k = some j ∧ Q (upd H p (.lst (xs.set j v)))
theorem set_list : PSet X rSetL := by
  intro pins s σ H o i v ov iv u Q I ro ri rv h
  obtain ⟨p, xs, k, j, rfl, rfl, hp, hj, q⟩ := h
  cases ro
  obtain ⟨t, rfl⟩ := ri
  obtain ⟨its, n, r, ho, hz⟩ := I.lst hp
  obtain ⟨h1, h2, h3, h4⟩ := ixN_seq hj
  have hl := r.length
  have hn := line63
  have I' : Inv X pins σ (upd H p (.lst (xs.set j v))) { s with heap := s.heap.update p (Obj.mapSeq (·.setIfInBounds j u)) } :=
    I.lstUpd hp ho (mapSeq_set its n j u) (r.set rv j) (by rw [List.length_set]; exact hz) s.toks
  by_cases h0 : 0 ≤ k
  · have hk : k.toNat = j := by
      rw [seqIndex_of h0 h4] at h1
      exact Option.some.inj h1
    exact PySem.W.ki_setAt ho h0 (by omega) (by rw [List.size_toArray, ← hl]; exact h4) (by rw [hk]; exact ⟨_, I', q⟩)
  · have hk : (k + (its.toArray.size : Int)).toNat = j := by
      rw [seqIndex_neg (by omega) h3] at h1
      rw [List.size_toArray, ← hl]
      exact Option.some.inj h1
    exact PySem.W.ki_setBack ho (by omega) (by rw [List.size_toArray, ← hl]; exact h3) (by omega) (by rw [hk]; exact ⟨_, I', q⟩)
theorem slice_bounds (lo hi : Option Int) (n : Nat) : (sliceBounds lo hi none n).1 = ((HT.sIx n 0 lo : Nat) : Int) ∧ (sliceBounds lo hi none n).2.1 = ((HT.sIx n n hi : Nat) : Int) ∧ (sliceBounds lo hi none n).2.2 = 1 := by
  refine ⟨?_, ?_, rfl⟩
  · cases lo with
    | none => simp [sliceBounds, HT.sIx]
    | some i =>
      simp only [sliceBounds, HT.sIx, Option.getD_none, show (1 : Int) > 0 by decide, if_true]
      by_cases h : i < 0
      · simp only [h, if_true] <;> omega
      · simp only [h, if_false] <;> omega
  · cases hi with
    | none => simp [sliceBounds, HT.sIx]
    | some i =>
      simp only [sliceBounds, HT.sIx, Option.getD_none, show (1 : Int) > 0 by decide, if_true]
      by_cases h : i < 0
      · simp only [h, if_true] <;> omega
      · simp only [h, if_false] <;> omega
theorem slicePick_cut (its : List Value) (lo hi : Option Int) : slicePick its.toArray lo hi none = ((its.drop (HT.sIx its.length 0 lo)).take (HT.sIx its.length its.length hi - HT.sIx its.length 0 lo)).toArray := by
  obtain ⟨h1, h2, h3⟩ := slice_bounds lo hi its.toArray.size
  unfold slicePick
  rw [h1, h2, h3]
  simp only [sliceRange_one, pick_run, List.size_toArray] <;> rfl
def rSlL (K : PySem.W.Frag) : V → Option Int → Option Int → Hp → VK → Prop := fun x lo hi H Q => ∃ a xs, x = .ref a ∧ SqL K H a xs ∧ ∀ p, H p = none → Q (.ref p) (upd H p (.lst (cutV xs lo hi)))
theorem sl_list : SlR X (rSlL X.K) := by
  intro pins s σ H x v vl vu lo hi sl Q I rx hs pl pu h
  obtain ⟨a, xs, rfl, hx, q⟩ := h
  cases rx
  obtain ⟨its, r, ht, hz⟩ := I.list hx
  have hlen := r.length
  refine ⟨"list", _, slot_list_getitem.lookup, ht.isList.typeIs, ?_⟩
  refine wpAny_getItem_list_slice ht.isList hs pl pu .none (by simp) ?_ (by rw [List.size_toArray] <;> omega)
  rw [slicePick_cut, ← hlen]
  refine ⟨.ref s.heap.objs.size, _, I.laid (t' := s.toks) (o := .lst (cutV xs lo hi)) (fun b ob q => Heap.get?_push_of_some _ q) (Nat.le_refl _) ?_, rfl, q _ (I.hok.fresh (Nat.le_refl _))⟩
  exact ⟨Nat.le_trans (cutV_length xs lo hi) hz, _, 0, (r.drop (HT.sIx xs.length 0 lo)).take (HT.sIx xs.length xs.length hi - HT.sIx xs.length 0 lo), Heap.get?_push_size _ rfl⟩
def flatV : V → Bool
  | .non => true
  | .bl _ => true
  | .int _ => true
  | .str _ => true
  | _ => false
def eqV : V → V → Bool
  | .non, .non => true
  | .bl a, .bl b => a == b
  | .bl a, .int b => (if a then 1 else 0) == b
  | .int a, .bl b => a == (if b then 1 else 0)
  | .int a, .int b => a == b
  | .str a, .str b => a == b
  | _, _ => false
theorem eqAt_V {A : Around} {s : Shared} {y x : V} {u v : Value} (ry : RelV y u) (rx : RelV x v) (fy : flatV y = true) (fx : flatV x = true) : SeqAt.EqAt A s u v (eqV y x) := by
  cases y with
  | non =>
    cases ry
    cases x with
    | non => cases rx; exact SeqAt.EqAt.same _
    | bl b => cases rx; exact SeqAt.EqAt.none_bool b
    | int b => obtain ⟨t, rfl⟩ := rx; exact SeqAt.EqAt.none_int b t
    | str b => obtain ⟨t, rfl⟩ := rx; exact SeqAt.EqAt.none_str b t
    | _ => exact absurd (show false = true from fx) Bool.false_ne_true
  | bl a =>
    cases ry
    cases x with
    | non => cases rx; exact SeqAt.EqAt.bool_none a
    | bl b => cases rx; exact SeqAt.EqAt.bool_bool a b
    | int b => obtain ⟨t, rfl⟩ := rx; exact SeqAt.EqAt.bool_int a b t
    | str b => obtain ⟨t, rfl⟩ := rx; exact SeqAt.EqAt.bool_str a b t
    | _ => exact absurd (show false = true from fx) Bool.false_ne_true
  | int a =>
    obtain ⟨t', rfl⟩ := ry
    cases x with
    | non => cases rx; exact SeqAt.EqAt.int_none a t'
    | bl b => cases rx; exact SeqAt.EqAt.int_bool a t' b
    | int b => obtain ⟨t, rfl⟩ := rx; exact SeqAt.EqAt.int_int a t' b t
    | str b => obtain ⟨t, rfl⟩ := rx; exact SeqAt.EqAt.int_str a t' b t
    | _ => exact absurd (show false = true from fx) Bool.false_ne_true
  | str a =>
    obtain ⟨t', rfl⟩ := ry
    cases x with
    | non => cases rx; exact SeqAt.EqAt.str_none a t'
    | bl b => cases rx; exact SeqAt.EqAt.str_bool a t' b
    | int b => obtain ⟨t, rfl⟩ := rx; exact SeqAt.EqAt.str_int a t' b t
    | str b => obtain ⟨t, rfl⟩ := rx; exact SeqAt.EqAt.str_str a t' b t
    | _ => exact absurd (show false = true from fx) Bool.false_ne_true
  | _ => exact absurd (show false = true from fy) Bool.false_ne_true
def eqU (x : V) (u : Value) : Bool := match u with
  | .none => eqV .non x
  | .bool b => eqV (.bl b) x
  | .int i _ => eqV (.int i) x
  | .str z _ => eqV (.str z) x
  | _ => false
theorem eqU_of {x y : V} {u : Value} (r : RelV y u) (f : flatV y = true) : eqU x u = eqV y x := by
  cases y with
  | non => cases r; rfl
  | bl b => cases r; rfl
  | int i => obtain ⟨t, rfl⟩ := r; rfl
  | str z => obtain ⟨t, rfl⟩ := r; rfl
  | _ => exact absurd (show false = true from f) Bool.false_ne_true
theorem any_eqU {x : V} : ∀ {xs : List V} {us : List Value}, Vals xs us → xs.all flatV = true → us.any (eqU x) = xs.any fun y => eqV y x
  | _, _, .nil, _ => rfl
  | y :: xs, u :: us, .cons r t, f => by
    rw [List.all_cons, Bool.and_eq_true] at f
    rw [List.any_cons, List.any_cons, eqU_of r f.1, any_eqU t f.2]
theorem mem_eqAt {A : Around} {s : Shared} {x : V} {v : Value} (rx : RelV x v) (fx : flatV x = true) : ∀ {xs : List V} {us : List Value}, Vals xs us → xs.all flatV = true → ∀ u ∈ us, SeqAt.EqAt A s u v (eqU x u)
  | _, _, .nil, _ => fun u hu => by cases hu
  | y :: xs, u :: us, .cons r t, f => fun u' hu => by
    rw [List.all_cons, Bool.and_eq_true] at f
    rcases List.mem_cons.mp hu with rfl | hu
    · rw [eqU_of r f.1]; exact eqAt_V r rx f.1 fx
    · exact mem_eqAt rx fx t f.2 u' hu
def inV (x : V) (xs : List V) : Bool := xs.any fun y => eqV y x
def rIn (K : PySem.W.Frag) (neg : Bool) : R2 := fun x y H Q => ∃ p xs, y = .ref p ∧ (SqL K H p xs ∨ SqT K H p xs) ∧ flatV x = true ∧ xs.all flatV = true ∧ Q (.bl (if neg then !inV x xs else inV x xs)) H
theorem op_in_seq : OpR X (compareOp .In) (rIn X.K false) := by
  intro pins s σ H x y v u Q I rx ry h
  obtain ⟨p, xs, rfl, hq, fx, fs, q⟩ := h
  cases ry
  rcases hq with hq | hq
  · obtain ⟨its, r, pl, hz⟩ := I.list hq
    refine SeqAt.in_listAt (eqU x) pl.isList (fun w hw => mem_eqAt rx fx r fs w (by simpa using hw)) ⟨.bl _, H, I, rfl, ?_⟩
    rw [show its.toArray.any (eqU x) = its.any (eqU x) by simp, any_eqU r fs]
    exact q
  · obtain ⟨its, r, pl, hz⟩ := I.tuple hq
    refine SeqAt.in_tupleAt (eqU x) pl (fun w hw => mem_eqAt rx fx r fs w (by simpa using hw)) ⟨.bl _, H, I, rfl, ?_⟩
    rw [show its.toArray.any (eqU x) = its.any (eqU x) by simp, any_eqU r fs]
    exact q
theorem call_len_seq : CallR X (.builtin "len") (fun xs H Q => ∃ p ys, xs = [.ref p] ∧ (SqL X.K H p ys ∨ SqT X.K H p ys) ∧ Q (.int ys.length) H) := by
  intro pins s σ H xs us Q I r h
  obtain ⟨p, ys, rfl, hq, q⟩ := h
  obtain ⟨u, rfl, rx⟩ := vals1 r
  cases rx
  have hn := line63
  rcases hq with hq | hq
  · obtain ⟨its, r', pl, hz⟩ := I.list hq
    have hlen := r'.length
    exact Calls.call_len_list pl.isList (by simp only [List.size_toArray] <;> omega) ⟨.int ys.length, H, I.tok _, ⟨s.toks + 1, by rw [List.size_toArray, hlen]⟩, q⟩
  · obtain ⟨its, r', pl, hz⟩ := I.tuple hq
    have hlen := r'.length
    exact len_tuple pl (by simp only [List.size_toArray] <;> omega) ⟨.int ys.length, H, I.tok _, ⟨s.toks + 1, by rw [List.size_toArray, hlen]⟩, q⟩
theorem call_len_str : CallR X (.builtin "len") (fun xs H Q => ∃ z, xs = [.str z] ∧ z.length ≤ sizeLine ∧ Q (.int z.length) H) := by
  intro pins s σ H xs us Q I r h
  obtain ⟨z, rfl, hz, q⟩ := h
  obtain ⟨u, rfl, t, rfl⟩ := vals1 r
  have hn := line63
  exact len_str (by omega) ⟨.int z.length, H, I.tok _, ⟨_, rfl⟩, q⟩
theorem CallR.or {f : Value} {r r' : List V → Hp → VK → Prop} (h : CallR X f r) (h' : CallR X f r') : CallR X f (fun xs H Q => r xs H Q ∨ r' xs H Q) := by
  intro pins s σ H xs us Q I rs q
  rcases q with q | q
  · exact h pins s σ H xs us Q I rs q
  · exact h' pins s σ H xs us Q I rs q
theorem call_list_of : CallR X (.type "list") (fun xs H Q => ∃ p ys, xs = [.ref p] ∧ (SqL X.K H p ys ∨ SqT X.K H p ys) ∧ ∀ l, H l = none → Q (.ref l) (upd H l (.lst ys))) := by
  intro pins s σ H xs us Q I r h
  obtain ⟨p, ys, rfl, hq, q⟩ := h
  obtain ⟨u, rfl, rx⟩ := vals1 r
  cases rx
  have fin : ∀ (its : List Value), Vals ys its → ys.length ≤ sizeLine → ∀ (h' : Heap) (c' : Nat), (∀ b o', s.heap.get? b = some o' → h'.get? b = some o') →
      h'.get? s.heap.objs.size = some { cls := .type "list", dict := none, data := .seq its.toArray c', slots := #[] } → EP X pins σ Q (.ref s.heap.objs.size) { s with heap := h' } := fun its r' hz h' c' kp e =>
    ⟨.ref s.heap.objs.size, _, I.laid (t' := s.toks) kp (Nat.le_refl _) (show ObjOk X.prog X.w _ h' _ (.lst ys) from ⟨hz, its, c', r', e⟩), rfl, q _ (I.hok.fresh (Nat.le_refl _))⟩
  rcases hq with hq | hq
  · obtain ⟨its, r', pl, hz⟩ := I.list hq
    have hlen := r'.length
    obtain ⟨o, ho, hc, n, hd⟩ := pl.isList
    exact call_list_seq p (.inl rfl) ho hc hd (fun h' c' kp e => fin its r' hz h' c' kp e) (by simp only [List.size_toArray] <;> omega)
  · obtain ⟨its, r', pl, hz⟩ := I.tuple hq
    have hlen := r'.length
    obtain ⟨o, ho, hc, n, hd⟩ := pl
    exact call_list_seq p (.inr rfl) ho hc hd (fun h' c' kp e => fin its r' hz h' c' kp e) (by simp only [List.size_toArray] <;> omega)
theorem call_tuple_of : CallR X (.type "tuple") (fun xs H Q => ∃ p ys, xs = [.ref p] ∧ ((SqL X.K H p ys ∧ ∀ l, H l = none → Q (.ref l) (upd H l (.tup ys))) ∨ (SqT X.K H p ys ∧ Q (.ref p) H))) := by
  intro pins s σ H xs us Q I r h
  obtain ⟨p, ys, rfl, h⟩ := h
  obtain ⟨u, rfl, rx⟩ := vals1 r
  cases rx
  rcases h with ⟨hq, q⟩ | ⟨hq, q⟩
  · obtain ⟨its, r', pl, hz⟩ := I.list hq
    have hlen := r'.length
    refine call_tuple_list pl.isList (fun h' kp => ?_) (by simp only [List.size_toArray] <;> omega)
    have I1 : Inv X pins σ H { s with heap := h' } := I.kept (t' := s.toks) kp
    have I2 : Inv X pins σ (upd H h'.objs.size (.tup ys)) { s with heap := h'.push { cls := .type "tuple", data := .seq its.toArray } } :=
      I1.laid (t' := s.toks) (fun b o e => Heap.get?_push_of_some _ e) (Nat.le_refl _) (show ObjOk X.prog X.w _ _ _ (.tup ys) from ⟨hz, its, r', IsTup.new _ _⟩)
    exact ⟨.ref h'.objs.size, _, I2, rfl, q _ (I1.hok.fresh (Nat.le_refl _))⟩
  · obtain ⟨its, r', pl, hz⟩ := I.tuple hq
    exact call_tuple_same pl ⟨.ref p, H, I, rfl, q⟩
def tyV (K : PySem.W.Frag) (T : String) (x : V) (H : Hp) : Prop := match x with
  | .str _ => T = "str"
  | .int _ => T = "int"
  | .ref p => (T = "list" ∧ ∃ xs, SqL K H p xs) ∨ (T = "tuple" ∧ ∃ o, K.lookup p = some o ∧ o.cls = .type "tuple" ∧ o.dict = none) ∨
      (T = "dict" ∧ ((∃ kvs, H p = some (.dK kvs)) ∨ ∃ kvs, H p = some (.dT kvs))) ∨ (T = "set" ∧ ∃ S n, H p = some (.set S n))
  | _ => False
theorem tyV_is {pins : List (Addr × Obj)} {σ : St} {H : Hp} {s : Shared} {T : String} {x : V} {v : Value} (I : Inv X pins σ H s) (r : RelV x v) (ty : tyV X.K T x H) :
    s.TypeIs v T ∧ ∀ a, v = .ref a → ∃ ob, s.heap.get? a = some ob ∧ ob.dict = none := by
  cases x with
  | str z =>
    obtain ⟨t, rfl⟩ := r
    cases (show T = "str" from ty)
    exact ⟨typeIs_str s z t, fun _ e => nomatch e⟩
  | int i =>
    obtain ⟨t, rfl⟩ := r
    cases (show T = "int" from ty)
    exact ⟨typeIs_int s i t, fun _ e => nomatch e⟩
  | ref p =>
    cases r
    rcases ty with ⟨rfl, xs, hq⟩ | ⟨rfl, o, hk, hc, hd⟩ | ⟨rfl, hk⟩ | ⟨rfl, S, n, hk⟩
    · obtain ⟨its, _, pl, _⟩ := I.list hq
      refine ⟨pl.isList.typeIs, fun a e => ?_⟩
      cases e
      obtain ⟨o, n, e, c, hd, _⟩ := pl
      exact ⟨o, e, hd⟩
    · refine ⟨⟨o, I.kIn p o hk, hc⟩, fun a e => ?_⟩
      cases e
      exact ⟨o, I.kIn _ o hk, hd⟩
    · have z : ∃ o, s.heap.get? p = some o ∧ o.ExactDict := by
        rcases hk with ⟨kvs, hk⟩ | ⟨kvs, hk⟩
        · obtain ⟨_, _, _, _, o, _, _, e, ex, _⟩ := I.hok p _ hk
          exact ⟨o, e, ex⟩
        · obtain ⟨_, _, _, _, o, _, _, e, ex, _⟩ := I.hok p _ hk
          exact ⟨o, e, ex⟩
      obtain ⟨o, e, ex⟩ := z
      refine ⟨⟨o, e, ex.1⟩, fun a e2 => ?_⟩
      cases e2
      exact ⟨o, e, ex.2.1⟩
    · obtain ⟨o, _, _, _, e, ex, _⟩ := I.hok p _ hk
      refine ⟨⟨o, e, ex.1⟩, fun a e2 => ?_⟩
      cases e2
      exact ⟨o, e, ex.2.1⟩
  | _ => exact False.elim ty
def tBM (K : PySem.W.Frag) (T : String) (r : V → List V → Hp → VK → Prop) (to : TE) (t : TA) : TE := fun σ H Q => to σ H fun x H1 => tyV K T x H1 ∧ t σ H1 fun xs H2 => r x xs H2 Q
variable {o e : Expr} {es : List Expr} {to : TE} {t : TA} {name : Str} {apos cpos : Pos} {T id : String} {r : V → List V → Hp → VK → Prop}
theorem pe_bm (pa : PlainAttrs T) (slot : Slot T name id) (hty : typeOf (.builtin id) = pure (.type "method_descriptor")) (hm : MtR X id r) (ho : PE X o to) (ha : PA X (e :: es) t)
    (hbase : attributeBase o name X.env (eval o X.env) = eval o X.env := by rfl)
    (hfew : ((backTo cpos (starEach (e :: es) X.env)).all (fun x => !x.1) && (backToKw cpos (keywordEach [] X.env)).all (fun x => x.1.isSome)
      && decide ((e :: es).length + ([] : List Keyword).length + (if ([] : List Keyword).isEmpty then 0 else 1) < 30)) = true := by rfl)
    (hline : (apos.endLine == cpos.line) = true := by rfl) (hs : starEach (e :: es) X.env = (false, eval e X.env) :: starEach es X.env := by rfl) (hplain : (backTo cpos (starEach es X.env)).any (·.1) = false := by rfl) :
    PE X (.Call (.Attribute o name apos) (e :: es) [] cpos) (tBM X.K T r to t) := by
  intro pins s σ H Q I h
  refine wpAny_Call_method_late hbase hfew hline rfl (thn (ho pins s σ H _ I h) fun v s1 ⟨x, H1, I1, r1, ty, q1⟩ => ?_)
  obtain ⟨h1, h2⟩ := tyV_is I1 r1 ty
  refine ⟨T, id, pa, slot, hty, h1, h2, ?_⟩
  have hA := ha cpos pins s1 σ H1 _ I1 q1
  rw [hs] at hA ⊢
  refine Calls.callWith_builtin (by show (false || (backTo cpos (starEach es X.env)).any (·.1)) = false; rw [hplain] <;> rfl) (Calls.evalArgs_plain ?_)
  exact thn hA fun us s2 ⟨vs, H2, I2, r2, q2⟩ => hm pins s2 σ H2 x vs v us Q I2 r1 r2 q2
/- xs.append(e), list.index on a module's tuple .. are MtR facts of 06m -/
end
end L2
namespace L2
open PySem PySem.Spec PyProof.Rows
def MtM (X : Cx) (id : String) (r : V → List V → Hp → VK → Prop) : Prop :=
  ∀ (pins : List (Addr × Obj)) (s : Shared) (σ : St) (H : Hp) (x : V) (xs : List V) (v : Value) (us : List Value) (Q : VK), Inv X pins σ H s → RelV x v → Vals xs us → r x xs H Q →
    wpAny (model X.prog X.w) X.A (call (.builtin id) (v :: us)) (EP X pins σ Q) X.xe s
theorem Vals.one : ∀ {x : V} {us : List Value}, Vals [x] us → ∃ u, us = [u] ∧ RelV x u
  | _, _, .cons r .nil => ⟨_, rfl, r⟩
theorem Vals.rep {xs : List V} {us : List Value} (h : Vals xs us) : ∀ k : Nat, Vals (List.replicate k xs).flatten (List.replicate k us).flatten
  | 0 => .nil
  | k + 1 => by
    rw [List.replicate_succ, List.replicate_succ, List.flatten_cons, List.flatten_cons]
    exact Vals.append h (Vals.rep h k)
theorem foldl_rep (its : List Value) : ∀ (k : Nat) (acc : List Value),
    List.foldl (fun x1 x2 => x1 ++ x2) acc.toArray (List.replicate k its.toArray) = (acc ++ (List.replicate k its).flatten).toArray
  | 0, acc => by simp
  | k + 1, acc => by
    have e : acc.toArray ++ its.toArray = (acc ++ its).toArray := by simp
    have e2 : (acc ++ its) ++ (List.replicate k its).flatten = acc ++ (List.replicate (k + 1) its).flatten := by
      rw [List.replicate_succ, List.flatten_cons, List.append_assoc]
    rw [← e2, ← foldl_rep its k (acc ++ its), ← e, List.replicate_succ, List.foldl_cons]
section
variable {X : Cx} {pins : List (Addr × Obj)} {σ : St} {H : Hp} {s : Shared} {l b : Addr} {xs ys zs : List V}
theorem Inv.lset {its its' : List Value} {n : Nat} {f : Array Value → Array Value} {t' : Nat} (I : Inv X pins σ H s) (hH : H l = some (.lst xs))
    (e : s.heap.get? l = some { cls := .type "list", data := .seq its.toArray n }) (hf : f its.toArray = its'.toArray) (hv : Vals ys its') (hz : ys.length ≤ sizeLine) :
    Inv X pins σ (upd H l (.lst ys)) { s with heap := s.heap.update l (Obj.mapSeq f), toks := t' } := by
  have q := PySem.IsL.update e f
  rw [hf] at q
  refine I.write (x := l) (e := l) (by rw [hH]; exact trivial) (.inl rfl) (fun b' u hb hu => (Heap.get?_update_other s.heap (Obj.mapSeq f) (Ne.symm hb)).trans hu) ⟨_, q⟩ ?_
  exact ⟨hz, its', _, hv, q⟩
theorem Inv.lnew {its : List Value} {t' : Nat} (I : Inv X pins σ H s) (hv : Vals ys its) (hz : ys.length ≤ sizeLine) :
    Inv X pins σ (upd H s.heap.objs.size (.lst ys)) { s with heap := s.heap.push { cls := .type "list", data := .seq its.toArray }, toks := t' } :=
  I.laid (fun _ _ q => Heap.get?_push_of_some _ q) (Nat.le_refl _) ⟨hz, its, 0, hv, Heap.get?_push_size _ rfl⟩
theorem Inv.fresh (I : Inv X pins σ H s) : H s.heap.objs.size = none := I.hok.fresh (Nat.le_refl _)
theorem Inv.lstM (I : Inv X pins σ H s) (hH : H l = some (.lst xs)) : xs.length ≤ sizeLine ∧ ∃ (its : List Value) (n : Nat), Vals xs its ∧ xs.length = its.length ∧ s.heap.get? l = some { cls := .type "list", data := .seq its.toArray n } := by
  obtain ⟨z, its, n, r, e⟩ := I.hok l _ hH
  exact ⟨z, its, n, r, r.length, e⟩
theorem notLongL {n : Nat} (h : n ≤ sizeLine) : Builtin.List.listTooLong n = false := by
  unfold Builtin.List.listTooLong
  exact decide_eq_false (by omega)
end
section
variable {X : Cx}
def rAppend : V → List V → Hp → VK → Prop := fun x vs H Q => ∃ l xs y, x = .ref l ∧ vs = [y] ∧ H l = some (.lst xs) ∧ xs.length < sizeLine ∧ Q .non (upd H l (.lst (xs ++ [y])))
theorem mt_append : MtM X "list.append" rAppend := by
  intro pins s σ H x vs v us Q I rx rv h
  obtain ⟨l, xs, y, rfl, rfl, hH, hz, q⟩ := h
  cases rx
  obtain ⟨u, rfl, ru⟩ := rv.one
  obtain ⟨z, its, n, r, hl, e⟩ := I.lstM hH
  refine call_meets F.slot_list_append ⟨_, e, rfl⟩ F.entry_list_append (F.args_list_append_2 _ _) (PySem.list_append l its.toArray n u (by rw [List.size_toArray]; omega)) ⟨e, ?_⟩
  refine ⟨.non, _, I.lset (its' := its ++ [u]) hH e (by simp) (r.append (.cons ru .nil)) ?_, rfl, q⟩
  rw [List.length_append, List.length_singleton]
  omega
def rExtend : V → List V → Hp → VK → Prop := fun x vs H Q => ∃ l b xs zs, x = .ref l ∧ vs = [.ref b] ∧ H l = some (.lst xs) ∧ H b = some (.lst zs) ∧ xs.length + zs.length ≤ sizeLine ∧ Q .non (upd H l (.lst (xs ++ zs)))
theorem mt_extend : MtM X "list.extend" rExtend := by
  intro pins s σ H x vs v us Q I rx rv h
  obtain ⟨l, b, xs, zs, rfl, rfl, hH, hB, hz, q⟩ := h
  cases rx
  obtain ⟨u, rfl, ru⟩ := rv.one
  cases ru
  obtain ⟨z, its, n, r, hl, e⟩ := I.lstM hH
  obtain ⟨z2, its2, n2, r2, hl2, e2⟩ := I.lstM hB
  have hsz : its.toArray.size + its2.toArray.size ≤ sizeLine := by rw [List.size_toArray, List.size_toArray]; omega
  have hlong : ¬ (!its.toArray.isEmpty && Builtin.List.listTooLong (its.toArray.size + its2.toArray.size)) = true := by
    rw [notLongL hsz, Bool.and_false]
    exact Bool.false_ne_true
  refine call_meets F.slot_list_extend ⟨_, e, rfl⟩ F.entry_list_extend (F.args_list_extend_2 _ _)
    (AutoSeq1.list_extend_list_list_0 l its.toArray n b its2.toArray n2 hlong (by rw [List.size_toArray]; omega) (by omega)) ⟨e, e2, ?_⟩
  refine ⟨.non, _, I.lset (its' := its ++ its2) hH e (by simp) (r.append r2) ?_, rfl, q⟩
  rw [List.length_append]
  omega
def rCat : R2 := fun x y H Q => ∃ l b xs zs, x = .ref l ∧ y = .ref b ∧ H l = some (.lst xs) ∧ H b = some (.lst zs) ∧ xs.length + zs.length ≤ sizeLine ∧ ∀ p, H p = none → Q (.ref p) (upd H p (.lst (xs ++ zs)))
theorem op_cat : OpR X (binaryOp .Add) rCat := by
  intro pins s σ H x y v u Q I rx ry h
  obtain ⟨l, b, xs, zs, rfl, rfl, hH, hB, hz, q⟩ := h
  cases rx
  cases ry
  obtain ⟨z, its, n, r, hl, e⟩ := I.lstM hH
  obtain ⟨z2, its2, n2, r2, hl2, e2⟩ := I.lstM hB
  refine PySem.P.add_list e e2 ?_ (by rw [List.size_toArray, List.size_toArray]; omega)
  have ea : its.toArray ++ its2.toArray = (its ++ its2).toArray := by simp
  rw [ea]
  exact ⟨.ref _, _, I.lnew (t' := s.toks) (r.append r2) (by rw [List.length_append]; omega), rfl, q _ I.fresh⟩
def rRep : R2 := fun x y H Q => ∃ l k xs, x = .ref l ∧ y = .int k ∧ H l = some (.lst xs) ∧ -(2 ^ 63) ≤ k ∧ k < 2 ^ 63 ∧ xs.length * k.toNat ≤ sizeLine ∧
  ∀ p, H p = none → Q (.ref p) (upd H p (.lst (List.replicate k.toNat xs).flatten))
theorem len_rep {α : Type} (xs : List α) (k : Nat) : (List.replicate k xs).flatten.length = k * xs.length := by
  induction k with
  | zero => simp
  | succ k ih => rw [List.replicate_succ, List.flatten_cons, List.length_append, ih, Nat.succ_mul, Nat.add_comm]
theorem op_rep : OpR X (binaryOp .Mult) rRep := by
  intro pins s σ H x y v u Q I rx ry h
  obtain ⟨l, k, xs, rfl, rfl, hH, h1, h2, hz, q⟩ := h
  cases rx
  obtain ⟨t, rfl⟩ := ry
  obtain ⟨z, its, n, r, hl, e⟩ := I.lstM hH
  have hlen : its.toArray.size * k.toNat ≤ sizeLine := by rw [List.size_toArray, ← hl]; exact hz
  have hcap : ¬ its.toArray.size * k.toNat > (2 ^ 63 - 1) / 8 := by
    have : (sizeLine : Nat) ≤ (2 ^ 63 - 1) / 8 := by decide
    omega
  have hfit : ¬ (!Builtin.List.listFitsIndex k) = true := by
    rw [fitsIndex_both h1 h2]
    exact Bool.false_ne_true
  have hlong : ¬ Builtin.List.listTooLong (its.toArray.size * k.toNat) = true := by
    rw [notLongL hlen]
    exact Bool.false_ne_true
  have hnew : List.foldl (fun x1 x2 => x1 ++ x2) #[] (List.replicate (if its.toArray.isEmpty = true then 0 else k.toNat) its.toArray) = (List.replicate k.toNat its).flatten.toArray := by
    have f0 : ∀ m : Nat, List.foldl (fun x1 x2 => x1 ++ x2) #[] (List.replicate m its.toArray) = (List.replicate m its).flatten.toArray := fun m => by
      have := foldl_rep its m []
      rw [List.nil_append] at this
      exact this
    rw [f0]
    cases its with
    | nil => simp
    | cons a r' => rw [if_neg (by simp)]
  refine wpAny_binaryOp_repeat_ref (T := "list") (U := "int") (by decide) ⟨_, e, rfl⟩ (fun s' => typeIs_int s' k t) noFill_list_mul F.fills_int_mul F.slot_int_rmul repeat_list F.slot_int_index.lookup
    (call_meets F.slot_int_rmul (typeIs_int s k t) F.entry_int_rmul (F.args_int_rmul_2 _ _) (int___rmul___int_list k t l its.toArray n)
      ⟨e, rfl, ⟨_, e, rfl⟩, call_meets F.slot_list_mul ⟨_, e, rfl⟩ F.entry_list_mul (F.args_list_mul_2 _ _) (AutoListH.list___mul___list_int_3 l its.toArray n k t hfit hcap hlong) ⟨e, ?_⟩⟩)
  rw [hnew]
  exact ⟨.ref _, _, I.lnew (t' := s.toks) (r.rep k.toNat) (by rw [len_rep, Nat.mul_comm]; exact hz), rfl, q _ I.fresh⟩
end
section
variable {prog : Program} {w : World} {A : Around} {E : Value → Shared → Prop} {s : Shared}
set_option maxRecDepth 100000 in
end
section
variable {X : Cx}
end
end L2
namespace Att
open PySem PySem.W PySem.Calls PyProof.Rows
theorem ints_of_wellAll {P : Params} {h : Heap} : ∀ (ns : List Int) (vs : List Value), WellAll P h vs (ns.map WData.int) → IntsAre vs ns := by
  intro ns
  induction ns with
  | nil =>
    intro vs w
    rw [List.map_nil] at w
    cases w
    exact .nil
  | cons n ns ih =>
    intro vs w
    rw [List.map_cons] at w
    cases w with
    | cons a b =>
      cases a
      exact .cons _ _ (ih _ b)
theorem script_of {l : OpenLaw} {n : Nat} (hn : l.most = some n) {P : Params} {h : Heap} {args : List WData} {vals : List Value}
    (hpre : l.row.toRowW.claim.pre args = true) (hwl : WellAll P h vals args) :
    ∃ a vs ns, vals = [Value.ref a] ∧ args = [WData.list (ns.map WData.int)] ∧ h.get? a = some { cls := .type "list", data := .seq vs.toArray } ∧ IntsAre vs ns ∧ ns.length ≤ n := by
  have hsh : WShape.hasAll [] args [.list .int] = true := (pre_splitW hpre).1
  have hc : l.pre.holds [] { args := args } = true := (pre_splitW hpre).2
  obtain ⟨d, r, rfl, h1, h2⟩ := hasAllW_cons hsh
  obtain rfl := hasAllW_nil h2
  obtain ⟨xs, rfl, h3⟩ := hasW_list h1
  obtain ⟨ns, rfl⟩ := items_int h3
  have hlen : ns.length ≤ n := by
    unfold OpenLaw.pre at hc
    have h4 : (WTm.not (.lt (.lit (.int (n : Int))) (.len (.arg 0)))).holds [] { args := [.list (ns.map .int)] } = true := by
      have h4 := (holds_andW hc).1
      rw [hn] at h4
      exact h4
    have h5 := condW_of h4 (w_not (w_lt w_lit (w_len_list (w_arg rfl))))
    rw [List.length_map] at h5
    refine Nat.le_of_not_lt fun q => ?_
    have q' : (n : Int) < ((ns.length : Nat) : Int) := by omega
    first
      | (rw [decide_eq_true q'] at h5; exact absurd h5 (by decide))
      | (simp at h5; omega)
  cases hwl with
  | cons w1 w2 =>
    cases w2
    cases w1 with
    | list ho hall => exact ⟨_, _, ns, rfl, rfl, ho, ints_of_wellAll ns _ hall, hlen⟩
theorem post_true (l : OpenLaw) (args : List WData) : l.row.toRowW.claim.post args (.bool true) args = true :=
  postW_of (r := l.row.toRowW) (X := (true == true))
    (show WShape.has [] (.bool true) .bool = true by first | rfl | decide | simp [WShape.has, WShape.arms, WShape.armsAll])
    (show (WTm.eq .res (.lit (.bool true))).value [] { args := args, res := some (.bool true), after := args } = some (.bool (true == true)) from w_eq_bool (w_res rfl) w_lit) rfl
theorem attach_call {l : OpenLaw} {n : Nat} {q : Program} {loose : List Str} {XP : (Str → Option Value) → Heap → Prop} {YP : World → Heap → Prop} {d : DefRec}
    (hn : l.most = some n) (hdf : d.params.defaults = [])
    (call : ∀ (w : World) (s₀ s₁ : Shared) (mg mb : Str → Option Value) (fa : Addr) (o : Obj) (pm cd doc : Value) (a : Addr) (vs : List Value) (ns : List Int),
      Ground q loose [] XP w s₀ mg mb s₁.heap → YP w s₁.heap →
      s₁.heap.get? fa = some o → o.data = .func (docDef d.name d.params d.body d.scope pm cd doc) → s₁.heap.CodeRec cd d.name → mg d.name = some (.ref fa) →
      s₁.heap.get? a = some { cls := .type "list", data := .seq vs.toArray } → IntsAre vs ns → ns.length ≤ n → s₁.gens = #[] →
      codeAny (model l.prog w) callerA (.call (.ref fa) ⟨[.ref a], []⟩) (fun r s' => r = .ok (.ret (.bool true)) ∧ OldK s₁.heap s'.heap ∧ s'.os = s₁.os ∧ AllBare s'.gens) s₁) :
    WalkO q loose XP YP l.row.toRowW d [] (fun f vs => PySem.call f vs) := by
  intro w s₀ s₁ mg mb G Y fa o pm cd doc dV kV ho hd hcd hD hmg hg args vals as hpre hlay hrd hwl hlo
  obtain rfl : dV = .none := Dflts.none hD hdf
  obtain rfl : kV = .none := Dflts.noKw hD
  obtain ⟨a, vs, ns, rfl, rfl, hobj, hints, hlen⟩ := script_of hn hpre hwl
  refine enter_call (codeAny_mono (call w s₀ s₁ mg mb fa o pm cd doc a vs ns G Y ho (fd_plain hd) hcd hmg hobj hints hlen hg) fun r s' hq => ?_)
  obtain ⟨rfl, h2, h3, h4⟩ := hq
  exact ⟨.inl ⟨.bool true, .bool true, [], rfl, fun _ => rfl, .bool true, post_true l _, fun _ => ⟨List.Pairwise.nil, fun _ hm => (nomatch hm)⟩⟩, h2, h3, h4⟩
section
variable {prog : Program} {w : World} {A : Around} {E : Value → Shared → Prop} {s : Shared} {K : Frag}
end
end Att
namespace L2
open PySem PySem.Spec PyProof.Rows
theorem vals_ints : ∀ {vs : List Value} {ns : List Int}, IntsAre vs ns → Vals (ns.map V.int) vs
  | _, _, .nil => .nil
  | _, _, .cons n t h => .cons ⟨t, rfl⟩ (vals_ints h)
def Only (H : Hp) : Prop := ∀ b, H b = none ∨ ∃ o xs, H b = some (.frz o (.lst xs))
theorem law_call {P : Program} {w : World} {K : PySem.W.Frag} {mg mb : Str → Option Value} {CX : CXT} {k : Nat} {fa a : Addr} {fd : FuncData} {x : Str} {sp : Sp} {s₁ : Shared} {vs : List Value} {ns : List Int}
    (KX : K.In s₁.heap) (hns : s₁.heap.Ns mainGlobals mg) (hb : s₁.heap.Ns builtinsNs mb) (hbb : ∀ x : Str, x ≠ "__name__" → mb x = bootBuiltins x) (hlim : s₁.heap.NoLimit) (hg : s₁.gens = #[])
    (ha : s₁.heap.get? a = some { cls := .type "list", data := .seq vs.toArray }) (hi : IntsAre vs ns) (hl : ns.length ≤ sizeLine) (hr : Room k callerA)
    (F : ∀ base : Heap, K.In base → base.Ns mainGlobals mg → FnOk P w K mg base CX k fa fd [x] sp) (hbind : ∀ (s : Shared) (u : Value), BindsTo s fd ⟨[u], []⟩ [(x, u)])
    (hsp : ∀ H : Hp, Only H → SqL K H a (ns.map V.int) → sp [.ref a] H (fun v _ => v = .bl true) fun _ _ _ => False)
    (hCX : ∀ H e s', CX [] H s₁ (fun _ _ _ => False) e s' → False) :
    codeAny (model P w) callerA (.call (.ref fa) ⟨[.ref a], []⟩) (fun r s' => r = .ok (.ret (.bool true)) ∧ OldK s₁.heap s'.heap ∧ s'.os = s₁.os ∧ AllBare s'.gens) s₁ := by
  have rv := vals_ints hi
  have lenV := hi.length
  -- from an abstract heap in which nothing but the script may be tracked
  have core : ∀ H : Hp, Only H → SqL K H a (ns.map V.int) → HOk P w H s₁.heap → (∀ b, H b ≠ none → b = a) → (H a ≠ none → K.lookup a = none) →
      codeAny (model P w) callerA (.call (.ref fa) ⟨[.ref a], []⟩) (fun r s' => r = .ok (.ret (.bool true)) ∧ OldK s₁.heap s'.heap ∧ s'.os = s₁.os ∧ AllBare s'.gens) s₁ := by
    intro H hO hS hok hA hK
    have base_of : ∀ {b : Addr} {o : Obj}, s₁.heap.get? b = some o → H b = none → (hidT s₁.heap H).get? b = some o := fun e n => hidT_get e n
    have noA : ∀ {b : Addr} {o : Obj} {es : Array DictEntry} {ep : Nat}, s₁.heap.get? b = some o → o.data = .dict es ep → H b = none := fun {b o es ep} e d => by
      cases q : H b with
      | none => rfl
      | some u =>
        have e' : b = a := hA b (by rw [q]; simp)
        subst e'
        rw [ha] at e; cases e
        have d' : Data.seq vs.toArray _ = Data.dict es ep := d
        cases d'
    have nsK : ∀ {b : Addr} {m : Str → Option Value}, s₁.heap.Ns b m → (hidT s₁.heap H).Ns b m := fun {b m} ⟨o, es, ep, e, d, r⟩ => ⟨o, es, ep, base_of e (noA e d), d, r⟩
    have hKb : K.In (hidT s₁.heap H) := fun b o e => base_of (KX b o e) (by
      cases q : H b with
      | none => rfl
      | some u =>
        have e' : b = a := hA b (by rw [q]; simp)
        subst e'
        rw [hK (by rw [q]; simp)] at e; cases e)
    have hM : Mod K mg (hidT s₁.heap H) := ⟨hKb, nsK hns, ⟨mb, nsK hb, hbb⟩, let ⟨mc, h1, h2⟩ := hlim; ⟨mc, nsK h1, h2⟩⟩
    have e0 : Env0 P w K mg (hidT s₁.heap H) callerA [] s₁ H := ⟨rfl, hM, fun b o e => of_hidT e, Nat.le_of_eq (hidT_size _ _), trivial, fun b hb => absurd (show b ∈ ([] : List Addr) from hb) (by simp), hok, .of_eq hg⟩
    refine codeAny_mono ((F _ hKb (nsK hns)).run callerA [] s₁ H ⟨[.ref a], []⟩ [.ref a] [.ref a] _ _ hr e0 (hbind s₁ (.ref a)) (.cons rfl .nil) (hsp H hO hS)) fun r s' h => ?_
    cases r with
    | error e => exact (hCX H e s' h).elim
    | ok fl =>
      cases fl with
      | next => exact False.elim h
      | brk => exact False.elim h
      | cont => exact False.elim h
      | ret u =>
        obtain ⟨v, H', os, bare, un, hok', r', q⟩ := h
        have q' : v = .bl true := q
        subst q'
        obtain rfl : u = Value.bool true := r'
        refine ⟨rfl, OldK.of_keep fun b o e => ?_, os, bare⟩
        cases q : H b with
        | none => exact un.keep b o e q (by intro z; exact absurd (show b ∈ ([] : List Addr) from z) (by simp)) (by simp)
        | some u =>
          rcases hO b with z | ⟨ob, xs, z⟩
          · rw [q] at z; cases z
          · have z2 := un.frzs b ob _ z
            obtain ⟨e1, _⟩ := hok b _ z
            obtain ⟨e2, _⟩ := hok' b _ z2
            rw [e] at e1; cases e1
            exact e2
  cases hk : K.lookup a with
  | some o =>
    -- the script is one of the module's own objects
    have e := KX a o hk
    rw [ha] at e
    cases e
    refine core (fun _ => none) (fun _ => .inl rfl) (.inr ⟨_, vs.toArray, _, hk, rfl, rfl, rfl, by rw [List.size_toArray, lenV]; exact hl, by simpa using rv⟩) (fun b u z => by have z' : (none : Option HO) = some u := z; cases z') (fun b z => absurd rfl z) fun z => absurd rfl z
  | none =>
    refine core (fun b => if b = a then some (.frz { cls := .type "list", data := .seq vs.toArray } (.lst (ns.map V.int))) else none) (fun b => ?_) (.inl (.inr ⟨{ cls := .type "list", data := .seq vs.toArray }, if_pos rfl⟩)) (fun b u z => ?_) (fun b z => ?_) fun _ => hk
    · by_cases hb : b = a
      · exact .inr ⟨_, _, if_pos hb⟩
      · exact .inl (if_neg hb)
    · by_cases hb : b = a
      · have z' := (if_pos hb).symm.trans z
        cases z'
        subst hb
        exact ⟨ha, by rw [List.length_map]; exact hl, vs, _, rv, ha⟩
      · have z' := (if_neg hb).symm.trans z
        cases z'
    · by_cases hb : b = a
      · exact hb
      · exact absurd (if_neg hb) z
end L2
namespace L2
open PySem PySem.Spec PyProof.Rows
theorem walk_of {l : PySem.W.OpenLaw} {n k : Nat} {q : Program} {loose : List Str} {XP : (Str → Option Value) → Heap → Prop} {YP : World → Heap → Prop} {d : DefRec} {K : Params → PySem.W.Frag} {CX : World → CXT} {sp : World → Sp} {x : Str}
    (hn : l.most = some n) (hn2 : n ≤ sizeLine) (hdf : d.params.defaults = []) (hr : Room k callerA)
    (hY : ∀ (w : World) (h : Heap), YP w h → (K w.params).In h)
    (F : ∀ (w : World) (mg : Str → Option Value) (fa : Addr) (h : Heap), (K w.params).In h → h.Ns mainGlobals mg → mg d.name = some (.ref fa) →
      ∃ fd : FuncData, (∀ (s : Shared) (u : Value), BindsTo s fd ⟨[u], []⟩ [(x, u)]) ∧
        ∀ base : Heap, (K w.params).In base → base.Ns mainGlobals mg → FnOk l.prog w (K w.params) mg base (CX w) k fa fd [x] (sp w))
    (hsp : ∀ (w : World) (H : Hp) (a : Addr) (ns : List Int), ns.length ≤ n → Only H → SqL (K w.params) H a (ns.map V.int) → sp w [.ref a] H (fun v _ => v = .bl true) fun _ _ _ => False)
    (hCX : ∀ (w : World) (H : Hp) (s : Shared) (e : Value) (s' : Shared), CX w [] H s (fun _ _ _ => False) e s' → False) :
    PySem.W.WalkO q loose XP YP l.row.toRowW d [] (fun f vs => PySem.call f vs) := by
  refine Att.attach_call hn hdf fun w s₀ s₁ mg mb fa o pm cd doc a vs ns G Y ho hd hcd hmg hobj hints hlen hg => ?_
  have KX := hY w _ Y
  obtain ⟨fd, hb, hF⟩ := F w mg fa _ KX G.T.g hmg
  exact law_call KX G.T.g G.T.b G.T.builtins G.T.nolimit hg hobj hints (Nat.le_trans hlen hn2) hr hF hb (fun H hO hS => hsp w H a ns hlen hO hS) fun H e s' => hCX w H s₁ e s'
end L2
/- THE LAST THEOREM (shape; LID, My.* are yours):
   My.Adr: a structure of the addresses that your layer names (classes, functions); My.Txt K t: a structure (Prop) of the equations over K;
   My.txt_mk : {K} {implicit addresses ..} (e1 : nsIn K mainGlobals "law" = some (some (.ref f))) (e2 : K.lookup f = some ⟨oc, od, .func (fnOf "law" "law" params body scope dV kV doc pm an cdv ct), sl⟩) (e3 : codeIn K cdv "law" = true) .. : ∃ t, My.Txt K t
set_option maxRecDepth 100000 in
set_option maxHeartbeats 0 in
theorem PySem.Challenge.cw_LID_holds : PySem.Challenge.rw_LID.Holds := by
  w_on; o_law; k_head; (case hw => w_witness2)
  k_fill
  refine L2.walk_of (l := PySem.Challenge.rw_LID) (n := 63) (k := 40) (x := "script") (CX := fun w => ..) (sp := fun _ => My.sp_law) rfl (by decide) rfl ⟨rfl, by decide, by decide⟩ (fun w h Y => PySem.W.kIn_of Y) ?F ?S ?C
  case F =>
    intro w mg fa h KX G hmg
    have T : ∃ t, My.Txt (L2.KOf KX) t := by
      dsimp only [L2.KOf]                          -- K must stand as «<heap const> w.params» for k_is
      refine' My.txt_mk ?e1 ?e2 ?e3 ..
      (case e1 => PySem.W.k_is)                    -- in the order: a name -> its address -> its object -> its parts
      (case e2 => PySem.W.k_is)
      ..
    obtain ⟨t, T⟩ := T
    have e0 := hmg.symm.trans (PySem.W.mg_of KX G T.law)
    cases e0                                       -- fa is the law's own address
    exact ⟨_, fun s u => .of_eq rfl, fun base kb nb => My.law_fn T kb nb⟩     -- if «.of_eq rfl» comes too early: refine' ⟨_, ?b, fun base kb nb => My.law_fn T kb nb⟩; exact fun s u => .of_eq rfl
  case S => exact fun w H a ns hl hO hS => ..
  case C => exact ..
(the tactic k_is has no namespace: write k_is) -/
namespace L2
open PySem PySem.Spec PyProof.Rows
def defArgs (s : Stmt) : Arguments := match s with
  | .FunctionDef _ a _ _ _ _ _ _ _ _ => a
  | _ => { posonlyargs := [], args := [], vararg := none, kwonlyargs := [], kw_defaults := [], kwarg := none, defaults := [] }
def defBody (s : Stmt) : List Stmt := match s with
  | .FunctionDef _ _ b _ _ _ _ _ _ _ => b
  | _ => []
def defScope (s : Stmt) : Scope := match s with
  | .FunctionDef _ _ _ _ _ _ sc _ _ _ => sc
  | _ => { kind := .function, names := [], isGenerator := false, isCoroutine := false }
abbrev CX0 : CXT := fun _ _ _ _ _ _ => False
abbrev E0 : XK := fun _ _ _ => False
theorem pass0 {X : Cx} : Passes CX0 X E0 := fun _ _ _ _ _ _ _ h => h.elim
structure Fun (K : PySem.W.Frag) (x qual : Str) (st : Stmt) (f : Addr) (fd : FuncData) : Prop where
  ex : ∃ (oc : Value) (od : Option Addr) (kV doc pm : Value) (an : Option Addr) (cdv ct : Value) (osl : Array (Option Value)),
    fd = PySem.W.fnOf x qual (defArgs st) (defBody st) (defScope st) .none kV doc pm an cdv ct ∧ K.lookup f = some ⟨oc, od, .func fd, osl⟩ ∧ PySem.W.codeIn K cdv qual = true
  kp : PySem.W.keepIn K (.ref f) = true
section
variable {P : Program} {w : World} {K : PySem.W.Frag} {mg : Str → Option Value} {base : Heap}
theorem Fun.ok {x qual : Str} {st : Stmt} {f : Addr} {fd : FuncData} {N ps : List Str} {k : Nat} {sp : Sp} (F : Fun K x qual st f fd) (S : FnScope N ps (defScope st)) (len : ∀ vs H Q E, sp vs H Q E → vs.length = ps.length)
    (hbody : ∀ (cdv : Value) (A : Around) (outer : List Env) (s : Shared) (H : Hp) (vs : List V) (Q : VK) (E : XK), Room k (A.deeper (envOfC qual (defScope st) s.heap.objs.size f cdv)) → sp vs H Q E →
      ∃ t, PSs (cxOf CX0 P w K mg base N qual (defScope st) f cdv A outer s H E).nox (defBody st) t ∧ t { nx := fun _ H' => Q .non H', rt := Q } (start N vs) H) : FnOk P w K mg base CX0 (k + 1) f fd ps sp := by
  obtain ⟨oc, od, kV, doc, pm, an, cdv, ct, osl, rfl, lk, hcd⟩ := F.ex
  refine fn_of lk hcd S len fun A outer s H vs Q E hr hsp => ?_
  obtain ⟨t, h, q⟩ := hbody cdv A outer s H vs Q E hr hsp
  exact ⟨t, h.nox, q⟩
theorem Fun.binds {x qual : Str} {st : Stmt} {f : Addr} {fd : FuncData} {ps : List Str} (F : Fun K x qual st f fd)
    (h : ∀ (kV doc pm : Value) (an : Option Addr) (cdv ct : Value) (us : List Value), us.length = ps.length → bindArgs (PySem.W.fnOf x qual (defArgs st) (defBody st) (defScope st) .none kV doc pm an cdv ct) ⟨us, []⟩ = pure (ps.zip us)) : Binds K fd ps [] := by
  obtain ⟨oc, od, kV, doc, pm, an, cdv, ct, osl, rfl, lk, hcd⟩ := F.ex
  exact .all (h kV doc pm an cdv ct)
theorem fun_mk {x qual : Str} {st : Stmt} {f : Addr} {oc : Value} {od an : Option Addr} {osl : Array (Option Value)} {kV doc pm cdv ct : Value} (l : K.lookup f = some ⟨oc, od, .func (PySem.W.fnOf x qual (defArgs st) (defBody st) (defScope st) .none kV doc pm an cdv ct), osl⟩)
    (c : PySem.W.codeIn K cdv qual = true) (k : PySem.W.keepIn K (.ref f) = true) : Fun K x qual st f (PySem.W.fnOf x qual (defArgs st) (defBody st) (defScope st) .none kV doc pm an cdv ct) := ⟨⟨oc, od, kV, doc, pm, an, cdv, ct, osl, rfl, l, c⟩, k⟩
end
section
variable {X : Cx}
end
end L2

namespace L2
open PySem PySem.Spec PyProof.Rows
section
variable {X : Cx} {pins : List (Addr × Obj)} {σ : St} {H : Hp} {s : Shared}
theorem Inv.track {D : Addr} {o : HO} (I : Inv X pins σ H s) (hn : H D = none) (new : ObjOk X.prog X.w (upd H D o) s.heap D o)
    (hL : D ≠ X.env.locals) (hs : X.s₀.heap.objs.size ≤ D) (hc : ∀ x c, X.env.cells.lookup x = some c → c ≠ D) (hp : ∀ p ∈ X.pn ++ pins, p.1 ≠ D) : Inv X pins σ (upd H D o) s := by
  have ne : ∀ {b : Addr} {u : HO}, H b = some u → b ≠ D := fun e => ne_of_none e hn
  have nb : ∀ (b : Addr) (ob : Obj), X.s₀.heap.get? b = some ob → b ≠ D := fun b ob e => Nat.ne_of_lt (Nat.lt_of_lt_of_le (Heap.lt_size e) hs)
  refine ⟨I.ok, I.os, I.bare, ⟨I.base.keep, I.base.slot, fun b ob e n hx => ?_, I.base.there, fun b xs e => ?_, fun b ob u e => ?_, fun b ps e => ?_⟩, I.loc, I.cell, ?_, fun x c e => ?_, fun p hp' => ?_, fun b u e => ?_, I.len⟩
  · rw [upd_ne (nb b ob e)]; exact I.base.free b ob e n hx
  · have q := I.base.tups b xs e; rw [upd_ne (ne q)]; exact q
  · have q := I.base.frzs b ob u e; rw [upd_ne (ne q)]; exact q
  · obtain ⟨m, q⟩ := I.base.tbls b ps e; exact ⟨m, by rw [upd_ne (ne q)]; exact q⟩
  · rw [upd_ne (Ne.symm hL)]; exact I.free
  · rw [upd_ne (hc x c e)]; exact I.freeC x c e
  · obtain ⟨e, n, r⟩ := I.pin p hp'; exact ⟨e, by rw [upd_ne (hp p hp')]; exact n, r⟩
  · by_cases hb : b = D
    · subst hb; rw [upd_same] at e; cases e; exact new
    · rw [upd_ne hb] at e
      exact (I.hok b u e).stay (fun c v _ q => q) (fun c q => by rw [upd_ne (ne q)]; exact q) fun c xs q => by rw [upd_ne (ne q)]; exact q
end
def closL (cells : List (Str × Addr)) : List (Str × NameKind) → List (Str × Addr) → List (Str × Addr)
  | [], acc => acc
  | (n, k) :: r, acc => if (k == .free) = true then closL cells r ((n, (cells.lookup n).getD 0) :: acc) else closL cells r acc
theorem closL_look {cells : List (Str × Addr)} : ∀ (names : List (Str × NameKind)) (acc : List (Str × Addr)), (∀ n, (n, NameKind.free) ∈ names → ∃ c, cells.lookup n = some c) →
    (∀ x c, acc.lookup x = some c → cells.lookup x = some c) → ∀ x c, (closL cells names acc).lookup x = some c → cells.lookup x = some c
  | [], acc, _, h, x, c, e => h x c e
  | (n, k) :: r, acc, hc, h, x, c, e => by
    unfold closL at e
    by_cases hk : (k == NameKind.free) = true
    · rw [if_pos hk] at e
      refine closL_look r _ (fun m hm => hc m (List.mem_cons_of_mem _ hm)) (fun y d q => ?_) x c e
      have hk' : k = NameKind.free := by simpa using hk
      obtain ⟨c0, e0⟩ := hc n (by rw [hk']; exact List.mem_cons_self)
      rw [List.lookup_cons] at q
      cases hy : (y == n) with
      | true =>
        rw [hy] at q
        have yn : y = n := by simpa using hy
        subst yn
        rw [e0] at q
        rw [e0]; exact q
      | false => rw [hy] at q; exact h y d q
    · rw [if_neg hk] at e
      exact closL_look r _ (fun m hm => hc m (List.mem_cons_of_mem _ hm)) h x c e
theorem closL_keeps {cells : List (Str × Addr)} {x : Str} : ∀ (names : List (Str × NameKind)) (acc : List (Str × Addr)), ((acc.lookup x).isSome = true) → ((closL cells names acc).lookup x).isSome = true
  | [], acc, h => h
  | (n, k) :: r, acc, h => by
    unfold closL
    split
    · refine closL_keeps r _ ?_
      rw [List.lookup_cons]
      cases hy : (x == n) with
      | true => rfl
      | false => exact h
    · exact closL_keeps r _ h
theorem closL_has {cells : List (Str × Addr)} {x : Str} : ∀ (names : List (Str × NameKind)) (acc : List (Str × Addr)), (x, NameKind.free) ∈ names → ((closL cells names acc).lookup x).isSome = true
  | [], acc, h => absurd h (by simp)
  | (n, k) :: r, acc, h => by
    unfold closL
    rcases List.mem_cons.mp h with e | h
    · cases e
      rw [if_pos (by decide)]
      refine closL_keeps r _ ?_
      rw [List.lookup_cons]
      simp
    · split
      · exact closL_has r _ h
      · exact closL_has r _ h
theorem closureFor_closL {scope : Scope} {env : Env} (hc : ∀ n, (n, NameKind.free) ∈ scope.names → ∃ c, env.cells.lookup n = some c) : closureFor scope env = pure (closL env.cells scope.names []) := by
  unfold closureFor
  have all : ∀ (names : List (Str × NameKind)) (acc : List (Str × Addr)), (∀ n, (n, NameKind.free) ∈ names → ∃ c, env.cells.lookup n = some c) →
      (forIn names acc (fun (x : Str × NameKind) (cs : List (Str × Addr)) => (match x with | (name, kind) => if (kind == .free) = true then (do let c ← cellOf env name; pure (ForInStep.yield ((name, c) :: cs))) else pure (ForInStep.yield cs) : Sem (ForInStep (List (Str × Addr)))))) = (pure (closL env.cells names acc) : Sem (List (Str × Addr))) := by
    intro names
    induction names with
    | nil => intro acc _; rfl
    | cons y r ih =>
      intro acc hc
      obtain ⟨n, k⟩ := y
      rw [List.forIn_cons]
      unfold closL
      dsimp only
      by_cases hk : (k == NameKind.free) = true
      · rw [if_pos hk, if_pos hk]
        have hk' : k = NameKind.free := by simpa using hk
        obtain ⟨c0, e0⟩ := hc n (by rw [hk']; exact List.mem_cons_self)
        unfold cellOf
        rw [e0]
        exact ih _ fun m hm => hc m (List.mem_cons_of_mem _ hm)
      · rw [if_neg hk, if_neg hk]
        exact ih _ fun m hm => hc m (List.mem_cons_of_mem _ hm)
  have q := all scope.names [] hc
  refine Eq.trans ?_ (congrArg (fun m => m >>= pure) q)
  rfl
theorem relab_free {env : Env} : ∀ {names : List (Str × NameKind)} {x : Str}, names.lookup x = some .free →
    (names.map fun (n, k) => if (k == NameKind.free && env.scope.kind == .function && env.kindOf n == some .cell) then (n, NameKind.cell) else (n, k)).lookup x = some .cell ∨
    (names.map fun (n, k) => if (k == NameKind.free && env.scope.kind == .function && env.kindOf n == some .cell) then (n, NameKind.cell) else (n, k)).lookup x = some .free
  | [], _, h => by simp at h
  | (n, k) :: r, x, h => by
    have ih := @relab_free env r x
    rw [List.map_cons]
    dsimp only
    cases hx : x == n with
    | true =>
      rw [List.lookup_cons, hx] at h
      have h' : k = NameKind.free := by simpa using h
      subst h'
      split
      · left; rw [List.lookup_cons, hx]
      · right; rw [List.lookup_cons, hx]
    | false =>
      rw [List.lookup_cons, hx] at h
      have ih := ih h
      split
      · rw [List.lookup_cons, hx]; exact ih
      · rw [List.lookup_cons, hx]; exact ih
theorem relab_back {env : Env} : ∀ {names : List (Str × NameKind)} {x : Str} {k0 : NameKind}, (∀ y ∈ names, y.2 ≠ .cell) →
    (names.map fun (n, k) => if (k == NameKind.free && env.scope.kind == .function && env.kindOf n == some .cell) then (n, NameKind.cell) else (n, k)).lookup x = some k0 → (k0 = .cell ∨ k0 = .free) → (x, NameKind.free) ∈ names
  | [], _, _, _, h, _ => by simp at h
  | (n, k) :: r, x, k0, hc, h, hk => by
    have ih := @relab_back env r x k0 fun y hy => hc y (List.mem_cons_of_mem _ hy)
    rw [List.map_cons] at h
    dsimp only at h
    cases hx : x == n with
    | true =>
      have xn : x = n := by simpa using hx
      subst xn
      by_cases hcnd : (k == NameKind.free && env.scope.kind == .function && env.kindOf x == some .cell) = true
      · have : k = NameKind.free := by
          have := (Bool.and_eq_true _ _).mp hcnd
          have := (Bool.and_eq_true _ _).mp this.1
          simpa using this.1
        subst this
        exact List.mem_cons_self
      · rw [if_neg hcnd, List.lookup_cons, hx] at h
        have h' : k = k0 := by simpa using h
        subst h'
        rcases hk with e | e
        · exact absurd e (hc (x, k) List.mem_cons_self)
        · subst e; exact List.mem_cons_self
    | false =>
      refine List.mem_cons_of_mem _ (ih ?_ hk)
      split at h
      · rw [List.lookup_cons, hx] at h; exact h
      · rw [List.lookup_cons, hx] at h; exact h
theorem compLoop_gen {prog : Program} {w : World} {A : Around} {R : Result → Shared → Prop} {s : Shared} {elt target iter : Expr} {ifs : List Expr} {scope : Scope} {pos : Pos} {it acc : Value} {env : Env} (I : Nat → Shared → Prop)
    (turn : ∀ n s, I n s → wpAny (model prog w) A (pyNext it) (fun r s1 => match r with
      | none => R (.ok .next) s1
      | some v => wpAny (model prog w) A (letOwnedTupleGo target it v) (fun _ s2 => wpAny (model prog w) A (assign target env v) (fun _ s3 =>
          wpAny (model prog w) A (forIn ifs true fun c r => if r = true then do let ok ← isTrue c env (eval c env); pure (ForInStep.yield ok) else pure (ForInStep.yield r)) (fun ok s4 =>
            if ok = true then wpAny (model prog w) A (eval elt env) (fun x s5 =>
              wpAny (model prog w) A (call (.builtin "list.append") [acc, x]) (fun _ s6 => ∃ m, m < n ∧ I m s6) (fun _ _ => False) s5) (fun _ _ => False) s4
            else ∃ m, m < n ∧ I m s4) (fun _ _ => False) s3) (fun _ _ => False) s2) (fun _ _ => False) s1) (fun _ _ => False) s)
    (n : Nat) (h : I n s) :
    codeAny (model prog w) A (.compLoop (.ListComp elt [⟨target, iter, ifs, 0⟩] scope pos) 0 it acc env) R s := by
  refine codeAny_loop rfl I (fun n s hI => ?_) n h
  show wpAny _ A ((compTurn (.ListComp elt [⟨target, iter, ifs, 0⟩] scope pos) 0 it acc env).onRaise (fun x => do noteFrame x env; theTreesLotGoes x)) _ _ s
  refine wpAny_noted ?_
  rw [compTurn_list]
  refine wpAny_noRaise (wpAny_bind (wpAny_standAt (wpAny_bind (wpAny_mono (turn n s hI) (fun r s1 h1 => ?_) fun _ _ h' => h'))))
  cases r with
  | none => exact wpAny_pure h1
  | some v =>
    refine wpAny_bind (wpAny_mono h1 (fun _ s2 h2 => ?_) fun _ _ h' => h')
    refine wpAny_bind (wpAny_mono h2 (fun _ s3 h3 => wpAny_bind (wpAny_mono h3 (fun ok s4 h4 => ?_) fun _ _ h' => h')) fun _ _ h' => h')
    cases ok with
    | false => exact wpAny_pure ⟨rfl, h4⟩
    | true =>
      exact wpAny_bind (wpAny_bind (wpAny_mono h4 (fun x s5 h5 => wpAny_bind (wpAny_mono h5 (fun _ s6 h6 => wpAny_pure (wpAny_pure ⟨rfl, h6⟩)) fun _ _ h' => h')) fun _ _ h' => h'))
end L2

namespace L2
open PySem PySem.Spec PyProof.Rows
def cxBlk (X : Cx) (scope : Scope) (cl : List (Str × Addr)) (tgs : List Str) (fr : List Nat) (C : Addr) (fp : List Addr) (s : Shared) (H : Hp) : Cx :=
  { X with N := tgs ++ fr.map (fun j => X.N.getD j ""), s₀ := s, H₀ := H, env := compEnvC scope cl C X.env, outer := X.stack, ex := fp, fn := fun _ => false, pn := [] }
def blkSt (n : Nat) (fr : List Nat) (σ : St) : St := List.replicate n none ++ fr.map (fun j => σ.getD j none)
structure BlkOk (X : Cx) (scope : Scope) (fr : List Nat) : Prop where
  kind : scope.kind = .function
  nocell : ∀ y ∈ scope.names, y.2 ≠ .cell
  names : ∀ y ∈ scope.names, y.2 = .local → scope.names.lookup y.1 = some .local
  has : ∀ n, (n, NameKind.free) ∈ scope.names → X.env.kindOf n = some .cell ∨ X.env.kindOf n = some .free
  fr : ∀ j ∈ fr, j < X.N.length ∧ scope.names.lookup (X.N.getD j "") = some .free
def GKeeps (n : Nat) (g : TG) : Prop := ∀ x σ H Q, g x σ H Q → g x σ H fun σ2 H2 => Q σ2 H2 ∧ σ2.length = σ.length ∧ ∀ k, n ≤ k → σ2[k]? = σ[k]?
theorem gk_name {n i : Nat} (h : i < n) : GKeeps n (gName i) := fun x σ H Q q => ⟨q, by simp, fun k hk => by rw [List.getElem?_set_ne (by omega)]⟩
def GsKeeps (n : Nat) (g : TGs) : Prop := ∀ xs σ H Q, g xs σ H Q → g xs σ H fun σ2 H2 => Q σ2 H2 ∧ σ2.length = σ.length ∧ ∀ k, n ≤ k → σ2[k]? = σ[k]?
theorem gk_nil {n : Nat} : GsKeeps n gNil := fun xs σ H Q q => ⟨q.1, q.2, rfl, fun _ _ => rfl⟩
def PIf (X : Cx) (ifs : List Expr) (t : TT) : Prop :=
  ∀ (pins : List (Addr × Obj)) (s : Shared) (σ : St) (H : Hp) (Q : Bool → Hp → Prop), Inv X pins σ H s → t σ H Q →
    wpAny (model X.prog X.w) X.A (forIn ifs true fun c r => if r = true then do let ok ← isTrue c X.env (eval c X.env); pure (ForInStep.yield ok) else pure (ForInStep.yield r)) (TP X pins σ Q) X.xe s
def tYes : TT := fun _ H Q => Q true H
theorem pif_nil {X : Cx} : PIf X [] tYes := fun _ s σ H Q I h => wpAny_tests_nil ⟨H, I, h⟩
def tComp (wi : TI) (g : TG) (tt : TT) (te : TE) (n : Nat) (fr : List Nat) : TE := fun σ H Q => wi σ H fun J H1 => ∃ W : Nat → Nat → List V → Hp → Prop, (∃ m, W 0 m [] H1) ∧ ∀ i m acc H, W i m acc H →
  acc.length ≤ sizeLine ∧ ((J.stop i H ∧ ∀ p, H p = none → Q (.ref p) (upd H p (.lst acc))) ∨
    (J.go i H ∧ ∃ N : List V → Hp → Prop, (∀ acc' H', N acc' H' → ∃ m', m' < m ∧ W (i + 1) m' acc' H') ∧ ∀ x H', J.yld i H x H' → g x (blkSt n fr σ) H' fun σ2 H2 => tt σ2 H2 fun b H3 => if b = true then te σ2 H3 fun y H4 => N (acc ++ [y]) H4 else N acc H3))
section
variable {X : Cx} {scope : Scope} {tgs : List Str} {fr : List Nat}
theorem blk_ok {pins : List (Addr × Obj)} {σ : St} {H : Hp} {s : Shared} {fp : List Addr} {C : Addr} (B : BlkOk X scope fr) (I : Inv X pins σ H s) (hC : s.heap.objs.size ≤ C) (f : ∀ b ∈ fp, FpOk X pins H b) (hfp : ∀ b ∈ fp, b < s.heap.objs.size) :
    (cxBlk X scope (closL X.env.cells scope.names []) tgs fr C fp s H).Ok := by
  have look : ∀ x c, (closL X.env.cells scope.names []).lookup x = some c → X.env.cells.lookup x = some c :=
    closL_look scope.names [] (fun n hn => I.ok.has n (B.has n hn)) fun x c e => by simp at e
  refine ⟨I.ok.mod, B.kind, I.ok.glob, I.ok.blt, hC, fun x y c e1 e2 => I.ok.inj x y c (look x c e1) (look y c e2), fun x hx => ?_, fun x c h => absurd h (by simp [cxBlk]), I.ok.hd, I.ok.frames, .inl rfl, fun b hb => ⟨Nat.ne_of_lt (Nat.lt_of_lt_of_le (hfp b hb) hC), fun x c e => (f b hb).2.2.2.2.1 x c (look x c e)⟩,
    I.bs, Nat.le_trans I.ok.bsz I.sz, fun b o e hb => ?_, fun b hb hs => ?_, I.stack, I.stkFree⟩
  · have hm : (x, NameKind.free) ∈ scope.names := by
      rcases hx with hx | hx
      · exact relab_back B.nocell hx (.inl rfl)
      · exact relab_back B.nocell hx (.inr rfl)
    exact Option.isSome_iff_exists.mp (closL_has scope.names [] hm)
  · rcases (f b hb).2.2.2.1 with z | z
    · exact I.ok.noex b o e z
    · exact absurd (Nat.lt_of_lt_of_le (Heap.lt_size e) (Nat.le_trans I.ok.bsz z)) (Nat.lt_irrefl _)
  · rcases List.mem_cons.mp (I.stkSub b hs) with z | z
    · exact (f b hb).2.1 z
    · exact (f b hb).2.2.1 z
theorem blk_inv {pins : List (Addr × Obj)} {σ : St} {H : Hp} {s s1 : Shared} {fp : List Addr} {C : Addr} {m : Str → Option Value} (B : BlkOk X scope fr) (I : Inv X pins σ H s) (hC : s.heap.objs.size ≤ C) (f : ∀ b ∈ fp, FpOk X pins H b) (hfp : ∀ b ∈ fp, b < s.heap.objs.size)
    (ho : s1.os = s.os) (hg : AllBare s1.gens) (hk : ∀ b o, s.heap.get? b = some o → s1.heap.get? b = some o) (hn : s1.heap.Ns C m) :
    Inv (cxBlk X scope (closL X.env.cells scope.names []) tgs fr C fp s H) [] (blkSt tgs.length fr σ) H s1 := by
  have look : ∀ x c, (closL X.env.cells scope.names []).lookup x = some c → X.env.cells.lookup x = some c :=
    closL_look scope.names [] (fun n hn => I.ok.has n (B.has n hn)) fun x c e => by simp at e
  refine ⟨blk_ok B I hC f hfp, ho, hg, Un.kept hk, ⟨m, hn, fun i x v e1 e2 e3 => ?_⟩, fun x c e => ?_, I.hok.fresh hC, fun x c e => I.freeC x c (look x c e), fun p hp => absurd hp (by simp [cxBlk]), I.hok.kept hk, by simp [blkSt, cxBlk]⟩
  · -- a free name: its cell's value
    have e1 : (tgs ++ fr.map (fun j => X.N.getD j ""))[i]? = some x := e1
    have hi : tgs.length ≤ i := by
      refine Nat.le_of_not_lt fun hlt => ?_
      unfold blkSt at e2
      rw [List.getElem?_append_left (by simpa using hlt), List.getElem?_replicate, if_pos hlt] at e2
      cases e2
    unfold blkSt at e2
    rw [List.getElem?_append_right (by simpa using hi), List.length_replicate, List.getElem?_map] at e2
    rw [List.getElem?_append_right hi, List.getElem?_map] at e1
    cases ej : fr[i - tgs.length]? with
    | none => rw [ej] at e1; cases e1
    | some j =>
      rw [ej] at e1 e2
      have e1' : X.N.getD j "" = x := Option.some.inj e1
      have e2' : σ.getD j none = some v := Option.some.inj e2
      obtain ⟨hj, hl⟩ := B.fr j (List.mem_of_getElem? ej)
      have hN : X.N[j]? = some x := by
        rw [List.getD_eq_getElem?_getD, List.getElem?_eq_getElem hj] at e1'
        rw [List.getElem?_eq_getElem hj]
        exact congrArg some e1'
      have hs : σ[j]? = some (some v) := by
        have hj' : j < σ.length := by rw [I.len]; exact hj
        rw [List.getD_eq_getElem?_getD, List.getElem?_eq_getElem hj'] at e2'
        rw [List.getElem?_eq_getElem hj']
        exact congrArg some e2'
      rw [e1'] at hl
      obtain ⟨m0, hn0, hl0⟩ := I.loc
      have hmem : (x, NameKind.free) ∈ scope.names := PySem.mem_of_lookup hl
      have kinds := B.has x hmem
      obtain ⟨u, ru, lu⟩ := hl0 j x v hN hs (by rcases kinds with z | z; exact .inr (.inl z); exact .inr (.inr z))
      refine ⟨u, ru, .inr ⟨relab_free hl, ?_⟩⟩
      obtain ⟨c, hc⟩ := Option.isSome_iff_exists.mp (closL_has (cells := X.env.cells) scope.names [] hmem)
      refine ⟨c, hc, ?_⟩
      rcases lu with ⟨kl, _⟩ | ⟨_, c', hc', z⟩
      · rcases kinds with z | z <;> (rw [z] at kl; cases kl)
      · have : c = c' := by
          have := look x c hc
          rw [this] at hc'
          exact Option.some.inj hc'
        subst this
        obtain ⟨o, ho, hd⟩ := z
        exact ⟨o, hk _ _ ho, hd⟩
  · obtain ⟨v, o, ho', hd⟩ := I.cell x c (look x c e)
    exact ⟨v, o, hk _ _ ho', hd⟩
end
end L2

namespace L2
open PySem PySem.Spec PyProof.Rows
section
variable {X : Cx} {scope : Scope} {tgs : List Str} {fr : List Nat} {tg elt iter : Expr} {ifs : List Expr} {pos : Pos} {wi : TI} {g : TG} {tt : TT} {te : TE}
theorem toF {α : Type} {M : Model} {A : Around} {E : Value → Shared → Prop} {s : Shared} {t : Sem α} {Q Q' : α → Shared → Prop} (hE : ∀ e s, E e s → False) (h : wpAny M A t Q E s) (hQ : ∀ a s, Q a s → Q' a s) : wpAny M A t Q' (fun _ _ => False) s :=
  wpAny_mono h hQ hE
theorem comp_core {pins : List (Addr × Obj)} {σ : St} {H : Hp} {s : Shared} {R : Value → Addr → Result → Shared → Prop} {E : Value → Shared → Prop} {J : It} {fp : List Addr} {it : Addr} {tn : Nat → Heap → Prop} {Qe : List V → Hp → Prop}
    (B : BlkOk X scope fr) (hc : X.calm = true) (hE : ∀ e s, X.xe e s → False)
    (hg : ∀ cl C fp s H, PG (cxBlk X scope cl tgs fr C fp s H) tg g) (gk : GKeeps tgs.length g)
    (ht : ∀ cl C fp s H, PIf (cxBlk X scope cl tgs fr C fp s H) ifs tt)
    (he : ∀ cl C fp s H, PE (cxBlk X scope cl tgs fr C fp s H) elt te)
    (I : Inv X pins σ H s) (T : Turn X.prog X.w X.K tg J fp it tn) (st : tn 0 s.heap) (f : ∀ b ∈ fp, FpOk X pins H b)
    (W : Nat → Nat → List V → Hp → Prop) (m0 : Nat) (w0 : W 0 m0 [] H)
    (turn : ∀ i m acc H, W i m acc H → acc.length ≤ sizeLine ∧ ((J.stop i H ∧ Qe acc H) ∨ (J.go i H ∧ ∃ N : List V → Hp → Prop, (∀ acc' H', N acc' H' → ∃ m', m' < m ∧ W (i + 1) m' acc' H') ∧ ∀ x H', J.yld i H x H' → g x (blkSt tgs.length fr σ) H' fun σ2 H2 => tt σ2 H2 fun b H3 =>
      if b = true then te σ2 H3 fun y H4 => N (acc ++ [y]) H4 else N acc H3)))
    (fin : ∀ (D C : Addr) (s1 : Shared) (H1 : Hp) (acc : List V) (its : List Value), s.heap.objs.size ≤ D → s.heap.objs.size ≤ C → D ≠ C → Inv X pins σ H1 s1 → H1 C = none → H1 D = none → (∃ m, s1.heap.Ns C m) →
      s1.heap.PlainList D its.toArray → Vals acc its → acc.length ≤ sizeLine → Qe acc H1 → R (.ref D) C (.ok .next) s1) :
    wpAny (model X.prog X.w) X.A (newList []) (fun acc s3 => wpAny (model X.prog X.w) X.A (newFunctionEnv scope X.env.globals (closL X.env.cells scope.names []) [] X.env.qual none .none (some X.env)) (fun cenv s4 =>
      codeAny (model X.prog X.w) X.A (.compStart (.ListComp elt [⟨tg, iter, ifs, 0⟩] scope pos) 0 (.ref it) acc { cenv with scope := relabel scope X.env }) (R acc cenv.locals) s4) E s3) E s := by
  have hfp : ∀ b ∈ fp, b < s.heap.objs.size := fun b hb => by obtain ⟨o, e, _⟩ := T.obj 0 _ st b hb; exact Heap.lt_size e
  have look : ∀ x c, (closL X.env.cells scope.names []).lookup x = some c → X.env.cells.lookup x = some c :=
    closL_look scope.names [] (fun n hn => I.ok.has n (B.has n hn)) fun x c e => by simp at e
  refine wpAny_newObj_type (wpAny_newFunctionEnv B.nocell (by intro y hy; simp at hy) (fun h1 hns1 hsb1 => ?_) B.kind)
  dsimp only at hns1 hsb1 ⊢
  generalize hH2 : s.heap.push { cls := .type "list", dict := none, data := .seq ([] : List Value).toArray } = H2 at hns1 hsb1 ⊢
  have hC : H2.objs.size = s.heap.objs.size + 1 := by rw [← hH2, Heap.size_push]
  have hDC : s.heap.objs.size ≠ H2.objs.size := by omega
  have hCle : s.heap.objs.size ≤ H2.objs.size := by omega
  have below : ∀ b, b < s.heap.objs.size → b ≠ H2.objs.size ∧ b ≠ s.heap.objs.size := fun b hb => ⟨by omega, by omega⟩
  have old : ∀ b o, s.heap.get? b = some o → h1.get? b = some o := fun b o e => hsb1.extBut b o (below b (Heap.lt_size e)).1 (Heap.get?_push_of_some _ (hH2 ▸ Heap.get?_push_of_some _ e))
  have hacc : h1.PlainList s.heap.objs.size #[] := ⟨_, hsb1.extBut _ _ hDC (Heap.get?_push_of_some _ (hH2 ▸ Heap.get?_push_size _ rfl))⟩
  have st1 : tn 0 h1 := T.keep _ _ _ st fun b _ o e => old b o e
  generalize hCd : H2.objs.size = C at *
  generalize hDd : s.heap.objs.size = D at *
  have hDs : ∀ b, b < D → b < s.heap.objs.size := fun b hb => by rw [hDd]; exact hb
  have fD := I.fpOk (b := D) (H' := H) (Nat.le_of_eq hDd) (I.hok.fresh (Nat.le_of_eq hDd))
  have stkne : ∀ b, b ≠ X.env.locals → b ∉ X.fs → b ∉ frs X.stack := fun b h1 h2 hb => (List.mem_cons.mp (I.stkSub b hb)).elim h1 h2
  have hfr : ∀ b ∈ fp, b ∉ frs X.stack := fun b hb => stkne b (f b hb).2.1 (f b hb).2.2.1
  have clt : ∀ x c, (closL X.env.cells scope.names []).lookup x = some c → c ≠ D := fun x c e => fD.2.2.2.2.1 x c (look x c e)
  have loop : ∀ s3 : Shared, s3 = { s with heap := h1, toks := s.toks + ([] : List (Str × Value)).length } →
      codeAny (model X.prog X.w) X.A (.compLoop (.ListComp elt [⟨tg, iter, ifs, 0⟩] scope pos) 0 (.ref it) (.ref D) (compEnvC scope (closL X.env.cells scope.names []) C X.env)) (R (.ref D) C) s3 := by
    rintro s3 rfl
    have IY0 : Inv (cxBlk X scope (closL X.env.cells scope.names []) tgs fr C fp s H) [] (blkSt tgs.length fr σ) H { s with heap := h1, toks := s.toks + ([] : List (Str × Value)).length } :=
      blk_inv B I (by rw [hDd]; exact hCle) f (fun b hb => hDs b (hfp b hb)) rfl I.bare old hns1
    refine compLoop_gen (fun n s' => ∃ (i : Nat) (acc : List V) (its : List Value) (H' : Hp), Inv (cxBlk X scope (closL X.env.cells scope.names []) tgs fr C fp s H) [] (blkSt tgs.length fr σ) H' s' ∧ tn i s'.heap ∧ (∀ b ∈ fp, H' b = none) ∧ H' D = none ∧
      s'.heap.PlainList D its.toArray ∧ Vals acc its ∧ W i n acc H') ?_ m0 ⟨0, [], [], H, IY0, st1, fun b hb => (f b hb).1, fD.1, hacc, .nil, w0⟩
    rintro n s3 ⟨i, acc, its, H3, I3, st3, fr3, hD3, ⟨nl, hobj⟩, rv3, w3⟩
    obtain ⟨hz, h⟩ := turn i n acc H3 w3
    have I3' : Inv (cxBlk X scope (closL X.env.cells scope.names []) tgs fr C fp s H) [(D, { cls := .type "list", data := .seq its.toArray nl })] (blkSt tgs.length fr σ) H3 s3 := I3.pins_of fun p hp => by
      have e : p = (D, { cls := .type "list", data := .seq its.toArray nl }) := by simpa using hp
      subst e
      exact ⟨hobj, hD3, hDC, stkne D fD.2.1 fD.2.2.1, fun v e => by cases e⟩
    have fY : ∀ {H' : Hp}, (∀ b ∈ fp, H' b = none) → ∀ b ∈ fp, FpOk (cxBlk X scope (closL X.env.cells scope.names []) tgs fr C fp s H) [(D, { cls := .type "list", data := .seq its.toArray nl })] H' b := fun hn b hb =>
      ⟨hn b hb, (below b (hfp b hb)).1, hfr b hb, .inl hb, fun x c e => (f b hb).2.2.2.2.1 x c (look x c e), fun p hp => by
        have e : p = (D, { cls := .type "list", data := .seq its.toArray nl }) := by simpa [cxBlk] using hp
        subst e
        exact Ne.symm (below b (hfp b hb)).2⟩
    rcases h with ⟨stop, q⟩ | ⟨go, N, hN, step⟩
    · refine thn (T.done (cxBlk X scope (closL X.env.cells scope.names []) tgs fr C fp s H) rfl rfl rfl hc i _ s3 _ H3 _ I3' (fY fr3) st3 stop) fun r s4 ⟨hr, I4⟩ => ?_
      subst hr
      have pD := I4.pin (D, { cls := .type "list", data := .seq its.toArray nl }) (by simp)
      have IX : Inv X pins σ H3 s4 := I.call' (ch := fp) I4.os I4.base I4.hok I4.bare fun b hb => ⟨(f b hb).2.2.2.1, (f b hb).2.1, (f b hb).2.2.2.2.1, (f b hb).2.2.2.2.2⟩
      obtain ⟨m4, hn4, _⟩ := I4.loc
      exact fin D C s4 H3 acc its (Nat.le_refl _) hCle hDC IX I4.free pD.2.1 ⟨m4, hn4⟩ ⟨nl, pD.1⟩ rv3 hz q
    · refine thn (T.item (cxBlk X scope (closL X.env.cells scope.names []) tgs fr C fp s H) rfl rfl rfl hc i _ s3 _ H3 _ I3' (fY fr3) st3 go) fun r s4 ⟨u, hr, h4⟩ => ?_
      subst hr
      refine thn h4 fun _ s5 ⟨x, H5, I5, r5, y5, st5, fr5⟩ => ?_
      have I5' := I5.pinned (fY fr5) (T.obj _ _ st5)
      refine toF hE (hg _ _ _ _ _ _ s5 _ H5 x u _ I5' r5 (gk x _ H5 _ (step x H5 y5))) fun _ s6 ⟨σ6, H6, I6, q6, len6, k6⟩ => ?_
      refine toF hE (ht _ _ _ _ _ _ s6 σ6 H6 _ I6 q6) fun ok s7 ⟨H7, I7, q7⟩ => ?_
      have wk : ∀ {H' : Hp} {s' : Shared} {pl : List (Addr × Obj)}, Inv (cxBlk X scope (closL X.env.cells scope.names []) tgs fr C fp s H) pl σ6 H' s' → Inv (cxBlk X scope (closL X.env.cells scope.names []) tgs fr C fp s H) pl (blkSt tgs.length fr σ) H' s' := fun J =>
        J.weak len6.symm fun k v e => by
          by_cases hk : tgs.length ≤ k
          · rw [k6 k hk]; exact e
          · unfold blkSt at e
            rw [List.getElem?_append_left (by simpa using hk), List.getElem?_replicate, if_pos (by omega)] at e
            cases e
      cases ok with
      | false =>
        simp only [Bool.false_eq_true, if_false] at q7 ⊢
        obtain ⟨m', hm, w7⟩ := hN _ _ q7
        have pD := I7.pin (D, { cls := .type "list", data := .seq its.toArray nl }) (by simp)
        refine ⟨m', hm, i + 1, acc, its, H7, wk (I7.pins_of (pins' := []) fun p hp => absurd hp (by simp)), T.keep _ _ _ st5 fun b hb o e => (I7.pin (b, o) (List.mem_append_right _ (List.mem_append_right _ (mem_pinsAt hb e)))).1, fun b hb => ?_, pD.2.1, ⟨nl, pD.1⟩, rv3, w7⟩
        obtain ⟨o, e, d⟩ := T.obj _ _ st5 b hb
        exact (I7.pin (b, o) (List.mem_append_right _ (List.mem_append_right _ (mem_pinsAt hb e)))).2.1
      | true =>
        simp only [if_true] at q7 ⊢
        refine toF hE (he _ _ _ _ _ _ s7 σ6 H7 _ I7 q7) fun uy s8 ⟨y, H8, I8, r8, n8⟩ => ?_
        obtain ⟨m', hm, w8⟩ := hN _ _ n8
        have pD := I8.pin (D, { cls := .type "list", data := .seq its.toArray nl }) (by simp)
        have hits : its.toArray.size ≤ sizeLine := by
          have := rv3.length
          simp only [List.size_toArray]
          omega
        refine wpAny_list_append_plain (hsz := hits) (show s8.heap.PlainList D its.toArray from ⟨nl, pD.1⟩) fun h9 hl9 hs9 => ?_
        have I9 : Inv (cxBlk X scope (closL X.env.cells scope.names []) tgs fr C fp s H) [] σ6 H8 { s8 with heap := h9, toks := s8.toks } :=
          (I8.pins_of (pins' := []) fun p hp => absurd hp (by simp)).turned (it := D) (fun b o hb e => hs9.extBut b o hb e) pD.2.1 hDC (.inr (Nat.le_of_eq hDd)) clt fun p hp => absurd hp (by simp [cxBlk])
        refine ⟨m', hm, i + 1, acc ++ [y], its ++ [uy], H8, wk I9, T.keep _ _ _ st5 fun b hb o e => hs9.extBut b o (below b (hfp b hb)).2 (I8.pin (b, o) (List.mem_append_right _ (List.mem_append_right _ (mem_pinsAt hb e)))).1, fun b hb => ?_, pD.2.1, ?_, rv3.append (.cons r8 .nil), w8⟩
        · obtain ⟨o, e, d⟩ := T.obj _ _ st5 b hb
          exact (I8.pin (b, o) (List.mem_append_right _ (List.mem_append_right _ (mem_pinsAt hb e)))).2.1
        · have e : (its ++ [uy]).toArray = its.toArray.push uy := by simp
          rw [e]; exact hl9
  exact codeAny_compStart_list (loop _ rfl) (T.self _ 0 _ _ _ st1 (loop _ rfl))
theorem pe_comp (B : BlkOk X scope fr) (hc : X.calm = true) (hE : ∀ e s, X.xe e s → False) (hi : PI X tg iter wi)
    (hg : ∀ cl C fp s H, PG (cxBlk X scope cl tgs fr C fp s H) tg g) (gk : GKeeps tgs.length g)
    (ht : ∀ cl C fp s H, PIf (cxBlk X scope cl tgs fr C fp s H) ifs tt)
    (he : ∀ cl C fp s H, PE (cxBlk X scope cl tgs fr C fp s H) elt te)
    (hs : ∀ x, foldedSetIterable iter X.env x = pure x := by intro _; rfl) : PE X (.ListComp elt [⟨tg, iter, ifs, 0⟩] scope pos) (tComp wi g tt te tgs.length fr) := by
  intro pins s σ H Q I h
  rw [eval_ListComp]
  have hcl := closureFor_closL (scope := scope) (env := X.env) fun n hn => I.ok.has n (B.has n hn)
  refine wpAny_comprehension_free (use := none) rfl hs hcl B.kind B.names (wpAny_mono (hi pins s σ H _ I h) (fun xv s1 h1 => wpAny_mono h1 (fun itv s2 h2 => ?_) fun _ _ e => e) fun _ _ e => e)
  obtain ⟨it, fp, tn, J, H2, rfl, I2, T, st2, f2, W, ⟨m0, w0⟩, turn⟩ := h2
  refine comp_core (R := fun acc C => compPost (model X.prog X.w) X.A X.xe none (EP X pins σ Q) acc C) (Qe := fun acc H => ∀ p, H p = none → Q (.ref p) (upd H p (.lst acc))) B hc hE hg gk ht he I2 T st2 f2 W m0 w0 turn ?_
  intro D C s1 H1 acc its hD hC hDC I1 nC nD ⟨m, hn⟩ hl rv hz q
  refine ⟨m, hn, fun h' hs' => ?_⟩
  have fC := I2.fpOk (b := C) (H' := H1) hC nC
  have fD := I2.fpOk (b := D) (H' := H1) hD nD
  have I3 : Inv X pins σ H1 { s1 with heap := h', toks := s1.toks } := I1.turned (it := C) (fun b o hb e => hs'.extBut b o hb e) nC fC.2.1 fC.2.2.2.1 fC.2.2.2.2.1 fC.2.2.2.2.2
  obtain ⟨k, e⟩ := hl.extBut hs'.extBut hDC
  exact ⟨.ref D, upd H1 D (.lst acc), I3.track nD ⟨hz, its, k, rv, e⟩ fD.2.1 (Nat.le_trans I2.sz hD) fD.2.2.2.2.1 fD.2.2.2.2.2, rfl, q D nD⟩
theorem ps_setComp {i : Nat} {y : Str} {py spos : Pos} (hN : X.N.Nodup) (hiy : X.N[i]? = some y) (hy : Loc X.env.scope y) (B : BlkOk X scope fr) (hc : X.calm = true) (hE : ∀ e s, X.xe e s → False) (hi : PI X tg iter wi)
    (hg : ∀ cl C fp s H, PG (cxBlk X scope cl tgs fr C fp s H) tg g) (gk : GKeeps tgs.length g)
    (ht : ∀ cl C fp s H, PIf (cxBlk X scope cl tgs fr C fp s H) ifs tt)
    (he : ∀ cl C fp s H, PE (cxBlk X scope cl tgs fr C fp s H) elt te)
    (hsw : swapsWith (.ListComp elt [⟨tg, iter, ifs, 0⟩] scope pos) (some (.Name y py)) spos.line X.env = pure true := by rfl)
    (hf : X.fn y = true ∨ X.env.scope.names.lookup y = some .local := by first | exact .inl rfl | exact .inr rfl | assumption)
    (hs : ∀ x, foldedSetIterable iter X.env x = pure x := by intro _; rfl) : PS X (.Assign [.Name y py] (.ListComp elt [⟨tg, iter, ifs, 0⟩] scope pos) spos) (tAsg (tComp wi g tt te tgs.length fr) (gName i)) := by
  intro pins s σ H D0 I h
  rw [exec_Assign_Name_used _ _ _ _ hsw]
  have hcl := closureFor_closL (scope := scope) (env := X.env) fun n hn => I.ok.has n (B.has n hn)
  refine wpAny_bind (wpAny_standAt (wpAny_bind ?_))
  show wpAny _ X.A (do let _ ← comprehension (.ListComp elt [⟨tg, iter, ifs, 0⟩] scope pos) scope X.env _ (newList []) false (eval iter X.env) (some (assign (.Name y py) X.env))) _ _ s
  refine wpAny_bind (wpAny_mono (wpAny_comprehension_free (use := some (assign (.Name y py) X.env)) (Q := fun _ s' => SP X pins D0 .next s') rfl hs hcl B.kind B.names
    (wpAny_mono (hi pins s σ H _ I h) (fun xv s1 h1 => wpAny_mono h1 (fun itv s2 h2 => ?_) fun _ _ e => e) fun _ _ e => e)) (fun _ s' hq => wpAny_pure (wpAny_pure hq)) fun _ _ e => e)
  obtain ⟨it, fp, tn, J, H2, rfl, I2, T, st2, f2, W, ⟨m0, w0⟩, turn⟩ := h2
  refine comp_core (R := fun acc C => compPost (model X.prog X.w) X.A X.xe (some (assign (.Name y py) X.env)) (fun _ s' => SP X pins D0 .next s') acc C) (Qe := fun acc H => ∀ p, H p = none → gName i (.ref p) σ (upd H p (.lst acc)) D0.nx) B hc hE hg gk ht he I2 T st2 f2 W m0 w0 turn ?_
  intro D C s1 H1 acc its hD hC hDC I1 nC nD ⟨m, hn⟩ hl rv hz q
  have fC := I2.fpOk (b := C) (H' := H1) hC nC
  have fD := I2.fpOk (b := D) (H' := H1) hD nD
  obtain ⟨k, e⟩ := hl
  have I3 : Inv X pins σ (upd H1 D (.lst acc)) s1 := I1.track nD ⟨hz, its, k, rv, e⟩ fD.2.1 (Nat.le_trans I2.sz hD) fD.2.2.2.2.1 fD.2.2.2.2.2
  show wpAny _ X.A (assign (.Name y py) X.env (.ref D)) _ _ s1
  refine wpAny_assign_Name (store_ok2 I3 hN hiy hy (show RelV (.ref D) (.ref D) from rfl) (fun s2 J2 ⟨a, hsb, ha⟩ => ?_) hf)
  have aC : C ≠ a := by
    rcases ha with z | z
    · rw [z]; exact fC.2.1
    · exact Ne.symm (fC.2.2.2.2.1 _ _ z)
  refine ⟨m, hn.sameBut hsb aC, fun h' hs' => ?_⟩
  have nC' : (upd H1 D (.lst acc)) C = none := by rw [upd_ne (Ne.symm hDC)]; exact nC
  have I4 : Inv X pins (σ.set i (some (.ref D))) (upd H1 D (.lst acc)) { s2 with heap := h', toks := s2.toks } := J2.turned (it := C) (fun b o hb e => hs'.extBut b o hb e) nC' fC.2.1 fC.2.2.2.1 fC.2.2.2.2.1 fC.2.2.2.2.2
  exact ⟨_, _, I4, q D nD⟩
end
end L2

namespace L2
open PySem PySem.Spec PyProof.Rows
def cutS (x : Str) (lo hi : Option Int) : Str := ⟨((x.cps.toList.drop (HT.sIx x.length 0 lo)).take (HT.sIx x.length x.length hi - HT.sIx x.length 0 lo)).toArray⟩
theorem cutS_le (x : Str) (lo hi : Option Int) : (cutS x lo hi).length ≤ x.length := by
  show ((x.cps.toList.drop (HT.sIx x.length 0 lo)).take (HT.sIx x.length x.length hi - HT.sIx x.length 0 lo)).toArray.size ≤ x.cps.size
  rw [List.size_toArray, List.length_take, List.length_drop, Array.length_toList]
  omega
theorem strIdx (lo hi : Option Int) (n : Nat) : Builtin.Str.strSliceIndices lo hi 1 n = sliceRange ((HT.sIx n 0 lo : Nat) : Int) ((HT.sIx n n hi : Nat) : Int) 1 := by
  obtain ⟨h1, h2, h3⟩ := slice_bounds lo hi n
  rw [← h1, ← h2]
  rfl
theorem slice_cut (x : Str) (lo hi : Option Int) : Txt.slice x lo hi = cutS x lo hi := by
  have e : ((Builtin.Str.strSliceIndices lo hi 1 x.length).filterMap (x.cps[·]?)).toArray = (cutS x lo hi).cps := by
    rw [strIdx, sliceRange_one, pick_run]
    rfl
  unfold Txt.slice
  split
  · rename_i h
    have hl : (Builtin.Str.strSliceIndices lo hi 1 x.length).length = x.length := by simpa using h
    rw [strIdx, sliceRange_one, List.length_map, List.length_range] at hl
    have b1 := HT.sIx_le x.length 0 (Nat.zero_le _) lo
    have b2 := HT.sIx_le x.length x.length (Nat.le_refl _) hi
    have hlen : x.cps.toList.length = x.length := by simp [Str.length]
    unfold cutS
    by_cases h0 : x.length = 0
    · have : x.cps.toList = [] := List.length_eq_zero_iff.mp (by omega)
      rw [this]
      cases x with
      | mk c => simp at this; subst this; simp
    · have ea : HT.sIx x.length 0 lo = 0 := by omega
      have eb : HT.sIx x.length x.length hi = x.length := by omega
      rw [ea, eb, List.drop_zero, Nat.sub_zero, List.take_of_length_le (by omega)]
  · exact congrArg Str.mk e
section
variable {X : Cx}
def rSlS : V → Option Int → Option Int → Hp → VK → Prop := fun x lo hi H Q => ∃ z, x = .str z ∧ z.length ≤ sizeLine ∧ Q (.str (cutS z lo hi)) H
theorem isSlice_of {h : Heap} {sl : Addr} {vl vu : Value} {lo hi : Option Int} (hs : h.IsSliceOf sl vl vu .none) (pl : IsPart vl lo) (pu : IsPart vu hi) :
    ∃ l u : Option (Int × Tok), h.IsSlice sl l u none ∧ l.map (·.1) = lo ∧ u.map (·.1) = hi := by
  cases pl with
  | none =>
    cases pu with
    | none => exact ⟨none, none, hs, rfl, rfl⟩
    | int i t => exact ⟨none, some (i, t), hs, rfl, rfl⟩
  | int i t =>
    cases pu with
    | none => exact ⟨some (i, t), none, hs, rfl, rfl⟩
    | int j u => exact ⟨some (i, t), some (j, u), hs, rfl, rfl⟩
theorem sl_str : SlR X rSlS := by
  intro pins s σ H x v vl vu lo hi sl Q I rx hs pl pu h
  obtain ⟨z, rfl, hz, q⟩ := h
  obtain ⟨t, rfl⟩ := rx
  obtain ⟨l, u, hsl, rfl, rfl⟩ := isSlice_of hs pl pu
  refine ⟨"str", _, PySem.F.slot_str_getitem.lookup, typeIs_str _ _ _, wpAny_getItem_str_slice (l := l) (u := u) (st := none) hsl rfl ?_⟩
  rw [← slice_cut] at q
  exact post_val_or_str ⟨Nat.le_trans (Txt.slice_le z _ _) hz, fun t' k => ⟨.str (Txt.slice z (l.map (·.1)) (u.map (·.1))), H, I.tok k, ⟨_, rfl⟩, q⟩⟩
theorem strsAre_of {ys : List Str} : ∀ {us : List Value}, Vals (ys.map V.str) us → StrsAre us ys := by
  induction ys with
  | nil => intro us r; rw [List.map_nil] at r; cases r; exact .nil
  | cons n ns ih =>
    intro us r
    rw [List.map_cons] at r
    cases r with
    | cons r1 r2 =>
      obtain ⟨t, e⟩ := r1
      subst e
      exact .cons n t (ih r2)
def rJoin (K : PySem.W.Frag) : V → List V → Hp → VK → Prop := fun x vs H Q => ∃ (z : Str) (p : Addr) (ys : List Str), x = .str z ∧ vs = [.ref p] ∧ SqL K H p (ys.map V.str) ∧ (ys.map (·.length)).sum + ys.length * z.length ≤ 16777216 ∧ Q (.str (Txt.join z ys)) H
theorem mt_join : MtR X "str.join" (rJoin X.K) := by
  intro pins s σ H x xs v us Q I rx r h
  obtain ⟨z, p, ys, rfl, rfl, hq, hz, q⟩ := h
  obtain ⟨t, rfl⟩ := rx
  obtain ⟨u, rfl, r1⟩ := Vals.one r
  cases r1
  obtain ⟨its, rv, pl, _⟩ := I.list hq
  exact join_list pl.isList (by simpa using strsAre_of rv) hz fun t' k => ⟨.str (Txt.join z ys), H, I.tok k, ⟨_, rfl⟩, q⟩
def rMulS : R2 := fun x y H Q => ∃ z n, x = .str z ∧ y = .int n ∧ MulOk z n ∧ Q (.str (Txt.mul z n)) H
theorem op_mul_str : OpR X (binaryOp .Mult) rMulS := by
  intro pins s σ H x y v u Q I rx ry h
  obtain ⟨z, n, rfl, rfl, hok, q⟩ := h
  obtain ⟨t, rfl⟩ := rx
  obtain ⟨t', rfl⟩ := ry
  exact SB.mul hok fun t' k => ⟨.str (Txt.mul z n), H, I.tok k, ⟨_, rfl⟩, q⟩
theorem call_all_bl (hc : X.calm = true) : CallR X (.builtin "all") (fun xs H Q => ∃ (p : Addr) (bs : List Bool), xs = [.ref p] ∧ SqL X.K H p (bs.map V.bl) ∧ Q (.bl (bs.all id)) H) := by
  intro pins s σ H xs us Q I r h
  obtain ⟨p, bs, rfl, hq, q⟩ := h
  obtain ⟨u, rfl, r1⟩ := vals1 r
  cases r1
  obtain ⟨its, rv, pl, hz⟩ := I.list hq
  refine call_all_walk (wpAny_pyIter_list pl.isList ?_)
  have hne : p ≠ s.heap.objs.size := by
    obtain ⟨o, n, e, _⟩ := pl
    exact Nat.ne_of_lt (Heap.lt_size e)
  have hlen : its.length = bs.length := by rw [← rv.length, List.length_map]
  refine ⟨s.heap.objs.size, _, _, _, _, _, fun i => (bs[i]?).getD false, rfl, Walks.list (A := X.A.in1) (show X.A.in1.handled = none from I.ok.hd hc) s.heap.objs.size p hne its.toArray, ⟨⟨_, Heap.get?_push_size _ rfl, rfl, rfl⟩, pl.isList.at fun o e => Heap.get?_push_of_some _ e⟩, ?_, fun h' tk hk => ?_⟩
  · intro i v s' Q' E' hP hQ
    have hP' : its[i]? = some v := by simpa using hP
    have hi : i < bs.length := by rw [← hlen]; exact (List.getElem?_eq_some_iff.mp hP').1
    have hb : (bs.map V.bl)[i]? = some (V.bl bs[i]) := by simp [hi]
    obtain ⟨u, hu, ru⟩ := rv.get hb
    rw [hP'] at hu
    cases hu
    have e : v = Value.bool bs[i] := ru
    subst e
    have : (bs[i]?).getD false = bs[i] := by simp [hi]
    dsimp only at hQ
    rw [this] at hQ
    exact wpAny_truthy_bool hQ
  · refine ⟨.bl (bs.all id), H, I.kept (t' := tk) fun b o e => hk b o (by simpa using Nat.ne_of_lt (Heap.lt_size e)) (Heap.get?_push_of_some _ e), ?_, q⟩
    show Value.bool _ = Value.bool _
    congr 1
    rw [List.size_toArray, hlen]
    rw [Bool.eq_iff_iff]
    simp only [List.all_eq_true, List.mem_range, id]
    constructor
    · intro h b hb
      obtain ⟨i, hi, rfl⟩ := List.mem_iff_getElem.mp hb
      have := h i hi
      simpa [hi] using this
    · intro h i hi
      simpa [hi] using h bs[i] (List.getElem_mem hi)
end
def Its (x : Str) : It := ⟨fun i _ => i < x.cps.size, fun i H v H' => H' = H ∧ ∃ c, x.cps[i]? = some c ∧ v = .str ⟨#[c]⟩, fun i _ => i = x.cps.size⟩
theorem turn_str {P : Program} {w : World} {K : PySem.W.Frag} {tg : Expr} (it : Addr) (x : Str) (t : Tok) (ty : String) (hty : ["enumerate", "zip", "dict_itemiterator", "dict_reverseitemiterator", "odict_iterator", "itertools.zip_longest", "itertools.pairwise"].contains ty = false)
    (W : ∀ A' : Around, A'.handled = none → Walks P w A' it [it] [it] x.cps.size (SignAt x) (fun i h => h.IsStrIter it ty x t i))
    (self : ∀ (A : Around) (i : Nat) (s : Shared) (Q : Value → Shared → Prop) (E : Value → Shared → Prop), s.heap.IsStrIter it ty x t i → Q (.ref it) s → wpAny (model P w) A (pyIter (.ref it)) Q E s) :
    Turn P w K tg (Its x) [it] it (fun i h => h.IsStrIter it ty x t i) where
  mem := by simp
  obj := fun i h st b hb => by
    have e : b = it := by simpa using hb
    subst e
    obtain ⟨o, e, c, d⟩ := st
    exact ⟨o, e, fun v z => by rw [d] at z; cases z⟩
  keep := fun i h h' st k => by
    obtain ⟨o, e, c, d⟩ := st
    exact ⟨o, k it (by simp) o e, c, d⟩
  item := by
    intro X hP hw hK hc i pins s σ H E I hf st hg
    subst hP hw hK
    obtain ⟨f0, f1, f2, f3, f4, f5⟩ := hf it (by simp)
    refine (W X.A (I.ok.hd hc)).item i s _ _ hg st fun v h' tk hv st' kk => ?_
    obtain ⟨c, u, hx, rfl⟩ := hv
    have I1 : Inv X pins σ H { s with heap := h', toks := tk } := I.turned (fun b o hb e => kk b o (by simpa using hb) e) f0 f1 f3 f4 f5
    obtain ⟨o, e, cc, d⟩ := id st'
    exact ⟨_, rfl, go_of (s := { s with heap := h', toks := tk }) e cc d hty ⟨.str ⟨#[c]⟩, H, I1, ⟨u, rfl⟩, ⟨rfl, c, hx, rfl⟩, st', fun b hb => (hf b hb).1⟩⟩
  done := by
    intro X hP hw hK hc i pins s σ H E I hf st hg
    subst hP hw hK
    obtain ⟨f0, f1, f2, f3, f4, f5⟩ := hf it (by simp)
    have hg : i = x.cps.size := hg
    subst hg
    exact (W X.A (I.ok.hd hc)).done s _ _ st fun h' tk kk => ⟨rfl, I.turned (fun b o hb e => kk b o (by simpa using hb) e) f0 f1 f3 f4 f5⟩
  self := self
section
variable {X : Cx} {tg : Expr}
end
end L2

namespace L2
open PySem PySem.Spec PyProof.Rows
section
variable {X : Cx}
theorem IxR.imp {r r' : R2} (h : IxR X r) (k : ∀ x y H Q, r' x y H Q → r x y H Q) : IxR X r' := fun value slice pins s σ H x y v u Q I rx ry q => h value slice pins s σ H x y v u Q I rx ry (k x y H Q q)
theorem SlR.imp {r r' : V → Option Int → Option Int → Hp → VK → Prop} (h : SlR X r) (k : ∀ x lo hi H Q, r' x lo hi H Q → r x lo hi H Q) : SlR X r' :=
  fun pins s σ H x v vl vu lo hi sl Q I rx hs pl pu q => h pins s σ H x v vl vu lo hi sl Q I rx hs pl pu (k x lo hi H Q q)
def aIx (K : PySem.W.Frag) : R2 := fun x y H Q => match x, y with
  | .ref p, .int i => ∃ xs v, (SqL K H p xs ∨ SqT K H p xs) ∧ atI xs i = some v ∧ Q v H
  | .str z, .int i => z.length ≤ sizeLine ∧ ∃ c, atI z.cps.toList i = some c ∧ Q (.str ⟨#[c]⟩) H
  | _, _ => False
theorem x_ix : IxR X (aIx X.K) := ix_seq.imp fun x y H Q q => by
  cases x <;> cases y <;> first
    | exact False.elim q
    | (obtain ⟨xs, v, h | h, e, q⟩ := q
       · exact .inl ⟨_, xs, _, v, rfl, rfl, h, e, q⟩
       · exact .inr (.inl ⟨_, xs, _, v, rfl, rfl, h, e, q⟩))
    | (obtain ⟨hz, c, e, q⟩ := q
       exact .inr (.inr ⟨_, _, c, rfl, rfl, hz, e, q⟩))
def aSl (K : PySem.W.Frag) : V → Option Int → Option Int → Hp → VK → Prop := fun x lo hi H Q => match x with
  | .str z => z.length ≤ sizeLine ∧ Q (.str (cutS z lo hi)) H
  | .ref a => rSlL K (.ref a) lo hi H Q ∨ rSlT K (.ref a) lo hi H Q
  | _ => False
theorem s_sl : SlR X (aSl X.K) := (sl_str.or (sl_list.or sl_tup)).imp fun x lo hi H Q q => by
  cases x <;> first | exact False.elim q | exact .inl ⟨_, rfl, q⟩ | exact .inr q
end
end L2

namespace L2
open PySem PySem.Spec PyProof.Rows
structure DefOk (P : Program) (w : World) (K : PySem.W.Frag) (mg : Str → Option Value) (base : Heap) (k : Nat) (x : Str) (ps : List Str) (sp : Sp) : Prop where
  ex : ∃ (f : Addr) (fd : FuncData), FnOk P w K mg base CX0 k f fd ps sp ∧ mg x = some (.ref f) ∧ PySem.W.keepIn K (.ref f) = true ∧ Binds K fd ps []
theorem DefOk.of {P : Program} {w : World} {K : PySem.W.Frag} {mg : Str → Option Value} {base : Heap} {k : Nat} {x qual : Str} {ps : List Str} {sp : Sp} {st : Stmt} {f : Addr} {fd : FuncData} (F : Fun K x qual st f fd) (G : FnOk P w K mg base CX0 k f fd ps sp) (hm : mg x = some (.ref f)) (b : Binds K fd ps []) :
    DefOk P w K mg base k x ps sp := ⟨f, fd, G, hm, F.kp, b⟩
def tD (sp : Sp) (t : TA) : TE := fun σ H Q => t σ H fun vs H1 => sp vs H1 Q E0
section
variable {X : Cx} {x : Str} {p pos : Pos} {e : Expr} {es : List Expr} {t : TA} {k j : Nat} {ps : List Str} {sp : Sp}
theorem pe_def (d : DefOk X.prog X.w X.K X.mg X.base k x ps sp) (hr : Room k X.A) (hg : Gl X x) (ha : PA X (e :: es) t) (hdb : (x == ("__debug__" : Str)) = false := by decide) (he : starEach (e :: es) X.env = (false, eval e X.env) :: starEach es X.env := by rfl)
    (hpl : (backTo pos (starEach es X.env)).any (·.1) = false := by rfl) : PE X (.Call (.Name x p) (e :: es) [] pos) (tD sp t) := by
  obtain ⟨f, fd, G, hm, kp, b⟩ := d.ex
  intro pins s σ H Q I h
  have h' : tCall sp [] E0 t σ H Q := by
    show t σ H fun vs H1 => sp (vs ++ []) H1 Q E0
    have e : (fun (vs : List V) (H1 : Hp) => sp (vs ++ []) H1 Q E0) = fun vs H1 => sp vs H1 Q E0 := by
      funext vs H1
      rw [List.append_nil]
    rw [e]
    exact h
  exact pe_call (E := E0) G hr hg hm kp b .nil pass0 ha hdb he hpl pins s σ H Q I h'
end
def blkCheck (X : Cx) (scope : Scope) (fr : List Nat) : Bool :=
  (scope.kind == .function) && (scope.names.all fun y => y.2 != .cell && (y.2 != .local || scope.names.lookup y.1 == some .local) && (y.2 != .free || X.env.kindOf y.1 == some .cell || X.env.kindOf y.1 == some .free)) &&
  (fr.all fun j => decide (j < X.N.length) && scope.names.lookup (X.N.getD j "") == some .free)
theorem blk_of {X : Cx} {scope : Scope} {fr : List Nat} (h : blkCheck X scope fr = true) : BlkOk X scope fr := by
  unfold blkCheck at h
  rw [Bool.and_eq_true, Bool.and_eq_true] at h
  obtain ⟨⟨h1, h2⟩, h3⟩ := h
  rw [List.all_eq_true] at h2 h3
  refine ⟨by simpa using h1, fun y hy => ?_, fun y hy hl => ?_, fun n hn => ?_, fun j hj => ?_⟩
  · have := h2 y hy
    simp only [Bool.and_eq_true] at this
    simpa using this.1.1
  · have := h2 y hy
    simp only [Bool.and_eq_true] at this
    have := this.1.2
    rw [hl] at this
    simpa using this
  · have := h2 _ hn
    simp only [Bool.and_eq_true] at this
    have := this.2
    simpa using this
  · have := h3 j hj
    rw [Bool.and_eq_true] at this
    exact ⟨by simpa using this.1, by simpa using this.2⟩
section
variable {X : Cx} {tg : Expr}
def iAny (K : PySem.W.Frag) (tl : TE) : TI := fun σ H R => tl σ H fun x H1 => match x with
  | .str z => R (Its z) H1
  | .ref a => (∃ xs, SqL K H1 a xs ∧ R (Itl K a) H1) ∨ (∃ xs, SqT K H1 a xs ∧ R (Itt K a) H1)
  | _ => False
theorem pi_any {l : Expr} {tl : TE} (hl : PE X l tl) : PI X tg l (iAny X.K tl) := by
  intro pins s σ H R I h
  have hl' : PE X l (fun σ' H' Q => Q = Q ∧ tl σ' H' Q) := fun pins s σ H Q I q => hl pins s σ H Q I q.2
  refine thn (hl pins s σ H _ I h) fun v s1 ⟨x, H1, I1, r1, q1⟩ => ?_
  have fp : ∀ b ∈ [s1.heap.objs.size], FpOk X pins H1 b := fun b hb => by
    have e : b = s1.heap.objs.size := by simpa using hb
    subst e
    exact I1.fpOk (Nat.le_refl _) (I1.hok.fresh (Nat.le_refl _))
  cases x with
  | str z =>
    have q : R (Its z) H1 := q1
    obtain ⟨t, rfl⟩ := r1
    cases ha : z.cps.all (· < 128)
    · exact wpAny_pyIter_wide ha ⟨s1.heap.objs.size, [s1.heap.objs.size], _, Its z, H1, rfl, I1.kept (t' := s1.toks) fun b o e => Heap.get?_push_of_some _ e, turn_str _ z t "str_iterator" (by decide) (fun A' hA => Walks.strWide hA _ z t) (fun _ _ _ _ _ st h => wpAny_pyIter_striter_wide st h), ⟨_, Heap.get?_push_size _ rfl, rfl, rfl⟩, fp, q⟩
    · exact wpAny_pyIter_ascii ha ⟨s1.heap.objs.size, [s1.heap.objs.size], _, Its z, H1, rfl, I1.kept (t' := s1.toks) fun b o e => Heap.get?_push_of_some _ e, turn_str _ z t "str_ascii_iterator" (by decide) (fun A' hA => Walks.strAscii hA _ z t) (fun _ _ _ _ _ st h => wpAny_pyIter_striter_ascii st h), ⟨_, Heap.get?_push_size _ rfl, rfl, rfl⟩, fp, q⟩
  | ref a =>
    cases (show v = Value.ref a from r1)
    rcases q1 with ⟨xs, hq, q⟩ | ⟨xs, hq, q⟩
    · obtain ⟨its, rv, p, hz⟩ := I1.list hq
      exact wpAny_pyIter_list p.isList ⟨s1.heap.objs.size, [s1.heap.objs.size], _, _, H1, rfl, I1.kept (t' := s1.toks) fun b o e => Heap.get?_push_of_some _ e, turn_list a _, ⟨_, Heap.get?_push_size _ rfl, rfl, rfl⟩, fp, q⟩
    · obtain ⟨its, rv, p, hz⟩ := I1.tuple hq
      exact wpAny_pyIter_tuple (show s1.heap.IsTuple a its.toArray from p) ⟨s1.heap.objs.size, [s1.heap.objs.size], _, _, H1, rfl, I1.kept (t' := s1.toks) fun b o e => Heap.get?_push_of_some _ e, turn_tuple a _, ⟨_, Heap.get?_push_size _ rfl, rfl, rfl⟩, fp, q⟩
  | _ => exact False.elim q1
end
section
variable {g : TG} {tt : TT} {te : TE} {σc : St} {H : Hp} {Q : V → Hp → Prop} {K : PySem.W.Frag}
end
end L2

namespace L3
open PySem PySem.Spec L2
inductive D where
  | non | bl (b : Bool) | int (i : Int) | str (x : Str) | ty (n : String) | ref (a : Addr)
  | tup (xs : List D)
  | fl (xs : List D)
def FrL (K : PySem.W.Frag) (H : Hp) (p : Addr) (xs : List V) : Prop :=
  (∃ o, H p = some (.frz o (.lst xs))) ∨ ∃ (o : Obj) (its : Array Value) (n : Nat), K.lookup p = some o ∧ o.cls = .type "list" ∧ o.dict = none ∧ o.data = .seq its n ∧ its.size ≤ sizeLine ∧ Vals xs its.toList
theorem FrL.sq {K : PySem.W.Frag} {H : Hp} {p : Addr} {xs : List V} (h : FrL K H p xs) : SqL K H p xs := by
  rcases h with h | h
  · exact .inl (.inr h)
  · exact .inr h
mutual
def Dat (K : PySem.W.Frag) (H : Hp) : D → V → Prop
  | .non, v => v = .non
  | .bl b, v => v = .bl b
  | .int i, v => v = .int i
  | .str x, v => v = .str x
  | .ty n, v => v = .ty n
  | .ref a, v => v = .ref a
  | .tup ds, v => ∃ p xs, v = .ref p ∧ SqT K H p xs ∧ Dats K H ds xs
  | .fl ds, v => ∃ p xs, v = .ref p ∧ FrL K H p xs ∧ Dats K H ds xs
def Dats (K : PySem.W.Frag) (H : Hp) : List D → List V → Prop
  | [], xs => xs = []
  | d :: ds, xs => ∃ x r, xs = x :: r ∧ Dat K H d x ∧ Dats K H ds r
end
structure TExt (H H' : Hp) : Prop where
  tup : ∀ b xs, H b = some (.tup xs) → H' b = some (.tup xs)
  frz : ∀ b o u, H b = some (.frz o u) → H' b = some (.frz o u)
theorem TExt.refl (H : Hp) : TExt H H := ⟨fun _ _ h => h, fun _ _ _ h => h⟩
theorem TExt.trans {H H1 H2 : Hp} (a : TExt H H1) (b : TExt H1 H2) : TExt H H2 := ⟨fun c xs h => b.tup c xs (a.tup c xs h), fun c o u h => b.frz c o u (a.frz c o u h)⟩
theorem TExt.laid {H : Hp} {p : Addr} {o : HO} (h : H p = none) : TExt H (upd H p o) :=
  ⟨fun b xs e => by rw [upd_ne (ne_of_none e h)]; exact e, fun b ob u e => by rw [upd_ne (ne_of_none e h)]; exact e⟩
theorem TExt.lst {H : Hp} {p : Addr} {xs : List V} {o : HO} (h : H p = some (.lst xs)) : TExt H (upd H p o) :=
  ⟨fun b ys e => by rw [upd_ne (ne_of e h (by intro z; cases z))]; exact e, fun b ob u e => by rw [upd_ne (ne_of e h (by intro z; cases z))]; exact e⟩
theorem sqT_mono {K : PySem.W.Frag} {H H' : Hp} (t : TExt H H') {p : Addr} {xs : List V} (h : SqT K H p xs) : SqT K H' p xs := by
  rcases h with (h | ⟨o, h⟩) | h
  · exact .inl (.inl (t.tup _ _ h))
  · exact .inl (.inr ⟨o, t.frz _ _ _ h⟩)
  · exact .inr h
theorem frL_mono {K : PySem.W.Frag} {H H' : Hp} (t : TExt H H') {p : Addr} {xs : List V} (h : FrL K H p xs) : FrL K H' p xs := by
  rcases h with ⟨o, h⟩ | h
  · exact .inl ⟨o, t.frz _ _ _ h⟩
  · exact .inr h
mutual
theorem Dat.mono {K : PySem.W.Frag} {H H' : Hp} (t : TExt H H') : ∀ (d : D) {v : V}, Dat K H d v → Dat K H' d v
  | .non, v, h => by unfold Dat at h ⊢; exact h
  | .bl b, v, h => by unfold Dat at h ⊢; exact h
  | .int i, v, h => by unfold Dat at h ⊢; exact h
  | .str x, v, h => by unfold Dat at h ⊢; exact h
  | .ty n, v, h => by unfold Dat at h ⊢; exact h
  | .ref a, v, h => by unfold Dat at h ⊢; exact h
  | .tup ds, v, h => by
    unfold Dat at h ⊢
    obtain ⟨p, xs, e, q, r⟩ := h
    exact ⟨p, xs, e, sqT_mono t q, Dats.mono t ds r⟩
  | .fl ds, v, h => by
    unfold Dat at h ⊢
    obtain ⟨p, xs, e, q, r⟩ := h
    exact ⟨p, xs, e, frL_mono t q, Dats.mono t ds r⟩
theorem Dats.mono {K : PySem.W.Frag} {H H' : Hp} (t : TExt H H') : ∀ (ds : List D) {xs : List V}, Dats K H ds xs → Dats K H' ds xs
  | [], xs, h => by unfold Dats at h ⊢; exact h
  | d :: ds, xs, h => by
    unfold Dats at h ⊢
    obtain ⟨x, r, e, a, b⟩ := h
    exact ⟨x, r, e, Dat.mono t d a, Dats.mono t ds b⟩
end
section
variable {K : PySem.W.Frag} {H : Hp}
theorem dat_non {v : V} : Dat K H .non v ↔ v = .non := by unfold Dat; exact Iff.rfl
theorem dat_bl {b : Bool} {v : V} : Dat K H (.bl b) v ↔ v = .bl b := by unfold Dat; exact Iff.rfl
theorem dat_int {i : Int} {v : V} : Dat K H (.int i) v ↔ v = .int i := by unfold Dat; exact Iff.rfl
theorem dat_str {x : Str} {v : V} : Dat K H (.str x) v ↔ v = .str x := by unfold Dat; exact Iff.rfl
theorem dat_ty {n : String} {v : V} : Dat K H (.ty n) v ↔ v = .ty n := by unfold Dat; exact Iff.rfl
theorem dat_ref {a : Addr} {v : V} : Dat K H (.ref a) v ↔ v = .ref a := by unfold Dat; exact Iff.rfl
theorem dat_tup {ds : List D} {v : V} : Dat K H (.tup ds) v ↔ ∃ p xs, v = .ref p ∧ SqT K H p xs ∧ Dats K H ds xs := by rw [Dat]
theorem dat_fl {ds : List D} {v : V} : Dat K H (.fl ds) v ↔ ∃ p xs, v = .ref p ∧ FrL K H p xs ∧ Dats K H ds xs := by rw [Dat]
theorem dats_nil {xs : List V} : Dats K H [] xs ↔ xs = [] := by unfold Dats; exact Iff.rfl
theorem dats_cons {d : D} {ds : List D} {xs : List V} : Dats K H (d :: ds) xs ↔ ∃ x r, xs = x :: r ∧ Dat K H d x ∧ Dats K H ds r := by rw [Dats]
theorem Dats.length : ∀ {ds : List D} {xs : List V}, Dats K H ds xs → xs.length = ds.length
  | [], xs, h => by rw [dats_nil] at h; subst h; rfl
  | d :: ds, xs, h => by
    rw [dats_cons] at h
    obtain ⟨x, r, rfl, _, q⟩ := h
    rw [List.length_cons, List.length_cons, q.length]
theorem Dats.get : ∀ {ds : List D} {xs : List V} {i : Nat} {d : D}, Dats K H ds xs → ds[i]? = some d → ∃ x, xs[i]? = some x ∧ Dat K H d x
  | [], xs, i, d, h, e => by simp at e
  | d0 :: ds, xs, i, d, h, e => by
    rw [dats_cons] at h
    obtain ⟨x, r, rfl, a, q⟩ := h
    cases i with
    | zero => simp at e; subst e; exact ⟨x, rfl, a⟩
    | succ i =>
      obtain ⟨y, h1, h2⟩ := Dats.get q (by simpa using e)
      exact ⟨y, by simpa using h1, h2⟩
theorem Dats.getV : ∀ {ds : List D} {xs : List V} {i : Nat} {x : V}, Dats K H ds xs → xs[i]? = some x → ∃ d, ds[i]? = some d ∧ Dat K H d x
  | [], xs, i, x, h, e => by rw [dats_nil] at h; subst h; simp at e
  | d0 :: ds, xs, i, x, h, e => by
    rw [dats_cons] at h
    obtain ⟨y, r, rfl, a, q⟩ := h
    cases i with
    | zero => simp at e; subst e; exact ⟨d0, rfl, a⟩
    | succ i =>
      obtain ⟨d, h1, h2⟩ := Dats.getV q (by simpa using e)
      exact ⟨d, by simpa using h1, h2⟩
theorem Dats.append : ∀ {ds es : List D} {xs ys : List V}, Dats K H ds xs → Dats K H es ys → Dats K H (ds ++ es) (xs ++ ys)
  | [], es, xs, ys, h, q => by rw [dats_nil] at h; subst h; exact q
  | d :: ds, es, xs, ys, h, q => by
    rw [dats_cons] at h
    obtain ⟨x, r, rfl, a, b⟩ := h
    rw [List.cons_append, List.cons_append, dats_cons]
    exact ⟨x, _, rfl, a, b.append q⟩
theorem Dats.one {d : D} {v : V} (h : Dat K H d v) : Dats K H [d] [v] := by
  rw [dats_cons]
  exact ⟨v, [], rfl, h, by rw [dats_nil]⟩
theorem Dats.take : ∀ {ds : List D} {xs : List V} (n : Nat), Dats K H ds xs → Dats K H (ds.take n) (xs.take n)
  | ds, xs, 0, h => by simp [dats_nil]
  | [], xs, n + 1, h => by rw [dats_nil] at h; subst h; simp [dats_nil]
  | d :: ds, xs, n + 1, h => by
    rw [dats_cons] at h
    obtain ⟨x, r, rfl, a, b⟩ := h
    rw [List.take_succ_cons, List.take_succ_cons, dats_cons]
    exact ⟨x, _, rfl, a, b.take n⟩
theorem Dats.drop : ∀ {ds : List D} {xs : List V} (n : Nat), Dats K H ds xs → Dats K H (ds.drop n) (xs.drop n)
  | ds, xs, 0, h => h
  | [], xs, n + 1, h => by rw [dats_nil] at h; subst h; simp [dats_nil]
  | d :: ds, xs, n + 1, h => by
    rw [dats_cons] at h
    obtain ⟨x, r, rfl, a, b⟩ := h
    exact b.drop n
theorem Dats.set {d : D} {x : V} (hd : Dat K H d x) : ∀ {ds : List D} {xs : List V} (n : Nat), Dats K H ds xs → Dats K H (ds.set n d) (xs.set n x)
  | [], xs, n, h => by rw [dats_nil] at h; subst h; simp [dats_nil]
  | d0 :: ds, xs, 0, h => by
    rw [dats_cons] at h
    obtain ⟨y, r, rfl, a, b⟩ := h
    rw [List.set_cons_zero, List.set_cons_zero, dats_cons]
    exact ⟨x, _, rfl, hd, b⟩
  | d0 :: ds, xs, n + 1, h => by
    rw [dats_cons] at h
    obtain ⟨y, r, rfl, a, b⟩ := h
    rw [List.set_cons_succ, List.set_cons_succ, dats_cons]
    exact ⟨y, _, rfl, a, b.set hd n⟩
theorem dats_ints : ∀ (ns : List Int), Dats K H (ns.map D.int) (ns.map V.int)
  | [] => by simp [dats_nil]
  | n :: ns => by
    rw [List.map_cons, List.map_cons, dats_cons]
    exact ⟨_, _, rfl, dat_int.mpr rfl, dats_ints ns⟩
theorem dats_bls : ∀ {bs : List Bool} {xs : List V}, Dats K H (bs.map D.bl) xs → xs = bs.map V.bl
  | [], xs, h => by rw [List.map_nil, dats_nil] at h; exact h
  | b :: bs, xs, h => by
    rw [List.map_cons, dats_cons] at h
    obtain ⟨x, r, rfl, a, q⟩ := h
    rw [dat_bl] at a
    rw [a, dats_bls q]
    rfl
theorem dats_strs : ∀ {ys : List Str} {xs : List V}, Dats K H (ys.map D.str) xs → xs = ys.map V.str
  | [], xs, h => by rw [List.map_nil, dats_nil] at h; exact h
  | b :: bs, xs, h => by
    rw [List.map_cons, dats_cons] at h
    obtain ⟨x, r, rfl, a, q⟩ := h
    rw [dat_str] at a
    rw [a, dats_strs q]
    rfl
end
inductive MO where
  | lst (ds : List D)
abbrev Mem := Addr → Option MO
def updM (M : Mem) (a : Addr) (o : MO) : Mem := fun b => if b = a then some o else M b
theorem updM_same {M : Mem} {a : Addr} {o : MO} : updM M a o a = some o := by unfold updM; rw [if_pos rfl]
theorem updM_ne {M : Mem} {a b : Addr} {o : MO} (h : b ≠ a) : updM M a o b = M b := by unfold updM; rw [if_neg h]
theorem updM_updM {M : Mem} {a : Addr} {o u : MO} : updM (updM M a o) a u = updM M a u := by funext b; unfold updM; split <;> rfl
def MRel (K : PySem.W.Frag) (H : Hp) (a : Addr) : MO → Prop
  | .lst ds => ∃ xs, H a = some (.lst xs) ∧ Dats K H ds xs
def RelM (K : PySem.W.Frag) (H : Hp) (M : Mem) : Prop := ∀ a o, M a = some o → MRel K H a o
theorem MRel.there {K : PySem.W.Frag} {H : Hp} {a : Addr} {o : MO} (h : MRel K H a o) : ∃ u, H a = some u := by
  cases o with
  | lst ds => obtain ⟨xs, h, _⟩ := h; exact ⟨_, h⟩
theorem MRel.mono {K : PySem.W.Frag} {H H' : Hp} {a : Addr} {o : MO} (h : MRel K H a o) (t : TExt H H') (e : H' a = H a) : MRel K H' a o := by
  cases o with
  | lst ds => obtain ⟨xs, h, q⟩ := h; exact ⟨xs, e.trans h, Dats.mono t ds q⟩
theorem RelM.free {K : PySem.W.Frag} {H : Hp} {M : Mem} (h : RelM K H M) {p : Addr} (n : H p = none) : M p = none := by
  cases e : M p with
  | none => rfl
  | some o => obtain ⟨u, q⟩ := (h p o e).there; rw [n] at q; cases q
theorem RelM.laid {K : PySem.W.Frag} {H : Hp} {M : Mem} (h : RelM K H M) {p : Addr} {o : HO} (n : H p = none) : RelM K (upd H p o) M := fun a u e => by
  obtain ⟨w, q⟩ := (h a u e).there
  exact (h a u e).mono (TExt.laid n) (upd_ne (ne_of_none q n))
theorem RelM.put {K : PySem.W.Frag} {H : Hp} {M : Mem} (h : RelM K H M) {p : Addr} {o : HO} {u : MO} (t : TExt H (upd H p o)) (new : MRel K (upd H p o) p u) : RelM K (upd H p o) (updM M p u) := fun a w e => by
  by_cases ha : a = p
  · subst ha; rw [updM_same] at e; cases e; exact new
  · rw [updM_ne ha] at e
    exact (h a w e).mono t (upd_ne ha)
def MSub (M M' : Mem) : Prop := ∀ a o, M a = some o → M' a = some o
theorem MSub.refl (M : Mem) : MSub M M := fun _ _ h => h
theorem MSub.put {M M' : Mem} {p : Addr} {o : MO} (h : MSub M M') (n : M p = none) : MSub M (updM M' p o) := fun a u e => by
  rw [updM_ne (fun z => by subst z; rw [n] at e; cases e)]
  exact h a u e
theorem RelM.sub {K : PySem.W.Frag} {H : Hp} {M M' : Mem} (h : RelM K H M') (s : MSub M M') : RelM K H M := fun a o e => h a o (s a o e)
abbrev St2 := List (Option D)
structure StRel (K : PySem.W.Frag) (H : Hp) (δ : St2) (σ : St) : Prop where
  len : δ.length = σ.length
  get : ∀ (i : Nat) (d : D), δ[i]? = some (some d) → ∃ v, σ[i]? = some (some v) ∧ Dat K H d v
theorem StRel.mono {K : PySem.W.Frag} {H H' : Hp} {δ : St2} {σ : St} (h : StRel K H δ σ) (t : TExt H H') : StRel K H' δ σ :=
  ⟨h.len, fun i d e => let ⟨v, q, r⟩ := h.get i d e; ⟨v, q, Dat.mono t d r⟩⟩
theorem StRel.set {K : PySem.W.Frag} {H : Hp} {δ : St2} {σ : St} (h : StRel K H δ σ) {i : Nat} {d : D} {v : V} (r : Dat K H d v) : StRel K H (δ.set i (some d)) (σ.set i (some v)) := by
  refine ⟨by rw [List.length_set, List.length_set]; exact h.len, fun j e hj => ?_⟩
  by_cases hij : i = j
  · subst hij
    have hi : i < δ.length := by
      have := (List.getElem?_eq_some_iff.mp hj).1
      simpa using this
    rw [List.getElem?_set_self hi] at hj
    cases hj
    exact ⟨v, by rw [List.getElem?_set_self (by rw [← h.len]; exact hi)], r⟩
  · rw [List.getElem?_set_ne hij] at hj
    obtain ⟨u, q, w⟩ := h.get j e hj
    exact ⟨u, by rw [List.getElem?_set_ne hij]; exact q, w⟩
abbrev VK2 := D → Mem → Prop
abbrev TE2 := St2 → Mem → VK2 → Prop
abbrev TT2 := St2 → Mem → (Bool → Mem → Prop) → Prop
abbrev TA2 := St2 → Mem → (List D → Mem → Prop) → Prop
structure Ends2 where
  nx : St2 → Mem → Prop
  rt : VK2
  bk : St2 → Mem → Prop := fun _ _ => False
  ct : St2 → Mem → Prop := fun _ _ => False
abbrev TS2 := Ends2 → St2 → Mem → Prop
def Cont (K : PySem.W.Frag) (H : Hp) (Q2 : VK2) (Q : VK) : Prop := ∀ v H' d M', Dat K H' d v → RelM K H' M' → TExt H H' → Q2 d M' → Q v H'
def ContT (K : PySem.W.Frag) (H : Hp) (Q2 : Bool → Mem → Prop) (Q : Bool → Hp → Prop) : Prop := ∀ b H' M', RelM K H' M' → TExt H H' → Q2 b M' → Q b H'
def ContA (K : PySem.W.Frag) (H : Hp) (Q2 : List D → Mem → Prop) (Q : List V → Hp → Prop) : Prop := ∀ vs H' ds M', Dats K H' ds vs → RelM K H' M' → TExt H H' → Q2 ds M' → Q vs H'
def ContN (K : PySem.W.Frag) (H : Hp) (N2 : St2 → Mem → Prop) (N : St → Hp → Prop) : Prop := ∀ σ' H' δ' M', StRel K H' δ' σ' → RelM K H' M' → TExt H H' → N2 δ' M' → N σ' H'
structure ContS (K : PySem.W.Frag) (H : Hp) (D2 : Ends2) (E : Ends) : Prop where
  nx : ContN K H D2.nx E.nx
  rt : Cont K H D2.rt E.rt
  bk : ContN K H D2.bk E.bk
  ct : ContN K H D2.ct E.ct
theorem Cont.mono {K : PySem.W.Frag} {H H1 : Hp} {Q2 : VK2} {Q : VK} (c : Cont K H Q2 Q) (t : TExt H H1) : Cont K H1 Q2 Q := fun v H' d M' a b e q => c v H' d M' a b (t.trans e) q
theorem ContT.mono {K : PySem.W.Frag} {H H1 : Hp} {Q2 : Bool → Mem → Prop} {Q : Bool → Hp → Prop} (c : ContT K H Q2 Q) (t : TExt H H1) : ContT K H1 Q2 Q := fun v H' M' b e q => c v H' M' b (t.trans e) q
theorem ContN.mono {K : PySem.W.Frag} {H H1 : Hp} {N2 : St2 → Mem → Prop} {N : St → Hp → Prop} (c : ContN K H N2 N) (t : TExt H H1) : ContN K H1 N2 N := fun v H' d M' a b e q => c v H' d M' a b (t.trans e) q
theorem ContS.mono {K : PySem.W.Frag} {H H1 : Hp} {D2 : Ends2} {E : Ends} (c : ContS K H D2 E) (t : TExt H H1) : ContS K H1 D2 E := ⟨c.nx.mono t, c.rt.mono t, c.bk.mono t, c.ct.mono t⟩
def up (K : PySem.W.Frag) (t : TE2) : TE := fun σ H Q => ∃ δ M Q2, StRel K H δ σ ∧ RelM K H M ∧ t δ M Q2 ∧ Cont K H Q2 Q
def upT (K : PySem.W.Frag) (t : TT2) : TT := fun σ H Q => ∃ δ M Q2, StRel K H δ σ ∧ RelM K H M ∧ t δ M Q2 ∧ ContT K H Q2 Q
def upA (K : PySem.W.Frag) (t : TA2) : TA := fun σ H Q => ∃ δ M Q2, StRel K H δ σ ∧ RelM K H M ∧ t δ M Q2 ∧ ContA K H Q2 Q
def upS (K : PySem.W.Frag) (t : TS2) : TS := fun E σ H => ∃ δ M D2, StRel K H δ σ ∧ RelM K H M ∧ t D2 δ M ∧ ContS K H D2 E
abbrev QE (X : Cx) (e : Expr) (t : TE2) : Prop := PE X e (up X.K t)
abbrev QT (X : Cx) (e : Expr) (t : TT2) : Prop := PT X e (upT X.K t)
abbrev QW (X : Cx) (e : Expr) (t : TT2) : Prop := PW X e (upT X.K t)
abbrev QA (X : Cx) (es : List Expr) (t : TA2) : Prop := PA X es (upA X.K t)
abbrev QS (X : Cx) (st : Stmt) (t : TS2) : Prop := PS X st (upS X.K t)
abbrev QSs (X : Cx) (sts : List Stmt) (t : TS2) : Prop := PSs X sts (upS X.K t)
theorem peImp {X : Cx} {e : Expr} {t t' : TE} (h : PE X e t) (k : ∀ σ H Q, t' σ H Q → t σ H Q) : PE X e t' := fun pins s σ H Q I q => h pins s σ H Q I (k σ H Q q)
theorem ptImp {X : Cx} {e : Expr} {t t' : TT} (h : PT X e t) (k : ∀ σ H Q, t' σ H Q → t σ H Q) : PT X e t' := fun pins s σ H Q I q => h pins s σ H Q I (k σ H Q q)
theorem pwImp {X : Cx} {e : Expr} {t t' : TT} (h : PW X e t) (k : ∀ σ H Q, t' σ H Q → t σ H Q) : PW X e t' := fun wh pins s σ H Q I q => h wh pins s σ H Q I (k σ H Q q)
theorem paImp {X : Cx} {es : List Expr} {t t' : TA} (h : PA X es t) (k : ∀ σ H Q, t' σ H Q → t σ H Q) : PA X es t' := fun pos pins s σ H Q I q => h pos pins s σ H Q I (k σ H Q q)
theorem psImp {X : Cx} {st : Stmt} {t t' : TS} (h : PS X st t) (k : ∀ E σ H, t' E σ H → t E σ H) : PS X st t' := fun pins s σ H E I q => h pins s σ H E I (k E σ H q)
theorem pssImp {X : Cx} {sts : List Stmt} {t t' : TS} (h : PSs X sts t) (k : ∀ E σ H, t' E σ H → t E σ H) : PSs X sts t' := fun pins s σ H E I q => h pins s σ H E I (k E σ H q)
end L3

namespace L3
open PySem PySem.Spec L2
abbrev R22 := D → D → Mem → VK2 → Prop
def SndR (K : PySem.W.Frag) (r : R2) (r2 : R22) : Prop := ∀ x y d e H M Q2 Q, Dat K H d x → Dat K H e y → RelM K H M → r2 d e M Q2 → Cont K H Q2 Q → r x y H Q
def SndC (K : PySem.W.Frag) (r : List V → Hp → VK → Prop) (r2 : List D → Mem → VK2 → Prop) : Prop := ∀ xs ds H M Q2 Q, Dats K H ds xs → RelM K H M → r2 ds M Q2 → Cont K H Q2 Q → r xs H Q
def SndM (K : PySem.W.Frag) (r : V → List V → Hp → VK → Prop) (r2 : D → List D → Mem → VK2 → Prop) : Prop := ∀ x xs d ds H M Q2 Q, Dat K H d x → Dats K H ds xs → RelM K H M → r2 d ds M Q2 → Cont K H Q2 Q → r x xs H Q
def SndSl (K : PySem.W.Frag) (r : V → Option Int → Option Int → Hp → VK → Prop) (r2 : D → Option Int → Option Int → Mem → VK2 → Prop) : Prop := ∀ x d lo hi H M Q2 Q, Dat K H d x → RelM K H M → r2 d lo hi M Q2 → Cont K H Q2 Q → r x lo hi H Q
def OpS (X : Cx) (f : Value → Value → Sem Value) (r2 : R22) : Prop := ∃ r, OpR X f r ∧ SndR X.K r r2
def IxS (X : Cx) (r2 : R22) : Prop := ∃ r, IxR X r ∧ SndR X.K r r2
def SlS (X : Cx) (r2 : D → Option Int → Option Int → Mem → VK2 → Prop) : Prop := ∃ r, SlR X r ∧ SndSl X.K r r2
def CallS (X : Cx) (f : Value) (r2 : List D → Mem → VK2 → Prop) : Prop := ∃ r, CallR X f r ∧ SndC X.K r r2
def MtS (X : Cx) (id : String) (r2 : D → List D → Mem → VK2 → Prop) : Prop := ∃ r, MtR X id r ∧ SndM X.K r r2
section
variable {X : Cx} {a b c e : Expr} {ta tb tc : TE2} {pos : Pos}
def sVar (i : Nat) : TE2 := fun δ M Q => match δ[i]? with
  | some (some d) => Q d M
  | _ => False
def sC (d : D) : TE2 := fun _ M Q => Q d M
theorem q_v (i : Nat) {x : Str} (hN : X.N[i]? = some x := by rfl) (hv : Vis X.env.scope x := by first | exact Or.inl rfl | exact Or.inr (Or.inl rfl) | exact Or.inr (Or.inr rfl)) (hd : (x == ("__debug__" : Str)) = false := by decide)
    (hcd : (x == ("__classdict__" : Str)) = false := by decide) : QE X (.Name x pos) (sVar i) := peImp (pe_var hN hv hd hcd) fun σ H Q ⟨δ, M, Q2, hs, hm, q, k⟩ => by
  unfold sVar at q
  cases e : δ[i]? with
  | none => rw [e] at q; exact q.elim
  | some o =>
    cases o with
    | none => rw [e] at q; exact q.elim
    | some d =>
      rw [e] at q
      obtain ⟨v, h1, h2⟩ := hs.get i d e
      exact ⟨v, h1, k v H d M h2 hm (TExt.refl H) q⟩
theorem q_int {i j} : QE X (.Constant (.int i) j pos) (sC (.int i)) := peImp pe_int fun σ H Q ⟨δ, M, Q2, hs, hm, q, k⟩ => k _ H (.int i) M (dat_int.mpr rfl) hm (TExt.refl H) q
theorem q_bl {i j} : QE X (.Constant (.bool i) j pos) (sC (.bl i)) := peImp pe_bl fun σ H Q ⟨δ, M, Q2, hs, hm, q, k⟩ => k _ H (.bl i) M (dat_bl.mpr rfl) hm (TExt.refl H) q
theorem q_str {i j} : QE X (.Constant (.str i) j pos) (sC (.str i)) := peImp pe_str fun σ H Q ⟨δ, M, Q2, hs, hm, q, k⟩ => k _ H (.str i) M (dat_str.mpr rfl) hm (TExt.refl H) q
theorem q_non {j} : QE X (.Constant .none j pos) (sC .non) := peImp pe_non fun σ H Q ⟨δ, M, Q2, hs, hm, q, k⟩ => k _ H .non M (dat_non.mpr rfl) hm (TExt.refl H) q
theorem q_ty {x : Str} {n : String} (hg : Gl X x) (hm : X.mg x = none) (hv : bootBuiltins x = some (.type n)) (hn : x ≠ "__name__" := by decide) (hd : (x == ("__debug__" : Str)) = false := by decide) : QE X (.Name x pos) (sC (.ty n)) :=
  peImp (pe_bltn (v := .ty n) hg hm hv rfl hn hd) fun σ H Q ⟨δ, M, Q2, hs, hm, q, k⟩ => k _ H (.ty n) M (dat_ty.mpr rfl) hm (TExt.refl H) q
def sOp (r2 : R22) (ta tb : TE2) : TE2 := fun δ M Q => ta δ M fun d M1 => tb δ M1 fun e M2 => r2 d e M2 Q
theorem op_lift {K : PySem.W.Frag} {r : R2} {r2 : R22} (hr : SndR K r r2) : ∀ σ H Q, up K (sOp r2 ta tb) σ H Q → tOp r (up K ta) (up K tb) σ H Q := by
  rintro σ H Q ⟨δ, M, Q2, hs, hm, q, k⟩
  refine ⟨δ, M, _, hs, hm, q, fun x H1 d M1 hd hm1 t1 q1 => ?_⟩
  refine ⟨δ, M1, _, hs.mono t1, hm1, q1, fun y H2 e M2 he hm2 t2 q2 => ?_⟩
  exact hr x y d e H2 M2 Q2 Q (Dat.mono t2 d hd) he hm2 q2 (k.mono (t1.trans t2))
theorem q_op {op : Operator} {r2 : R22} (o : OpS X (binaryOp op) r2) (ha : QE X a ta) (hb : QE X b tb) : QE X (.BinOp a op b pos) (sOp r2 ta tb) := by
  obtain ⟨r, ho, hr⟩ := o
  exact peImp (pe_op ho ha hb) (op_lift hr)
theorem q_cmp {op : CmpOp} {r2 : R22} (o : OpS X (compareOp op) r2) (ha : QE X a ta) (hb : QE X b tb) (hm : behindInMarks op b = false) : QE X (.Compare a [op] [b] pos) (sOp r2 ta tb) := by
  obtain ⟨r, ho, hr⟩ := o
  exact peImp (pe_cmpR ho ha hb hm) (op_lift hr)
def sTest (t : TE2) : TT2 := fun δ M Q => t δ M fun d M1 => match d with
  | .bl k => Q k M1
  | _ => False
theorem test_cont {K : PySem.W.Frag} {H : Hp} {Q2 : Bool → Mem → Prop} {Q : Bool → Hp → Prop} (k : ContT K H Q2 Q) : Cont K H (fun d M1 => match d with | .bl k => Q2 k M1 | _ => False) (fun x H' => ∃ k, x = .bl k ∧ Q k H') := fun v H' d M' hd hm t q => by
  cases d with
  | bl b => exact ⟨b, dat_bl.mp hd, k b H' M' hm t q⟩
  | _ => exact q.elim
theorem qt_cmp {op : CmpOp} {r2 : R22} (o : OpS X (compareOp op) r2) (ha : QE X a ta) (hb : QE X b tb) (hm : behindInMarks op b = false) : QT X (.Compare a [op] [b] pos) (sTest (sOp r2 ta tb)) := by
  obtain ⟨r, ho, hr⟩ := o
  refine ptImp (pt_cmpR ho ha hb hm) ?_
  rintro σ H Q ⟨δ, M, Q2, hs, hm, q, k⟩
  exact op_lift hr σ H _ ⟨δ, M, _, hs, hm, q, test_cont k⟩
theorem qt_val (h : QE X e ta) (he : ∀ whole, isTrue e X.env whole = (do let v ← whole; standAt e.pos; holding [v] (truthy v)) := by intro _; rfl) : QT X e (sTest ta) := by
  refine ptImp (pt_val h he) ?_
  rintro σ H Q ⟨δ, M, Q2, hs, hm, q, k⟩
  exact ⟨δ, M, _, hs, hm, q, test_cont k⟩
variable {tA tB : TT2} {rest : List Expr}
def sAnd (t u : TT2) : TT2 := fun δ M Q => t δ M fun c M1 => if c = true then u δ M1 Q else Q false M1
def sOr (t u : TT2) : TT2 := fun δ M Q => t δ M fun c M1 => if c = true then Q true M1 else u δ M1 Q
def sNot (t : TT2) : TT2 := fun δ M Q => t δ M fun c M1 => Q (!c) M1
theorem qw_and1 (ha : QT X a tA) : QW X (.BoolOp .And [a] pos) tA := pw_and1 ha
theorem qw_or1 (ha : QT X a tA) : QW X (.BoolOp .Or [a] pos) tA := pw_or1 ha
theorem qw_and (ha : QT X a tA) (hb : QW X (.BoolOp .And (b :: rest) pos) tB) : QW X (.BoolOp .And (a :: b :: rest) pos) (sAnd tA tB) := pwImp (pw_and ha hb) fun σ H Q ⟨δ, M, Q2, hs, hm, q, k⟩ => by
  refine ⟨δ, M, _, hs, hm, q, fun c H1 M1 hm1 t1 q1 => ?_⟩
  cases c with
  | true =>
    rw [if_pos rfl] at q1 ⊢
    exact ⟨δ, M1, Q2, hs.mono t1, hm1, q1, k.mono t1⟩
  | false =>
    rw [if_neg Bool.false_ne_true] at q1 ⊢
    exact k _ _ _ hm1 t1 q1
theorem qw_or (ha : QT X a tA) (hb : QW X (.BoolOp .Or (b :: rest) pos) tB) : QW X (.BoolOp .Or (a :: b :: rest) pos) (sOr tA tB) := pwImp (pw_or ha hb) fun σ H Q ⟨δ, M, Q2, hs, hm, q, k⟩ => by
  refine ⟨δ, M, _, hs, hm, q, fun c H1 M1 hm1 t1 q1 => ?_⟩
  cases c with
  | true =>
    rw [if_pos rfl] at q1 ⊢
    exact k _ _ _ hm1 t1 q1
  | false =>
    rw [if_neg Bool.false_ne_true] at q1 ⊢
    exact ⟨δ, M1, Q2, hs.mono t1, hm1, q1, k.mono t1⟩
theorem qt_not (ha : QT X a tA) : QT X (.UnaryOp .Not a pos) (sNot tA) := ptImp (pt_not ha) fun σ H Q ⟨δ, M, Q2, hs, hm, q, k⟩ => ⟨δ, M, _, hs, hm, q, fun c H1 M1 hm1 t1 q1 => k _ _ _ hm1 t1 q1⟩
def sAndV (ta tb : TE2) : TE2 := fun δ M Q => ta δ M fun d M1 => match d with
  | .bl c => if c = true then tb δ M1 Q else Q (.bl false) M1
  | _ => False
def sNotV (ta : TE2) : TE2 := fun δ M Q => ta δ M fun d M1 => match d with
  | .bl c => Q (.bl (!c)) M1
  | _ => False
theorem q_one {op} (h : QE X a ta) : QE X (.BoolOp op [a] pos) ta := pe_one h
theorem q_and (ha : QE X a ta) (hb : QE X (.BoolOp .And (b :: rest) pos) tb) : QE X (.BoolOp .And (a :: b :: rest) pos) (sAndV ta tb) := peImp (pe_and ha hb) fun σ H Q ⟨δ, M, Q2, hs, hm, q, k⟩ => by
  refine ⟨δ, M, _, hs, hm, q, fun x H1 d M1 hd hm1 t1 q1 => ?_⟩
  cases d with
  | bl c =>
    refine ⟨c, dat_bl.mp hd, ?_⟩
    have q1 : if c = true then tb δ M1 Q2 else Q2 (.bl false) M1 := q1
    cases c with
    | true =>
      rw [if_pos rfl] at q1 ⊢
      exact ⟨δ, M1, Q2, hs.mono t1, hm1, q1, k.mono t1⟩
    | false =>
      rw [if_neg Bool.false_ne_true] at q1 ⊢
      exact k _ _ _ _ (dat_bl.mpr rfl) hm1 t1 q1
  | _ => exact q1.elim
theorem q_not (ha : QE X a ta) : QE X (.UnaryOp .Not a pos) (sNotV ta) := peImp (pe_not ha) fun σ H Q ⟨δ, M, Q2, hs, hm, q, k⟩ => by
  refine ⟨δ, M, _, hs, hm, q, fun x H1 d M1 hd hm1 t1 q1 => ?_⟩
  cases d with
  | bl c => exact ⟨c, dat_bl.mp hd, k _ _ _ _ (dat_bl.mpr rfl) hm1 t1 q1⟩
  | _ => exact q1.elim
variable {es : List Expr} {t : TA2}
def sNil : TA2 := fun _ M Q => Q [] M
def sCons (ta : TE2) (tr : TA2) : TA2 := fun δ M Q => ta δ M fun d M1 => tr δ M1 fun ds M2 => Q (d :: ds) M2
theorem qa_nil : QA X [] sNil := paImp pa_nil fun σ H Q ⟨δ, M, Q2, hs, hm, q, k⟩ => k [] H [] M (by rw [dats_nil]) hm (TExt.refl H) q
theorem qa_cons (ha : QE X e ta) (hr : QA X es t) (hs : starEach (e :: es) X.env = (false, eval e X.env) :: starEach es X.env := by rfl) : QA X (e :: es) (sCons ta t) := paImp (pa_cons ha hr hs) fun σ H Q ⟨δ, M, Q2, hs, hm, q, k⟩ => by
  refine ⟨δ, M, _, hs, hm, q, fun x H1 d M1 hd hm1 t1 q1 => ?_⟩
  refine ⟨δ, M1, _, hs.mono t1, hm1, q1, fun xs H2 ds M2 hds hm2 t2 q2 => ?_⟩
  exact k (x :: xs) H2 (d :: ds) M2 (dats_cons.mpr ⟨x, xs, rfl, Dat.mono t2 d hd, hds⟩) hm2 (t1.trans t2) q2
def sTup (t : TA2) : TE2 := fun δ M Q => t δ M fun ds M1 => ds.length ≤ sizeLine ∧ Q (.tup ds) M1
theorem tup_new {K : PySem.W.Frag} {H : Hp} {p : Addr} {xs : List V} {ds : List D} (hp : H p = none) (h : Dats K H ds xs) : Dat K (upd H p (.tup xs)) (.tup ds) (.ref p) := dat_tup.mpr ⟨p, xs, rfl, SqT.of upd_same, Dats.mono (TExt.laid hp) ds h⟩
theorem q_tup {x1} (h : QA X es t) : QE X (.Tuple es x1 pos) (sTup t) := peImp (pe_tup h) fun σ H Q ⟨δ, M, Q2, hs, hm, q, k⟩ => by
  refine ⟨δ, M, _, hs, hm, q, fun xs H1 ds M1 hd hm1 t1 q1 => ?_⟩
  refine ⟨by rw [hd.length]; exact q1.1, fun p hp => ?_⟩
  exact k _ _ (.tup ds) M1 (tup_new hp hd) (hm1.laid hp) (t1.trans (TExt.laid hp)) q1.2
def sLst (t : TA2) : TE2 := fun δ M Q => t δ M fun ds M1 => ds.length ≤ sizeLine ∧ ∀ p, M1 p = none → Q (.ref p) (updM M1 p (.lst ds))
theorem lst_new {K : PySem.W.Frag} {H : Hp} {M : Mem} {p : Addr} {xs : List V} {ds : List D} (hp : H p = none) (h : Dats K H ds xs) (hm : RelM K H M) : RelM K (upd H p (.lst xs)) (updM M p (.lst ds)) :=
  hm.put (TExt.laid hp) ⟨xs, upd_same, Dats.mono (TExt.laid hp) ds h⟩
theorem q_lst (h : QA X es t) : QE X (.List es pos) (sLst t) := peImp (pe_lst h) fun σ H Q ⟨δ, M, Q2, hs, hm, q, k⟩ => by
  refine ⟨δ, M, _, hs, hm, q, fun xs H1 ds M1 hd hm1 t1 q1 => ?_⟩
  refine ⟨by rw [hd.length]; exact q1.1, fun p hp => ?_⟩
  exact k _ _ (.ref p) _ (dat_ref.mpr rfl) (lst_new hp hd hm1) (t1.trans (TExt.laid hp)) (q1.2 p (hm1.free hp))
theorem q_ix {r2 : R22} (o : IxS X r2) (ha : QE X a ta) (hb : QE X b tb) (hs : PlainIx b) : QE X (.Subscript a b pos) (sOp r2 ta tb) := by
  obtain ⟨r, ho, hr⟩ := o
  exact peImp (pe_ix ho ha hb hs) (op_lift hr)
abbrev TO2 := St2 → Mem → (Option Int → Mem → Prop) → Prop
def ContO (K : PySem.W.Frag) (H : Hp) (Q2 : Option Int → Mem → Prop) (Q : Option Int → Hp → Prop) : Prop := ∀ o H' M', RelM K H' M' → TExt H H' → Q2 o M' → Q o H'
def upO (K : PySem.W.Frag) (t : TO2) : TO := fun σ H Q => ∃ δ M Q2, StRel K H δ σ ∧ RelM K H M ∧ t δ M Q2 ∧ ContO K H Q2 Q
abbrev QO (X : Cx) (e : Option Expr) (t : TO2) : Prop := PO X e (upO X.K t)
theorem poImp {e : Option Expr} {t t' : TO} (h : PO X e t) (k : ∀ σ H Q, t' σ H Q → t σ H Q) : PO X e t' := fun pins s σ H Q I q => h pins s σ H Q I (k σ H Q q)
def sNoPart : TO2 := fun _ M Q => Q none M
def sPart (t : TE2) : TO2 := fun δ M Q => t δ M fun d M1 => match d with
  | .int i => Q (some i) M1
  | _ => False
theorem qo_none : QO X none sNoPart := poImp po_none fun σ H Q ⟨δ, M, Q2, hs, hm, q, k⟩ => k _ _ _ hm (TExt.refl H) q
theorem qo_some (h : QE X e ta) : QO X (some e) (sPart ta) := poImp (po_some h) fun σ H Q ⟨δ, M, Q2, hs, hm, q, k⟩ => by
  refine ⟨δ, M, _, hs, hm, q, fun x H1 d M1 hd hm1 t1 q1 => ?_⟩
  cases d with
  | int i => exact ⟨i, dat_int.mp hd, k _ _ _ hm1 t1 q1⟩
  | _ => exact q1.elim
variable {lo hi : Option Expr} {tl th : TO2} {p2 : Pos}
def sSl (r2 : D → Option Int → Option Int → Mem → VK2 → Prop) (te : TE2) (tl th : TO2) : TE2 := fun δ M Q => te δ M fun d M1 => tl δ M1 fun l M2 => th δ M2 fun u M3 => r2 d l u M3 Q
theorem q_slice {r2 : D → Option Int → Option Int → Mem → VK2 → Prop} (o : SlS X r2) (he : QE X e ta) (hl : QO X lo tl) (hu : QO X hi th) : QE X (.Subscript e (.Slice lo hi none p2) pos) (sSl r2 ta tl th) := by
  obtain ⟨r, ho, hr⟩ := o
  refine peImp (pe_slice ho he hl hu) ?_
  rintro σ H Q ⟨δ, M, Q2, hs, hm, q, k⟩
  refine ⟨δ, M, _, hs, hm, q, fun x H1 d M1 hd hm1 t1 q1 => ?_⟩
  refine ⟨δ, M1, _, hs.mono t1, hm1, q1, fun l H2 M2 hm2 t2 q2 => ?_⟩
  refine ⟨δ, M2, _, hs.mono (t1.trans t2), hm2, q2, fun u H3 M3 hm3 t3 q3 => ?_⟩
  exact hr x d l u H3 M3 Q2 Q (Dat.mono (t2.trans t3) d hd) hm3 q3 (k.mono (t1.trans (t2.trans t3)))
def sCB (r2 : List D → Mem → VK2 → Prop) (t : TA2) : TE2 := fun δ M Q => t δ M fun ds M1 => r2 ds M1 Q
variable {x : Str} {p : Pos} {id T : String}
theorem cb_lift {K : PySem.W.Frag} {r : List V → Hp → VK → Prop} {r2 : List D → Mem → VK2 → Prop} (hr : SndC K r r2) : ∀ σ H Q, up K (sCB r2 t) σ H Q → tCB r (upA K t) σ H Q := by
  rintro σ H Q ⟨δ, M, Q2, hs, hm, q, k⟩
  exact ⟨δ, M, _, hs, hm, q, fun xs H1 ds M1 hd hm1 t1 q1 => hr xs ds H1 M1 Q2 Q hd hm1 q1 (k.mono t1)⟩
theorem q_callB {r2 : List D → Mem → VK2 → Prop} (o : CallS X (.builtin id) r2) (hg : Gl X x) (hm : X.mg x = none) (hv : bootBuiltins x = some (.builtin id)) (ha : QA X (e :: es) t) (hn : x ≠ "__name__" := by decide) (hdb : (x == ("__debug__" : Str)) = false := by decide)
    (he : starEach (e :: es) X.env = (false, eval e X.env) :: starEach es X.env := by rfl) (hpl : (backTo pos (starEach es X.env)).any (·.1) = false := by rfl) : QE X (.Call (.Name x p) (e :: es) [] pos) (sCB r2 t) := by
  obtain ⟨r, ho, hr⟩ := o
  exact peImp (pe_callB ho hg hm hv ha hn hdb he hpl) (cb_lift hr)
theorem q_callT {r2 : List D → Mem → VK2 → Prop} (o : CallS X (.type T) r2) (hg : Gl X x) (hm : X.mg x = none) (hv : bootBuiltins x = some (.type T)) (ha : QA X (e :: es) t) (hn : x ≠ "__name__" := by decide) (hdb : (x == ("__debug__" : Str)) = false := by decide)
    (he : starEach (e :: es) X.env = (false, eval e X.env) :: starEach es X.env := by rfl) (hpl : (backTo pos (starEach es X.env)).any (·.1) = false := by rfl) : QE X (.Call (.Name x p) (e :: es) [] pos) (sCB r2 t) := by
  obtain ⟨r, ho, hr⟩ := o
  exact peImp (pe_callTy ho hg hm hv ha hn hdb he hpl) (cb_lift hr)
end
end L3

namespace L3
open PySem PySem.Spec L2
def tyD (T : String) (d : D) (M : Mem) : Prop := match d with
  | .str _ => T = "str"
  | .ref a => T = "list" ∧ ∃ ds, M a = some (.lst ds)
  | _ => False
theorem tyD.v {K : PySem.W.Frag} {H : Hp} {M : Mem} {T : String} {d : D} {x : V} (h : tyD T d M) (r : Dat K H d x) (hm : RelM K H M) : tyV K T x H := by
  cases d with
  | str z => cases (dat_str.mp r); exact h
  | ref a =>
    cases (dat_ref.mp r)
    obtain ⟨e, ds, q⟩ := h
    obtain ⟨xs, hx, _⟩ := hm a _ q
    exact .inl ⟨e, xs, SqL.of hx⟩
  | _ => exact h.elim
section
variable {X : Cx} {o e : Expr} {es : List Expr} {to : TE2} {t : TA2} {T id : String} {name : Str} {apos cpos : Pos}
def sBM (T : String) (r2 : D → List D → Mem → VK2 → Prop) (to : TE2) (t : TA2) : TE2 := fun δ M Q => to δ M fun d M1 => tyD T d M1 ∧ t δ M1 fun ds M2 => r2 d ds M2 Q
theorem q_bm {r2 : D → List D → Mem → VK2 → Prop} (pa : PlainAttrs T) (slot : Slot T name id) (hty : typeOf (.builtin id) = pure (.type "method_descriptor")) (hm : MtS X id r2) (ho : QE X o to) (ha : QA X (e :: es) t)
    (hbase : attributeBase o name X.env (eval o X.env) = eval o X.env := by rfl)
    (hfew : ((backTo cpos (starEach (e :: es) X.env)).all (fun x => !x.1) && (backToKw cpos (keywordEach [] X.env)).all (fun x => x.1.isSome)
      && decide ((e :: es).length + ([] : List Keyword).length + (if ([] : List Keyword).isEmpty then 0 else 1) < 30)) = true := by rfl)
    (hline : (apos.endLine == cpos.line) = true := by rfl) (hs : starEach (e :: es) X.env = (false, eval e X.env) :: starEach es X.env := by rfl) (hplain : (backTo cpos (starEach es X.env)).any (·.1) = false := by rfl) :
    QE X (.Call (.Attribute o name apos) (e :: es) [] cpos) (sBM T r2 to t) := by
  obtain ⟨r, h1, hr⟩ := hm
  refine peImp (pe_bm pa slot hty h1 ho ha hbase hfew hline hs hplain) ?_
  rintro σ H Q ⟨δ, M, Q2, hs, hm, q, k⟩
  refine ⟨δ, M, _, hs, hm, q, fun x H1 d M1 hd hm1 t1 q1 => ⟨q1.1.v hd hm1, δ, M1, _, hs.mono t1, hm1, q1.2, fun xs H2 ds M2 hds hm2 t2 q2 => ?_⟩⟩
  exact hr x xs d ds H2 M2 Q2 Q (Dat.mono t2 d hd) hds hm2 q2 (k.mono (t1.trans t2))
end
abbrev Sp2 := List D → Mem → VK2 → Prop
def upSp (K : PySem.W.Frag) (sp : Sp2) : Sp := fun vs H Q _ => ∃ ds M Q2, Dats K H ds vs ∧ RelM K H M ∧ sp ds M Q2 ∧ Cont K H Q2 Q
def sD (sp : Sp2) (t : TA2) : TE2 := fun δ M Q => t δ M fun ds M1 => sp ds M1 Q
abbrev Def2 (P : Program) (w : World) (K : PySem.W.Frag) (mg : Str → Option Value) (base : Heap) (k : Nat) (x : Str) (ps : List Str) (sp : Sp2) : Prop := DefOk P w K mg base k x ps (upSp K sp)
section
variable {X : Cx} {x : Str} {p pos : Pos} {e : Expr} {es : List Expr} {t : TA2} {k j : Nat} {ps : List Str} {sp : Sp2}
theorem q_def (d : Def2 X.prog X.w X.K X.mg X.base k x ps sp) (hr : Room k X.A) (hg : Gl X x) (ha : QA X (e :: es) t) (hdb : (x == ("__debug__" : Str)) = false := by decide) (he : starEach (e :: es) X.env = (false, eval e X.env) :: starEach es X.env := by rfl)
    (hpl : (backTo pos (starEach es X.env)).any (·.1) = false := by rfl) : QE X (.Call (.Name x p) (e :: es) [] pos) (sD sp t) := by
  refine peImp (pe_def d hr hg ha hdb he hpl) ?_
  rintro σ H Q ⟨δ, M, Q2, hs, hm, q, k⟩
  exact ⟨δ, M, _, hs, hm, q, fun xs H1 ds M1 hd hm1 t1 q1 => ⟨ds, M1, Q2, hd, hm1, q1, k.mono t1⟩⟩
end
def start2 (N : List Str) (ds : List D) : St2 := ds.map some ++ List.replicate (N.length - ds.length) none
theorem start_rel {K : PySem.W.Frag} {H : Hp} {N : List Str} {ds : List D} {vs : List V} (h : Dats K H ds vs) : StRel K H (start2 N ds) (L2.start N vs) := by
  have hl := h.length
  refine ⟨by unfold start2 L2.start; simp [hl], fun i d e => ?_⟩
  unfold start2 at e
  by_cases hi : i < ds.length
  · rw [List.getElem?_append_left (by simpa using hi), List.getElem?_map] at e
    cases q : ds[i]? with
    | none => rw [q] at e; cases e
    | some d' =>
      rw [q] at e
      have e : d' = d := by simpa using e
      subst e
      obtain ⟨v, hv, r⟩ := h.get q
      refine ⟨v, ?_, r⟩
      unfold L2.start
      rw [List.getElem?_append_left (by simp; omega), List.getElem?_map, hv]
      rfl
  · rw [List.getElem?_append_right (by simpa using hi), List.getElem?_replicate] at e
    split at e <;> cases e
def fin2 (Q : VK2) : VK2 := fun d M' => ∃ M'', MSub M'' M' ∧ Q d M''
theorem fin2_same {Q : VK2} {d : D} {M : Mem} (q : Q d M) : fin2 Q d M := ⟨M, MSub.refl M, q⟩
section
variable {P : Program} {w : World} {K : PySem.W.Frag} {mg : Str → Option Value} {base : Heap}
theorem ok2 {x qual : Str} {st : Stmt} {f : Addr} {fd : FuncData} {N ps : List Str} {k : Nat} {sp : Sp2} (F : Fun K x qual st f fd) (S : FnScope N ps (defScope st)) (len : ∀ ds M Q, sp ds M Q → ds.length = ps.length)
    (hbody : ∀ (cdv : Value) (A : Around) (outer : List Env) (s : Shared) (H : Hp) (E : XK) (ds : List D) (M : Mem) (Q : VK2), Room k (A.deeper (PyProof.Rows.envOfC qual (defScope st) s.heap.objs.size f cdv)) → sp ds M Q →
      ∃ t, QSs (cxOf CX0 P w K mg base N qual (defScope st) f cdv A outer s H E).nox (defBody st) t ∧ t { nx := fun _ M' => fin2 Q .non M', rt := fin2 Q } (start2 N ds) M) : FnOk P w K mg base CX0 (k + 1) f fd ps (upSp K sp) := by
  refine F.ok S (fun vs H Q E h => ?_) (fun cdv A outer s H vs Q E hr h => ?_)
  · obtain ⟨ds, M, Q2, hd, _, hs, _⟩ := h
    rw [hd.length]
    exact len ds M Q2 hs
  · obtain ⟨ds, M, Q2, hd, hm, hs, kk⟩ := h
    obtain ⟨t, ht, q⟩ := hbody cdv A outer s H E ds M Q2 hr hs
    refine ⟨_, ht, start2 N ds, M, _, start_rel hd, hm, q, ⟨?_, ?_, ?_, ?_⟩⟩
    · exact fun σ' H' δ' M' _ hm' t' ⟨M'', s, q⟩ => kk _ H' .non M'' (dat_non.mpr rfl) (hm'.sub s) t' q
    · exact fun v H' d M' hd' hm' t' ⟨M'', s, q⟩ => kk v H' d M'' hd' (hm'.sub s) t' q
    · exact fun σ' H' δ' M' _ hm' t' q => q
    · exact fun σ' H' δ' M' _ hm' t' q => q
end
section
variable {X : Cx} {st : Stmt} {rest : List Stmt} {t u : TS2} {te : TE2} {e : Expr} {pos : Pos}
def sNext : TS2 := fun E δ M => E.nx δ M
def sSeq (t u : TS2) : TS2 := fun E δ M => t { E with nx := u E } δ M
theorem qss_nil : QSs X [] sNext := pssImp pss_nil fun E σ H ⟨δ, M, D2, hs, hm, q, k⟩ => k.nx σ H δ M hs hm (TExt.refl H) q
theorem qss_one (h : QS X st t) : QSs X [st] t := pss_one h
theorem qss_cons (h1 : QS X st t) (h2 : QSs X rest u) : QSs X (st :: rest) (sSeq t u) := pssImp (pss_cons h1 h2) fun E σ H ⟨δ, M, D2, hs, hm, q, k⟩ => by
  refine ⟨δ, M, _, hs, hm, q, ⟨fun σ' H' δ' M' hs' hm' t' q' => ?_, k.rt, k.bk, k.ct⟩⟩
  exact ⟨δ', M', D2, hs', hm', q', k.mono t'⟩
def sNever : TS2 := fun _ _ _ => False
theorem qss_never {sts : List Stmt} : QSs X sts sNever := pssImp pss_never fun E σ H ⟨δ, M, D2, hs, hm, q, k⟩ => q.elim
def sDrop (te : TE2) : TS2 := fun E δ M => te δ M fun _ M1 => E.nx δ M1
theorem qs_expr (he : QE X e te) (hs : swapsWith e none pos.line X.env = pure false := by rfl) : QS X (.Expr e pos) (sDrop te) := psImp (ps_expr he hs) fun E σ H ⟨δ, M, D2, hs, hm, q, k⟩ =>
  ⟨δ, M, _, hs, hm, q, fun x H1 d M1 hd hm1 t1 q1 => k.nx σ H1 δ M1 (hs.mono t1) hm1 t1 q1⟩
def sRet (te : TE2) : TS2 := fun E δ M => te δ M E.rt
theorem qs_ret (he : QE X e te) : QS X (.Return (some e) pos) (sRet te) := psImp (ps_ret he) fun E σ H ⟨δ, M, D2, hs, hm, q, k⟩ => ⟨δ, M, _, hs, hm, q, k.rt⟩
def sIfS (c : TT2) (t u : TS2) : TS2 := fun E δ M => c δ M fun b M1 => if b = true then t E δ M1 else u E δ M1
theorem qs_if {c : Expr} {a b : List Stmt} {tc : TT2} (hc : QT X c tc) (ha : QSs X a t) (hb : QSs X b u) : QS X (.If c a b pos) (sIfS tc t u) := psImp (ps_if hc ha hb) fun E σ H ⟨δ, M, D2, hs, hm, q, k⟩ => by
  refine ⟨δ, M, _, hs, hm, q, fun b H1 M1 hm1 t1 q1 => ?_⟩
  cases b with
  | true =>
    rw [if_pos rfl] at q1 ⊢
    exact ⟨δ, M1, D2, hs.mono t1, hm1, q1, k.mono t1⟩
  | false =>
    rw [if_neg Bool.false_ne_true] at q1 ⊢
    exact ⟨δ, M1, D2, hs.mono t1, hm1, q1, k.mono t1⟩
abbrev TG2 := D → St2 → Mem → (St2 → Mem → Prop) → Prop
abbrev TGs2 := List D → St2 → Mem → (St2 → Mem → Prop) → Prop
def upG (K : PySem.W.Frag) (t : TG2) : TG := fun v σ H Q => ∃ d δ M Q2, Dat K H d v ∧ StRel K H δ σ ∧ RelM K H M ∧ t d δ M Q2 ∧ ContN K H Q2 Q
def upGs (K : PySem.W.Frag) (t : TGs2) : TGs := fun vs σ H Q => ∃ ds δ M Q2, Dats K H ds vs ∧ StRel K H δ σ ∧ RelM K H M ∧ t ds δ M Q2 ∧ ContN K H Q2 Q
abbrev QG (X : Cx) (tg : Expr) (t : TG2) : Prop := PG X tg (upG X.K t)
abbrev QGs (X : Cx) (tg : List Expr) (t : TGs2) : Prop := PGs X tg (upGs X.K t)
theorem pgImp {tg : Expr} {g g' : TG} (h : PG X tg g) (k : ∀ v σ H Q, g' v σ H Q → g v σ H Q) : PG X tg g' := fun pins s σ H v u Q I r q => h pins s σ H v u Q I r (k v σ H Q q)
theorem pgsImp {tg : List Expr} {g g' : TGs} (h : PGs X tg g) (k : ∀ v σ H Q, g' v σ H Q → g v σ H Q) : PGs X tg g' := fun pins s σ H v u Q I r q => h pins s σ H v u Q I r (k v σ H Q q)
def hName (i : Nat) : TG2 := fun d δ M Q => Q (δ.set i (some d)) M
theorem name_lift {K : PySem.W.Frag} {i : Nat} : ∀ v σ H Q, upG K (hName i) v σ H Q → gName i v σ H Q := fun v σ H Q ⟨d, δ, M, Q2, hd, hs, hm, q, k⟩ => k _ H _ M (hs.set hd) hm (TExt.refl H) q
theorem qg_name {i : Nat} {x : Str} (hN : X.N.Nodup) (hi : X.N[i]? = some x) (hx : Loc X.env.scope x) (hf : X.fn x = true ∨ X.env.scope.names.lookup x = some .local := by first | exact .inl rfl | exact .inr rfl | assumption) : QG X (.Name x pos) (hName i) :=
  pgImp (pg_name hN hi hx hf) name_lift
def hNil : TGs2 := fun ds δ M Q => match ds with
  | [] => Q δ M
  | _ => False
def hCons (t : TG2) (u : TGs2) : TGs2 := fun ds δ M Q => match ds with
  | d :: r => t d δ M fun δ' M' => u r δ' M' Q
  | _ => False
theorem qgs_nil : QGs X [] hNil := pgsImp pgs_nil fun v σ H Q ⟨ds, δ, M, Q2, hd, hs, hm, q, k⟩ => by
  cases ds with
  | nil => exact ⟨dats_nil.mp hd, k _ H _ M hs hm (TExt.refl H) q⟩
  | cons d r => exact q.elim
theorem qgs_cons {e : Expr} {es : List Expr} {t : TG2} {u : TGs2} (h1 : QG X e t) (h2 : QGs X es u)
    (hs : (assignEach (e :: es) X.env).map (·.2) = assign e X.env :: (assignEach es X.env).map (·.2) := by rfl) : QGs X (e :: es) (hCons t u) := pgsImp (pgs_cons h1 h2 hs) fun v σ H Q ⟨ds, δ, M, Q2, hd, hs, hm, q, k⟩ => by
  cases ds with
  | nil => exact q.elim
  | cons d r =>
    obtain ⟨x, xs, rfl, hx, hxs⟩ := dats_cons.mp hd
    refine ⟨x, xs, rfl, d, δ, M, _, hx, hs, hm, q, fun σ' H' δ' M' hs' hm' t' q' => ?_⟩
    exact ⟨r, δ', M', Q2, Dats.mono t' r hxs, hs', hm', q', k.mono t'⟩
def hTup (n : Nat) (t : TGs2) : TG2 := fun d δ M Q => match d with
  | .tup ds => ds.length = n ∧ t ds δ M Q
  | _ => False
theorem qg_tup {es : List Expr} {k : Nat} {t : TGs2} {n : Nat} (hc : X.calm = true) (h : QGs X es t)
    (hn : (assignEach es X.env).length = n := by rfl) (hst : (assignEach es X.env).findIdx? (·.1) = none := by rfl) : QG X (.Tuple es k pos) (hTup n t) := pgImp (pg_tup hc h hn hst) fun v σ H Q ⟨d, δ, M, Q2, hd, hs, hm, q, k⟩ => by
  cases d with
  | tup ds =>
    obtain ⟨p, xs, rfl, hq, hx⟩ := dat_tup.mp hd
    exact ⟨p, xs, rfl, hq, by rw [hx.length]; exact q.1, ds, δ, M, Q2, hx, hs, hm, q.2, k⟩
  | _ => exact q.elim
abbrev TSet2 := D → D → D → Mem → (Mem → Prop) → Prop
def ContM (K : PySem.W.Frag) (H : Hp) (N2 : Mem → Prop) (N : Hp → Prop) : Prop := ∀ H' M', RelM K H' M' → TExt H H' → N2 M' → N H'
def SndSet (K : PySem.W.Frag) (r : TSet) (r2 : TSet2) : Prop := ∀ o i v d j e H M Q2 Q, Dat K H d o → Dat K H j i → Dat K H e v → RelM K H M → r2 d j e M Q2 → ContM K H Q2 Q → r o i v H Q
def SetS (X : Cx) (r2 : TSet2) : Prop := ∃ r, PSet X r ∧ SndSet X.K r r2
def hSub (to ti : TE2) (t : TSet2) : TG2 := fun e δ M Q => to δ M fun d M1 => ti δ M1 fun j M2 => t d j e M2 fun M3 => Q δ M3
theorem qg_sub {o i : Expr} {to ti : TE2} {t : TSet2} (ho : QE X o to) (hi : QE X i ti) (hs : SetS X t)
    (ha : ∀ v, assign (.Subscript o i pos) X.env v = (do
      let ov ← holding [v] (eval o X.env)
      let iv ← holding [v, ov] (eval i X.env)
      standAt pos
      holding [v, ov, iv] (setItem ov iv v)
      release [v, ov, iv] []) := by intro _; rfl) : QG X (.Subscript o i pos) (hSub to ti t) := by
  obtain ⟨r, h1, hr⟩ := hs
  refine pgImp (pg_sub ho hi h1 ha) ?_
  rintro v σ H Q ⟨e, δ, M, Q2, hd, hs, hm, q, k⟩
  refine ⟨δ, M, _, hs, hm, q, fun x H1 d M1 hx hm1 t1 q1 => ?_⟩
  refine ⟨δ, M1, _, hs.mono t1, hm1, q1, fun y H2 j M2 hy hm2 t2 q2 => ?_⟩
  exact hr x y v d j e H2 M2 _ _ (Dat.mono t2 d hx) hy (Dat.mono (t1.trans t2) e hd) hm2 q2 fun H3 M3 hm3 t3 q3 => k σ H3 δ M3 (hs.mono (t1.trans (t2.trans t3))) hm3 (t1.trans (t2.trans t3)) q3
def sAsg (te : TE2) (g : TG2) : TS2 := fun E δ M => te δ M fun d M1 => g d δ M1 E.nx
theorem asg_lift {K : PySem.W.Frag} {g : TG} {g2 : TG2} (hg : ∀ v σ H Q, upG K g2 v σ H Q → g v σ H Q) : ∀ E σ H, upS K (sAsg te g2) E σ H → tAsg (up K te) g E σ H := by
  rintro E σ H ⟨δ, M, D2, hs, hm, q, k⟩
  exact ⟨δ, M, _, hs, hm, q, fun x H1 d M1 hd hm1 t1 q1 => hg x σ H1 _ ⟨d, δ, M1, _, hd, hs.mono t1, hm1, q1, k.nx.mono t1⟩⟩
theorem qs_asg {tg e : Expr} {g : TG2} (he : QE X e te) (hg : QG X tg g) (hs : swapsWithSole [tg] e pos.line X.env = pure false := by rfl) (hw : swappedStores [tg] e X.env = pure none := by rfl)
    (h1 : (assignEach [tg] X.env).map (·.2) = [assign tg X.env] := by rfl) : QS X (.Assign [tg] e pos) (sAsg te g) := psImp (ps_asg he hg hs hw h1) (asg_lift fun _ _ _ _ h => h)
theorem qs_set {i : Nat} {x : Str} {e : Expr} {pos' : Pos} (hN : X.N.Nodup) (hi : X.N[i]? = some x) (hx : Loc X.env.scope x) (he : QE X e te) (hs : swapsWith e (some (.Name x pos')) pos.line X.env = pure false := by rfl)
    (hf : X.fn x = true ∨ X.env.scope.names.lookup x = some .local := by first | exact .inl rfl | exact .inr rfl | assumption) : QS X (.Assign [.Name x pos'] e pos) (sAsg te (hName i)) := psImp (ps_set hN hi hx he hs hf) (asg_lift name_lift)
end
end L3

namespace L3
open PySem PySem.Spec L2
inductive Src where
  | fix (ds : List D)
  | at (a : Addr)
  | fn (f : Mem → Option (List D))
def items (s : Src) (M : Mem) : Option (List D) := match s with
  | .fix ds => some ds
  | .at a => match M a with
    | some (.lst ds) => some ds
    | _ => none
  | .fn f => f M
def ItOk (K : PySem.W.Frag) (H1 : Hp) (J : It) (src : Src) : Prop := ∀ H M ds, TExt H1 H → RelM K H M → items src M = some ds →
  (∀ i, i < ds.length → J.go i H) ∧ (∀ i, i = ds.length → J.stop i H) ∧ (∀ i x H', i < ds.length → J.yld i H x H' → TExt H H' ∧ RelM K H' M ∧ ∃ d, ds[i]? = some d ∧ Dat K H' d x)
abbrev TI2 := St2 → Mem → (Src → Mem → Prop) → Prop
def upI (K : PySem.W.Frag) (t : TI2) : TI := fun σ H R => ∃ δ M R2, StRel K H δ σ ∧ RelM K H M ∧ t δ M R2 ∧ ∀ J H' src M', ItOk K H' J src → RelM K H' M' → TExt H H' → R2 src M' → R J H'
abbrev QI (X : Cx) (tg iter : Expr) (t : TI2) : Prop := PI X tg iter (upI X.K t)
theorem piImp {X : Cx} {tg iter : Expr} {t t' : TI} (h : PI X tg iter t) (k : ∀ σ H R, t' σ H R → t σ H R) : PI X tg iter t' := fun pins s σ H R I q => h pins s σ H R I (k σ H R q)
def signsD (z : Str) : List D := z.cps.toList.map fun c => D.str ⟨#[c]⟩
def rangeD (lo : Int) (n : Nat) : List D := (List.range n).map fun i => D.int (lo + (i : Nat))
theorem rangeD_len (lo : Int) (n : Nat) : (rangeD lo n).length = n := by simp [rangeD]
theorem rangeD_get {lo : Int} {n i : Nat} (h : i < n) : (rangeD lo n)[i]? = some (.int (lo + (i : Nat))) := by simp [rangeD, h]
theorem itok_str {K : PySem.W.Frag} {H1 : Hp} {z : Str} : ItOk K H1 (Its z) (.fix (signsD z)) := fun H M ds t hm e => by
  cases e
  have hl : (signsD z).length = z.cps.size := by simp [signsD]
  refine ⟨fun i hi => by rw [hl] at hi; exact hi, fun i hi => by rw [hl] at hi; exact hi, fun i x H' hi y => ?_⟩
  obtain ⟨e, c, hc, rfl⟩ := y
  subst e
  refine ⟨TExt.refl _, hm, .str ⟨#[c]⟩, ?_, dat_str.mpr rfl⟩
  simp [signsD, hc]
theorem itok_tup {K : PySem.W.Frag} {H1 : Hp} {a : Addr} {xs : List V} {ds : List D} (h : SqT K H1 a xs) (hd : Dats K H1 ds xs) : ItOk K H1 (Itt K a) (.fix ds) := fun H M es t hm e => by
  cases e
  have hq := sqT_mono t h
  have hx := Dats.mono t ds hd
  have hl := hx.length
  refine ⟨fun i hi => ⟨xs, xs[i]'(by omega), hq, by simp [hl, hi]⟩, fun i hi => ⟨xs, hq, by omega⟩, fun i x H' hi y => ?_⟩
  obtain ⟨e, y⟩ := y
  obtain ⟨d, h1, h2⟩ := hx.getV (y xs hq)
  subst e
  exact ⟨TExt.refl _, hm, d, h1, h2⟩
theorem itok_lst {K : PySem.W.Frag} {H1 : Hp} {a : Addr} : ItOk K H1 (Itl K a) (.at a) := fun H M ds t hm e => by
  have e : (match M a with | some (.lst ds) => some ds | _ => none) = some ds := e
  cases q : M a with
  | none => rw [q] at e; cases e
  | some o =>
    cases o with
    | lst es =>
      rw [q] at e
      have e : es = ds := Option.some.inj e
      subst e
      obtain ⟨xs, hx, hd⟩ := hm a _ q
      have hq : SqL K H a xs := SqL.of hx
      have hl := hd.length
      refine ⟨fun i hi => ⟨xs, xs[i]'(by omega), hq, by simp [hl, hi]⟩, fun i hi => ⟨xs, hq, by omega⟩, fun i x H' hi y => ?_⟩
      obtain ⟨e, y⟩ := y
      obtain ⟨d, h1, h2⟩ := hd.getV (y xs hq)
      subst e
      exact ⟨TExt.refl _, hm, d, h1, h2⟩
theorem itok_fl {K : PySem.W.Frag} {H1 : Hp} {a : Addr} {xs : List V} {ds : List D} (h : FrL K H1 a xs) (hd : Dats K H1 ds xs) : ItOk K H1 (Itl K a) (.fix ds) := fun H M es t hm e => by
  cases e
  have hq := (frL_mono t h).sq
  have hx := Dats.mono t ds hd
  have hl := hx.length
  refine ⟨fun i hi => ⟨xs, xs[i]'(by omega), hq, by simp [hl, hi]⟩, fun i hi => ⟨xs, hq, by omega⟩, fun i x H' hi y => ?_⟩
  obtain ⟨e, y⟩ := y
  obtain ⟨d, h1, h2⟩ := hx.getV (y xs hq)
  subst e
  exact ⟨TExt.refl _, hm, d, h1, h2⟩
theorem itok_range {K : PySem.W.Frag} {H1 : Hp} {lo : Int} {n : Nat} : ItOk K H1 (Itr lo n) (.fix (rangeD lo n)) := fun H M ds t hm e => by
  cases e
  rw [rangeD_len]
  refine ⟨fun i hi => hi, fun i hi => Nat.le_of_eq hi.symm, fun i x H' hi y => ?_⟩
  obtain ⟨e, rfl⟩ := y
  subst e
  exact ⟨TExt.refl _, hm, _, rangeD_get hi, dat_int.mpr rfl⟩
section
variable {X : Cx} {tg l : Expr} {tl : TE2} {ta : TA2} {a b : Expr} {p pos : Pos}
def jAny (tl : TE2) : TI2 := fun δ M R => tl δ M fun d M1 => match d with
  | .str z => R (.fix (signsD z)) M1
  | .tup ds => R (.fix ds) M1
  | .fl ds => R (.fix ds) M1
  | .ref a => match M1 a with
    | some (.lst _) => R (.at a) M1
    | _ => False
  | _ => False
theorem qi_any (hl : QE X l tl) : QI X tg l (jAny tl) := piImp (pi_any hl) fun σ H R ⟨δ, M, R2, hs, hm, q, k⟩ => by
  refine ⟨δ, M, _, hs, hm, q, fun x H1 d M1 hd hm1 t1 q1 => ?_⟩
  cases d with
  | str z =>
    cases (dat_str.mp hd)
    exact k _ H1 _ M1 itok_str hm1 t1 q1
  | tup ds =>
    obtain ⟨p, xs, rfl, hq, hx⟩ := dat_tup.mp hd
    exact .inr ⟨xs, hq, k _ H1 _ M1 (itok_tup hq hx) hm1 t1 q1⟩
  | fl ds =>
    obtain ⟨p, xs, rfl, hq, hx⟩ := dat_fl.mp hd
    exact .inl ⟨xs, hq.sq, k _ H1 _ M1 (itok_fl hq hx) hm1 t1 q1⟩
  | ref a =>
    cases (dat_ref.mp hd)
    have q1 : (match M1 a with | some (.lst _) => R2 (.at a) M1 | _ => False) := q1
    cases e : M1 a with
    | none => rw [e] at q1; exact q1.elim
    | some o =>
      cases o with
      | lst es =>
        rw [e] at q1
        obtain ⟨xs, hx, _⟩ := hm1 a _ e
        exact .inl ⟨xs, SqL.of hx, k _ H1 _ M1 itok_lst hm1 t1 q1⟩
  | _ => exact q1.elim
def InR (j : Int) : Prop := -(2 ^ 62) ≤ j ∧ j < 2 ^ 62
theorem inR_of {j : Int} (h0 : -1000000000 ≤ j) (h1 : j ≤ 1000000000) : InR j := by
  constructor
  · exact Int.le_trans (by decide) h0
  · exact Int.lt_of_le_of_lt h1 (by decide)
def jRng1 (ta : TA2) : TI2 := fun δ M R => ta δ M fun ds M1 => match ds with
  | [.int j] => InR j ∧ R (.fix (rangeD 0 j.toNat)) M1
  | _ => False
theorem qi_range1 (hg : Gl X "range") (hm : X.mg "range" = none) (ha : QA X [a] ta) (hs : starEach [a] X.env = [(false, eval a X.env)] := by rfl) : QI X tg (.Call (.Name "range" p) [a] [] pos) (jRng1 ta) := piImp (pi_range1 hg hm ha hs) fun σ H R ⟨δ, M, R2, hs, hm, q, k⟩ => by
  refine ⟨δ, M, _, hs, hm, q, fun xs H1 ds M1 hd hm1 t1 q1 => ?_⟩
  cases ds with
  | nil => exact q1.elim
  | cons d r =>
    cases r with
    | cons d2 r2 => cases d <;> exact q1.elim
    | nil =>
      cases d with
      | int j =>
        obtain ⟨x, r, rfl, hx, hr⟩ := dats_cons.mp hd
        cases (dats_nil.mp hr)
        cases (dat_int.mp hx)
        obtain ⟨⟨b1, b2⟩, q1⟩ := q1
        exact ⟨j, rfl, b1, b2, k _ H1 _ M1 itok_range hm1 t1 q1⟩
      | _ => exact q1.elim
end
end L3

namespace L3
open PySem PySem.Spec L2
def sFor (wi : TI2) (g : TG2) (tb : TS2) : TS2 := fun E δ M => wi δ M fun src M1 => ∃ (B : Nat) (W : Nat → St2 → Mem → Prop), W 0 δ M1 ∧ ∀ i δ M, W i δ M → i ≤ B ∧ match items src M with
  | none => False
  | some ds => match ds[i]? with
    | none => i = ds.length ∧ E.nx δ M
    | some d => g d δ M fun δ2 M2 => tb { E with nx := W (i + 1), ct := W (i + 1), bk := E.nx } δ2 M2
section
variable {X : Cx} {tg iter : Expr} {wi : TI2} {g : TG2} {tb : TS2} {body : List Stmt} {pos : Pos}
theorem qs_for (hp : PassesOwn (model X.prog X.w) X.A X.env X.xe) (hc : X.calm = true) (hi : QI X tg iter wi) (hg : QG X tg g) (hb : QSs X body tb) (hs : ∀ x, foldedSetIterable iter X.env x = pure x := by intro _; rfl) :
    QS X (.For tg iter body [] pos) (sFor wi g tb) := psImp (ps_for hp hc hi hg hb hs) fun E σ H ⟨δ, M, D2, hs, hm, q, k⟩ => by
  refine ⟨δ, M, _, hs, hm, q, fun J H1 src M1 ok hm1 t1 q1 => ?_⟩
  obtain ⟨B, W, w0, turn⟩ := q1
  refine ⟨fun i m σ' H' => m = B + 1 - i ∧ ∃ δ' M', StRel X.K H' δ' σ' ∧ RelM X.K H' M' ∧ TExt H1 H' ∧ W i δ' M', ⟨B + 1, rfl, δ, M1, hs.mono t1, hm1, TExt.refl _, w0⟩, ?_⟩
  rintro i m σ' H' ⟨rfl, δ', M', hs', hm', t', w'⟩
  obtain ⟨hB, h⟩ := turn i δ' M' w'
  cases ei : items src M' with
  | none => rw [ei] at h; exact h.elim
  | some ds =>
    rw [ei] at h
    obtain ⟨go, stop, yld⟩ := ok H' M' ds t' hm' ei
    cases ed : ds[i]? with
    | none =>
      simp only [ed] at h
      exact .inl ⟨stop i h.1, k.nx σ' H' δ' M' hs' hm' (t1.trans t') h.2⟩
    | some d =>
      simp only [ed] at h
      have hil : i < ds.length := (List.getElem?_eq_some_iff.mp ed).1
      refine .inr ⟨go i hil, fun σ2 H2 => ∃ δ2 M2, StRel X.K H2 δ2 σ2 ∧ RelM X.K H2 M2 ∧ TExt H1 H2 ∧ W (i + 1) δ2 M2, fun σ2 H2 ⟨δ2, M2, a, b, c, w2⟩ => ⟨B + 1 - (i + 1), by omega, rfl, δ2, M2, a, b, c, w2⟩, fun x H2 y => ?_⟩
      obtain ⟨t2, hm2, d', e', hd'⟩ := yld i x H2 hil y
      rw [ed] at e'
      cases e'
      refine ⟨d, δ', M', _, hd', hs'.mono t2, hm2, h, fun σ3 H3 δ3 M3 hs3 hm3 t3 q3 => ?_⟩
      refine ⟨δ3, M3, _, hs3, hm3, q3, ⟨?_, ?_, ?_, ?_⟩⟩
      · exact fun σ4 H4 δ4 M4 a b c w4 => ⟨δ4, M4, a, b, t'.trans (t2.trans (t3.trans c)), w4⟩
      · exact k.rt.mono (t1.trans (t'.trans (t2.trans t3)))
      · exact k.nx.mono (t1.trans (t'.trans (t2.trans t3)))
      · exact fun σ4 H4 δ4 M4 a b c w4 => ⟨δ4, M4, a, b, t'.trans (t2.trans (t3.trans c)), w4⟩
end
end L3

namespace L3
open PySem PySem.Spec L2
def sWhile (c : TT2) (tb : TS2) : TS2 := fun E δ M => ∃ W : Nat → St2 → Mem → Prop, (∃ m, W m δ M) ∧ ∀ m δ M, W m δ M → c δ M fun b M1 =>
  if b = true then ∃ N : St2 → Mem → Prop, (∀ δ' M', N δ' M' → ∃ m', m' < m ∧ W m' δ' M') ∧ tb { E with nx := N, ct := N, bk := E.nx } δ M1 else E.nx δ M1
section
variable {X : Cx} {c : Expr} {tc : TT2} {tb : TS2} {body : List Stmt} {pos : Pos}
theorem qs_while (hp : PassesOwn (model X.prog X.w) X.A X.env X.xe) (hc : QT X c tc) (hb : QSs X body tb) : QS X (.While c body [] pos) (sWhile tc tb) := psImp (ps_while hp hc hb) fun E σ H ⟨δ, M, D2, hs, hm, q, k⟩ => by
  obtain ⟨W, ⟨m0, w0⟩, turn⟩ := q
  refine ⟨fun m σ' H' => ∃ δ' M', StRel X.K H' δ' σ' ∧ RelM X.K H' M' ∧ TExt H H' ∧ W m δ' M', ⟨m0, δ, M, hs, hm, TExt.refl _, w0⟩, ?_⟩
  rintro m σ' H' ⟨δ', M', hs', hm', t', w'⟩
  refine ⟨δ', M', _, hs', hm', turn m δ' M' w', fun b H1 M1 hm1 t1 q1 => ?_⟩
  cases b with
  | false =>
    simp only [Bool.false_eq_true, if_false] at q1
    exact k.nx σ' H1 δ' M1 (hs'.mono t1) hm1 (t'.trans t1) q1
  | true =>
    simp only [if_true] at q1
    obtain ⟨N, hN, q1⟩ := q1
    refine ⟨fun σ2 H2 => ∃ δ2 M2, StRel X.K H2 δ2 σ2 ∧ RelM X.K H2 M2 ∧ TExt H H2 ∧ N δ2 M2, fun σ2 H2 ⟨δ2, M2, a, b, c, n2⟩ => ?_, ?_⟩
    · obtain ⟨m', hm', w2⟩ := hN δ2 M2 n2
      exact ⟨m', hm', δ2, M2, a, b, c, w2⟩
    · refine ⟨δ', M1, _, hs'.mono t1, hm1, q1, ⟨?_, ?_, ?_, ?_⟩⟩
      · exact fun σ4 H4 δ4 M4 a b c w4 => ⟨δ4, M4, a, b, t'.trans (t1.trans c), w4⟩
      · exact k.rt.mono (t'.trans t1)
      · exact k.nx.mono (t'.trans t1)
      · exact fun σ4 H4 δ4 M4 a b c w4 => ⟨δ4, M4, a, b, t'.trans (t1.trans c), w4⟩
end
end L3

namespace L3
open PySem PySem.Spec L2
def blkSt2 (n : Nat) (fr : List Nat) (δ : St2) : St2 := List.replicate n none ++ fr.map (fun j => δ.getD j none)
theorem blk_rel {K : PySem.W.Frag} {H : Hp} {δ : St2} {σ : L2.St} (h : StRel K H δ σ) (n : Nat) (fr : List Nat) : StRel K H (blkSt2 n fr δ) (blkSt n fr σ) := by
  refine ⟨by simp [blkSt2, blkSt], fun i d e => ?_⟩
  unfold blkSt2 at e
  by_cases hi : i < n
  · rw [List.getElem?_append_left (by simpa using hi), List.getElem?_replicate, if_pos hi] at e
    cases e
  · rw [List.getElem?_append_right (by simpa using hi), List.length_replicate, List.getElem?_map] at e
    cases ej : fr[i - n]? with
    | none => rw [ej] at e; cases e
    | some j =>
      rw [ej] at e
      have e : δ.getD j none = some d := Option.some.inj e
      have hj : j < δ.length := by
        refine Nat.lt_of_not_le fun z => ?_
        rw [List.getD_eq_getElem?_getD, List.getElem?_eq_none z] at e
        cases e
      have e' : δ[j]? = some (some d) := by
        rw [List.getD_eq_getElem?_getD, List.getElem?_eq_getElem hj] at e
        rw [List.getElem?_eq_getElem hj]
        exact congrArg some e
      obtain ⟨v, hv, r⟩ := h.get j d e'
      refine ⟨v, ?_, r⟩
      unfold blkSt
      rw [List.getElem?_append_right (by simpa using hi), List.length_replicate, List.getElem?_map, ej]
      simp [List.getD_eq_getElem?_getD, hv]
def sCompL (wi : TI2) (g : TG2) (tt : TT2) (te : TE2) (n : Nat) (fr : List Nat) : St2 → Mem → (List D → Mem → Prop) → Prop := fun δ M Q => wi δ M fun src M1 => ∃ (B : Nat) (W : Nat → List D → Mem → Prop), W 0 [] M1 ∧ ∀ i acc M, W i acc M → i ≤ B ∧ acc.length ≤ sizeLine ∧ match items src M with
  | none => False
  | some ds => match ds[i]? with
    | none => i = ds.length ∧ Q acc M
    | some d => g d (blkSt2 n fr δ) M fun δ2 M2 => tt δ2 M2 fun b M3 => if b = true then te δ2 M3 fun y M4 => W (i + 1) (acc ++ [y]) M4 else W (i + 1) acc M3
theorem comp_lift {K : PySem.W.Frag} {wi : TI2} {g : TG2} {tt : TT2} {te : TE2} {n : Nat} {fr : List Nat} {Qe : List D → Mem → Prop} {σ : L2.St} {δ : St2} {H : Hp} {M : Mem} {Q : V → Hp → Prop} {gv : TG} (hgl : ∀ v σ H Q, upG K g v σ H Q → gv v σ H Q) (hs : StRel K H δ σ) (hm : RelM K H M) (q : sCompL wi g tt te n fr δ M Qe)
    (k : ∀ acc xs H' M' p, Dats K H' acc xs → RelM K H' M' → TExt H H' → acc.length ≤ sizeLine → H' p = none → Qe acc M' → Q (.ref p) (upd H' p (.lst xs))) : tComp (upI K wi) gv (upT K tt) (up K te) n fr σ H Q := by
  refine ⟨δ, M, _, hs, hm, q, fun J H1 src M1 ok hm1 t1 q1 => ?_⟩
  obtain ⟨B, W, w0, turn⟩ := q1
  refine ⟨fun i m xs H' => m = B + 1 - i ∧ ∃ acc M', Dats K H' acc xs ∧ RelM K H' M' ∧ TExt H1 H' ∧ W i acc M', ⟨B + 1, rfl, [], M1, by rw [dats_nil], hm1, TExt.refl _, w0⟩, ?_⟩
  rintro i m xs H' ⟨rfl, acc, M', hd', hm', t', w'⟩
  obtain ⟨hB, hz, h⟩ := turn i acc M' w'
  refine ⟨by rw [hd'.length]; exact hz, ?_⟩
  cases ei : items src M' with
  | none => rw [ei] at h; exact h.elim
  | some ds =>
    rw [ei] at h
    obtain ⟨go, stop, yld⟩ := ok H' M' ds t' hm' ei
    cases ed : ds[i]? with
    | none =>
      simp only [ed] at h
      exact .inl ⟨stop i h.1, fun p hp => k acc xs H' M' p hd' hm' (t1.trans t') hz hp h.2⟩
    | some d =>
      simp only [ed] at h
      have hil : i < ds.length := (List.getElem?_eq_some_iff.mp ed).1
      refine .inr ⟨go i hil, fun ys H2 => ∃ acc2 M2, Dats K H2 acc2 ys ∧ RelM K H2 M2 ∧ TExt H1 H2 ∧ W (i + 1) acc2 M2, fun ys H2 ⟨acc2, M2, a, b, c, w2⟩ => ⟨B + 1 - (i + 1), by omega, rfl, acc2, M2, a, b, c, w2⟩, fun x H2 y => ?_⟩
      obtain ⟨t2, hm2, d', e', hx'⟩ := yld i x H2 hil y
      rw [ed] at e'
      cases e'
      refine hgl _ _ _ _ ⟨d, blkSt2 n fr δ, M', _, hx', blk_rel (hs.mono (t1.trans (t'.trans t2))) n fr, hm2, h, fun σ3 H3 δ3 M3 hs3 hm3 t3 q3 => ?_⟩
      refine ⟨δ3, M3, _, hs3, hm3, q3, fun b H4 M4 hm4 t4 q4 => ?_⟩
      cases b with
      | false =>
        rw [if_neg Bool.false_ne_true] at q4 ⊢
        exact ⟨acc, M4, Dats.mono (t2.trans (t3.trans t4)) acc hd', hm4, t'.trans (t2.trans (t3.trans t4)), q4⟩
      | true =>
        rw [if_pos rfl] at q4 ⊢
        exact ⟨δ3, M4, _, hs3.mono t4, hm4, q4, fun yv H5 y5 M5 hy5 hm5 t5 q5 => ⟨acc ++ [y5], M5, (Dats.mono (t2.trans (t3.trans (t4.trans t5))) acc hd').append (Dats.one hy5), hm5, t'.trans (t2.trans (t3.trans (t4.trans t5))), q5⟩⟩
section
variable {X : Cx} {scope : Scope} {tgs : List Str} {fr : List Nat} {tg elt iter : Expr} {ifs : List Expr} {pos : Pos} {wi : TI2} {g : TG2} {tt : TT2} {te : TE2}
abbrev QIf (X : Cx) (ifs : List Expr) (t : TT2) : Prop := PIf X ifs (upT X.K t)
def sYes : TT2 := fun _ M Q => Q true M
theorem qif_nil : QIf X [] sYes := fun pins s σ H Q I h => pif_nil pins s σ H Q I (by
  obtain ⟨δ, M, Q2, hs, hm, q, k⟩ := h
  exact k _ _ _ hm (TExt.refl H) q)
def TgC (X : Cx) (scope : Scope) (tgs : List Str) (fr : List Nat) (tg : Expr) (g2 : TG2) : Prop :=
  ∃ g : TG, (∀ cl C fp s H, PG (cxBlk X scope cl tgs fr C fp s H) tg g) ∧ GKeeps tgs.length g ∧ ∀ v σ H Q, upG X.K g2 v σ H Q → g v σ H Q
theorem tc_name {i : Nat} {x : Str} {ps : Pos} (h : ∀ cl C fp s H, PG (cxBlk X scope cl tgs fr C fp s H) (.Name x ps) (gName i)) (hi : i < tgs.length) : TgC X scope tgs fr (.Name x ps) (hName i) := ⟨_, h, gk_name hi, name_lift⟩
def GMono (g : TG) : Prop := ∀ x σ H Q Q', (∀ σ' H', Q σ' H' → Q' σ' H') → g x σ H Q → g x σ H Q'
def GsMono (g : TGs) : Prop := ∀ xs σ H Q Q', (∀ σ' H', Q σ' H' → Q' σ' H') → g xs σ H Q → g xs σ H Q'
theorem gm_name {i : Nat} : GMono (gName i) := fun x σ H Q Q' k q => k _ _ q
theorem gm_nil : GsMono gNil := fun xs σ H Q Q' k q => ⟨q.1, k _ _ q.2⟩
theorem gm_cons {t : TG} {u : TGs} (ht : GMono t) (hu : GsMono u) : GsMono (gCons t u) := fun xs σ H Q Q' k ⟨v, r, e, q⟩ => ⟨v, r, e, ht v σ H _ _ (fun σ' H' q' => hu r σ' H' _ _ k q') q⟩
theorem gk_cons {n : Nat} {t : TG} {u : TGs} (h : GKeeps n t) (k : GsKeeps n u) (ht : GMono t) (hu : GsMono u) : GsKeeps n (gCons t u) := fun xs σ H Q ⟨v, r, e, q⟩ => by
  refine ⟨v, r, e, ht v σ H _ _ (fun σ' H' ⟨q', l', k'⟩ => ?_) (h v σ H _ q)⟩
  refine hu r σ' H' _ _ (fun σ2 H2 ⟨q2, l2, k2⟩ => ⟨q2, l2.trans l', fun j hj => (k2 j hj).trans (k' j hj)⟩) (k r σ' H' _ q')
theorem gk_tup {K : PySem.W.Frag} {m n : Nat} {t : TGs} (h : GsKeeps m t) : GKeeps m (gTup K n t) := fun x σ H Q ⟨a, xs, e, hq, hl, q⟩ => ⟨a, xs, e, hq, hl, h xs σ H _ q⟩
theorem tup2_lift {K : PySem.W.Frag} {i j : Nat} : ∀ v σ H Q, upG K (hTup 2 (hCons (hName i) (hCons (hName j) hNil))) v σ H Q → gTup K 2 (gCons (gName i) (gCons (gName j) gNil)) v σ H Q := fun v σ H Q ⟨d, δ, M, Q2, hd, hs, hm, q, k⟩ => by
  cases d with
  | tup ds =>
    obtain ⟨p, xs, rfl, hq, hx⟩ := dat_tup.mp hd
    obtain ⟨hl, q⟩ := q
    match ds, hl, hx, q with
    | [a, b], hl, hx, q =>
      obtain ⟨x, r, rfl, ha, hx⟩ := dats_cons.mp hx
      obtain ⟨y, r, rfl, hb, hx⟩ := dats_cons.mp hx
      cases (dats_nil.mp hx)
      exact ⟨p, [x, y], rfl, hq, rfl, x, [y], rfl, y, [], rfl, rfl, k _ H _ M ((hs.set ha).set hb) hm (TExt.refl H) q⟩
  | _ => exact q.elim
theorem tc_tup2 {i j k : Nat} {x y : Str} {px py pt : Pos} (h : ∀ cl C fp s H, PG (cxBlk X scope cl tgs fr C fp s H) (.Tuple [.Name x px, .Name y py] k pt) (gTup X.K 2 (gCons (gName i) (gCons (gName j) gNil)))) (hi : i < tgs.length) (hj : j < tgs.length) :
    TgC X scope tgs fr (.Tuple [.Name x px, .Name y py] k pt) (hTup 2 (hCons (hName i) (hCons (hName j) hNil))) :=
  ⟨_, h, gk_tup (gk_cons (gk_name hi) (gk_cons (gk_name hj) gk_nil gm_name gm_nil) gm_name (gm_cons gm_name gm_nil)), tup2_lift⟩
def CompOk (X : Cx) (scope : Scope) (tgs : List Str) (fr : List Nat) (tg iter : Expr) (ifs : List Expr) (elt : Expr) (wi : TI2) (g : TG2) (tt : TT2) (te : TE2) : Prop :=
  BlkOk X scope fr ∧ X.calm = true ∧ (∀ e s, X.xe e s → False) ∧ QI X tg iter wi ∧ TgC X scope tgs fr tg g ∧ (∀ cl C fp s H, QIf (cxBlk X scope cl tgs fr C fp s H) ifs tt) ∧ (∀ cl C fp s H, QE (cxBlk X scope cl tgs fr C fp s H) elt te)
def sComp (wi : TI2) (g : TG2) (tt : TT2) (te : TE2) (n : Nat) (fr : List Nat) : TE2 := fun δ M Q => sCompL wi g tt te n fr δ M fun ds M' => ∀ p, M' p = none → Q (.ref p) (updM M' p (.lst ds))
theorem q_comp (C : CompOk X scope tgs fr tg iter ifs elt wi g tt te) (hs : ∀ x, foldedSetIterable iter X.env x = pure x := by intro _; rfl) : QE X (.ListComp elt [⟨tg, iter, ifs, 0⟩] scope pos) (sComp wi g tt te tgs.length fr) := by
  obtain ⟨B, hc, hE, hi, ⟨gv, hg, gk, gl⟩, ht, he⟩ := C
  refine peImp (pe_comp (tt := upT X.K tt) (te := up X.K te) B hc hE hi hg gk ht he hs) ?_
  rintro σ H Q ⟨δ, M, Q2, hs, hm, q, k⟩
  exact comp_lift gl hs hm q fun acc xs H' M' p hd hm' t' hz hp q' => k _ _ (.ref p) _ (dat_ref.mpr rfl) (lst_new hp hd hm') (t'.trans (TExt.laid hp)) (q' p (hm'.free hp))
theorem qs_setComp {i : Nat} {y : Str} {py spos : Pos} (hN : X.N.Nodup) (hiy : X.N[i]? = some y) (hy : Loc X.env.scope y) (C : CompOk X scope tgs fr tg iter ifs elt wi g tt te)
    (hsw : swapsWith (.ListComp elt [⟨tg, iter, ifs, 0⟩] scope pos) (some (.Name y py)) spos.line X.env = pure true := by rfl)
    (hf : X.fn y = true ∨ X.env.scope.names.lookup y = some .local := by first | exact .inl rfl | exact .inr rfl | assumption)
    (hs : ∀ x, foldedSetIterable iter X.env x = pure x := by intro _; rfl) : QS X (.Assign [.Name y py] (.ListComp elt [⟨tg, iter, ifs, 0⟩] scope pos) spos) (sAsg (sComp wi g tt te tgs.length fr) (hName i)) := by
  obtain ⟨B, hc, hE, hi, ⟨gv, hg, gk, gl⟩, ht, he⟩ := C
  refine psImp (ps_setComp (tt := upT X.K tt) (te := up X.K te) hN hiy hy B hc hE hi hg gk ht he hsw hf hs) ?_
  rintro E σ H ⟨δ, M, D2, hs, hm, q, k⟩
  exact comp_lift gl hs hm q fun acc xs H' M' p hd hm' t' hz hp q' => k.nx _ _ _ _ (((hs.mono t').mono (TExt.laid hp)).set (dat_ref.mpr rfl)) (lst_new hp hd hm') (t'.trans (TExt.laid hp)) (q' p (hm'.free hp))
def sTmp (r3 : List D → Mem → VK2 → Prop) (wi : TI2) (g : TG2) (tt : TT2) (te : TE2) (n : Nat) (fr : List Nat) : TE2 := fun δ M Q => sCompL wi g tt te n fr δ M fun ds M' => r3 ds M' Q
def TmpOf (r2 : List D → Mem → VK2 → Prop) (r3 : List D → Mem → VK2 → Prop) : Prop := ∀ ds M p Q, M p = none → ds.length ≤ sizeLine → r3 ds M Q → r2 [.ref p] (updM M p (.lst ds)) (fin2 Q)
theorem fin_cont {K : PySem.W.Frag} {H : Hp} {Q2 : VK2} {Q : VK} (k : Cont K H Q2 Q) : Cont K H (fin2 Q2) Q := fun v H' d M' hd hm t ⟨M'', s, q⟩ => k v H' d M'' hd (hm.sub s) t q
variable {x : Str} {p : Pos} {id T : String} {cpos : Pos}
theorem tmp_lift {r : List V → Hp → VK → Prop} {r2 r3 : List D → Mem → VK2 → Prop} {gv : TG} (gl : ∀ v σ H Q, upG X.K g v σ H Q → gv v σ H Q) (hr : SndC X.K r r2) (h3 : TmpOf r2 r3) : ∀ σ H Q, up X.K (sTmp r3 wi g tt te tgs.length fr) σ H Q → tCB r (tCons (tComp (upI X.K wi) gv (upT X.K tt) (up X.K te) tgs.length fr) tNil) σ H Q := by
  rintro σ H Q ⟨δ, M, Q2, hs, hm, q, k⟩
  show tComp (upI X.K wi) gv (upT X.K tt) (up X.K te) tgs.length fr σ H (fun x H1 => r [x] H1 Q)
  refine comp_lift gl hs hm q fun acc xs H' M' p hd hm' t' hz hp q' => ?_
  exact hr [.ref p] [.ref p] _ _ (fin2 Q2) Q (Dats.one (dat_ref.mpr rfl)) (lst_new hp hd hm') (h3 acc M' p Q2 (hm'.free hp) hz q') (fin_cont (k.mono (t'.trans (TExt.laid hp))))
theorem q_tmpB {r2 r3 : List D → Mem → VK2 → Prop} (o : CallS X (.builtin id) r2) (h3 : TmpOf r2 r3) (hg : Gl X x) (hm : X.mg x = none) (hv : bootBuiltins x = some (.builtin id)) (C : CompOk X scope tgs fr tg iter ifs elt wi g tt te) (hn : x ≠ "__name__" := by decide) (hdb : (x == ("__debug__" : Str)) = false := by decide)
    (hs : ∀ x, foldedSetIterable iter X.env x = pure x := by intro _; rfl) : QE X (.Call (.Name x p) [.ListComp elt [⟨tg, iter, ifs, 0⟩] scope cpos] [] pos) (sTmp r3 wi g tt te tgs.length fr) := by
  obtain ⟨B, hc, hE, hi, ⟨gv, hgt, gk, gl⟩, ht, he⟩ := C
  obtain ⟨r, ho, hr⟩ := o
  exact peImp (pe_callB ho hg hm hv (pa_cons (pe_comp (tt := upT X.K tt) (te := up X.K te) B hc hE hi hgt gk ht he hs) pa_nil) hn hdb) (tmp_lift gl hr h3)
theorem q_tmpT {r2 r3 : List D → Mem → VK2 → Prop} (o : CallS X (.type T) r2) (h3 : TmpOf r2 r3) (hg : Gl X x) (hm : X.mg x = none) (hv : bootBuiltins x = some (.type T)) (C : CompOk X scope tgs fr tg iter ifs elt wi g tt te) (hn : x ≠ "__name__" := by decide) (hdb : (x == ("__debug__" : Str)) = false := by decide)
    (hs : ∀ x, foldedSetIterable iter X.env x = pure x := by intro _; rfl) : QE X (.Call (.Name x p) [.ListComp elt [⟨tg, iter, ifs, 0⟩] scope cpos] [] pos) (sTmp r3 wi g tt te tgs.length fr) := by
  obtain ⟨B, hc, hE, hi, ⟨gv, hgt, gk, gl⟩, ht, he⟩ := C
  obtain ⟨r, ho, hr⟩ := o
  exact peImp (pe_callTy ho hg hm hv (pa_cons (pe_comp (tt := upT X.K tt) (te := up X.K te) B hc hE hi hgt gk ht he hs) pa_nil) hn hdb) (tmp_lift gl hr h3)
variable {o : Expr} {to : TE2} {name : Str} {apos : Pos}
def sTmpM (T : String) (r3 : D → List D → Mem → VK2 → Prop) (to : TE2) (wi : TI2) (g : TG2) (tt : TT2) (te : TE2) (n : Nat) (fr : List Nat) : TE2 := fun δ M Q => to δ M fun d M1 => tyD T d M1 ∧ sCompL wi g tt te n fr δ M1 fun ds M' => r3 d ds M' Q
def TmpOfM (r2 : D → List D → Mem → VK2 → Prop) (r3 : D → List D → Mem → VK2 → Prop) : Prop := ∀ d ds M p Q, M p = none → ds.length ≤ sizeLine → r3 d ds M Q → r2 d [.ref p] (updM M p (.lst ds)) (fin2 Q)
theorem q_tmpM {r2 r3 : D → List D → Mem → VK2 → Prop} (pa : PlainAttrs T) (slot : Slot T name id) (hty : typeOf (.builtin id) = pure (.type "method_descriptor")) (hm : MtS X id r2) (h3 : TmpOfM r2 r3) (ho : QE X o to) (C : CompOk X scope tgs fr tg iter ifs elt wi g tt te)
    (hs : ∀ x, foldedSetIterable iter X.env x = pure x := by intro _; rfl)
    (hbase : attributeBase o name X.env (eval o X.env) = eval o X.env := by rfl)
    (hfew : ((backTo pos (starEach [.ListComp elt [⟨tg, iter, ifs, 0⟩] scope cpos] X.env)).all (fun x => !x.1) && (backToKw pos (keywordEach [] X.env)).all (fun x => x.1.isSome)
      && decide (([.ListComp elt [⟨tg, iter, ifs, 0⟩] scope cpos] : List Expr).length + ([] : List Keyword).length + (if ([] : List Keyword).isEmpty then 0 else 1) < 30)) = true := by rfl)
    (hline : (apos.endLine == pos.line) = true := by rfl) :
    QE X (.Call (.Attribute o name apos) [.ListComp elt [⟨tg, iter, ifs, 0⟩] scope cpos] [] pos) (sTmpM T r3 to wi g tt te tgs.length fr) := by
  obtain ⟨B, hc, hE, hi, ⟨gv, hgt, gk, gl⟩, ht, he⟩ := C
  obtain ⟨r, h1, hr⟩ := hm
  refine peImp (pe_bm pa slot hty h1 ho (pa_cons (pe_comp (tt := upT X.K tt) (te := up X.K te) B hc hE hi hgt gk ht he hs) pa_nil) hbase hfew hline) ?_
  rintro σ H Q ⟨δ, M, Q2, hs, hm, q, k⟩
  refine ⟨δ, M, _, hs, hm, q, fun x H1 d M1 hd hm1 t1 q1 => ⟨q1.1.v hd hm1, ?_⟩⟩
  show tComp (upI X.K wi) gv (upT X.K tt) (up X.K te) tgs.length fr σ H1 (fun y H2 => r x [y] H2 Q)
  refine comp_lift gl (hs.mono t1) hm1 q1.2 fun acc xs H' M' p hda hm' t' hz hp q' => ?_
  exact hr x [.ref p] d [.ref p] _ _ (fin2 Q2) Q (Dat.mono (t'.trans (TExt.laid hp)) d hd) (Dats.one (dat_ref.mpr rfl)) (lst_new hp hda hm') (h3 d acc M' p Q2 (hm'.free hp) hz q') (fin_cont (k.mono (t1.trans (t'.trans (TExt.laid hp)))))
end
end L3

namespace L3
open PySem PySem.Spec L2
section
variable {X : Cx}
def dI (C : Int → Int → Prop) (g : Int → Int → D) : R22 := fun x y M Q => match x, y with
  | .int i, .int j => C i j ∧ Q (g i j) M
  | _, _ => False
def dI0 (g : Int → Int → D) : R22 := fun x y M Q => match x, y with
  | .int i, .int j => Q (g i j) M
  | _, _ => False
theorem si {f : Value → Value → Sem Value} {C : Int → Int → Prop} {g : Int → Int → Int} (h : OpR X f (rI C fun i j => .int (g i j))) : OpS X f (dI C fun i j => .int (g i j)) := ⟨_, h, fun x y d e H M Q2 Q hd he hm q k => by
  cases d <;> cases e <;> first
    | exact q.elim
    | (cases (dat_int.mp hd); cases (dat_int.mp he); exact ⟨_, _, rfl, rfl, q.1, k _ H _ M (dat_int.mpr rfl) hm (TExt.refl H) q.2⟩)⟩
theorem si0 {f : Value → Value → Sem Value} {g : Int → Int → Int} (h : OpR X f (rI0 fun i j => .int (g i j))) : OpS X f (dI0 fun i j => .int (g i j)) := ⟨_, h, fun x y d e H M Q2 Q hd he hm q k => by
  cases d <;> cases e <;> first
    | exact q.elim
    | (cases (dat_int.mp hd); cases (dat_int.mp he); exact ⟨_, _, rfl, rfl, k _ H _ M (dat_int.mpr rfl) hm (TExt.refl H) q⟩)⟩
theorem sb0 {f : Value → Value → Sem Value} {g : Int → Int → Bool} (h : OpR X f (rI0 fun i j => .bl (g i j))) : OpS X f (dI0 fun i j => .bl (g i j)) := ⟨_, h, fun x y d e H M Q2 Q hd he hm q k => by
  cases d <;> cases e <;> first
    | exact q.elim
    | (cases (dat_int.mp hd); cases (dat_int.mp he); exact ⟨_, _, rfl, rfl, k _ H _ M (dat_bl.mpr rfl) hm (TExt.refl H) q⟩)⟩
theorem o_sub : OpS X (binaryOp .Sub) (dI0 fun i j => .int (i - j)) := si0 op_sub
theorem o_mod : OpS X (binaryOp .Mod) (dI (fun _ j => 0 < j) fun i j => .int (i % j)) := si op_mod
theorem o_fdiv : OpS X (binaryOp .FloorDiv) (dI CDiv fun i j => .int (i / j)) := si op_fdiv
theorem o_pow : OpS X (binaryOp .Pow) (dI CPow fun i j => .int (i ^ j.toNat)) := si op_pow
theorem o_lt : OpS X (compareOp .Lt) (dI0 fun i j => .bl (decide (i < j))) := sb0 op_lt
theorem o_gt : OpS X (compareOp .Gt) (dI0 fun i j => .bl (decide (j < i))) := sb0 op_gt
theorem o_ge : OpS X (compareOp .GtE) (dI0 fun i j => .bl (decide (j ≤ i))) := sb0 op_ge
def dAdd : R22 := fun x y M Q => match x, y with
  | .int i, .int j => Q (.int (i + j)) M
  | .str i, .str j => i.length + j.length ≤ sizeLine ∧ Q (.str (i ++ j)) M
  | .tup xs, .tup ys => xs ≠ [] ∧ xs.length + ys.length ≤ sizeLine ∧ Q (.tup (xs ++ ys)) M
  | .ref a, .ref b => match M a, M b with
    | some (.lst xs), some (.lst ys) => xs.length + ys.length ≤ sizeLine ∧ ∀ p, M p = none → Q (.ref p) (updM M p (.lst (xs ++ ys)))
    | _, _ => False
  | _, _ => False
theorem o_add : OpS X (binaryOp .Add) dAdd := ⟨_, op_add.or (op_add_str.or (op_cat.or op_catT)), fun x y d e H M Q2 Q hd he hm q k => by
  cases d with
  | int i =>
    cases e with
    | int j => cases (dat_int.mp hd); cases (dat_int.mp he); exact .inl ⟨_, _, rfl, rfl, k _ H _ M (dat_int.mpr rfl) hm (TExt.refl H) q⟩
    | _ => exact q.elim
  | str i =>
    cases e with
    | str j => cases (dat_str.mp hd); cases (dat_str.mp he); exact .inr (.inl ⟨_, _, rfl, rfl, q.1, k _ H _ M (dat_str.mpr rfl) hm (TExt.refl H) q.2⟩)
    | _ => exact q.elim
  | tup xs =>
    cases e with
    | tup ys =>
      obtain ⟨p, vs, rfl, hp, hx⟩ := dat_tup.mp hd
      obtain ⟨p2, ws, rfl, hp2, hy⟩ := dat_tup.mp he
      obtain ⟨hne, hlen, q⟩ := q
      refine .inr (.inr (.inr ⟨p, p2, vs, ws, rfl, rfl, hp, hp2, ?_, by rw [hx.length, hy.length]; exact hlen, ?_⟩))
      · intro z
        have := hx.length
        rw [z] at this
        exact hne (List.length_eq_zero_iff.mp this.symm)
      · refine ⟨fun hz => ?_, fun hz p3 hp3 => ?_⟩
        · have hy0 : ys = [] := by
            have := hy.length
            rw [hz] at this
            exact List.length_eq_zero_iff.mp this.symm
          subst hy0
          rw [List.append_nil] at q
          exact k _ H _ M (dat_tup.mpr ⟨p, vs, rfl, hp, hx⟩) hm (TExt.refl H) q
        · exact k _ _ _ M (tup_new hp3 (hx.append hy)) (hm.laid hp3) (TExt.laid hp3) q
    | _ => exact q.elim
  | ref a =>
    cases e with
    | ref b =>
      cases (dat_ref.mp hd); cases (dat_ref.mp he)
      have q : (match M a, M b with | some (.lst xs), some (.lst ys) => xs.length + ys.length ≤ sizeLine ∧ ∀ p, M p = none → Q2 (.ref p) (updM M p (.lst (xs ++ ys))) | _, _ => False) := q
      cases ea : M a with
      | none => rw [ea] at q; exact q.elim
      | some oa =>
        cases eb : M b with
        | none => rw [ea, eb] at q; cases oa; exact q.elim
        | some ob =>
          cases oa with
          | lst xs =>
            cases ob with
            | lst ys =>
              rw [ea, eb] at q
              obtain ⟨vs, hvs, dvs⟩ := hm a _ ea
              obtain ⟨ws, hws, dws⟩ := hm b _ eb
              refine .inr (.inr (.inl ⟨a, b, vs, ws, rfl, rfl, hvs, hws, by rw [dvs.length, dws.length]; exact q.1, fun p hp => ?_⟩))
              exact k _ _ (.ref p) _ (dat_ref.mpr rfl) (lst_new hp (dvs.append dws) hm) (TExt.laid hp) (q.2 p (hm.free hp))
    | _ => exact q.elim
  | _ => exact q.elim⟩
def dMul : R22 := fun x y M Q => match x, y with
  | .int i, .int j => CMul i j ∧ Q (.int (i * j)) M
  | .str z, .int n => MulOk z n ∧ Q (.str (Txt.mul z n)) M
  | _, _ => False
theorem o_mul : OpS X (binaryOp .Mult) dMul := ⟨_, op_mul.or op_mul_str, fun x y d e H M Q2 Q hd he hm q k => by
  cases d <;> cases e <;> first
    | exact q.elim
    | (cases (dat_int.mp hd); cases (dat_int.mp he); exact .inl ⟨_, _, rfl, rfl, q.1, k _ H _ M (dat_int.mpr rfl) hm (TExt.refl H) q.2⟩)
    | (cases (dat_str.mp hd); cases (dat_int.mp he); exact .inr ⟨_, _, rfl, rfl, q.1, k _ H _ M (dat_str.mpr rfl) hm (TExt.refl H) q.2⟩)⟩
def flatD : D → Option V
  | .non => some .non
  | .bl b => some (.bl b)
  | .int i => some (.int i)
  | .str x => some (.str x)
  | _ => none
theorem flatD_dat {K : PySem.W.Frag} {H : Hp} {d : D} {x v : V} (e : flatD d = some v) (h : Dat K H d x) : x = v := by
  cases d with
  | non => cases e; exact dat_non.mp h
  | bl b => cases e; exact dat_bl.mp h
  | int i => cases e; exact dat_int.mp h
  | str z => cases e; exact dat_str.mp h
  | ty n => exact absurd e (by intro z; cases z)
  | ref a => exact absurd e (by intro z; cases z)
  | tup xs => exact absurd e (by intro z; cases z)
  | fl xs => exact absurd e (by intro z; cases z)
theorem flatD_flat {d : D} {v : V} (e : flatD d = some v) : flatV v = true := by
  cases d with
  | non => cases e; rfl
  | bl b => cases e; rfl
  | int i => cases e; rfl
  | str z => cases e; rfl
  | ty n => exact absurd e (by intro z; cases z)
  | ref a => exact absurd e (by intro z; cases z)
  | tup xs => exact absurd e (by intro z; cases z)
  | fl xs => exact absurd e (by intro z; cases z)
def dEq (neg : Bool) : R22 := fun x y M Q => match x, y with
  | .int i, .int j => Q (.bl (xor neg (decide (i = j)))) M
  | .bl i, .bl j => Q (.bl (xor neg (decide (i = j)))) M
  | .str i, .str j => Q (.bl (xor neg (decide (i = j)))) M
  | _, _ => False
theorem o_eq : OpS X (compareOp .Eq) (dEq false) := ⟨_, op_eq, fun x y d e H M Q2 Q hd he hm q k => by
  cases d <;> cases e <;> first
    | exact q.elim
    | (cases (dat_int.mp hd); cases (dat_int.mp he); refine ⟨rfl, k _ H _ M (dat_bl.mpr rfl) hm (TExt.refl H) ?_⟩; have q : Q2 (.bl (xor false (decide (_ = _)))) M := q; simpa using q)
    | (cases (dat_bl.mp hd); cases (dat_bl.mp he); refine ⟨rfl, k _ H _ M (dat_bl.mpr rfl) hm (TExt.refl H) ?_⟩; have q : Q2 (.bl (xor false (decide (_ = _)))) M := q; simpa using q)
    | (cases (dat_str.mp hd); cases (dat_str.mp he); refine ⟨rfl, k _ H _ M (dat_bl.mpr rfl) hm (TExt.refl H) ?_⟩; have q : Q2 (.bl (xor false (decide (_ = _)))) M := q; simpa using q)⟩
theorem o_ne : OpS X (compareOp .NotEq) (dEq true) := ⟨_, op_ne, fun x y d e H M Q2 Q hd he hm q k => by
  cases d <;> cases e <;> first
    | exact q.elim
    | (cases (dat_int.mp hd); cases (dat_int.mp he); refine ⟨rfl, k _ H _ M (dat_bl.mpr rfl) hm (TExt.refl H) ?_⟩; have q : Q2 (.bl (xor true (decide (_ = _)))) M := q; simpa using q)
    | (cases (dat_bl.mp hd); cases (dat_bl.mp he); refine ⟨rfl, k _ H _ M (dat_bl.mpr rfl) hm (TExt.refl H) ?_⟩; have q : Q2 (.bl (xor true (decide (_ = _)))) M := q; simpa using q)
    | (cases (dat_str.mp hd); cases (dat_str.mp he); refine ⟨rfl, k _ H _ M (dat_bl.mpr rfl) hm (TExt.refl H) ?_⟩; have q : Q2 (.bl (xor true (decide (_ = _)))) M := q; simpa using q)⟩
def dIsN (neg : Bool) : R22 := fun x y M Q => match y with
  | .non => match x with
    | .non => Q (.bl (!neg)) M
    | _ => Q (.bl neg) M
  | _ => False
theorem dat_nonV {K : PySem.W.Frag} {H : Hp} {d : D} {x : V} (h : Dat K H d x) : decide (x = .non) = match d with | .non => true | _ => false := by
  cases d with
  | non => cases (dat_non.mp h); rfl
  | bl b => cases (dat_bl.mp h); rfl
  | int b => cases (dat_int.mp h); rfl
  | str b => cases (dat_str.mp h); rfl
  | ty b => cases (dat_ty.mp h); rfl
  | ref b => cases (dat_ref.mp h); rfl
  | tup b => obtain ⟨p, xs, rfl, _⟩ := dat_tup.mp h; rfl
  | fl b => obtain ⟨p, xs, rfl, _⟩ := dat_fl.mp h; rfl
theorem o_isN : OpS X (compareOp .Is) (dIsN false) := ⟨_, op_isN, fun x y d e H M Q2 Q hd he hm q k => by
  cases e with
  | non =>
    refine ⟨dat_non.mp he, ?_⟩
    rw [dat_nonV hd]
    refine k _ H _ M (dat_bl.mpr rfl) hm (TExt.refl H) ?_
    cases d <;> exact q
  | _ => exact q.elim⟩
def flats : List D → Option (List V)
  | [] => some []
  | d :: r => match flatD d, flats r with
    | some v, some vs => some (v :: vs)
    | _, _ => none
theorem flats_dats {K : PySem.W.Frag} {H : Hp} : ∀ {ds : List D} {xs vs : List V}, flats ds = some vs → Dats K H ds xs → xs = vs ∧ vs.all flatV = true
  | [], xs, vs, e, h => by cases e; exact ⟨dats_nil.mp h, rfl⟩
  | d :: r, xs, vs, e, h => by
    obtain ⟨x, ys, rfl, hx, hy⟩ := dats_cons.mp h
    unfold flats at e
    cases e1 : flatD d with
    | none => rw [e1] at e; cases e
    | some v =>
      cases e2 : flats r with
      | none => rw [e1, e2] at e; cases e
      | some ws =>
        rw [e1, e2] at e
        cases e
        obtain ⟨h1, h2⟩ := flats_dats e2 hy
        exact ⟨by rw [flatD_dat e1 hx, h1], by rw [List.all_cons, flatD_flat e1, h2]; rfl⟩
def inD (x : D) (ds : List D) : Option Bool := match flatD x, flats ds with
  | some v, some vs => some (inV v vs)
  | _, _ => none
def dIn : R22 := fun x y M Q => match y with
  | .str j => match x with
    | .str i => Q (.bl (!(Builtin.Str.occurrences j i 0 j.length 1).isEmpty)) M
    | _ => False
  | .tup ds => match inD x ds with
    | some b => Q (.bl b) M
    | none => False
  | .ref a => match M a with
    | some (.lst ds) => match inD x ds with
      | some b => Q (.bl b) M
      | none => False
    | _ => False
  | _ => False
theorem inD_of {K : PySem.W.Frag} {H : Hp} {x : V} {xs : List V} {d : D} {ds : List D} {b : Bool} (e : inD d ds = some b) (hd : Dat K H d x) (hx : Dats K H ds xs) : flatV x = true ∧ xs.all flatV = true ∧ inV x xs = b := by
  unfold inD at e
  cases e1 : flatD d with
  | none => rw [e1] at e; cases e
  | some v =>
    cases e2 : flats ds with
    | none => rw [e1, e2] at e; cases e
    | some vs =>
      rw [e1, e2] at e
      have e : inV v vs = b := Option.some.inj e
      obtain ⟨rfl, h2⟩ := flats_dats e2 hx
      cases (flatD_dat e1 hd)
      exact ⟨flatD_flat e1, h2, e⟩
theorem o_in : OpS X (compareOp .In) dIn := ⟨_, op_in_str.or op_in_seq, fun x y d e H M Q2 Q hd he hm q k => by
  cases e with
  | str j =>
    cases (dat_str.mp he)
    cases d with
    | str i => cases (dat_str.mp hd); exact .inl ⟨_, _, rfl, rfl, k _ H _ M (dat_bl.mpr rfl) hm (TExt.refl H) q⟩
    | _ => exact q.elim
  | tup ds =>
    obtain ⟨p, xs, rfl, hp, hx⟩ := dat_tup.mp he
    have q : (match inD d ds with | some b => Q2 (.bl b) M | none => False) := q
    cases ei : inD d ds with
    | none => rw [ei] at q; exact q.elim
    | some b =>
      rw [ei] at q
      obtain ⟨h1, h2, h3⟩ := inD_of ei hd hx
      refine .inr ⟨p, xs, rfl, .inr hp, h1, h2, ?_⟩
      simp only [Bool.false_eq_true, if_false]
      rw [h3]
      exact k _ H _ M (dat_bl.mpr rfl) hm (TExt.refl H) q
  | ref a =>
    cases (dat_ref.mp he)
    have q : (match M a with | some (.lst ds) => (match inD d ds with | some b => Q2 (.bl b) M | none => False) | _ => False) := q
    cases ea : M a with
    | none => rw [ea] at q; exact q.elim
    | some o =>
      cases o with
      | lst ds =>
        rw [ea] at q
        obtain ⟨xs, hx, dx⟩ := hm a _ ea
        cases ei : inD d ds with
        | none => simp only [ei] at q
        | some b =>
          simp only [ei] at q
          obtain ⟨h1, h2, h3⟩ := inD_of ei hd dx
          refine .inr ⟨a, xs, rfl, .inl (SqL.of hx), h1, h2, ?_⟩
          simp only [Bool.false_eq_true, if_false]
          rw [h3]
          exact k _ H _ M (dat_bl.mpr rfl) hm (TExt.refl H) q
  | _ => exact q.elim⟩
end
end L3

namespace L3
open PySem PySem.Spec L2
theorem atI_dat {K : PySem.W.Frag} {H : Hp} {ds : List D} {xs : List V} (h : Dats K H ds xs) {i : Int} {d : D} (e : atI ds i = some d) : ∃ x, atI xs i = some x ∧ Dat K H d x := by
  unfold atI at e ⊢
  rw [h.length]
  cases q : ixN ds.length i with
  | none => rw [q] at e; cases e
  | some j =>
    rw [q] at e
    obtain ⟨x, h1, h2⟩ := h.get (i := j) e
    exact ⟨x, h1, h2⟩
section
variable {X : Cx}
def lstAt (M : Mem) (a : Addr) : Option (List D) := match M a with
  | some (.lst ds) => some ds
  | _ => none
theorem lstAt_rel {K : PySem.W.Frag} {H : Hp} {M : Mem} {a : Addr} {ds : List D} (e : lstAt M a = some ds) (hm : RelM K H M) : ∃ xs, H a = some (.lst xs) ∧ Dats K H ds xs := by
  unfold lstAt at e
  cases q : M a with
  | none => rw [q] at e; cases e
  | some o =>
    cases o with
    | lst es =>
      rw [q] at e
      cases e
      exact hm a _ q
def seqD (M : Mem) : D → Option (List D)
  | .tup ds => some ds
  | .fl ds => some ds
  | .ref a => lstAt M a
  | _ => none
theorem seqD_rel {K : PySem.W.Frag} {H : Hp} {M : Mem} {d : D} {v : V} {ds : List D} (e : seqD M d = some ds) (hd : Dat K H d v) (hm : RelM K H M) : ∃ p xs, v = .ref p ∧ (SqL K H p xs ∨ SqT K H p xs) ∧ Dats K H ds xs := by
  cases d with
  | tup es =>
    cases e
    obtain ⟨p, xs, rfl, h, q⟩ := dat_tup.mp hd
    exact ⟨p, xs, rfl, .inr h, q⟩
  | fl es =>
    cases e
    obtain ⟨p, xs, rfl, h, q⟩ := dat_fl.mp hd
    exact ⟨p, xs, rfl, .inl h.sq, q⟩
  | ref a =>
    cases (dat_ref.mp hd)
    obtain ⟨xs, h, q⟩ := lstAt_rel e hm
    exact ⟨a, xs, rfl, .inl (SqL.of h), q⟩
  | _ => cases e
def dIx : R22 := fun x y M Q => match y with
  | .int i => match x with
    | .str z => z.length ≤ sizeLine ∧ (match atI z.cps.toList i with
      | some c => Q (.str ⟨#[c]⟩) M
      | none => False)
    | x => match seqD M x with
      | some ds => (match atI ds i with
        | some d => Q d M
        | none => False)
      | none => False
  | _ => False
theorem ix_seqd {x : V} {d : D} {i : Int} {H : Hp} {M : Mem} {Q2 : VK2} {Q : VK} {K : PySem.W.Frag} (hd : Dat K H d x) (hm : RelM K H M) (k : Cont K H Q2 Q)
    (q : match seqD M d with | some ds => (match atI ds i with | some d => Q2 d M | none => False) | none => False) : ∃ p xs v, x = .ref p ∧ (SqL K H p xs ∨ SqT K H p xs) ∧ atI xs i = some v ∧ Q v H := by
  cases e : seqD M d with
  | none => rw [e] at q; exact q.elim
  | some ds =>
    rw [e] at q
    cases ei : atI ds i with
    | none => simp only [ei] at q
    | some d' =>
      simp only [ei] at q
      obtain ⟨p, xs, rfl, h, hx⟩ := seqD_rel e hd hm
      obtain ⟨v, h1, h2⟩ := atI_dat hx ei
      exact ⟨p, xs, v, rfl, h, h1, k v H d' M h2 hm (TExt.refl H) q⟩
theorem x_ix : IxS X dIx := ⟨_, L2.x_ix, fun x y d e H M Q2 Q hd he hm q k => by
  cases e with
  | int i =>
    cases (dat_int.mp he)
    cases d with
    | str z =>
      cases (dat_str.mp hd)
      obtain ⟨hz, q⟩ := q
      refine ⟨hz, ?_⟩
      cases ei : atI z.cps.toList i with
      | none => rw [ei] at q; exact q.elim
      | some c => rw [ei] at q; exact ⟨c, rfl, k _ H _ M (dat_str.mpr rfl) hm (TExt.refl H) q⟩
    | tup ds =>
      obtain ⟨p, xs, v, rfl, h⟩ := ix_seqd (d := .tup ds) (i := i) hd hm k q
      exact ⟨xs, v, h⟩
    | fl ds =>
      obtain ⟨p, xs, v, rfl, h⟩ := ix_seqd (d := .fl ds) (i := i) hd hm k q
      exact ⟨xs, v, h⟩
    | ref a =>
      obtain ⟨p, xs, v, rfl, h⟩ := ix_seqd (d := .ref a) (i := i) hd hm k q
      exact ⟨xs, v, h⟩
    | _ => exact q.elim
  | _ => exact q.elim⟩
def cutD (xs : List D) (lo hi : Option Int) : List D := (xs.drop (HT.sIx xs.length 0 lo)).take (HT.sIx xs.length xs.length hi - HT.sIx xs.length 0 lo)
theorem cut_dats {K : PySem.W.Frag} {H : Hp} {ds : List D} {xs : List V} (h : Dats K H ds xs) (lo hi : Option Int) : Dats K H (cutD ds lo hi) (cutV xs lo hi) := by
  unfold cutD cutV
  rw [h.length]
  exact (h.drop _).take _
def dSl : D → Option Int → Option Int → Mem → VK2 → Prop := fun x lo hi M Q => match x with
  | .str z => z.length ≤ sizeLine ∧ Q (.str (cutS z lo hi)) M
  | .tup ds => ¬ (HT.sIx ds.length 0 lo = 0 ∧ HT.sIx ds.length ds.length hi = ds.length) ∧ Q (.tup (cutD ds lo hi)) M
  | .ref a => match lstAt M a with
    | some ds => ∀ p, M p = none → Q (.ref p) (updM M p (.lst (cutD ds lo hi)))
    | none => False
  | _ => False
theorem s_sl : SlS X dSl := ⟨_, L2.s_sl, fun x d lo hi H M Q2 Q hd hm q k => by
  cases d with
  | str z => cases (dat_str.mp hd); exact ⟨q.1, k _ H _ M (dat_str.mpr rfl) hm (TExt.refl H) q.2⟩
  | tup ds =>
    obtain ⟨p, xs, rfl, h, hx⟩ := dat_tup.mp hd
    refine .inr ⟨p, xs, rfl, h, by rw [hx.length]; exact q.1, fun p2 hp2 => ?_⟩
    exact k _ _ _ M (tup_new hp2 (cut_dats hx lo hi)) (hm.laid hp2) (TExt.laid hp2) q.2
  | ref a =>
    cases (dat_ref.mp hd)
    have q : (match lstAt M a with | some ds => ∀ p, M p = none → Q2 (.ref p) (updM M p (.lst (cutD ds lo hi))) | none => False) := q
    cases e : lstAt M a with
    | none => rw [e] at q; exact q.elim
    | some ds =>
      rw [e] at q
      obtain ⟨xs, h, hx⟩ := lstAt_rel e hm
      exact .inl ⟨a, xs, rfl, SqL.of h, fun p hp => k _ _ (.ref p) _ (dat_ref.mpr rfl) (lst_new hp (cut_dats hx lo hi) hm) (TExt.laid hp) (q p (hm.free hp))⟩
  | _ => exact q.elim⟩
def dLen : List D → Mem → VK2 → Prop := fun xs M Q => match xs with
  | [.str z] => z.length ≤ sizeLine ∧ Q (.int z.length) M
  | [x] => match seqD M x with
    | some ds => Q (.int ds.length) M
    | none => False
  | _ => False
theorem c_len : CallS X (.builtin "len") dLen := ⟨_, call_len_str.or call_len_seq, fun xs ds H M Q2 Q hd hm q k => by
  cases ds with
  | nil => exact q.elim
  | cons d r =>
    cases r with
    | cons d2 r2 => cases d <;> exact q.elim
    | nil =>
      obtain ⟨x, r, rfl, hx, hr⟩ := dats_cons.mp hd
      cases (dats_nil.mp hr)
      have seq : (match seqD M d with | some ds => Q2 (.int ds.length) M | none => False) → ∃ p ys, [x] = [V.ref p] ∧ (SqL X.K H p ys ∨ SqT X.K H p ys) ∧ Q (.int ys.length) H := fun q => by
        cases e : seqD M d with
        | none => rw [e] at q; exact q.elim
        | some es =>
          rw [e] at q
          obtain ⟨p, ys, rfl, h, hy⟩ := seqD_rel e hx hm
          refine ⟨p, ys, rfl, h, ?_⟩
          rw [hy.length]
          exact k _ H _ M (dat_int.mpr rfl) hm (TExt.refl H) q
      cases d with
      | str z => cases (dat_str.mp hx); exact .inl ⟨z, rfl, q.1, k _ H _ M (dat_int.mpr rfl) hm (TExt.refl H) q.2⟩
      | tup es => exact .inr (seq q)
      | fl es => exact .inr (seq q)
      | ref a => exact .inr (seq q)
      | _ => exact q.elim⟩
def dList : List D → Mem → VK2 → Prop := fun xs M Q => match xs with
  | [x] => match seqD M x with
    | some ds => ∀ p, M p = none → Q (.ref p) (updM M p (.lst ds))
    | none => False
  | _ => False
theorem c_list : CallS X (.type "list") dList := ⟨_, call_list_of, fun xs ds H M Q2 Q hd hm q k => by
  cases ds with
  | nil => exact q.elim
  | cons d r =>
    cases r with
    | cons d2 r2 => exact q.elim
    | nil =>
      obtain ⟨x, r, rfl, hx, hr⟩ := dats_cons.mp hd
      cases (dats_nil.mp hr)
      have q : (match seqD M d with | some ds => ∀ p, M p = none → Q2 (.ref p) (updM M p (.lst ds)) | none => False) := q
      cases e : seqD M d with
      | none => rw [e] at q; exact q.elim
      | some es =>
        rw [e] at q
        obtain ⟨p, ys, rfl, h, hy⟩ := seqD_rel e hx hm
        exact ⟨p, ys, rfl, h, fun l hl => k _ _ (.ref l) _ (dat_ref.mpr rfl) (lst_new hl hy hm) (TExt.laid hl) (q l (hm.free hl))⟩⟩
def dTuple : List D → Mem → VK2 → Prop := fun xs M Q => match xs with
  | [x] => match seqD M x with
    | some ds => Q (.tup ds) M
    | none => False
  | _ => False
theorem c_tuple : CallS X (.type "tuple") dTuple := ⟨_, call_tuple_of, fun xs ds H M Q2 Q hd hm q k => by
  cases ds with
  | nil => exact q.elim
  | cons d r =>
    cases r with
    | cons d2 r2 => exact q.elim
    | nil =>
      obtain ⟨x, r, rfl, hx, hr⟩ := dats_cons.mp hd
      cases (dats_nil.mp hr)
      have q : (match seqD M d with | some ds => Q2 (.tup ds) M | none => False) := q
      cases e : seqD M d with
      | none => rw [e] at q; exact q.elim
      | some es =>
        rw [e] at q
        obtain ⟨p, ys, rfl, h | h, hy⟩ := seqD_rel e hx hm
        · exact ⟨p, ys, rfl, .inl ⟨h, fun l hl => k _ _ (.tup es) M (tup_new hl hy) (hm.laid hl) (TExt.laid hl) q⟩⟩
        · exact ⟨p, ys, rfl, .inr ⟨h, k _ H (.tup es) M (dat_tup.mpr ⟨p, ys, rfl, h, hy⟩) hm (TExt.refl H) q⟩⟩⟩
theorem tmp_tuple : TmpOf dTuple (fun ds M Q => Q (.tup ds) M) := fun ds M p Q hp hz q => by
  show (match seqD (updM M p (.lst ds)) (.ref p) with | some es => fin2 Q (.tup es) (updM M p (.lst ds)) | none => False)
  have e : seqD (updM M p (.lst ds)) (.ref p) = some ds := by
    show lstAt (updM M p (.lst ds)) p = some ds
    unfold lstAt
    rw [updM_same]
  rw [e]
  exact ⟨M, (MSub.refl M).put hp, q⟩
def blsD : List D → Option (List Bool)
  | [] => some []
  | .bl b :: r => (blsD r).map (b :: ·)
  | _ :: _ => none
theorem blsD_map : ∀ (bs : List Bool), blsD (bs.map D.bl) = some bs
  | [] => rfl
  | b :: bs => by rw [List.map_cons]; unfold blsD; rw [blsD_map bs]; rfl
theorem blsD_eq : ∀ {ds : List D} {bs : List Bool}, blsD ds = some bs → ds = bs.map D.bl
  | [], bs, e => by cases e; rfl
  | d :: r, bs, e => by
    cases d with
    | bl b =>
      unfold blsD at e
      cases q : blsD r with
      | none => rw [q] at e; cases e
      | some cs =>
        rw [q] at e
        cases e
        rw [blsD_eq q]
        rfl
    | _ => cases e
def dAll : List D → Mem → VK2 → Prop := fun xs M Q => match xs with
  | [.ref a] => match lstAt M a with
    | some ds => match blsD ds with
      | some bs => Q (.bl (bs.all id)) M
      | none => False
    | none => False
  | _ => False
theorem c_all (hc : X.calm = true) : CallS X (.builtin "all") dAll := ⟨_, call_all_bl hc, fun xs ds H M Q2 Q hd hm q k => by
  cases ds with
  | nil => exact q.elim
  | cons d r =>
    cases r with
    | cons d2 r2 => cases d <;> exact q.elim
    | nil =>
      cases d with
      | ref a =>
        obtain ⟨x, r, rfl, hx, hr⟩ := dats_cons.mp hd
        cases (dats_nil.mp hr)
        cases (dat_ref.mp hx)
        have q : (match lstAt M a with | some ds => (match blsD ds with | some bs => Q2 (.bl (bs.all id)) M | none => False) | none => False) := q
        cases e : lstAt M a with
        | none => rw [e] at q; exact q.elim
        | some es =>
          rw [e] at q
          cases eb : blsD es with
          | none => simp only [eb] at q
          | some bs =>
            simp only [eb] at q
            obtain ⟨ys, h, hy⟩ := lstAt_rel e hm
            rw [blsD_eq eb] at hy
            exact ⟨a, bs, rfl, SqL.of (by rw [h, dats_bls hy]), k _ H _ M (dat_bl.mpr rfl) hm (TExt.refl H) q⟩
      | _ => exact q.elim⟩
theorem lstAt_upd {M : Mem} {p : Addr} {ds : List D} : lstAt (updM M p (.lst ds)) p = some ds := by unfold lstAt; rw [updM_same]
def dAll3 : List D → Mem → VK2 → Prop := fun ds M Q => match blsD ds with
  | some bs => Q (.bl (bs.all id)) M
  | none => False
theorem tmp_all : TmpOf dAll dAll3 := fun ds M p Q hp hz q => by
  show (match lstAt (updM M p (.lst ds)) p with | some ds' => (match blsD ds' with | some bs => fin2 Q (.bl (bs.all id)) (updM M p (.lst ds)) | none => False) | none => False)
  rw [lstAt_upd]
  unfold dAll3 at q
  cases eb : blsD ds with
  | none => rw [eb] at q; exact q.elim
  | some bs =>
    rw [eb] at q
    simp only [eb]
    exact ⟨M, (MSub.refl M).put hp, q⟩
def tyNm (M : Mem) : D → Option String
  | .non => some "NoneType"
  | .bl _ => some "bool"
  | .int _ => some "int"
  | .str _ => some "str"
  | .tup _ => some "tuple"
  | .fl _ => some "list"
  | .ref a => (lstAt M a).map fun _ => "list"
  | _ => none
def isiB (n T : String) : Bool := n == T || (n == "bool" && T == "int")
structure IsiOk (K : PySem.W.Frag) (T : String) : Prop where
  non : PySem.W.kitOne K (.type "NoneType") (.type T) = some (isiB "NoneType" T)
  bl : PySem.W.kitOne K (.type "bool") (.type T) = some (isiB "bool" T)
  int : PySem.W.kitOne K (.type "int") (.type T) = some (isiB "int" T)
  str : PySem.W.kitOne K (.type "str") (.type T) = some (isiB "str" T)
  tup : PySem.W.kitOne K (.type "tuple") (.type T) = some (isiB "tuple" T)
  lst : PySem.W.kitOne K (.type "list") (.type T) = some (isiB "list" T)
end
end L3

namespace L3
open PySem PySem.Spec L2
section
variable {X : Cx}
theorem call_isi : CallR X (.builtin "isinstance") (fun xs H Q => ∃ (x : V) (T n : String), xs = [x, .ty T] ∧ IsiOk X.K T ∧
    ((x = .non ∧ n = "NoneType") ∨ (∃ b, x = .bl b ∧ n = "bool") ∨ (∃ i, x = .int i ∧ n = "int") ∨ (∃ z, x = .str z ∧ n = "str") ∨ (∃ p ys, x = .ref p ∧ SqT X.K H p ys ∧ n = "tuple") ∨ (∃ p ys, x = .ref p ∧ SqL X.K H p ys ∧ n = "list")) ∧ Q (.bl (isiB n T)) H) := by
  intro pins s σ H xs us Q I r h
  obtain ⟨x, T, n, rfl, ok, hx, q⟩ := h
  obtain ⟨u, w', rfl, rx, ry⟩ := vals2 r
  have e : w' = Value.type T := ry
  subst e
  rcases hx with ⟨rfl, rfl⟩ | ⟨b, rfl, rfl⟩ | ⟨i, rfl, rfl⟩ | ⟨z, rfl, rfl⟩ | ⟨p, ys, rfl, hq, rfl⟩ | ⟨p, ys, rfl, hq, rfl⟩
  · exact isinst_ok I rx .non ok.non fun tk => ⟨.bl _, H, I.tok tk, rfl, q⟩
  · exact isinst_ok I rx (.bl b) ok.bl fun tk => ⟨.bl _, H, I.tok tk, rfl, q⟩
  · exact isinst_ok I rx (.int i) ok.int fun tk => ⟨.bl _, H, I.tok tk, rfl, q⟩
  · exact isinst_ok I rx (.str z) ok.str fun tk => ⟨.bl _, H, I.tok tk, rfl, q⟩
  · cases (show u = Value.ref p from rx)
    obtain ⟨its, _, ⟨o, h1, h2, _⟩, _⟩ := I.tuple hq
    exact PySem.W.kia_one PySem.W.kitx_tuple I.kIn ⟨o, h1, h2⟩ ok.tup (fun z => nomatch z) fun tk => ⟨.bl _, H, I.tok tk, rfl, q⟩
  · cases (show u = Value.ref p from rx)
    obtain ⟨its, _, pl, _⟩ := I.list hq
    obtain ⟨o, h1, h2, _⟩ := pl.isList
    exact PySem.W.kia_one PySem.W.kitx_list I.kIn ⟨o, h1, h2⟩ ok.lst (fun z => nomatch z) fun tk => ⟨.bl _, H, I.tok tk, rfl, q⟩
def dIsiT (T : String) : List D → Mem → VK2 → Prop := fun xs M Q => match xs with
  | [x, .ty U] => U = T ∧ (match tyNm M x with
    | some n => Q (.bl (isiB n T)) M
    | none => False)
  | _ => False
theorem c_isi {T : String} (ok : IsiOk X.K T) : CallS X (.builtin "isinstance") (dIsiT T) := ⟨_, call_isi, fun xs ds H M Q2 Q hd hm q k => by
  cases ds with
  | nil => exact q.elim
  | cons d r0 =>
  cases r0 with
  | nil => exact q.elim
  | cons d2 r1 =>
  cases r1 with
  | cons _ _ => cases d2 <;> exact q.elim
  | nil =>
  cases d2 with
  | ty U =>
    obtain ⟨x, r, rfl, hx, hr⟩ := dats_cons.mp hd
    obtain ⟨y, r2, rfl, hy, hr2⟩ := dats_cons.mp hr
    cases (dats_nil.mp hr2)
    cases (dat_ty.mp hy)
    obtain ⟨rfl, q⟩ := q
    cases e : tyNm M d with
    | none => rw [e] at q; exact q.elim
    | some n =>
      rw [e] at q
      refine ⟨x, U, n, rfl, ok, ?_, k _ H _ M (dat_bl.mpr rfl) hm (TExt.refl H) q⟩
      cases d with
      | non => cases e; exact .inl ⟨dat_non.mp hx, rfl⟩
      | bl b => cases e; exact .inr (.inl ⟨b, dat_bl.mp hx, rfl⟩)
      | int i => cases e; exact .inr (.inr (.inl ⟨i, dat_int.mp hx, rfl⟩))
      | str z => cases e; exact .inr (.inr (.inr (.inl ⟨z, dat_str.mp hx, rfl⟩)))
      | tup es =>
        cases e
        obtain ⟨p, ys, rfl, h, _⟩ := dat_tup.mp hx
        exact .inr (.inr (.inr (.inr (.inl ⟨p, ys, rfl, h, rfl⟩))))
      | fl es =>
        cases e
        obtain ⟨p, ys, rfl, h, _⟩ := dat_fl.mp hx
        exact .inr (.inr (.inr (.inr (.inr ⟨p, ys, rfl, h.sq, rfl⟩))))
      | ref a =>
        cases el : lstAt M a with
        | none =>
          have e : (lstAt M a).map (fun _ => "list") = some n := e
          rw [el] at e; cases e
        | some es =>
          have e : (lstAt M a).map (fun _ => "list") = some n := e
          rw [el] at e; cases e
          obtain ⟨ys, h, _⟩ := lstAt_rel el hm
          exact .inr (.inr (.inr (.inr (.inr ⟨a, ys, dat_ref.mp hx, SqL.of h, rfl⟩))))
      | ty n => cases e
  | _ => exact q.elim⟩
def strsD : List D → Option (List Str)
  | [] => some []
  | .str z :: r => (strsD r).map (z :: ·)
  | _ :: _ => none
theorem strsD_eq : ∀ {ds : List D} {zs : List Str}, strsD ds = some zs → ds = zs.map D.str
  | [], zs, e => by cases e; rfl
  | d :: r, zs, e => by
    cases d with
    | str z =>
      unfold strsD at e
      cases q : strsD r with
      | none => rw [q] at e; cases e
      | some ys =>
        rw [q] at e
        cases e
        rw [strsD_eq q]
        rfl
    | _ => cases e
theorem strsD_map : ∀ (zs : List Str), strsD (zs.map D.str) = some zs
  | [] => rfl
  | b :: bs => by rw [List.map_cons]; unfold strsD; rw [strsD_map bs]; rfl
def dJoin3 : D → List D → Mem → VK2 → Prop := fun x ds M Q => match x with
  | .str z => match strsD ds with
    | some ys => (ys.map (·.length)).sum + ys.length * z.length ≤ 16777216 ∧ Q (.str (Txt.join z ys)) M
    | none => False
  | _ => False
def dJoin : D → List D → Mem → VK2 → Prop := fun x vs M Q => match vs with
  | [.ref a] => match lstAt M a with
    | some ds => dJoin3 x ds M Q
    | none => False
  | _ => False
theorem m_join : MtS X "str.join" dJoin := ⟨_, mt_join, fun x xs d ds H M Q2 Q hx hd hm q k => by
  cases ds with
  | nil => exact q.elim
  | cons d1 r0 =>
  cases r0 with
  | cons _ _ => cases d1 <;> exact q.elim
  | nil =>
  cases d1 with
  | ref a =>
    obtain ⟨y, r, rfl, hy, hr⟩ := dats_cons.mp hd
    cases (dats_nil.mp hr)
    cases (dat_ref.mp hy)
    have q : (match lstAt M a with | some ds => dJoin3 d ds M Q2 | none => False) := q
    cases e : lstAt M a with
    | none => rw [e] at q; exact q.elim
    | some es =>
      rw [e] at q
      cases d with
      | str z =>
        have q : (match strsD es with | some ys => (ys.map (·.length)).sum + ys.length * z.length ≤ 16777216 ∧ Q2 (.str (Txt.join z ys)) M | none => False) := q
        cases es' : strsD es with
        | none => rw [es'] at q; exact q.elim
        | some ys =>
          rw [es'] at q
          obtain ⟨vs, h, hv⟩ := lstAt_rel e hm
          rw [strsD_eq es'] at hv
          exact ⟨z, a, ys, dat_str.mp hx, rfl, SqL.of (by rw [h, dats_strs hv]), q.1, k _ H _ M (dat_str.mpr rfl) hm (TExt.refl H) q.2⟩
      | _ => exact q.elim
  | _ => exact q.elim⟩
theorem tmp_join : TmpOfM dJoin dJoin3 := fun d ds M p Q hp hz q => by
  show (match lstAt (updM M p (.lst ds)) p with | some es => dJoin3 d es (updM M p (.lst ds)) (fin2 Q) | none => False)
  rw [lstAt_upd]
  cases d with
  | str z =>
    have q : (match strsD ds with | some ys => (ys.map (·.length)).sum + ys.length * z.length ≤ 16777216 ∧ Q (.str (Txt.join z ys)) M | none => False) := q
    show (match strsD ds with | some ys => (ys.map (·.length)).sum + ys.length * z.length ≤ 16777216 ∧ fin2 Q (.str (Txt.join z ys)) (updM M p (.lst ds)) | none => False)
    cases e : strsD ds with
    | none => rw [e] at q; exact q.elim
    | some ys => rw [e] at q; exact ⟨q.1, M, (MSub.refl M).put hp, q.2⟩
  | _ => exact q.elim
def dSet : TSet2 := fun o i v M N => match o, i with
  | .ref a, .int k => match lstAt M a with
    | some ds => (match ixN ds.length k with
      | some j => N (updM M a (.lst (ds.set j v)))
      | none => False)
    | none => False
  | _, _ => False
theorem s_set : SetS X dSet := ⟨_, set_list, fun o i v d j e H M Q2 Q hd hj he hm q k => by
  cases d with
  | ref a =>
    cases j with
    | int n =>
      cases (dat_ref.mp hd); cases (dat_int.mp hj)
      have q : (match lstAt M a with | some ds => (match ixN ds.length n with | some j => Q2 (updM M a (.lst (ds.set j e))) | none => False) | none => False) := q
      cases el : lstAt M a with
      | none => rw [el] at q; exact q.elim
      | some ds =>
        rw [el] at q
        cases ei : ixN ds.length n with
        | none => simp only [ei] at q
        | some m =>
          simp only [ei] at q
          obtain ⟨xs, h, hx⟩ := lstAt_rel el hm
          refine ⟨a, xs, n, m, rfl, rfl, h, by rw [hx.length]; exact ei, ?_⟩
          exact k _ _ (hm.put (TExt.lst h) ⟨_, upd_same, Dats.mono (TExt.lst h) _ (hx.set he m)⟩) (TExt.lst h) q
    | _ => exact q.elim
  | _ => exact q.elim⟩
end
end L3

namespace L3
open PySem L2
section
variable {δ : St2} {M M1 : Mem} {Q : VK2} {ta tb tc : TE2} {r r' : R22} {E : Ends2} {t u : TS2} {c c' : TT2} {QB : Bool → Mem → Prop} {tl : TA2} {QL : List D → Mem → Prop}
theorem rd_seq (h : t { E with nx := u E } δ M) : sSeq t u E δ M := h
theorem rd_ifs (h : c δ M fun b M1 => if b = true then t E δ M1 else u E δ M1) : sIfS c t u E δ M := h
theorem rd_next (h : E.nx δ M) : sNext E δ M := h
theorem rd_ret (h : ta δ M E.rt) : sRet ta E δ M := h
theorem rd_asg {g : TG2} (h : ta δ M fun d M1 => g d δ M1 E.nx) : sAsg ta g E δ M := h
theorem rd_drop (h : ta δ M fun _ M1 => E.nx δ M1) : sDrop ta E δ M := h
theorem rd_name {i : Nat} {d : D} {N : St2 → Mem → Prop} (h : N (δ.set i (some d)) M) : hName i d δ M N := h
theorem rd_sub {d : D} {N : St2 → Mem → Prop} {s : TSet2} (h : ta δ M fun o M1 => tb δ M1 fun j M2 => s o j d M2 fun M3 => N δ M3) : hSub ta tb s d δ M N := h
theorem rd_set {a : Addr} {k : Int} {v : D} {ds : List D} {j : Nat} {N : Mem → Prop} (h : M a = some (.lst ds)) (e : ixN ds.length k = some j) (q : N (updM M a (.lst (ds.set j v)))) : dSet (.ref a) (.int k) v M N := by
  show (match lstAt M a with | some ds => (match ixN ds.length k with | some j => N (updM M a (.lst (ds.set j v))) | none => False) | none => False)
  have e1 : lstAt M a = some ds := by unfold lstAt; rw [h]
  rw [e1]
  simp only [e]
  exact q
theorem rd_test (h : ta δ M fun d M1 => match d with | .bl k => QB k M1 | _ => False) : sTest ta δ M QB := h
theorem rd_op (h : ta δ M fun d M1 => tb δ M1 fun e M2 => r d e M2 Q) : sOp r ta tb δ M Q := h
theorem rd_var {i : Nat} {d : D} (e : δ[i]? = some (some d)) (h : Q d M) : sVar i δ M Q := by unfold sVar; rw [e]; exact h
theorem rd_c {d : D} (h : Q d M) : sC d δ M Q := h
theorem rd_and (h : c δ M fun b M1 => if b = true then c' δ M1 QB else QB false M1) : sAnd c c' δ M QB := h
theorem rd_or (h : c δ M fun b M1 => if b = true then QB true M1 else c' δ M1 QB) : sOr c c' δ M QB := h
theorem rd_not (h : c δ M fun b M1 => QB (!b) M1) : sNot c δ M QB := h
theorem rd_andV (h : ta δ M fun d M1 => match d with | .bl c => (if c = true then tb δ M1 Q else Q (.bl false) M1) | _ => False) : sAndV ta tb δ M Q := h
theorem rd_notV (h : ta δ M fun d M1 => match d with | .bl c => Q (.bl (!c)) M1 | _ => False) : sNotV ta δ M Q := h
theorem rd_nil (h : QL [] M) : sNil δ M QL := h
theorem rd_cons (h : ta δ M fun d M1 => tl δ M1 fun ds M2 => QL (d :: ds) M2) : sCons ta tl δ M QL := h
theorem rd_tup (h : tl δ M fun ds M1 => ds.length ≤ sizeLine ∧ Q (.tup ds) M1) : sTup tl δ M Q := h
theorem rd_lst (h : tl δ M fun ds M1 => ds.length ≤ sizeLine ∧ ∀ p, M1 p = none → Q (.ref p) (updM M1 p (.lst ds))) : sLst tl δ M Q := h
theorem rd_cb {s : List D → Mem → VK2 → Prop} (h : tl δ M fun ds M1 => s ds M1 Q) : sCB s tl δ M Q := h
theorem rd_d {sp : Sp2} (h : tl δ M fun ds M1 => sp ds M1 Q) : sD sp tl δ M Q := h
theorem rd_sl {s : D → Option Int → Option Int → Mem → VK2 → Prop} {l h' : TO2} (h : ta δ M fun d M1 => l δ M1 fun i M2 => h' δ M2 fun j M3 => s d i j M3 Q) : sSl s ta l h' δ M Q := h
theorem rd_nopart {QO : Option Int → Mem → Prop} (h : QO none M) : sNoPart δ M QO := h
theorem rd_part {QO : Option Int → Mem → Prop} (h : ta δ M fun d M1 => match d with | .int i => QO (some i) M1 | _ => False) : sPart ta δ M QO := h
theorem rd_bm {T : String} {s : D → List D → Mem → VK2 → Prop} (h : ta δ M fun d M1 => tyD T d M1 ∧ tl δ M1 fun ds M2 => s d ds M2 Q) : sBM T s ta tl δ M Q := h
theorem rd_cut (W : St2 → Mem → Prop) (h1 : ∀ N : St2 → Mem → Prop, (∀ δ' M', W δ' M' → N δ' M') → t { E with nx := N } δ M) (h2 : ∀ δ' M', W δ' M' → u E δ' M') : sSeq t u E δ M := h1 (u E) h2
theorem updM_self {M : Mem} {a : Addr} {o : MO} (h : M a = some o) : updM M a o = M := by
  funext b
  unfold updM
  split
  · rename_i e; rw [e, h]
  · rfl
theorem rd_ixL {a : Addr} {i : Int} {ds : List D} {d : D} (h : M a = some (.lst ds)) (e : atI ds i = some d) (q : Q d M) : dIx (.ref a) (.int i) M Q := by
  show (match lstAt M a with | some ds => (match atI ds i with | some d => Q d M | none => False) | none => False)
  have e1 : lstAt M a = some ds := by unfold lstAt; rw [h]
  rw [e1]
  simp only [e]
  exact q
theorem rd_ixT {i : Int} {ds : List D} {d : D} (e : atI ds i = some d) (q : Q d M) : dIx (.tup ds) (.int i) M Q := by
  show (match atI ds i with | some d => Q d M | none => False)
  rw [e]
  exact q
theorem rd_ixS {i : Int} {z : Str} {x : Nat} (hz : z.length ≤ sizeLine) (e : atI z.cps.toList i = some x) (q : Q (.str ⟨#[x]⟩) M) : dIx (.str z) (.int i) M Q := by
  refine ⟨hz, ?_⟩
  show (match atI z.cps.toList i with | some c => Q (.str ⟨#[c]⟩) M | none => False)
  rw [e]
  exact q
theorem rd_i {C : Int → Int → Prop} {g : Int → Int → D} {i j : Int} (h : C i j) (q : Q (g i j) M) : dI C g (.int i) (.int j) M Q := ⟨h, q⟩
theorem rd_mod {g : Int → Int → D} {i j : Int} (h : 0 < j) (q : Q (g i j) M) : dI (fun _ j => 0 < j) g (.int i) (.int j) M Q := ⟨h, q⟩
theorem rd_div {g : Int → Int → D} {i j : Int} (h : 0 < j) (h2 : j < 1073741824) (q : Q (g i j) M) : dI CDiv g (.int i) (.int j) M Q := ⟨⟨h, h2⟩, q⟩
theorem cmul_l {i j : Int} (h0 : -1000000000000 ≤ i) (h1 : i ≤ 1000000000000) : CMul i j := .inl ⟨Int.lt_of_lt_of_le (by decide) h0, Int.lt_of_le_of_lt h1 (by decide)⟩
theorem cmul_r {i j : Int} (h0 : -1000000000000 ≤ j) (h1 : j ≤ 1000000000000) : CMul i j := .inr ⟨Int.lt_of_lt_of_le (by decide) h0, Int.lt_of_le_of_lt h1 (by decide)⟩
theorem rd_i0 {g : Int → Int → D} {i j : Int} (q : Q (g i j) M) : dI0 g (.int i) (.int j) M Q := q
theorem rd_addL {a b : Addr} {xs ys : List D} (ha : M a = some (.lst xs)) (hb : M b = some (.lst ys)) (h : xs.length + ys.length ≤ sizeLine) (q : ∀ p, M p = none → Q (.ref p) (updM M p (.lst (xs ++ ys)))) : dAdd (.ref a) (.ref b) M Q := by
  show (match M a, M b with | some (.lst xs), some (.lst ys) => xs.length + ys.length ≤ sizeLine ∧ ∀ p, M p = none → Q (.ref p) (updM M p (.lst (xs ++ ys))) | _, _ => False)
  rw [ha, hb]
  exact ⟨h, q⟩
theorem rd_mulI {i j : Int} (h : CMul i j) (q : Q (.int (i * j)) M) : dMul (.int i) (.int j) M Q := ⟨h, q⟩
theorem rd_mulS {i : Str} {j : Int} (h : MulOk i j) (q : Q (.str (Txt.mul i j)) M) : dMul (.str i) (.int j) M Q := ⟨h, q⟩
theorem rd_eqI {i j : Int} (q : Q (.bl (decide (i = j))) M) : dEq false (.int i) (.int j) M Q := by
  show Q (.bl (xor false (decide (i = j)))) M
  simpa using q
theorem rd_neI {i j : Int} (q : Q (.bl (!decide (i = j))) M) : dEq true (.int i) (.int j) M Q := by
  show Q (.bl (xor true (decide (i = j)))) M
  simpa using q
theorem rd_neB {i j : Bool} (q : Q (.bl (!decide (i = j))) M) : dEq true (.bl i) (.bl j) M Q := by
  show Q (.bl (xor true (decide (i = j)))) M
  simpa using q
theorem rd_lenL {a : Addr} {ds : List D} (h : M a = some (.lst ds)) (q : Q (.int ds.length) M) : dLen [.ref a] M Q := by
  show (match lstAt M a with | some ds => Q (.int ds.length) M | none => False)
  have e1 : lstAt M a = some ds := by unfold lstAt; rw [h]
  rw [e1]
  exact q
theorem rd_lenT {ds : List D} (q : Q (.int ds.length) M) : dLen [.tup ds] M Q := q
theorem rd_inT {x : D} {ds : List D} {b : Bool} (e : inD x ds = some b) (q : Q (.bl b) M) : dIn x (.tup ds) M Q := by
  show (match inD x ds with | some b => Q (.bl b) M | none => False)
  rw [e]
  exact q
theorem rd_inL {x : D} {a : Addr} {ds : List D} {b : Bool} (h : M a = some (.lst ds)) (e : inD x ds = some b) (q : Q (.bl b) M) : dIn x (.ref a) M Q := by
  show (match M a with | some (.lst ds) => (match inD x ds with | some b => Q (.bl b) M | none => False) | _ => False)
  rw [h]
  simp only [e]
  exact q
theorem rd_listF {ds : List D} (q : ∀ p, M p = none → Q (.ref p) (updM M p (.lst ds))) : dList [.fl ds] M Q := q
theorem rd_iteP {P : Prop} {inst : Decidable P} {A B : Prop} (h1 : P → A) (h2 : ¬ P → B) : if @decide P inst = true then A else B := by
  by_cases h : P
  · rw [decide_eq_true h, if_pos rfl]; exact h1 h
  · rw [decide_eq_false h, if_neg Bool.false_ne_true]; exact h2 h
theorem rd_iteN {P : Prop} {inst : Decidable P} {A B : Prop} (h1 : ¬ P → A) (h2 : P → B) : if (!@decide P inst) = true then A else B := by
  by_cases h : P
  · rw [decide_eq_true h, Bool.not_true, if_neg Bool.false_ne_true]; exact h2 h
  · rw [decide_eq_false h, Bool.not_false, if_pos rfl]; exact h1 h
theorem rd_iteT {A B : Prop} (h : A) : if true = true then A else B := by rw [if_pos rfl]; exact h
theorem rd_iteF {A B : Prop} (h : B) : if false = true then A else B := by rw [if_neg Bool.false_ne_true]; exact h
theorem rd_iteB {b : Bool} {A B : Prop} (h1 : b = true → A) (h2 : b = false → B) : if b = true then A else B := by
  cases b with
  | true => rw [if_pos rfl]; exact h1 rfl
  | false => rw [if_neg Bool.false_ne_true]; exact h2 rfl
end
end L3

namespace L3
open PySem L2
section
variable {g : TG2} {tt : TT2} {te : TE2} {tb : TS2} {δ δc : St2} {M1 : Mem} {Qe : List D → Mem → Prop} {E : Ends2}
theorem cl_fix {ds : List D} (Pv : Nat → List D → Mem → Prop) (h0 : Pv 0 [] M1) (hz : ∀ i acc M, i ≤ ds.length → Pv i acc M → acc.length ≤ sizeLine)
    (hs : ∀ i d acc M, ds[i]? = some d → Pv i acc M → g d δc M fun δ2 M2 => tt δ2 M2 fun b M3 => if b = true then te δ2 M3 fun y M4 => Pv (i + 1) (acc ++ [y]) M4 else Pv (i + 1) acc M3)
    (hd : ∀ acc M, Pv ds.length acc M → Qe acc M) :
    ∃ (B : Nat) (W : Nat → List D → Mem → Prop), W 0 [] M1 ∧ ∀ i acc M, W i acc M → i ≤ B ∧ acc.length ≤ sizeLine ∧ match items (.fix ds) M with
      | none => False
      | some ds => match ds[i]? with
        | none => i = ds.length ∧ Qe acc M
        | some d => g d δc M fun δ2 M2 => tt δ2 M2 fun b M3 => if b = true then te δ2 M3 fun y M4 => W (i + 1) (acc ++ [y]) M4 else W (i + 1) acc M3 := by
  refine ⟨ds.length, fun i acc M => if i ≤ ds.length then Pv i acc M else False, by dsimp only; rw [if_pos (Nat.zero_le _)]; exact h0, ?_⟩
  intro i acc M w
  by_cases hi : i ≤ ds.length
  · rw [if_pos hi] at w
    refine ⟨hi, hz i acc M hi w, ?_⟩
    show (match ds[i]? with
        | none => i = ds.length ∧ Qe acc M
        | some d => g d δc M fun δ2 M2 => tt δ2 M2 fun b M3 => if b = true then te δ2 M3 fun y M4 => (if i + 1 ≤ ds.length then Pv (i + 1) (acc ++ [y]) M4 else False) else (if i + 1 ≤ ds.length then Pv (i + 1) acc M3 else False))
    cases e : ds[i]? with
    | none =>
      have : i = ds.length := Nat.le_antisymm hi (List.getElem?_eq_none_iff.mp e)
      subst this
      exact ⟨rfl, hd acc M w⟩
    | some d =>
      have hlt : i + 1 ≤ ds.length := (List.getElem?_eq_some_iff.mp e).1
      simp only [if_pos hlt]
      exact hs i d acc M e w
  · rw [if_neg hi] at w
    exact w.elim
theorem fl_fix {ds : List D} (Pv : Nat → St2 → Mem → Prop) (h0 : Pv 0 δ M1)
    (hs : ∀ i d δ M, ds[i]? = some d → Pv i δ M → g d δ M fun δ2 M2 => tb { E with nx := Pv (i + 1), ct := Pv (i + 1), bk := E.nx } δ2 M2)
    (hd : ∀ δ M, Pv ds.length δ M → E.nx δ M) :
    ∃ (B : Nat) (W : Nat → St2 → Mem → Prop), W 0 δ M1 ∧ ∀ i δ M, W i δ M → i ≤ B ∧ match items (.fix ds) M with
      | none => False
      | some ds => match ds[i]? with
        | none => i = ds.length ∧ E.nx δ M
        | some d => g d δ M fun δ2 M2 => tb { E with nx := W (i + 1), ct := W (i + 1), bk := E.nx } δ2 M2 := by
  refine ⟨ds.length, fun i δ M => if i ≤ ds.length then Pv i δ M else False, by dsimp only; rw [if_pos (Nat.zero_le _)]; exact h0, ?_⟩
  intro i δ M w
  by_cases hi : i ≤ ds.length
  · rw [if_pos hi] at w
    refine ⟨hi, ?_⟩
    show (match ds[i]? with
        | none => i = ds.length ∧ E.nx δ M
        | some d => g d δ M fun δ2 M2 => tb { E with nx := (fun δ M => if i + 1 ≤ ds.length then Pv (i + 1) δ M else False), ct := (fun δ M => if i + 1 ≤ ds.length then Pv (i + 1) δ M else False), bk := E.nx } δ2 M2)
    cases e : ds[i]? with
    | none =>
      have : i = ds.length := Nat.le_antisymm hi (List.getElem?_eq_none_iff.mp e)
      subst this
      exact ⟨rfl, hd δ M w⟩
    | some d =>
      have hlt : i + 1 ≤ ds.length := (List.getElem?_eq_some_iff.mp e).1
      simp only [if_pos hlt]
      exact hs i d δ M e w
  · rw [if_neg hi] at w
    exact w.elim
theorem fl_at {a : Addr} {ds : List D} (Pv : Nat → St2 → Mem → Prop) (h0 : Pv 0 δ M1) (hl : ∀ i δ M, i ≤ ds.length → Pv i δ M → M a = some (.lst ds))
    (hs : ∀ i d δ M, ds[i]? = some d → Pv i δ M → g d δ M fun δ2 M2 => tb { E with nx := Pv (i + 1), ct := Pv (i + 1), bk := E.nx } δ2 M2)
    (hd : ∀ δ M, Pv ds.length δ M → E.nx δ M) :
    ∃ (B : Nat) (W : Nat → St2 → Mem → Prop), W 0 δ M1 ∧ ∀ i δ M, W i δ M → i ≤ B ∧ match items (.at a) M with
      | none => False
      | some ds => match ds[i]? with
        | none => i = ds.length ∧ E.nx δ M
        | some d => g d δ M fun δ2 M2 => tb { E with nx := W (i + 1), ct := W (i + 1), bk := E.nx } δ2 M2 := by
  refine ⟨ds.length, fun i δ M => if i ≤ ds.length then Pv i δ M else False, by dsimp only; rw [if_pos (Nat.zero_le _)]; exact h0, ?_⟩
  intro i δ M w
  by_cases hi : i ≤ ds.length
  · rw [if_pos hi] at w
    refine ⟨hi, ?_⟩
    have e0 : items (.at a) M = some ds := by
      show (match M a with | some (.lst ds) => some ds | _ => none) = some ds
      rw [hl i δ M hi w]
    rw [e0]
    show (match ds[i]? with
        | none => i = ds.length ∧ E.nx δ M
        | some d => g d δ M fun δ2 M2 => tb { E with nx := (fun δ M => if i + 1 ≤ ds.length then Pv (i + 1) δ M else False), ct := (fun δ M => if i + 1 ≤ ds.length then Pv (i + 1) δ M else False), bk := E.nx } δ2 M2)
    cases e : ds[i]? with
    | none =>
      have : i = ds.length := Nat.le_antisymm hi (List.getElem?_eq_none_iff.mp e)
      subst this
      exact ⟨rfl, hd δ M w⟩
    | some d =>
      have hlt : i + 1 ≤ ds.length := (List.getElem?_eq_some_iff.mp e).1
      simp only [if_pos hlt]
      exact hs i d δ M e w
  · rw [if_neg hi] at w
    exact w.elim
end
section
variable {δ : St2} {M : Mem} {Q : VK2} {wi : TI2} {g : TG2} {tt : TT2} {te : TE2} {n : Nat} {fr : List Nat} {ta : TE2} {E : Ends2} {tb : TS2} {tl : TA2} {R : Src → Mem → Prop}
theorem rd_tmp {r3 : List D → Mem → VK2 → Prop} (h : wi δ M fun src M1 => ∃ (B : Nat) (W : Nat → List D → Mem → Prop), W 0 [] M1 ∧ ∀ i acc M, W i acc M → i ≤ B ∧ acc.length ≤ sizeLine ∧ match items src M with
      | none => False
      | some ds => match ds[i]? with
        | none => i = ds.length ∧ r3 acc M Q
        | some d => g d (blkSt2 n fr δ) M fun δ2 M2 => tt δ2 M2 fun b M3 => if b = true then te δ2 M3 fun y M4 => W (i + 1) (acc ++ [y]) M4 else W (i + 1) acc M3) : sTmp r3 wi g tt te n fr δ M Q := h
theorem rd_tmpM {T : String} {r3 : D → List D → Mem → VK2 → Prop} (h : ta δ M fun d M1 => tyD T d M1 ∧ sCompL wi g tt te n fr δ M1 fun ds M' => r3 d ds M' Q) : sTmpM T r3 ta wi g tt te n fr δ M Q := h
theorem rd_compL {Qe : List D → Mem → Prop} (h : wi δ M fun src M1 => ∃ (B : Nat) (W : Nat → List D → Mem → Prop), W 0 [] M1 ∧ ∀ i acc M, W i acc M → i ≤ B ∧ acc.length ≤ sizeLine ∧ match items src M with
      | none => False
      | some ds => match ds[i]? with
        | none => i = ds.length ∧ Qe acc M
        | some d => g d (blkSt2 n fr δ) M fun δ2 M2 => tt δ2 M2 fun b M3 => if b = true then te δ2 M3 fun y M4 => W (i + 1) (acc ++ [y]) M4 else W (i + 1) acc M3) : sCompL wi g tt te n fr δ M Qe := h
theorem rd_comp (h : sCompL wi g tt te n fr δ M fun ds M' => ∀ p, M' p = none → Q (.ref p) (updM M' p (.lst ds))) : sComp wi g tt te n fr δ M Q := h
theorem rd_for (h : wi δ M fun src M1 => ∃ (B : Nat) (W : Nat → St2 → Mem → Prop), W 0 δ M1 ∧ ∀ i δ M, W i δ M → i ≤ B ∧ match items src M with
      | none => False
      | some ds => match ds[i]? with
        | none => i = ds.length ∧ E.nx δ M
        | some d => g d δ M fun δ2 M2 => tb { E with nx := W (i + 1), ct := W (i + 1), bk := E.nx } δ2 M2) : sFor wi g tb E δ M := h
theorem rd_rng1 (h : tl δ M fun ds M1 => match ds with | [.int j] => InR j ∧ R (.fix (rangeD 0 j.toNat)) M1 | _ => False) : jRng1 tl δ M R := h
theorem rd_yes {QB : Bool → Mem → Prop} (h : QB true M) : sYes δ M QB := h
theorem atI_some {α : Type} {xs : List α} {d : Int} (h0 : 0 ≤ d) (h1 : d < xs.length) : ∃ c, atI xs d = some c := by
  have hl : d.toNat < xs.length := by omega
  have e : ((d.toNat : Nat) : Int) = d := by omega
  have q : atI xs ((d.toNat : Nat) : Int) = some xs[d.toNat] := atI_nat (by simp [hl])
  rw [e] at q
  exact ⟨_, q⟩
end
end L3

namespace L3
open PySem L2
def strsOf : List Expr → Option (List Str)
  | [] => some []
  | .Constant (.str x) _ _ :: r => (strsOf r).map (x :: ·)
  | _ :: _ => none
def sStrs (zs : List Str) : TA2 := fun _ M Q => Q (zs.map D.str) M
theorem rd_strs {zs : List Str} {δ : St2} {M : Mem} {Q : List D → Mem → Prop} (h : Q (zs.map D.str) M) : sStrs zs δ M Q := h
theorem qa_strs {X : Cx} : ∀ {es : List Expr} {zs : List Str}, strsOf es = some zs → QA X es (sStrs zs)
  | [], zs, h => by cases h; exact qa_nil
  | e :: es, zs, h => by
    cases e with
    | Constant c j pos =>
      cases c with
      | str x =>
        unfold strsOf at h
        cases q : strsOf es with
        | none => rw [q] at h; cases h
        | some ys =>
          rw [q] at h
          cases h
          exact paImp (qa_cons (ta := sC (.str x)) (t := sStrs ys) q_str (qa_strs q)) fun σ H Q h => h
      | _ => exact absurd h (by unfold strsOf; intro z; cases z)
    | _ => exact absurd h (by unfold strsOf; intro z; cases z)
end L3

namespace L4
open PySem PySem.Spec L2 L3
structure WE (X : Cx) (e : Expr) (t : TE2) : Prop where
  h : QE X e t
structure WT (X : Cx) (e : Expr) (t : TT2) : Prop where
  h : QT X e t
structure WW (X : Cx) (e : Expr) (t : TT2) : Prop where
  h : QW X e t
structure WA (X : Cx) (e : List Expr) (t : TA2) : Prop where
  h : QA X e t
structure WS (X : Cx) (e : Stmt) (t : TS2) : Prop where
  h : QS X e t
structure WSs (X : Cx) (e : List Stmt) (t : TS2) : Prop where
  h : QSs X e t
structure WO (X : Cx) (e : Option Expr) (t : TO2) : Prop where
  h : QO X e t
structure WG (X : Cx) (e : Expr) (t : TG2) : Prop where
  h : QG X e t
structure WGs (X : Cx) (e : List Expr) (t : TGs2) : Prop where
  h : QGs X e t
structure WIf (X : Cx) (e : List Expr) (t : TT2) : Prop where
  h : QIf X e t
structure WI (X : Cx) (tg e : Expr) (t : TI2) : Prop where
  h : QI X tg e t
theorem WW.pt {X : Cx} {e : Expr} {t : TT2} (w : WW X e t) : WT X e t := ⟨w.h.pt⟩
structure WTgC (X : Cx) (scope : Scope) (tgs : List Str) (fr : List Nat) (tg : Expr) (g : TG2) : Prop where
  h : TgC X scope tgs fr tg g
structure WCompOk (X : Cx) (scope : Scope) (tgs : List Str) (fr : List Nat) (tg iter : Expr) (ifs : List Expr) (elt : Expr) (wi : TI2) (g : TG2) (tt : TT2) (te : TE2) : Prop where
  b : BlkOk X scope fr
  calm : X.calm = true
  xe : ∀ e s, X.xe e s → False
  it : WI X tg iter wi
  tgt : WTgC X scope tgs fr tg g
  ifs : ∀ cl C fp s H, WIf (cxBlk X scope cl tgs fr C fp s H) ifs tt
  elt : ∀ cl C fp s H, WE (cxBlk X scope cl tgs fr C fp s H) elt te
theorem WCompOk.h {X : Cx} {scope : Scope} {tgs : List Str} {fr : List Nat} {tg iter : Expr} {ifs : List Expr} {elt : Expr} {wi : TI2} {g : TG2} {tt : TT2} {te : TE2} (C : WCompOk X scope tgs fr tg iter ifs elt wi g tt te) : CompOk X scope tgs fr tg iter ifs elt wi g tt te :=
  ⟨C.b, C.calm, C.xe, C.it.h, C.tgt.h, fun cl D fp s H => (C.ifs cl D fp s H).h, fun cl D fp s H => (C.elt cl D fp s H).h⟩
section
variable {X : Cx} {a b c e : Expr} {ta tb tc : TE2} {pos : Pos}
theorem w_v (i : Nat) {x : Str} (hN : X.N[i]? = some x := by rfl) (hv : Vis X.env.scope x := by first | exact Or.inl rfl | exact Or.inr (Or.inl rfl) | exact Or.inr (Or.inr rfl)) (hd : (x == ("__debug__" : Str)) = false := by decide) (hcd : (x == ("__classdict__" : Str)) = false := by decide) : WE X (.Name x pos) (sVar i) := ⟨q_v (i := i) (hN := hN) (hv := hv) (hd := hd) (hcd := hcd)⟩
theorem w_int {i j} : WE X (.Constant (.int i) j pos) (sC (.int i)) := ⟨q_int ⟩
theorem w_bl {i j} : WE X (.Constant (.bool i) j pos) (sC (.bl i)) := ⟨q_bl ⟩
theorem w_str {i j} : WE X (.Constant (.str i) j pos) (sC (.str i)) := ⟨q_str ⟩
theorem w_non {j} : WE X (.Constant .none j pos) (sC .non) := ⟨q_non ⟩
theorem w_ty {x : Str} {n : String} (hg : Gl X x) (hm : X.mg x = none) (hv : bootBuiltins x = some (.type n)) (hn : x ≠ "__name__" := by decide) (hd : (x == ("__debug__" : Str)) = false := by decide) : WE X (.Name x pos) (sC (.ty n)) := ⟨q_ty (hg := hg) (hm := hm) (hv := hv) (hn := hn) (hd := hd)⟩
theorem w_op {op : Operator} {r2 : R22} (o : OpS X (binaryOp op) r2) (ha : WE X a ta) (hb : WE X b tb) : WE X (.BinOp a op b pos) (sOp r2 ta tb) := ⟨q_op (o := o) (ha := ha.h) (hb := hb.h)⟩
theorem w_cmp {op : CmpOp} {r2 : R22} (o : OpS X (compareOp op) r2) (ha : WE X a ta) (hb : WE X b tb) (hm : behindInMarks op b = false) : WE X (.Compare a [op] [b] pos) (sOp r2 ta tb) := ⟨q_cmp (o := o) (ha := ha.h) (hb := hb.h) (hm := hm)⟩
theorem wt_cmp {op : CmpOp} {r2 : R22} (o : OpS X (compareOp op) r2) (ha : WE X a ta) (hb : WE X b tb) (hm : behindInMarks op b = false) : WT X (.Compare a [op] [b] pos) (sTest (sOp r2 ta tb)) := ⟨qt_cmp (o := o) (ha := ha.h) (hb := hb.h) (hm := hm)⟩
theorem wt_val (h : WE X e ta) (he : ∀ whole, isTrue e X.env whole = (do let v ← whole; standAt e.pos; holding [v] (truthy v)) := by intro _; rfl) : WT X e (sTest ta) := ⟨qt_val (h := h.h) (he := he)⟩
variable {tA tB : TT2} {rest : List Expr}
theorem ww_and1 (ha : WT X a tA) : WW X (.BoolOp .And [a] pos) tA := ⟨qw_and1 (ha := ha.h)⟩
theorem ww_or1 (ha : WT X a tA) : WW X (.BoolOp .Or [a] pos) tA := ⟨qw_or1 (ha := ha.h)⟩
theorem ww_and (ha : WT X a tA) (hb : WW X (.BoolOp .And (b :: rest) pos) tB) : WW X (.BoolOp .And (a :: b :: rest) pos) (sAnd tA tB) := ⟨qw_and (ha := ha.h) (hb := hb.h)⟩
theorem ww_or (ha : WT X a tA) (hb : WW X (.BoolOp .Or (b :: rest) pos) tB) : WW X (.BoolOp .Or (a :: b :: rest) pos) (sOr tA tB) := ⟨qw_or (ha := ha.h) (hb := hb.h)⟩
theorem wt_not (ha : WT X a tA) : WT X (.UnaryOp .Not a pos) (sNot tA) := ⟨qt_not (ha := ha.h)⟩
theorem w_one {op} (h : WE X a ta) : WE X (.BoolOp op [a] pos) ta := ⟨q_one (h := h.h)⟩
theorem w_and (ha : WE X a ta) (hb : WE X (.BoolOp .And (b :: rest) pos) tb) : WE X (.BoolOp .And (a :: b :: rest) pos) (sAndV ta tb) := ⟨q_and (ha := ha.h) (hb := hb.h)⟩
theorem w_not (ha : WE X a ta) : WE X (.UnaryOp .Not a pos) (sNotV ta) := ⟨q_not (ha := ha.h)⟩
variable {es : List Expr} {t : TA2}
theorem wa_nil  : WA X [] sNil := ⟨qa_nil ⟩
theorem wa_cons (ha : WE X e ta) (hr : WA X es t) (hs : starEach (e :: es) X.env = (false, eval e X.env) :: starEach es X.env := by rfl) : WA X (e :: es) (sCons ta t) := ⟨qa_cons (ha := ha.h) (hr := hr.h) (hs := hs)⟩
theorem w_tup {x1} (h : WA X es t) : WE X (.Tuple es x1 pos) (sTup t) := ⟨q_tup (h := h.h)⟩
theorem w_lst (h : WA X es t) : WE X (.List es pos) (sLst t) := ⟨q_lst (h := h.h)⟩
theorem w_ix {r2 : R22} (o : IxS X r2) (ha : WE X a ta) (hb : WE X b tb) (hs : PlainIx b) : WE X (.Subscript a b pos) (sOp r2 ta tb) := ⟨q_ix (o := o) (ha := ha.h) (hb := hb.h) (hs := hs)⟩
theorem wo_none  : WO X none sNoPart := ⟨qo_none ⟩
theorem wo_some (h : WE X e ta) : WO X (some e) (sPart ta) := ⟨qo_some (h := h.h)⟩
variable {lo hi : Option Expr} {tl th : TO2} {p2 : Pos}
theorem w_slice {r2 : D → Option Int → Option Int → Mem → VK2 → Prop} (o : SlS X r2) (he : WE X e ta) (hl : WO X lo tl) (hu : WO X hi th) : WE X (.Subscript e (.Slice lo hi none p2) pos) (sSl r2 ta tl th) := ⟨q_slice (o := o) (he := he.h) (hl := hl.h) (hu := hu.h)⟩
variable {x : Str} {p : Pos} {id T : String}
theorem w_callB {r2 : List D → Mem → VK2 → Prop} (o : CallS X (.builtin id) r2) (hg : Gl X x) (hm : X.mg x = none) (hv : bootBuiltins x = some (.builtin id)) (ha : WA X (e :: es) t) (hn : x ≠ "__name__" := by decide) (hdb : (x == ("__debug__" : Str)) = false := by decide) (he : starEach (e :: es) X.env = (false, eval e X.env) :: starEach es X.env := by rfl) (hpl : (backTo pos (starEach es X.env)).any (·.1) = false := by rfl) : WE X (.Call (.Name x p) (e :: es) [] pos) (sCB r2 t) := ⟨q_callB (o := o) (hg := hg) (hm := hm) (hv := hv) (ha := ha.h) (hn := hn) (hdb := hdb) (he := he) (hpl := hpl)⟩
theorem w_callT {r2 : List D → Mem → VK2 → Prop} (o : CallS X (.type T) r2) (hg : Gl X x) (hm : X.mg x = none) (hv : bootBuiltins x = some (.type T)) (ha : WA X (e :: es) t) (hn : x ≠ "__name__" := by decide) (hdb : (x == ("__debug__" : Str)) = false := by decide) (he : starEach (e :: es) X.env = (false, eval e X.env) :: starEach es X.env := by rfl) (hpl : (backTo pos (starEach es X.env)).any (·.1) = false := by rfl) : WE X (.Call (.Name x p) (e :: es) [] pos) (sCB r2 t) := ⟨q_callT (o := o) (hg := hg) (hm := hm) (hv := hv) (ha := ha.h) (hn := hn) (hdb := hdb) (he := he) (hpl := hpl)⟩
end
section
variable {X : Cx} {o e : Expr} {es : List Expr} {to : TE2} {t : TA2} {T id : String} {name : Str} {apos cpos : Pos}
theorem w_bm {r2 : D → List D → Mem → VK2 → Prop} (pa : PlainAttrs T) (slot : Slot T name id) (hty : typeOf (.builtin id) = pure (.type "method_descriptor")) (hm : MtS X id r2) (ho : WE X o to) (ha : WA X (e :: es) t) (hbase : attributeBase o name X.env (eval o X.env) = eval o X.env := by rfl) (hfew : ((backTo cpos (starEach (e :: es) X.env)).all (fun x => !x.1) && (backToKw cpos (keywordEach [] X.env)).all (fun x => x.1.isSome)
      && decide ((e :: es).length + ([] : List Keyword).length + (if ([] : List Keyword).isEmpty then 0 else 1) < 30)) = true := by rfl) (hline : (apos.endLine == cpos.line) = true := by rfl) (hs : starEach (e :: es) X.env = (false, eval e X.env) :: starEach es X.env := by rfl) (hplain : (backTo cpos (starEach es X.env)).any (·.1) = false := by rfl) : WE X (.Call (.Attribute o name apos) (e :: es) [] cpos) (sBM T r2 to t) := ⟨q_bm (pa := pa) (slot := slot) (hty := hty) (hm := hm) (ho := ho.h) (ha := ha.h) (hbase := hbase) (hfew := hfew) (hline := hline) (hs := hs) (hplain := hplain)⟩
end
section
variable {X : Cx} {x : Str} {p pos : Pos} {e : Expr} {es : List Expr} {t : TA2} {k j : Nat} {ps : List Str} {sp : Sp2}
theorem w_def (d : Def2 X.prog X.w X.K X.mg X.base k x ps sp) (hr : Room k X.A) (hg : Gl X x) (ha : WA X (e :: es) t) (hdb : (x == ("__debug__" : Str)) = false := by decide) (he : starEach (e :: es) X.env = (false, eval e X.env) :: starEach es X.env := by rfl) (hpl : (backTo pos (starEach es X.env)).any (·.1) = false := by rfl) : WE X (.Call (.Name x p) (e :: es) [] pos) (sD sp t) := ⟨q_def (d := d) (hr := hr) (hg := hg) (ha := ha.h) (hdb := hdb) (he := he) (hpl := hpl)⟩
end
section
variable {P : Program} {w : World} {K : PySem.W.Frag} {mg : Str → Option Value} {base : Heap}
end
section
variable {X : Cx} {st : Stmt} {rest : List Stmt} {t u : TS2} {te : TE2} {e : Expr} {pos : Pos}
theorem wss_nil  : WSs X [] sNext := ⟨qss_nil ⟩
theorem wss_one (h : WS X st t) : WSs X [st] t := ⟨qss_one (h := h.h)⟩
theorem wss_cons (h1 : WS X st t) (h2 : WSs X rest u) : WSs X (st :: rest) (sSeq t u) := ⟨qss_cons (h1 := h1.h) (h2 := h2.h)⟩
theorem wss_never {sts : List Stmt} : WSs X sts sNever := ⟨qss_never ⟩
theorem ws_expr (he : WE X e te) (hs : swapsWith e none pos.line X.env = pure false := by rfl) : WS X (.Expr e pos) (sDrop te) := ⟨qs_expr (he := he.h) (hs := hs)⟩
theorem ws_ret (he : WE X e te) : WS X (.Return (some e) pos) (sRet te) := ⟨qs_ret (he := he.h)⟩
theorem ws_if {c : Expr} {a b : List Stmt} {tc : TT2} (hc : WT X c tc) (ha : WSs X a t) (hb : WSs X b u) : WS X (.If c a b pos) (sIfS tc t u) := ⟨qs_if (hc := hc.h) (ha := ha.h) (hb := hb.h)⟩
theorem wg_name {i : Nat} {x : Str} (hN : X.N.Nodup) (hi : X.N[i]? = some x) (hx : Loc X.env.scope x) (hf : X.fn x = true ∨ X.env.scope.names.lookup x = some .local := by first | exact .inl rfl | exact .inr rfl | assumption) : WG X (.Name x pos) (hName i) := ⟨qg_name (hN := hN) (hi := hi) (hx := hx) (hf := hf)⟩
theorem wgs_nil  : WGs X [] hNil := ⟨qgs_nil ⟩
theorem wgs_cons {e : Expr} {es : List Expr} {t : TG2} {u : TGs2} (h1 : WG X e t) (h2 : WGs X es u) (hs : (assignEach (e :: es) X.env).map (·.2) = assign e X.env :: (assignEach es X.env).map (·.2) := by rfl) : WGs X (e :: es) (hCons t u) := ⟨qgs_cons (h1 := h1.h) (h2 := h2.h) (hs := hs)⟩
theorem wg_tup {es : List Expr} {k : Nat} {t : TGs2} {n : Nat} (hc : X.calm = true) (h : WGs X es t) (hn : (assignEach es X.env).length = n := by rfl) (hst : (assignEach es X.env).findIdx? (·.1) = none := by rfl) : WG X (.Tuple es k pos) (hTup n t) := ⟨qg_tup (hc := hc) (h := h.h) (hn := hn) (hst := hst)⟩
theorem wg_sub {o i : Expr} {to ti : TE2} {t : TSet2} (ho : WE X o to) (hi : WE X i ti) (hs : SetS X t) (ha : ∀ v, assign (.Subscript o i pos) X.env v = (do
      let ov ← holding [v] (eval o X.env)
      let iv ← holding [v, ov] (eval i X.env)
      standAt pos
      holding [v, ov, iv] (setItem ov iv v)
      release [v, ov, iv] []) := by intro _; rfl) : WG X (.Subscript o i pos) (hSub to ti t) := ⟨qg_sub (ho := ho.h) (hi := hi.h) (hs := hs) (ha := ha)⟩
theorem ws_asg {tg e : Expr} {g : TG2} (he : WE X e te) (hg : WG X tg g) (hs : swapsWithSole [tg] e pos.line X.env = pure false := by rfl) (hw : swappedStores [tg] e X.env = pure none := by rfl) (h1 : (assignEach [tg] X.env).map (·.2) = [assign tg X.env] := by rfl) : WS X (.Assign [tg] e pos) (sAsg te g) := ⟨qs_asg (he := he.h) (hg := hg.h) (hs := hs) (hw := hw) (h1 := h1)⟩
theorem ws_set {i : Nat} {x : Str} {e : Expr} {pos' : Pos} (hN : X.N.Nodup) (hi : X.N[i]? = some x) (hx : Loc X.env.scope x) (he : WE X e te) (hs : swapsWith e (some (.Name x pos')) pos.line X.env = pure false := by rfl) (hf : X.fn x = true ∨ X.env.scope.names.lookup x = some .local := by first | exact .inl rfl | exact .inr rfl | assumption) : WS X (.Assign [.Name x pos'] e pos) (sAsg te (hName i)) := ⟨qs_set (hN := hN) (hi := hi) (hx := hx) (he := he.h) (hs := hs) (hf := hf)⟩
end
section
variable {X : Cx} {tg l : Expr} {tl : TE2} {ta : TA2} {a b : Expr} {p pos : Pos}
theorem wi_any (hl : WE X l tl) : WI X tg l (jAny tl) := ⟨qi_any (hl := hl.h)⟩
theorem wi_range1 (hg : Gl X "range") (hm : X.mg "range" = none) (ha : WA X [a] ta) (hs : starEach [a] X.env = [(false, eval a X.env)] := by rfl) : WI X tg (.Call (.Name "range" p) [a] [] pos) (jRng1 ta) := ⟨qi_range1 (hg := hg) (hm := hm) (ha := ha.h) (hs := hs)⟩
end
section
variable {X : Cx} {tg iter : Expr} {wi : TI2} {g : TG2} {tb : TS2} {body : List Stmt} {pos : Pos}
theorem ws_for (hp : PassesOwn (model X.prog X.w) X.A X.env X.xe) (hc : X.calm = true) (hi : WI X tg iter wi) (hg : WG X tg g) (hb : WSs X body tb) (hs : ∀ x, foldedSetIterable iter X.env x = pure x := by intro _; rfl) : WS X (.For tg iter body [] pos) (sFor wi g tb) := ⟨qs_for (hp := hp) (hc := hc) (hi := hi.h) (hg := hg.h) (hb := hb.h) (hs := hs)⟩
end
section
variable {X : Cx} {c : Expr} {tc : TT2} {tb : TS2} {body : List Stmt} {pos : Pos}
theorem ws_while (hp : PassesOwn (model X.prog X.w) X.A X.env X.xe) (hc : WT X c tc) (hb : WSs X body tb) : WS X (.While c body [] pos) (sWhile tc tb) := ⟨qs_while (hp := hp) (hc := hc.h) (hb := hb.h)⟩
end
section
variable {X : Cx} {scope : Scope} {tgs : List Str} {fr : List Nat} {tg elt iter : Expr} {ifs : List Expr} {pos : Pos} {wi : TI2} {g : TG2} {tt : TT2} {te : TE2}
theorem wif_nil  : WIf X [] sYes := ⟨qif_nil ⟩
theorem wtc_name {i : Nat} {x : Str} {ps : Pos} (h : ∀ cl C fp s H, PG (cxBlk X scope cl tgs fr C fp s H) (.Name x ps) (gName i)) (hi : i < tgs.length) : WTgC X scope tgs fr (.Name x ps) (hName i) := ⟨tc_name (h := h) (hi := hi)⟩
theorem wtc_tup2 {i j k : Nat} {x y : Str} {px py pt : Pos} (h : ∀ cl C fp s H, PG (cxBlk X scope cl tgs fr C fp s H) (.Tuple [.Name x px, .Name y py] k pt) (gTup X.K 2 (gCons (gName i) (gCons (gName j) gNil)))) (hi : i < tgs.length) (hj : j < tgs.length) : WTgC X scope tgs fr (.Tuple [.Name x px, .Name y py] k pt) (hTup 2 (hCons (hName i) (hCons (hName j) hNil))) := ⟨tc_tup2 (h := h) (hi := hi) (hj := hj)⟩
theorem w_comp (C : WCompOk X scope tgs fr tg iter ifs elt wi g tt te) (hs : ∀ x, foldedSetIterable iter X.env x = pure x := by intro _; rfl) : WE X (.ListComp elt [⟨tg, iter, ifs, 0⟩] scope pos) (sComp wi g tt te tgs.length fr) := ⟨q_comp (C := C.h) (hs := hs)⟩
theorem ws_setComp {i : Nat} {y : Str} {py spos : Pos} (hN : X.N.Nodup) (hiy : X.N[i]? = some y) (hy : Loc X.env.scope y) (C : WCompOk X scope tgs fr tg iter ifs elt wi g tt te) (hsw : swapsWith (.ListComp elt [⟨tg, iter, ifs, 0⟩] scope pos) (some (.Name y py)) spos.line X.env = pure true := by rfl) (hf : X.fn y = true ∨ X.env.scope.names.lookup y = some .local := by first | exact .inl rfl | exact .inr rfl | assumption) (hs : ∀ x, foldedSetIterable iter X.env x = pure x := by intro _; rfl) : WS X (.Assign [.Name y py] (.ListComp elt [⟨tg, iter, ifs, 0⟩] scope pos) spos) (sAsg (sComp wi g tt te tgs.length fr) (hName i)) := ⟨qs_setComp (hN := hN) (hiy := hiy) (hy := hy) (C := C.h) (hsw := hsw) (hf := hf) (hs := hs)⟩
variable {x : Str} {p : Pos} {id T : String} {cpos : Pos}
theorem w_tmpB {r2 r3 : List D → Mem → VK2 → Prop} (o : CallS X (.builtin id) r2) (h3 : TmpOf r2 r3) (hg : Gl X x) (hm : X.mg x = none) (hv : bootBuiltins x = some (.builtin id)) (C : WCompOk X scope tgs fr tg iter ifs elt wi g tt te) (hn : x ≠ "__name__" := by decide) (hdb : (x == ("__debug__" : Str)) = false := by decide) (hs : ∀ x, foldedSetIterable iter X.env x = pure x := by intro _; rfl) : WE X (.Call (.Name x p) [.ListComp elt [⟨tg, iter, ifs, 0⟩] scope cpos] [] pos) (sTmp r3 wi g tt te tgs.length fr) := ⟨q_tmpB (o := o) (h3 := h3) (hg := hg) (hm := hm) (hv := hv) (C := C.h) (hn := hn) (hdb := hdb) (hs := hs)⟩
theorem w_tmpT {r2 r3 : List D → Mem → VK2 → Prop} (o : CallS X (.type T) r2) (h3 : TmpOf r2 r3) (hg : Gl X x) (hm : X.mg x = none) (hv : bootBuiltins x = some (.type T)) (C : WCompOk X scope tgs fr tg iter ifs elt wi g tt te) (hn : x ≠ "__name__" := by decide) (hdb : (x == ("__debug__" : Str)) = false := by decide) (hs : ∀ x, foldedSetIterable iter X.env x = pure x := by intro _; rfl) : WE X (.Call (.Name x p) [.ListComp elt [⟨tg, iter, ifs, 0⟩] scope cpos] [] pos) (sTmp r3 wi g tt te tgs.length fr) := ⟨q_tmpT (o := o) (h3 := h3) (hg := hg) (hm := hm) (hv := hv) (C := C.h) (hn := hn) (hdb := hdb) (hs := hs)⟩
variable {o : Expr} {to : TE2} {name : Str} {apos : Pos}
theorem w_tmpM {r2 r3 : D → List D → Mem → VK2 → Prop} (pa : PlainAttrs T) (slot : Slot T name id) (hty : typeOf (.builtin id) = pure (.type "method_descriptor")) (hm : MtS X id r2) (h3 : TmpOfM r2 r3) (ho : WE X o to) (C : WCompOk X scope tgs fr tg iter ifs elt wi g tt te) (hs : ∀ x, foldedSetIterable iter X.env x = pure x := by intro _; rfl) (hbase : attributeBase o name X.env (eval o X.env) = eval o X.env := by rfl) (hfew : ((backTo pos (starEach [.ListComp elt [⟨tg, iter, ifs, 0⟩] scope cpos] X.env)).all (fun x => !x.1) && (backToKw pos (keywordEach [] X.env)).all (fun x => x.1.isSome)
      && decide (([.ListComp elt [⟨tg, iter, ifs, 0⟩] scope cpos] : List Expr).length + ([] : List Keyword).length + (if ([] : List Keyword).isEmpty then 0 else 1) < 30)) = true := by rfl) (hline : (apos.endLine == pos.line) = true := by rfl) : WE X (.Call (.Attribute o name apos) [.ListComp elt [⟨tg, iter, ifs, 0⟩] scope cpos] [] pos) (sTmpM T r3 to wi g tt te tgs.length fr) := ⟨q_tmpM (pa := pa) (slot := slot) (hty := hty) (hm := hm) (h3 := h3) (ho := ho.h) (C := C.h) (hs := hs) (hbase := hbase) (hfew := hfew) (hline := hline)⟩
end
theorem wa_strs {X : Cx} {es : List Expr} {zs : List Str} (h : strsOf es = some zs) : WA X es (sStrs zs) := ⟨qa_strs h⟩
end L4

namespace L4
open PySem PySem.Spec L2 L3
section
variable {P : Program} {w : World} {K : PySem.W.Frag} {mg : Str → Option Value} {base : Heap}
theorem ok3 {x qual : Str} {st : Stmt} {f : Addr} {fd : FuncData} {N ps : List Str} {k : Nat} {sp : Sp2} (F : Fun K x qual st f fd) (S : FnScope N ps (defScope st)) (len : ∀ ds M Q, sp ds M Q → ds.length = ps.length)
    (hbody : ∀ (cdv : Value) (A : Around) (outer : List Env) (s : Shared) (H : Hp) (E : XK) (ds : List D) (M : Mem) (Q : VK2), Room k (A.deeper (PyProof.Rows.envOfC qual (defScope st) s.heap.objs.size f cdv)) → sp ds M Q →
      ∃ t, WSs (cxOf CX0 P w K mg base N qual (defScope st) f cdv A outer s H E).nox (defBody st) t ∧ t { nx := fun _ M' => fin2 Q .non M', rt := fin2 Q } (start2 N ds) M) : FnOk P w K mg base CX0 (k + 1) f fd ps (upSp K sp) :=
  ok2 F S len fun cdv A outer s H E ds M Q hr h => let ⟨t, a, b⟩ := hbody cdv A outer s H E ds M Q hr h; ⟨t, a.h, b⟩
end
end L4

namespace L5
open PySem PySem.W PyProof.Rows
section
variable (n : Nat) (lt : Nat → Nat → Bool)
def kw {α : Type} : KasT α → (α → Prop) → Prop
  | .ret a, Q => Q a
  | .ask i j k, Q => i < n ∧ j < n ∧ kw (k (lt i j)) Q
variable {n lt}
theorem kw_bind {α β : Type} {f : α → KasT β} {Q : β → Prop} : ∀ {t : KasT α}, kw n lt t (fun a => kw n lt (f a) Q) → kw n lt (t.bind f) Q
  | .ret a, h => h
  | .ask i j k, h => ⟨h.1, h.2.1, kw_bind (t := k (lt i j)) h.2.2⟩
def pg (p : Array Nat) (i : Nat) : Nat := p.getD i 0
theorem pg_eq (p : Array Nat) (i : Nat) : pg p i = (p[i]?).getD 0 := by
  unfold pg
  rw [Array.getD_eq_getD_getElem?]
def Pm (n : Nat) (p : Array Nat) : Prop := p.Perm (List.toArray (List.range n))
theorem Pm.size {p : Array Nat} (h : Pm n p) : p.size = n := by
  have := Array.Perm.size_eq h
  simpa using this
theorem Pm.below {p : Array Nat} (h : Pm n p) (i : Nat) (hn : 0 < n) : pg p i < n := by
  rw [pg_eq]
  cases e : p[i]? with
  | none => exact hn
  | some x =>
    have hm : x ∈ p := Array.mem_of_getElem? e
    have := (Array.Perm.mem_iff h (a := x)).mp hm
    simpa using this
theorem pg_rev {p : Array Nat} {i j : Nat} (hj : j ≤ p.size) (k : Nat) : pg (kas_rev p i j) k = if i ≤ k ∧ k < j then pg p (i + j - 1 - k) else pg p k := by
  rw [pg_eq]
  unfold kas_rev
  rw [getElem?_mirror_all hj k]
  split
  · rw [pg_eq]
  · rw [pg_eq]
theorem Pm.rev {p : Array Nat} (h : Pm n p) (i j : Nat) : Pm n (kas_rev p i j) := Array.Perm.trans (mirror_perm _ _ _ _) h
theorem pg_bub {p : Array Nat} {k l : Nat} (hk : k < p.size) (hl : l ≤ k) (j : Nat) : pg (bubble p k (k - l)) j = if j = l then pg p k else if l < j ∧ j ≤ k then pg p (j - 1) else pg p j := by
  have e0 : k - (k - l) = l := by omega
  rw [pg_eq, getElem?_bubble hk (k - l) (by omega) j, e0]
  by_cases h1 : j = l
  · rw [if_pos h1, if_pos h1, pg_eq]
  · rw [if_neg h1, if_neg h1]
    by_cases h2 : l < j ∧ j ≤ k
    · rw [if_pos h2, if_pos h2, pg_eq]
    · rw [if_neg h2, if_neg h2, pg_eq]
theorem Pm.bub {p : Array Nat} (h : Pm n p) (k d : Nat) : Pm n (bubble p k d) := Array.Perm.trans (bubble_perm _ _ _) h
structure Ord (lt : Nat → Nat → Bool) : Prop where
  asym : ∀ a b, lt a b = true → lt b a = false
  tr : ∀ a b c, lt a b = false → lt b c = false → lt a c = false
abbrev le (lt : Nat → Nat → Bool) (a b : Nat) : Prop := lt b a = false
theorem Ord.refl (O : Ord lt) (a : Nat) : le lt a a := by
  show lt a a = false
  cases e : lt a a with
  | false => rfl
  | true => have := O.asym a a e; rw [e] at this; cases this
theorem Ord.trans (O : Ord lt) {a b c : Nat} (h1 : le lt a b) (h2 : le lt b c) : le lt a c := O.tr c b a h2 h1
def Up (lt : Nat → Nat → Bool) (p : Array Nat) (m : Nat) : Prop := ∀ i j, i ≤ j → j < m → le lt (pg p i) (pg p j)
def Dn (lt : Nat → Nat → Bool) (p : Array Nat) (m : Nat) : Prop := ∀ i j, i ≤ j → j < m → le lt (pg p j) (pg p i)
def Ev (lt : Nat → Nat → Bool) (a b : Nat) : Prop := le lt a b ∧ le lt b a
theorem Ord.evtr (O : Ord lt) {a b c : Nat} (h : Ev lt a b) (q : Ev lt b c) : Ev lt a c := ⟨O.trans h.1 q.1, O.trans q.2 h.2⟩
theorem Ev.sym {a b : Nat} (h : Ev lt a b) : Ev lt b a := ⟨h.2, h.1⟩
theorem Up.one (O : Ord lt) (p : Array Nat) : Up lt p 1 := fun i j h q => by
  have : i = j := by omega
  subst this
  exact O.refl _
theorem Up.next (O : Ord lt) {p : Array Nat} {m : Nat} (h : Up lt p m) (hm : 1 ≤ m) (q : le lt (pg p (m - 1)) (pg p m)) : Up lt p (m + 1) := fun i j hij hj => by
  by_cases e : j = m
  · subst e
    by_cases e2 : i = j
    · subst e2; exact O.refl _
    · exact O.trans (h i (j - 1) (by omega) (by omega)) q
  · exact h i j hij (by omega)
theorem Dn.next (O : Ord lt) {p : Array Nat} {m : Nat} (h : Dn lt p m) (hm : 1 ≤ m) (q : le lt (pg p m) (pg p (m - 1))) : Dn lt p (m + 1) := fun i j hij hj => by
  by_cases e : j = m
  · subst e
    by_cases e2 : i = j
    · subst e2; exact O.refl _
    · exact O.trans q (h i (j - 1) (by omega) (by omega))
  · exact h i j hij (by omega)
theorem Dn.ev (O : Ord lt) {p p' : Array Nat} {m : Nat} (h : Dn lt p m) (e : ∀ k, k < m → Ev lt (pg p' k) (pg p k)) : Dn lt p' m := fun i j hij hj =>
  O.trans (e j hj).1 (O.trans (h i j hij hj) (e i (by omega)).2)
theorem Up.of_dn {p : Array Nat} {m : Nat} (hm : m ≤ p.size) (h : Dn lt p m) : Up lt (kas_rev p 0 m) m := fun i j hij hj => by
  rw [pg_rev hm, pg_rev hm, if_pos ⟨Nat.zero_le _, by omega⟩, if_pos ⟨Nat.zero_le _, hj⟩]
  exact h _ _ (by omega) (by omega)
theorem ev_rev (O : Ord lt) {p : Array Nat} {i j : Nat} (hj : j ≤ p.size) (he : ∀ k, i ≤ k → k < j → Ev lt (pg p k) (pg p (j - 1))) (k : Nat) : Ev lt (pg (kas_rev p i j) k) (pg p k) := by
  rw [pg_rev hj]
  split
  case isTrue h => exact O.evtr (he _ (by omega) (by omega)) (he k h.1 h.2).sym
  case isFalse h => exact ⟨O.refl _, O.refl _⟩
theorem kw_asc (O : Ord lt) {p : Array Nat} (hp : Pm n p) {Q : Nat → Prop} : ∀ (f a : Nat), 1 ≤ a → a + f ≤ n → Up lt p a → (∀ m, a ≤ m → m ≤ a + f → Up lt p m → (m < a + f → lt (pg p m) (pg p (m - 1)) = true) → Q m) → kw n lt (kas_asc p f a) Q
  | 0, a, h1, hn, hu, hq => hq a (Nat.le_refl _) (Nat.le_refl _) hu fun h => absurd h (by omega)
  | f + 1, a, h1, hn, hu, hq => by
    refine ⟨hp.below a (by omega), hp.below (a - 1) (by omega), ?_⟩
    show kw n lt (if lt (pg p a) (pg p (a - 1)) = true then KasT.ret a else kas_asc p f (a + 1)) Q
    cases e : lt (pg p a) (pg p (a - 1)) with
    | true =>
      rw [if_pos rfl]
      exact hq a (Nat.le_refl _) (by omega) hu fun _ => e
    | false =>
      rw [if_neg (by simp)]
      exact kw_asc O hp f (a + 1) (by omega) (by omega) (hu.next O h1 e) fun m m1 m2 m3 m4 => hq m (by omega) (by omega) m3 fun q => m4 (by omega)
theorem kw_desc (O : Ord lt) {Q : Array Nat × Nat × Nat → Prop} (hn0 : 0 < n) : ∀ (f : Nat) (p : Array Nat) (m q : Nat), Pm n p → 1 ≤ m → m + f ≤ n → q + 1 ≤ m → Dn lt p m → (∀ k, m - (q + 1) ≤ k → k < m → Ev lt (pg p k) (pg p (m - 1))) →
    (∀ p' m' q', Pm n p' → m ≤ m' → m' ≤ m + f → q' + 1 ≤ m' → Dn lt p' m' → (∀ k, m' - (q' + 1) ≤ k → k < m' → Ev lt (pg p' k) (pg p' (m' - 1))) → Q (p', m', q')) → kw n lt (kas_desc f p m q) Q
  | 0, p, m, q, hp, h1, hf, hq1, hd, he, hQ => hQ p m q hp (Nat.le_refl _) (Nat.le_refl _) hq1 hd he
  | f + 1, p, m, q, hp, h1, hf, hq1, hd, he, hQ => by
    refine ⟨hp.below m hn0, hp.below (m - 1) hn0, ?_⟩
    show kw n lt (if lt (pg p m) (pg p (m - 1)) = true then (if q > 0 then kas_desc f (kas_rev p (m - (q + 1)) m) (m + 1) 0 else kas_desc f p (m + 1) 0) else KasT.ask (pg p (m - 1)) (pg p m) fun d => if d = true then KasT.ret (p, m, q) else kas_desc f p (m + 1) (q + 1)) Q
    have hz := hp.size
    cases e : lt (pg p m) (pg p (m - 1)) with
    | true =>
      rw [if_pos rfl]
      by_cases hq : q > 0
      · rw [if_pos hq]
        have ev := ev_rev O (p := p) (i := m - (q + 1)) (j := m) (by omega) he
        have em : pg (kas_rev p (m - (q + 1)) m) m = pg p m := by rw [pg_rev (by omega), if_neg (by omega)]
        refine kw_desc O hn0 f _ (m + 1) 0 (hp.rev _ _) (by omega) (by omega) (by omega) ((hd.ev O fun k _ => ev k).next O h1 ?_) (fun k k1 k2 => ?_) fun p' m' q' a b c d g i => hQ p' m' q' a (by omega) (by omega) d g i
        · rw [em]
          exact O.trans (O.asym _ _ e) (ev (m - 1)).2
        · have : k = m := by omega
          subst this
          exact ⟨O.refl _, O.refl _⟩
      · rw [if_neg hq]
        refine kw_desc O hn0 f _ (m + 1) 0 hp (by omega) (by omega) (by omega) (hd.next O h1 (O.asym _ _ e)) (fun k k1 k2 => ?_) fun p' m' q' a b c d g i => hQ p' m' q' a (by omega) (by omega) d g i
        have : k = m := by omega
        subst this
        exact ⟨O.refl _, O.refl _⟩
    | false =>
      rw [if_neg (by simp)]
      refine ⟨hp.below (m - 1) hn0, hp.below m hn0, ?_⟩
      cases e2 : lt (pg p (m - 1)) (pg p m) with
      | true => exact hQ p m q hp (Nat.le_refl _) (by omega) hq1 hd he
      | false =>
        refine kw_desc O hn0 f p (m + 1) (q + 1) hp (by omega) (by omega) (by omega) (hd.next O h1 e2) (fun k k1 k2 => ?_) fun p' m' q' a b c d g i => hQ p' m' q' a (by omega) (by omega) d g i
        have hE : Ev lt (pg p (m - 1)) (pg p m) := ⟨e, e2⟩
        by_cases ek : k = m
        · subst ek; exact ⟨O.refl _, O.refl _⟩
        · exact O.evtr (he k (by omega) (by omega)) hE
theorem kw_tail (O : Ord lt) {p : Array Nat} (hp : Pm n p) {m : Nat} (h1 : 1 ≤ m) (hm : m ≤ n) (hd : Dn lt p m) {Q : Nat × Array Nat → Prop} (hQ : ∀ m' p', Pm n p' → 1 ≤ m' → m' ≤ n → Up lt p' m' → Q (m', p')) : kw n lt (kas_tail3 m n p) Q := by
  unfold kas_tail3
  refine kw_bind (kw_asc O (hp.rev _ _) (n - m) m h1 (by omega) (Up.of_dn (by rw [hp.size]; exact hm) hd) fun m' a b c _ => ?_)
  exact hQ m' _ (hp.rev _ _) (by omega) (by omega) c
theorem kw_dpart (O : Ord lt) {p : Array Nat} (hp : Pm n p) {m : Nat} (h1 : 1 ≤ m) (hm : m + 1 ≤ n) (hd : Dn lt p (m + 1)) {Q : Nat × Array Nat → Prop} (hQ : ∀ m' p', Pm n p' → 1 ≤ m' → m' ≤ n → Up lt p' m' → Q (m', p')) : kw n lt (kas_descPart m n p) Q := by
  unfold kas_descPart
  refine kw_bind (kw_desc O (by omega) (n - (m + 1)) p (m + 1) 0 hp (by omega) (by omega) (by omega) hd (fun k k1 k2 => ?_) fun p' m' q' a b c d g i => ?_)
  · have : k = m := by omega
    subst this
    exact ⟨O.refl _, O.refl _⟩
  · show kw n lt (if q' > 0 then kas_tail3 m' n (kas_rev p' (m' - (q' + 1)) m') else kas_tail3 m' n p') Q
    by_cases hq : q' > 0
    · rw [if_pos hq]
      have hz := a.size
      exact kw_tail O (a.rev _ _) (by omega) (by omega) (g.ev O fun k _ => ev_rev O (by omega) i k) hQ
    · rw [if_neg hq]
      exact kw_tail O a (by omega) (by omega) g hQ
theorem kw_count (O : Ord lt) {p : Array Nat} (hp : Pm n p) (hn : 2 ≤ n) {Q : Nat × Array Nat → Prop} (hQ : ∀ m' p', Pm n p' → 1 ≤ m' → m' ≤ n → Up lt p' m' → Q (m', p')) : kw n lt (kas_count n p) Q := by
  unfold kas_count
  refine kw_bind (kw_asc O hp (n - 1) 1 (Nat.le_refl _) (by omega) (Up.one O p) fun m a b c d => ?_)
  have hz := hp.size
  by_cases e1 : (m == n) = true
  · rw [if_pos e1]
    exact hQ m p hp a (by omega) c
  · rw [if_neg e1]
    have hne : m ≠ n := fun q => e1 (by rw [q]; exact beq_self_eq_true _)
    have hl := d (by omega)
    by_cases e2 : m > 1
    · rw [if_pos e2]
      refine ⟨hp.below 0 (by omega), hp.below (m - 1) (by omega), ?_⟩
      show kw n lt (if lt (pg p 0) (pg p (m - 1)) = true then KasT.ret (m, p) else kas_descPart m n (kas_rev p 0 m)) Q
      cases e3 : lt (pg p 0) (pg p (m - 1)) with
      | true => rw [if_pos rfl]; exact hQ m p hp a (by omega) c
      | false =>
        rw [if_neg (by simp)]
        have hall : ∀ k, 0 ≤ k → k < m → Ev lt (pg p k) (pg p (m - 1)) := fun k _ hk => ⟨c k (m - 1) (by omega) (by omega), O.trans e3 (c 0 k (by omega) hk)⟩
        have ev := ev_rev O (p := p) (i := 0) (j := m) (by omega) hall
        have em : pg (kas_rev p 0 m) m = pg p m := by rw [pg_rev (by omega), if_neg (by omega)]
        refine kw_dpart O (hp.rev _ _) a (by omega) (Dn.next O (fun i j hij hj => ?_) a ?_) hQ
        · exact O.trans (ev j).1 (O.trans (O.trans (hall j (Nat.zero_le _) hj).1 (hall i (Nat.zero_le _) (by omega)).2) (ev i).2)
        · rw [em]
          exact O.trans (O.asym _ _ hl) (ev (m - 1)).2
    · rw [if_neg e2]
      have hm1 : m = 1 := by omega
      subst hm1
      refine kw_dpart O hp (Nat.le_refl _) (by omega) (Dn.next O (fun i j hij hj => ?_) (Nat.le_refl _) (O.asym _ _ hl)) hQ
      have : i = j := by omega
      subst this
      exact O.refl _
theorem kw_place (O : Ord lt) {p : Array Nat} (hp : Pm n p) {k : Nat} (hk : k < n) {Q : Nat → Prop} (hQ : ∀ l, l ≤ k → (∀ i, i < l → le lt (pg p i) (pg p k)) → (∀ i, l ≤ i → i < k → lt (pg p k) (pg p i) = true) → Q l) (hu : Up lt p k) :
    ∀ (f l r : Nat), l ≤ r → r ≤ k → r - l ≤ f → (∀ i, i < l → le lt (pg p i) (pg p k)) → (∀ i, r ≤ i → i < k → lt (pg p k) (pg p i) = true) → kw n lt (kas_place p k f l r) Q
  | 0, l, r, h1, h2, h3, h4, h5 => by
    have : r = l := by omega
    subst this
    exact hQ r h2 h4 h5
  | f + 1, l, r, h1, h2, h3, h4, h5 => by
    unfold kas_place
    by_cases e : l ≥ r
    · rw [if_pos e]
      have : r = l := by omega
      subst this
      exact hQ r h2 h4 h5
    · rw [if_neg e]
      refine ⟨hp.below k (by omega), hp.below _ (by omega), ?_⟩
      show kw n lt (if lt (pg p k) (pg p ((l + r) / 2)) = true then kas_place p k f l ((l + r) / 2) else kas_place p k f ((l + r) / 2 + 1) r) Q
      cases e2 : lt (pg p k) (pg p ((l + r) / 2)) with
      | true =>
        rw [if_pos rfl]
        refine kw_place O hp hk hQ hu f l _ (by omega) (by omega) (by omega) h4 fun i i1 i2 => ?_
        cases e3 : lt (pg p k) (pg p i) with
        | true => rfl
        | false =>
          have := O.tr _ _ _ e3 (hu ((l + r) / 2) i i1 i2)
          rw [e2] at this
          cases this
      | false =>
        rw [if_neg (by simp)]
        exact kw_place O hp hk hQ hu f _ r (by omega) (by omega) (by omega) (fun i hi => O.trans (hu i ((l + r) / 2) (by omega) (by omega)) e2) h5
theorem kw_bin (O : Ord lt) {Q : Array Nat → Prop} (hQ : ∀ p, Pm n p → Up lt p n → Q p) : ∀ (f : Nat) (p : Array Nat) (k : Nat), Pm n p → k + f = n → Up lt p k → kw n lt (kas_bin f p k) Q
  | 0, p, k, hp, hf, hu => hQ p hp (by rw [← hf]; exact hu)
  | f + 1, p, k, hp, hf, hu => by
    unfold kas_bin
    have hz := hp.size
    refine kw_bind (kw_place O hp (by omega) (fun l hl h4 h5 => ?_) hu k 0 k (Nat.zero_le _) (Nat.le_refl _) (by omega) (fun i hi => absurd hi (by omega)) fun i a b => absurd b (by omega))
    refine kw_bin O hQ f _ (k + 1) (hp.bub _ _) (by omega) fun i j hij hj => ?_
    rw [pg_bub (by omega) hl, pg_bub (by omega) hl]
    by_cases e1 : i = l
    · rw [if_pos e1]
      by_cases e2 : j = l
      · rw [if_pos e2]; exact O.refl _
      · rw [if_neg e2, if_pos ⟨by omega, by omega⟩]
        exact O.asym _ _ (h5 (j - 1) (by omega) (by omega))
    · rw [if_neg e1]
      by_cases e2 : j = l
      · rw [if_pos e2, if_neg (by omega)]
        exact h4 i (by omega)
      · rw [if_neg e2]
        by_cases e3 : l < i ∧ i ≤ k
        · rw [if_pos e3, if_pos ⟨by omega, by omega⟩]
          exact hu _ _ (by omega) (by omega)
        · rw [if_neg e3]
          by_cases e4 : l < j ∧ j ≤ k
          · rw [if_pos e4]
            exact hu _ _ (by omega) (by omega)
          · rw [if_neg e4]
            exact hu _ _ (by omega) (by omega)
theorem kw_sort (O : Ord lt) (hn : 2 ≤ n) {Q : Array Nat → Prop} (hQ : ∀ p, Pm n p → Up lt p n → Q p) : kw n lt (kas_sort n) Q := by
  unfold kas_sort
  refine kw_bind (kw_count O (Array.Perm.refl _) hn fun m p hp h1 h2 hu => ?_)
  show kw n lt (if m < n then kas_bin (n - max m 1) p (max m 1) else KasT.ret p) Q
  have hm : max m 1 = m := by omega
  rw [hm]
  by_cases e : m < n
  · rw [if_pos e]
    exact kw_bin O hQ (n - m) p m hp (by omega) hu
  · rw [if_neg e]
    have : m = n := by omega
    subst this
    exact hQ p hp hu
end
end L5

namespace L5
open PySem
def IsIt (T : String) (h : Heap) (j l : Addr) (i : Nat) : Prop := ∃ o, h.get? j = some o ∧ o.cls = .type T ∧ o.data = .fields #[.ref l, .int i 0]
theorem IsIt.keep {T : String} {h h' : Heap} {j l : Addr} {i : Nat} (x : IsIt T h j l i) (k : ∀ o, h.get? j = some o → h'.get? j = some o) : IsIt T h' j l i := let ⟨o, a, r⟩ := x; ⟨o, k o a, r⟩
structure NK (T : String) (Sq : Heap → Addr → Array Value → Prop) : Prop where
  keep : ∀ {h h' : Heap} {l : Addr} {vs : Array Value}, Sq h l vs → (∀ o, h.get? l = some o → h'.get? l = some o) → Sq h' l vs
  start : ∀ {prog : Program} {w : World} {A : Around} {E : Value → Shared → Prop} {s : Shared} {l : Addr} {vs : Array Value} {Q : Value → Shared → Prop}, Sq s.heap l vs →
    Q (.ref s.heap.objs.size) { s with heap := s.heap.push { cls := .type T, data := .fields #[.ref l, .int 0 0] } } → wpAny (model prog w) A (pyIter (.ref l)) Q E s
  item : ∀ {prog : Program} {w : World} {A : Around} {E : Value → Shared → Prop} {s : Shared} {j l : Addr} {i : Nat} {vs : Array Value} {x : Value} {Q : Value → Shared → Prop}, IsIt T s.heap j l i → Sq s.heap l vs → vs[i]? = some x →
    (∀ h', IsIt T h' j l (i + 1) → Heap.SameBut j s.heap h' → Q x { s with heap := h' }) → wpAny (model prog w) A (Builtin.SmallTypes.nextOf (.ref j)) Q E s
  stop : ∀ {prog : Program} {w : World} {A : Around} {E : Value → Shared → Prop} {s : Shared} {j l : Addr} {i : Nat} {vs : Array Value} {Q : Value → Shared → Prop}, A.handled = none → IsIt T s.heap j l i → Sq s.heap l vs → vs[i]? = none →
    (∀ h' e, Heap.ExtBut j s.heap h' → (∃ o, h'.get? e = some o ∧ o.cls = .type "StopIteration") → E (.ref e) { s with heap := h' }) → wpAny (model prog w) A (Builtin.SmallTypes.nextOf (.ref j)) Q E s
theorem nk_list : NK "list_iterator" Heap.IsList where
  keep := fun x k => x.at k
  start := fun x q => wpAny_pyIter_list x q
  item := fun a b c d => wpAny_nextOf_list_item a b c d
  stop := fun a b c d e => wpAny_nextOf_list_end a b c d e
section
variable {prog : Program} {w : World} {A : Around} {E : Value → Shared → Prop} {s : Shared}
theorem nx_tup {j q : Addr} {i : Nat} {vs : Array Value} {x : Value} {Q : Value → Shared → Prop} (ji : s.heap.IsTupleIter j q i) (jt : s.heap.IsTuple q vs) (jx : vs[i]? = some x)
    (k : ∀ h', h'.IsTupleIter j q (i + 1) → Heap.SameBut j s.heap h' → Q x { s with heap := h' }) : wpAny (model prog w) A (Builtin.SmallTypes.nextOf (.ref j)) Q E s := by
  obtain ⟨ob, hb, kc, kd⟩ := id ji
  obtain ⟨ot, ht, _, nt, dt⟩ := jt
  unfold Builtin.SmallTypes.nextOf
  refine wpAny_bind (wpAny_callSpecial?_slot (name := Str.ofString "__next__") ji.typeIs F.slot_tuple_iterator_next (wpAny_call_entry F.slot_tuple_iterator_next ji.typeIs F.entry_tuple_iterator_next ?_ (F.args_tuple_iterator_next_1 _)))
  refine wpAny_bind (m := field (.ref j) 0) (wpAny_field hb kd (x := .ref q) rfl ?_)
  show wpAny _ _ (if (Value.ref q == Value.none) = true then _ else _) _ _ s
  rw [if_neg (show (Value.ref q == Value.none) ≠ true from Bool.false_ne_true)]
  refine wpAny_bind (m := field (.ref j) 1) (wpAny_field hb kd (x := .int i 0) rfl ?_)
  refine wpAny_bind (m := seqItems? (.ref q)) (wpAny_seqItems ht dt ?_)
  simp only [Int.toNat_natCast, jx]
  refine wpAny_bind (wpAny_setField hb kd (by simp) (wpAny_pure ⟨x, rfl, wpAny_pure (k _ ?_ (Heap.SameBut.update ..))⟩))
  refine ⟨_, Heap.get?_update_self _ hb (Obj.isFreed_of_fields (Obj.data_mapFields kd _)), (Obj.cls_mapFields ..).trans kc, ?_⟩
  rw [Obj.data_mapFields kd]; simp [rawInt]
theorem st_tup {j q : Addr} {i : Nat} {vs : Array Value} {Q : Value → Shared → Prop} (hA : A.handled = none) (ji : s.heap.IsTupleIter j q i) (jt : s.heap.IsTuple q vs) (jx : vs[i]? = none)
    (k : ∀ h' e, Heap.ExtBut j s.heap h' → (∃ o, h'.get? e = some o ∧ o.cls = .type "StopIteration") → E (.ref e) { s with heap := h' }) : wpAny (model prog w) A (Builtin.SmallTypes.nextOf (.ref j)) Q E s := by
  obtain ⟨ob, hb, kc, kd⟩ := id ji
  obtain ⟨ot, ht, _, nt, dt⟩ := jt
  unfold Builtin.SmallTypes.nextOf
  refine wpAny_bind (wpAny_callSpecial?_slot (name := Str.ofString "__next__") ji.typeIs F.slot_tuple_iterator_next (wpAny_call_entry F.slot_tuple_iterator_next ji.typeIs F.entry_tuple_iterator_next ?_ (F.args_tuple_iterator_next_1 _)))
  refine wpAny_bind (m := field (.ref j) 0) (wpAny_field hb kd (x := .ref q) rfl ?_)
  show wpAny _ _ (if (Value.ref q == Value.none) = true then _ else _) _ _ s
  rw [if_neg (show (Value.ref q == Value.none) ≠ true from Bool.false_ne_true)]
  refine wpAny_bind (m := field (.ref j) 1) (wpAny_field hb kd (x := .int i 0) rfl ?_)
  refine wpAny_bind (m := seqItems? (.ref q)) (wpAny_seqItems ht dt ?_)
  simp only [Int.toNat_natCast, jx]
  refine wpAny_bind (wpAny_rule (wpAny_bind (wpAny_setField hb kd (by simp) ?_)))
  refine wpAny_bind (m := newExc (.type "StopIteration") []) ?_
  simp only [newExc, newTuple]
  refine wpAny_bind (wpAny_newObj_type (wpAny_bind (m := firstArgMember _ _) (wpAny_of_eq (a := Value.none) (by first | rfl | (simp only [firstArgMember]; rfl)) (wpAny_newObj_type ?_ (by size_fits)))) (by size_fits))
  simp only [raiseNew]
  refine wpAny_bind (wpAny_handled ?_)
  have hB : A.in1.handled = none := hA
  rw [hB]
  exact wpAny_bind (wpAny_pure (wpAny_throw (k _ _ (((Heap.SameBut.update ..).extBut.push _).push _) ⟨_, Heap.get?_push_size _ rfl, rfl⟩)))
end
theorem nk_tuple : NK "tuple_iterator" Heap.IsTuple where
  keep := fun x k => let ⟨o, a, r⟩ := x; ⟨o, k o a, r⟩
  start := fun x q => wpAny_pyIter_tuple x q
  item := fun a b c d => nx_tup a b c d
  stop := fun a b c d e => st_tup a b c d e
structure Za (z u v a b l m : Addr) : Prop where
  uz : u ≠ z
  vz : v ≠ z
  az : a ≠ z
  bz : b ≠ z
  uv : u ≠ v
  ua : u ≠ a
  ub : u ≠ b
  va : v ≠ a
  vb : v ≠ b
  ab : a ≠ b
  lz : l ≠ z
  lv : l ≠ v
  la : l ≠ a
  lb : l ≠ b
  mz : m ≠ z
  mv : m ≠ v
  ma : m ≠ a
  mb : m ≠ b
section
variable {prog : Program} {w : World} {A : Around} {E : Value → Shared → Prop} {s : Shared} {T1 T2 : String} {S1 S2 : Heap → Addr → Array Value → Prop}
theorem zip_gives {z u v a b l m : Addr} {i : Nat} {xs ys : Array Value} {x y c d : Value} {Q : Value → Shared → Prop} (k1 : NK T1 S1) (k2 : NK T2 S2) (D : Za z u v a b l m)
    (hz : IsZip s.heap z u v .none) (hu : IsPair s.heap u (.ref a) (.ref b)) (hv : IsPair s.heap v c d) (ha : IsIt T1 s.heap a l i) (hb : IsIt T2 s.heap b m i) (hl : S1 s.heap l xs) (hm : S2 s.heap m ys) (hx : xs[i]? = some x) (hy : ys[i]? = some y)
    (k : ∀ h', IsZip h' z u v (rawInt s.heap.objs.size) → IsPair h' v x y → IsIt T1 h' a l (i + 1) → IsIt T2 h' b m (i + 1) → IsPair h' s.heap.objs.size x y → h'.objs.size = s.heap.objs.size + 1 →
      (∀ f o, f ≠ z → f ≠ v → f ≠ a → f ≠ b → s.heap.get? f = some o → h'.get? f = some o) → Q (.ref s.heap.objs.size) { s with heap := h' }) :
    wpAny (model prog w) A (Builtin.«zip.__next__» ⟨[.ref z], []⟩) (fun fin s' => ∃ v, fin = .done (.ret v) ∧ Q v s') E s := by
  refine wpAny_bind (m := field (.ref z) 2) (wpAny_field hz rfl (x := .bool false) rfl ?_)
  refine wpAny_bind (m := field (.ref z) 3) (wpAny_field hz rfl (x := .ref u) rfl ?_)
  refine wpAny_bind (wpAny_seqItems hu rfl ?_)
  refine wpAny_bind (m := Builtin.SmallTypes.ownedTupleIsFree (.ref z)) ?_
  unfold Builtin.SmallTypes.ownedTupleIsFree
  refine wpAny_bind (m := field (.ref z) 0) (wpAny_field hz rfl (x := .none) rfl (wpAny_pure ?_))
  simp only [if_true]
  refine wpAny_bind (wpAny_rule (wpAny_bind (wpAny_field hz rfl (x := .ref v) rfl (wpAny_bind (wpAny_setField_rec hz (by simp) fun g1 z1 s1 => ?_)))))
  have z1 : IsZip g1 z u v .ellipsis := z1
  refine wpAny_bind ?_
  simp only [List.zipIdx_cons, List.zipIdx_nil, List.forIn_cons, List.forIn_nil]
  refine wpAny_bind (wpAny_bind (wpAny_onRaise (wpAny_bind (m := Builtin.SmallTypes.nextOf (.ref a)) (k1.item (ha.keep fun o e => s1.extBut _ _ D.az e) (k1.keep hl fun o e => s1.extBut _ _ D.lz e) hx fun g2 a2 s2 => wpAny_pure ?_))))
  have v2 : IsPair g2 v c d := s2.extBut _ _ D.va (s1.extBut _ _ D.vz hv)
  refine wpAny_bind (wpAny_seqItems v2 rfl (wpAny_bind (wpAny_updateSeq_pair v2 fun g3 v3 s3 => wpAny_bind (wpAny_letGo (wpAny_pure ?_)))))
  have v3 : IsPair g3 v x d := v3
  have keep3 : ∀ f o, f ≠ z → f ≠ v → f ≠ a → s.heap.get? f = some o → g3.get? f = some o := fun f o n1 n2 n3 e => s3.extBut _ _ n2 (s2.extBut _ _ n3 (s1.extBut _ _ n1 e))
  refine wpAny_bind (wpAny_bind (wpAny_onRaise (wpAny_bind (m := Builtin.SmallTypes.nextOf (.ref b)) (k2.item (hb.keep fun o e => keep3 _ _ D.bz D.vb.symm D.ab.symm e) (k2.keep hm fun o e => keep3 _ _ D.mz D.mv D.ma e) hy fun g4 b4 s4 => wpAny_pure ?_))))
  have v4 : IsPair g4 v x d := s4.extBut _ _ D.vb v3
  refine wpAny_bind (wpAny_seqItems v4 rfl (wpAny_bind (wpAny_updateSeq_pair v4 fun g5 v5 s5 => wpAny_bind (wpAny_letGo (wpAny_pure (wpAny_pure ?_))))))
  have v5 : IsPair g5 v x y := v5
  refine wpAny_bind (wpAny_seqItems v5 rfl (wpAny_bind (wpAny_newTuple ?_)))
  have ez : g5.objs.size = s.heap.objs.size := by rw [s5.1, s4.1, s3.1, s2.1, s1.1]
  have keep5 : ∀ f o, f ≠ z → f ≠ v → f ≠ a → f ≠ b → s.heap.get? f = some o → g5.get? f = some o := fun f o n1 n2 n3 n4 e => s5.extBut _ _ n2 (s4.extBut _ _ n4 (keep3 f o n1 n2 n3 e))
  have z5 : IsZip g5 z u v .ellipsis := s5.extBut _ _ D.vz.symm (s4.extBut _ _ D.bz.symm (s3.extBut _ _ D.vz.symm (s2.extBut _ _ D.az.symm z1)))
  have a5 : IsIt T1 g5 a l (i + 1) := a2.keep fun o e => s5.extBut _ _ D.va.symm (s4.extBut _ _ D.ab (s3.extBut _ _ D.va.symm e))
  have b5 : IsIt T2 g5 b m (i + 1) := b4.keep fun o e => s5.extBut _ _ D.vb.symm e
  have ltz : z < g5.objs.size := Heap.lt_size z5
  refine wpAny_bind (m := Builtin.SmallTypes.ownedTupleHandOut (.ref z) (.ref g5.objs.size)) ?_
  unfold Builtin.SmallTypes.ownedTupleHandOut
  have z6 : IsZip (g5.push { cls := .type "tuple", data := .seq #[x, y] }) z u v .ellipsis := Heap.get?_push_of_some _ z5
  refine wpAny_bind (wpAny_setField_rec z6 (by simp) fun g7 z7 s7 => wpAny_setField_rec (show IsZip g7 z u v (rawInt g5.objs.size) from z7) (by simp) fun g8 z8 s8 => ?_)
  have z8 : IsZip g8 z u v (rawInt g5.objs.size) := z8
  have go : ∀ f o, f ≠ z → g5.get? f = some o → g8.get? f = some o := fun f o n1 e => s8.extBut _ _ n1 (s7.extBut _ _ n1 (Heap.get?_push_of_some _ e))
  have t8 : IsPair g8 g5.objs.size x y := s8.extBut _ _ (Nat.ne_of_gt ltz) (s7.extBut _ _ (Nat.ne_of_gt ltz) (Heap.get?_push_size _ rfl))
  have e8 : g8.objs.size = g5.objs.size + 1 := by rw [s8.1, s7.1, Heap.size_push]
  rw [ez] at z8 t8 e8
  refine wpAny_pure ⟨_, rfl, ?_⟩
  show Q (.ref g5.objs.size) _
  rw [ez]
  exact k g8 z8 (go _ _ D.vz v5) (a5.keep fun o e => go _ o D.az e) (b5.keep fun o e => go _ o D.bz e) t8 e8 fun f o n1 n2 n3 n4 e => go f o n1 (keep5 f o n1 n2 n3 n4 e)
theorem zip_ends {z u v a b l m : Addr} {i : Nat} {xs ys : Array Value} {c d : Value} {Q : Fin → Shared → Prop} (hA : A.handled = none) (k1 : NK T1 S1) (k2 : NK T2 S2) (D : Za z u v a b l m)
    (hz : IsZip s.heap z u v .none) (hu : IsPair s.heap u (.ref a) (.ref b)) (hv : IsPair s.heap v c d) (ha : IsIt T1 s.heap a l i) (hb : IsIt T2 s.heap b m i) (hl : S1 s.heap l xs) (hm : S2 s.heap m ys) (he : xs[i]? = none ∨ ys[i]? = none)
    (k : ∀ h' e, (∀ f o, f ≠ z → f ≠ v → f ≠ a → f ≠ b → s.heap.get? f = some o → h'.get? f = some o) → (∃ o, h'.get? e = some o ∧ o.cls = .type "StopIteration") → E (.ref e) { s with heap := h' }) :
    wpAny (model prog w) A (Builtin.«zip.__next__» ⟨[.ref z], []⟩) Q E s := by
  refine wpAny_bind (m := field (.ref z) 2) (wpAny_field hz rfl (x := .bool false) rfl ?_)
  refine wpAny_bind (m := field (.ref z) 3) (wpAny_field hz rfl (x := .ref u) rfl ?_)
  refine wpAny_bind (wpAny_seqItems hu rfl ?_)
  refine wpAny_bind (m := Builtin.SmallTypes.ownedTupleIsFree (.ref z)) ?_
  unfold Builtin.SmallTypes.ownedTupleIsFree
  refine wpAny_bind (m := field (.ref z) 0) (wpAny_field hz rfl (x := .none) rfl (wpAny_pure ?_))
  simp only [if_true]
  refine wpAny_bind (wpAny_rule (wpAny_bind (wpAny_field hz rfl (x := .ref v) rfl (wpAny_bind (wpAny_setField_rec hz (by simp) fun g1 z1 s1 => ?_)))))
  have z1 : IsZip g1 z u v .ellipsis := z1
  refine wpAny_bind ?_
  simp only [List.zipIdx_cons, List.zipIdx_nil, List.forIn_cons, List.forIn_nil]
  have ha1 := ha.keep (h' := g1) fun o e => s1.extBut _ _ D.az e
  have hl1 := k1.keep (h' := g1) hl fun o e => s1.extBut _ _ D.lz e
  refine wpAny_bind (wpAny_bind (wpAny_onRaise ?_))
  cases hx : xs[i]? with
  | none =>
    refine wpAny_bind (m := Builtin.SmallTypes.nextOf (.ref a)) (k1.stop hA ha1 hl1 hx fun g2 e s2 oe => ?_)
    obtain ⟨ob, he1, he2⟩ := oe
    have z2 : IsZip g2 z u v .ellipsis := s2 _ _ D.az.symm z1
    have ne : e ≠ z := fun q => by subst q; rw [z2] at he1; cases he1; simp at he2
    exact wpAny_setField_rec z2 (by simp) fun g3 _ s3 => k g3 e (fun f o n1 _ n3 _ q => s3.extBut _ _ n1 (s2 _ _ n3 (s1.extBut _ _ n1 q))) ⟨ob, s3.extBut _ _ ne he1, he2⟩
  | some x =>
    have hy : ys[i]? = none := by rcases he with q | q; rw [hx] at q; cases q; exact q
    refine wpAny_bind (m := Builtin.SmallTypes.nextOf (.ref a)) (k1.item ha1 hl1 hx fun g2 a2 s2 => wpAny_pure ?_)
    have v2 : IsPair g2 v c d := s2.extBut _ _ D.va (s1.extBut _ _ D.vz hv)
    refine wpAny_bind (wpAny_seqItems v2 rfl (wpAny_bind (wpAny_updateSeq_pair v2 fun g3 v3 s3 => wpAny_bind (wpAny_letGo (wpAny_pure ?_)))))
    have keep3 : ∀ f o, f ≠ z → f ≠ v → f ≠ a → s.heap.get? f = some o → g3.get? f = some o := fun f o n1 n2 n3 e => s3.extBut _ _ n2 (s2.extBut _ _ n3 (s1.extBut _ _ n1 e))
    refine wpAny_bind (wpAny_bind (wpAny_onRaise (wpAny_bind (m := Builtin.SmallTypes.nextOf (.ref b)) (k2.stop hA (hb.keep fun o e => keep3 _ _ D.bz D.vb.symm D.ab.symm e) (k2.keep hm fun o e => keep3 _ _ D.mz D.mv D.ma e) hy fun g4 e s4 oe => ?_))))
    obtain ⟨ob, he1, he2⟩ := oe
    have z4 : IsZip g4 z u v .ellipsis := s4 _ _ D.bz.symm (s3.extBut _ _ D.vz.symm (s2.extBut _ _ D.az.symm z1))
    have ne : e ≠ z := fun q => by subst q; rw [z4] at he1; cases he1; simp at he2
    exact wpAny_setField_rec z4 (by simp) fun g5 _ s5 => k g5 e (fun f o n1 n2 n3 n4 q => s5.extBut _ _ n1 (s4 _ _ n4 (keep3 f o n1 n2 n3 q))) ⟨ob, s5.extBut _ _ ne he1, he2⟩
theorem next_zip {z u v a b l m : Addr} {i : Nat} {xs ys : Array Value} {x y c d : Value} {Q : Option Value → Shared → Prop} (k1 : NK T1 S1) (k2 : NK T2 S2) (D : Za z u v a b l m)
    (hz : IsZip s.heap z u v .none) (hu : IsPair s.heap u (.ref a) (.ref b)) (hv : IsPair s.heap v c d) (ha : IsIt T1 s.heap a l i) (hb : IsIt T2 s.heap b m i) (hl : S1 s.heap l xs) (hm : S2 s.heap m ys) (hx : xs[i]? = some x) (hy : ys[i]? = some y)
    (k : ∀ h', IsZip h' z u v (rawInt s.heap.objs.size) → IsPair h' v x y → IsIt T1 h' a l (i + 1) → IsIt T2 h' b m (i + 1) → IsPair h' s.heap.objs.size x y → h'.objs.size = s.heap.objs.size + 1 →
      (∀ f o, f ≠ z → f ≠ v → f ≠ a → f ≠ b → s.heap.get? f = some o → h'.get? f = some o) → Q (some (.ref s.heap.objs.size)) { s with heap := h' }) : wpAny (model prog w) A (pyNext (.ref z)) Q E s := by
  have ty : s.TypeIs (.ref z) "zip" := ⟨_, hz, rfl⟩
  unfold pyNext
  refine wpAny_bind (wpAny_attempt (wpAny_callSpecial?_slot (name := Str.ofString "__next__") ty F.slot_zip_next (wpAny_call_entry F.slot_zip_next ty F.entry_zip_next ?_ (F.args_zip_next_1 _))))
  exact zip_gives k1 k2 D hz hu hv ha hb hl hm hx hy fun h' a1 a2 a3 a4 a5 a6 a7 => wpAny_pure (k h' a1 a2 a3 a4 a5 a6 a7)
theorem last_zip {z u v a b l m : Addr} {i : Nat} {xs ys : Array Value} {c d : Value} {Q : Option Value → Shared → Prop} (hA : A.handled = none) (k1 : NK T1 S1) (k2 : NK T2 S2) (D : Za z u v a b l m)
    (hz : IsZip s.heap z u v .none) (hu : IsPair s.heap u (.ref a) (.ref b)) (hv : IsPair s.heap v c d) (ha : IsIt T1 s.heap a l i) (hb : IsIt T2 s.heap b m i) (hl : S1 s.heap l xs) (hm : S2 s.heap m ys) (he : xs[i]? = none ∨ ys[i]? = none)
    (k : ∀ h', (∀ f o, f ≠ z → f ≠ v → f ≠ a → f ≠ b → s.heap.get? f = some o → h'.get? f = some o) → Q none { s with heap := h' }) : wpAny (model prog w) A (pyNext (.ref z)) Q E s := by
  have ty : s.TypeIs (.ref z) "zip" := ⟨_, hz, rfl⟩
  unfold pyNext
  refine wpAny_bind (wpAny_attempt (wpAny_callSpecial?_slot (name := Str.ofString "__next__") ty F.slot_zip_next (wpAny_call_entry F.slot_zip_next ty F.entry_zip_next ?_ (F.args_zip_next_1 _))))
  refine zip_ends hA k1 k2 D hz hu hv ha hb hl hm he fun h' e q oe => ?_
  obtain ⟨ob, he1, he2⟩ := oe
  exact wpAny_bind (wpAny_isInstance (T := "StopIteration") (b := true) ⟨ob, he1, he2⟩ isSubtype_stop (wpAny_pure (k _ q)))
end
abbrev zh1 (T : String) (h : Heap) (l : Addr) : Heap := h.push { cls := .type T, data := .fields #[.ref l, .int 0 0] }
abbrev zh3 (T1 T2 : String) (h : Heap) (l m : Addr) : Heap := (zh1 T2 (zh1 T1 h l) m).push { cls := .type "tuple", data := .seq #[.ref h.objs.size, .ref (zh1 T1 h l).objs.size] }
abbrev zh4 (T1 T2 : String) (h : Heap) (l m : Addr) : Heap := (zh3 T1 T2 h l m).push { cls := .type "tuple", data := .seq #[.none, .none] }
abbrev zh5 (T1 T2 : String) (h : Heap) (l m : Addr) : Heap := (zh4 T1 T2 h l m).push { cls := .type "zip", data := .fields #[.none, .bool false, .bool false, .ref (zh1 T2 (zh1 T1 h l) m).objs.size, .ref (zh3 T1 T2 h l m).objs.size] }
theorem zip_makes {T1 T2 : String} {S1 S2 : Heap → Addr → Array Value → Prop} (k1 : NK T1 S1) (k2 : NK T2 S2) (l m : Addr) (xs ys : Array Value) :
    Meets (Builtin.«zip.__new__» ⟨[.type "zip", .ref l, .ref m], []⟩) (fun _ R s => S1 s.heap l xs ∧ S2 s.heap m ys ∧ R (.ok (.ret (.ref (zh4 T1 T2 s.heap l m).objs.size))) { s with heap := zh5 T1 T2 s.heap l m }) :=
  .of_wp fun prog w A R s h => by
    obtain ⟨hp, g, d, tk, os⟩ := s
    obtain ⟨a1, a2, h⟩ := h
    have sz := sub_zip
    have b1 : S1 (Shared.heap ⟨hp, g, d, tk, os⟩) l xs := a1
    have b2 : S2 (Shared.heap ⟨hp.push { cls := .type T1, data := .fields #[.ref l, .int 0 0] }, g, d, tk, os⟩) m ys := k2.keep a2 fun o e => Heap.get?_push_of_some _ e
    wp_walk using k1.start b1, k2.start b2
    exact ⟨_, rfl, h⟩
theorem mk_zip {prog : Program} {w : World} {A : Around} {E : Value → Shared → Prop} {s : Shared} {T1 T2 : String} {S1 S2 : Heap → Addr → Array Value → Prop} (k1 : NK T1 S1) (k2 : NK T2 S2) {l m : Addr} {xs ys : Array Value} {Q : Value → Shared → Prop} (a1 : S1 s.heap l xs) (a2 : S2 s.heap m ys)
    (k : ∀ h', IsZip h' (s.heap.objs.size + 4) (s.heap.objs.size + 2) (s.heap.objs.size + 3) .none → IsPair h' (s.heap.objs.size + 2) (.ref s.heap.objs.size) (.ref (s.heap.objs.size + 1)) → IsPair h' (s.heap.objs.size + 3) .none .none →
      IsIt T1 h' s.heap.objs.size l 0 → IsIt T2 h' (s.heap.objs.size + 1) m 0 → h'.objs.size = s.heap.objs.size + 5 → (∀ f o, s.heap.get? f = some o → h'.get? f = some o) → Q (.ref (s.heap.objs.size + 4)) { s with heap := h' }) :
    wpAny (model prog w) A (call (.type "zip") [.ref l, .ref m]) Q E s := by
  refine callType_new F.called_zip (by decide) (F.typeCall_zip_2 _ _) (F.newCall_zip_2 _ _) (fun ob => F.args_object_init_3 ob _ _) F.entry_zip_new (zip_makes k1 k2 l m xs ys) ⟨a1, a2, ?_⟩
  have e1 : (zh1 T1 s.heap l).objs.size = s.heap.objs.size + 1 := Heap.size_push ..
  have e2 : (zh1 T2 (zh1 T1 s.heap l) m).objs.size = s.heap.objs.size + 2 := by rw [Heap.size_push, e1]
  have e3 : (zh3 T1 T2 s.heap l m).objs.size = s.heap.objs.size + 3 := by rw [Heap.size_push, e2]
  have e4 : (zh4 T1 T2 s.heap l m).objs.size = s.heap.objs.size + 4 := by rw [Heap.size_push, e3]
  have e5 : (zh5 T1 T2 s.heap l m).objs.size = s.heap.objs.size + 5 := by rw [Heap.size_push, e4]
  have up1 : ∀ f o, (zh4 T1 T2 s.heap l m).get? f = some o → (zh5 T1 T2 s.heap l m).get? f = some o := fun f o e => Heap.get?_push_of_some _ e
  have up2 : ∀ f o, (zh3 T1 T2 s.heap l m).get? f = some o → (zh5 T1 T2 s.heap l m).get? f = some o := fun f o e => up1 f o (Heap.get?_push_of_some _ e)
  have up3 : ∀ f o, (zh1 T2 (zh1 T1 s.heap l) m).get? f = some o → (zh5 T1 T2 s.heap l m).get? f = some o := fun f o e => up2 f o (Heap.get?_push_of_some _ e)
  have up4 : ∀ f o, (zh1 T1 s.heap l).get? f = some o → (zh5 T1 T2 s.heap l m).get? f = some o := fun f o e => up3 f o (Heap.get?_push_of_some _ e)
  have g5 : (zh5 T1 T2 s.heap l m).get? (zh4 T1 T2 s.heap l m).objs.size = some _ := Heap.get?_push_size _ rfl
  have g4 := up1 _ _ (Heap.get?_push_size (zh3 T1 T2 s.heap l m) rfl)
  have g3 := up2 _ _ (Heap.get?_push_size (zh1 T2 (zh1 T1 s.heap l) m) rfl)
  have g2 := up3 _ _ (Heap.get?_push_size (zh1 T1 s.heap l) rfl)
  have g1 := up4 _ _ (Heap.get?_push_size (s.heap) rfl)
  show _ ∧ _
  rw [e2, e3, e4] at g5
  rw [e1, e2] at g3
  rw [e3] at g4
  rw [e1] at g2
  rw [e4]
  exact ⟨⟨_, g5, rfl⟩, k _ g5 g3 g4 ⟨_, g1, rfl, rfl⟩ ⟨_, g2, rfl, rfl⟩ e5 fun f o x => up4 f o (Heap.get?_push_of_some _ x)⟩
end L5

namespace L2
open PySem PySem.Spec PyProof.Rows
open HT (lexLt lexLt_cons lexLt_nil_nil lexLt_nil_cons lexLt_cons_nil rcLt_int)
open PySem.SeqAt PySem.MeetsSeq PySem.MeetsSeq2 PySem.MeetsSeq3 PySem.SeqRoads2
open PySem.AutoSeq1 (wpAny_loadPart')
theorem ints_at {vs : List Value} {ns : List Int} (h : IntsAre vs ns) {i : Nat} (hi : i < ns.length) : ∃ t, vs[i]? = some (.int ns[i] t) := by
  induction h generalizing i with
  | nil => simp at hi
  | cons n t h ih =>
    cases i with
    | zero => exact ⟨t, rfl⟩
    | succ i => obtain ⟨t', e⟩ := ih (i := i) (by simpa using hi); exact ⟨t', by simpa using e⟩
theorem lt_turn (l b : Addr) (xs ys : Array Value) (n k : Nat) (dd ee : Option Addr) (sl tl : Array (Option Value)) (ns ms : List Int) (hi : IntsAre xs.toList ns) (hj : IntsAre ys.toList ms) (f : Nat) :
    ∀ i : Nat, ns.length - i = f → Meets (Builtin.«list.__eq__.loop» ⟨[.ref l, .ref b, rawInt i, rawInt 0], []⟩)
      (fun A R s => s.heap.get? l = some { cls := .type "list", dict := dd, data := .seq xs n, slots := sl } ∧ s.heap.get? b = some { cls := .type "list", dict := ee, data := .seq ys k, slots := tl } ∧ i ≤ ns.length ∧ i ≤ ms.length ∧
        R (.ok (.ret (.bool (lexLt (ns.drop i) (ms.drop i))))) s) := by
  have z1 : xs.size = ns.length := by rw [← hi.length]; simp
  have z2 : ys.size = ms.length := by rw [← hj.length]; simp
  induction f with
  | zero =>
    intro i hf prog w A R s h
    obtain ⟨hp, g, d, tk, os⟩ := s
    obtain ⟨hl, hb, i1, i2, h⟩ := h
    wp_walk using wpAny_loadPart' hl, wpAny_loadPart' hb
    have e1 : xs[((i : Nat) : Int).toNat]? = none := by simp; omega
    have d1 : ns.drop i = [] := by simp; omega
    rw [d1] at h
    rw [e1]
    have fin : R (.ok (.ret (.bool (decide (xs.size < ys.size))))) ⟨hp, g, d, tk, os⟩ := by
      have q : lexLt [] (ms.drop i) = decide (xs.size < ys.size) := by
        cases e : ms.drop i with
        | nil =>
          have : ms.length ≤ i := by simpa using e
          rw [lexLt_nil_nil]; exact (decide_eq_false (by omega)).symm
        | cons c r =>
          have : i < ms.length := by
            refine Nat.lt_of_not_le fun z => ?_
            rw [List.drop_eq_nil_of_le z] at e
            cases e
          rw [lexLt_nil_cons]; exact (decide_eq_true (by omega)).symm
      rw [← q]; exact h
    wp_walk using wpAny_loadPart' hl, wpAny_loadPart' hb
    exact fin
  | succ f ih =>
    intro i hf prog w A R s h
    obtain ⟨hp, g, d, tk, os⟩ := s
    obtain ⟨hl, hb, i1, i2, h⟩ := h
    have a1 : i < ns.length := by omega
    obtain ⟨t, e1⟩ := ints_at hi a1
    have e1 : xs[((i : Nat) : Int).toNat]? = some (.int ns[i] t) := by simpa using e1
    by_cases a2 : i < ms.length
    · obtain ⟨u, e2⟩ := ints_at hj a2
      have e2 : ys[((i : Nat) : Int).toNat]? = some (.int ms[i] u) := by simpa using e2
      rw [List.drop_eq_getElem_cons a1, List.drop_eq_getElem_cons a2, lexLt_cons] at h
      wp_walk using wpAny_loadPart' hl, wpAny_loadPart' hb
      rw [e1, e2]
      refine wpAny_bind (EqAt.int_int ns[i] t ms[i] u prog w _ _ ?_)
      have cc : ((i : Int) + 1) = ((i + 1 : Nat) : Int) := by push_cast; rfl
      by_cases q : ns[i] = ms[i]
      · rw [if_pos q] at h
        have qb : (ns[i] == ms[i]) = true := by simp [q]
        rw [qb]
        wp_walk
        rw [cc]
        exact ⟨plainId_quiet plain_eq_loop _, codeAny_builtin entry_eq_loop (by rw [Around.under_plainId plain_eq_loop _]; exact ih (i + 1) (by omega) prog w A R _ ⟨hl, hb, by omega, by omega, h⟩)⟩
      · rw [if_neg q] at h
        have qb : (ns[i] == ms[i]) = false := by simp [q]
        rw [qb]
        have rl := rcLt_int A.in1 ⟨hp, g, d, tk, os⟩ ns[i] t ms[i] u prog w
        wp_walk using wpAny_loadPart' hl, wpAny_loadPart' hb
        rw [e1, e2]
        wp_walk using rl
        exact h
    · have e2 : ys[((i : Nat) : Int).toNat]? = none := by simp; omega
      have d2 : ms.drop i = [] := by simp; omega
      rw [List.drop_eq_getElem_cons a1, d2, lexLt_cons_nil] at h
      wp_walk using wpAny_loadPart' hl, wpAny_loadPart' hb
      rw [e1, e2]
      wp_walk using wpAny_loadPart' hl, wpAny_loadPart' hb
      have q : decide (xs.size < ys.size) = false := decide_eq_false (by omega)
      show R (.ok (.ret (.bool (decide (xs.size < ys.size))))) _
      rw [q]
      exact h
theorem list_before (l b : Addr) (xs ys : Array Value) (n k : Nat) (dd ee : Option Addr) (sl tl : Array (Option Value)) (ns ms : List Int) (hi : IntsAre xs.toList ns) (hj : IntsAre ys.toList ms) :
    Meets (Builtin.«list.__lt__» ⟨[.ref l, .ref b], []⟩) (fun A R s => s.heap.get? l = some { cls := .type "list", dict := dd, data := .seq xs n, slots := sl } ∧ s.heap.get? b = some { cls := .type "list", dict := ee, data := .seq ys k, slots := tl } ∧
        R (.ok (.ret (.bool (lexLt ns ms)))) s) := by
  intro prog w A R s h
  obtain ⟨hp, g, d, tk, os⟩ := s
  obtain ⟨hl, hb, h⟩ := h
  have f3 := AutoSeq1.sub_list_list
  wp_walk using wpAny_loadPart' hl, wpAny_loadPart' hb
  exact ⟨plainId_quiet plain_eq_loop _, codeAny_builtin entry_eq_loop (by rw [Around.under_plainId plain_eq_loop _]; exact lt_turn l b xs ys n k dd ee sl tl ns ms hi hj _ 0 rfl prog w A R _ ⟨hl, hb, Nat.zero_le _, Nat.zero_le _, h⟩)⟩
theorem lt_lists {prog : Program} {w : World} {A : Around} {E : Value → Shared → Prop} {s : Shared} {l b : Addr} {xs ys : Array Value} {ns ms : List Int} {Q : Value → Shared → Prop} (hl : s.heap.IsList l xs) (hb : s.heap.IsList b ys) (hi : IntsAre xs.toList ns) (hj : IntsAre ys.toList ms)
    (hu : A.units < cLine) (h : Q (.bool (lexLt ns ms)) s) : wpAny (model prog w) A (compareOp .Lt (.ref l) (.ref b)) Q E s := by
  obtain ⟨⟨c1, dd, da, sl⟩, o1, k1, n, d1⟩ := id hl
  obtain ⟨⟨c2, ee, db, tl⟩, o2, k2, m, d2⟩ := id hb
  simp only at k1 d1 k2 d2
  subst k1 d1 k2 d2
  exact richCompare_meets_room (op := .Lt) ⟨_, o1, rfl⟩ ⟨_, o2, rfl⟩ PySem.F.slot_list_lt PySem.F.entry_list_lt (PySem.F.args_list_lt_2 _ _) (list_before l b xs ys n m dd ee sl tl ns ms hi hj)
    ⟨o1, o2, show Value.bool (lexLt ns ms) ≠ Value.notImplemented ∧ Q (.bool (lexLt ns ms)) s from ⟨(fun x => nomatch x), h⟩⟩ hu
end L2

namespace L2
open PySem PySem.Spec PyProof.Rows L5
def Sq (b : Bool) (K : PySem.W.Frag) (H : Hp) (a : Addr) (xs : List V) : Prop := match b with
  | true => SqT K H a xs
  | false => SqL K H a xs
def tyI (b : Bool) : String := match b with
  | true => "tuple_iterator"
  | false => "list_iterator"
def hpSq (b : Bool) : Heap → Addr → Array Value → Prop := match b with
  | true => Heap.IsTuple
  | false => Heap.IsList
theorem nk_of : ∀ b, NK (tyI b) (hpSq b)
  | true => nk_tuple
  | false => nk_list
section
variable {X : Cx} {pins : List (Addr × Obj)} {σ : St} {H : Hp} {s : Shared} {a v : Addr} {xs ys : List V}
theorem sq_get (I : Inv X pins σ H s) : ∀ {b : Bool}, Sq b X.K H a xs → ∃ its : List Value, Vals xs its ∧ hpSq b s.heap a its.toArray
  | true, h => let ⟨its, r, p, _⟩ := I.tuple h; ⟨its, r, p⟩
  | false, h => let ⟨its, r, p, _⟩ := I.list h; ⟨its, r, p.isList⟩
theorem sq_inj (I : Inv X pins σ H s) : ∀ {b : Bool}, Sq b X.K H a xs → Sq b X.K H a ys → xs = ys
  | true, h, q => I.tuple_inj h q
  | false, h, q => I.list_inj h q
theorem rd_some {u : HO} (h : Rd H a u) : ∃ o, H a = some o := by
  rcases h with h | ⟨o, h⟩
  · exact ⟨_, h⟩
  · exact ⟨_, h⟩
theorem sq_there : ∀ {b : Bool} {K : PySem.W.Frag}, Sq b K H a xs → (∃ o, H a = some o) ∨ ∃ o, K.lookup a = some o
  | true, K, h => by
    rcases h with h | ⟨o, its, n, hk, _⟩
    · exact .inl (rd_some h)
    · exact .inr ⟨o, hk⟩
  | false, K, h => by
    rcases h with h | ⟨o, its, n, hk, _⟩
    · exact .inl (rd_some h)
    · exact .inr ⟨o, hk⟩
theorem sq_ne (I : Inv X pins σ H s) (f : FpOk X pins H v) {b : Bool} (h : Sq b X.K H a xs) : a ≠ v := fun e => by
  subst e
  rcases sq_there h with ⟨o, q⟩ | ⟨o, q⟩
  · rw [f.1] at q; cases q
  · have q := I.ok.mod.kin a o q
    rcases f.2.2.2.1 with z | z
    · exact I.ok.noex a o q z
    · exact absurd (Nat.lt_of_lt_of_le (Heap.lt_size q) (Nat.le_trans I.ok.bsz z)) (Nat.lt_irrefl _)
theorem turnL {t' : Nat} {ch : List Addr} {h' : Heap} (I : Inv X pins σ H s) (k : ∀ b o, b ∉ ch → s.heap.get? b = some o → h'.get? b = some o) (hf : ∀ b ∈ ch, FpOk X pins H b) : Inv X pins σ H { s with heap := h', toks := t' } := by
  have nit : ∀ b u, H b = some u → b ∉ ch := fun b u e z => by rw [(hf b z).1] at e; cases e
  refine I.step (g' := s.gens) (d' := s.drawn) (ch := ch) (fun b hb => ?_) (fun b o _ _ hc e _ => k b o hc e) (fun b o _ _ hc e _ => ⟨o.slots, k b o hc e⟩) (fun _ _ _ _ n => n)
    (fun b o hc e => ⟨o, k b o hc e⟩) (fun _ _ e => e) (fun _ _ _ e => e) (fun b ps e => ⟨#[], by rw [e]; simp⟩) (fun m hm => ?_) (fun b u e => ?_) I.bare
  · obtain ⟨f0, f1, f2, f3, f4, f5⟩ := hf b hb
    exact ⟨f3, f1, f4, f5⟩
  · obtain ⟨o, es, ep, ho, r⟩ := hm
    exact ⟨o, es, ep, k _ o (fun z => (hf _ z).2.1 rfl) ho, r⟩
  · refine (I.hok b u e).stay (fun c v hc q => k c v ?_ q) (fun _ q => q) fun _ _ q => q
    rcases hc with z | z
    · rw [z]; exact nit b u e
    · exact nit c _ z
end
def Itz (K : PySem.W.Frag) (b1 b2 : Bool) (l m : Addr) : It :=
  ⟨fun i H => ∃ xs ys x y, Sq b1 K H l xs ∧ Sq b2 K H m ys ∧ xs[i]? = some x ∧ ys[i]? = some y,
   fun i H v H' => ∃ (p : Addr) (x y : V), H p = none ∧ v = .ref p ∧ H' = upd H p (.tup [x, y]) ∧ (∀ xs, Sq b1 K H l xs → xs[i]? = some x) ∧ ∀ ys, Sq b2 K H m ys → ys[i]? = some y,
   fun i H => ∃ xs ys, Sq b1 K H l xs ∧ Sq b2 K H m ys ∧ (xs.length ≤ i ∨ ys.length ≤ i)⟩
structure Zb (z u v a b : Addr) : Prop where
  uz : u ≠ z
  vz : v ≠ z
  az : a ≠ z
  bz : b ≠ z
  uv : u ≠ v
  ua : u ≠ a
  ub : u ≠ b
  va : v ≠ a
  vb : v ≠ b
  ab : a ≠ b
def tnZ (b1 b2 : Bool) (z u v a b l m : Addr) (i : Nat) (h : Heap) : Prop := IsZip h z u v .none ∧ IsPair h u (.ref a) (.ref b) ∧ (∃ c d, IsPair h v c d) ∧ IsIt (tyI b1) h a l i ∧ IsIt (tyI b2) h b m i
theorem za_of {X : Cx} {pins : List (Addr × Obj)} {σ : St} {H : Hp} {s : Shared} {b1 b2 : Bool} {z u v a b l m : Addr} {xs ys : List V} (I : Inv X pins σ H s) (B : Zb z u v a b) (hf : ∀ c ∈ [z, u, v, a, b], FpOk X pins H c) (hl : Sq b1 X.K H l xs) (hm : Sq b2 X.K H m ys) : Za z u v a b l m :=
  ⟨B.uz, B.vz, B.az, B.bz, B.uv, B.ua, B.ub, B.va, B.vb, B.ab, sq_ne I (hf z (by simp)) hl, sq_ne I (hf v (by simp)) hl, sq_ne I (hf a (by simp)) hl, sq_ne I (hf b (by simp)) hl,
    sq_ne I (hf z (by simp)) hm, sq_ne I (hf v (by simp)) hm, sq_ne I (hf a (by simp)) hm, sq_ne I (hf b (by simp)) hm⟩
theorem turn_zip {P : Program} {w : World} {K : PySem.W.Frag} {es : List Expr} {k0} {pos : Pos} (b1 b2 : Bool) {z u v a b : Addr} (B : Zb z u v a b) (l m : Addr) : Turn P w K (.Tuple es k0 pos) (Itz K b1 b2 l m) [z, u, v, a, b] z (tnZ b1 b2 z u v a b l m) where
  mem := by simp
  obj := fun i h st c hc => by
    obtain ⟨hz, hu, ⟨x, y, hv⟩, ⟨oa, ha, _, da⟩, ⟨ob, hb, _, db⟩⟩ := st
    rcases List.mem_cons.mp hc with rfl | hc
    · exact ⟨_, hz, fun v z => by cases z⟩
    rcases List.mem_cons.mp hc with rfl | hc
    · exact ⟨_, hu, fun v z => by cases z⟩
    rcases List.mem_cons.mp hc with rfl | hc
    · exact ⟨_, hv, fun v z => by cases z⟩
    rcases List.mem_cons.mp hc with rfl | hc
    · exact ⟨_, ha, fun v z => by rw [da] at z; cases z⟩
    rcases List.mem_cons.mp hc with rfl | hc
    · exact ⟨_, hb, fun v z => by rw [db] at z; cases z⟩
    · cases hc
  keep := fun i h h' st q => by
    obtain ⟨hz, hu, ⟨x, y, hv⟩, ha, hb⟩ := st
    exact ⟨q z (by simp) _ hz, q u (by simp) _ hu, ⟨x, y, q v (by simp) _ hv⟩, ha.keep fun o e => q a (by simp) o e, hb.keep fun o e => q b (by simp) o e⟩
  item := by
    intro X hP hw hK hc i pins s σ H E I hf st hg
    subst hP hw hK
    obtain ⟨xs, ys, x, y, hl, hm, hx, hy⟩ := hg
    obtain ⟨hz, hu, ⟨c, d, hv⟩, ha, hb⟩ := st
    obtain ⟨is1, r1, p1⟩ := sq_get I hl
    obtain ⟨is2, r2, p2⟩ := sq_get I hm
    obtain ⟨u1, e1, q1⟩ := r1.get hx
    obtain ⟨u2, e2, q2⟩ := r2.get hy
    have D := za_of I B hf hl hm
    refine next_zip (nk_of b1) (nk_of b2) D hz hu hv ha hb p1 p2 (x := u1) (y := u2) (by simpa using e1) (by simpa using e2) fun g g1 g2 g3 g4 g5 g6 g7 => ?_
    have hn : H s.heap.objs.size = none := I.hok.fresh (Nat.le_refl _)
    have hch : ∀ c ∈ [z, v, a, b], FpOk X pins H c := fun c hc => hf c (by simp at hc ⊢; rcases hc with rfl | rfl | rfl | rfl <;> simp)
    have I1 : Inv X pins σ H { s with heap := g } := turnL (t' := s.toks) I (fun c o hc e => g7 c o (fun z => hc (by simp [z])) (fun z => hc (by simp [z])) (fun z => hc (by simp [z])) (fun z => hc (by simp [z])) e) hch
    refine ⟨_, rfl, wpAny_letOwnedTupleGo_zip (s := { s with heap := g }) g1 fun g' z' sb => ?_⟩
    have I2 : Inv X pins σ H { s with heap := g' } := turnL (s := { s with heap := g }) (t' := s.toks) (ch := [z]) I1 (fun c o hc e => sb.extBut _ _ (fun z => hc (by simp [z])) e) (fun c hc => hch c (by simp at hc ⊢; exact .inl hc))
    have fo := I.fpOk (H' := H) (Nat.le_refl s.heap.objs.size) hn
    have ltz : z < s.heap.objs.size := Heap.lt_size hz
    have t5 : IsPair g' s.heap.objs.size u1 u2 := sb.extBut _ _ (Nat.ne_of_gt ltz) g5
    have I3 : Inv X pins σ (upd H s.heap.objs.size (.tup [x, y])) { s with heap := g' } := Inv.track I2 hn ⟨show 2 ≤ sizeLine by decide, [u1, u2], .cons q1 (.cons q2 .nil), ⟨_, t5, rfl, _, rfl⟩⟩ fo.2.1 (Nat.le_trans I.sz (Nat.le_refl _)) fo.2.2.2.2.1 fo.2.2.2.2.2
    refine ⟨.ref s.heap.objs.size, _, I3, rfl, ⟨s.heap.objs.size, x, y, hn, rfl, rfl, fun xs' h' => by rw [sq_inj I h' hl]; exact hx, fun ys' h' => by rw [sq_inj I h' hm]; exact hy⟩, ?_, fun c hc => ?_⟩
    · exact ⟨z', sb.extBut _ _ B.uz (g7 _ _ B.uz B.uv B.ua B.ub hu), ⟨_, _, sb.extBut _ _ B.vz g2⟩, g3.keep fun o e => sb.extBut _ _ B.az e, g4.keep fun o e => sb.extBut _ _ B.bz e⟩
    · have hlt : ∀ c ∈ [z, u, v, a, b], c < s.heap.objs.size := fun c hc => by
        obtain ⟨_, qa, _⟩ := ha
        obtain ⟨_, qb, _⟩ := hb
        simp at hc
        rcases hc with rfl | rfl | rfl | rfl | rfl
        · exact Heap.lt_size hz
        · exact Heap.lt_size hu
        · exact Heap.lt_size hv
        · exact Heap.lt_size qa
        · exact Heap.lt_size qb
      rw [upd_ne (Nat.ne_of_lt (hlt c hc))]
      exact (hf c hc).1
  done := by
    intro X hP hw hK hc i pins s σ H E I hf st hg
    subst hP hw hK
    obtain ⟨xs, ys, hl, hm, he⟩ := hg
    obtain ⟨hz, hu, ⟨c, d, hv⟩, ha, hb⟩ := st
    obtain ⟨is1, r1, p1⟩ := sq_get I hl
    obtain ⟨is2, r2, p2⟩ := sq_get I hm
    have D := za_of I B hf hl hm
    have l1 := r1.length
    have l2 := r2.length
    refine last_zip (I.ok.hd hc) (nk_of b1) (nk_of b2) D hz hu hv ha hb p1 p2 ?_ fun g g7 => ⟨rfl, turnL (t' := s.toks) (ch := [z, v, a, b]) I (fun c o hc e => g7 c o (fun z => hc (by simp [z])) (fun z => hc (by simp [z])) (fun z => hc (by simp [z])) (fun z => hc (by simp [z])) e) fun c hc => hf c (by simp at hc ⊢; rcases hc with rfl | rfl | rfl | rfl <;> simp)⟩
    rcases he with q | q
    · exact .inl (by simp; omega)
    · exact .inr (by simp; omega)
  self := fun _ _ _ _ _ st h => wpAny_pyIter_zip st.1 h
section
variable {X : Cx} {es : List Expr} {k0 : _} {tpos : Pos} {a b : Expr} {ta : TA} {p pos : Pos}
def iZip (K : PySem.W.Frag) (ta : TA) : TI := fun σ H R => ta σ H fun vs H1 => ∃ (b1 b2 : Bool) (l m : Addr), vs = [.ref l, .ref m] ∧ (∃ xs, Sq b1 K H1 l xs) ∧ (∃ ys, Sq b2 K H1 m ys) ∧ R (Itz K b1 b2 l m) H1
theorem pi_zip (hg : Gl X "zip") (hm : X.mg "zip" = none) (ha : PA X [a, b] ta) (hs : starEach [a, b] X.env = [(false, eval a X.env), (false, eval b X.env)] := by rfl) (hs2 : starEach [b] X.env = [(false, eval b X.env)] := by rfl) :
    PI X (.Tuple es k0 tpos) (.Call (.Name "zip" p) [a, b] [] pos) (iZip X.K ta) := by
  intro pins s σ H R I h
  refine Call_ (ld_blt I hg hm boot_zip (PyProof.Rows.callWith_type1 (thn (ha pos pins s σ H _ I h) fun us s1 ⟨vs, H1, I1, r1, q1⟩ => ?_) (by rw [hs, hs2]) (by rw [hs2]; rfl)))
  obtain ⟨b1, b2, l, m, e, ⟨xs, hl⟩, ⟨ys, hm⟩, q⟩ := q1
  subst e
  obtain ⟨u1, u2, rfl, r, r'⟩ := vals2 r1
  cases (show u1 = Value.ref l from r)
  cases (show u2 = Value.ref m from r')
  obtain ⟨is1, r1, p1⟩ := sq_get I1 hl
  obtain ⟨is2, r2, p2⟩ := sq_get I1 hm
  refine mk_zip (nk_of b1) (nk_of b2) p1 p2 fun g g1 g2 g3 g4 g5 g6 g7 => wpAny_pyIter_zip (s := { s1 with heap := g }) g1 ?_
  have I2 : Inv X pins σ H1 { s1 with heap := g } := I1.kept (t' := s1.toks) g7
  have fr : ∀ c, s1.heap.objs.size ≤ c → FpOk X pins H1 c := fun c hc => I1.fpOk hc (I1.hok.fresh hc)
  refine ⟨_, [s1.heap.objs.size + 4, s1.heap.objs.size + 2, s1.heap.objs.size + 3, s1.heap.objs.size, s1.heap.objs.size + 1], _, _, H1, rfl, I2, turn_zip b1 b2 ⟨?_, ?_, ?_, ?_, ?_, ?_, ?_, ?_, ?_, ?_⟩ l m, ⟨g1, g2, ⟨_, _, g3⟩, g4, g5⟩, fun c hc => fr c ?_, q⟩
  any_goals (show (_ : Nat) ≠ _; omega)
  simp at hc
  rcases hc with rfl | rfl | rfl | rfl | rfl <;> omega
end
end L2
namespace L3
open PySem PySem.Spec L2 L5
def zipD (ds es : List D) : List D := (ds.zip es).map fun p => D.tup [p.1, p.2]
theorem zipD_len (ds es : List D) : (zipD ds es).length = min ds.length es.length := by simp [zipD]
section
variable {X : Cx} {es : List Expr} {k0 : _} {tpos : Pos} {a b : Expr} {ta : TA2} {p pos : Pos}
end
end L3

namespace L5
open PySem PySem.W PySem.Calls PyProof.Rows
section
variable {prog : Program} {w : World} {A : Around} {E : Value → Shared → Prop} {s : Shared}
theorem kw_wp {α : Type} {n : Nat} {lt : Nat → Nat → Bool} {κ : SortKind} {ks : List Value} {Q : α → Shared → Prop} (hc : ∀ i j C, i < n → j < n → C (lt i j) s → wpAny (model prog w) A (keyLt' κ (ks.getD i Value.none) (ks.getD j Value.none)) C (fun _ _ => False) s) :
    ∀ (t : KasT α), kw n lt t (fun a => Q a s) → t.kasWp (kas_ask prog w A κ ks) Q s
  | .ret a, h => h
  | .ask i j k, h => hc i j _ h.1 h.2.1 (kw_wp hc (k (lt i j)) h.2.2)
def Out {α : Type} (lt : Nat → Nat → Bool) (vs : List α) (d : α) (out : List α) : Prop := ∃ p : Array Nat, Pm vs.length p ∧ Up lt p vs.length ∧ out = p.toList.map fun i => vs.getD i d
theorem out_few {α : Type} {lt : Nat → Nat → Bool} (O : Ord lt) {vs : List α} (d : α) (h : vs.length < 2) : Out lt vs d vs := by
  refine ⟨List.toArray (List.range vs.length), Array.Perm.refl _, fun i j hij hj => ?_, ?_⟩
  · have : i = j := by omega
    subst this
    exact O.refl _
  · match vs, h with
    | [], _ => rfl
    | [v], _ => rfl
theorem ks_tail {a kS : Addr} {e e1 : Nat} {ks out : List Value} {st : SortSt} {P : PySem.Fin → Shared → Prop} (hk : s.heap.get? kS = some (seqObj "list" (List.toArray ks) e)) (ha : s.heap.get? a = some (seqObj "list" #[] e1)) (hne : a ≠ kS) (hkz : ks.length < 64) (hoz : out.length < 64)
    (ho : (arrOf st).map (·.2) = List.toArray out) (hf : failedOf st = none)
    (h : ∀ h' c, h'.get? a = some (seqObj "list" (List.toArray out) c) → (∀ b o, b ≠ a → b ≠ kS → s.heap.get? b = some o → h'.get? b = some o) → P (.done (.ret .none)) { s with heap := h' }) : wpAny (model prog w) A (ksk_tail a false e1 (.ref kS) st) P E s := by
  unfold ksk_tail
  try dsimp only
  rw [ho]
  have s1 := Heap.SameBut.update s.heap kS (Obj.mapSeq fun _ => (#[] : Array Value))
  have a1 : (s.heap.update kS (Obj.mapSeq fun _ => (#[] : Array Value))).get? a = some (seqObj "list" #[] e1) := (s1.2 a hne).trans ha
  have s2 := Heap.SameBut.update (s.heap.update kS (Obj.mapSeq fun _ => (#[] : Array Value))) a (Obj.mapSeq fun _ => List.toArray out)
  refine wpAny_bind (listUpdate_at hk rfl (wpAny_bind (wpAny_letGo (wpAny_bind (seqEpoch_at a1 rfl (wpAny_bind (listUpdate_at a1 rfl ?_ (Nat.zero_le _) ?_)))))) (by rw [List.size_toArray, sizeLine_eq]; omega) (Nat.zero_le _))
  · rw [hf]
    simp only [bne_self_eq_false, Bool.false_eq_true, if_false]
    exact wpAny_pure (h _ _ (get?_update_seq a1 fun _ => List.toArray out) fun b o b1 b2 q => (s2.2 b b1).trans ((s1.2 b b2).trans q))
  · simp only [Bool.false_eq_true, if_false]
    rw [List.size_toArray, sizeLine_eq]; omega
theorem ks_end {a kS : Addr} {e e1 : Nat} {ks vs : List Value} {κ : SortKind} {lt : Nat → Nat → Bool} {P : PySem.Fin → Shared → Prop} (O : Ord lt) (hl : ks.length = vs.length) (h64 : vs.length < 64) (hk : s.heap.get? kS = some (seqObj "list" (List.toArray ks) e)) (ha : s.heap.get? a = some (seqObj "list" #[] e1)) (hne : a ≠ kS)
    (hkind : 2 ≤ vs.length → ∀ C : SortKind → Shared → Prop, C κ s → wpAny (model prog w) A (keyKind' (List.toArray ks)) C E s)
    (hc : 2 ≤ vs.length → ∀ i j C, i < vs.length → j < vs.length → C (lt i j) s → wpAny (model prog w) A (keyLt' κ (ks.getD i Value.none) (ks.getD j Value.none)) C (fun _ _ => False) s)
    (h : ∀ out h' c, Out lt vs Value.none out → h'.get? a = some (seqObj "list" (List.toArray out) c) → (∀ b o, b ≠ a → b ≠ kS → s.heap.get? b = some o → h'.get? b = some o) → P (.done (.ret .none)) { s with heap := h' }) :
    wpAny (model prog w) A (ksk_end a false vs.toArray e1 (.ref kS) (List.toArray ks)) P E s := by
  unfold ksk_end
  try dsimp only
  simp only [Bool.false_eq_true, if_false]
  by_cases h2 : vs.length < 2
  · have z2 : vs.toArray.size < 2 := by rw [List.size_toArray]; exact h2
    rw [if_pos z2, if_pos z2]
    refine wpAny_bind (wpAny_pure (wpAny_bind ?_))
    rw [StateT.run_pure]
    refine wpAny_pure ?_
    refine ks_tail hk ha hne (by omega) h64 (st := SortSt.mk' general' ((List.toArray ks).zip vs.toArray) #[] 7 none) ?_ rfl fun h' c a1 a2 => h vs h' c (out_few O _ h2) a1 a2
    show ((List.toArray ks).zip vs.toArray).map (·.2) = _
    apply Array.toList_inj.mp
    simp
    exact List.map_snd_zip (by omega)
  · have z2 : ¬ vs.toArray.size < 2 := by rw [List.size_toArray]; exact h2
    rw [if_neg z2, if_neg z2]
    refine wpAny_bind (hkind (by omega) _ ?_)
    refine wpAny_bind (wpAny_mono (kat_run (Q := fun st' s' => s' = s ∧ ∃ p : Array Nat, p.size = vs.length ∧ arrOf st' = p.map (kas_item ((List.toArray ks).zip vs.toArray)) ∧ failedOf st' = none ∧ Pm vs.length p ∧ Up lt p vs.length)
      (G := fun p s' => s' = s ∧ Pm vs.length p ∧ Up lt p vs.length) hl (by omega) h64 (fun p st' s' a1 a2 a3 a4 => ⟨a4.1, p, a1, a2, a3, a4.2⟩) (kw_wp (hc (by omega)) _ (kw_sort O (by omega) fun p p1 p2 => ⟨rfl, p1, p2⟩))) ?_ fun _ _ x => x)
    rintro ⟨⟨⟩, st'⟩ s' ⟨rfl, p, hp, har, hf, p1, p2⟩
    try dsimp only
    refine ks_tail hk ha hne (by omega) ?_ (kat_snds hl har) hf fun h' c a1 a2 => h _ h' c ⟨p, p1, p2, rfl⟩ a1 a2
    rw [List.length_map, Array.length_toList, hp]
    exact h64
theorem ks_loop {kS q : Addr} {body : Value → PUnit → Sem (ForInStep PUnit)} {J : List Value → Nat → Shared → Prop} {vs : List Value}
    (hb : ∀ x ks e (s : Shared), J ks e s → vs[ks.length]? = some x → wpAny (model prog w) A (body x ⟨⟩) (fun r s' => r = .yield ⟨⟩ ∧ ∃ k c, J (ks ++ [k]) c s') E s) : ∀ (r ks : List Value) (e : Nat) (s : Shared), vs.drop ks.length = r → ks.length ≤ vs.length → J ks e s →
      wpAny (model prog w) A (forIn r PUnit.unit body) (fun _ s' => ∃ ks e, ks.length = vs.length ∧ J ks e s') E s
  | [], ks, e, s, hr, hl, h => by
    rw [List.forIn_nil]
    exact wpAny_pure ⟨ks, e, Nat.le_antisymm hl (by simpa using hr), h⟩
  | x :: r, ks, e, s, hr, hl, h => by
    rw [List.forIn_cons]
    have hlt : ks.length < vs.length := by
      refine Nat.lt_of_not_le fun z => ?_
      rw [List.drop_eq_nil_of_le z] at hr
      cases hr
    rw [List.drop_eq_getElem_cons hlt] at hr
    injection hr with e1 e2
    refine wpAny_bind (wpAny_mono (hb x ks e s h (by rw [List.getElem?_eq_getElem hlt, e1])) (fun y s' hy => ?_) fun _ _ z => z)
    obtain ⟨rfl, k, c, h2⟩ := hy
    exact ks_loop (kS := kS) (q := q) hb r (ks ++ [k]) c s' (by rw [List.length_append, List.length_singleton]; exact e2) (by rw [List.length_append, List.length_singleton]; omega) h2
theorem ks_rest {a kS q : Addr} {e1 : Nat} {vs : List Value} {P : PySem.Fin → Shared → Prop} {J : List Value → Nat → Shared → Prop} (h64 : vs.length < 64) (hJ : ∀ ks e s, J ks e s → s.heap.get? kS = some (seqObj "list" (List.toArray ks) e) ∧ ks.length ≤ vs.length)
    (hcall : ∀ x ks e (s : Shared), J ks e s → vs[ks.length]? = some x → wpAny (model prog w) A (call (.ref q) [x]) (fun k s' => s'.heap.get? kS = some (seqObj "list" (List.toArray ks) e) ∧ ∀ h' c, h'.get? kS = some (seqObj "list" (List.toArray (ks ++ [k])) c) → Heap.SameBut kS s'.heap h' → J (ks ++ [k]) c { s' with heap := h' }) (fun _ _ => False) s)
    (h0 : J [] 0 s) (hend : ∀ ks e s, J ks e s → ks.length = vs.length → wpAny (model prog w) A (ksk_end a false vs.toArray e1 (.ref kS) (List.toArray ks)) P E s) : wpAny (model prog w) A (ksk_rest a (.ref q) false vs.toArray e1 (.ref kS)) P E s := by
  unfold ksk_rest
  refine wpAny_bind (wpAny_rule ?_)
  first
    | rw [List.forIn_toArray]
    | (rw [← Array.forIn_toList]; simp only [List.toList_toArray])
    | rw [← Array.forIn_toList]
  refine wpAny_bind (wpAny_mono (ks_loop (kS := kS) (q := q) (J := J) (vs := vs) (fun x ks e s' hj hx => ?_) vs [] 0 s rfl (Nat.zero_le _) h0) (fun _ s' hd => ?_) fun _ _ x => x)
  · refine wpAny_bind (wpAny_attempt (wpAny_mono (hcall x ks e s' hj hx) (fun k s'' hk => ?_) fun _ _ hF => hF.elim))
    obtain ⟨k1, k2⟩ := hk
    have hz := (hJ ks e s' hj).2
    have s1 := Heap.SameBut.update s''.heap kS (Obj.mapSeq (·.push k))
    have ea : (List.toArray ks).push k = List.toArray (ks ++ [k]) := by simp
    try dsimp only
    refine wpAny_bind (listUpdate_at k1 rfl (wpAny_pure ⟨rfl, k, _, k2 _ _ (by rw [← ea]; exact get?_update_seq k1 (·.push k)) s1⟩) (by rw [List.size_toArray, sizeLine_eq]; omega) (Nat.le_trans (Nat.le_of_eq (Array.size_push ..)) (by rw [List.size_toArray, sizeLine_eq]; omega)))
  · obtain ⟨ks, e, hl, hj⟩ := hd
    try dsimp only
    exact wpAny_bind (listItems_at (hJ ks e s' hj).1 rfl (hend ks e s' hj hl))
end
end L5

namespace L2
open PySem PySem.Spec PyProof.Rows L5 PySem.W
open HT (lexLt lexLt_cons lexLt_nil_nil lexLt_nil_cons lexLt_cons_nil)
theorem reads_ints {h : Heap} : ∀ {vs : List Value} {ns : List Int}, IntsAre vs ns → ReadsAll h vs (ns.map PyData.int) []
  | _, _, .nil => ReadsAll.nil
  | _, _, .cons n t r => ReadsAll.cons (Reads.int n t) (reads_ints r)
abbrev Ky := Int × List Int
def klt (a b : Ky) : Bool := if a.1 = b.1 then lexLt a.2 b.2 else decide (a.1 < b.1)
theorem lex_irr : ∀ a : List Int, lexLt a a = false
  | [] => rfl
  | x :: a => by rw [lexLt_cons, if_pos rfl]; exact lex_irr a
theorem lex_asym : ∀ a b : List Int, lexLt a b = true → lexLt b a = false
  | [], [], h => by cases h
  | [], _ :: _, _ => rfl
  | _ :: _, [], h => by cases h
  | x :: a, y :: b, h => by
    rw [lexLt_cons] at h ⊢
    by_cases e : x = y
    · rw [if_pos e] at h
      rw [if_pos e.symm]
      exact lex_asym a b h
    · rw [if_neg e] at h
      rw [if_neg (Ne.symm e)]
      have := of_decide_eq_true h
      exact decide_eq_false (by omega)
theorem lex_tr : ∀ a b c : List Int, lexLt a b = false → lexLt b c = false → lexLt a c = false
  | _, _ :: _, [], _, _ => by rename_i a _ _ _ _; cases a <;> rfl
  | [], [], c, _, h => h
  | _ :: _, [], [], _, _ => rfl
  | _ :: _, [], _ :: _, _, h => by cases h
  | [], _ :: _, _ :: _, h, _ => by cases h
  | x :: a, y :: b, z :: c, h, g => by
    rw [lexLt_cons] at h g ⊢
    by_cases e : x = y
    · rw [if_pos e] at h
      subst e
      by_cases e2 : x = z
      · rw [if_pos e2] at g ⊢
        exact lex_tr a b c h g
      · rw [if_neg e2] at g ⊢
        exact g
    · rw [if_neg e] at h
      have h := of_decide_eq_false h
      by_cases e2 : y = z
      · subst e2
        rw [if_neg e]
        exact decide_eq_false h
      · rw [if_neg e2] at g
        have g := of_decide_eq_false g
        have : x ≠ z := by omega
        rw [if_neg this]
        exact decide_eq_false (by omega)
theorem klt_asym (a b : Ky) (h : klt a b = true) : klt b a = false := by
  unfold klt at h ⊢
  by_cases e : a.1 = b.1
  · rw [if_pos e] at h
    rw [if_pos e.symm]
    exact lex_asym _ _ h
  · rw [if_neg e] at h
    rw [if_neg (Ne.symm e)]
    have := of_decide_eq_true h
    exact decide_eq_false (by omega)
theorem klt_tr (a b c : Ky) (h : klt a b = false) (g : klt b c = false) : klt a c = false := by
  unfold klt at h g ⊢
  by_cases e : a.1 = b.1
  · rw [if_pos e] at h
    by_cases e2 : b.1 = c.1
    · rw [if_pos e2] at g
      rw [if_pos (e.trans e2)]
      exact lex_tr _ _ _ h g
    · rw [if_neg e2] at g
      rw [if_neg (by rw [e]; exact e2), e]
      exact g
  · rw [if_neg e] at h
    have h := of_decide_eq_false h
    by_cases e2 : b.1 = c.1
    · rw [if_neg (by rw [← e2]; exact e), ← e2]
      exact decide_eq_false h
    · rw [if_neg e2] at g
      have g := of_decide_eq_false g
      have : a.1 ≠ c.1 := by omega
      rw [if_neg this]
      exact decide_eq_false (by omega)
theorem klt_ord (key : Nat → Ky) : Ord fun i j => klt (key i) (key j) := ⟨fun a b h => klt_asym _ _ h, fun a b c h g => klt_tr _ _ _ h g⟩
def KeyIs (K : PySem.W.Frag) (b : Bool) (H : Hp) (k : V) (c : Ky) : Prop := ∃ t m, k = .ref t ∧ SqT K H t [.int c.1, .ref m] ∧ Sq b K H m (c.2.map V.int)
section
variable {X : Cx} {pins : List (Addr × Obj)} {σ : St} {H : Hp} {s : Shared}
theorem key_val (I : Inv X pins σ H s) {b : Bool} {k : V} {c : Ky} {u : Value} (h : KeyIs X.K b H k c) (r : RelV k u) : ∃ (t m : Addr) (o : Obj) (tk : Tok) (n : Nat) (its : List Value), u = .ref t ∧ s.heap.get? t = some o ∧ o.cls = .type "tuple" ∧ o.data = .seq #[.int c.1 tk, .ref m] n ∧ hpSq b s.heap m its.toArray ∧ IntsAre its c.2 := by
  obtain ⟨t, m, rfl, h1, h2⟩ := h
  cases (show u = Value.ref t from r)
  obtain ⟨its, r1, ⟨o, ho, hc, n, hd⟩, _⟩ := I.tuple h1
  obtain ⟨u1, u2, rfl, ⟨tk, rfl⟩, q2⟩ := vals2 r1
  cases (show u2 = Value.ref m from q2)
  obtain ⟨is2, r2, p2⟩ := sq_get I h2
  exact ⟨t, m, o, tk, n, is2, rfl, ho, hc, hd, p2, intsAre_of r2⟩
theorem eq_rows {A : Around} {b : Bool} {m m' : Addr} {xs ys : List Value} {ns ms : List Int} (h1 : hpSq b s.heap m xs.toArray) (h2 : hpSq b s.heap m' ys.toArray) (i1 : IntsAre xs ns) (i2 : IntsAre ys ms) (hu : A.units + 1 < cLine) : SeqAt.EqAt A s (.ref m) (.ref m') (decide (ns = ms)) := by
  have dp : ∀ l : List Int, PyData.depthAll (l.map PyData.int) = 0 := fun l => ke_depthAll l
  cases b with
  | true =>
    obtain ⟨o, ho, hc, n, hd⟩ := h1
    obtain ⟨o', ho', hc', n', hd'⟩ := h2
    have q := SeqAt.eqAt_reads (.tuple (ns.map .int)) (.tuple (ms.map .int)) A s (.ref m) (.ref m') _ _ (reads_tuple_at ho hc hd (reads_ints i1)) (reads_tuple_at ho' hc' hd' (reads_ints i2)) (by simp [PyData.canLay0, ke_canLayAll0]) (by simp [PyData.canLay0, ke_canLayAll0]) (by simp [PyData.depth, dp]; omega)
    rw [show PyData.eqv (.tuple (ns.map .int)) (.tuple (ms.map .int)) = decide (ns = ms) by simp only [PyData.eqv]; exact ked_eqvAll ns ms] at q
    exact q
  | false =>
    obtain ⟨o, ho, hc, n, hd⟩ := h1
    obtain ⟨o', ho', hc', n', hd'⟩ := h2
    have q := SeqAt.eqAt_reads (.list (ns.map .int)) (.list (ms.map .int)) A s (.ref m) (.ref m') _ _ (reads_list_at ho hc hd (reads_ints i1)) (reads_list_at ho' hc' hd' (reads_ints i2)) (by simp [PyData.canLay0, ke_canLayAll0]) (by simp [PyData.canLay0, ke_canLayAll0]) (by simp [PyData.depth, dp]; omega)
    rw [show PyData.eqv (.list (ns.map .int)) (.list (ms.map .int)) = decide (ns = ms) by simp only [PyData.eqv]; exact ked_eqvAll ns ms] at q
    exact q
theorem lt_rows {prog : Program} {w : World} {A : Around} {E : Value → Shared → Prop} {b : Bool} {m m' : Addr} {xs ys : List Value} {ns ms : List Int} {Q : Value → Shared → Prop} (h1 : hpSq b s.heap m xs.toArray) (h2 : hpSq b s.heap m' ys.toArray) (i1 : IntsAre xs ns) (i2 : IntsAre ys ms) (hu : A.units < cLine)
    (h : Q (.bool (lexLt ns ms)) s) : wpAny (model prog w) A (compareOp .Lt (.ref m) (.ref m')) Q E s := by
  cases b with
  | true => exact HT.lt_tupInts (show IsTup s.heap m xs.toArray from h1) (show IsTup s.heap m' ys.toArray from h2) i1 i2 hu h
  | false => exact lt_lists h1 h2 i1 i2 hu h
theorem key_lt {A : Around} (I : Inv X pins σ H s) (hu : A.units + 1 < cLine) {b : Bool} {k k' : V} {c c' : Ky} {u u' : Value} (h : KeyIs X.K b H k c) (h' : KeyIs X.K b H k' c') (r : RelV k u) (r' : RelV k' u') {C : Bool → Shared → Prop} (hC : C (klt c c') s) :
    wpAny (model X.prog X.w) A (keyLt' (tuples' true) u u') C (fun _ _ => False) s := by
  obtain ⟨t, m, o, tk, n, its, rfl, ho, _, hd, hm, hi⟩ := key_val I h r
  obtain ⟨t', m', o', tk', n', its', rfl, ho', _, hd', hm', hi'⟩ := key_val I h' r'
  refine kat_lt ho hd ho' hd' (kat_cons (SeqAt.EqAt.int_int c.1 tk c'.1 tk' X.prog X.w _ _ ?_))
  unfold klt at hC
  by_cases e : c.1 = c'.1
  · rw [if_pos e] at hC
    rw [show (c.1 == c'.1) = true by simp [e]]
    refine kat_yes (kat_cons (eq_rows hm hm' hi hi' hu X.prog X.w _ _ ?_))
    by_cases e2 : c.2 = c'.2
    · rw [decide_eq_true e2]
      rw [e2, lex_irr] at hC
      exact kat_yes (kat_nil hC)
    · rw [decide_eq_false e2]
      exact kat_no (kat_one _ _ (lt_rows hm hm' hi hi' (by omega) hC))
  · rw [if_neg e] at hC
    rw [show (c.1 == c'.1) = false by simp [e]]
    exact kat_no (oneLt_int hC)
theorem key_tups (I : Inv X pins σ H s) {b : Bool} : ∀ {kvs : List V} {ks : List Value} {key : Nat → Ky} , Vals kvs ks → (∀ i k, kvs[i]? = some k → KeyIs X.K b H k (key i)) → ∃ fs, KatTups s.heap ks fs ∧ fs.length = ks.length ∧ ∀ v ∈ fs, ∃ i t, v = Value.int i t
  | _, _, _, .nil, _ => ⟨[], KatTups.nil, rfl, fun v hv => by cases hv⟩
  | _, _, key, .cons (a := k) r rr, h => by
    obtain ⟨fs, h1, h2, h3⟩ := key_tups I rr (key := fun i => key (i + 1)) fun i k hk => h (i + 1) k (by simpa using hk)
    obtain ⟨t, m, o, tk, n, its, rfl, ho, hc, hd, _, _⟩ := key_val I (h 0 _ rfl) r
    refine ⟨.int (key 0).1 tk :: fs, KatTups.cons ho hc hd rfl h1, by simp [h2], fun v hv => ?_⟩
    rcases List.mem_cons.mp hv with rfl | hv
    · exact ⟨_, _, rfl⟩
    · exact h3 v hv
theorem vals_out {ys : List V} {its : List Value} (r : Vals ys its) (p : List Nat) : Vals (p.map fun i => ys.getD i V.non) (p.map fun i => its.getD i Value.none) := by
  induction p with
  | nil => exact .nil
  | cons i p ih =>
    refine .cons ?_ ih
    show RelV (ys.getD i V.non) (its.getD i Value.none)
    cases e : ys[i]? with
    | none =>
      have e2 := r.none_of e
      rw [List.getD_eq_getElem?_getD, List.getD_eq_getElem?_getD, e, e2]
      rfl
    | some y =>
      obtain ⟨u, hu, ru⟩ := r.get e
      rw [List.getD_eq_getElem?_getD, List.getD_eq_getElem?_getD, e, hu]
      exact ru
variable {k : Nat} {q : Addr} {fd : FuncData} {ps : List Str} {sp : Sp}
end
end L2

namespace L5
open PySem
theorem tm_fill : fillsNumberSlot (.type "tuple") "mul" = pure false := fillsNumberSlot_seq (id := "tuple.__mul__") (r := some (.builtin "tuple.__rmul__")) F.slot_tuple_mul.lookup (by decide +kernel) F.slot_tuple_rmul.lookup (by decide +kernel)
theorem tm_rep : seqRepeat? (.type "tuple") = pure (some (.builtin "tuple.__mul__")) := by
  unfold seqRepeat?
  rw [seqSlot_of (T := "tuple") (name := "__mul__") (id := "tuple.__mul__") F.slot_tuple_mul.lookup (by decide +kernel), seqSlot_of (T := "tuple") (name := "__rmul__") (id := "tuple.__rmul__") F.slot_tuple_rmul.lookup (by decide +kernel)]
  rfl
theorem tm_int (a : Int) (t : Tok) (l : Addr) (its : Array Value) (n : Nat) (dd : Option Addr) (sl : Array (Option Value)) : Meets (Builtin.«int.__rmul__» ⟨[.int a t, .ref l], []⟩) (fun _ R s => s.heap.get? l = some { cls := .type "tuple", dict := dd, data := .seq its n, slots := sl } ∧ R (.ok (.ret Value.notImplemented)) s) :=
  .of_wp fun prog w A R s h => by
    obtain ⟨hp, g, d, tk, os⟩ := s
    obtain ⟨hl, h⟩ := h
    wp_walk
    exact ⟨_, rfl, h⟩
theorem tm_one (l : Addr) (its : Array Value) (n : Nat) (dd : Option Addr) (sl : Array (Option Value)) (u : Tok) : Meets (Builtin.«tuple.__mul__» ⟨[.ref l, .int 1 u], []⟩) (fun _ R s => s.heap.get? l = some { cls := .type "tuple", dict := dd, data := .seq its n, slots := sl } ∧ R (.ok (.ret (.ref l))) s) :=
  .of_wp fun prog w A R s h => by
    obtain ⟨hp, g, d, tk, os⟩ := s
    obtain ⟨hl, h⟩ := h
    wp_walk
    exact ⟨_, rfl, h⟩
theorem tm_many (l : Addr) (its : Array Value) (n : Nat) (dd : Option Addr) (sl : Array (Option Value)) (x : Int) (u : Tok) (hx : x ≠ 1) (h1 : -(2 ^ 63) ≤ x) (h2 : x < 2 ^ 63) (hi : its.isEmpty = false) (hz : its.size * x.toNat ≤ sizeLine) :
    Meets (Builtin.«tuple.__mul__» ⟨[.ref l, .int x u], []⟩) (fun _ R s => s.heap.get? l = some { cls := .type "tuple", dict := dd, data := .seq its n, slots := sl } ∧
      R (.ok (.ret (.ref s.heap.objs.size))) { s with heap := s.heap.push { cls := .type "tuple", data := .seq ((List.replicate x.toNat its).foldl (· ++ ·) #[]) } }) :=
  .of_wp fun prog w A R s h => by
    obtain ⟨hp, g, d, tk, os⟩ := s
    obtain ⟨hl, h⟩ := h
    wp_walk
    rw [if_neg (by simp; omega)]
    wp_walk
    by_cases hx0 : x ≤ 0
    · rw [if_pos (by simp [hx0])]
      wp_walk
      have e : x.toNat = 0 := by omega
      rw [e] at h
      exact ⟨_, rfl, h⟩
    · rw [if_neg (by simp [hi]; omega)]
      have ez : ((its.size : Int) * x) = ((its.size * x.toNat : Nat) : Int) := by
        rw [Int.natCast_mul, Int.toNat_of_nonneg (by omega)]
      have hz' := hz
      rw [sizeLine_eq] at hz'
      rw [if_neg (by rw [ez]; omega)]
      wp_walk
      rw [if_neg (by unfold Builtin.Tuple.tupleTooMany; rw [ez, decide_eq_true_eq, sizeLine_eq]; omega)]
      have hsz : (List.foldl (fun x1 x2 => x1 ++ x2) #[] (List.replicate x.toNat its)).size ≤ sizeLine := by
        have f0 : ∀ (m : Nat) (acc : Array Value), (List.foldl (fun x1 x2 => x1 ++ x2) acc (List.replicate m its)).size = acc.size + m * its.size := by
          intro m
          induction m with
          | zero => intro acc; simp
          | succ m ih => intro acc; rw [List.replicate_succ, List.foldl_cons, ih, Array.size_append, Nat.succ_mul]; omega
        rw [f0, Nat.mul_comm]
        simpa using hz
      wp_walk
      exact ⟨_, rfl, h⟩
end L5

namespace L2
open PySem PySem.Spec PyProof.Rows L5
section
variable {X : Cx}
theorem sum_pre (ns : List Int) : ∀ n, n ≤ ns.length → preSum (fun i => ns.getD i 0) n = (ns.take n).sum
  | 0, _ => by simp [preSum]
  | n + 1, h => by
    have hn : n < ns.length := by omega
    rw [preSum, sum_pre ns n (by omega), List.take_succ_eq_append_getElem hn, List.sum_append]
    simp [List.getD_eq_getElem?_getD, hn]
theorem call_sum_ints (hc : X.calm = true) : CallR X (.builtin "sum") (fun xs H Q => ∃ (b : Bool) (p : Addr) (ns : List Int), xs = [.ref p] ∧ Sq b X.K H p (ns.map V.int) ∧ Q (.int ns.sum) H) := by
  intro pins s σ H xs us Q I r h
  obtain ⟨b, p, ns, rfl, hq, q⟩ := h
  obtain ⟨u, rfl, r1⟩ := vals1 r
  cases r1
  obtain ⟨its, rv, pl⟩ := sq_get I hq
  have hi : IntsAre its ns := intsAre_of rv
  have hlen : its.length = ns.length := by rw [← rv.length, List.length_map]
  have hA : X.A.in1.handled = none := I.ok.hd hc
  have hv : ∀ i v, its.toArray[i]? = some v → ∃ t, v = Value.int (ns.getD i 0) t := fun i v e => by
    have e : its[i]? = some v := by simpa using e
    have h1 : i < ns.length := by rw [← hlen]; exact (List.getElem?_eq_some_iff.mp e).1
    obtain ⟨t, e2⟩ := ints_at hi h1
    rw [e] at e2
    cases e2
    exact ⟨t, by simp [List.getD_eq_getElem?_getD, h1]⟩
  have ht : preSum (fun i => ns.getD i 0) its.toArray.size = ns.sum := by
    rw [List.size_toArray, hlen, sum_pre ns _ (Nat.le_refl _), List.take_length]
  cases b with
  | false =>
    have pl : s.heap.IsList p its.toArray := pl
    have hne : p ≠ s.heap.objs.size := by
      obtain ⟨o, e, _⟩ := pl
      exact Nat.ne_of_lt (Heap.lt_size e)
    refine call_sum_walkG (wpAny_pyIter_list pl ⟨s.heap.objs.size, _, _, _, _, _, fun i => ns.getD i 0, rfl, Walks.list hA s.heap.objs.size p hne its.toArray, ⟨⟨_, Heap.get?_push_size _ rfl, rfl, rfl⟩, pl.at fun o e => Heap.get?_push_of_some _ e⟩, ?_, hv, fun h' tk t' hk => ?_⟩)
    · intro b hb
      have : s.heap.objs.size < (s.heap.push { cls := .type "list_iterator", data := .fields #[.ref p, .int 0 0] }).objs.size := by rw [Heap.size_push]; omega
      obtain ⟨o, e, _⟩ := pl
      have h2 := Heap.lt_size e
      simp at hb
      rcases hb with rfl | rfl
      · exact this
      · exact Nat.lt_trans h2 this
    · rw [ht]
      exact ⟨.int ns.sum, H, I.kept (t' := tk) fun b o e => hk b o (by simpa using Nat.ne_of_lt (Heap.lt_size e)) (Heap.get?_push_of_some _ e), ⟨_, rfl⟩, q⟩
  | true =>
    have pl : s.heap.IsTuple p its.toArray := pl
    have hne : p ≠ s.heap.objs.size := by
      obtain ⟨o, e, _⟩ := pl
      exact Nat.ne_of_lt (Heap.lt_size e)
    refine call_sum_walkG (wpAny_pyIter_tuple pl ⟨s.heap.objs.size, _, _, _, _, _, fun i => ns.getD i 0, rfl, Walks.tuple hA s.heap.objs.size p hne its.toArray, ⟨⟨_, Heap.get?_push_size _ rfl, rfl, rfl⟩, nk_tuple.keep pl fun o e => Heap.get?_push_of_some _ e⟩, ?_, hv, fun h' tk t' hk => ?_⟩)
    · intro b hb
      have : s.heap.objs.size < (s.heap.push { cls := .type "tuple_iterator", data := .fields #[.ref p, .int 0 0] }).objs.size := by rw [Heap.size_push]; omega
      obtain ⟨o, e, _⟩ := pl
      have h2 := Heap.lt_size e
      simp at hb
      rcases hb with rfl | rfl
      · exact this
      · exact Nat.lt_trans h2 this
    · rw [ht]
      exact ⟨.int ns.sum, H, I.kept (t' := tk) fun b o e => hk b o (by simpa using Nat.ne_of_lt (Heap.lt_size e)) (Heap.get?_push_of_some _ e), ⟨_, rfl⟩, q⟩
theorem op_repT : OpR X (binaryOp .Mult) (fun x y H Q => ∃ l k xs, x = .ref l ∧ y = .int k ∧ SqT X.K H l xs ∧ xs ≠ [] ∧ -(2 ^ 63) ≤ k ∧ k < 2 ^ 63 ∧ xs.length * k.toNat ≤ sizeLine ∧ (k = 1 → Q (.ref l) H) ∧ (k ≠ 1 → ∀ p, H p = none → Q (.ref p) (upd H p (.tup (List.replicate k.toNat xs).flatten)))) := by
  intro pins s σ H x y v u Q I rx ry h
  obtain ⟨l, k, xs, rfl, rfl, hH, hne, h1, h2, hz, q1, q2⟩ := h
  cases rx
  obtain ⟨t, rfl⟩ := ry
  obtain ⟨its, r, ⟨⟨c, dd, da, sl⟩, e, hc, n, hd⟩, _⟩ := I.tuple hH
  have hl := r.length
  cases (show c = .type "tuple" from hc)
  cases (show da = .seq its.toArray n from hd)
  refine wpAny_binaryOp_repeat_ref (T := "tuple") (U := "int") (by decide) ⟨_, e, rfl⟩ (fun s' => typeIs_int s' k t) tm_fill F.fills_int_mul F.slot_int_rmul tm_rep F.slot_int_index.lookup
    (call_meets F.slot_int_rmul (typeIs_int s k t) F.entry_int_rmul (F.args_int_rmul_2 _ _) (tm_int k t l its.toArray n dd sl) ⟨e, rfl, ⟨_, e, rfl⟩, ?_⟩)
  by_cases hk : k = 1
  · subst hk
    exact call_meets F.slot_tuple_mul ⟨_, e, rfl⟩ F.entry_tuple_mul (F.args_tuple_mul_2 _ _) (tm_one l its.toArray n dd sl t) ⟨e, .ref l, H, I, rfl, q1 rfl⟩
  · refine call_meets F.slot_tuple_mul ⟨_, e, rfl⟩ F.entry_tuple_mul (F.args_tuple_mul_2 _ _) (tm_many l its.toArray n dd sl k t hk h1 h2 ?_ (by rw [List.size_toArray, ← hl]; exact hz)) ⟨e, ?_⟩
    · cases its with
      | nil => cases r; exact absurd rfl hne
      | cons a b => rfl
    · have hnew : List.foldl (fun x1 x2 => x1 ++ x2) #[] (List.replicate k.toNat its.toArray) = (List.replicate k.toNat its).flatten.toArray := by
        have := foldl_rep its k.toNat []
        rw [List.nil_append] at this
        exact this
      rw [hnew]
      have fr := I.fresh
      refine ⟨.ref s.heap.objs.size, _, I.laid (t' := s.toks) (o := .tup (List.replicate k.toNat xs).flatten) (fun b o e => Heap.get?_push_of_some _ e) (Nat.le_refl _) ⟨?_, _, r.rep k.toNat, ⟨_, Heap.get?_push_size _ rfl, rfl, _, rfl⟩⟩, rfl, q2 hk _ fr⟩
      rw [len_rep, Nat.mul_comm]
      exact hz
end
end L2
namespace L3
open PySem PySem.Spec L2 L5 PyProof.Rows
mutual
def toP : D → PyData
  | .non => .none
  | .bl b => .bool b
  | .int i => .int i
  | .str x => .str x
  | .ty _ => .none
  | .ref _ => .none
  | .tup ds => .tuple (toPs ds)
  | .fl ds => .list (toPs ds)
def toPs : List D → List PyData
  | [] => []
  | d :: ds => toP d :: toPs ds
end
mutual
def nr : D → Bool
  | .non => true
  | .bl _ => true
  | .int _ => true
  | .str _ => true
  | .ty _ => false
  | .ref _ => false
  | .tup ds => nrs ds
  | .fl ds => nrs ds
def nrs : List D → Bool
  | [] => true
  | d :: ds => nr d && nrs ds
end
section
variable {X : Cx} {pins : List (Addr × Obj)} {σ : L2.St} {H : Hp} {s : Shared}
mutual
theorem rdD (I : Inv X pins σ H s) : ∀ (d : D) {x : V} {u : Value}, nr d = true → Dat X.K H d x → RelV x u → ∃ as, Reads s.heap u (toP d) as
  | .non, x, u, _, h, r => by cases (dat_non.mp h); cases r; unfold toP; exact ⟨_, Reads.none⟩
  | .bl b, x, u, _, h, r => by cases (dat_bl.mp h); cases r; unfold toP; exact ⟨_, Reads.bool b⟩
  | .int i, x, u, _, h, r => by cases (dat_int.mp h); obtain ⟨t, rfl⟩ := r; unfold toP; exact ⟨_, Reads.int i t⟩
  | .str z, x, u, _, h, r => by cases (dat_str.mp h); obtain ⟨t, rfl⟩ := r; unfold toP; exact ⟨_, Reads.str z t⟩
  | .ty _, x, u, n, h, r => by unfold nr at n; cases n
  | .ref _, x, u, n, h, r => by unfold nr at n; cases n
  | .tup ds, x, u, n, h, r => by
    unfold nr at n
    obtain ⟨p, xs, rfl, hq, hd⟩ := dat_tup.mp h
    cases (show u = Value.ref p from r)
    obtain ⟨its, rv, ⟨o, ho, hc, m, hda⟩, _⟩ := I.tuple hq
    obtain ⟨as, ra⟩ := rdDs I ds n hd rv
    unfold toP
    exact ⟨_, reads_tuple_at ho hc hda ra⟩
  | .fl ds, x, u, n, h, r => by
    unfold nr at n
    obtain ⟨p, xs, rfl, hq, hd⟩ := dat_fl.mp h
    cases (show u = Value.ref p from r)
    obtain ⟨its, rv, pl, _⟩ := I.list hq.sq
    obtain ⟨o, ho, hc, m, hda⟩ := pl.isList
    obtain ⟨as, ra⟩ := rdDs I ds n hd rv
    unfold toP
    exact ⟨_, reads_list_at ho hc hda ra⟩
theorem rdDs (I : Inv X pins σ H s) : ∀ (ds : List D) {xs : List V} {us : List Value}, nrs ds = true → Dats X.K H ds xs → Vals xs us → ∃ as, ReadsAll s.heap us (toPs ds) as
  | [], xs, us, _, h, r => by cases (dats_nil.mp h); cases r; unfold toPs; exact ⟨_, ReadsAll.nil⟩
  | d :: ds, xs, us, n, h, r => by
    unfold nrs at n
    rw [Bool.and_eq_true] at n
    obtain ⟨x, xs', rfl, h1, h2⟩ := dats_cons.mp h
    cases r with
    | cons r1 r2 =>
      obtain ⟨as, a⟩ := rdD I d n.1 h1 r1
      obtain ⟨bs, b⟩ := rdDs I ds n.2 h2 r2
      unfold toPs
      exact ⟨_, ReadsAll.cons a b⟩
end
end
def PyV (K : PySem.W.Frag) (H : Hp) (x : V) (a : PyData) : Prop := (∃ d, nr d = true ∧ Dat K H d x ∧ toP d = a) ∨ ∃ p ds xs, x = .ref p ∧ SqL K H p xs ∧ Dats K H ds xs ∧ nrs ds = true ∧ a = .list (toPs ds)
def pyD (M : Mem) (d : D) : Option PyData := match d with
  | .ref a => match M a with
    | some (.lst ds) => if nrs ds = true then some (.list (toPs ds)) else none
    | none => none
  | d => if nr d = true then some (toP d) else none
theorem pyD_rel {K : PySem.W.Frag} {H : Hp} {M : Mem} {d : D} {x : V} {a : PyData} (e : pyD M d = some a) (h : Dat K H d x) (hm : RelM K H M) : PyV K H x a := by
  cases d with
  | ref p =>
    cases (dat_ref.mp h)
    unfold pyD at e
    cases q : M p with
    | none => simp [q] at e
    | some o =>
      cases o with
      | lst ds =>
        simp only [q] at e
        by_cases n : nrs ds = true
        · rw [if_pos n] at e
          cases e
          obtain ⟨xs, hx, hd⟩ := hm p _ q
          exact .inr ⟨p, ds, xs, rfl, SqL.of hx, hd, n, rfl⟩
        · rw [if_neg n] at e
          cases e
  | non => exact .inl ⟨_, rfl, h, by simpa [pyD, nr] using e⟩
  | bl _ => exact .inl ⟨_, rfl, h, by simpa [pyD, nr] using e⟩
  | int _ => exact .inl ⟨_, rfl, h, by simpa [pyD, nr] using e⟩
  | str _ => exact .inl ⟨_, rfl, h, by simpa [pyD, nr] using e⟩
  | ty _ => simp [pyD, nr] at e
  | tup ds =>
    by_cases n : nrs ds = true
    · exact .inl ⟨.tup ds, by unfold nr; exact n, h, by simpa [pyD, nr, n] using e⟩
    · simp [pyD, nr, n] at e
  | fl ds =>
    by_cases n : nrs ds = true
    · exact .inl ⟨.fl ds, by unfold nr; exact n, h, by simpa [pyD, nr, n] using e⟩
    · simp [pyD, nr, n] at e
section
variable {X : Cx}
theorem pyV_reads {pins : List (Addr × Obj)} {σ : L2.St} {H : Hp} {s : Shared} (I : Inv X pins σ H s) {x : V} {u : Value} {a : PyData} (h : PyV X.K H x a) (r : RelV x u) : ∃ as, Reads s.heap u a as := by
  rcases h with ⟨d, n, hd, rfl⟩ | ⟨p, ds, xs, rfl, hq, hd, n, rfl⟩
  · exact rdD I d n hd r
  · cases (show u = Value.ref p from r)
    obtain ⟨its, rv, pl, _⟩ := I.list hq
    obtain ⟨o, ho, hc, m, hda⟩ := pl.isList
    obtain ⟨as, ra⟩ := rdDs I ds n hd rv
    exact ⟨_, reads_list_at ho hc hda ra⟩
def dEqP (neg : Bool) : R22 := fun x y M Q => ∃ a b, pyD M x = some a ∧ pyD M y = some b ∧ SeqAt.shaped a = true ∧ SeqAt.shaped b = true ∧ Q (.bl (if neg then !PyData.eqv a b else PyData.eqv a b)) M
theorem op_eqP (hu : X.A.units + 64 < cLine) : OpR X (compareOp .Eq) (fun x y H Q => ∃ a b, PyV X.K H x a ∧ PyV X.K H y b ∧ SeqAt.shaped a = true ∧ SeqAt.shaped b = true ∧ Q (.bl (PyData.eqv a b)) H) := by
  intro pins s σ H x y v u Q I rx ry h
  obtain ⟨a, b, ha, hb, sa, sb, q⟩ := h
  obtain ⟨as, ra⟩ := pyV_reads I ha rx
  obtain ⟨bs, rb⟩ := pyV_reads I hb ry
  exact eq_dataH ra rb sa sb hu ⟨.bl (PyData.eqv a b), H, I, rfl, q⟩
theorem op_neP (hu : X.A.units + 64 < cLine) : OpR X (compareOp .NotEq) (fun x y H Q => ∃ a b, PyV X.K H x a ∧ PyV X.K H y b ∧ SeqAt.shaped a = true ∧ SeqAt.shaped b = true ∧ Q (.bl (!PyData.eqv a b)) H) := by
  intro pins s σ H x y v u Q I rx ry h
  obtain ⟨a, b, ha, hb, sa, sb, q⟩ := h
  obtain ⟨as, ra⟩ := pyV_reads I ha rx
  obtain ⟨bs, rb⟩ := pyV_reads I hb ry
  exact ne_dataH ra rb sa sb hu ⟨.bl (!PyData.eqv a b), H, I, rfl, q⟩
theorem OpS.or {f : Value → Value → Sem Value} {r r' : R22} (h : OpS X f r) (h' : OpS X f r') : OpS X f (fun x y M Q => r x y M Q ∨ r' x y M Q) := by
  obtain ⟨a, h1, h2⟩ := h
  obtain ⟨b, g1, g2⟩ := h'
  refine ⟨_, h1.or g1, fun x y d e H M Q2 Q hd he hm q k => ?_⟩
  rcases q with q | q
  · exact .inl (h2 x y d e H M Q2 Q hd he hm q k)
  · exact .inr (g2 x y d e H M Q2 Q hd he hm q k)
def dEqA (neg : Bool) : R22 := fun x y M Q => dEq neg x y M Q ∨ dEqP neg x y M Q
theorem o_eqA (hu : X.A.units + 64 < cLine) : OpS X (compareOp .Eq) (dEqA false) := o_eq.or ⟨_, op_eqP hu, fun x y d e H M Q2 Q hd he hm q k => by
  obtain ⟨a, b, ha, hb, sa, sb, q⟩ := q
  exact ⟨a, b, pyD_rel ha hd hm, pyD_rel hb he hm, sa, sb, k _ H _ M (dat_bl.mpr rfl) hm (TExt.refl H) q⟩⟩
theorem o_neA (hu : X.A.units + 64 < cLine) : OpS X (compareOp .NotEq) (dEqA true) := o_ne.or ⟨_, op_neP hu, fun x y d e H M Q2 Q hd he hm q k => by
  obtain ⟨a, b, ha, hb, sa, sb, q⟩ := q
  exact ⟨a, b, pyD_rel ha hd hm, pyD_rel hb he hm, sa, sb, k _ H _ M (dat_bl.mpr rfl) hm (TExt.refl H) q⟩⟩
def dCount : D → List D → Mem → VK2 → Prop := fun x vs M Q => ∃ p ds y, x = .ref p ∧ vs = [y] ∧ M p = some (.lst ds) ∧ nrs ds = true ∧ nr y = true ∧ PyData.canLayAll0 (toPs ds) = true ∧ (toP y).canLay0 = true ∧ (toP y).depth < 60 ∧ Q (.int (ds.countP fun d => PyData.eqv (toP d) (toP y) : Nat)) M
theorem count_reads {A : Around} {s : Shared} {v : Value} {y : PyData} {bs : List Addr} (ry : Reads s.heap v y bs) (cy : y.canLay0 = true) (hu : A.units + y.depth < cLine) : ∀ {ds : List D} {us : List Value} {as : List Addr}, ReadsAll s.heap us (toPs ds) as → PyData.canLayAll0 (toPs ds) = true →
    ∃ e : Value → Bool, (∀ u ∈ us, SeqAt.EqAt A s u v (e u)) ∧ us.countP e = ds.countP fun d => PyData.eqv (toP d) y := by
  intro ds us as ra cl
  refine ⟨fun u => PyData.eqv (SeqAt.readOf s.heap u) y, fun u hu' => ?_, ?_⟩
  · obtain ⟨d, bs', rd, cd, _⟩ := SeqAt.readsAll_mem _ _ _ cl ra u hu'
    have e := SeqAt.readOf_eq cd rd
    dsimp only
    rw [e]
    exact SeqAt.eqAt_reads d y A s u v _ _ rd ry cd cy (by omega)
  · have e := SeqAt.readsAll_map _ _ _ cl ra
    have f : ∀ (us : List Value) (ds : List D), us.map (SeqAt.readOf s.heap) = toPs ds → us.countP (fun u => PyData.eqv (SeqAt.readOf s.heap u) y) = ds.countP fun d => PyData.eqv (toP d) y := by
      intro us
      induction us with
      | nil =>
        intro ds q
        cases ds with
        | nil => rfl
        | cons d r => unfold toPs at q; cases q
      | cons u us ih =>
        intro ds q
        cases ds with
        | nil => unfold toPs at q; cases q
        | cons d r =>
          unfold toPs at q
          rw [List.map_cons] at q
          injection q with q1 q2
          rw [List.countP_cons, List.countP_cons, ih r q2, q1]
    exact f us ds e
theorem m_count (hu : X.A.units + 64 < cLine) : MtS X "list.count" dCount := ⟨fun x vs H Q => ∃ p ds xs d y, x = .ref p ∧ vs = [y] ∧ SqL X.K H p xs ∧ Dats X.K H ds xs ∧ Dat X.K H d y ∧ nrs ds = true ∧ nr d = true ∧ PyData.canLayAll0 (toPs ds) = true ∧ (toP d).canLay0 = true ∧ (toP d).depth < 60 ∧ Q (.int (ds.countP fun e => PyData.eqv (toP e) (toP d) : Nat)) H, by
    intro pins s σ H x xs v us Q I rx rv h
    obtain ⟨p, ds, zs, d, y, rfl, rfl, hq, hd, hy, n1, n2, c1, c2, dp, q⟩ := h
    cases (show v = Value.ref p from rx)
    obtain ⟨u, rfl, ru⟩ := rv.one
    obtain ⟨its, rz, pl, _⟩ := I.list hq
    obtain ⟨as, ra⟩ := rdDs I ds n1 hd rz
    obtain ⟨bs, rb⟩ := rdD I d n2 hy ru
    obtain ⟨e, e1, e2⟩ := count_reads (A := X.A.in1) rb c2 (by show X.A.units + 1 + _ < _; omega) ra c1
    obtain ⟨⟨c, dd, da, sl⟩, ho, hc, n, hda⟩ := pl.isList
    cases (show c = .type "list" from hc)
    cases (show da = .seq its.toArray n from hda)
    refine call_meets PySem.F.slot_list_count ⟨_, ho, rfl⟩ PySem.F.entry_list_count (PySem.F.args_list_count_2 _ _) (SeqAt.list_countAt p its.toArray n dd sl u e) ⟨ho, fun y hy => e1 y (by simpa using hy), ?_⟩
    rw [show its.toArray.toList = its from rfl, e2]
    exact ⟨.int _, H, I.tok _, ⟨_, rfl⟩, q⟩, fun x xs d ds H M Q2 Q hx hd hm q k => by
    obtain ⟨p, es, y, rfl, rfl, hM, n1, n2, c1, c2, dp, q⟩ := q
    cases (dat_ref.mp hx)
    obtain ⟨v, r, rfl, hv, hr⟩ := dats_cons.mp hd
    cases (dats_nil.mp hr)
    obtain ⟨zs, hz, hd'⟩ := hm p _ hM
    exact ⟨p, es, zs, y, v, rfl, rfl, SqL.of hz, hd', hv, n1, n2, c1, c2, dp, k _ H _ M (dat_int.mpr rfl) hm (TExt.refl H) q⟩⟩
def dAppend : D → List D → Mem → VK2 → Prop := fun x vs M Q => ∃ p ds y, x = .ref p ∧ vs = [y] ∧ M p = some (.lst ds) ∧ ds.length < sizeLine ∧ Q .non (updM M p (.lst (ds ++ [y])))
theorem m_append : MtS X "list.append" dAppend := ⟨rAppend, mt_append, fun x xs d ds H M Q2 Q hx hd hm q k => by
  obtain ⟨p, es, y, rfl, rfl, hM, hz, q⟩ := q
  cases (dat_ref.mp hx)
  obtain ⟨v, r, rfl, hv, hr⟩ := dats_cons.mp hd
  cases (dats_nil.mp hr)
  obtain ⟨zs, h1, h2⟩ := hm p _ hM
  have t := TExt.lst (o := .lst (zs ++ [v])) h1
  refine ⟨p, zs, v, rfl, rfl, h1, by rw [h2.length]; exact hz, k _ _ .non _ (dat_non.mpr rfl) (hm.put t ⟨_, upd_same, ?_⟩) t q⟩
  exact (Dats.mono t es h2).append (Dats.one (Dat.mono t y hv))⟩
theorem dats_intsV {K : PySem.W.Frag} {H : Hp} : ∀ {ns : List Int} {xs : List V}, Dats K H (ns.map D.int) xs → xs = ns.map V.int
  | [], xs, h => by rw [List.map_nil, dats_nil] at h; exact h
  | b :: bs, xs, h => by
    rw [List.map_cons, dats_cons] at h
    obtain ⟨x, r, rfl, a, q⟩ := h
    rw [dat_int] at a
    rw [a, dats_intsV q]
    rfl
def dSum : List D → Mem → VK2 → Prop := fun xs M Q => ∃ (x : D) (ds : List D) (ns : List Int), xs = [x] ∧ seqD M x = some ds ∧ ds = ns.map D.int ∧ Q (.int ns.sum) M
theorem c_sum (hc : X.calm = true) : CallS X (.builtin "sum") dSum := ⟨_, call_sum_ints hc, fun xs ds H M Q2 Q hd hm q k => by
  obtain ⟨x, es, ns, rfl, e, rfl, q⟩ := q
  obtain ⟨v, r, rfl, hv, hr⟩ := dats_cons.mp hd
  cases (dats_nil.mp hr)
  obtain ⟨p, ys, rfl, h, hy⟩ := seqD_rel e hv hm
  rw [dats_intsV hy] at h
  rcases h with h | h
  · exact ⟨false, p, ns, rfl, h, k _ H _ M (dat_int.mpr rfl) hm (TExt.refl H) q⟩
  · exact ⟨true, p, ns, rfl, h, k _ H _ M (dat_int.mpr rfl) hm (TExt.refl H) q⟩⟩
def dMin : List D → Mem → VK2 → Prop := fun xs M Q => ∃ i j, xs = [.int i, .int j] ∧ Q (.int (if j < i then j else i)) M
theorem c_min (hc : X.calm = true) : CallS X (.builtin "min") dMin := ⟨_, call_min2 hc, fun xs ds H M Q2 Q hd hm q k => by
  obtain ⟨i, j, rfl, q⟩ := q
  obtain ⟨v, r, rfl, hv, hr⟩ := dats_cons.mp hd
  obtain ⟨v2, r2, rfl, hv2, hr2⟩ := dats_cons.mp hr
  cases (dats_nil.mp hr2)
  cases (dat_int.mp hv)
  cases (dat_int.mp hv2)
  exact ⟨i, j, rfl, k _ H _ M (dat_int.mpr rfl) hm (TExt.refl H) q⟩⟩
def dMulT : R22 := fun x y M Q => ∃ ds k, x = .tup ds ∧ y = .int k ∧ ds ≠ [] ∧ -(2 ^ 63) ≤ k ∧ k < 2 ^ 63 ∧ ds.length * k.toNat ≤ sizeLine ∧ Q (.tup (List.replicate k.toNat ds).flatten) M
theorem dats_rep {K : PySem.W.Frag} {H : Hp} {ds : List D} {xs : List V} (h : Dats K H ds xs) : ∀ k : Nat, Dats K H (List.replicate k ds).flatten (List.replicate k xs).flatten
  | 0 => by simp [dats_nil]
  | k + 1 => by rw [List.replicate_succ, List.replicate_succ, List.flatten_cons, List.flatten_cons]; exact h.append (dats_rep h k)
def dMulA : R22 := fun x y M Q => dMul x y M Q ∨ dMulT x y M Q
theorem o_mulA : OpS X (binaryOp .Mult) dMulA := o_mul.or ⟨_, op_repT, fun x y d e H M Q2 Q hd he hm q k => by
  obtain ⟨ds, n, rfl, rfl, hne, h1, h2, hz, q⟩ := q
  obtain ⟨p, xs, rfl, hq, hx⟩ := dat_tup.mp hd
  cases (dat_int.mp he)
  refine ⟨p, n, xs, rfl, rfl, hq, fun z => ?_, h1, h2, by rw [hx.length]; exact hz, fun e1 => ?_, fun _ l hl => ?_⟩
  · have := hx.length
    rw [z] at this
    exact hne (List.length_eq_zero_iff.mp this.symm)
  · subst e1
    rw [show (1 : Int).toNat = 1 from rfl, show (List.replicate 1 ds).flatten = ds by simp] at q
    exact k _ H _ M (dat_tup.mpr ⟨p, xs, rfl, hq, hx⟩) hm (TExt.refl H) q
  · exact k _ _ (.tup _) M (tup_new hl (dats_rep hx _)) (hm.laid hl) (TExt.laid hl) q⟩
end
end L3

namespace L2
open PySem PySem.Spec PyProof.Rows L5
section
variable {X : Cx} {e : Expr} {te : TE} {p pos fp kp : Pos} {f : Str} {k : Nat} {ps : List Str} {sp : Sp}
end
end L2
namespace L3
open PySem PySem.Spec L2 L5
def KeyD (b : Bool) (M : Mem) (k : D) (c : Ky) : Prop := match b with
  | true => k = .tup [.int c.1, .tup (c.2.map D.int)]
  | false => ∃ m, k = .tup [.int c.1, .ref m] ∧ M m = some (.lst (c.2.map D.int))
theorem KeyD.v {K : PySem.W.Frag} {H : Hp} {M : Mem} {b : Bool} {k : D} {c : Ky} {v : V} (h : KeyD b M k c) (r : Dat K H k v) (hm : RelM K H M) : KeyIs K b H v c := by
  cases b with
  | true =>
    cases (show k = _ from h)
    obtain ⟨p, xs, rfl, hq, hd⟩ := dat_tup.mp r
    obtain ⟨x1, r1, rfl, h1, hd⟩ := dats_cons.mp hd
    obtain ⟨x2, r2, rfl, h2, hd⟩ := dats_cons.mp hd
    cases (dats_nil.mp hd)
    cases (dat_int.mp h1)
    obtain ⟨p2, ys, rfl, hq2, hd2⟩ := dat_tup.mp h2
    rw [dats_intsV hd2] at hq2
    exact ⟨p, p2, rfl, hq, hq2⟩
  | false =>
    obtain ⟨m, rfl, hM⟩ := h
    obtain ⟨p, xs, rfl, hq, hd⟩ := dat_tup.mp r
    obtain ⟨x1, r1, rfl, h1, hd⟩ := dats_cons.mp hd
    obtain ⟨x2, r2, rfl, h2, hd⟩ := dats_cons.mp hd
    cases (dats_nil.mp hd)
    cases (dat_int.mp h1)
    cases (dat_ref.mp h2)
    obtain ⟨ys, hy, hd2⟩ := hm m _ hM
    rw [dats_intsV hd2] at hy
    exact ⟨p, m, rfl, hq, SqL.of hy⟩
theorem dats_pick {K : PySem.W.Frag} {H : Hp} {ds : List D} {xs : List V} (h : Dats K H ds xs) : ∀ p : List Nat, Dats K H (p.map fun i => ds.getD i D.non) (p.map fun i => xs.getD i V.non)
  | [] => by simp [dats_nil]
  | i :: p => by
    rw [List.map_cons, List.map_cons, dats_cons]
    refine ⟨_, _, rfl, ?_, dats_pick h p⟩
    cases e : ds[i]? with
    | none =>
      have e2 : xs[i]? = none := by
        have := h.length
        have := List.getElem?_eq_none_iff.mp e
        exact List.getElem?_eq_none (by omega)
      rw [List.getD_eq_getElem?_getD, List.getD_eq_getElem?_getD, e, e2]
      exact dat_non.mpr rfl
    | some d =>
      obtain ⟨x, e2, hx⟩ := h.get e
      rw [List.getD_eq_getElem?_getD, List.getD_eq_getElem?_getD, e, e2]
      exact hx
section
variable {X : Cx} {e : Expr} {te : TE2} {p pos fp kp : Pos} {f : Str} {k : Nat} {ps : List Str} {sp : Sp2}
end
end L3
namespace L4
open PySem PySem.Spec L2 L3 L5
section
variable {X : Cx} {e : Expr} {te : TE2} {p pos fp kp : Pos} {f : Str} {k : Nat} {ps : List Str} {sp : Sp2}
end
section
variable {X : Cx} {es : List Expr} {k0 : _} {tpos : Pos} {a b : Expr} {ta : TA2} {p pos : Pos}
end
end L4

namespace L3
open PySem PySem.Spec L2 L5
section
variable {M : Mem} {Q : VK2}
theorem rd_eqaI {i j : Int} (q : Q (.bl (decide (i = j))) M) : dEqA false (.int i) (.int j) M Q := .inl (rd_eqI q)
theorem rd_neaI {i j : Int} (q : Q (.bl (!decide (i = j))) M) : dEqA true (.int i) (.int j) M Q := .inl (rd_neI q)
theorem rd_neaB {i j : Bool} (q : Q (.bl (!decide (i = j))) M) : dEqA true (.bl i) (.bl j) M Q := .inl (rd_neB q)
theorem rd_mulaI {i j : Int} (h : CMul i j) (q : Q (.int (i * j)) M) : dMulA (.int i) (.int j) M Q := .inl (rd_mulI h q)
theorem rd_mulaS {i : Str} {j : Int} (h : MulOk i j) (q : Q (.str (Txt.mul i j)) M) : dMulA (.str i) (.int j) M Q := .inl (rd_mulS h q)
theorem rd_mulaT {d : D} {k : Int} (h0 : 0 ≤ k) (h1 : k ≤ 10000) (q : Q (.tup (List.replicate k.toNat d)) M) : dMulA (.tup [d]) (.int k) M Q := .inr ⟨[d], k, rfl, rfl, by simp, Int.le_trans (by decide) h0, Int.lt_of_le_of_lt h1 (by decide), Nat.le_trans (show 1 * k.toNat ≤ 10000 by omega) (by decide), by
  rw [show (List.replicate k.toNat [d]).flatten = List.replicate k.toNat d by simp]
  exact q⟩
theorem rd_min {i j : Int} (q : Q (.int (if j < i then j else i)) M) : dMin [.int i, .int j] M Q := ⟨i, j, rfl, q⟩
theorem rd_sumT {ns : List Int} (q : Q (.int ns.sum) M) : dSum [.tup (ns.map D.int)] M Q := ⟨_, _, ns, rfl, rfl, rfl, q⟩
theorem rd_app {p : Addr} {ds : List D} {y : D} (h : M p = some (.lst ds)) (hz : ds.length < sizeLine) (q : Q .non (updM M p (.lst (ds ++ [y])))) : dAppend (.ref p) [y] M Q := ⟨p, ds, y, rfl, rfl, h, hz, q⟩
abbrev row (ns : List Int) : D := .tup (ns.map D.int)
theorem toPs_ints : ∀ ns : List Int, toPs (ns.map D.int) = ns.map PyData.int
  | [] => rfl
  | n :: ns => by rw [List.map_cons]; unfold toPs; rw [toPs_ints ns]; unfold toP; rfl
theorem nrs_ints : ∀ ns : List Int, nrs (ns.map D.int) = true
  | [] => rfl
  | n :: ns => by rw [List.map_cons]; unfold nrs; rw [nrs_ints ns]; rfl
theorem rd_tup2 {i j : Nat} {a b : D} {δ : St2} {N : St2 → Mem → Prop} (h : N ((δ.set i (some a)).set j (some b)) M) : hTup 2 (hCons (hName i) (hCons (hName j) hNil)) (.tup [a, b]) δ M N := ⟨rfl, h⟩
theorem rd_iteNT {A B : Prop} (h : B) : if (!true) = true then A else B := by rw [Bool.not_true, if_neg Bool.false_ne_true]; exact h
theorem rd_while {c : TT2} {tb : TS2} {E : Ends2} {δ : St2} (h : ∃ W : Nat → St2 → Mem → Prop, (∃ m, W m δ M) ∧ ∀ m δ M, W m δ M → c δ M fun b M1 =>
    if b = true then ∃ N : St2 → Mem → Prop, (∀ δ' M', N δ' M' → ∃ m', m' < m ∧ W m' δ' M') ∧ tb { E with nx := N, ct := N, bk := E.nx } δ M1 else E.nx δ M1) : sWhile c tb E δ M := h
theorem cl_at {g : TG2} {tt : TT2} {te : TE2} {δc : St2} {M1 : Mem} {Qe : List D → Mem → Prop} {a : Addr} {ds : List D} (Pv : Nat → List D → Mem → Prop) (h0 : Pv 0 [] M1) (hl : ∀ i acc M, i ≤ ds.length → Pv i acc M → M a = some (.lst ds)) (hz : ∀ i acc M, i ≤ ds.length → Pv i acc M → acc.length ≤ sizeLine)
    (hs : ∀ i d acc M, ds[i]? = some d → Pv i acc M → g d δc M fun δ2 M2 => tt δ2 M2 fun b M3 => if b = true then te δ2 M3 fun y M4 => Pv (i + 1) (acc ++ [y]) M4 else Pv (i + 1) acc M3)
    (hd : ∀ acc M, Pv ds.length acc M → Qe acc M) :
    ∃ (B : Nat) (W : Nat → List D → Mem → Prop), W 0 [] M1 ∧ ∀ i acc M, W i acc M → i ≤ B ∧ acc.length ≤ sizeLine ∧ match items (.at a) M with
      | none => False
      | some ds => match ds[i]? with
        | none => i = ds.length ∧ Qe acc M
        | some d => g d δc M fun δ2 M2 => tt δ2 M2 fun b M3 => if b = true then te δ2 M3 fun y M4 => W (i + 1) (acc ++ [y]) M4 else W (i + 1) acc M3 := by
  refine ⟨ds.length, fun i acc M => if i ≤ ds.length then Pv i acc M else False, by dsimp only; rw [if_pos (Nat.zero_le _)]; exact h0, ?_⟩
  intro i acc M w
  by_cases hi : i ≤ ds.length
  · rw [if_pos hi] at w
    refine ⟨hi, hz i acc M hi w, ?_⟩
    have e0 : items (.at a) M = some ds := by
      show (match M a with | some (.lst ds) => some ds | _ => none) = some ds
      rw [hl i acc M hi w]
    rw [e0]
    show (match ds[i]? with
        | none => i = ds.length ∧ Qe acc M
        | some d => g d δc M fun δ2 M2 => tt δ2 M2 fun b M3 => if b = true then te δ2 M3 fun y M4 => (if i + 1 ≤ ds.length then Pv (i + 1) (acc ++ [y]) M4 else False) else (if i + 1 ≤ ds.length then Pv (i + 1) acc M3 else False))
    cases e : ds[i]? with
    | none =>
      have : i = ds.length := Nat.le_antisymm hi (List.getElem?_eq_none_iff.mp e)
      subst this
      exact ⟨rfl, hd acc M w⟩
    | some d =>
      have hlt : i + 1 ≤ ds.length := (List.getElem?_eq_some_iff.mp e).1
      simp only [if_pos hlt]
      exact hs i d acc M e w
  · rw [if_neg hi] at w
    exact w.elim
theorem rd_countI {a : Addr} {ns : List Int} {i : Int} (ha : M a = some (.lst (ns.map D.int))) (q : Q (.int (ns.count i : Nat)) M) : dCount (.ref a) [.int i] M Q := by
  refine ⟨a, _, _, rfl, rfl, ha, nrs_ints ns, rfl, by rw [toPs_ints]; exact PySem.W.ke_canLayAll0 ns, by simp [toP, PyData.canLay0], by simp [toP, PyData.depth], ?_⟩
  have e : (ns.map D.int).countP (fun d => PyData.eqv (toP d) (toP (.int i))) = ns.count i := by
    rw [List.countP_map, List.count_eq_countP]
    refine List.countP_congr fun x _ => ?_
    show PyData.eqv (toP (.int x)) (toP (.int i)) = true ↔ _
    simp [toP, PyData.eqv]
  rw [e]
  exact q
end
end L3

namespace L5
open PySem
theorem list_no_keys : typeLookup (.type "list") "keys" = pure none := by rw [typeLookup_type, builtinLookup_eq_fast]; kernel_rfl
theorem no_keys {prog : Program} {w : World} {A : Around} {E : Value → Shared → Prop} {s : Shared} {a : Addr} {xs : Array Value} {k : Nat} {sl : Array (Option Value)} {Q : Option Value → Shared → Prop} (hx : s.heap.get? a = some { cls := .type "list", dict := none, data := .seq xs k, slots := sl }) (hA : A.handled = none)
    (h : ∀ h' tk, (∀ b o, s.heap.get? b = some o → h'.get? b = some o) → Q none { s with heap := h', toks := tk }) : wpAny (model prog w) A (getAttr? (.ref a) "keys") Q E s := by
  obtain ⟨hp, g, d, tk, os⟩ := s
  have ty : ∀ tk', (⟨hp, g, d, tk', os⟩ : Shared).TypeIs (.ref a) "list" := fun _ => ⟨_, hx, rfl⟩
  have f1 := sub_AttributeError
  have f3 := F.slot_list_getattribute.lookup
  have f4 := F.slot_list_getattribute.bind (.ref a)
  have f5 := am_list_getattr_none
  unfold getAttr? getAttrBy? getAttrBy
  repeat (any_goals (first | assumption | exact ty _ | ((with_reducible show wpAny _ _ (call (Value.builtin "list.__getattribute__") _ _) _ _ _); refine call_meets F.slot_list_getattribute (ty _) am_entry_list_getattribute (F.args_list_getattribute_2 _ _) (meets_getattribute_miss_list a xs k sl _ _ list_no_keys (by decide +kernel) (by decide +kernel)) ⟨hx, hA, fun h' tk' e hx' => ?_⟩) | wp_step))
  obtain ⟨t', u', he⟩ := hx'.there
  show wpAny _ _ (getattributeRaised _ _ _ _ _ _ _) _ _ _
  unfold getattributeRaised
  repeat (any_goals (first | assumption | wp_step))
  exact h _ _ hx'.keeps
end L5

namespace L5
open PySem
theorem ent_loop : entryFor table "dict.update.loop" = some Builtin.«dict.update.loop» := entryFor_of_tree (by kernel_rfl)
theorem pl_loop : plainId "dict.update.loop" = true := by decide +kernel
section
variable {prog : Program} {w : World} {A : Around} {R : Result → Shared → Prop}
abbrev TK (prog : Program) (w : World) : HeapKind prog w (List L2.Key) := tupleKind (L2.mixKind prog w)
abbrev Ent := List L2.Key × Addr × Value
theorem tk_tup {h : Heap} {k : List L2.Key} {a : Addr} (x : (TK prog w).is h k a) : ∃ o, h.get? a = some o ∧ o.cls = .type "tuple" := let ⟨o, its, n, h1, h2, h3, h4⟩ := x; ⟨o, h1, h2⟩
theorem tk_keep {h h' : Heap} {k : List L2.Key} {a : Addr} (x : (TK prog w).is h k a) (q : ∀ o, h.get? a = some o → h'.get? a = some o) : (TK prog w).is h' k a := let ⟨o, its, n, h1, h2, h3, h4⟩ := x; ⟨o, its, n, q o h1, h2, h3, h4⟩
structure PairAt (prog : Program) (w : World) (h : Heap) (u : Value) (p : Ent) : Prop where
  ex : ∃ t, u = .ref t ∧ h.IsTuple t #[.ref p.2.1, p.2.2]
  key : (TK prog w).is h p.1 p.2.1
def TupsStay (h h' : Heap) : Prop := ∀ b o, o.cls = .type "tuple" → h.get? b = some o → h'.get? b = some o
theorem PairAt.stay {h h' : Heap} {u : Value} {p : Ent} (x : PairAt prog w h u p) (q : TupsStay h h') : PairAt prog w h' u p := by
  obtain ⟨⟨t, rfl, o, ho, hc, n, hd⟩, key⟩ := x
  obtain ⟨oa, h1, h2⟩ := tk_tup key
  exact ⟨⟨t, rfl, o, q t o hc ho, hc, n, hd⟩, tk_keep key fun o' e => by rw [h1] at e; cases e; exact q _ _ h2 h1⟩
def putAll (xs : List Ent) (ps : List Ent) : List Ent := ps.foldl (fun xs p => storedH xs p.1 p.2.1 p.2.2) xs
theorem storedH_len (xs : List Ent) (p : Ent) : (storedH xs p.1 p.2.1 p.2.2).length ≤ xs.length + 1 := by
  unfold storedH
  split
  · simp
  · simp
theorem pairs_loop (hu : A.in1.units < cLine) (hA : A.handled = none) (d it l : Addr) (hdi : d ≠ it) (hli : l ≠ it) (hld : l ≠ d) (its : List Value) (ps : List Ent) (hlen : its.length = ps.length) (hmax : ps.length ≤ 1000) :
    ∀ (k i : Nat) (s : Shared) (xs : List Ent), ps.length - i = k → i ≤ ps.length → xs.length ≤ i → s.heap.IsListIter it l i → s.heap.IsList l its.toArray → s.heap.DictOfH (TK prog w) d xs →
      (∀ (j : Nat) (u : Value) (p : Ent), its[j]? = some u → ps[j]? = some p → PairAt prog w s.heap u p) →
      (∀ h' tk, (∀ b o, b ≠ d → b ≠ it → s.heap.get? b = some o → h'.get? b = some o) → h'.DictOfH (TK prog w) d (putAll xs (ps.drop i)) → R (.ok (.ret .none)) { s with heap := h', toks := tk }) →
      codeAny (model prog w) A (.builtin "dict.update.loop" ⟨[.ref d, .ref it, rawInt i, .none], []⟩) R s := by
  intro k
  induction k with
  | zero =>
    intro i s xs hk hi hxs hit hl hd hp hR
    have e : i = ps.length := by omega
    subst e
    refine codeAny_builtin ent_loop ?_
    rw [Around.under_plainId pl_loop _]
    refine wpAny_bind (m := pyNext (.ref it)) (wpAny_pyNext_list_end (show A.in1.handled = none from hA) hit hl (by simp; omega) fun h' eb => ?_)
    refine wpAny_bind (m := Builtin.Dict.addKeywords d []) (wpAny_pure (wpAny_pure ?_))
    refine hR h' s.toks (fun b o _ n2 q => eb b o n2 q) ?_
    rw [List.drop_length]
    obtain ⟨o, es, ep, ho, r1, r2, r3, r4, r5⟩ := hd
    refine ⟨o, es, ep, eb d o hdi ho, r1, r2, r3, fun x hx => ?_, r5⟩
    obtain ⟨oa, h1, h2⟩ := tk_tup (r4 x hx)
    refine tk_keep (r4 x hx) fun o' e => eb _ _ (fun z => ?_) e
    rw [z] at h1
    obtain ⟨oi, g1, g2, _⟩ := hit
    rw [g1] at h1
    cases h1
    rw [g2] at h2
    exact absurd h2 (by decide)
  | succ k ih =>
    intro i s xs hk hi hxs hit hl hd hp hR
    have hlt : i < ps.length := by omega
    have e1 : its[i]? = some its[i] := List.getElem?_eq_getElem (by omega)
    have e2 : ps[i]? = some ps[i] := List.getElem?_eq_getElem hlt
    refine codeAny_builtin ent_loop ?_
    rw [Around.under_plainId pl_loop _]
    refine wpAny_bind (m := pyNext (.ref it)) (wpAny_pyNext_list_item hit hl (x := its[i]) (by simpa using e1) fun g1 it1 s1 => ?_)
    have ts1 : TupsStay s.heap g1 := fun b o hc e => s1.extBut _ _ (fun z => by
      rw [z] at e
      obtain ⟨oi, q1, q2, _⟩ := hit
      rw [q1] at e
      cases e
      rw [hc] at q2
      exact absurd q2 (by decide)) e
    obtain ⟨⟨t, et, ⟨ct, dt, da, st⟩, ho, hc, n, hda⟩, key⟩ := (hp i _ _ e1 e2).stay ts1
    cases (show ct = .type "tuple" from hc)
    cases (show da = _ from hda)
    have hl1 : g1.IsList l its.toArray := hl.at fun o e => s1.extBut _ _ hli e
    have hd1 : g1.DictOfH (TK prog w) d xs := by
      obtain ⟨o, es, ep, ho, r1, r2, r3, r4, r5⟩ := hd
      refine ⟨o, es, ep, s1.extBut _ _ hdi ho, r1, r2, r3, fun x hx => ?_, r5⟩
      obtain ⟨oa, h1, h2⟩ := tk_tup (r4 x hx)
      exact tk_keep (r4 x hx) fun o' e => by rw [h1] at e; cases e; exact ts1 _ _ h2 h1
    rw [et]
    refine wpAny_bind (wpAny_holding (wpAny_bind (wpAny_tryCatch ?_)))
    unfold Builtin.Dict.pairItems
    refine wpAny_bind (wpAny_typeOf (T := "tuple") ⟨_, ho, rfl⟩ ?_)
    rw [if_pos (by decide)]
    refine wpAny_bind (wpAny_seqItems ho rfl (wpAny_pure ?_))
    show wpAny _ A.in1 (holding [Value.ref ps[i].2.1, ps[i].2.2] (dictSet d (.ref ps[i].2.1) ps[i].2.2)) _ _ _
    refine wpAny_holding (wpAny_dictSet_heap (s := { s with heap := g1 }) (knd := TK prog w) hu key hd1 (fun g2 d2 s2 => ?_) (Nat.le_trans (show xs.length ≤ 1000 by omega) (by decide)))
    refine wpAny_pure ⟨plainId_quiet pl_loop _, ?_⟩
    have od : ∃ o, g1.get? d = some o ∧ o.cls = .type "dict" := by
      obtain ⟨o, es, ep, ho, r1, _⟩ := hd1
      exact ⟨o, ho, r1.1⟩
    have ts2 : TupsStay g1 g2 := fun b o hc e => s2.extBut _ _ (fun z => by
      rw [z] at e
      obtain ⟨oi, q1, q2⟩ := od
      rw [q1] at e
      cases e
      rw [hc] at q2
      exact absurd q2 (by decide)) e
    have hc1 : ((i : Int) + 1) = ((i + 1 : Nat) : Int) := by push_cast; rfl
    show codeAny (model prog w) A (.builtin "dict.update.loop" ⟨[.ref d, .ref it, rawInt ((i : Int) + 1), .none], []⟩) R _
    rw [hc1]
    refine ih (i + 1) _ (storedH xs ps[i].1 ps[i].2.1 ps[i].2.2) (by omega) hlt ?_ (it1.at fun o e => s2.extBut _ _ (Ne.symm hdi) e) (hl1.at fun o e => s2.extBut _ _ hld e) d2 (fun j u p h1 h2 => ((hp j u p h1 h2).stay ts1).stay ts2) fun h' tk hk' hd' => ?_
    · have := storedH_len xs ps[i]
      omega
    · refine hR h' tk (fun b o n1 n2 e => hk' b o n1 n2 (s2.extBut _ _ n1 (s1.extBut _ _ n2 e))) ?_
      rw [List.drop_eq_getElem_cons hlt]
      exact hd'
end
end L5

namespace L5
open PySem PySem.W PySem.Calls PyProof.Rows
section
variable {prog : Program} {w : World} {A : Around} {E : Value → Shared → Prop} {s : Shared}
theorem mk_dict {l : Addr} {its : List Value} {ps : List Ent} {Q : Value → Shared → Prop} (hu : A.units + 2 < cLine) (hA : A.handled = none) (hl : s.heap.IsList l its.toArray) (hpl : ∃ o, s.heap.get? l = some o ∧ o.dict = none) (hlen : its.length = ps.length) (hmax : ps.length ≤ 1000)
    (hp : ∀ (j : Nat) (u : Value) (p : Ent), its[j]? = some u → ps[j]? = some p → PairAt prog w s.heap u p)
    (h : ∀ h' tk, (∀ b o, s.heap.get? b = some o → h'.get? b = some o) → h'.DictOfH (TK prog w) s.heap.objs.size (putAll [] ps) → s.heap.objs.size < h'.objs.size → Q (.ref s.heap.objs.size) { s with heap := h', toks := tk }) :
    wpAny (model prog w) A (call (.type "dict") [.ref l]) Q E s := by
  refine callType_codes (Q₁ := fun obj s₁ => obj = .ref s.heap.objs.size ∧ s₁ = { s with heap := s.heap.push { cls := .type "dict", data := .dict #[] } }) F.kt_called_dict (F.kt_typeCall_dict_1 _) F.entry_dict_init (kt_code_dict_new _ ⟨rfl, rfl⟩) ?_
  rintro obj s1 ⟨rfl, rfl⟩
  have new : (s.heap.push { cls := .type "dict", data := .dict #[] }).DictOfH (TK prog w) s.heap.objs.size [] := Heap.DictOfH.new s.heap
  refine ⟨new.typeIs, F.args_dict_init_2 _ _, ?_⟩
  unfold Builtin.«dict.__init__»
  refine wpAny_bind ?_
  unfold Builtin.Dict.selfAndRest
  refine wpAny_bind (wpAny_notOrdered_dict new.typeIs ?_)
  refine wpAny_pure (a := (s.heap.objs.size, [Value.ref l])) ?_
  obtain ⟨ob, hob, hdn⟩ := hpl
  obtain ⟨⟨c, dd, da, sl⟩, ho, hc, n, hda⟩ := id hl
  rw [ho] at hob
  cases hob
  cases (show c = .type "list" from hc)
  cases (show da = .seq its.toArray n from hda)
  cases (show dd = none from hdn)
  have ho1 : (s.heap.push { cls := .type "dict", data := .dict #[] }).get? l = some { cls := .type "list", dict := none, data := .seq its.toArray n, slots := sl } := Heap.get?_push_of_some _ ho
  show wpAny _ _ (Builtin.Dict.updateFrom "dict.__init__" s.heap.objs.size (.ref l) [] .none) _ _ _
  unfold Builtin.Dict.updateFrom
  refine wpAny_bind (wpAny_typeOf (T := "list") ⟨_, ho1, rfl⟩ ?_)
  rw [if_pos (by decide)]
  refine wpAny_bind (no_keys (s := { s with heap := s.heap.push { cls := .type "dict", data := .dict #[] } }) ho1 (show A.in1.handled = none from hA) fun g tk gk => ?_)
  rw [if_pos (by rfl)]
  have k0 : ∀ b o, s.heap.get? b = some o → g.get? b = some o := fun b o e => gk b o (Heap.get?_push_of_some _ e)
  have hlg : g.IsList l its.toArray := hl.at fun o e => k0 l o e
  have dg : g.DictOfH (TK prog w) s.heap.objs.size [] := by
    obtain ⟨o, es, ep, h1, r⟩ := new
    exact ⟨o, es, ep, gk _ _ h1, r.1, r.2.1, r.2.2.1, fun x hx => absurd hx (by simp), r.2.2.2.2⟩
  have dlt : s.heap.objs.size < g.objs.size := by obtain ⟨o, es, ep, h1, _⟩ := dg; exact Heap.lt_size h1
  refine wpAny_bind (wpAny_rule (wpAny_bind (wpAny_pyIter_list (s := { s with heap := g, toks := tk }) hlg ?_)))
  refine wpAny_pure ⟨plainId_quiet pl_loop _, ?_⟩
  have up : ∀ b o, g.get? b = some o → (g.push { cls := .type "list_iterator", data := .fields #[.ref l, .int 0 0] }).get? b = some o := fun b o e => Heap.get?_push_of_some _ e
  have hne : l ≠ s.heap.objs.size := Nat.ne_of_lt (Heap.lt_size ho)
  have hlt : l < g.objs.size := Nat.lt_trans (Heap.lt_size ho) dlt
  refine pairs_loop (prog := prog) (w := w) (A := A.in1) (by show A.units + 1 + 1 < cLine; omega) (show A.in1.handled = none from hA) s.heap.objs.size g.objs.size l (Nat.ne_of_lt dlt) (Nat.ne_of_lt hlt) hne its ps hlen hmax _ 0 { s with heap := g.push { cls := .type "list_iterator", data := .fields #[.ref l, .int 0 0] }, toks := tk } [] rfl (Nat.zero_le _) (Nat.le_refl _) ⟨_, Heap.get?_push_size _ rfl, rfl, rfl⟩ (hlg.at fun o e => up l o e) ?_ ?_ ?_
  · obtain ⟨o, es, ep, h1, r⟩ := dg
    exact ⟨o, es, ep, up _ _ h1, r.1, r.2.1, r.2.2.1, fun x hx => absurd hx (by simp), r.2.2.2.2⟩
  · intro j u p e1 e2
    exact (hp j u p e1 e2).stay fun b o _ e => up b o (k0 b o e)
  · intro h' tk' hk' hd'
    have hlt' : s.heap.objs.size < h'.objs.size := by obtain ⟨o, es, ep, h1, _⟩ := hd'; exact Heap.lt_size h1
    refine ⟨rfl, h h' tk' (fun b o e => hk' b o (Nat.ne_of_lt (Heap.lt_size e)) (Nat.ne_of_lt (Nat.lt_trans (Heap.lt_size e) dlt)) (up b o (k0 b o e))) hd' hlt'⟩
end
end L5

namespace L5
open PySem PySem.W PySem.Calls PyProof.Rows
def Raw (g : Heap) (d : Addr) (es : Array DictEntry) (ep : Nat) : Prop := ∃ b, g.get? d = some b ∧ b.ExactDict ∧ b.data = .dict es ep
theorem Raw.to {g g' : Heap} {d : Addr} {es : Array DictEntry} {ep : Nat} (x : Raw g d es ep) (q : ∀ b, g.get? d = some b → g'.get? d = some b) : Raw g' d es ep := let ⟨b, h1, h2⟩ := x; ⟨b, q b h1, h2⟩
theorem Raw.ty {s : Shared} {d : Addr} {es : Array DictEntry} {ep : Nat} (x : Raw s.heap d es ep) : s.TypeIs (.ref d) "dict" := let ⟨b, h1, h2, _⟩ := x; ⟨b, h1, h2.1⟩
theorem Raw.lt {g : Heap} {d : Addr} {es : Array DictEntry} {ep : Nat} (x : Raw g d es ep) : d < g.objs.size := let ⟨b, h1, _⟩ := x; Heap.lt_size h1
section
variable {prog : Program} {w : World} {A : Around} {E : Value → Shared → Prop} {s : Shared}
theorem raw_iter {d : Addr} {es : Array DictEntry} {ep : Nat} {Q : Value → Shared → Prop} (nd : (d == sysModules) = false) (x : Raw s.heap d es ep)
    (fin : Q (.ref s.heap.objs.size) { s with heap := s.heap.push { cls := .type "dict_keyiterator", data := .fields #[.ref d, .int 0 0, .int es.size 0, .int ep 0] } }) : wpAny (model prog w) A (pyIter (.ref d)) Q E s := by
  obtain ⟨b, hb, xb, db⟩ := id x
  refine wpAny_pyIter_slot x.ty F.slot_dict_iter (wpAny_call_entry F.slot_dict_iter x.ty F.entry_dict_iter ?_ (F.args_dict_iter_1 _))
  unfold Builtin.«dict.__iter__»
  refine wpAny_bind ?_
  unfold Builtin.Dict.dictSlotNone
  refine wpAny_bind (wpAny_notOrdered_dict x.ty ?_)
  refine wpAny_pure (a := Value.ref d) ?_
  show wpAny (model prog w) _ (Builtin.Dict.showsAll d >>= _) _ _ s
  unfold Builtin.Dict.showsAll
  rw [if_neg (by simp [nd])]
  refine wpAny_bind (wpAny_pure (wpAny_bind (wpAny_dictEntries hb db (wpAny_bind (wpAny_dictEpoch hb db ?_)))))
  refine wpAny_bind (wpAny_newObj_type (wpAny_pure ⟨_, rfl, "dict_keyiterator", _, ⟨_, Heap.get?_push_size _ rfl, rfl⟩, F.slot_dict_keyiterator_next.lookup, ?_⟩))
  simpa [rawInt] using fin
theorem raw_pull {it d : Addr} {i n ep : Nat} {es : Array DictEntry} {Q : Option Value → Shared → Prop} (ki : s.heap.IsKeyIter it d i n ep) (x : Raw s.heap d es ep) (en : n = es.size)
    (hi : ∀ e : DictEntry, es[i]? = some e → ∀ g, g.IsKeyIter it d (i + 1) n ep → Heap.SameBut it s.heap g → Q (some e.key) { s with heap := g })
    (hn : A.handled = none) (he : es[i]? = none → ∀ g, Heap.ExtBut it s.heap g → Q none { s with heap := g }) : wpAny (model prog w) A (pyNext (.ref it)) Q E s := by
  subst en
  obtain ⟨oi, gi, ci, di⟩ := id ki
  obtain ⟨b, hb, xb, db⟩ := id x
  unfold pyNext
  refine wpAny_bind (wpAny_attempt (wpAny_callSpecial?_slot (name := Str.ofString "__next__") ki.typeIs F.slot_dict_keyiterator_next
    (wpAny_call_entry F.slot_dict_keyiterator_next ki.typeIs F.entry_dict_keyiterator_next ?_ (F.args_dict_keyiterator_next_1 _))))
  refine wpAny_bind (wpAny_pure (wpAny_bind (wpAny_bind ?_)))
  first | refine wpAny_bind (wpAny_typeNameOfWhole_keyiter ki.typeIs (wpAny_pure ?_)) | refine wpAny_bind (wpAny_typeNameOf_keyiter ki.typeIs (wpAny_pure ?_))
  refine wpAny_bind (wpAny_fieldsOf gi di ?_)
  have own : Builtin.Dict_items.ownsTuple "dict_keyiterator" = false := rfl
  simp only [own, if_false, Bool.false_eq_true]
  show wpAny (model prog w) _ (if (Value.ref d == Value.none) = true then _ else _) _ _ s
  rw [if_neg (by exact Bool.false_ne_true)]
  refine wpAny_bind (wpAny_pure (wpAny_bind (wpAny_dictEntries hb db ?_)))
  rw [if_neg (by simp)]
  refine wpAny_bind (wpAny_pure (wpAny_bind (wpAny_dictEpoch hb db ?_)))
  rw [if_neg (by simp)]
  refine wpAny_pure ?_
  have nn : ¬ ((i : Int) < 0) := by omega
  by_cases lt : i < es.size
  · simp only [nn, if_false, Int.toNat_natCast, Array.getElem?_eq_getElem lt]
    refine wpAny_bind ?_
    first | refine wpAny_bind (wpAny_typeNameOfWhole_keyiter ki.typeIs (wpAny_pure ?_)) | refine wpAny_bind (wpAny_typeNameOf_keyiter ki.typeIs (wpAny_pure ?_))
    refine wpAny_bind (wpAny_isOneOf_keyiter ki.typeIs ?_)
    show wpAny (model prog w) _ (setField (.ref it) 1 (rawInt ((i : Int) + 1)) >>= _) _ _ s
    refine wpAny_bind (wpAny_setField gi di (by simp) ?_)
    have k2 : (s.heap.update it (Obj.mapFields (·.setIfInBounds 1 (rawInt ((i : Int) + 1))))).IsKeyIter it d (i + 1) es.size ep :=
      ⟨_, Heap.get?_update_self _ gi (Obj.isFreed_of_fields (Obj.data_mapFields di _)), (Obj.cls_mapFields ..).trans ci, by rw [Obj.data_mapFields di]; simp [rawInt]⟩
    refine wpAny_bind (wpAny_holding (wpAny_bind (wpAny_isOneOf_keyiter (s := { s with heap := s.heap.update it (Obj.mapFields (·.setIfInBounds 1 (rawInt ((i : Int) + 1)))) }) k2.typeIs ?_)))
    show wpAny (model prog w) _ (pure es[i].key) _ _ _
    exact wpAny_pure (wpAny_pure ⟨_, rfl, wpAny_pure (hi _ (Array.getElem?_eq_getElem lt) _ k2 (Heap.SameBut.update ..))⟩)
  · have ge : es.size ≤ i := Nat.le_of_not_lt lt
    simp only [nn, if_false, Int.toNat_natCast, Array.getElem?_eq_none ge]
    refine wpAny_bind ?_
    first | refine wpAny_bind (wpAny_typeNameOfWhole_keyiter ki.typeIs (wpAny_pure ?_)) | refine wpAny_bind (wpAny_typeNameOf_keyiter ki.typeIs (wpAny_pure ?_))
    show wpAny (model prog w) _ (setField (.ref it) 0 .none >>= _) _ _ s
    refine wpAny_bind (wpAny_setField gi di (by simp) ?_)
    show wpAny (model prog w) _ (newExc (.type "StopIteration") [] >>= _) _ _ _
    refine wpAny_bind ?_
    simp only [newTuple, newExc]
    refine wpAny_bind (wpAny_newObj_type ?_ (by size_fits))
    refine wpAny_bind (m := firstArgMember _ _) (wpAny_of_eq (a := Value.none) (by first | rfl | (simp only [firstArgMember]; rfl)) (wpAny_newObj_type ?_ (by size_fits)))
    simp only [raiseNew]
    refine wpAny_bind (wpAny_handled ?_)
    rw [show A.in1.handled = none from hn]
    refine wpAny_bind (wpAny_pure (wpAny_throw ?_))
    refine wpAny_bind (wpAny_isInstance (b := true) (T := "StopIteration") ⟨_, Heap.get?_push_size _ rfl, rfl⟩ isSubtype_stop ?_)
    exact wpAny_pure (he (Array.getElem?_eq_none ge) _ (((Heap.SameBut.update ..).extBut.push _).push _))
theorem raw_walk (hn : A.handled = none) (I d : Addr) (ne : d ≠ I) (es : Array DictEntry) (ep : Nat) :
    Walks prog w A I [I, d] [I] es.size (fun i v => ∃ e, es[i]? = some e ∧ v = e.key) (fun i g => g.IsKeyIter I d i es.size ep ∧ Raw g d es ep) where
  sub := fun b m => by simp at m; simp [m]
  frame := fun _ _ _ st k => ⟨st.1.at fun o e => k I (by simp) o e, st.2.to fun o e => k d (by simp) o e⟩
  item := fun i s Q E lt st fin => raw_pull st.1 st.2 rfl (fun e ee g k2 sb => fin e.key g s.toks ⟨e, ee, rfl⟩ ⟨k2, st.2.to fun o q => sb.extBut d o ne q⟩ fun b o m q => sb.extBut b o (fun z => m (by simp [z])) q) hn fun e => absurd e (by rw [Array.getElem?_eq_getElem lt]; exact fun z => nomatch z)
  done := fun s Q E st fin => raw_pull st.1 st.2 rfl (fun e ee => absurd ee (by rw [Array.getElem?_eq_none (Nat.le_refl _)]; exact fun z => nomatch z)) hn fun _ g sb => fin g s.toks fun b o m q => sb b o (fun z => m (by simp [z])) q
  self := fun _ _ _ _ st fin => wpAny_pyIter_keyiter st.1 fin
theorem raw_src {d : Addr} {es : Array DictEntry} {ep : Nat} (nd : (d == sysModules) = false) : KdlSrc prog w "dict" d d es.size (fun i v => ∃ e, es[i]? = some e ∧ v = e.key) (fun g => Raw g d es ep) where
  type := fun _ x => x.ty
  there := fun _ x => ⟨x.lt, x.lt⟩
  keep := fun _ _ x k => x.to fun o e => k d (.inl rfl) o e
  notList := by decide
  notTuple := by decide
  hint := fun _ _ _ _ x q => kdl_hint_dict x.ty q
  iter := fun _ _ hn x => ⟨_, _, (fun _ _ q => raw_iter nd x q), raw_walk hn _ d (Nat.ne_of_lt x.lt) es ep, ⟨⟨_, Heap.get?_push_size _ rfl, rfl, rfl⟩, x.to fun o e => Heap.get?_push_of_some _ e⟩⟩
theorem collect_raw {d : Addr} {es : Array DictEntry} {ep : Nat} {R : List Value → Shared → Prop} (nd : (d == sysModules) = false) (hn : A.handled = none) (x : Raw s.heap d es ep) (hz : es.size ≤ sizeLine)
    (h : ∀ g tk, (∀ b o, s.heap.get? b = some o → g.get? b = some o) → R (es.toList.map (·.key)) { s with heap := g, toks := tk }) : wpAny (model prog w) A (collect (.ref d)) R E s := by
  refine kdu_collect (raw_src nd) hn x hz fun g tk acc k it => ?_
  have e : acc.toList = es.toList.map (·.key) := by
    apply List.ext_getElem?
    intro i
    by_cases lt : i < acc.size
    · have le : i < es.size := by rw [← it.1]; exact lt
      obtain ⟨e, e1, e2⟩ := it.2 i acc[i] (Array.getElem?_eq_getElem lt)
      rw [Array.getElem?_toList, Array.getElem?_eq_getElem lt, List.getElem?_map, Array.getElem?_toList, e1, e2]
      rfl
    · have le : ¬ i < es.size := by rw [← it.1]; exact lt
      rw [Array.getElem?_toList, Array.getElem?_eq_none (Nat.le_of_not_lt lt), List.getElem?_map, Array.getElem?_toList, Array.getElem?_eq_none (Nat.le_of_not_lt le)]
      rfl
  rw [e]
  exact h g tk k
end
end L5

namespace L5
open PySem PySem.W PySem.Calls PyProof.Rows
section
variable {prog : Program} {w : World} {A : Around} {E : Value → Shared → Prop} {s : Shared}
theorem sortedR {d q : Addr} {es : Array DictEntry} {ep : Nat} {Q : Value → Shared → Prop} (nd : (d == sysModules) = false) (hn : A.handled = none) (x : Raw s.heap d es ep) (h64 : es.size < 64)
    (h : ∀ (Dd kS : Addr) (g0 g : Heap) (tk e1 : Nat), (∀ b o, s.heap.get? b = some o → g0.get? b = some o) → Dd ≠ kS → g0.objs.size ≤ Dd → g0.objs.size ≤ kS → g.get? Dd = some (seqObj "list" #[] e1) → g.get? kS = some (seqObj "list" #[] 0) → (∀ b o, s.heap.get? b = some o → g.get? b = some o) →
      wpAny (model prog w) A.in1.in1 (ksk_rest Dd (.ref q) false (es.toList.map (·.key)).toArray e1 (.ref kS)) (fun f s' => f = .done (.ret .none) ∧ Q (.ref Dd) s') E { s with heap := g, toks := tk }) :
    wpAny (model prog w) A (call (.builtin "sorted") [.ref d] [(Str.ofString "key", .ref q)]) Q E s := by
  refine call_function_entry_kw kind_sorted plain_sorted entry_sorted (ksk_s1 _ _) ?_
  unfold Builtin.«sorted»
  have hlen : (es.toList.map (·.key)).length = es.size := by simp
  refine wpAny_bind (m := checkCount "sorted" 1 1 _) (wpAny_pure (wpAny_bind (collect_raw nd (show A.in1.handled = none from hn) x (by rw [sizeLine_eq]; omega) fun g tk gk => wpAny_bind (wpAny_newList ?_ (by rw [hlen, sizeLine_eq]; omega)))))
  generalize hvs : es.toList.map (·.key) = vs at *
  have hne2 : g.objs.size ≠ g.objs.size + 2 := by omega
  have g1 : (g.push (seqObj "list" vs.toArray 0)).get? g.objs.size = some (seqObj "list" vs.toArray 0) := Heap.get?_push_size _ rfl
  refine wpAny_bind (wpAny_holding (wpAny_call_entry_kw slot_list_sort ⟨_, g1, rfl⟩ entry_list_sort ?body (ksk_l1 _ _)))
  case body =>
    show wpAny (model prog w) A.in1.in1 (Builtin.«list.sort» ⟨[.ref g.objs.size], [(Str.ofString "key", .ref q)]⟩) _ _ _
    rw [ksk_t1]
    unfold ksk_tree
    generalize hH : g.push (seqObj "list" vs.toArray 0) = H at *
    have eH : H.objs.size = g.objs.size + 1 := by rw [← hH, size_push']
    obtain ⟨c1, o1⟩ : ∃ c1, (H.update g.objs.size (Obj.mapSeq fun _ => (#[] : Array Value))).get? g.objs.size = some (seqObj "list" #[] c1) := ⟨_, get?_update_seq g1 fun _ => #[]⟩
    refine wpAny_bind (listItems_at g1 rfl (wpAny_bind (listUpdate_at g1 rfl (wpAny_bind (seqEpoch_at o1 rfl (wpAny_bind (wpAny_newTuple (wpAny_bind (wpAny_newList (wpAny_holding ?_) (Nat.zero_le _))) (by show vs.length ≤ _; rw [sizeLine_eq]; omega))))) (by rw [List.size_toArray, sizeLine_eq]; omega) (Nat.zero_le _))))
    have e2 : (H.update g.objs.size (Obj.mapSeq fun _ => (#[] : Array Value))).objs.size = g.objs.size + 1 := by rw [Heap.size_update, eH]
    have e3 : ((H.update g.objs.size (Obj.mapSeq fun _ => (#[] : Array Value))).push (seqObj "tuple" vs.toArray 0)).objs.size = g.objs.size + 2 := by rw [size_push', e2]
    have g3 : (((H.update g.objs.size (Obj.mapSeq fun _ => (#[] : Array Value))).push (seqObj "tuple" vs.toArray 0)).push (seqObj "list" #[] 0)).get? (g.objs.size + 2) = some (seqObj "list" #[] 0) := by rw [← e3]; exact Heap.get?_push_size _ rfl
    show wpAny (model prog w) A.in1.in1 (ksk_rest g.objs.size (.ref q) false vs.toArray c1 (.ref ((H.update g.objs.size (Obj.mapSeq fun _ => (#[] : Array Value))).push (seqObj "tuple" vs.toArray 0)).objs.size)) _ _ { s with heap := ((H.update g.objs.size (Obj.mapSeq fun _ => (#[] : Array Value))).push (seqObj "tuple" vs.toArray 0)).push (seqObj "list" #[] 0), toks := tk }
    rw [e3]
    refine wpAny_mono (h g.objs.size (g.objs.size + 2) g _ tk c1 gk hne2 (Nat.le_refl _) (Nat.le_add_right _ _) (Heap.get?_push_of_some _ (Heap.get?_push_of_some _ o1)) g3 fun b o y => Heap.get?_push_of_some _ (Heap.get?_push_of_some _ (by
      have hb : b < g.objs.size := Heap.lt_size (gk b o y)
      rw [Heap.get?_update_ne _ _ _ _ (Nat.ne_of_lt hb), ← hH]; exact Heap.get?_push_of_some _ (gk b o y)))) (fun f s' hf => ?_) fun _ _ z => z
    obtain ⟨rfl, hq⟩ := hf
    exact ⟨_, rfl, wpAny_pure ⟨_, rfl, hq⟩⟩
end
end L5
namespace L2
open PySem PySem.Spec PyProof.Rows L5 PySem.W
section
variable {X : Cx} {pins : List (Addr × Obj)} {σ : St} {H : Hp} {s : Shared}
variable {k : Nat} {q : Addr} {fd : FuncData} {ps : List Str} {sp : Sp}
def Goes (X : Cx) (q l : Addr) (its : List Value) (s : Shared) : Prop := ∀ (Q : Value → Shared → Prop),
  (∀ (Dd kS : Addr) (g0 g : Heap) (tk e1 : Nat), (∀ b o, s.heap.get? b = some o → g0.get? b = some o) → Dd ≠ kS → g0.objs.size ≤ Dd → g0.objs.size ≤ kS → g.get? Dd = some (seqObj "list" #[] e1) → g.get? kS = some (seqObj "list" #[] 0) → (∀ b o, s.heap.get? b = some o → g.get? b = some o) →
    wpAny (model X.prog X.w) X.A.in1.in1 (ksk_rest Dd (.ref q) false its.toArray e1 (.ref kS)) (fun f s' => f = .done (.ret .none) ∧ Q (.ref Dd) s') X.xe { s with heap := g, toks := tk }) →
  wpAny (model X.prog X.w) X.A (call (.builtin "sorted") [.ref l] [(Str.ofString "key", .ref q)]) Q X.xe s
theorem call_sortG (F : FnOk X.prog X.w X.K X.mg X.base CX0 k q fd ps sp) (hb : Binds X.K fd ps []) (hr : Room (k + 2) X.A) {l : Addr} {ys : List V} {Q : VK} {b : Bool} (I : Inv X pins σ H s) {its : List Value} (rv : Vals ys its) (go : Goes X q l its s) (h64 : ys.length < 64) (R : List V → Hp → Prop) (key : Nat → Ky) (h0 : R [] H)
    (hc : ∀ kvs H v, R kvs H → ys[kvs.length]? = some v → sp [v] H (fun k H' => R (kvs ++ [k]) H') E0)
    (hk : ∀ kvs H, R kvs H → kvs.length = ys.length → (∀ i k, kvs[i]? = some k → KeyIs X.K b H k (key i)) ∧ ∀ p out, H p = none → Out (fun i j => klt (key i) (key j)) ys V.non out → Q (.ref p) (upd H p (.lst out))) :
    wpAny (model X.prog X.w) X.A (call (.builtin "sorted") [.ref l] [(Str.ofString "key", .ref q)]) (EP X pins σ Q) X.xe s := by
  have hlen := rv.length
  have hu := hr.units
  have room : Room k X.A.in1.in1 := (hr.in1 (k := k + 1)).in1
  refine go _ fun Dd kS g0 g tk e1 gk0 hne lD lK gD gK gk => ?_
  have I0 : Inv X pins σ H { s with heap := g0, toks := tk } := I.kept (t' := tk) gk0
  have f1 := I0.fpOk (H' := fun _ => none) (b := Dd) lD rfl
  have f3 := I0.fpOk (H' := fun _ => none) (b := kS) lK rfl
  -- the keys' list under way
  refine ks_rest (J := fun ks e s' => ∃ kvs H', Inv X ((kS, seqObj "list" (List.toArray ks) e) :: (Dd, seqObj "list" #[] e1) :: pins) σ H' s' ∧ Vals kvs ks ∧ R kvs H' ∧ ks.length ≤ its.length) (by omega) ?_ ?_ ?_ ?_
  · rintro ks e s' ⟨kvs, H', I', rk, hR, hl'⟩
    exact ⟨(I'.pin _ (List.mem_append_right _ (.head _))).1, hl'⟩
  · rintro x ks e s' ⟨kvs, H', I', rk, hR, hl'⟩ hx
    have lk := rk.length
    obtain ⟨y, hy, ry⟩ : ∃ y, ys[kvs.length]? = some y ∧ RelV y x := by
      have hi : kvs.length < ys.length := by
        have := (List.getElem?_eq_some_iff.mp hx).1
        omega
      obtain ⟨u, hu', ru⟩ := rv.get (List.getElem?_eq_getElem hi)
      rw [lk, hx] at hu'
      cases hu'
      exact ⟨_, List.getElem?_eq_getElem hi, ru⟩
    have call := hc kvs H' y hR hy
    have r1 : Vals [y] [x] := .cons ry .nil
    have hps : ([x] ++ ([] : List Value)).length = ps.length := by
      have := F.len _ _ _ _ call
      simpa using this
    have en : Env0 X.prog X.w X.K X.mg X.base X.A.in1.in1 X.stack s' H' := I'.env0.in1.in1
    have bt := hb s' [x] I'.kIn hps
    rw [List.append_nil] at bt
    refine wpAny_call (codeAny_mono (F.run X.A.in1.in1 X.stack s' H' ⟨[x], []⟩ [x] [y] _ E0 room en bt r1 call) fun r s2 hq => ?_)
    cases r with
    | error e => exact hq
    | ok fl =>
      cases fl with
      | ret u =>
        obtain ⟨kv, H2, I2, ru, hR2⟩ := I'.after hq
        have pk := I2.pin _ (List.mem_append_right _ (List.mem_cons_self ..))
        refine ⟨pk.1, fun h' c hh' sb => ⟨kvs ++ [kv], H2, ?_, rk.append (.cons ru .nil), hR2, ?_⟩⟩
        · have I3 : Inv X ((Dd, seqObj "list" #[] e1) :: pins) σ H2 s2 := I2.pins_of fun p hp => I2.pin p (List.mem_append_right _ (.tail _ hp))
          have pd := I2.pin _ (List.mem_append_right _ (List.Mem.tail _ (List.mem_cons_self ..)))
          have fk : FpOk X ((Dd, seqObj "list" #[] e1) :: pins) H2 (kS) := ⟨pk.2.1, f3.2.1, f3.2.2.1, f3.2.2.2.1, f3.2.2.2.2.1, fun p hp => by
            rcases List.mem_append.mp hp with z | z
            · exact f3.2.2.2.2.2 p (List.mem_append_left _ z)
            · rcases List.mem_cons.mp z with rfl | z
              · exact hne
              · exact f3.2.2.2.2.2 p (List.mem_append_right _ z)⟩
          have I4 : Inv X ((Dd, seqObj "list" #[] e1) :: pins) σ H2 { s2 with heap := h' } := turnL (t' := s2.toks) (ch := [kS]) I3 (fun b o hb e => (sb.2 b (fun z => hb (by simp [z]))).trans e) fun b hb' => by
            have : b = kS := by simpa using hb'
            subst this
            exact fk
          refine I4.pins_of fun p hp => ?_
          rcases List.mem_cons.mp hp with rfl | z
          · exact ⟨hh', pk.2.1, f3.2.1, f3.2.2.1, fun v z => by cases z⟩
          · exact I4.pin p (List.mem_append_right _ z)
        · have := (List.getElem?_eq_some_iff.mp hx).1
          rw [List.length_append, List.length_singleton]
          omega
      | next => exact hq.elim
      | brk => exact hq.elim
      | cont => exact hq.elim
  · have I5 : Inv X pins σ H { s with heap := g, toks := tk } := I.kept (t' := tk) gk
    have hn : ∀ b, g0.objs.size ≤ b → H b = none := fun b hb => I0.hok.fresh hb
    refine ⟨[], H, I5.pins_of fun p hp => ?_, .nil, h0, Nat.zero_le _⟩
    rcases List.mem_cons.mp hp with rfl | z
    · exact ⟨gK, hn _ lK, f3.2.1, f3.2.2.1, fun v z => by cases z⟩
    · rcases List.mem_cons.mp z with rfl | z
      · exact ⟨gD, hn _ lD, f1.2.1, f1.2.2.1, fun v z => by cases z⟩
      · exact I5.pin p (List.mem_append_right _ z)
  · rintro ks e s' ⟨kvs, H', I', rk, hR, _⟩ hl'
    have lk := rk.length
    obtain ⟨hkey, hQ⟩ := hk kvs H' hR (by omega)
    have pk := I'.pin _ (List.mem_append_right _ (List.mem_cons_self ..))
    have pd := I'.pin _ (List.mem_append_right _ (List.Mem.tail _ (List.mem_cons_self ..)))
    have hu1 : X.A.in1.in1.units + 1 < cLine := by have := room.units; omega
    refine ks_end (κ := tuples' true) (klt_ord key) hl' (by omega) pk.1 pd.1 hne (fun h2 C hC => ?_) (fun h2 i j C hi hj hC => ?_) fun out h' c ho hD hkeep => ⟨rfl, ?_⟩
    · obtain ⟨fs, t1, t2, t3⟩ := key_tups I' rk hkey
      refine kat_kind (T := .type "int") t1 (by omega) (fun v hv => ?_) rfl hC
      obtain ⟨i, t, rfl⟩ := t3 v hv
      exact (show Looks _ s'.heap (pure (Value.type "int")) _ from .now)
    · have gi : ∀ i, i < its.length → ∃ k u, kvs[i]? = some k ∧ ks.getD i Value.none = u ∧ RelV k u := fun i hi => by
        have hi' : i < kvs.length := by omega
        obtain ⟨u, e, r⟩ := rk.get (List.getElem?_eq_getElem hi')
        exact ⟨_, u, List.getElem?_eq_getElem hi', by rw [List.getD_eq_getElem?_getD, e]; rfl, r⟩
      obtain ⟨k1, u1, a1, a2, a3⟩ := gi i hi
      obtain ⟨k2, u2, b1, b2, b3⟩ := gi j hj
      rw [a2, b2]
      exact key_lt I' hu1 (hkey i k1 a1) (hkey j k2 b1) a3 b3 hC
    · obtain ⟨p, p1, p2, p3⟩ := ho
      subst p3
      have I6 : Inv X pins σ H' s' := I'.pins_of fun p hp => I'.pin p (List.mem_append_right _ (.tail _ (.tail _ hp)))
      have I7 : Inv X pins σ H' { s' with heap := h' } := turnL (t' := s'.toks) (ch := [Dd, kS]) I6 (fun b o hb e => hkeep b o (fun z => hb (by simp [z])) (fun z => hb (by simp [z])) e) fun b hb' => by
        simp at hb'
        rcases hb' with rfl | rfl
        · exact ⟨pd.2.1, f1.2⟩
        · exact ⟨pk.2.1, f3.2⟩
      have rv' : Vals (p.toList.map fun i => ys.getD i V.non) (p.toList.map fun i => its.getD i Value.none) := vals_out rv _
      have hz' : (p.toList.map fun i => ys.getD i V.non).length ≤ sizeLine := by
        rw [List.length_map, Array.length_toList, p1.size, sizeLine_eq]
        omega
      refine ⟨.ref (Dd), _, Inv.track (D := Dd) (o := .lst (p.toList.map fun i => ys.getD i V.non)) I7 pd.2.1 (show _ ∧ ∃ (its : List Value) (n : Nat), Vals _ its ∧ _ from ⟨hz', _, c, rv', hD⟩) f1.2.1 (Nat.le_trans I0.sz lD) f1.2.2.2.2.1 f1.2.2.2.2.2, rfl, hQ _ _ pd.2.1 ⟨p, by rw [hlen]; exact p1, by rw [hlen]; exact p2, rfl⟩⟩
end
end L2

namespace L5
open PySem
section
variable {α β γ : Type} [DecidableEq α] [DecidableEq γ]
def keep1 (acc : List (α × β)) (p : α × β) : List (α × β) := if p.1 ∈ acc.map (·.1) then acc else acc ++ [p]
def firsts (ps : List (α × β)) : List (α × β) := ps.foldl keep1 []
def keep0 (acc : List γ) (r : γ) : List γ := if r ∈ acc then acc else acc ++ [r]
def once (rs : List γ) : List γ := rs.foldl keep0 []
theorem mem_keep1 {acc : List (α × β)} {p q : α × β} (h : q ∈ keep1 acc p) : q ∈ acc ∨ q = p := by
  unfold keep1 at h
  split at h
  · exact .inl h
  · simpa using h
theorem mem_fold : ∀ (ps acc : List (α × β)) (q : α × β), q ∈ ps.foldl keep1 acc → q ∈ acc ∨ q ∈ ps
  | [], _, _, h => .inl h
  | p :: ps, acc, q, h => by
    rcases mem_fold ps _ q h with h | h
    · rcases mem_keep1 h with h | h
      · exact .inl h
      · exact .inr (by simp [h])
    · exact .inr (by simp [h])
theorem mem_firsts {ps : List (α × β)} {q : α × β} (h : q ∈ firsts ps) : q ∈ ps := by
  rcases mem_fold ps [] q h with h | h
  · cases h
  · exact h
theorem fold_keys (F : γ → α) (inj : ∀ a b, F a = F b → a = b) : ∀ (ps acc : List (α × β)) (rs ac : List γ), acc.map (·.1) = ac.map F → ps.map (·.1) = rs.map F → (ps.foldl keep1 acc).map (·.1) = (rs.foldl keep0 ac).map F
  | [], _, [], _, h, _ => h
  | [], _, _ :: _, _, _, e => by simp at e
  | _ :: _, _, [], _, _, e => by simp at e
  | p :: ps, acc, r :: rs, ac, h, e => by
    simp only [List.map_cons, List.cons.injEq] at e
    refine fold_keys F inj ps _ rs _ ?_ e.2
    have iff : p.1 ∈ acc.map (·.1) ↔ r ∈ ac := by
      rw [h, e.1, List.mem_map]
      constructor
      · rintro ⟨a, ha, hb⟩
        rw [← inj _ _ hb]
        exact ha
      · exact fun ha => ⟨r, ha, rfl⟩
    unfold keep1 keep0
    by_cases m : r ∈ ac
    · rw [if_pos m, if_pos (iff.mpr m)]
      exact h
    · rw [if_neg m, if_neg (fun z => m (iff.mp z))]
      simp [h, e.1]
theorem firsts_keys (F : γ → α) (inj : ∀ a b, F a = F b → a = b) {ps : List (α × β)} {rs : List γ} (e : ps.map (·.1) = rs.map F) : (firsts ps).map (·.1) = (once rs).map F := fold_keys F inj ps [] rs [] rfl e
theorem mem_fold0 : ∀ (rs acc : List γ) (q : γ), q ∈ rs.foldl keep0 acc → q ∈ acc ∨ q ∈ rs
  | [], _, _, h => .inl h
  | p :: ps, acc, q, h => by
    rcases mem_fold0 ps _ q h with h | h
    · unfold keep0 at h
      split at h
      · exact .inl h
      · rcases List.mem_append.mp h with h | h
        · exact .inl h
        · exact .inr (by simp at h; simp [h])
    · exact .inr (by simp [h])
theorem mem_once {rs : List γ} {q : γ} (h : q ∈ once rs) : q ∈ rs := by
  rcases mem_fold0 rs [] q h with h | h
  · cases h
  · exact h
theorem len_fold0 : ∀ (rs acc : List γ), (rs.foldl keep0 acc).length ≤ acc.length + rs.length
  | [], _ => by simp
  | p :: ps, acc => by
    have h := len_fold0 ps (keep0 acc p)
    have h2 : (keep0 acc p).length ≤ acc.length + 1 := by
      unfold keep0
      split <;> simp
    simp only [List.foldl_cons, List.length_cons]
    omega
theorem len_once (rs : List γ) : (once rs).length ≤ rs.length := by
  have := len_fold0 rs []
  simpa [once] using this
end
def ka (x : Ent) : List L2.Key × Addr := (x.1, x.2.1)
theorem ka_put (k : List L2.Key) (v : Value) (x : Ent) : ka (putAt k v x) = ka x := by
  unfold putAt ka
  split <;> rfl
theorem at_mem (xs : List Ent) (k : List L2.Key) : (atKey xs k).isSome = true ↔ k ∈ (xs.map ka).map (·.1) := by
  unfold atKey
  rw [Option.isSome_map, List.find?_isSome]
  constructor
  · rintro ⟨x, hx, e⟩
    refine List.mem_map.mpr ⟨ka x, List.mem_map.mpr ⟨x, hx, rfl⟩, of_decide_eq_true e⟩
  · intro h
    obtain ⟨p, hp, e⟩ := List.mem_map.mp h
    obtain ⟨x, hx, rfl⟩ := List.mem_map.mp hp
    exact ⟨x, hx, decide_eq_true e⟩
theorem ka_stored (xs : List Ent) (p : Ent) : (storedH xs p.1 p.2.1 p.2.2).map ka = keep1 (xs.map ka) (ka p) := by
  unfold storedH keep1
  by_cases h : (atKey xs p.1).isSome = true
  · rw [if_pos h, if_pos (show (ka p).1 ∈ _ from (at_mem xs p.1).mp h), List.map_map]
    exact List.map_congr_left fun x _ => ka_put _ _ x
  · rw [if_neg h, if_neg (show ¬ (ka p).1 ∈ (xs.map ka).map (·.1) from fun z => h ((at_mem xs p.1).mpr z)), List.map_append]
    rfl
theorem ka_all : ∀ (ps xs : List Ent), (putAll xs ps).map ka = (ps.map ka).foldl keep1 (xs.map ka)
  | [], _ => rfl
  | p :: ps, xs => by
    show (putAll (storedH xs p.1 p.2.1 p.2.2) ps).map ka = _
    rw [ka_all ps, ka_stored]
    rfl
theorem len_all : ∀ (ps xs : List Ent), (putAll xs ps).length ≤ xs.length + ps.length
  | [], _ => by simp [putAll]
  | p :: ps, xs => by
    have h := len_all ps (storedH xs p.1 p.2.1 p.2.2)
    have h2 := storedH_len xs p
    have e : putAll xs (p :: ps) = putAll (storedH xs p.1 p.2.1 p.2.2) ps := rfl
    rw [e, List.length_cons]
    omega
end L5
namespace L2
open PySem PySem.Spec PyProof.Rows L5 PySem.W
def PairsV (K : PySem.W.Frag) (H : Hp) : List V → List (List Key × Addr) → Prop
  | [], [] => True
  | y :: ys, p :: ps => (∃ (t : Addr) (v : V) (r : List Int), y = .ref t ∧ SqT K H t [.ref p.2, v] ∧ p.1 = r.map Sum.inl ∧ SqT K H p.2 (r.map V.int)) ∧ PairsV K H ys ps
  | _, _ => False
theorem PairsV.row {K : PySem.W.Frag} {H : Hp} : ∀ {ys : List V} {ps : List (List Key × Addr)}, PairsV K H ys ps → ∀ p ∈ ps, ∃ r : List Int, p.1 = r.map Sum.inl ∧ SqT K H p.2 (r.map V.int)
  | [], [], _, _, m => by cases m
  | [], _ :: _, h, _, _ => h.elim
  | _ :: _, [], h, _, _ => h.elim
  | y :: ys, q :: ps, ⟨⟨t, v, r, _, _, h1, h2⟩, h⟩, p, m => by
    rcases List.mem_cons.mp m with rfl | m
    · exact ⟨r, h1, h2⟩
    · exact PairsV.row h p m
section
variable {X : Cx} {pins : List (Addr × Obj)} {σ : St} {H : Hp} {s : Shared}
theorem items_are {prog : Program} {w : World} : ∀ {its : List Value} {r : List Int}, Vals (r.map V.int) its → ItemsAre (mixKind prog w) (r.map Sum.inl) its
  | its, [], h => by cases h; exact .nil
  | its, i :: r, h => by
    cases h with
    | cons h1 h2 =>
      obtain ⟨t, rfl⟩ := h1
      exact .cons (mixKind_int prog w i t) (items_are h2)
theorem pairs_heap (I : Inv X pins σ H s) : ∀ {ys : List V} {kp : List (List Key × Addr)} {its : List Value}, PairsV X.K H ys kp → Vals ys its → ∃ ps : List Ent, ps.map ka = kp ∧ its.length = ps.length ∧ ∀ (j : Nat) (u : Value) (p : Ent), its[j]? = some u → ps[j]? = some p → PairAt X.prog X.w s.heap u p
  | [], [], _, _, .nil => ⟨[], rfl, rfl, fun j u p h => by simp at h⟩
  | [], _ :: _, _, h, _ => h.elim
  | _ :: _, [], _, h, _ => h.elim
  | y :: ys, q :: kp, _, h0, .cons (b := u0) e0 er => by
    obtain ⟨⟨t, v, r, rfl, h1, h2, h3⟩, h⟩ := h0
    obtain ⟨ps, p1, p2, p3⟩ := pairs_heap I h er
    cases (show u0 = Value.ref t from e0)
    obtain ⟨i2, r2, ⟨o, ho, hc, n, hd⟩, _⟩ := I.tuple h1
    obtain ⟨u1, u2, rfl, q1, q2⟩ := vals2 r2
    cases (show u1 = Value.ref q.2 from q1)
    obtain ⟨i3, r3, ⟨o3, ho3, hc3, n3, hd3⟩, _⟩ := I.tuple h3
    refine ⟨(q.1, q.2, u2) :: ps, by simp [ka, p1], by simp [p2], fun j u p e1 e2 => ?_⟩
    cases j with
    | zero =>
      simp at e1 e2
      subst e1 e2
      refine ⟨⟨t, rfl, o, ho, hc, n, hd⟩, o3, i3.toArray, n3, ho3, hc3, hd3, ?_⟩
      rw [h2]
      exact items_are r3
    | succ j => exact p3 j u p (by simpa using e1) (by simpa using e2)
end
section
variable {X : Cx} {e : Expr} {te : TE} {p p2 pos pos2 fp kp : Pos} {f : Str} {k : Nat} {ps : List Str} {sp : Sp}
def rSortDK (K : PySem.W.Frag) (sp : Sp) (x : V) (H : Hp) (Q : VK) : Prop := ∃ (l : Addr) (ys zs : List V) (kp : List (List Key × Addr)) (b : Bool) (R : List V → Hp → Prop) (key : Nat → Ky), x = .ref l ∧ SqL K H l ys ∧ ys.length < 64 ∧ PairsV K H ys kp ∧ zs = (firsts kp).map (fun p => V.ref p.2) ∧ R [] H ∧
  (∀ kvs H v, R kvs H → zs[kvs.length]? = some v → sp [v] H (fun k H' => R (kvs ++ [k]) H') E0) ∧
  ∀ kvs H, R kvs H → kvs.length = zs.length → (∀ i k, kvs[i]? = some k → KeyIs K b H k (key i)) ∧ ∀ p out, H p = none → Out (fun i j => klt (key i) (key j)) zs V.non out → Q (.ref p) (upd H p (.lst out))
theorem vals_refs : ∀ as : List Addr, Vals (as.map V.ref) (as.map Value.ref)
  | [] => .nil
  | a :: as => .cons rfl (vals_refs as)
theorem pe_sortedDK (d : DefOk X.prog X.w X.K X.mg X.base k f ps sp) (hr : Room (k + 2) X.A) (hg : Gl X "sorted") (hm : X.mg "sorted" = none) (hgd : Gl X "dict") (hmd : X.mg "dict" = none) (hgf : Gl X f) (he : PE X e te) (hdf : (f == ("__debug__" : Str)) = false := by decide)
    (hs : starEach [.Call (.Name "dict" p2) [e] [] pos2] X.env = [(false, eval (.Call (.Name "dict" p2) [e] [] pos2) X.env)] := by rfl) (hs1 : backTo pos (starEach [.Call (.Name "dict" p2) [e] [] pos2] X.env) = (false, eval (.Call (.Name "dict" p2) [e] [] pos2) X.env) :: backTo pos (starEach [] X.env) := by rfl) (hs2 : (backTo pos (starEach [.Call (.Name "dict" p2) [e] [] pos2] X.env)).any (·.1) = false := by rfl)
    (ht : starEach [e] X.env = [(false, eval e X.env)] := by rfl) (ht1 : starEach [e] X.env = (false, eval e X.env) :: starEach [] X.env := by rfl) (ht2 : (backTo pos2 (starEach [] X.env)).any (·.1) = false := by rfl) :
    PE X (.Call (.Name "sorted" p) [.Call (.Name "dict" p2) [e] [] pos2] [⟨some "key", .Name f fp, kp⟩] pos) (fun σ H Q => te σ H fun x H1 => rSortDK X.K sp x H1 Q) := by
  intro pins s σ H Q I h
  obtain ⟨q, fd, G, hmf, kq, bd⟩ := d.ex
  refine wpAny_Call_Name_kw (ld_blt I hg hm PyProof.Rows.boot_sorted ?_ (by decide) (by decide))
  refine PyProof.Rows.callWith_kw ?_ hs1 hs2
  rw [hs]
  show wpAny _ _ (spliced ((false, eval (.Call (.Name "dict" p2) [e] [] pos2) X.env) :: [])) _ _ s
  refine Calls.spliced_cons (wpAny_Call_Name_kw (ld_blt I hgd hmd PyProof.Rows.boot_dict ?_ (by decide) (by decide)))
  refine PyProof.Rows.callWith_type1 (thn ((pa_cons he pa_nil (by rw [ht]; rfl)) pos2 pins s σ H (fun vs H1 => match vs with | [x] => rSortDK X.K sp x H1 Q | _ => False) I h) fun us s1 ⟨vs, H1, I1, r1, q1⟩ => ?_) ht1 ht2
  cases vs with
  | nil => exact q1.elim
  | cons x vs =>
    cases vs with
    | cons _ _ => exact q1.elim
    | nil =>
    have q1 : rSortDK X.K sp x H1 Q := q1
    obtain ⟨u, rfl, ru⟩ := vals1 r1
    obtain ⟨l, ys, zs, kps, b, R, key, rfl, hl, h64, hp, rfl, h0, hc, hk⟩ := q1
    cases (show u = Value.ref l from ru)
    obtain ⟨its, rv, pl, hz⟩ := I1.list hl
    have hlen := rv.length
    obtain ⟨es, e1, e2, e3⟩ := pairs_heap I1 hp rv
    have hu := hr.un
    have ol : ∃ o, s1.heap.get? l = some o ∧ o.dict = none := by
      obtain ⟨o, n, a1, a2, a3, a4⟩ := pl
      exact ⟨o, a1, a3⟩
    have two : (s1.heap.objs.size == sysModules) = false := by
      obtain ⟨o, n, a1, a2, a3, a4⟩ := pl
      obtain ⟨m, ⟨o', b1, b2, b3, b4, _⟩, _⟩ := I1.loc
      have ne : l ≠ X.env.locals := fun z => by
        rw [z, b3] at a1
        cases a1
        rw [a4] at b4
        cases b4
      have l1 : l < s1.heap.objs.size := Heap.lt_size a1
      have l2 : X.env.locals < s1.heap.objs.size := Heap.lt_size b3
      refine beq_eq_false_iff_ne.mpr fun z => ?_
      have z : s1.heap.objs.size = 1 := z
      have : ∀ a b : Nat, a ≠ b → a < 1 → b < 1 → False := fun a b _ _ _ => by omega
      exact this l X.env.locals ne (z ▸ l1) (z ▸ l2)
    refine mk_dict (by omega) hr.hd pl.isList ol e2 (by omega) e3 fun g tk gk gd gz => ?_
    have I2 : Inv X pins σ H1 { s1 with heap := g, toks := tk } := I1.kept (t' := tk) gk
    refine Calls.spliced_nil ?_
    show wpAny _ _ (evalAll ((do let v ← eval (.Name f fp) X.env; standAt pos; pure v) :: [])) _ _ _
    refine wpAny_evalAll_cons (wpAny_bind (ld_glob I2 hgf hmf (wpAny_bind (wpAny_standAt (wpAny_pure (wpAny_evalAll_nil ?_)))) hdf))
    obtain ⟨o, des, ep, o1, o2, o3, o4, o5, o6⟩ := gd
    have ek : (putAll [] es).map ka = firsts kps := by
      rw [ka_all, e1]
      rfl
    have ev : des.toList.map (·.key) = ((firsts kps).map (·.2)).map Value.ref := by
      rw [o4, ← ek, List.map_map, List.map_map, List.map_map]
      rfl
    have hsz : des.size < 64 := by
      have a := len_all es []
      have b : des.toList.length = (putAll [] es).length := by rw [o4, List.length_map]
      rw [Array.length_toList] at b
      simp at a
      omega
    have ez : (firsts kps).map (fun p => V.ref p.2) = ((firsts kps).map (·.2)).map V.ref := by
      rw [List.map_map]
      rfl
    have lz : ((firsts kps).map (fun p => V.ref p.2)).length < 64 := by
      have b : (firsts kps).length = des.size := by
        have := congrArg List.length ev
        simpa using this.symm
      rw [List.length_map, b]
      exact hsz
    have go : Goes X q s1.heap.objs.size (((firsts kps).map (·.2)).map Value.ref) { s1 with heap := g, toks := tk } := by
      intro Q' hQ
      refine sortedR (s := { s1 with heap := g, toks := tk }) two hr.hd (⟨o, o1, o2, o3⟩ : Raw g _ des ep) hsz fun Dd kS g0 g' tk' e1' a1 a2 a3 a4 a5 a6 a7 => ?_
      rw [ev]
      exact hQ Dd kS g0 g' tk' e1' a1 a2 a3 a4 a5 a6 a7
    exact call_sortG G bd hr I2 (by rw [ez]; exact vals_refs _) go lz R key h0 hc hk
end
end L2

namespace L3
open PySem PySem.Spec L2 L5
def rowD (r : List Int) : D := .tup (r.map D.int)
def pairD (r : List Int) : D := .tup [rowD r, .bl true]
theorem inl_inj : ∀ a b : List Int, (a.map Sum.inl : List Key) = b.map Sum.inl → a = b
  | [], [], _ => rfl
  | [], _ :: _, h => by cases h
  | _ :: _, [], h => by cases h
  | x :: a, y :: b, h => by
    simp only [List.map_cons, List.cons.injEq, Sum.inl.injEq] at h
    rw [h.1, inl_inj a b h.2]
section
variable {K : PySem.W.Frag} {H : Hp}
theorem pairs_of : ∀ {rows : List (List Int)} {ys : List V}, Dats K H (rows.map pairD) ys → ∃ kp, PairsV K H ys kp ∧ kp.map (·.1) = rows.map fun r => (r.map Sum.inl : List Key)
  | [], ys, h => by
    cases (dats_nil.mp h)
    exact ⟨[], trivial, rfl⟩
  | r :: rows, ys, h => by
    obtain ⟨y, ys, rfl, h1, h2⟩ := dats_cons.mp h
    obtain ⟨kp, a1, a2⟩ := pairs_of h2
    obtain ⟨t, xs, rfl, hq, hd⟩ := dat_tup.mp h1
    obtain ⟨x1, r1, rfl, b1, hd⟩ := dats_cons.mp hd
    obtain ⟨x2, r2, rfl, b2, hd⟩ := dats_cons.mp hd
    cases (dats_nil.mp hd)
    obtain ⟨m, zs, rfl, hq2, hd2⟩ := dat_tup.mp b1
    rw [dats_intsV hd2] at hq2
    exact ⟨((r.map Sum.inl : List Key), m) :: kp, ⟨⟨t, x2, r, rfl, hq, rfl, hq2⟩, a1⟩, by simp [a2]⟩
theorem dats_firsts : ∀ {fs : List (List Key × Addr)} {rs : List (List Int)}, (∀ p ∈ fs, ∃ r : List Int, p.1 = r.map Sum.inl ∧ SqT K H p.2 (r.map V.int)) → fs.map (·.1) = rs.map (fun r => (r.map Sum.inl : List Key)) → Dats K H (rs.map rowD) (fs.map fun p => V.ref p.2)
  | [], [], _, _ => by simp [dats_nil]
  | [], _ :: _, _, h => by cases h
  | _ :: _, [], _, h => by cases h
  | p :: fs, r :: rs, h, e => by
    simp only [List.map_cons, List.cons.injEq] at e
    obtain ⟨r', e1, e2⟩ := h p (by simp)
    have er : r' = r := inl_inj _ _ (e1.symm.trans e.1)
    subst er
    rw [List.map_cons, List.map_cons, dats_cons]
    refine ⟨_, _, rfl, dat_tup.mpr ⟨p.2, _, rfl, e2, dats_ints r'⟩, dats_firsts (fun q m => h q (by simp [m])) e.2⟩
end
def dSortDK (sp : Sp2) (d : D) (M : Mem) (Q : VK2) : Prop := ∃ (l : Addr) (rows : List (List Int)) (b : Bool) (R : List D → Mem → Prop) (key : Nat → Ky), d = .ref l ∧ M l = some (.lst (rows.map pairD)) ∧ rows.length < 64 ∧ R [] M ∧
  (∀ kds M e, R kds M → ((once rows).map rowD)[kds.length]? = some e → sp [e] M (fun k M' => R (kds ++ [k]) M')) ∧
  ∀ kds M, R kds M → kds.length = (once rows).length → (∀ i k, kds[i]? = some k → KeyD b M k (key i)) ∧ ∀ p out, M p = none → Out (fun i j => klt (key i) (key j)) ((once rows).map rowD) D.non out → Q (.ref p) (updM M p (.lst out))
def sSortDK (sp : Sp2) (te : TE2) : TE2 := fun δ M Q => te δ M fun d M1 => dSortDK sp d M1 Q
section
variable {X : Cx} {e : Expr} {te : TE2} {p p2 pos pos2 fp kp : Pos} {f : Str} {k : Nat} {ps : List Str} {sp : Sp2}
theorem q_sortedDK (d : Def2 X.prog X.w X.K X.mg X.base k f ps sp) (hr : Room (k + 2) X.A) (hg : Gl X "sorted") (hm : X.mg "sorted" = none) (hgd : Gl X "dict") (hmd : X.mg "dict" = none) (hgf : Gl X f) (he : QE X e te) (hdf : (f == ("__debug__" : Str)) = false := by decide)
    (hs : starEach [.Call (.Name "dict" p2) [e] [] pos2] X.env = [(false, eval (.Call (.Name "dict" p2) [e] [] pos2) X.env)] := by rfl) (hs1 : backTo pos (starEach [.Call (.Name "dict" p2) [e] [] pos2] X.env) = (false, eval (.Call (.Name "dict" p2) [e] [] pos2) X.env) :: backTo pos (starEach [] X.env) := by rfl) (hs2 : (backTo pos (starEach [.Call (.Name "dict" p2) [e] [] pos2] X.env)).any (·.1) = false := by rfl)
    (ht : starEach [e] X.env = [(false, eval e X.env)] := by rfl) (ht1 : starEach [e] X.env = (false, eval e X.env) :: starEach [] X.env := by rfl) (ht2 : (backTo pos2 (starEach [] X.env)).any (·.1) = false := by rfl) :
    QE X (.Call (.Name "sorted" p) [.Call (.Name "dict" p2) [e] [] pos2] [⟨some "key", .Name f fp, kp⟩] pos) (sSortDK sp te) := by
  refine peImp (pe_sortedDK d hr hg hm hgd hmd hgf he hdf hs hs1 hs2 ht ht1 ht2) ?_
  rintro σ H Q ⟨δ, M, Q2, hs, hm, q, k⟩
  refine ⟨δ, M, _, hs, hm, q, fun x H1 d M1 hd hm1 t1 q1 => ?_⟩
  obtain ⟨l, rows, b, R, key, rfl, hM, h64, h0, hc, hk⟩ := q1
  cases (dat_ref.mp hd)
  obtain ⟨ys, hy, hes⟩ := hm1 l _ hM
  have hlen := hes.length
  rw [List.length_map] at hlen
  obtain ⟨kps, p1, p2⟩ := pairs_of hes
  have hd2 : Dats X.K H1 ((once rows).map rowD) ((firsts kps).map fun p => V.ref p.2) := dats_firsts (fun p m => p1.row p (mem_firsts m)) (firsts_keys _ inl_inj p2)
  have hlz := hd2.length
  rw [List.length_map (f := rowD)] at hlz
  refine ⟨l, ys, _, kps, b, fun kvs H' => ∃ kds M', Dats X.K H' kds kvs ∧ RelM X.K H' M' ∧ TExt H1 H' ∧ R kds M', key, rfl, SqL.of hy, by omega, p1, rfl, ⟨[], M1, by rw [dats_nil], hm1, TExt.refl _, h0⟩, ?_, ?_⟩
  · rintro kvs H2 v ⟨kds, M2, h1, h2, t2, hR⟩ hv
    have hl2 := h1.length
    obtain ⟨e, e1, e2⟩ := (Dats.mono t2 _ hd2).getV hv
    refine ⟨[e], M2, _, Dats.one e2, h2, hc kds M2 e hR (by rw [← hl2]; exact e1), fun w H3 d3 M3 hd3 hm3 t3 q3 => ?_⟩
    exact ⟨kds ++ [d3], M3, (Dats.mono t3 kds h1).append (Dats.one hd3), hm3, t2.trans t3, q3⟩
  · rintro kvs H2 ⟨kds, M2, h1, h2, t2, hR⟩ hl
    have hl2 := h1.length
    obtain ⟨a1, a2⟩ := hk kds M2 hR (by omega)
    refine ⟨fun i w hw => ?_, fun p out hp ho => ?_⟩
    · obtain ⟨d3, e3, hd3⟩ := h1.getV hw
      exact (a1 i d3 e3).v hd3 h2
    · obtain ⟨π, p1, p2, rfl⟩ := ho
      rw [hlz] at p1 p2
      refine k _ _ (.ref p) _ (dat_ref.mpr rfl) (lst_new hp (dats_pick (Dats.mono t2 _ hd2) π.toList) h2) (t1.trans (t2.trans (TExt.laid hp))) (a2 p _ (h2.free hp) ⟨π, by rw [List.length_map]; exact p1, by rw [List.length_map]; exact p2, rfl⟩)
end
theorem rd_sortD {sp : Sp2} {te : TE2} {δ : St2} {M : Mem} {Q : VK2} (h : te δ M fun d M1 => dSortDK sp d M1 Q) : sSortDK sp te δ M Q := h
end L3
namespace L4
open PySem PySem.Spec L2 L3 L5
section
variable {X : Cx} {e : Expr} {te : TE2} {p p2 pos pos2 fp kp : Pos} {f : Str} {k : Nat} {ps : List Str} {sp : Sp2}
theorem w_sortedDK (d : Def2 X.prog X.w X.K X.mg X.base k f ps sp) (hr : Room (k + 2) X.A) (hg : Gl X "sorted") (hm : X.mg "sorted" = none) (hgd : Gl X "dict") (hmd : X.mg "dict" = none) (hgf : Gl X f) (he : WE X e te) (hdf : (f == ("__debug__" : Str)) = false := by decide)
    (hs : starEach [.Call (.Name "dict" p2) [e] [] pos2] X.env = [(false, eval (.Call (.Name "dict" p2) [e] [] pos2) X.env)] := by rfl) (hs1 : backTo pos (starEach [.Call (.Name "dict" p2) [e] [] pos2] X.env) = (false, eval (.Call (.Name "dict" p2) [e] [] pos2) X.env) :: backTo pos (starEach [] X.env) := by rfl) (hs2 : (backTo pos (starEach [.Call (.Name "dict" p2) [e] [] pos2] X.env)).any (·.1) = false := by rfl)
    (ht : starEach [e] X.env = [(false, eval e X.env)] := by rfl) (ht1 : starEach [e] X.env = (false, eval e X.env) :: starEach [] X.env := by rfl) (ht2 : (backTo pos2 (starEach [] X.env)).any (·.1) = false := by rfl) :
    WE X (.Call (.Name "sorted" p) [.Call (.Name "dict" p2) [e] [] pos2] [⟨some "key", .Name f fp, kp⟩] pos) (sSortDK sp te) := ⟨q_sortedDK d hr hg hm hgd hmd hgf he.h hdf hs hs1 hs2 ht ht1 ht2⟩
end
end L4

namespace L5
open PySem
open AutoSeq1 (wpAny_loadPart')
abbrev eh1 (T : String) (h : Heap) (l : Addr) : Heap := h.push { cls := .type T, data := .fields #[.ref l, .int 0 0] }
abbrev eh2 (T : String) (h : Heap) (l : Addr) : Heap := (eh1 T h l).push { cls := .type "enumerate", data := .fields #[.none, .bool false, .ref h.objs.size, rawInt 0, .none, .none] }
theorem enum_makes {T : String} {S : Heap → Addr → Array Value → Prop} (k : NK T S) (l : Addr) (vs : Array Value) :
    Meets (Builtin.«enumerate.__new__» ⟨[.type "enumerate", .ref l], []⟩) (fun _ R s => S s.heap l vs ∧ R (.ok (.ret (.ref (eh1 T s.heap l).objs.size))) { s with heap := eh2 T s.heap l }) :=
  .of_wp fun prog w A R s h => by
    obtain ⟨hp, g, d, tk, os⟩ := s
    obtain ⟨a1, h⟩ := h
    have se := sub_enumerate
    have aT : S (Shared.heap ⟨hp, g, d, tk, os⟩) l vs := a1
    wp_walk using k.start aT
    refine wpAny_stack_any fun st => wpAny_pure ?_
    split
    · rename_i c _ _ _ _ _
      cases (c == Value.type "enumerate")
      all_goals
        wp_walk using k.start aT
        exact ⟨_, rfl, h⟩
    · wp_walk using k.start aT
      exact ⟨_, rfl, h⟩
theorem mk_enum {prog : Program} {w : World} {A : Around} {E : Value → Shared → Prop} {s : Shared} {T : String} {S : Heap → Addr → Array Value → Prop} (kk : NK T S) {l : Addr} {vs : Array Value} {Q : Value → Shared → Prop} (a1 : S s.heap l vs)
    (k : ∀ h', IsEnum h' (s.heap.objs.size + 1) s.heap.objs.size 0 .none → IsIt T h' s.heap.objs.size l 0 → (∀ f o, s.heap.get? f = some o → h'.get? f = some o) → Q (.ref (s.heap.objs.size + 1)) { s with heap := h' }) :
    wpAny (model prog w) A (call (.type "enumerate") [.ref l]) Q E s := by
  refine callType_new F.called_enumerate (by decide) (F.typeCall_enumerate_1 _) (F.newCall_enumerate_1 _) (fun ob => F.args_object_init_2 ob _) F.entry_enumerate_new (enum_makes kk l vs) ⟨a1, ?_⟩
  have e1 : (eh1 T s.heap l).objs.size = s.heap.objs.size + 1 := Heap.size_push ..
  have g2 : (eh2 T s.heap l).get? (eh1 T s.heap l).objs.size = some _ := Heap.get?_push_size _ rfl
  have g1 : (eh2 T s.heap l).get? s.heap.objs.size = some _ := Heap.get?_push_of_some _ (Heap.get?_push_size s.heap rfl)
  rw [e1] at g2
  show _ ∧ _
  rw [e1]
  exact ⟨⟨_, g2, rfl⟩, k _ g2 ⟨_, g1, rfl, rfl⟩ fun f o x => Heap.get?_push_of_some _ (Heap.get?_push_of_some _ x)⟩
theorem nk_draws {T : String} {S : Heap → Addr → Array Value → Prop} (k : NK T S) {prog : Program} {w : World} {A : Around} (hA : A.handled = none) (j l : Addr) (ne : l ≠ j) (vs : Array Value) :
    Draws prog w A j [j, l] vs.size (fun i v => vs[i]? = some v) (fun i h => IsIt T h j l i ∧ S h l vs) where
  live := fun _ _ st => let ⟨⟨o, ho, _⟩, _⟩ := st; ⟨o, ho⟩
  frame := fun _ _ _ st q => let ⟨⟨o, ho, r⟩, su⟩ := st; ⟨⟨o, q j (by simp) o ho, r⟩, k.keep su fun o e => q l (by simp) o e⟩
  item := fun i s Q E hi st kk => k.item st.1 st.2 (Array.getElem?_eq_getElem hi) fun h' a b => kk _ h' s.toks (Array.getElem?_eq_getElem hi) ⟨a, k.keep st.2 fun o e => b.extBut _ _ ne e⟩ b
  done := fun s Q E st kk => k.stop hA st.1 st.2 (Array.getElem?_eq_none (Nat.le_refl _)) kk
end L5
namespace L2
open PySem PySem.Spec PyProof.Rows L5
def Ite (K : PySem.W.Frag) (b : Bool) (l : Addr) : It :=
  ⟨fun i H => ∃ xs x, Sq b K H l xs ∧ xs[i]? = some x,
   fun i H v H' => ∃ (p : Addr) (x : V), H p = none ∧ v = .ref p ∧ H' = upd H p (.tup [.int i, x]) ∧ ∀ xs, Sq b K H l xs → xs[i]? = some x,
   fun i H => ∃ xs, Sq b K H l xs ∧ xs.length ≤ i⟩
def tnE (b : Bool) (e j l : Addr) (i : Nat) (h : Heap) : Prop := (∃ old, IsEnum h e j i old) ∧ IsIt (tyI b) h j l i
theorem turn_enum {P : Program} {w : World} {K : PySem.W.Frag} {es : List Expr} {k0} {pos : Pos} {e j : Addr} (b : Bool) (B : e ≠ j) (l : Addr) : Turn P w K (.Tuple es k0 pos) (Ite K b l) [e, j] e (tnE b e j l) where
  mem := by simp
  obj := fun i h st c hc => by
    obtain ⟨⟨old, he⟩, ⟨oa, ha, _, da⟩⟩ := st
    rcases List.mem_cons.mp hc with rfl | hc
    · exact ⟨_, he, fun v z => by cases z⟩
    rcases List.mem_cons.mp hc with rfl | hc
    · exact ⟨_, ha, fun v z => by rw [da] at z; cases z⟩
    · cases hc
  keep := fun i h h' st q => by
    obtain ⟨⟨old, he⟩, ⟨oa, ha, r⟩⟩ := st
    exact ⟨⟨old, q e (by simp) _ he⟩, ⟨oa, q j (by simp) _ ha, r⟩⟩
  item := by
    intro X hP hw hK hc i pins s σ H E I hf st hg
    subst hP hw hK
    obtain ⟨xs, x, hl, hx⟩ := hg
    obtain ⟨⟨old, he⟩, hj⟩ := st
    obtain ⟨is1, r1, p1⟩ := sq_get I hl
    obtain ⟨u1, e1, q1⟩ := r1.get hx
    have lj : l ≠ j := sq_ne I (hf j (by simp)) hl
    have le : l ≠ e := sq_ne I (hf e (by simp)) hl
    have hi : i < is1.toArray.size := by
      have := (List.getElem?_eq_some_iff.mp e1).1
      simpa using this
    refine wpAny_pyNext_enum_itemD (nk_draws (nk_of b) (A := X.A.in1) (I.ok.hd hc) j l lj is1.toArray) he ⟨hj, p1⟩ hi B (by simp; exact ⟨B, Ne.symm le⟩) fun y g tk g1 g2 g3 g4 g5 g6 => ?_
    have ey : y = u1 := by
      rw [List.getElem?_toArray, e1] at g1
      cases g1
      rfl
    subst ey
    have hn : H s.heap.objs.size = none := I.hok.fresh (Nat.le_refl _)
    have I1 : Inv X pins σ H { s with heap := g, toks := tk + 1 } := turnL (t' := tk + 1) I (ch := [e, j]) (fun c o hc e => g6 c o (fun z => hc (by simp [z])) (fun z => hc (by simp [z])) e) hf
    refine ⟨_, rfl, wpAny_letOwnedTupleGo_enum (s := { s with heap := g, toks := tk + 1 }) g2 fun g' e' sb => ?_⟩
    have I2 : Inv X pins σ H { s with heap := g', toks := tk + 1 } := turnL (s := { s with heap := g, toks := tk + 1 }) (t' := tk + 1) (ch := [e]) I1 (fun c o hc q => sb.extBut _ _ (fun z => hc (by simp [z])) q) (fun c hc => hf c (by simp at hc ⊢; exact .inl hc))
    have fo := I.fpOk (H' := H) (Nat.le_refl s.heap.objs.size) hn
    have lte : e < s.heap.objs.size := Heap.lt_size he
    have ltj : j < s.heap.objs.size := let ⟨_, q, _⟩ := hj; Heap.lt_size q
    have t5 := sb.extBut _ _ (Nat.ne_of_gt lte) g4
    have I3 : Inv X pins σ (upd H s.heap.objs.size (.tup [.int i, x])) { s with heap := g', toks := tk + 1 } := Inv.track I2 hn ⟨show 2 ≤ sizeLine by decide, [.int i tk, y], .cons ⟨tk, rfl⟩ (.cons q1 .nil), ⟨_, t5, rfl, _, rfl⟩⟩ fo.2.1 (Nat.le_trans I.sz (Nat.le_refl _)) fo.2.2.2.2.1 fo.2.2.2.2.2
    refine ⟨.ref s.heap.objs.size, _, I3, rfl, ⟨s.heap.objs.size, x, hn, rfl, rfl, fun xs' h' => by rw [sq_inj I h' hl]; exact hx⟩, ⟨⟨_, by simpa using e'⟩, ?_⟩, fun c hc => ?_⟩
    · obtain ⟨o, ho, r⟩ := g3.1
      exact ⟨o, sb.extBut _ _ (Ne.symm B) ho, r⟩
    · have hlt : c < s.heap.objs.size := by
        simp at hc
        rcases hc with rfl | rfl
        · exact lte
        · exact ltj
      rw [upd_ne (Nat.ne_of_lt hlt)]
      exact (hf c hc).1
  done := by
    intro X hP hw hK hc i pins s σ H E I hf st hg
    subst hP hw hK
    obtain ⟨xs, hl, hx⟩ := hg
    obtain ⟨⟨old, he⟩, hj⟩ := st
    obtain ⟨is1, r1, p1⟩ := sq_get I hl
    have l1 := r1.length
    have lj : l ≠ j := sq_ne I (hf j (by simp)) hl
    have hT : s.TypeIs (.ref e) "enumerate" := ⟨_, he, rfl⟩
    unfold pyNext
    refine wpAny_bind (wpAny_attempt (wpAny_callSpecial?_slot (name := Str.ofString "__next__") hT F.slot_enumerate_next (wpAny_call_entry F.slot_enumerate_next hT F.entry_enumerate_next ?_ (F.args_enumerate_next_1 _))))
    refine wpAny_bind (m := field (.ref e) 2) (wpAny_field he rfl (x := .ref j) rfl ?_)
    refine wpAny_bind ((nk_of b).stop (A := X.A.in1) (I.ok.hd hc) hj p1 (Array.getElem?_eq_none (by simp; omega)) fun g c g1 g2 => ?_)
    obtain ⟨o, ho, hc'⟩ := g2
    refine wpAny_bind (wpAny_isInstance (T := "StopIteration") (b := true) ⟨o, ho, hc'⟩ isSubtype_stop (wpAny_pure ⟨rfl, ?_⟩))
    exact turnL (t' := s.toks) (ch := [j]) I (fun b o hb q => g1 b o (fun z => hb (by simp [z])) q) fun b hb => hf b (by simp at hb ⊢; exact .inr hb)
  self := fun _ _ _ _ _ st h => wpAny_pyIter_enum st.1.choose_spec h
section
variable {X : Cx} {es : List Expr} {k0 : _} {tpos : Pos} {a : Expr} {ta : TA} {p pos : Pos}
def iEnum (K : PySem.W.Frag) (ta : TA) : TI := fun σ H R => ta σ H fun vs H1 => ∃ (b : Bool) (l : Addr), vs = [.ref l] ∧ (∃ xs, Sq b K H1 l xs) ∧ R (Ite K b l) H1
theorem pi_enum (hg : Gl X "enumerate") (hm : X.mg "enumerate" = none) (ha : PA X [a] ta) (hs : starEach [a] X.env = [(false, eval a X.env)] := by rfl) (hs2 : starEach [] X.env = [] := by rfl) :
    PI X (.Tuple es k0 tpos) (.Call (.Name "enumerate" p) [a] [] pos) (iEnum X.K ta) := by
  intro pins s σ H R I h
  refine Call_ (ld_blt I hg hm boot_enumerate (PyProof.Rows.callWith_type1 (thn (ha pos pins s σ H _ I h) fun us s1 ⟨vs, H1, I1, r1, q1⟩ => ?_) (by rw [hs, hs2]) (by rw [hs2]; rfl)))
  obtain ⟨b, l, e, ⟨xs, hl⟩, q⟩ := q1
  subst e
  obtain ⟨u1, rfl, r⟩ := vals1 r1
  cases (show u1 = Value.ref l from r)
  obtain ⟨is1, r1, p1⟩ := sq_get I1 hl
  refine mk_enum (nk_of b) p1 fun g g1 g2 g7 => wpAny_pyIter_enum (s := { s1 with heap := g }) g1 ?_
  have I2 : Inv X pins σ H1 { s1 with heap := g } := I1.kept (t' := s1.toks) g7
  have fr : ∀ c, s1.heap.objs.size ≤ c → FpOk X pins H1 c := fun c hc => I1.fpOk hc (I1.hok.fresh hc)
  have ne : s1.heap.objs.size + 1 ≠ s1.heap.objs.size := by omega
  refine ⟨_, [s1.heap.objs.size + 1, s1.heap.objs.size], _, _, H1, rfl, I2, turn_enum b ne l, ⟨⟨_, g1⟩, g2⟩, fun c hc => fr c ?_, q⟩
  simp at hc
  rcases hc with rfl | rfl <;> omega
end
end L2
namespace L3
open PySem PySem.Spec L2 L5
def enumD (ds : List D) : List D := (List.range ds.length).map fun (i : Nat) => D.tup [.int (i : Int), ds.getD i D.non]
theorem enumD_len (ds : List D) : (enumD ds).length = ds.length := by simp [enumD]
def kindB : D → Bool
  | .tup _ => true
  | _ => false
theorem seqD_sq {K : PySem.W.Frag} {H : Hp} {M : Mem} {d : D} {ds : List D} {x : V} (e : seqD M d = some ds) (h : Dat K H d x) (hm : RelM K H M) : ∃ p xs, x = .ref p ∧ Sq (kindB d) K H p xs ∧ Dats K H ds xs := by
  cases d with
  | tup es =>
    cases (show some es = some ds from e)
    obtain ⟨p, xs, rfl, h1, h2⟩ := dat_tup.mp h
    exact ⟨p, xs, rfl, h1, h2⟩
  | fl es =>
    cases (show some es = some ds from e)
    obtain ⟨p, xs, rfl, h1, h2⟩ := dat_fl.mp h
    exact ⟨p, xs, rfl, h1.sq, h2⟩
  | ref a =>
    cases (dat_ref.mp h)
    obtain ⟨xs, h1, h2⟩ := lstAt_rel (show lstAt M a = some ds from e) hm
    exact ⟨a, xs, rfl, SqL.of h1, h2⟩
  | _ => cases e
def enumF (x : D) (M : Mem) : Option (List D) := (seqD M x).map enumD
theorem itok_enum {K : PySem.W.Frag} {H1 : Hp} {a : Addr} {x : D} (hx : Dat K H1 x (.ref a)) : ItOk K H1 (Ite K (kindB x) a) (.fn (enumF x)) := fun H M fs t hm e => by
  have e : (seqD M x).map enumD = some fs := e
  cases e1 : seqD M x with
  | none => rw [e1] at e; cases e
  | some ds =>
    rw [e1] at e
    cases e
    obtain ⟨p, xs, e3, q1, x1⟩ := seqD_sq e1 (Dat.mono t x hx) hm
    cases e3
    have l1 := x1.length
    rw [enumD_len]
    refine ⟨fun i hi => ⟨xs, xs[i]'(by omega), q1, by simp⟩, fun i hi => ⟨xs, q1, by omega⟩, fun i v H' hi y => ?_⟩
    obtain ⟨p, v, hp, rfl, rfl, hx⟩ := y
    obtain ⟨d, d1, d2⟩ := x1.getV (hx xs q1)
    refine ⟨TExt.laid hp, hm.laid hp, .tup [.int i, d], ?_, tup_new hp (dats_cons.mpr ⟨.int i, [v], rfl, dat_int.mpr rfl, Dats.one d2⟩)⟩
    obtain ⟨z1, w1⟩ := List.getElem?_eq_some_iff.mp d1
    simp [enumD, z1, w1]
def jEnum (ta : TA2) : TI2 := fun δ M R => ta δ M fun ds M1 => match ds with
  | [.tup xs] => R (.fix (enumD xs)) M1
  | [x] => (∃ zs, seqD M1 x = some zs) ∧ R (.fn (enumF x)) M1
  | _ => False
section
variable {X : Cx} {es : List Expr} {k0 : _} {tpos : Pos} {a : Expr} {ta : TA2} {p pos : Pos}
theorem qi_enum (hg : Gl X "enumerate") (hm : X.mg "enumerate" = none) (ha : QA X [a] ta) (hs : starEach [a] X.env = [(false, eval a X.env)] := by rfl) (hs2 : starEach [] X.env = [] := by rfl) :
    QI X (.Tuple es k0 tpos) (.Call (.Name "enumerate" p) [a] [] pos) (jEnum ta) := piImp (pi_enum hg hm ha hs hs2) fun σ H R ⟨δ, M, R2, hs, hm, q, k⟩ => by
  refine ⟨δ, M, _, hs, hm, q, fun xs H1 ds M1 hd hm1 t1 q1 => ?_⟩
  have go : ∀ x, ds = [x] → (∃ zs, seqD M1 x = some zs) → (∀ J, ItOk X.K H1 J (.fn (enumF x)) → R J H1) → ∃ (b : Bool) (l : Addr), xs = [.ref l] ∧ (∃ xs, Sq b X.K H1 l xs) ∧ R (Ite X.K b l) H1 := by
    rintro x rfl ⟨zs, hz⟩ hR
    obtain ⟨vx, r, rfl, hx, hr⟩ := dats_cons.mp hd
    cases (dats_nil.mp hr)
    obtain ⟨p, vs, rfl, q1, _⟩ := seqD_sq hz hx hm1
    exact ⟨_, p, rfl, ⟨vs, q1⟩, hR _ (itok_enum hx)⟩
  match ds, q1 with
  | [x], q1 =>
    by_cases ht : ∃ xs, x = .tup xs
    · obtain ⟨xs, rfl⟩ := ht
      exact go _ rfl ⟨_, rfl⟩ fun J hJ => k J H1 (.fix (enumD xs)) M1 (fun H M ds t hm e => hJ H M ds t hm e) hm1 t1 q1
    · have q2 : (∃ zs, seqD M1 x = some zs) ∧ R2 (.fn (enumF x)) M1 := by
        cases x <;> first | exact q1 | exact absurd ⟨_, rfl⟩ ht
      exact go x rfl q2.1 fun J hJ => k J H1 _ M1 hJ hm1 t1 q2.2
  | [], q1 => exact q1.elim
  | x :: y :: r, q1 => cases x <;> exact q1.elim
end
end L3
namespace L4
open PySem PySem.Spec L2 L3 L5
section
variable {X : Cx} {es : List Expr} {k0 : _} {tpos : Pos} {a : Expr} {ta : TA2} {p pos : Pos}
theorem wi_enum (hg : Gl X "enumerate") (hm : X.mg "enumerate" = none) (ha : WA X [a] ta) (hs : starEach [a] X.env = [(false, eval a X.env)] := by rfl) (hs2 : starEach [] X.env = [] := by rfl) :
    WI X (.Tuple es k0 tpos) (.Call (.Name "enumerate" p) [a] [] pos) (jEnum ta) := ⟨qi_enum hg hm ha.h hs hs2⟩
end
end L4

namespace L2
open PySem PySem.Spec PyProof.Rows
section
variable {X : Cx}
theorem op_cat0 : OpR X (binaryOp .Add) (fun x y H Q => ∃ a b ys, x = .ref a ∧ y = .ref b ∧ SqT X.K H a [] ∧ SqT X.K H b ys ∧ Q (.ref b) H) := by
  intro pins s σ H x y v u Q I rx ry h
  obtain ⟨a, b, ys, rfl, rfl, ha, hb, q⟩ := h
  cases rx
  cases ry
  obtain ⟨i1, r1, p1, _⟩ := I.tuple ha
  obtain ⟨i2, r2, p2, _⟩ := I.tuple hb
  cases r1
  obtain ⟨⟨c1, d1, a1, l1⟩, o1, k1, n1, e1⟩ := id p1
  obtain ⟨⟨c2, d2, a2, l2⟩, o2, k2, n2, e2⟩ := id p2
  cases (show c1 = .type "tuple" from k1)
  cases (show a1 = _ from e1)
  cases (show c2 = .type "tuple" from k2)
  cases (show a2 = _ from e2)
  exact concat_meets ⟨_, o1, rfl⟩ ⟨_, o2, rfl⟩ noFill_tuple_add seq_tuple_add PySem.F.slot_tuple_add PySem.F.entry_tuple_add (PySem.F.args_tuple_add_2 _ _) (tuple_addW0 a b #[] i2.toArray n1 n2 d1 d2 l1 l2 rfl) ⟨o1, o2, ⟨.ref b, H, I, rfl, q⟩⟩
end
end L2
namespace L3
open PySem PySem.Spec L2
section
variable {X : Cx}
def dAddA : R22 := fun x y M Q => dAdd x y M Q ∨ ∃ ys, x = .tup [] ∧ y = .tup ys ∧ Q (.tup ys) M
theorem o_addA : OpS X (binaryOp .Add) dAddA := by
  obtain ⟨r, h1, h2⟩ := (o_add : OpS X (binaryOp .Add) dAdd)
  refine ⟨_, h1.or op_cat0, fun x y d e H M Q2 Q hd he hm q k => ?_⟩
  rcases q with q | ⟨ys, rfl, rfl, q⟩
  · exact .inl (h2 x y d e H M Q2 Q hd he hm q k)
  · obtain ⟨p, vs, rfl, hp, hx⟩ := dat_tup.mp hd
    obtain ⟨p2, ws, rfl, hp2, hy⟩ := dat_tup.mp he
    cases (dats_nil.mp hx)
    exact .inr ⟨p, p2, ws, rfl, rfl, hp, hp2, k _ H _ M (dat_tup.mpr ⟨p2, ws, rfl, hp2, hy⟩) hm (TExt.refl H) q⟩
def dExtend : D → List D → Mem → VK2 → Prop := fun x vs M Q => ∃ p q ds es, x = .ref p ∧ vs = [.ref q] ∧ M p = some (.lst ds) ∧ M q = some (.lst es) ∧ ds.length + es.length ≤ sizeLine ∧ Q .non (updM M p (.lst (ds ++ es)))
theorem m_extend : MtS X "list.extend" dExtend := ⟨rExtend, mt_extend, fun x xs d ds H M Q2 Q hx hd hm q k => by
  obtain ⟨p, p2, es, fs, rfl, rfl, hM, hM2, hz, q⟩ := q
  cases (dat_ref.mp hx)
  obtain ⟨v, r, rfl, hv, hr⟩ := dats_cons.mp hd
  cases (dats_nil.mp hr)
  cases (dat_ref.mp hv)
  obtain ⟨zs, h1, h2⟩ := hm p _ hM
  obtain ⟨ys, g1, g2⟩ := hm p2 _ hM2
  have t := TExt.lst (o := .lst (zs ++ ys)) h1
  refine ⟨p, p2, zs, ys, rfl, rfl, h1, g1, by rw [h2.length, g2.length]; exact hz, k _ _ .non _ (dat_non.mpr rfl) (hm.put t ⟨_, upd_same, ?_⟩) t q⟩
  exact (Dats.mono t es h2).append (Dats.mono t fs g2)⟩
end
section
variable {M : Mem} {Q : VK2}
theorem rd_ext {p q : Addr} {ds es : List D} (h : M p = some (.lst ds)) (g : M q = some (.lst es)) (hz : ds.length + es.length ≤ sizeLine) (k : Q .non (updM M p (.lst (ds ++ es)))) : dExtend (.ref p) [.ref q] M Q := ⟨p, q, ds, es, rfl, rfl, h, g, hz, k⟩
theorem rd_addaI {i j : Int} (q : Q (.int (i + j)) M) : dAddA (.int i) (.int j) M Q := .inl q
theorem rd_addaS {i j : Str} (h : i.length + j.length ≤ sizeLine) (q : Q (.str (i ++ j)) M) : dAddA (.str i) (.str j) M Q := .inl ⟨h, q⟩
theorem rd_addaL {a b : Addr} {xs ys : List D} (ha : M a = some (.lst xs)) (hb : M b = some (.lst ys)) (h : xs.length + ys.length ≤ sizeLine) (q : ∀ p, M p = none → Q (.ref p) (updM M p (.lst (xs ++ ys)))) : dAddA (.ref a) (.ref b) M Q := .inl (rd_addL ha hb h q)
theorem rd_addaT {xs ys : List D} (h : xs.length + ys.length ≤ sizeLine) (q : Q (.tup (xs ++ ys)) M) : dAddA (.tup xs) (.tup ys) M Q := by
  cases xs with
  | nil => exact .inr ⟨ys, rfl, rfl, q⟩
  | cons x xs => exact .inl ⟨by simp, h, q⟩
end
end L3

namespace L3
open PySem L2
section
variable {g : TG2} {tt : TT2} {te : TE2} {δ δc : St2} {M1 : Mem} {Qe : List D → Mem → Prop}
theorem szl {n : Nat} (h : n ≤ 10000) : n ≤ sizeLine := Nat.le_trans h (by decide)
theorem cl_acc {α β : Type} {xs : List α} {enc : α → D} (enc' : β → D) (I : List β → Mem → Prop) (hn : xs.length ≤ 10000) (h0 : I [] M1)
    (hs : ∀ (i : Nat) (x : α) (ys : List β) (M : Mem) (N : D → Mem → Prop), xs[i]? = some x → ys.length = i → I ys M → (∀ b M', I (ys ++ [b]) M' → N (enc' b) M') → g (enc x) δc M fun δ2 M2 => te δ2 M2 N)
    (hd : ∀ ys M, ys.length = xs.length → I ys M → Qe (ys.map enc') M) :
    ∃ (B : Nat) (W : Nat → List D → Mem → Prop), W 0 [] M1 ∧ ∀ i acc M, W i acc M → i ≤ B ∧ acc.length ≤ sizeLine ∧ match items (.fix (xs.map enc)) M with
      | none => False
      | some ds => match ds[i]? with
        | none => i = ds.length ∧ Qe acc M
        | some d => g d δc M fun δ2 M2 => sYes δ2 M2 fun b M3 => if b = true then te δ2 M3 fun y M4 => W (i + 1) (acc ++ [y]) M4 else W (i + 1) acc M3 := by
  refine cl_fix (fun i acc M => ∃ ys : List β, acc = ys.map enc' ∧ ys.length = i ∧ I ys M) ⟨[], rfl, rfl, h0⟩ (fun i acc M hi h => ?_) (fun i d acc M hd h => ?_) (fun acc M h => ?_)
  · obtain ⟨ys, rfl, h1, _⟩ := h
    rw [List.length_map] at hi ⊢
    exact szl (by omega)
  · obtain ⟨ys, rfl, h1, h2⟩ := h
    rw [List.getElem?_map] at hd
    cases e : xs[i]? with
    | none => rw [e] at hd; cases hd
    | some x =>
      rw [e] at hd
      cases hd
      refine hs i x ys M _ e h1 h2 fun b M' hb => ⟨ys ++ [b], by rw [List.map_append]; rfl, by simp [h1], hb⟩
  · obtain ⟨ys, rfl, h1, h2⟩ := h
    rw [List.length_map] at h1
    exact hd ys M h1 h2
theorem cl_accAt {α β : Type} {a : Addr} {xs : List α} (enc : α → D) (enc' : β → D) (I : List β → Mem → Prop) (hn : xs.length ≤ 10000) (h0 : I [] M1) (hl : ∀ ys M, I ys M → M a = some (.lst (xs.map enc)))
    (hs : ∀ (i : Nat) (x : α) (ys : List β) (M : Mem) (N : D → Mem → Prop), xs[i]? = some x → ys.length = i → I ys M → (∀ b M', I (ys ++ [b]) M' → N (enc' b) M') → g (enc x) δc M fun δ2 M2 => te δ2 M2 N)
    (hd : ∀ ys M, ys.length = xs.length → I ys M → Qe (ys.map enc') M) :
    ∃ (B : Nat) (W : Nat → List D → Mem → Prop), W 0 [] M1 ∧ ∀ i acc M, W i acc M → i ≤ B ∧ acc.length ≤ sizeLine ∧ match items (.at a) M with
      | none => False
      | some ds => match ds[i]? with
        | none => i = ds.length ∧ Qe acc M
        | some d => g d δc M fun δ2 M2 => sYes δ2 M2 fun b M3 => if b = true then te δ2 M3 fun y M4 => W (i + 1) (acc ++ [y]) M4 else W (i + 1) acc M3 := by
  refine cl_at (ds := xs.map enc) (fun i acc M => ∃ ys : List β, acc = ys.map enc' ∧ ys.length = i ∧ I ys M) ⟨[], rfl, rfl, h0⟩ (fun i acc M hi h => ?_) (fun i acc M hi h => ?_) (fun i d acc M hd h => ?_) (fun acc M h => ?_)
  · obtain ⟨ys, rfl, h1, h2⟩ := h
    exact hl ys M h2
  · obtain ⟨ys, rfl, h1, _⟩ := h
    rw [List.length_map] at hi ⊢
    exact szl (by omega)
  · obtain ⟨ys, rfl, h1, h2⟩ := h
    rw [List.getElem?_map] at hd
    cases e : xs[i]? with
    | none => rw [e] at hd; cases hd
    | some x =>
      rw [e] at hd
      cases hd
      refine hs i x ys M _ e h1 h2 fun b M' hb => ⟨ys ++ [b], by rw [List.map_append]; rfl, by simp [h1], hb⟩
  · obtain ⟨ys, rfl, h1, h2⟩ := h
    rw [List.length_map] at h1
    exact hd ys M h1 h2
theorem take_one {α : Type} {l : List α} {i : Nat} {a : α} (h : l[i]? = some a) : l.take (i + 1) = l.take i ++ [a] := by
  rw [List.take_add_one, h]
  rfl
theorem cl_pure {α : Type} {xs : List α} {enc : α → D} (out : α → D) (hn : xs.length ≤ 10000)
    (hs : ∀ (i : Nat) (x : α) (N : D → Mem → Prop), xs[i]? = some x → N (out x) M1 → g (enc x) δc M1 fun δ2 M2 => te δ2 M2 N)
    (hd : Qe (xs.map out) M1) :
    ∃ (B : Nat) (W : Nat → List D → Mem → Prop), W 0 [] M1 ∧ ∀ i acc M, W i acc M → i ≤ B ∧ acc.length ≤ sizeLine ∧ match items (.fix (xs.map enc)) M with
      | none => False
      | some ds => match ds[i]? with
        | none => i = ds.length ∧ Qe acc M
        | some d => g d δc M fun δ2 M2 => sYes δ2 M2 fun b M3 => if b = true then te δ2 M3 fun y M4 => W (i + 1) (acc ++ [y]) M4 else W (i + 1) acc M3 := by
  refine cl_acc (β := α) out (fun ys M => M = M1 ∧ ys = xs.take ys.length) hn ⟨rfl, rfl⟩ (fun i x ys M N hx hy h k => ?_) (fun ys M hy h => ?_)
  · obtain ⟨rfl, h⟩ := h
    refine hs i x N hx (k x M ⟨rfl, ?_⟩)
    rw [List.length_append, List.length_singleton, take_one (a := x) (by rw [hy]; exact hx), ← h]
  · obtain ⟨rfl, h⟩ := h
    rw [hy, List.take_length] at h
    rw [h]
    exact hd
abbrev pr2 (p : Int × Int) : D := .tup [.int p.1, .int p.2]
theorem zip_map (as bs : List Int) : zipD (as.map D.int) (bs.map D.int) = (as.zip bs).map pr2 := by
  unfold zipD pr2
  rw [List.zip_map, List.map_map]
  rfl
theorem cl_zip {as bs : List Int} (out : Int × Int → D) (hn : as.length ≤ 10000)
    (hs : ∀ (i : Nat) (x : Int × Int) (N : D → Mem → Prop), (as.zip bs)[i]? = some x → N (out x) M1 → g (pr2 x) δc M1 fun δ2 M2 => te δ2 M2 N)
    (hd : Qe ((as.zip bs).map out) M1) :
    ∃ (B : Nat) (W : Nat → List D → Mem → Prop), W 0 [] M1 ∧ ∀ i acc M, W i acc M → i ≤ B ∧ acc.length ≤ sizeLine ∧ match items (.fix (zipD (as.map D.int) (bs.map D.int))) M with
      | none => False
      | some ds => match ds[i]? with
        | none => i = ds.length ∧ Qe acc M
        | some d => g d δc M fun δ2 M2 => sYes δ2 M2 fun b M3 => if b = true then te δ2 M3 fun y M4 => W (i + 1) (acc ++ [y]) M4 else W (i + 1) acc M3 := by
  rw [zip_map]
  exact cl_pure out (by rw [List.length_zip]; omega) hs hd
theorem cl_pureAt {α : Type} {a : Addr} {xs : List α} (enc out : α → D) (hn : xs.length ≤ 10000) (hl : M1 a = some (.lst (xs.map enc)))
    (hs : ∀ (i : Nat) (x : α) (N : D → Mem → Prop), xs[i]? = some x → N (out x) M1 → g (enc x) δc M1 fun δ2 M2 => te δ2 M2 N)
    (hd : Qe (xs.map out) M1) :
    ∃ (B : Nat) (W : Nat → List D → Mem → Prop), W 0 [] M1 ∧ ∀ i acc M, W i acc M → i ≤ B ∧ acc.length ≤ sizeLine ∧ match items (.at a) M with
      | none => False
      | some ds => match ds[i]? with
        | none => i = ds.length ∧ Qe acc M
        | some d => g d δc M fun δ2 M2 => sYes δ2 M2 fun b M3 => if b = true then te δ2 M3 fun y M4 => W (i + 1) (acc ++ [y]) M4 else W (i + 1) acc M3 := by
  refine cl_accAt (β := α) enc out (fun ys M => M = M1 ∧ ys = xs.take ys.length) hn ⟨rfl, rfl⟩ (fun ys M h => by rw [h.1]; exact hl) (fun i x ys M N hx hy h k => ?_) (fun ys M hy h => ?_)
  · obtain ⟨rfl, h⟩ := h
    refine hs i x N hx (k x M ⟨rfl, ?_⟩)
    rw [List.length_append, List.length_singleton, take_one (a := x) (by rw [hy]; exact hx), ← h]
  · obtain ⟨rfl, h⟩ := h
    rw [hy, List.take_length] at h
    rw [h]
    exact hd
end
abbrev rgD (i : Nat) : D := .int ((0 : Int) + (i : Nat))
theorem rgD_eq (i : Nat) : rgD i = .int (i : Int) := by show D.int (0 + (i : Int)) = _; rw [Int.zero_add]
theorem enum_map {α : Type} (xs : List α) (enc : α → D) : enumD (xs.map enc) = xs.zipIdx.map fun p => D.tup [.int (p.2 : Int), enc p.1] := by
  refine List.ext_getElem? fun i => ?_
  unfold enumD
  rw [List.getElem?_map, List.getElem?_map, List.getElem?_zipIdx, List.length_map]
  by_cases h : i < xs.length
  · rw [List.getElem?_range h, List.getElem?_eq_getElem h]
    simp [h]
  · rw [List.getElem?_eq_none (by simpa using h), List.getElem?_eq_none (by simpa using h)]
    rfl
def anyK (R : Src → Mem → Prop) (d : D) (M1 : Mem) : Prop := match d with
  | .str z => R (.fix (signsD z)) M1
  | .tup ds => R (.fix ds) M1
  | .fl ds => R (.fix ds) M1
  | .ref a => (match M1 a with
    | some (.lst _) => R (.at a) M1
    | _ => False)
  | _ => False
theorem rd_anyq {ta : TE2} {δ : St2} {M : Mem} {R : Src → Mem → Prop} (h : ta δ M (anyK R)) : jAny ta δ M R := h
theorem rd_anyT {ds : List D} {M : Mem} {R : Src → Mem → Prop} (h : R (.fix ds) M) : anyK R (.tup ds) M := h
theorem rd_anyL {a : Addr} {ds : List D} {M : Mem} {R : Src → Mem → Prop} (hM : M a = some (.lst ds)) (h : R (.at a) M) : anyK R (.ref a) M := by
  show (match M a with | some (.lst _) => R (.at a) M | _ => False)
  rw [hM]
  exact h
end L3

namespace KK
open PySem L3 L4 L5
open L2 hiding x_ix s_sl
def flowL (c : Addr) (p b sd ct : Int) : List D := [.ref c, .int p, .int b, .int sd, .int ct]
structure Flow (M : Mem) (f c : Addr) : Prop where
  ex : ∃ (ns : List Int) (p b sd ct : Int), M f = some (.lst (flowL c p b sd ct)) ∧ M c = some (.lst (ns.map D.int)) ∧ c ≠ f ∧ 0 ≤ p ∧ 0 ≤ b ∧ 0 ≤ sd ∧ sd < 2147483647
def spPick : Sp2 := fun ds M Q => ∃ (f c : Addr) (n : Int), ds = [.ref f, .int n] ∧ Flow M f c ∧ 0 < n ∧ n < 1073741824 ∧ ∀ (d : Int) (o : MO), 0 ≤ d → d < n → Flow (updM M f o) f c → Q (.int d) (updM M f o)
structure Fl (f c : Addr) (M M' : Mem) : Prop where
  flow : Flow M' f c
  mv : ∀ b o, b ≠ f → M b = some o → M' b = some o
theorem Fl.trans {f c : Addr} {M M1 M2 : Mem} (a : Fl f c M M1) (b : Fl f c M1 M2) : Fl f c M M2 := ⟨b.flow, fun c o h e => b.mv c o h (a.mv c o h e)⟩
theorem Fl.pick {f c : Addr} {M : Mem} {o : MO} (h : Flow (updM M f o) f c) : Fl f c M (updM M f o) := ⟨h, fun b o' hb e => by rw [updM_ne hb]; exact e⟩
theorem Flow.there {M : Mem} {f c : Addr} (h : Flow M f c) : ∃ o, M f = some o := by obtain ⟨ns, p, b, sd, ct, h, _⟩ := h; exact ⟨_, h⟩
theorem Flow.there2 {M : Mem} {f c : Addr} (h : Flow M f c) : ∃ o, M c = some o := by obtain ⟨ns, p, b, sd, ct, _, h, _⟩ := h; exact ⟨_, h⟩
theorem Flow.put {M : Mem} {f c q : Addr} {o : MO} (h : Flow M f c) (n : M q = none) : Flow (updM M q o) f c := by
  obtain ⟨ns, p, b, sd, ct, h1, h2, h3⟩ := h
  exact ⟨ns, p, b, sd, ct, by rw [updM_ne (fun z => by rw [z, n] at h1; cases h1)]; exact h1, by rw [updM_ne (fun z => by rw [z, n] at h2; cases h2)]; exact h2, h3⟩
theorem Fl.put {M : Mem} {f c q : Addr} {o : MO} (h : Flow M f c) (n : M q = none) : Fl f c M (updM M q o) := ⟨h.put n, fun b o' hb e => by rw [updM_ne (fun z => by rw [z, n] at e; cases e)]; exact e⟩
theorem Flow.ne {M : Mem} {f c q : Addr} (h : Flow M f c) (n : M q = none) : q ≠ f ∧ q ≠ c := by
  constructor
  · intro z
    subst z
    obtain ⟨o, e⟩ := h.there
    rw [n] at e
    cases e
  · intro z
    subst z
    obtain ⟨o, e⟩ := h.there2
    rw [n] at e
    cases e
theorem Fl.own {M M' : Mem} {f c q : Addr} {o : MO} (h : Fl f c M M') (h0 : Flow M f c) (n : M q = none) : Fl f c M (updM M' q o) := by
  obtain ⟨n1, n2⟩ := h0.ne n
  obtain ⟨ns, p, b, sd, ct, h1, h2, h3⟩ := h.flow
  refine ⟨⟨ns, p, b, sd, ct, by rw [updM_ne (Ne.symm n1)]; exact h1, by rw [updM_ne (Ne.symm n2)]; exact h2, h3⟩, fun b o' hb e => ?_⟩
  rw [updM_ne (fun z => by rw [z, n] at e; cases e)]
  exact h.mv b o' hb e
def spGen (B : Nat) : Sp2 := fun ds M Q => ∃ f c, ds = [.ref f] ∧ Flow M f c ∧ ∀ (z : Str) (M' : Mem), z.length ≤ B → Fl f c M M' → Q (.str z) M'
theorem small {n : Nat} (h : n ≤ 10000) : n ≤ sizeLine := Nat.le_trans h (by decide)
theorem len_app (x y : Str) : (x ++ y).length = x.length + y.length := by
  show (x.cps ++ y.cps).size = x.cps.size + y.cps.size
  simp
theorem atI_strs {zs : List Str} {d : Int} (h0 : 0 ≤ d) (h1 : d < zs.length) : ∃ z, z ∈ zs ∧ atI (zs.map D.str) d = some (.str z) := by
  have hl : d.toNat < zs.length := by omega
  have e : ((d.toNat : Nat) : Int) = d := by omega
  have q : atI (zs.map D.str) ((d.toNat : Nat) : Int) = some (.str zs[d.toNat]) := atI_nat (by simp [hl])
  rw [e] at q
  exact ⟨_, List.getElem_mem hl, q⟩
def spFlow : Sp2 := fun ds M Q => ∃ ns : List Int, ds = [.fl (ns.map D.int)] ∧ ∀ f c M', Flow M' f c → Q (.ref f) M'
theorem rangeD_at {lo : Int} {n i : Nat} {d : D} (h : (rangeD lo n)[i]? = some d) : i < n ∧ d = .int (lo + (i : Nat)) := by
  have hi : i < n := by have := (List.getElem?_eq_some_iff.mp h).1; rwa [rangeD_len] at this
  rw [rangeD_get hi] at h
  exact ⟨hi, (Option.some.inj h).symm⟩
theorem join_len : ∀ zs : List Str, (Txt.join (Str.ofString "") zs).length = (zs.map (·.length)).sum := by
  intro zs
  show (Builtin.Str.glued (Str.ofString "") zs).length = _
  rw [StrLaws.glued_eq_join, show Str.ofString "" = ⟨#[]⟩ by decide +kernel]
  induction zs with
  | nil => rfl
  | cons z zs ih => rw [PyProof.Rows.join_nil_cons, len_app, ih, List.map_cons, List.sum_cons]
def Ones (acc : List D) (i : Nat) : Prop := ∃ zs : List Str, acc = zs.map D.str ∧ (zs.map (·.length)).sum ≤ i ∧ zs.length = i
theorem Ones.nil : Ones [] 0 := ⟨[], rfl, Nat.le_refl _, rfl⟩
theorem Ones.snoc {acc : List D} {i : Nat} (h : Ones acc i) {z : Str} (hz : z.length ≤ 1) : Ones (acc ++ [.str z]) (i + 1) := by
  obtain ⟨zs, rfl, h1, h2⟩ := h
  refine ⟨zs ++ [z], by simp, ?_, by simp [h2]⟩
  rw [List.map_append, List.sum_append]
  simp only [List.map_cons, List.map_nil, List.sum_cons, List.sum_nil]
  omega
theorem join_rd {acc : List D} {n : Nat} (h : Ones acc n) (hn : n ≤ 1000) {M : Mem} {Q : VK2} (q : ∀ z : Str, z.length ≤ n → Q (.str z) M) : dJoin3 (.str (Str.ofString "")) acc M Q := by
  obtain ⟨zs, rfl, h1, h2⟩ := h
  show (match strsD (zs.map D.str) with | some ys => (ys.map (·.length)).sum + ys.length * (Str.ofString "").length ≤ 16777216 ∧ Q (.str (Txt.join (Str.ofString "") ys)) M | none => False)
  rw [strsD_map]
  refine ⟨?_, q _ ?_⟩
  · have e : (Str.ofString "").length = 0 := by decide +kernel
    rw [e]
    omega
  · rw [join_len]; exact h1
def plus (as bs : List Int) : List Int := List.zipWith (· + ·) as bs
def spAdd : Sp2 := fun ds M Q => ∃ as bs : List Int, ds = [row as, row bs] ∧ as.length = bs.length ∧ as.length ≤ 1000 ∧ Q (row (plus as bs)) M
theorem zip_at {as bs : List Int} {i : Nat} {d : D} (h : (zipD (as.map D.int) (bs.map D.int))[i]? = some d) : ∃ a b, as[i]? = some a ∧ bs[i]? = some b ∧ d = .tup [.int a, .int b] := by
  unfold zipD at h
  rw [List.getElem?_map] at h
  cases e : ((as.map D.int).zip (bs.map D.int))[i]? with
  | none => rw [e] at h; cases h
  | some p =>
    rw [e] at h
    obtain ⟨e1, e2⟩ := List.getElem?_zip_eq_some.mp e
    rw [List.getElem?_map] at e1 e2
    cases e3 : as[i]? with
    | none => rw [e3] at e1; cases e1
    | some a =>
      cases e4 : bs[i]? with
      | none => rw [e4] at e2; cases e2
      | some b =>
        rw [e3] at e1
        rw [e4] at e2
        have e1 : D.int a = p.1 := Option.some.inj e1
        have e2 : D.int b = p.2 := Option.some.inj e2
        refine ⟨a, b, rfl, rfl, ?_⟩
        rw [e1, e2]
        exact (Option.some.inj h).symm
theorem plus_at {as bs : List Int} {i : Nat} {x y : Int} (h : as[i]? = some x) (q : bs[i]? = some y) : (plus as bs)[i]? = some (x + y) := by
  unfold plus
  rw [List.getElem?_zipWith, h, q]
theorem take_snoc {α : Type} {l : List α} {i : Nat} {a : α} (h : l[i]? = some a) : l.take (i + 1) = l.take i ++ [a] := by
  rw [List.take_add_one, h]
  rfl
theorem zip_len (as bs : List Int) : (zipD (as.map D.int) (bs.map D.int)).length = (plus as bs).length := by rw [zipD_len]; simp [plus]
def less (as : List Int) (i : Nat) : List Int := as.take i ++ [as.getD i 0 - 1] ++ as.drop (i + 1)
theorem less_len {as : List Int} {i : Nat} (h : i < as.length) : (less as i).length = as.length := by
  unfold less
  simp only [List.length_append, List.length_take, List.length_singleton, List.length_drop]
  omega
def spLess : Sp2 := fun ds M Q => ∃ (as : List Int) (i : Nat), ds = [row as, .int i] ∧ i < as.length ∧ as.length ≤ 1000 ∧ Q (row (less as i)) M
def kof (as : List Int) : L2.Ky := (as.sum, as.map fun a => 0 - a)
def spKey : Sp2 := fun ds M Q => ∃ as : List Int, ds = [row as] ∧ as.length ≤ 1000 ∧ Q (.tup [.int as.sum, row (as.map fun a => 0 - a)]) M
def spInOrd : Sp2 := fun ds M Q => ∃ (x : D) (rs : List (List Int)), ds = [x] ∧ (x = .tup (rs.map row) ∨ ∃ l, x = .ref l ∧ M l = some (.lst (rs.map row))) ∧ rs.length < 64 ∧ (∀ r ∈ rs, r.length ≤ 1000) ∧ ∀ out : List (List Int), (∀ r ∈ out, r ∈ rs) → out.length ≤ rs.length → Q (.tup (out.map row)) M
theorem atI_intN {ns : List Int} {i : Nat} (h : i < ns.length) : atI (ns.map D.int) (i : Int) = some (.int (ns.getD i 0)) := by
  refine atI_nat ?_
  simp [List.getD_eq_getElem?_getD, h]
theorem rd_tupleL {p : Addr} {ds : List D} {M : Mem} {Q : VK2} (h : M p = some (.lst ds)) (q : Q (.tup ds) M) : dTuple [.ref p] M Q := by
  show (match lstAt M p with | some ds => Q (.tup ds) M | none => False)
  unfold lstAt
  rw [h]
  exact q
theorem out_in {rs : List (List Int)} {lt : Nat → Nat → Bool} {outD : List D} (h : Out lt (rs.map row) D.non outD) : ∃ out : List (List Int), outD = out.map row ∧ (∀ r ∈ out, r ∈ rs) ∧ out.length = rs.length := by
  obtain ⟨p, p1, p2, rfl⟩ := h
  rw [List.length_map] at p1 p2
  have hmem : ∀ i ∈ p.toList, i < rs.length := fun i hi => by
    have := (Array.Perm.mem_iff p1 (a := i)).mp (by simpa using hi)
    simpa using this
  refine ⟨p.toList.map fun i => rs.getD i [], ?_, fun r hr => ?_, ?_⟩
  · rw [List.map_map]
    refine List.map_congr_left fun i hi => ?_
    have := hmem i hi
    simp [List.getD_eq_getElem?_getD, this]
  · obtain ⟨i, hi, rfl⟩ := List.mem_map.mp hr
    have := hmem i hi
    rw [List.getD_eq_getElem?_getD, List.getElem?_eq_getElem this]
    exact List.getElem_mem this
  · rw [List.length_map, Array.length_toList, p1.size]
theorem back {M M1 : Mem} {v : D} {Q : VK2} (h : ∀ b o, M b = some o → M1 b = some o) (q : Q v M) : fin2 Q v M1 := ⟨M, fun a o e => h a o e, q⟩
theorem mext {M M' : Mem} (h : ∀ b o, M b = some o → M' b = some o) {q : Addr} (n : M' q = none) (x : MO) : ∀ b o, M b = some o → updM M' q x b = some o := fun b o e => by
  rw [updM_ne (fun z => by rw [← z, h b o e] at n; cases n)]
  exact h b o e
theorem atI_ints {ns : List Int} {d : Int} (h0 : 0 ≤ d) (h1 : d < ns.length) : ∃ x, x ∈ ns ∧ atI (ns.map D.int) d = some (.int x) := by
  have hl : d.toNat < ns.length := by omega
  have e : ((d.toNat : Nat) : Int) = d := by omega
  have q : atI (ns.map D.int) ((d.toNat : Nat) : Int) = some (.int ns[d.toNat]) := atI_nat (by simp [hl])
  rw [e] at q
  exact ⟨_, List.getElem_mem hl, q⟩
abbrev HeapS := Str × List (List Int)
def hp0 : HeapS := (Str.ofString "", [])
def heapD (h : HeapS) : D := .tup [.str h.1, .tup (h.2.map row)]
def gameD (g : List HeapS) : D := .tup (g.map heapD)
structure OptR (n i : Nat) (r : List Int) : Prop where
  len : r.length = n
  pos : ∀ x ∈ r, 0 ≤ x
  sum : r.sum ≤ 4
  low : ∀ j, i ≤ j → r.getD j 0 = 0
structure Game (n : Nat) (g : List HeapS) : Prop where
  len : g.length = n
  few : n ≤ 12
  opts : ∀ i, i < n → (g.getD i hp0).2.length ≤ 63 ∧ ∀ r ∈ (g.getD i hp0).2, OptR n i r
def cnts (ns : List Int) (n : Nat) : List Int := (List.range n).map fun (h : Nat) => ((ns.count (h : Int) : Nat) : Int)
theorem cnts_len (ns : List Int) (n : Nat) : (cnts ns n).length = n := by simp [cnts]
theorem cnts_pos {ns : List Int} {n : Nat} : ∀ x ∈ cnts ns n, 0 ≤ x := fun x hx => by
  obtain ⟨h, _, rfl⟩ := List.mem_map.mp hx
  omega
theorem cnts_sum (ns : List Int) : ∀ n : Nat, (cnts ns n).sum = (ns.countP fun x => decide (0 ≤ x ∧ x < (n : Int)) : Nat)
  | 0 => by
    have : ns.countP (fun x => decide (0 ≤ x ∧ x < ((0 : Nat) : Int))) = 0 := List.countP_eq_zero.mpr fun x _ => by simp
    rw [this]
    rfl
  | n + 1 => by
    have ih := cnts_sum ns n
    unfold cnts at ih ⊢
    rw [List.range_succ, List.map_append, List.sum_append, ih]
    simp only [List.map_cons, List.map_nil, List.sum_cons, List.sum_nil]
    have : ns.countP (fun x => decide (0 ≤ x ∧ x < ((n + 1 : Nat) : Int))) = ns.countP (fun x => decide (0 ≤ x ∧ x < (n : Int))) + ns.count (n : Int) := by
      clear ih
      induction ns with
      | nil => rfl
      | cons y ys ih =>
        rw [List.countP_cons, List.countP_cons, List.count_cons, ih]
        generalize List.countP _ ys = A
        generalize List.count _ ys = B
        by_cases h1 : 0 ≤ y ∧ y < (n : Int)
        · have h2 : 0 ≤ y ∧ y < ((n + 1 : Nat) : Int) := by omega
          have h3 : ¬ (y = (n : Int)) := by omega
          rw [if_pos (decide_eq_true h2), if_pos (decide_eq_true h1), if_neg (by simpa using h3)]
          omega
        · by_cases h3 : y = (n : Int)
          · rw [if_pos (decide_eq_true (by omega)), if_neg (by simpa using h1), if_pos (by simpa using h3)]
            omega
          · rw [if_neg (by simp only [decide_eq_true_eq]; omega), if_neg (by simpa using h1), if_neg (by simpa using h3)]
            omega
    rw [this]
    omega
theorem cnts_few {ns : List Int} {n : Nat} : (cnts ns n).sum ≤ ns.length := by
  rw [cnts_sum]
  have := List.countP_le_length (p := fun x => decide (0 ≤ x ∧ x < (n : Int))) (l := ns)
  omega
theorem cnts_low {ns : List Int} {n i : Nat} (h : ∀ x ∈ ns, x < (i : Int)) (j : Nat) (hj : i ≤ j) : (cnts ns n).getD j 0 = 0 := by
  unfold cnts
  rw [List.getD_eq_getElem?_getD, List.getElem?_map]
  by_cases hn : j < n
  · rw [List.getElem?_range hn]
    have : ns.count (j : Int) = 0 := List.count_eq_zero.mpr fun z => by have := h _ z; omega
    simp [this]
  · rw [List.getElem?_eq_none (by simpa using hn)]
    rfl
def spCounts : Sp2 := fun ds M Q => ∃ (a : Addr) (ns : List Int) (n : Nat), ds = [.ref a, .int n] ∧ M a = some (.lst (ns.map D.int)) ∧ n ≤ 1000 ∧ Q (row (cnts ns n)) M
def spSome : Sp2 := fun ds M Q => ∃ (f c : Addr) (n : Nat) (m : Int), ds = [.ref f, .int n, .int m] ∧ Flow M f c ∧ n ≤ 1000 ∧ 0 ≤ m ∧ m ≤ 1000 ∧ ∀ (ns : List Int) (M' : Mem), (ns.length : Int) ≤ m → (∀ x ∈ ns, 0 ≤ x ∧ x < (n : Int)) → Fl f c M M' → Q (row (cnts ns n)) M'
def spGreat : Sp2 := fun ds M Q => ∃ (f c : Addr) (n : Nat), ds = [.ref f, .int n] ∧ Flow M f c ∧ n ≤ 1000 ∧ ∀ (ms : List Int) (M' : Mem), ms.length = n → (∀ x ∈ ms, 0 ≤ x ∧ x ≤ 10 ^ 30) → Fl f c M M' → Q (row ms) M'
def spAnyS : Sp2 := fun ds M Q => ∃ (f c : Addr) (i n : Nat), ds = [.ref f, .int i, .int n] ∧ Flow M f c ∧ i ≤ n ∧ n ≤ 12 ∧ ∀ (os : List (List Int)) (M' : Mem), os.length ≤ 12 → (∀ r ∈ os, OptR n i r) → Fl f c M M' → Q (.tup (os.map row)) M'
theorem flats_strs : ∀ zs : List Str, flats (zs.map D.str) = some (zs.map V.str)
  | [] => rfl
  | z :: zs => by
    rw [List.map_cons]
    show (match flatD (D.str z), flats (zs.map D.str) with | some v, some vs => some (v :: vs) | _, _ => none) = _
    rw [flats_strs zs]
    rfl
theorem inV_strs (z : Str) : ∀ zs : List Str, inV (.str z) (zs.map V.str) = zs.contains z
  | [] => rfl
  | y :: ys => by
    have ih := inV_strs z ys
    unfold inV at ih ⊢
    rw [List.map_cons, List.any_cons, ih, List.contains_cons]
    congr 1
    show (y == z) = (z == y)
    rw [Bool.eq_iff_iff, beq_iff_eq, beq_iff_eq]
    exact eq_comm
theorem inD_strs (z : Str) (zs : List Str) : inD (.str z) (zs.map D.str) = some (zs.contains z) := by
  unfold inD
  rw [flats_strs]
  show some (inV (.str z) (zs.map V.str)) = _
  rw [inV_strs]
theorem mul_one_ok (c : Nat) : MulOk ⟨#[c]⟩ 1 := ⟨by decide, fun _ h => (by have z : true = false := h; cases z), fun _ h => (by have z : true = false := h; cases z)⟩
def backw : List Nat := (Str.ofString "zyxwvutsrqponmlkjihgfedcba").cps.toList
def cand (j : Nat) : Str := Txt.mul ⟨#[backw.getD j 0]⟩ 1
theorem cand_nodup : ((List.range 26).map cand).Nodup := by decide +kernel
theorem nodup_le : ∀ {l zs : List Str}, l.Nodup → (∀ x ∈ l, x ∈ zs) → l.length ≤ zs.length
  | [], zs, _, _ => Nat.zero_le _
  | a :: l, zs, hn, hs => by
    rw [List.nodup_cons] at hn
    have ha : a ∈ zs := hs a (List.mem_cons_self ..)
    have h1 := nodup_le (l := l) (zs := zs.erase a) hn.2 fun x hx => (List.mem_erase_of_ne (fun z => hn.1 (by rw [← z]; exact hx))).mpr (hs x (List.mem_cons_of_mem _ hx))
    rw [List.length_erase_of_mem ha] at h1
    have := List.length_pos_of_mem ha
    rw [List.length_cons]
    omega
theorem cand_few {zs : List Str} {sp : Nat} (h26 : sp ≤ 26) (h : ∀ j, j < sp → cand j ∈ zs) : sp ≤ zs.length := by
  have e : ((List.range sp).map cand).Nodup := by
    refine List.Sublist.nodup (List.Sublist.map cand ?_) cand_nodup
    have : List.range sp = (List.range 26).take sp := by rw [List.take_range, Nat.min_eq_left h26]
    rw [this]
    exact List.take_sublist _ _
  have := nodup_le e (zs := zs) fun x hx => by
    obtain ⟨j, hj, rfl⟩ := List.mem_map.mp hx
    exact h j (by simpa using hj)
  simpa using this
def spNames : Sp2 := fun ds M Q => ∃ (f c : Addr) (n : Nat), ds = [.ref f, .int n] ∧ Flow M f c ∧ n ≤ 12 ∧ ∀ (p : Addr) (zs : List Str) (M' : Mem), zs.length = n → M p = none → M' p = some (.lst (zs.map D.str)) → Fl f c M M' → Q (.ref p) M'
theorem rd_isi {T : String} {d : D} {M : Mem} {Q : VK2} {n : String} {b : Bool} (e : tyNm M d = some n) (hb : isiB n T = b) (q : Q (.bl b) M) : dIsiT T [d, .ty T] M Q := ⟨rfl, by rw [e]; subst hb; exact q⟩
theorem rd_notN {d : D} {M : Mem} {Q : VK2} (h : tyNm M d ≠ some "NoneType") (q : Q (.bl false) M) : dIsN false d .non M Q := by
  cases d with
  | non => exact absurd rfl h
  | _ => exact q
def Sm : Nat → D → Prop
  | 0, x => ∃ i, x = .int i
  | k + 1, x => (∃ i, x = .int i) ∨ ∃ ds, x = .tup ds ∧ ds.length ≤ 1000 ∧ ∀ d ∈ ds, Sm k d
def spAlS (k : Nat) : Sp2 := fun ds M Q => ∃ x, ds = [x, x] ∧ Sm k x ∧ Q (.bl true) M
def spAlLs : Sp2 := fun ds M Q => ∃ (p q : Addr) (es : List D), ds = [.ref p, .ref q] ∧ M p = some (.lst es) ∧ M q = some (.lst es) ∧ es.length ≤ 1000 ∧ (∀ d ∈ es, Sm 2 d) ∧ Q (.bl true) M
theorem atI_any {ds : List D} {i : Nat} (h : i < ds.length) : atI ds (0 + (i : Int)) = some ds[i] := by
  rw [Int.zero_add]
  refine atI_nat ?_
  simp [h]
theorem all_yes : ∀ n : Nat, ((List.replicate n true).all id) = true
  | 0 => rfl
  | n + 1 => by rw [List.replicate_succ, List.all_cons, all_yes n]; rfl
def mvD (as : List Int) (h : Nat) (o : List Int) (k : Nat) : D := .tup [.int (h : Int), .int (k : Int), row (plus (less as h) o)]
def mv1 (as : List Int) (h : Nat) (os : List (List Int)) (i : Nat) : List D := (List.range i).map fun k => mvD as h (os.getD k []) k
def opt (as : List Int) (h : Nat) (l : List D) : List D := if 0 < as.getD h 0 then l else []
def mvs (g : List HeapS) (as : List Int) : Nat → List D
  | 0 => []
  | i + 1 => mvs g as i ++ opt as i (mv1 as i (g.getD i hp0).2 (g.getD i hp0).2.length)
theorem mv1_len (as : List Int) (h : Nat) (os : List (List Int)) (i : Nat) : (mv1 as h os i).length = i := by simp [mv1]
theorem mv1_succ (as : List Int) (h : Nat) (os : List (List Int)) (i : Nat) : mv1 as h os (i + 1) = mv1 as h os i ++ [mvD as h (os.getD i []) i] := by
  unfold mv1
  rw [List.range_succ, List.map_append]
  rfl
theorem Game.at {n : Nat} {g : List HeapS} (G : Game n g) {i : Nat} (hi : i < n) : (g.getD i hp0).2.length ≤ 63 ∧ ∀ r ∈ (g.getD i hp0).2, r.length = n := ⟨(G.opts i hi).1, fun r hr => ((G.opts i hi).2 r hr).len⟩
theorem mvs_len {n : Nat} {g : List HeapS} (G : Game n g) (as : List Int) : ∀ i, i ≤ n → (mvs g as i).length ≤ i * 63
  | 0, _ => by simp [mvs]
  | i + 1, h => by
    have h1 := mvs_len G as i (by omega)
    have h2 := (G.at (i := i) (by omega)).1
    show (mvs g as i ++ opt as i _).length ≤ _
    rw [List.length_append]
    have h3 : (opt as i (mv1 as i (g.getD i hp0).2 (g.getD i hp0).2.length)).length ≤ 63 := by
      unfold opt
      split
      · rw [mv1_len]; exact h2
      · simp
    omega
theorem enum_at {ds : List D} {i : Nat} {d : D} (h : (enumD ds)[i]? = some d) : i < ds.length ∧ d = .tup [.int (i : Int), ds.getD i D.non] := by
  have hi : i < ds.length := by have := (List.getElem?_eq_some_iff.mp h).1; rwa [enumD_len] at this
  refine ⟨hi, ?_⟩
  unfold enumD at h
  rw [List.getElem?_map, List.getElem?_range hi] at h
  exact (Option.some.inj h).symm
theorem getD_heap {g : List HeapS} {i : Nat} (h : i < g.length) : (g.map heapD).getD i D.non = heapD (g.getD i hp0) := by
  simp [List.getD_eq_getElem?_getD, h]
theorem getD_row {os : List (List Int)} {i : Nat} (h : i < os.length) : (os.map row).getD i D.non = row (os.getD i []) := by
  simp [List.getD_eq_getElem?_getD, h]
theorem getD_mem {os : List (List Int)} {i : Nat} (h : i < os.length) : os.getD i [] ∈ os := by
  rw [List.getD_eq_getElem?_getD, List.getElem?_eq_getElem h]
  exact List.getElem_mem _
def Ext (M M' : Mem) : Prop := ∀ b o, M b = some o → M' b = some o
theorem Ext.own {M M' : Mem} (h : Ext M M') {q : Addr} {x : MO} (n : M q = none) : Ext M (updM M' q x) := fun b o e => by
  rw [updM_ne (fun z => by rw [z, n] at e; cases e)]
  exact h b o e
def spMoves : Sp2 := fun ds M Q => ∃ (n : Nat) (g : List HeapS) (as : List Int), ds = [gameD g, row as] ∧ Game n g ∧ as.length = n ∧ ∀ (p : Addr) (M' : Mem), M p = none → M' p = some (.lst (mvs g as n)) → Ext M M' → Q (.ref p) M'
theorem plus_zip (as bs : List Int) : (as.zip bs).map (fun p => D.int (p.1 + p.2)) = (plus as bs).map D.int := by
  unfold plus
  rw [List.zip, List.map_zipWith, List.map_zipWith]
theorem less_set {as : List Int} {h : Nat} (hh : h < as.length) : less as h = as.set h (as.getD h 0 - 1) := by
  unfold less
  rw [List.set_eq_take_append_cons_drop, if_pos hh]
  simp
def spAnyG : Sp2 := fun ds M Q => ∃ (f c : Addr) (m : Nat), ds = [.ref f, .int m] ∧ Flow M f c ∧ m ≤ 12 ∧ ∀ (n : Nat) (g : List HeapS) (M' : Mem), n ≤ m → Game n g → Fl f c M M' → Q (gameD g) M'
theorem rd_lenG {g : List HeapS} {M : Mem} {Q : VK2} (q : Q (.int (g.length : Nat)) M) : dLen [gameD g] M Q := by
  show Q (.int ((g.map heapD).length : Nat)) M
  rw [List.length_map]
  exact q
end KK

namespace HT
open PySem PySem.Spec PyProof.Rows
section
variable {prog : Program} {w : World} {A : Around} {E : Value → Shared → Prop} {s : Shared}
theorem getItem_tuple_whole {t sl : Addr} {items : Array Value} {vl vu : Value} {lo hi : Option Int} {Q : Value → Shared → Prop} (ht : IsTup s.heap t items) (hs : s.heap.IsSliceOf sl vl vu .none) (pl : IsPart vl lo) (pu : IsPart vu hi)
    (hw : sIx items.size 0 lo = 0 ∧ sIx items.size items.size hi = items.size) (h : Q (.ref t) s) : wpAny (model prog w) A (getItem (.ref t) (.ref sl)) Q E s := by
  obtain ⟨os, hos, hcs, hds⟩ := id hs
  have hTs : s.TypeIs (.ref sl) "slice" := ⟨os, hos, hcs⟩
  unfold getItem
  try with_reducible refine wpAny_holding ?_
  first | refine wpAny_bind (wpAny_pure ?_) | skip
  refine wpAny_bind (wpAny_sequenceKey ht.typeIs (by decide) ?_)
  refine wpAny_bind (wpAny_callSpecial?_slot (name := Str.ofString "__getitem__") ht.typeIs PyProof.Rows.slot_tuple_getitem
    (wpAny_call_entry PyProof.Rows.slot_tuple_getitem ht.typeIs entry_tuple_getitem ?_ (args_tuple_getitem _ _)))
  show wpAny _ _ (Builtin.Tuple.tupleItemsOf (.ref t) >>= _) _ _ s
  refine wpAny_bind (tupleItemsOf_ ht ?_)
  refine wpAny_bind (wpAny_typeOf hTs ?_)
  rw [if_pos (by decide)]
  refine wpAny_bind (sliceApplied_gen hs pl pu ?_)
  have hyes : (((sIx items.size 0 lo : Nat) : Int) == 0 && (1 : Int) == 1 && (sIx items.size items.size hi - sIx items.size 0 lo) == items.size) = true := by
    rw [hw.1, hw.2]
    simp
  show wpAny _ _ (if (((sIx items.size 0 lo : Nat) : Int) == 0 && (1 : Int) == 1 && (sIx items.size items.size hi - sIx items.size 0 lo) == items.size) = true then _ else _) _ _ s
  rw [if_pos hyes]
  unfold Builtin.Tuple.tupleIsExact
  refine wpAny_bind (wpAny_bind (wpAny_typeOf ht.typeIs (wpAny_pure ?_)))
  rw [if_pos (by decide)]
  exact wpAny_bind (wpAny_rule (wpAny_pure ⟨_, rfl, wpAny_pure h⟩))
end
end HT
namespace L2
open PySem PySem.Spec PyProof.Rows
section
variable {X : Cx}
theorem sl_tupW : SlR X (fun x lo hi H Q => ∃ a xs, x = .ref a ∧ SqT X.K H a xs ∧ (HT.sIx xs.length 0 lo = 0 ∧ HT.sIx xs.length xs.length hi = xs.length) ∧ Q (.ref a) H) := by
  intro pins s σ H x v vl vu lo hi sl Q I rx hs pl pu h
  obtain ⟨a, xs, rfl, hx, hw, q⟩ := h
  cases rx
  obtain ⟨its, r, ht, hz⟩ := I.tuple hx
  have hlen : its.toArray.size = xs.length := by rw [List.size_toArray]; exact r.length.symm
  exact ⟨"tuple", _, PyProof.Rows.slot_tuple_getitem.lookup, ht.typeIs, HT.getItem_tuple_whole ht hs pl pu (by rw [hlen]; exact hw) ⟨.ref a, H, I, rfl, q⟩⟩
end
end L2
namespace L3
open PySem PySem.Spec L2
section
variable {X : Cx}
def dSlA : D → Option Int → Option Int → Mem → VK2 → Prop := fun x lo hi M Q => match x with
  | .str z => z.length ≤ sizeLine ∧ Q (.str (cutS z lo hi)) M
  | .tup ds => Q (.tup (cutD ds lo hi)) M
  | .ref a => match lstAt M a with
    | some ds => ∀ p, M p = none → Q (.ref p) (updM M p (.lst (cutD ds lo hi)))
    | none => False
  | _ => False
theorem s_slA : SlS X dSlA := by
  obtain ⟨r, h1, h2⟩ := (s_sl : SlS X dSl)
  refine ⟨_, h1.or sl_tupW, fun x d lo hi H M Q2 Q hd hm q k => ?_⟩
  cases d with
  | tup ds =>
    by_cases hw : HT.sIx ds.length 0 lo = 0 ∧ HT.sIx ds.length ds.length hi = ds.length
    · have q : Q2 (.tup (cutD ds lo hi)) M := q
      have e : cutD ds lo hi = ds := by unfold cutD; rw [hw.1, hw.2]; simp
      rw [e] at q
      obtain ⟨p, xs, rfl, h, hx⟩ := dat_tup.mp hd
      exact .inr ⟨p, xs, rfl, h, by rw [hx.length]; exact hw, k _ H _ M (dat_tup.mpr ⟨p, xs, rfl, h, hx⟩) hm (TExt.refl H) q⟩
    · exact .inl (h2 x (.tup ds) lo hi H M Q2 Q hd hm ⟨hw, q⟩ k)
  | str z => exact .inl (h2 x (.str z) lo hi H M Q2 Q hd hm q k)
  | ref a => exact .inl (h2 x (.ref a) lo hi H M Q2 Q hd hm q k)
  | _ => exact q.elim
end
section
variable {M : Mem} {Q : VK2}
theorem cutD_to {ds : List D} {i : Int} (h0 : 0 ≤ i) : cutD ds none (some i) = ds.take i.toNat := by
  unfold cutD
  have e : HT.sIx ds.length ds.length (some i) = min i.toNat ds.length := by
    show (if i < 0 then (i + (ds.length : Int)).toNat else min i.toNat ds.length) = _
    rw [if_neg (by omega)]
  rw [e]
  show (ds.drop 0).take (min i.toNat ds.length - 0) = _
  rw [List.drop_zero, Nat.sub_zero, List.take_eq_take_iff]
  omega
theorem cutD_from {ds : List D} {i : Int} (h0 : 0 ≤ i) : cutD ds (some i) none = ds.drop i.toNat := by
  unfold cutD
  have e : HT.sIx ds.length 0 (some i) = min i.toNat ds.length := by
    show (if i < 0 then (i + (ds.length : Int)).toNat else min i.toNat ds.length) = _
    rw [if_neg (by omega)]
  rw [e]
  show (ds.drop (min i.toNat ds.length)).take (ds.length - min i.toNat ds.length) = _
  rw [List.take_of_length_le (by rw [List.length_drop]; omega)]
  by_cases h : i.toNat ≤ ds.length
  · rw [Nat.min_eq_left h]
  · rw [Nat.min_eq_right (by omega), List.drop_length, List.drop_of_length_le (by omega)]
theorem rd_slATo {ds : List D} {i : Int} (h0 : 0 ≤ i) (q : Q (.tup (ds.take i.toNat)) M) : dSlA (.tup ds) none (some i) M Q := by
  show Q (.tup (cutD ds none (some i))) M
  rw [cutD_to h0]
  exact q
theorem rd_slAFrom {ds : List D} {i : Int} (h0 : 0 ≤ i) (q : Q (.tup (ds.drop i.toNat)) M) : dSlA (.tup ds) (some i) none M Q := by
  show Q (.tup (cutD ds (some i) none)) M
  rw [cutD_from h0]
  exact q
theorem rd_slAS {z : Str} {lo hi : Option Int} (h : z.length ≤ sizeLine) (q : Q (.str (cutS z lo hi)) M) : dSlA (.str z) lo hi M Q := ⟨h, q⟩
theorem rd_slAL {a : Addr} {ds : List D} {lo hi : Option Int} (h : M a = some (.lst ds)) (q : ∀ p, M p = none → Q (.ref p) (updM M p (.lst (cutD ds lo hi)))) : dSlA (.ref a) lo hi M Q := by
  show (match lstAt M a with | some ds => ∀ p, M p = none → Q (.ref p) (updM M p (.lst (cutD ds lo hi))) | none => False)
  unfold lstAt
  rw [h]
  exact q
theorem rd_slALTo {a : Addr} {ds : List D} {i : Int} (h : M a = some (.lst ds)) (h0 : 0 ≤ i) (q : ∀ p, M p = none → Q (.ref p) (updM M p (.lst (ds.take i.toNat)))) : dSlA (.ref a) none (some i) M Q := by
  refine rd_slAL h ?_
  rw [cutD_to h0]
  exact q
end
end L3

namespace L3
open PySem PySem.Spec L2 L5
section
variable {g : TG2} {tt : TT2} {te : TE2} {tb : TS2} {δ δc : St2} {M1 : Mem} {Qe : List D → Mem → Prop} {E : Ends2}
theorem cl_src {src : Src} {ds : List D} (Pv : Nat → List D → Mem → Prop) (h0 : Pv 0 [] M1) (hl : ∀ i acc M, i ≤ ds.length → Pv i acc M → items src M = some ds) (hz : ∀ i acc M, i ≤ ds.length → Pv i acc M → acc.length ≤ sizeLine)
    (hs : ∀ i d acc M, ds[i]? = some d → Pv i acc M → g d δc M fun δ2 M2 => tt δ2 M2 fun b M3 => if b = true then te δ2 M3 fun y M4 => Pv (i + 1) (acc ++ [y]) M4 else Pv (i + 1) acc M3)
    (hd : ∀ acc M, Pv ds.length acc M → Qe acc M) :
    ∃ (B : Nat) (W : Nat → List D → Mem → Prop), W 0 [] M1 ∧ ∀ i acc M, W i acc M → i ≤ B ∧ acc.length ≤ sizeLine ∧ match items src M with
      | none => False
      | some ds => match ds[i]? with
        | none => i = ds.length ∧ Qe acc M
        | some d => g d δc M fun δ2 M2 => tt δ2 M2 fun b M3 => if b = true then te δ2 M3 fun y M4 => W (i + 1) (acc ++ [y]) M4 else W (i + 1) acc M3 := by
  refine ⟨ds.length, fun i acc M => if i ≤ ds.length then Pv i acc M else False, by dsimp only; rw [if_pos (Nat.zero_le _)]; exact h0, ?_⟩
  intro i acc M w
  by_cases hi : i ≤ ds.length
  · rw [if_pos hi] at w
    refine ⟨hi, hz i acc M hi w, ?_⟩
    rw [hl i acc M hi w]
    show (match ds[i]? with
        | none => i = ds.length ∧ Qe acc M
        | some d => g d δc M fun δ2 M2 => tt δ2 M2 fun b M3 => if b = true then te δ2 M3 fun y M4 => (if i + 1 ≤ ds.length then Pv (i + 1) (acc ++ [y]) M4 else False) else (if i + 1 ≤ ds.length then Pv (i + 1) acc M3 else False))
    cases e : ds[i]? with
    | none =>
      have : i = ds.length := Nat.le_antisymm hi (List.getElem?_eq_none_iff.mp e)
      subst this
      exact ⟨rfl, hd acc M w⟩
    | some d =>
      have hlt : i + 1 ≤ ds.length := (List.getElem?_eq_some_iff.mp e).1
      simp only [if_pos hlt]
      exact hs i d acc M e w
  · rw [if_neg hi] at w
    exact w.elim
theorem cl_accS {α β : Type} {src : Src} {xs : List α} (enc : α → D) (enc' : β → D) (I : List β → Mem → Prop) (hn : xs.length ≤ 10000) (h0 : I [] M1) (hl : ∀ ys M, I ys M → items src M = some (xs.map enc))
    (hs : ∀ (i : Nat) (x : α) (ys : List β) (M : Mem) (N : D → Mem → Prop), xs[i]? = some x → ys.length = i → I ys M → (∀ b M', I (ys ++ [b]) M' → N (enc' b) M') → g (enc x) δc M fun δ2 M2 => te δ2 M2 N)
    (hd : ∀ ys M, ys.length = xs.length → I ys M → Qe (ys.map enc') M) :
    ∃ (B : Nat) (W : Nat → List D → Mem → Prop), W 0 [] M1 ∧ ∀ i acc M, W i acc M → i ≤ B ∧ acc.length ≤ sizeLine ∧ match items src M with
      | none => False
      | some ds => match ds[i]? with
        | none => i = ds.length ∧ Qe acc M
        | some d => g d δc M fun δ2 M2 => sYes δ2 M2 fun b M3 => if b = true then te δ2 M3 fun y M4 => W (i + 1) (acc ++ [y]) M4 else W (i + 1) acc M3 := by
  refine cl_src (ds := xs.map enc) (fun i acc M => ∃ ys : List β, acc = ys.map enc' ∧ ys.length = i ∧ I ys M) ⟨[], rfl, rfl, h0⟩ (fun i acc M hi h => ?_) (fun i acc M hi h => ?_) (fun i d acc M hd h => ?_) (fun acc M h => ?_)
  · obtain ⟨ys, rfl, h1, h2⟩ := h
    exact hl ys M h2
  · obtain ⟨ys, rfl, h1, _⟩ := h
    rw [List.length_map] at hi ⊢
    exact szl (by omega)
  · obtain ⟨ys, rfl, h1, h2⟩ := h
    rw [List.getElem?_map] at hd
    cases e : xs[i]? with
    | none => rw [e] at hd; cases hd
    | some x =>
      rw [e] at hd
      cases hd
      refine hs i x ys M _ e h1 h2 fun b M' hb => ⟨ys ++ [b], by rw [List.map_append]; rfl, by simp [h1], hb⟩
  · obtain ⟨ys, rfl, h1, h2⟩ := h
    rw [List.length_map] at h1
    exact hd ys M h1 h2
theorem cl_pureS {α : Type} {src : Src} {xs : List α} (enc out : α → D) (hn : xs.length ≤ 10000) (hl : items src M1 = some (xs.map enc))
    (hs : ∀ (i : Nat) (x : α) (N : D → Mem → Prop), xs[i]? = some x → N (out x) M1 → g (enc x) δc M1 fun δ2 M2 => te δ2 M2 N)
    (hd : Qe (xs.map out) M1) :
    ∃ (B : Nat) (W : Nat → List D → Mem → Prop), W 0 [] M1 ∧ ∀ i acc M, W i acc M → i ≤ B ∧ acc.length ≤ sizeLine ∧ match items src M with
      | none => False
      | some ds => match ds[i]? with
        | none => i = ds.length ∧ Qe acc M
        | some d => g d δc M fun δ2 M2 => sYes δ2 M2 fun b M3 => if b = true then te δ2 M3 fun y M4 => W (i + 1) (acc ++ [y]) M4 else W (i + 1) acc M3 := by
  refine cl_accS (β := α) enc out (fun ys M => M = M1 ∧ ys = xs.take ys.length) hn ⟨rfl, rfl⟩ (fun ys M h => by rw [h.1]; exact hl) (fun i x ys M N hx hy h k => ?_) (fun ys M hy h => ?_)
  · obtain ⟨rfl, h⟩ := h
    refine hs i x N hx (k x M ⟨rfl, ?_⟩)
    rw [List.length_append, List.length_singleton, take_one (a := x) (by rw [hy]; exact hx), ← h]
  · obtain ⟨rfl, h⟩ := h
    rw [hy, List.take_length] at h
    rw [h]
    exact hd
end
def zipF (x y : D) (M : Mem) : Option (List D) := match seqD M x, seqD M y with
  | some xs, some ys => some (zipD xs ys)
  | _, _ => none
def jZipA (ta : TA2) : TI2 := fun δ M R => ta δ M fun ds M1 => match ds with
  | [.tup xs, .tup ys] => R (.fix (zipD xs ys)) M1
  | [x, y] => (∃ zs, zipF x y M1 = some zs) ∧ R (.fn (zipF x y)) M1
  | _ => False
theorem zipF_some {x y : D} {M : Mem} {zs : List D} (h : zipF x y M = some zs) : ∃ xs ys, seqD M x = some xs ∧ seqD M y = some ys ∧ zs = zipD xs ys := by
  unfold zipF at h
  cases e1 : seqD M x with
  | none => rw [e1] at h; cases h
  | some xs =>
    cases e2 : seqD M y with
    | none => rw [e1, e2] at h; cases h
    | some ys => rw [e1, e2] at h; cases h; exact ⟨xs, ys, rfl, rfl, rfl⟩
theorem itok_zipA {K : PySem.W.Frag} {H1 : Hp} {a b : Addr} {x y : D} (hx : Dat K H1 x (.ref a)) (hy : Dat K H1 y (.ref b)) : ItOk K H1 (Itz K (kindB x) (kindB y) a b) (.fn (zipF x y)) := fun H M zs t hm e => by
  obtain ⟨ds, es, e1, e2, rfl⟩ := zipF_some (show zipF x y M = some zs from e)
  obtain ⟨p, xs, e3, q1, x1⟩ := seqD_sq e1 (Dat.mono t x hx) hm
  cases e3
  obtain ⟨p, ys, e3, q2, x2⟩ := seqD_sq e2 (Dat.mono t y hy) hm
  cases e3
  have l1 := x1.length
  have l2 := x2.length
  rw [zipD_len]
  refine ⟨fun i hi => ⟨xs, ys, xs[i]'(by omega), ys[i]'(by omega), q1, q2, by simp, by simp⟩, fun i hi => ⟨xs, ys, q1, q2, by omega⟩, fun i v H' hi z => ?_⟩
  obtain ⟨p, vx, vy, hp, rfl, rfl, hx', hy'⟩ := z
  obtain ⟨d, d1, d2⟩ := x1.getV (hx' xs q1)
  obtain ⟨e, e1, e2⟩ := x2.getV (hy' ys q2)
  refine ⟨TExt.laid hp, hm.laid hp, .tup [d, e], ?_, tup_new hp (dats_cons.mpr ⟨vx, [vy], rfl, d2, Dats.one e2⟩)⟩
  obtain ⟨z1, w1⟩ := List.getElem?_eq_some_iff.mp d1
  obtain ⟨z2, w2⟩ := List.getElem?_eq_some_iff.mp e1
  simp [zipD, hi, w1, w2, z1, z2]
section
variable {X : Cx} {es : List Expr} {k0 : _} {tpos : Pos} {a b : Expr} {ta : TA2} {p pos : Pos}
theorem qi_zipA (hg : Gl X "zip") (hm : X.mg "zip" = none) (ha : QA X [a, b] ta) (hs : starEach [a, b] X.env = [(false, eval a X.env), (false, eval b X.env)] := by rfl) (hs2 : starEach [b] X.env = [(false, eval b X.env)] := by rfl) :
    QI X (.Tuple es k0 tpos) (.Call (.Name "zip" p) [a, b] [] pos) (jZipA ta) := piImp (pi_zip hg hm ha hs hs2) fun σ H R ⟨δ, M, R2, hs, hm, q, k⟩ => by
  refine ⟨δ, M, _, hs, hm, q, fun xs H1 ds M1 hd hm1 t1 q1 => ?_⟩
  have go : ∀ x y, ds = [x, y] → (∃ zs, zipF x y M1 = some zs) → (∀ J, ItOk X.K H1 J (.fn (zipF x y)) → R J H1) → ∃ (b1 b2 : Bool) (l m : Addr), xs = [.ref l, .ref m] ∧ (∃ xs, Sq b1 X.K H1 l xs) ∧ (∃ ys, Sq b2 X.K H1 m ys) ∧ R (Itz X.K b1 b2 l m) H1 := by
    rintro x y rfl ⟨zs, hz⟩ hR
    obtain ⟨vx, r, rfl, hx, hr⟩ := dats_cons.mp hd
    obtain ⟨vy, r, rfl, hy, hr⟩ := dats_cons.mp hr
    cases (dats_nil.mp hr)
    obtain ⟨xs, ys, e1, e2, _⟩ := zipF_some hz
    obtain ⟨p, vs, rfl, q1, _⟩ := seqD_sq e1 hx hm1
    obtain ⟨p2, ws, rfl, q2, _⟩ := seqD_sq e2 hy hm1
    exact ⟨_, _, p, p2, rfl, ⟨vs, q1⟩, ⟨ws, q2⟩, hR _ (itok_zipA hx hy)⟩
  match ds, q1 with
  | [x, y], q1 =>
    by_cases ht : ∃ xs ys, x = .tup xs ∧ y = .tup ys
    · obtain ⟨xs, ys, rfl, rfl⟩ := ht
      refine go _ _ rfl ⟨_, rfl⟩ fun J hJ => k J H1 (.fix (zipD xs ys)) M1 (fun H M ds t hm e => hJ H M ds t hm e) hm1 t1 q1
    · have q2 : (∃ zs, zipF x y M1 = some zs) ∧ R2 (.fn (zipF x y)) M1 := by
        cases x <;> first | exact q1 | (cases y <;> first | exact q1 | exact absurd ⟨_, _, rfl, rfl⟩ ht)
      exact go x y rfl q2.1 fun J hJ => k J H1 _ M1 hJ hm1 t1 q2.2
  | [], q1 => exact q1.elim
  | [x], q1 => cases x <;> exact q1.elim
  | x :: y :: z :: r, q1 => cases x <;> first | exact q1.elim | (cases y <;> exact q1.elim)
end
end L3
namespace L4
open PySem PySem.Spec L2 L3 L5
section
variable {X : Cx} {es : List Expr} {k0 : _} {tpos : Pos} {a b : Expr} {ta : TA2} {p pos : Pos}
theorem wi_zipA (hg : Gl X "zip") (hm : X.mg "zip" = none) (ha : WA X [a, b] ta) (hs : starEach [a, b] X.env = [(false, eval a X.env), (false, eval b X.env)] := by rfl) (hs2 : starEach [b] X.env = [(false, eval b X.env)] := by rfl) :
    WI X (.Tuple es k0 tpos) (.Call (.Name "zip" p) [a, b] [] pos) (jZipA ta) := ⟨qi_zipA hg hm ha.h hs hs2⟩
end
end L4

namespace L3
open PySem PySem.Spec L2 L5 PyProof.Rows
section
variable {M : Mem} {Q : VK2}
end
section
variable {X : Cx}
theorem mem_reads {A : Around} {s : Shared} {v : Value} {y : PyData} {bs : List Addr} (ry : Reads s.heap v y bs) (cy : y.canLay0 = true) (hu : A.units + y.depth < cLine) : ∀ {ds : List D} {us : List Value} {as : List Addr}, ReadsAll s.heap us (toPs ds) as → PyData.canLayAll0 (toPs ds) = true →
    ∃ e : Value → Bool, (∀ u ∈ us, SeqAt.EqAt A s u v (e u)) ∧ us.map e = ds.map fun d => PyData.eqv (toP d) y := by
  intro ds us as ra cl
  refine ⟨fun u => PyData.eqv (SeqAt.readOf s.heap u) y, fun u hu' => ?_, ?_⟩
  · obtain ⟨d, bs', rd, cd, _⟩ := SeqAt.readsAll_mem _ _ _ cl ra u hu'
    have e := SeqAt.readOf_eq cd rd
    dsimp only
    rw [e]
    exact SeqAt.eqAt_reads d y A s u v _ _ rd ry cd cy (by omega)
  · have e := SeqAt.readsAll_map _ _ _ cl ra
    have f : ∀ (us : List Value) (ds : List D), us.map (SeqAt.readOf s.heap) = toPs ds → us.map (fun u => PyData.eqv (SeqAt.readOf s.heap u) y) = ds.map fun d => PyData.eqv (toP d) y := by
      intro us
      induction us with
      | nil =>
        intro ds q
        cases ds with
        | nil => rfl
        | cons d r => unfold toPs at q; cases q
      | cons u us ih =>
        intro ds q
        cases ds with
        | nil => unfold toPs at q; cases q
        | cons d r =>
          unfold toPs at q
          rw [List.map_cons] at q
          injection q with q1 q2
          rw [List.map_cons, List.map_cons, ih r q2, q1]
    exact f us ds e
structure InOk (K : PySem.W.Frag) (H : Hp) (b : Bool) (p : Addr) (xs : List V) (ds : List D) (x : V) (d : D) : Prop where
  sq : Sq b K H p xs
  dats : Dats K H ds xs
  dat : Dat K H d x
  ns : nrs ds = true
  n : nr d = true
  lays : PyData.canLayAll0 (toPs ds) = true
  lay : (toP d).canLay0 = true
  dep : (toP d).depth < 62
theorem any_map {α : Type} (us : List α) (e : α → Bool) (bs : List Bool) (h : us.map e = bs) : us.any e = bs.any id := by
  rw [← h, List.any_map]
  rfl
theorem op_inD (neg : Bool) (hu : X.A.units + 64 < cLine) : OpR X (compareOp (if neg then .NotIn else .In)) (fun x y H Q => ∃ (b : Bool) (p : Addr) (xs : List V) (ds : List D) (d : D), y = .ref p ∧ InOk X.K H b p xs ds x d ∧ Q (.bl (if neg then !ds.any (fun e => PyData.eqv (toP e) (toP d)) else ds.any fun e => PyData.eqv (toP e) (toP d))) H) := by
  intro pins s σ H x y v u Q I rx ry h
  obtain ⟨b, p, xs, ds, d, rfl, ok, q⟩ := h
  cases ry
  obtain ⟨bs, rb⟩ := rdD I d ok.n ok.dat rx
  have hd := ok.dep
  cases b with
  | false =>
    obtain ⟨its, r, pl, hz⟩ := I.list ok.sq
    obtain ⟨as, ra⟩ := rdDs I ds ok.ns ok.dats r
    obtain ⟨e, e1, e2⟩ := mem_reads (A := X.A.in1) rb ok.lay (by show X.A.units + 1 + _ < _; omega) ra ok.lays
    have e3 : its.toArray.any e = ds.any fun e => PyData.eqv (toP e) (toP d) := by
      rw [show its.toArray.any e = its.any e by simp, any_map _ _ _ e2, List.any_map]
      rfl
    cases neg with
    | false => exact SeqAt.in_listAt e pl.isList (fun w hw => e1 w (by simpa using hw)) ⟨.bl _, H, I, rfl, by rw [e3]; exact q⟩
    | true => exact SeqAt.notIn_listAt e pl.isList (fun w hw => e1 w (by simpa using hw)) ⟨.bl _, H, I, rfl, by rw [e3]; exact q⟩
  | true =>
    obtain ⟨its, r, pl, hz⟩ := I.tuple ok.sq
    obtain ⟨as, ra⟩ := rdDs I ds ok.ns ok.dats r
    obtain ⟨e, e1, e2⟩ := mem_reads (A := X.A.in1) rb ok.lay (by show X.A.units + 1 + _ < _; omega) ra ok.lays
    have e3 : its.toArray.any e = ds.any fun e => PyData.eqv (toP e) (toP d) := by
      rw [show its.toArray.any e = its.any e by simp, any_map _ _ _ e2, List.any_map]
      rfl
    cases neg with
    | false => exact SeqAt.in_tupleAt e pl (fun w hw => e1 w (by simpa using hw)) ⟨.bl _, H, I, rfl, by rw [e3]; exact q⟩
    | true => exact SeqAt.notIn_tupleAt e pl (fun w hw => e1 w (by simpa using hw)) ⟨.bl _, H, I, rfl, by rw [e3]; exact q⟩
end
end L3

namespace L2
open PySem PySem.Spec PyProof.Rows L5
section
variable {X : Cx}
end
end L2
namespace L3
open PySem PySem.Spec L2 L5 PyProof.Rows
section
variable {X : Cx}
def dSum3 : List D → Mem → VK2 → Prop := fun ds M Q => ∃ ns : List Int, ds = ns.map D.int ∧ Q (.int ns.sum) M
theorem tmp_sum : TmpOf dSum dSum3 := fun ds M p Q hp hz q => by
  obtain ⟨ns, rfl, q⟩ := q
  exact ⟨.ref p, _, ns, rfl, lstAt_upd, rfl, M, (MSub.refl M).put hp, q⟩
def dRepL : R22 := fun x y M Q => ∃ l k ds, x = .ref l ∧ y = .int k ∧ M l = some (.lst ds) ∧ -(2 ^ 63) ≤ k ∧ k < 2 ^ 63 ∧ ds.length * k.toNat ≤ sizeLine ∧ ∀ p, M p = none → Q (.ref p) (updM M p (.lst (List.replicate k.toNat ds).flatten))
def dMulB : R22 := fun x y M Q => dMulA x y M Q ∨ dRepL x y M Q
theorem o_mulB : OpS X (binaryOp .Mult) dMulB := o_mulA.or ⟨_, op_rep, fun x y d e H M Q2 Q hd he hm q k => by
  obtain ⟨l, n, ds, rfl, rfl, hM, h1, h2, hz, q⟩ := q
  cases (dat_ref.mp hd)
  cases (dat_int.mp he)
  obtain ⟨xs, hx, hdx⟩ := hm l _ hM
  exact ⟨l, n, xs, rfl, rfl, hx, h1, h2, by rw [hdx.length]; exact hz, fun p hp => k _ _ (.ref p) _ (dat_ref.mpr rfl) (lst_new hp (dats_rep hdx n.toNat) hm) (TExt.laid hp) (q p (hm.free hp))⟩⟩
structure InD (M : Mem) (x y : D) (ds : List D) : Prop where
  sq : seqD M y = some ds
  ns : nrs ds = true
  n : nr x = true
  lays : PyData.canLayAll0 (toPs ds) = true
  lay : (toP x).canLay0 = true
  dep : (toP x).depth < 62
def dInP (neg : Bool) : R22 := fun x y M Q => ∃ ds, InD M x y ds ∧ Q (.bl (if neg then !ds.any (fun e => PyData.eqv (toP e) (toP x)) else ds.any fun e => PyData.eqv (toP e) (toP x))) M
theorem o_inP (neg : Bool) (hu : X.A.units + 64 < cLine) : OpS X (compareOp (if neg then .NotIn else .In)) (dInP neg) := ⟨_, op_inD neg hu, fun x y d e H M Q2 Q hd he hm q k => by
  obtain ⟨ds, ok, q⟩ := q
  obtain ⟨p, xs, rfl, q1, x1⟩ := seqD_sq ok.sq he hm
  exact ⟨_, p, xs, ds, d, rfl, ⟨q1, x1, hd, ok.ns, ok.n, ok.lays, ok.lay, ok.dep⟩, k _ H _ M (dat_bl.mpr rfl) hm (TExt.refl H) q⟩⟩
def dInA : R22 := fun x y M Q => dIn x y M Q ∨ dInP false x y M Q
theorem o_inA (hu : X.A.units + 64 < cLine) : OpS X (compareOp .In) dInA := o_in.or (o_inP false hu)
end
theorem tup3_lift {K : PySem.W.Frag} {i j l : Nat} : ∀ v σ H Q, upG K (hTup 3 (hCons (hName i) (hCons (hName j) (hCons (hName l) hNil)))) v σ H Q → gTup K 3 (gCons (gName i) (gCons (gName j) (gCons (gName l) gNil))) v σ H Q := fun v σ H Q ⟨d, δ, M, Q2, hd, hs, hm, q, k⟩ => by
  cases d with
  | tup ds =>
    obtain ⟨p, xs, rfl, hq, hx⟩ := dat_tup.mp hd
    obtain ⟨hl, q⟩ := q
    match ds, hl, hx, q with
    | [a, b, c], hl, hx, q =>
      obtain ⟨x, r, rfl, ha, hx⟩ := dats_cons.mp hx
      obtain ⟨y, r, rfl, hb, hx⟩ := dats_cons.mp hx
      obtain ⟨z, r, rfl, hc, hx⟩ := dats_cons.mp hx
      cases (dats_nil.mp hx)
      exact ⟨p, [x, y, z], rfl, hq, rfl, x, [y, z], rfl, y, [z], rfl, z, [], rfl, rfl, k _ H _ M (((hs.set ha).set hb).set hc) hm (TExt.refl H) q⟩
  | _ => exact q.elim
section
variable {X : Cx} {scope : Scope} {tgs : List Str} {fr : List Nat}
theorem tc_tup3 {i j l k : Nat} {x y z : Str} {px py pz pt : Pos} (h : ∀ cl C fp s H, PG (cxBlk X scope cl tgs fr C fp s H) (.Tuple [.Name x px, .Name y py, .Name z pz] k pt) (gTup X.K 3 (gCons (gName i) (gCons (gName j) (gCons (gName l) gNil))))) (hi : i < tgs.length) (hj : j < tgs.length) (hl : l < tgs.length) :
    TgC X scope tgs fr (.Tuple [.Name x px, .Name y py, .Name z pz] k pt) (hTup 3 (hCons (hName i) (hCons (hName j) (hCons (hName l) hNil)))) :=
  ⟨_, h, gk_tup (gk_cons (gk_name hi) (gk_cons (gk_name hj) (gk_cons (gk_name hl) gk_nil gm_name gm_nil) gm_name (gm_cons gm_name gm_nil)) gm_name (gm_cons gm_name (gm_cons gm_name gm_nil))), tup3_lift⟩
end
end L3
namespace L4
open PySem PySem.Spec L2 L3 L5
section
variable {X : Cx} {scope : Scope} {tgs : List Str} {fr : List Nat}
theorem wtc_tup3 {i j l k : Nat} {x y z : Str} {px py pz pt : Pos} (h : ∀ cl C fp s H, PG (cxBlk X scope cl tgs fr C fp s H) (.Tuple [.Name x px, .Name y py, .Name z pz] k pt) (gTup X.K 3 (gCons (gName i) (gCons (gName j) (gCons (gName l) gNil))))) (hi : i < tgs.length) (hj : j < tgs.length) (hl : l < tgs.length) :
    WTgC X scope tgs fr (.Tuple [.Name x px, .Name y py, .Name z pz] k pt) (hTup 3 (hCons (hName i) (hCons (hName j) (hCons (hName l) hNil)))) := ⟨tc_tup3 h hi hj hl⟩
end
end L4
namespace L3
open PySem PySem.Spec L2 L5 PyProof.Rows
section
variable {M : Mem} {Q : VK2}
theorem rd_tup3 {i j l : Nat} {a b c : D} {δ : St2} {N : St2 → Mem → Prop} (h : N (((δ.set i (some a)).set j (some b)).set l (some c)) M) : hTup 3 (hCons (hName i) (hCons (hName j) (hCons (hName l) hNil))) (.tup [a, b, c]) δ M N := ⟨rfl, h⟩
theorem rd_sum3 {ns : List Int} (q : Q (.int ns.sum) M) : dSum3 (ns.map D.int) M Q := ⟨ns, rfl, q⟩
theorem rd_mulbI {i j : Int} (h : CMul i j) (q : Q (.int (i * j)) M) : dMulB (.int i) (.int j) M Q := .inl (rd_mulaI h q)
theorem rd_mulbS {i : Str} {j : Int} (h : MulOk i j) (q : Q (.str (Txt.mul i j)) M) : dMulB (.str i) (.int j) M Q := .inl (rd_mulaS h q)
theorem rd_mulbT {d : D} {k : Int} (h0 : 0 ≤ k) (h1 : k ≤ 10000) (q : Q (.tup (List.replicate k.toNat d)) M) : dMulB (.tup [d]) (.int k) M Q := .inl (rd_mulaT h0 h1 q)
theorem rd_inaT {x : D} {ds : List D} {b : Bool} (e : inD x ds = some b) (q : Q (.bl b) M) : dInA x (.tup ds) M Q := .inl (rd_inT e q)
theorem rd_inaL {x : D} {a : Addr} {ds : List D} {b : Bool} (h : M a = some (.lst ds)) (e : inD x ds = some b) (q : Q (.bl b) M) : dInA x (.ref a) M Q := .inl (rd_inL h e q)
theorem seqD_ref {a : Addr} {ds : List D} (h : M a = some (.lst ds)) : seqD M (.ref a) = some ds := by
  show lstAt M a = some ds
  unfold lstAt
  rw [h]
end
end L3

namespace L5
open PySem PyProof.Rows
abbrev dfl (d : Value) : List (Str × Value) := [(Str.ofString "default", d)]
theorem args_maxD (a d : Value) : argsOk "max" ⟨[a], dfl d⟩ := by unfold argsOk; kernel_rfl
section
variable {prog : Program} {w : World} {A : Around} {R : Result → Shared → Prop} {I : Addr} {fp wr : List Addr} {n : Nat} {P : Nat → Value → Prop} {St : Nat → Heap → Prop} {d : Value}
theorem nm_max : (toString "max" ++ toString ".loop" : String) = "max.loop" := by decide
abbrev bestObj (xs : Array Value) (c : Nat) : Obj := { cls := .type "list", dict := none, data := .seq xs c, slots := #[] }
theorem maxD_end (W : Walks prog w A.in1 I fp wr n P St) {S : Addr} (hSw : S ∉ wr) {s : Shared} {vb : Value} {c : Nat} (hst : St n s.heap) (hS : s.heap.get? S = some (bestObj #[vb, vb] c))
    (hR : ∀ h' tk, (∀ b o, b ∉ wr → b ≠ S → s.heap.get? b = some o → h'.get? b = some o) → R (.ok (.ret vb)) { s with heap := h', toks := tk }) :
    codeAny (model prog w) A (.builtin "max.loop" ⟨[.ref I, .none, .ref S], dfl d⟩) R s := by
  refine codeAny_builtin F.entry_max_loop ?_; rw [Around.under_plainId F.plain_max_loop _]
  show wpAny _ A.in1 (seqItems? (.ref S) >>= _) _ _ s; refine wpAny_bind (wpAny_seqItems hS rfl ?_)
  show wpAny _ A.in1 (tryCatch (pyNext (.ref I)) _ >>= _) _ _ s; refine wpAny_bind (wpAny_tryCatch (W.done s _ _ hst fun h' tk hk => ?_))
  have hS' := hk S _ hSw hS; show wpAny _ A.in1 (updateSeq S (fun _ => #[]) >>= _) _ _ _; refine wpAny_bind (wpAny_updateSeq hS' rfl (wpAny_bind (wpAny_letGo (wpAny_pure ?_))))
  exact hR _ tk fun b o hbw hbS e => (Heap.get?_update_other _ _ (Ne.symm hbS)).trans (hk b o hbw e)
theorem maxD_loop (W : Walks prog w A.in1 I fp wr n P St) (bt : Nat → Nat → Bool) (hcmp : CmpOf prog w A.in1 .Gt P bt) (S : Addr) (hSf : S ∉ fp) :
    ∀ (k j : Nat) (s : Shared) (vb : Value) (c : Nat), n - (j + 1) = k → j + 1 ≤ n → St (j + 1) s.heap → P (argBest bt j) vb → s.heap.get? S = some (bestObj #[vb, vb] c) →
    (∀ v h' tk, P (argBest bt (n - 1)) v → (∀ b o, b ∉ wr → b ≠ S → s.heap.get? b = some o → h'.get? b = some o) → R (.ok (.ret v)) { s with heap := h', toks := tk }) →
    codeAny (model prog w) A (.builtin "max.loop" ⟨[.ref I, .none, .ref S], dfl d⟩) R s := by
  have hSw : S ∉ wr := fun h => hSf (W.sub _ h)
  intro k
  induction k with
  | zero =>
    intro j s vb c hk hj hst hPb hS hR
    have e : j + 1 = n := by omega
    exact maxD_end W hSw (e ▸ hst) hS fun h' tk q => hR vb h' tk (by rw [← e]; exact hPb) q
  | succ k ih =>
    intro j s vb c hk hj hst hPb hS hR
    have hlt : j + 1 < n := by omega
    refine codeAny_builtin F.entry_max_loop ?_; rw [Around.under_plainId F.plain_max_loop _]
    show wpAny _ A.in1 (seqItems? (.ref S) >>= _) _ _ s; refine wpAny_bind (wpAny_seqItems hS rfl ?_)
    show wpAny _ A.in1 (tryCatch (pyNext (.ref I)) _ >>= _) _ _ s; refine wpAny_bind (wpAny_tryCatch (W.item (j + 1) s _ _ hlt hst fun v h' tk hP hst' hk' => ?_))
    have hS' := hk' S _ hSw hS; show wpAny _ A.in1 (tryCatch (holding [v, v] (richCompare .Gt v vb >>= _)) _ >>= _) _ _ _
    refine wpAny_bind (wpAny_tryCatch (wpAny_holding (wpAny_bind (hcmp (j + 1) (argBest bt j) v vb _ _ _ hP hPb (wpAny_bind (wpAny_holding (wpAny_truthy_bool (wpAny_bind (wpAny_letGo (wpAny_pure ?_)))))))))); cases hb : bt (j + 1) (argBest bt j) with
    | true =>
      simp only [if_true]; refine wpAny_bind (wpAny_updateSeq hS' rfl (wpAny_bind (wpAny_letGo ?_))); rw [nm_max]
      refine wpAny_pure ⟨plainId_quiet F.plain_max_loop _, ih (j + 1) _ v _ (by omega) hlt (W.frame _ _ _ hst' fun b hbf o e => (Heap.get?_update_other _ _ (fun h : S = b => hSf (by rw [h]; exact hbf))).trans e) (by simp only [argBest, hb, if_true]; exact hP) (Heap.get?_update_self _ hS' rfl) fun v' h2 t2 hP' hk2 => ?_⟩
      exact hR v' h2 t2 hP' fun b o hbw hbS e => hk2 b o hbw hbS ((Heap.get?_update_other _ _ (Ne.symm hbS)).trans (hk' b o hbw e))
    | false =>
      simp only [Bool.false_eq_true, if_false]; refine wpAny_bind (wpAny_letGo ?_); rw [nm_max]
      exact wpAny_pure ⟨plainId_quiet F.plain_max_loop _, ih (j + 1) _ vb c (by omega) hlt hst' (by simp only [argBest, hb, Bool.false_eq_true, if_false]; exact hPb) hS' fun v' h2 t2 hP' hk2 => hR v' h2 t2 hP' fun b o hbw hbS e => hk2 b o hbw hbS (hk' b o hbw e)⟩
theorem maxD_first (W : Walks prog w A.in1 I fp wr n P St) (bt : Nat → Nat → Bool) (hcmp : CmpOf prog w A.in1 .Gt P bt) (S : Addr) (hSf : S ∉ fp) {s : Shared} {c : Nat} (hst : St 0 s.heap) (hS : s.heap.get? S = some (bestObj #[] c))
    (h0 : n = 0 → ∀ h' tk, (∀ b o, b ∉ wr → b ≠ S → s.heap.get? b = some o → h'.get? b = some o) → R (.ok (.ret d)) { s with heap := h', toks := tk })
    (hR : 0 < n → ∀ v h' tk, P (argBest bt (n - 1)) v → (∀ b o, b ∉ wr → b ≠ S → s.heap.get? b = some o → h'.get? b = some o) → R (.ok (.ret v)) { s with heap := h', toks := tk }) :
    codeAny (model prog w) A (.builtin "max.loop" ⟨[.ref I, .none, .ref S], dfl d⟩) R s := by
  have hSw : S ∉ wr := fun h => hSf (W.sub _ h)
  refine codeAny_builtin F.entry_max_loop ?_; rw [Around.under_plainId F.plain_max_loop _]
  show wpAny _ A.in1 (seqItems? (.ref S) >>= _) _ _ s; refine wpAny_bind (wpAny_seqItems hS rfl ?_)
  show wpAny _ A.in1 (tryCatch (pyNext (.ref I)) _ >>= _) _ _ s; by_cases hn : 0 < n
  · refine wpAny_bind (wpAny_tryCatch (W.item 0 s _ _ hn hst fun v h' tk hP hst' hk' => ?_))
    have hS' := hk' S _ hSw hS; show wpAny _ A.in1 (updateSeq S (fun _ => #[v, v]) >>= _) _ _ _; refine wpAny_bind (wpAny_updateSeq hS' rfl ?_); rw [nm_max]
    refine wpAny_pure ⟨plainId_quiet F.plain_max_loop _, maxD_loop W bt hcmp S hSf _ 0 _ v _ rfl hn (W.frame _ _ _ hst' fun b hbf o e => (Heap.get?_update_other _ _ (fun h : S = b => hSf (by rw [h]; exact hbf))).trans e) hP (Heap.get?_update_self _ hS' rfl) fun v' h2 t2 hP' hk2 => ?_⟩
    exact hR hn v' h2 t2 hP' fun b o hbw hbS e => hk2 b o hbw hbS ((Heap.get?_update_other _ _ (Ne.symm hbS)).trans (hk' b o hbw e))
  · have e : n = 0 := by omega
    refine wpAny_bind (wpAny_tryCatch (W.done s _ _ (e ▸ hst) fun h' tk hk => ?_))
    exact wpAny_bind (wpAny_rule (wpAny_pure (h0 e h' tk fun b o hbw _ q => hk b o hbw q)))
end
end L5

namespace L5
open PySem PyProof.Rows
theorem bind_maxD (d : Value) : Builtin.Builtins.bindParams "max" ["key", "default"] 0 ⟨[], dfl d⟩ = pure [none, some d] := by kernel_rfl
section
variable {prog : Program} {w : World} {A : Around} {E : Value → Shared → Prop} {s : Shared}
theorem call_tree_kw {id : String} {b : Builtin} {args : List Value} {kw : List (Str × Value)} {Q : Value → Shared → Prop} (hk : builtinKind id = none) (hp : plainId id = true) (hb : entryFor table id = some b) (ha : argsOk id ⟨args, kw⟩)
    (hc : wpAny (model prog w) A.in1 (b ⟨args, kw⟩) (fun fin s' => match fin with
      | .done f => (match (Except.ok f : Result) with | .ok (.ret v) => Q v s' | .ok _ => False | .error e => E e s')
      | .again c' => c'.quiet = true ∧ codeAny (model prog w) A c' (fun r s' => match r with | .ok (.ret v) => Q v s' | .ok _ => False | .error e => E e s') s') E s) : wpAny (model prog w) A (call (.builtin id) args kw) Q E s := by
  refine wpAny_call (codeAny_call_builtin hp hb ?_); simp only [checkBuiltinCall, hk]; cases hsig : Manifest.signature? id with
  | none => exact wpAny_pure hc
  | some sig => have ha' : Bind.checkArgs id sig ⟨args, kw⟩ = pure () := by { simpa only [argsOk, hsig] using ha }; simp only [ha']; exact wpAny_pure hc
theorem call_maxD (hA : A.in1.handled = none) {l : Addr} {its : List Value} {ns : List Int} {d : Value} {Q : Value → Shared → Prop} (hl : s.heap.IsList l its.toArray) (hi : IntsAre its ns)
    (h0 : ns = [] → ∀ h' tk, (∀ b o, s.heap.get? b = some o → h'.get? b = some o) → Q d { s with heap := h', toks := tk })
    (hR : ∀ m t h' tk, m ∈ ns → (∀ x ∈ ns, x ≤ m) → (∀ b o, s.heap.get? b = some o → h'.get? b = some o) → Q (.int m t) { s with heap := h', toks := tk }) :
    wpAny (model prog w) A (call (.builtin "max") [.ref l] (dfl d)) Q E s := by
  have hlt : l < s.heap.objs.size := by obtain ⟨o, e, _⟩ := hl; exact Heap.lt_size e
  have hne : l ≠ s.heap.objs.size := Nat.ne_of_lt hlt
  have hlen : its.length = ns.length := hi.length
  refine call_tree_kw F.kind_max F.plain_max F.entry_max (args_maxD _ _) ?_
  show wpAny _ A.in1 (Builtin.Builtins.bindParams "max" ["key", "default"] 0 ⟨[], dfl d⟩ >>= _) _ _ s
  refine wpAny_bind (wpAny_of_eq (bind_maxD d) (wpAny_bind (wpAny_pure ?_)))
  refine wpAny_bind (wpAny_pyIter_list hl (wpAny_bind (wpAny_newObj_type ?_)))
  rw [nm_max]
  have hval : ∀ i v, its.toArray[i]? = some v → ∃ t, v = Value.int (ns.getD i 0) t := fun i v e => by
    have e : its[i]? = some v := by simpa using e
    have h1 : i < ns.length := by rw [← hlen]; exact (List.getElem?_eq_some_iff.mp e).1
    obtain ⟨t, e2⟩ := L2.ints_at hi h1
    rw [e] at e2
    cases e2
    exact ⟨t, by simp [List.getD_eq_getElem?_getD, h1]⟩
  have sz : (s.heap.push { cls := .type "list_iterator", data := .fields #[.ref l, .int 0 0] }).objs.size = s.heap.objs.size + 1 := Heap.size_push ..
  have W := Walks.list (prog := prog) (w := w) hA s.heap.objs.size l hne its.toArray
  refine wpAny_pure ⟨plainId_quiet F.plain_max_loop _, maxD_first (d := d) W (fun i j => decide (ns.getD i 0 > ns.getD j 0)) (CmpOf.ints_gt _ hval) _ ?_ ?_ (Heap.get?_push_size _ rfl) ?_ ?_⟩
  · show (s.heap.push { cls := .type "list_iterator", data := .fields #[.ref l, .int 0 0] }).objs.size ∉ _
    rw [sz]
    simp only [List.mem_cons, List.not_mem_nil, or_false, not_or]
    exact ⟨Nat.succ_ne_self _, Nat.ne_of_gt (Nat.lt_succ_of_lt hlt)⟩
  · refine W.frame _ _ _ ⟨⟨_, Heap.get?_push_size _ rfl, rfl, rfl⟩, hl.at fun o e => Heap.get?_push_of_some _ e⟩ fun b _ o e => Heap.get?_push_of_some _ e
  · intro hn h' tk hk
    have e : ns = [] := List.length_eq_zero_iff.mp (by rw [← hlen]; simpa using hn)
    refine h0 e h' tk fun b o q => hk b o ?_ ?_ (Heap.get?_push_of_some _ (Heap.get?_push_of_some _ q))
    · simpa using Nat.ne_of_lt (Heap.lt_size q)
    · have := Heap.lt_size q
      show b ≠ (s.heap.push _).objs.size
      rw [sz]
      exact Nat.ne_of_lt (Nat.lt_succ_of_lt (Heap.lt_size q))
  · intro hn v h' tk hP hk
    have hn : 0 < its.length := by simpa using hn
    obtain ⟨b1, b2⟩ := argBest_gt (fun i => ns.getD i 0) (its.length - 1)
    obtain ⟨t, rfl⟩ := hval _ _ hP
    have hm : argBest (fun i j => decide (ns.getD i 0 > ns.getD j 0)) (its.toArray.size - 1) < ns.length := by simp only [List.size_toArray]; omega
    refine hR _ t h' tk ?_ ?_ fun b o q => hk b o ?_ ?_ (Heap.get?_push_of_some _ (Heap.get?_push_of_some _ q))
    · rw [List.getD_eq_getElem?_getD, List.getElem?_eq_getElem hm]
      exact List.getElem_mem _
    · intro x hx
      obtain ⟨j, hj, rfl⟩ := List.mem_iff_getElem.mp hx
      have := b2 j (by omega)
      simp only [List.size_toArray]
      simpa [List.getD_eq_getElem?_getD, hj] using this
    · simpa using Nat.ne_of_lt (Heap.lt_size q)
    · have := Heap.lt_size q
      show b ≠ (s.heap.push _).objs.size
      rw [sz]
      exact Nat.ne_of_lt (Nat.lt_succ_of_lt (Heap.lt_size q))
end
end L5
namespace L2
open PySem PySem.Spec PyProof.Rows L5
def maxI (d : Int) : List Int → Int
  | [] => d
  | n :: ns => ns.foldl max n
theorem foldl_max : ∀ (ns : List Int) (n : Int), n ≤ ns.foldl max n ∧ (∀ x ∈ ns, x ≤ ns.foldl max n) ∧ (ns.foldl max n = n ∨ ns.foldl max n ∈ ns)
  | [], n => ⟨Int.le_refl _, (fun x h => by cases h), .inl rfl⟩
  | m :: ns, n => by
    obtain ⟨h1, h2, h3⟩ := foldl_max ns (max n m)
    rw [List.foldl_cons]
    refine ⟨by omega, fun x hx => ?_, ?_⟩
    · rcases List.mem_cons.mp hx with rfl | hx
      · omega
      · exact h2 x hx
    · rcases h3 with h3 | h3
      · by_cases e : n ≤ m
        · exact .inr (by rw [h3]; simp [Int.max_eq_right e])
        · exact .inl (by rw [h3]; omega)
      · exact .inr (List.mem_cons_of_mem _ h3)
theorem maxI_of {d : Int} {ns : List Int} {m : Int} (h1 : m ∈ ns) (h2 : ∀ x ∈ ns, x ≤ m) : maxI d ns = m := by
  cases ns with
  | nil => cases h1
  | cons n ns =>
    obtain ⟨g1, g2, g3⟩ := foldl_max ns n
    show ns.foldl max n = m
    refine Int.le_antisymm ?_ ?_
    · rcases g3 with g3 | g3
      · rw [g3]; exact h2 n (List.mem_cons_self ..)
      · exact h2 _ (List.mem_cons_of_mem _ g3)
    · rcases List.mem_cons.mp h1 with rfl | h1
      · exact g1
      · exact g2 m h1
section
variable {X : Cx} {e c : Expr} {te tc : TE} {p pos kp : Pos}
theorem pe_maxD (hc : X.calm = true) (hg : Gl X "max") (hm : X.mg "max" = none) (he : PE X e te) (hd : PE X c tc)
    (hs : starEach [e] X.env = [(false, eval e X.env)] := by rfl) (hs1 : backTo pos (starEach [e] X.env) = (false, eval e X.env) :: backTo pos (starEach [] X.env) := by rfl) (hs2 : (backTo pos (starEach [e] X.env)).any (·.1) = false := by rfl) : PE X (.Call (.Name "max" p) [e] [⟨some "default", c, kp⟩] pos) (fun σ H Q => te σ H fun x H1 => tc σ H1 fun y H2 => ∃ (l : Addr) (ns : List Int) (d : Int), x = .ref l ∧ y = .int d ∧ SqL X.K H2 l (ns.map V.int) ∧ Q (.int (maxI d ns)) H2) := by
  intro pins s σ H Q I h
  refine wpAny_Call_Name_kw (ld_blt I hg hm PyProof.Rows.boot_max ?_ (by decide) (by decide))
  refine PyProof.Rows.callWith_kw (thn ((pa_cons he pa_nil (by rw [hs]; rfl)) pos pins s σ H (fun vs H1 => match vs with | [x] => tc σ H1 (fun y H2 => ∃ (l : Addr) (ns : List Int) (d : Int), x = .ref l ∧ y = .int d ∧ SqL X.K H2 l (ns.map V.int) ∧ Q (.int (maxI d ns)) H2) | _ => False) I h) fun us s1 ⟨vs, H1, I1, r1, q1⟩ => ?_) hs1 hs2
  cases vs with
  | nil => exact q1.elim
  | cons x vs =>
    cases vs with
    | cons _ _ => exact q1.elim
    | nil =>
    refine thn ((pk_cons hd pk_nil) pos pins s1 σ H1 (fun vs H2 => match vs with | [y] => ∃ (l : Addr) (ns : List Int) (d : Int), x = .ref l ∧ y = .int d ∧ SqL X.K H2 l (ns.map V.int) ∧ Q (.int (maxI d ns)) H2 | _ => False) I1 q1) fun ws s2 ⟨zs, H2, I2, rz, e2⟩ => ?_
    cases zs with
    | nil => exact e2.elim
    | cons y zs =>
      cases zs with
      | cons _ _ => exact e2.elim
      | nil =>
      obtain ⟨l, ns, d, rfl, rfl, hl, q⟩ := e2
      obtain ⟨u, rfl, ru⟩ := vals1 r1
      obtain ⟨v, rfl, t, rfl⟩ := vals1 rz
      cases (show u = Value.ref l from ru)
      obtain ⟨its, rv, pl, hz⟩ := I2.list hl
      refine call_maxD (I2.ok.hd hc) pl.isList (intsAre_of rv) (fun e h' tk hk => ?_) (fun m t h' tk m1 m2 hk => ?_)
      · subst e
        exact ⟨.int d, H2, I2.kept (t' := tk) hk, ⟨_, rfl⟩, q⟩
      · rw [maxI_of m1 m2] at q
        exact ⟨.int m, H2, I2.kept (t' := tk) hk, ⟨_, rfl⟩, q⟩
end
end L2

namespace L3
open PySem PySem.Spec L2 L5 PyProof.Rows
def sMaxC (k : Int) (wi : TI2) (g : TG2) (tt : TT2) (te : TE2) (n : Nat) (fr : List Nat) : TE2 := fun δ M Q => sCompL wi g tt te n fr δ M fun ds M' => ∃ ns : List Int, ds = ns.map D.int ∧ Q (.int (maxI k ns)) M'
def dMaxL (k : Int) (d : D) (M : Mem) (Q : VK2) : Prop := ∃ (l : Addr) (ns : List Int), d = .ref l ∧ M l = some (.lst (ns.map D.int)) ∧ Q (.int (maxI k ns)) M
def sMaxL (k : Int) (te : TE2) : TE2 := fun δ M Q => te δ M fun d M1 => dMaxL k d M1 Q
section
variable {X : Cx} {scope : Scope} {tgs : List Str} {fr : List Nat} {tg elt iter e : Expr} {ifs : List Expr} {p pos kp cpos ipos : Pos} {wi : TI2} {g : TG2} {tt : TT2} {te : TE2} {k : Int} {j : _}
theorem q_maxC (hc : X.calm = true) (hg : Gl X "max") (hm : X.mg "max" = none) (C : CompOk X scope tgs fr tg iter ifs elt wi g tt te)
    (hs : ∀ x, foldedSetIterable iter X.env x = pure x := by intro _; rfl)
    (hs0 : starEach [.ListComp elt [⟨tg, iter, ifs, 0⟩] scope cpos] X.env = [(false, eval (.ListComp elt [⟨tg, iter, ifs, 0⟩] scope cpos) X.env)] := by rfl) (hs1 : backTo pos (starEach [.ListComp elt [⟨tg, iter, ifs, 0⟩] scope cpos] X.env) = (false, eval (.ListComp elt [⟨tg, iter, ifs, 0⟩] scope cpos) X.env) :: backTo pos (starEach [] X.env) := by rfl)
    (hs2 : (backTo pos (starEach [.ListComp elt [⟨tg, iter, ifs, 0⟩] scope cpos] X.env)).any (·.1) = false := by rfl) :
    QE X (.Call (.Name "max" p) [.ListComp elt [⟨tg, iter, ifs, 0⟩] scope cpos] [⟨some "default", .Constant (.int k) j ipos, kp⟩] pos) (sMaxC k wi g tt te tgs.length fr) := by
  obtain ⟨B, hc', hE, hi, ⟨gv, hgt, gk, gl⟩, ht, he⟩ := C
  refine peImp (pe_maxD hc hg hm (pe_comp (tt := upT X.K tt) (te := up X.K te) B hc' hE hi hgt gk ht he hs) pe_int hs0 hs1 hs2) ?_
  rintro σ H Q ⟨δ, M, Q2, hs, hm, q, kk⟩
  show tComp (upI X.K wi) gv (upT X.K tt) (up X.K te) tgs.length fr σ H _
  refine comp_lift gl hs hm q fun acc xs H' M' p hda hm' t' hz hp q' => ?_
  obtain ⟨ns, rfl, q'⟩ := q'
  rw [dats_intsV hda]
  exact ⟨p, ns, k, rfl, rfl, SqL.of upd_same, kk _ _ (.int _) M' (dat_int.mpr rfl) (hm'.laid hp) (t'.trans (TExt.laid hp)) q'⟩
theorem q_maxL (hc : X.calm = true) (hg : Gl X "max") (hm : X.mg "max" = none) (he : QE X e te)
    (hs : starEach [e] X.env = [(false, eval e X.env)] := by rfl) (hs1 : backTo pos (starEach [e] X.env) = (false, eval e X.env) :: backTo pos (starEach [] X.env) := by rfl) (hs2 : (backTo pos (starEach [e] X.env)).any (·.1) = false := by rfl) :
    QE X (.Call (.Name "max" p) [e] [⟨some "default", .Constant (.int k) j ipos, kp⟩] pos) (sMaxL k te) := by
  refine peImp (pe_maxD hc hg hm he pe_int hs hs1 hs2) ?_
  rintro σ H Q ⟨δ, M, Q2, hs, hm, q, kk⟩
  refine ⟨δ, M, _, hs, hm, q, fun x H1 d M1 hd hm1 t1 q1 => ?_⟩
  obtain ⟨l, ns, rfl, hM, q1⟩ := q1
  cases (dat_ref.mp hd)
  obtain ⟨ys, hy, hd2⟩ := hm1 l _ hM
  rw [dats_intsV hd2] at hy
  exact ⟨l, ns, k, rfl, rfl, SqL.of hy, kk _ _ (.int _) M1 (dat_int.mpr rfl) hm1 t1 q1⟩
end
section
variable {δ : St2} {M : Mem} {Q : VK2} {wi : TI2} {g : TG2} {tt : TT2} {te : TE2} {n : Nat} {fr : List Nat} {k : Int}
theorem rd_maxC (h : sCompL wi g tt te n fr δ M fun ds M' => ∃ ns : List Int, ds = ns.map D.int ∧ Q (.int (maxI k ns)) M') : sMaxC k wi g tt te n fr δ M Q := h
theorem rd_maxL (h : te δ M fun d M1 => dMaxL k d M1 Q) : sMaxL k te δ M Q := h
theorem rd_maxLL {l : Addr} {ns : List Int} (hM : M l = some (.lst (ns.map D.int))) (q : Q (.int (maxI k ns)) M) : dMaxL k (.ref l) M Q := ⟨l, ns, rfl, hM, q⟩
end
end L3
namespace L4
open PySem PySem.Spec L2 L3 L5
section
variable {X : Cx} {scope : Scope} {tgs : List Str} {fr : List Nat} {tg elt iter e : Expr} {ifs : List Expr} {p pos kp cpos ipos : Pos} {wi : TI2} {g : TG2} {tt : TT2} {te : TE2} {k : Int} {j : _}
theorem w_maxC (hc : X.calm = true) (hg : Gl X "max") (hm : X.mg "max" = none) (C : WCompOk X scope tgs fr tg iter ifs elt wi g tt te)
    (hs : ∀ x, foldedSetIterable iter X.env x = pure x := by intro _; rfl)
    (hs0 : starEach [.ListComp elt [⟨tg, iter, ifs, 0⟩] scope cpos] X.env = [(false, eval (.ListComp elt [⟨tg, iter, ifs, 0⟩] scope cpos) X.env)] := by rfl) (hs1 : backTo pos (starEach [.ListComp elt [⟨tg, iter, ifs, 0⟩] scope cpos] X.env) = (false, eval (.ListComp elt [⟨tg, iter, ifs, 0⟩] scope cpos) X.env) :: backTo pos (starEach [] X.env) := by rfl)
    (hs2 : (backTo pos (starEach [.ListComp elt [⟨tg, iter, ifs, 0⟩] scope cpos] X.env)).any (·.1) = false := by rfl) :
    WE X (.Call (.Name "max" p) [.ListComp elt [⟨tg, iter, ifs, 0⟩] scope cpos] [⟨some "default", .Constant (.int k) j ipos, kp⟩] pos) (sMaxC k wi g tt te tgs.length fr) := ⟨q_maxC hc hg hm C.h hs hs0 hs1 hs2⟩
theorem w_maxL (hc : X.calm = true) (hg : Gl X "max") (hm : X.mg "max" = none) (he : WE X e te)
    (hs : starEach [e] X.env = [(false, eval e X.env)] := by rfl) (hs1 : backTo pos (starEach [e] X.env) = (false, eval e X.env) :: backTo pos (starEach [] X.env) := by rfl) (hs2 : (backTo pos (starEach [e] X.env)).any (·.1) = false := by rfl) :
    WE X (.Call (.Name "max" p) [e] [⟨some "default", .Constant (.int k) j ipos, kp⟩] pos) (sMaxL k te) := ⟨q_maxL hc hg hm he.h hs hs1 hs2⟩
end
end L4

namespace L3
open PySem PySem.Spec L2 L5 PyProof.Rows
section
variable {X : Cx} {pos : Pos} {te : TE2}
end
def enumK (R : Src → Mem → Prop) (ds : List D) (M1 : Mem) : Prop := match ds with
  | [.tup xs] => R (.fix (enumD xs)) M1
  | [x] => (∃ zs, seqD M1 x = some zs) ∧ R (.fn (enumF x)) M1
  | _ => False
theorem rd_enumq {ta : TA2} {δ : St2} {M : Mem} {R : Src → Mem → Prop} (h : ta δ M (enumK R)) : jEnum ta δ M R := h
theorem rd_enumT {xs : List D} {M : Mem} {R : Src → Mem → Prop} (h : R (.fix (enumD xs)) M) : enumK R [.tup xs] M := h
def zipK (R : Src → Mem → Prop) (ds : List D) (M1 : Mem) : Prop := match ds with
  | [.tup xs, .tup ys] => R (.fix (zipD xs ys)) M1
  | [x, y] => (∃ zs, zipF x y M1 = some zs) ∧ R (.fn (zipF x y)) M1
  | _ => False
theorem rd_zipq {ta : TA2} {δ : St2} {M : Mem} {R : Src → Mem → Prop} (h : ta δ M (zipK R)) : jZipA ta δ M R := h
theorem rd_zipTT {xs ys : List D} {M : Mem} {R : Src → Mem → Prop} (h : R (.fix (zipD xs ys)) M) : zipK R [.tup xs, .tup ys] M := h
theorem rd_zipTL {xs ys : List D} {a : Addr} {M : Mem} {R : Src → Mem → Prop} (hM : M a = some (.lst ys)) (h : R (.fn (zipF (.tup xs) (.ref a))) M) : zipK R [.tup xs, .ref a] M := ⟨⟨zipD xs ys, by unfold zipF; rw [seqD_ref hM]; rfl⟩, h⟩
section
variable {g : TG2} {tt : TT2} {te : TE2} {δ δc : St2} {M1 : Mem} {Qe : List D → Mem → Prop}
abbrev enD {α : Type} (enc : α → D) (p : α × Nat) : D := .tup [.int (p.2 : Int), enc p.1]
theorem cl_enum {α : Type} {xs : List α} {enc : α → D} (out : α × Nat → D) (hn : xs.length ≤ 10000)
    (hs : ∀ (i : Nat) (x : α) (N : D → Mem → Prop), xs[i]? = some x → N (out (x, i)) M1 → g (enD enc (x, i)) δc M1 fun δ2 M2 => te δ2 M2 N)
    (hd : Qe (xs.zipIdx.map out) M1) :
    ∃ (B : Nat) (W : Nat → List D → Mem → Prop), W 0 [] M1 ∧ ∀ i acc M, W i acc M → i ≤ B ∧ acc.length ≤ sizeLine ∧ match items (.fix (enumD (xs.map enc))) M with
      | none => False
      | some ds => match ds[i]? with
        | none => i = ds.length ∧ Qe acc M
        | some d => g d δc M fun δ2 M2 => sYes δ2 M2 fun b M3 => if b = true then te δ2 M3 fun y M4 => W (i + 1) (acc ++ [y]) M4 else W (i + 1) acc M3 := by
  rw [enum_map]
  refine cl_pure (xs := xs.zipIdx) (enc := enD enc) out (by rw [List.length_zipIdx]; exact hn) (fun i x N hx hN => ?_) hd
  rw [List.getElem?_zipIdx] at hx
  cases e : xs[i]? with
  | none => rw [e] at hx; cases hx
  | some y =>
    rw [e] at hx
    have : (y, 0 + i) = x := Option.some.inj hx
    rw [Nat.zero_add] at this
    subst this
    exact hs i y N e hN
end
end L3
namespace L4
open PySem PySem.Spec L2 L3 L5
section
variable {X : Cx} {pos : Pos} {te : TE2}
end
end L4

namespace KK
open PySem L3 L4 L5
open L2 hiding x_ix s_sl
local macro_rules | `(tactic| walk_at "mem") => `(tactic| first | assumption | exact updM_same | (rw [updM_ne (by assumption)]; assumption) | (rw [updM_ne (by assumption), updM_ne (by assumption)]; assumption) | (rw [updM_ne (by assumption)]; exact updM_same))
local macro_rules | `(tactic| walk_at "rd1") => `(tactic| first
  | with_reducible refine rd_seq ?_ | with_reducible refine rd_ifs ?_ | with_reducible refine rd_next ?_ | with_reducible refine rd_ret ?_ | with_reducible refine rd_asg ?_ | with_reducible refine rd_drop ?_ | with_reducible refine rd_name ?_ | with_reducible refine rd_sub ?_
  | with_reducible refine rd_test ?_ | with_reducible refine rd_op ?_ | with_reducible refine rd_un ?_ | ((with_reducible refine' rd_var ?k1 ?_); (case k1 => rfl)) | with_reducible refine rd_c ?_ | with_reducible refine rd_and ?_ | with_reducible refine rd_or ?_ | with_reducible refine rd_not ?_
  | with_reducible refine rd_andV ?_ | with_reducible refine rd_orV ?_ | with_reducible refine rd_notV ?_ | with_reducible refine rd_ifE ?_ | with_reducible refine rd_chain ?_ | with_reducible refine rd_nil ?_ | with_reducible refine rd_cons ?_ | with_reducible refine rd_tup ?_ | with_reducible refine rd_lst ?_
  | with_reducible refine rd_tmp ?_ | with_reducible refine rd_tmpM ?_ | with_reducible refine rd_comp ?_ | with_reducible refine rd_compL ?_ | with_reducible refine rd_for ?_ | with_reducible refine rd_rng1 ?_ | with_reducible refine rd_anyq ?_ | with_reducible refine rd_anyT ?_ | with_reducible refine rd_anyF ?_ | with_reducible refine rd_anyS ?_ | ((with_reducible refine' rd_anyL ?k1 ?_); (case k1 => walk_at "mem")) | with_reducible refine rd_yes ?_
  | with_reducible refine rd_strs ?_ | with_reducible refine rd_cb ?_ | with_reducible refine rd_d ?_ | with_reducible refine rd_sl ?_ | with_reducible refine rd_nopart ?_ | with_reducible refine rd_part ?_ | with_reducible refine rd_bm ?_ | with_reducible refine rd_bm0 ?_
  | ((with_reducible refine rd_mod ?k1 ?_); (case k1 => first | assumption | decide)) | ((with_reducible refine rd_div ?k1 ?k2 ?_); (case k1 => first | assumption | decide); (case k2 => first | assumption | decide | omega)) | ((with_reducible refine rd_mulbI ?k1 ?_); (case k1 => exact cmul_r (by decide) (by decide))) | with_reducible refine rd_zipq ?_ | with_reducible refine rd_zipTT ?_ | ((with_reducible refine' rd_zipTL ?k1 ?_); (case k1 => walk_at "mem")) | with_reducible refine rd_tup3 ?_ | with_reducible refine rd_max2 ?_ | with_reducible refine rd_intAB ?_ | with_reducible refine rd_intAI ?_ | with_reducible refine rd_maxC ?_ | with_reducible refine rd_maxL ?_ | ((with_reducible refine' rd_augI ?k1 ?_); (case k1 => rfl)) | with_reducible refine rd_rng2 ?_ | with_reducible refine rd_inaS ?_ | ((with_reducible refine' rd_maxLL ?k1 ?_); (case k1 => walk_at "mem"))
  | with_reducible refine rd_i0 ?_ | with_reducible refine rd_addaI ?_ | with_reducible refine rd_enumq ?_ | with_reducible refine rd_enumT ?_ | ((with_reducible refine' rd_enumL ?k1 ?_); (case k1 => walk_at "mem")) | with_reducible refine rd_sortD ?_ | with_reducible refine rd_leI ?_ | with_reducible refine rd_leS ?_ | with_reducible refine rd_eqaI ?_ | with_reducible refine rd_eqaB ?_ | with_reducible refine rd_eqaS ?_ | with_reducible refine rd_neaI ?_ | with_reducible refine rd_neaB ?_ | with_reducible refine rd_tup2 ?_ | with_reducible refine rd_sort ?_ | with_reducible refine rd_min ?_ | with_reducible refine rd_int ?_ | with_reducible refine rd_neg ?_ | with_reducible refine rd_lenT ?_ | with_reducible refine rd_notInS ?_
  | ((with_reducible refine' rd_ixL ?k1 ?k2 ?_); (case k1 => walk_at "mem"); (case k2 => rfl)) | ((with_reducible refine' rd_ixT ?k2 ?_); (case k2 => rfl)) | ((with_reducible refine' rd_lenL ?k1 ?_); (case k1 => walk_at "mem"))
  | ((with_reducible refine' rd_set ?k1 ?k2 ?_); (case k1 => walk_at "mem"); (case k2 => rfl))
  | with_reducible refine rd_iteNT ?_ | with_reducible refine rd_iteNF ?_ | with_reducible refine rd_iteT ?_ | with_reducible refine rd_iteF ?_)
local macro_rules | `(tactic| walk_at "rd") => `(tactic| repeat (walk_at "rd1"))
def top (i : Nat) : Stmt := PySem.Challenge.pw_lastloser_k06_whole_longest_plays.main.body.getD i (.Pass ⟨0, 0, 0, 0⟩)
structure Blt (K : PySem.W.Frag) (mg : Str → Option Value) : Prop where
  all : mg "all" = none
  bool : mg "bool" = none
  dict : mg "dict" = none
  enumerate : mg "enumerate" = none
  int : mg "int" = none
  isinstance : mg "isinstance" = none
  len : mg "len" = none
  list : mg "list" = none
  max : mg "max" = none
  min : mg "min" = none
  range : mg "range" = none
  sorted : mg "sorted" = none
  str : mg "str" = none
  sum : mg "sum" = none
  tuple : mg "tuple" = none
  zip : mg "zip" = none
  i_bool : IsiOk K "bool"
  i_int : IsiOk K "int"
  i_list : IsiOk K "list"
  i_str : IsiOk K "str"
  i_tuple : IsiOk K "tuple"
def spLaw : Sp2 := fun ds M Q => ∃ ns : List Int, ds = [.fl (ns.map D.int)] ∧ ∀ M', Q (.bl true) M'
section
variable {P : Program} {w : World} {K : PySem.W.Frag} {mg : Str → Option Value} {base : Heap}
theorem sc_law_pick : FnScope ["_law_flow_here", "_law_many", "_law_cell", "_law_digit"] ["_law_flow_here", "_law_many"] (defScope (top 9)) := ⟨rfl, rfl, rfl, by decide +kernel, rfl, by decide +kernel, by decide +kernel⟩
theorem ok_pick {f : Addr} {fd : FuncData} (F : Fun K "_law_pick" "_law_pick" (top 9) f fd) (T : Blt K mg) : FnOk P w K mg base CX0 1 f fd ["_law_flow_here", "_law_many"] (upSp K spPick) := by
  refine ok3 F sc_law_pick (fun ds M Q h => ?_) (fun cdv A outer s H E ds M Q hr h => ?_)
  · obtain ⟨a, c, n, rfl, _⟩ := h
    rfl
  · obtain ⟨a, c, n, rfl, ⟨ns, p, b, sd, ct, hf, hc, hne, hp, hb, hs0, hs1⟩, hn0, hn1, k⟩ := h
    refine ⟨_, (wss_cons (ws_if (ww_and (wt_cmp (o_eqA hr.units) (w_ix x_ix (w_v 0) w_int (fun _ _ => rfl)) w_int (nomark _)) (ww_and1 (wt_cmp o_lt (w_ix x_ix (w_v 0) w_int (fun _ _ => rfl)) (w_callB c_len (by rfl) T.len (by decide +kernel) (wa_cons (w_ix x_ix (w_v 0) w_int (fun _ _ => rfl)) wa_nil)) (nomark _)))).pt
  (wss_cons (ws_set (i := 2) sc_law_pick.nd rfl (Or.inl rfl) (w_ix x_ix (w_ix x_ix (w_v 0) w_int (fun _ _ => rfl)) (w_ix x_ix (w_v 0) w_int (fun _ _ => rfl)) (fun _ _ => rfl)))
  (wss_cons (ws_asg (w_op o_addA (w_ix x_ix (w_v 0) w_int (fun _ _ => rfl)) w_int) (wg_sub (w_v 0) w_int s_set))
  (wss_one (ws_if (wt_cmp o_ge (w_v 2) (w_op o_pow w_int w_int) (nomark _))
  (wss_one (ws_asg (w_v 2) (wg_sub (w_v 0) w_int s_set)))
  (wss_one (ws_asg (w_op o_mod (w_op o_addA (w_op o_addA (w_op o_mulB (w_ix x_ix (w_v 0) w_int (fun _ _ => rfl)) w_int) (w_op o_mod (w_v 2) w_int)) w_int) w_int) (wg_sub (w_v 0) w_int s_set)))))))
  wss_nil)
  (wss_cons (ws_if (wt_cmp o_gt (w_ix x_ix (w_v 0) w_int (fun _ _ => rfl)) w_int (nomark _))
  (wss_cons (ws_set (i := 3) sc_law_pick.nd rfl (Or.inl rfl) (w_op o_mod (w_ix x_ix (w_v 0) w_int (fun _ _ => rfl)) (w_v 1)))
  (wss_cons (ws_asg (w_op o_fdiv (w_ix x_ix (w_v 0) w_int (fun _ _ => rfl)) (w_v 1)) (wg_sub (w_v 0) w_int s_set))
  (wss_one (ws_ret (w_v 3)))))
  wss_nil)
  (wss_cons (ws_asg (w_op o_addA (w_ix x_ix (w_v 0) w_int (fun _ _ => rfl)) w_int) (wg_sub (w_v 0) w_int s_set))
  (wss_cons (ws_asg (w_op o_mod (w_op o_addA (w_op o_addA (w_op o_mulB (w_ix x_ix (w_v 0) w_int (fun _ _ => rfl)) w_int) w_int) (w_ix x_ix (w_v 0) w_int (fun _ _ => rfl))) w_int) (wg_sub (w_v 0) w_int s_set))
  (wss_one (ws_ret (w_op o_mod (w_op o_fdiv (w_op o_mod (w_op o_mulB (w_op o_addA (w_op o_mod (w_ix x_ix (w_v 0) w_int (fun _ _ => rfl)) w_int) w_int) (w_op o_addA (w_op o_fdiv (w_ix x_ix (w_v 0) w_int (fun _ _ => rfl)) w_int) w_int)) w_int) w_int) (w_v 1)))))))), ?_⟩
    refine rd_cut (fun δ' M' => ∃ (p b sd ct : Int) (v : Option D), δ' = [some (.ref a), some (.int n), v, none] ∧ M' = updM M a (.lst (flowL c p b sd ct)) ∧ 0 ≤ p ∧ 0 ≤ b ∧ 0 ≤ sd ∧ sd < 2147483647) (fun N hN => ?_) ?_
    · walk_at "rd"
      refine rd_iteP (fun hb0 => ?_) (fun hb0 => ?_)
      · walk_at "rd"
        refine rd_iteP (fun hpl => ?_) (fun hpl => ?_)
        · obtain ⟨x, hx⟩ : ∃ x : Int, atI (ns.map D.int) p = some (.int x) := by
            have hl : p.toNat < ns.length := by rw [List.length_map] at hpl; omega
            refine ⟨ns[p.toNat], ?_⟩
            have e : ((p.toNat : Nat) : Int) = p := by omega
            have q : atI (ns.map D.int) ((p.toNat : Nat) : Int) = some (.int ns[p.toNat]) := atI_nat (by simp [hl])
            rw [e] at q
            exact q
          walk_at "rd"
          refine rd_ixL hc hx ?_
          walk_at "rd"
          refine rd_i ⟨by decide, by decide, by decide⟩ ?_
          walk_at "rd"
          refine rd_iteP (fun hbig => ?_) (fun hbig => ?_)
          · walk_at "rd"
            rw [updM_updM]
            refine hN _ _ ⟨p + 1, x, sd, ct, _, rfl, rfl, by omega, ?_, hs0, hs1⟩
            have hbig : (10 : Int) ^ (18 : Int).toNat ≤ x := hbig
            have e : (10 : Int) ^ (18 : Int).toNat = 1000000000000000000 := by decide
            omega
          · walk_at "rd"
            rw [updM_updM]
            refine hN _ _ ⟨p + 1, b, _, ct, _, rfl, rfl, by omega, hb, Int.emod_nonneg _ (by decide), Int.emod_lt_of_pos _ (by decide)⟩
        · walk_at "rd"
          exact hN _ _ ⟨p, b, sd, ct, none, rfl, (updM_self hf).symm, hp, hb, hs0, hs1⟩
      · walk_at "rd"
        exact hN _ _ ⟨p, b, sd, ct, none, rfl, (updM_self hf).symm, hp, hb, hs0, hs1⟩
    · rintro δ' M' ⟨p, b, sd, ct, v, rfl, rfl, hp, hb, hs0, hs1⟩
      walk_at "rd"
      refine rd_iteP (fun hb0 => ?_) (fun hb0 => ?_)
      · walk_at "rd"
        rw [updM_updM]
        refine fin2_same (k _ _ (Int.emod_nonneg _ (by omega)) (Int.emod_lt_of_pos _ hn0) ⟨ns, p, _, sd, ct, updM_same, by rw [updM_ne hne]; exact hc, hne, hp, Int.ediv_nonneg hb (by omega), hs0, hs1⟩)
      · walk_at "rd"
        refine rd_mulbI (cmul_l ?_ ?_) ?_
        · have := Int.emod_nonneg ((sd * 48271 + 12820163 + (ct + 1)) % 2147483647) (show (65521 : Int) ≠ 0 by decide)
          omega
        · have := Int.emod_lt_of_pos ((sd * 48271 + 12820163 + (ct + 1)) % 2147483647) (show (0 : Int) < 65521 by decide)
          omega
        walk_at "rd"
        rw [updM_updM, updM_updM]
        exact fin2_same (k _ _ (Int.emod_nonneg _ (by omega)) (Int.emod_lt_of_pos _ hn0) ⟨ns, p, b, _, _, updM_same, by rw [updM_ne hne]; exact hc, hne, hp, hb, Int.emod_nonneg _ (by decide), Int.emod_lt_of_pos _ (by decide)⟩)
theorem sc_law_flow : FnScope ["_law_script"] ["_law_script"] (defScope (top 8)) := ⟨rfl, rfl, rfl, by decide +kernel, rfl, by decide +kernel, by decide +kernel⟩
theorem ok_flow {f : Addr} {fd : FuncData} (F : Fun K "_law_flow" "_law_flow" (top 8) f fd) (T : Blt K mg) : FnOk P w K mg base CX0 1 f fd ["_law_script"] (upSp K spFlow) := by
  refine ok3 F sc_law_flow (fun ds M Q h => ?_) (fun cdv A outer s H E ds M Q hr h => ?_)
  · obtain ⟨a, rfl, _⟩ := h
    rfl
  · obtain ⟨ns, rfl, k⟩ := h
    refine ⟨_, (wss_one (ws_ret (w_lst (wa_cons (w_callT c_list (by rfl) T.list (by decide +kernel) (wa_cons (w_v 0) wa_nil)) (wa_cons w_int (wa_cons w_int (wa_cons w_int (wa_cons w_int wa_nil)))))))), ?_⟩
    walk_at "rd"
    refine rd_listF fun c hc => ?_
    walk_at "rd"
    refine ⟨small (by show 5 ≤ 10000; decide), fun fl hfl => ?_⟩
    have hne : c ≠ fl := fun z => by subst z; rw [updM_same] at hfl; cases hfl
    exact fin2_same (k fl c _ ⟨ns, 0, 0, 1, 0, updM_same, by rw [updM_ne hne]; exact updM_same, hne, by decide, by decide, by decide, by decide⟩)
end

section
variable {P : Program} {w : World} {K : PySem.W.Frag} {mg : Str → Option Value} {base : Heap}
theorem sc_law_name : FnScope ["_law_flow_here", "_law_letters", "_law_near", "_law_name_here"] ["_law_flow_here"] (defScope (top 11)) := ⟨rfl, rfl, rfl, by decide +kernel, rfl, by decide +kernel, by decide +kernel⟩
theorem ok_name {f : Addr} {fd : FuncData} (F : Fun K "_law_name" "_law_name" (top 11) f fd) (T : Blt K mg) (d_law_pick : Def2 P w K mg base 1 "_law_pick" ["_law_flow_here", "_law_many"] spPick) : FnOk P w K mg base CX0 2 f fd ["_law_flow_here"] (upSp K (spGen 6)) := by
  refine ok3 F sc_law_name (fun ds M Q h => ?_) (fun cdv A outer s H E ds M Q hr h => ?_)
  · obtain ⟨a, cc, rfl, _⟩ := h
    rfl
  · obtain ⟨a, cc, rfl, hF, k⟩ := h
    refine ⟨_, (wss_cons (ws_set (i := 1) sc_law_name.nd rfl (Or.inr rfl) w_str)
  (wss_cons (ws_set (i := 2) sc_law_name.nd rfl (Or.inl rfl) (w_lst (wa_strs (zs := [Str.ofString "rows", Str.ofString "tow", Str.ofString "takes", Str.ofString "nones", Str.ofString "ones", Str.ofString "twos", Str.ofString "ass", Str.ofString "heaps", Str.ofString "on", Str.ofString "t", Str.ofString "ro", Str.ofString "a"]) (by kernel_rfl))))
  (wss_cons (ws_set (i := 3) sc_law_name.nd rfl (Or.inl rfl) (w_tmpM PySem.F.plainAttrs_str PySem.F.slot_str_join PySem.F.type_str_join m_join tmp_join w_str (tgs := ["_law_k"]) (fr := [1, 0]) ⟨blk_of (by kernel_rfl), rfl, (fun _ _ h => h), (wi_range1 rfl T.range (wa_cons (w_op o_addA w_int (w_def d_law_pick (hr.mono (by decide)) (by rfl) (wa_cons (w_v 0) (wa_cons w_int wa_nil)))) wa_nil)), (wtc_name (fun _ _ _ _ _ => (pg_name (i := 0) (show (["_law_k", "_law_letters", "_law_flow_here"] : List Str).Nodup by decide +kernel) rfl (Or.inl rfl))) (by decide)), (fun _ _ _ _ _ => wif_nil), (fun _ _ _ _ _ => (w_ix x_ix (w_v 1) (w_def d_law_pick (hr.mono (by decide)) (by rfl) (wa_cons (w_v 2) (wa_cons w_int wa_nil))) (fun _ _ => rfl)))⟩))
  (wss_cons (ws_if (wt_cmp (o_eqA hr.units) (w_def d_law_pick (hr.mono (by decide)) (by rfl) (wa_cons (w_v 0) (wa_cons w_int wa_nil))) w_int (nomark _))
  (wss_one (ws_set (i := 3) sc_law_name.nd rfl (Or.inl rfl) (w_ix x_ix (w_v 2) (w_def d_law_pick (hr.mono (by decide)) (by rfl) (wa_cons (w_v 0) (wa_cons w_int wa_nil))) (fun _ _ => rfl))))
  wss_nil)
  (wss_cons (ws_if (wt_cmp (o_inA hr.units) (w_v 3) (w_tup (wa_strs (zs := [Str.ofString "row", Str.ofString "to", Str.ofString "take", Str.ofString "none", Str.ofString "one", Str.ofString "two", Str.ofString "as", Str.ofString "heap"]) (by kernel_rfl))) rfl)
  (wss_one (ws_set (i := 3) sc_law_name.nd rfl (Or.inl rfl) (w_op o_addA (w_slice s_slA (w_v 3) wo_none (wo_some w_int)) w_str)))
  wss_nil)
  (wss_one (ws_ret (w_op o_addA (w_v 3) (w_ix x_ix (w_lst (wa_cons w_str (wa_cons w_str (wa_cons (w_ix x_ix w_str (w_def d_law_pick (hr.mono (by decide)) (by rfl) (wa_cons (w_v 0) (wa_cons w_int wa_nil))) (fun _ _ => rfl)) wa_nil)))) (w_def d_law_pick (hr.mono (by decide)) (by rfl) (wa_cons (w_v 0) (wa_cons w_int wa_nil))) (fun _ _ => rfl)))))))))), ?_⟩
    walk_at "rd"
    refine ⟨by decide, fun q hq => ?_⟩
    have hqa : q ≠ a := fun z => by obtain ⟨o, e⟩ := hF.there; rw [← z, hq] at e; cases e
    have F0 : Fl a cc M (updM M q (.lst ([Str.ofString "rows", Str.ofString "tow", Str.ofString "takes", Str.ofString "nones", Str.ofString "ones", Str.ofString "twos", Str.ofString "ass", Str.ofString "heaps", Str.ofString "on", Str.ofString "t", Str.ofString "ro", Str.ofString "a"].map D.str))) := Fl.put hF hq
    have hMq : (updM M q (.lst ([Str.ofString "rows", Str.ofString "tow", Str.ofString "takes", Str.ofString "nones", Str.ofString "ones", Str.ofString "twos", Str.ofString "ass", Str.ofString "heaps", Str.ofString "on", Str.ofString "t", Str.ofString "ro", Str.ofString "a"].map D.str))) q = some (.lst ([Str.ofString "rows", Str.ofString "tow", Str.ofString "takes", Str.ofString "nones", Str.ofString "ones", Str.ofString "twos", Str.ofString "ass", Str.ofString "heaps", Str.ofString "on", Str.ofString "t", Str.ofString "ro", Str.ofString "a"].map D.str)) := updM_same
    generalize updM M q (.lst ([Str.ofString "rows", Str.ofString "tow", Str.ofString "takes", Str.ofString "nones", Str.ofString "ones", Str.ofString "twos", Str.ofString "ass", Str.ofString "heaps", Str.ofString "on", Str.ofString "t", Str.ofString "ro", Str.ofString "a"].map D.str)) = M1 at F0 hMq ⊢
    walk_at "rd"
    refine ⟨rfl, ?_⟩
    walk_at "rd"
    refine ⟨a, cc, 5, rfl, F0.flow, by decide, by decide, fun m o h0 h1 hF1 => ?_⟩
    have F1 : Fl a cc M1 _ := Fl.pick hF1
    walk_at "rd"
    refine ⟨inR_of (by omega) (by omega), ?_⟩
    refine cl_fix (fun i acc M' => Ones acc i ∧ Fl a cc M1 M') ⟨Ones.nil, F1⟩ (fun i acc M' hi h => ?_) (fun i d' acc M' hd h => ?_) (fun acc M' h => ?_)
    · obtain ⟨⟨zs, rfl, _, h2⟩, _⟩ := h
      rw [rangeD_len] at hi
      rw [List.length_map]
      exact small (by omega)
    · walk_at "rd"
      refine ⟨a, cc, 26, rfl, h.2.flow, by decide, by decide, fun d2 o2 h2 h3 hF2 => ?_⟩
      obtain ⟨c, hc⟩ := atI_some (xs := (Str.ofString "abcdefghijklmnopqrstuvwxyz").cps.toList) h2 (by
        have e : (Str.ofString "abcdefghijklmnopqrstuvwxyz").cps.toList.length = 26 := by decide +kernel
        rw [e]; exact h3)
      refine rd_ixS (by decide +kernel) hc ?_
      exact ⟨h.1.snoc (by show 1 ≤ 1; decide), h.2.trans (Fl.pick hF2)⟩
    · obtain ⟨h1', h2'⟩ := h
      rw [rangeD_len] at h1'
      refine join_rd h1' (by omega) fun z hz => ?_
      have hz5 : z.length ≤ 5 := by omega
      have F2 := F0.trans h2'
      have hMq := h2'.mv q _ hqa hMq
      clear hz h1' h2'
      -- the near one
      with_reducible refine rd_name ?_
      with_reducible refine rd_cut (fun δ' M2 => ∃ z : Str, δ' = [some (.ref a), some (.str (Str.ofString "abcdefghijklmnopqrstuvwxyz")), some (.ref q), some (.str z)] ∧ z.length ≤ 5 ∧ Fl a cc M M2) (fun N hN => ?_) ?_
      · walk_at "rd"
        refine ⟨a, cc, 6, rfl, F2.flow, by decide, by decide, fun d3 o3 h4 h5 hF3 => ?_⟩
        walk_at "rd"
        refine rd_iteP (fun _ => ?_) (fun _ => ?_)
        · walk_at "rd"
          refine ⟨a, cc, 12, rfl, hF3, by decide, by decide, fun d4 o4 h6 h7 hF4 => ?_⟩
          obtain ⟨y, hy, hyd⟩ := atI_strs (zs := [Str.ofString "rows", Str.ofString "tow", Str.ofString "takes", Str.ofString "nones", Str.ofString "ones", Str.ofString "twos", Str.ofString "ass", Str.ofString "heaps", Str.ofString "on", Str.ofString "t", Str.ofString "ro", Str.ofString "a"]) h6 (by show d4 < 12; exact h7)
          have hyl : y.length ≤ 5 := by
            have all : ∀ y ∈ [Str.ofString "rows", Str.ofString "tow", Str.ofString "takes", Str.ofString "nones", Str.ofString "ones", Str.ofString "twos", Str.ofString "ass", Str.ofString "heaps", Str.ofString "on", Str.ofString "t", Str.ofString "ro", Str.ofString "a"], y.length ≤ 5 := by decide +kernel
            exact all y hy
          refine rd_ixL (by rw [updM_ne hqa, updM_ne hqa]; exact hMq) hyd ?_
          walk_at "rd"
          exact hN _ _ ⟨y, rfl, hyl, (F2.trans (Fl.pick hF3)).trans (Fl.pick hF4)⟩
        · walk_at "rd"
          exact hN _ _ ⟨z, rfl, hz5, F2.trans (Fl.pick hF3)⟩
      · rintro δ' M2 ⟨z, rfl, hz5, F2⟩
        with_reducible refine rd_cut (fun δ' M3 => ∃ z : Str, δ' = [some (.ref a), some (.str (Str.ofString "abcdefghijklmnopqrstuvwxyz")), some (.ref q), some (.str z)] ∧ z.length ≤ 5 ∧ Fl a cc M M3) (fun N hN => ?_) ?_
        · walk_at "rd"
          refine ⟨by decide, ?_⟩
          refine rd_inaT rfl ?_
          refine rd_iteB (fun _ => ?_) (fun _ => ?_)
          · walk_at "rd"
            refine rd_slAS (small (by omega)) ?_
            walk_at "rd"
            have c1 := cutS_le z none (some 4)
            have e : (Str.ofString "q").length = 1 := by decide +kernel
            have c2 : (cutS z none (some 4)).length ≤ 4 := by
              show ((z.cps.toList.drop 0).take (HT.sIx z.length z.length (some 4) - 0)).toArray.size ≤ 4
              rw [List.size_toArray, List.length_take]
              have : HT.sIx z.length z.length (some 4) ≤ 4 := by
                show (if (4 : Int) < 0 then ((4 : Int) + (z.length : Int)).toNat else min (4 : Int).toNat z.length) ≤ 4
                rw [if_neg (by decide)]
                exact Nat.min_le_left _ _
              omega
            refine rd_addaS (small (by omega)) ?_
            walk_at "rd"
            exact hN _ _ ⟨_, rfl, by rw [len_app]; omega, F2⟩
          · walk_at "rd"
            exact hN _ _ ⟨z, rfl, hz5, F2⟩
        · rintro δ' M3 ⟨z, rfl, hz5, F3⟩
          walk_at "rd"
          refine ⟨a, cc, 9, rfl, F3.flow, by decide, by decide, fun d5 o5 h8 h9 hF5 => ?_⟩
          obtain ⟨c, hc⟩ := atI_some (xs := (Str.ofString "123456789").cps.toList) h8 (by
            have e : (Str.ofString "123456789").cps.toList.length = 9 := by decide +kernel
            rw [e]; exact h9)
          refine rd_ixS (by decide +kernel) hc ?_
          walk_at "rd"
          refine ⟨small (by show 3 ≤ 10000; decide), fun q2 hq2 => ?_⟩
          have F5 := F3.trans (Fl.pick hF5)
          have hq2a : q2 ≠ a := fun z => by
            subst z
            obtain ⟨o, e⟩ := hF5.there
            rw [hq2] at e
            cases e
          walk_at "rd"
          refine ⟨a, cc, 3, rfl, hF5.put hq2, by decide, by decide, fun d6 o6 h10 h11 hF6 => ?_⟩
          obtain ⟨y, hy, hyd⟩ := atI_strs (zs := [Str.ofString "", Str.ofString "", ⟨#[c]⟩]) h10 (by show d6 < 3; exact h11)
          have hyl : y.length ≤ 1 := by
            have e : (Str.ofString "").length = 0 := by decide +kernel
            simp only [List.mem_cons, List.not_mem_nil, or_false] at hy
            rcases hy with rfl | rfl | rfl
            · omega
            · omega
            · show 1 ≤ 1; decide
          refine rd_ixL (by rw [updM_ne hq2a]; exact updM_same) hyd ?_
          refine rd_addaS (small (by omega)) ?_
          exact fin2_same (k _ _ (by rw [len_app]; omega) ((F5.trans (Fl.put hF5 hq2)).trans (Fl.pick hF6)))
end

section
variable {P : Program} {w : World} {K : PySem.W.Frag} {mg : Str → Option Value} {base : Heap}
theorem sc_added : FnScope ["one", "other"] ["one", "other"] (defScope (top 1)) := ⟨rfl, rfl, rfl, by decide +kernel, rfl, by decide +kernel, by decide +kernel⟩
theorem ok_added {f : Addr} {fd : FuncData} (F : Fun K "added" "added" (top 1) f fd) (T : Blt K mg) : FnOk P w K mg base CX0 1 f fd ["one", "other"] (upSp K spAdd) := by
  refine ok3 F sc_added (fun ds M Q h => ?_) (fun cdv A outer s H E ds M Q hr h => ?_)
  · obtain ⟨a, b, rfl, _⟩ := h
    rfl
  · obtain ⟨as, bs, rfl, hl, hz, k⟩ := h
    refine ⟨_, (wss_one (ws_ret (w_tmpT c_tuple tmp_tuple (by rfl) T.tuple (by decide +kernel) (tgs := ["here", "there"]) (fr := []) ⟨blk_of (by kernel_rfl), rfl, (fun _ _ h => h), (wi_zipA rfl T.zip (wa_cons (w_v 0) (wa_cons (w_v 1) wa_nil))), (wtc_tup2 (fun _ _ _ _ _ => (pg_tup rfl (pgs_cons (pg_name (i := 0) (show (["here", "there"] : List Str).Nodup by decide +kernel) rfl (Or.inl rfl)) (pgs_cons (pg_name (i := 1) (show (["here", "there"] : List Str).Nodup by decide +kernel) rfl (Or.inl rfl)) pgs_nil)))) (by decide) (by decide)), (fun _ _ _ _ _ => wif_nil), (fun _ _ _ _ _ => (w_op o_addA (w_v 0) (w_v 1)))⟩))), ?_⟩
    walk_at "rd"
    have hp : (plus as bs).length ≤ 1000 := by simp [plus]; omega
    refine cl_fix (fun i acc M' => M' = M ∧ acc = ((plus as bs).take i).map D.int) ⟨rfl, by simp⟩ (fun i acc M' hi h => ?_) (fun i d acc M' hd h => ?_) (fun acc M' h => ?_)
    · obtain ⟨_, rfl⟩ := h
      rw [List.length_map, List.length_take]
      exact small (by omega)
    · obtain ⟨rfl, rfl⟩ := h
      obtain ⟨x, y, e1, e2, rfl⟩ := zip_at hd
      walk_at "rd"
      refine ⟨rfl, ?_⟩
      rw [take_snoc (a := x + y) (plus_at e1 e2), List.map_append]
      rfl
    · obtain ⟨rfl, rfl⟩ := h
      rw [zip_len, List.take_length]
      exact fin2_same k
end

section
variable {P : Program} {w : World} {K : PySem.W.Frag} {mg : Str → Option Value} {base : Heap}
theorem sc_one_less : FnScope ["counts", "heap"] ["counts", "heap"] (defScope (top 2)) := ⟨rfl, rfl, rfl, by decide +kernel, rfl, by decide +kernel, by decide +kernel⟩
theorem ok_less {f : Addr} {fd : FuncData} (F : Fun K "one_less" "one_less" (top 2) f fd) (T : Blt K mg) : FnOk P w K mg base CX0 1 f fd ["counts", "heap"] (upSp K spLess) := by
  refine ok3 F sc_one_less (fun ds M Q h => ?_) (fun cdv A outer s H E ds M Q hr h => ?_)
  · obtain ⟨a, b, rfl, _⟩ := h
    rfl
  · obtain ⟨as, i, rfl, hi, hz, k⟩ := h
    refine ⟨_, (wss_one (ws_ret (w_op o_addA (w_op o_addA (w_slice s_slA (w_v 0) wo_none (wo_some (w_v 1))) (w_tup (wa_cons (w_op o_sub (w_ix x_ix (w_v 0) (w_v 1) (fun _ _ => rfl)) w_int) wa_nil))) (w_slice s_slA (w_v 0) (wo_some (w_op o_addA (w_v 1) w_int)) wo_none)))), ?_⟩
    walk_at "rd"
    refine rd_slATo (by omega) ?_
    walk_at "rd"
    refine rd_ixT (atI_intN hi) ?_
    walk_at "rd"
    refine ⟨small (by show 1 ≤ 10000; decide), ?_⟩
    refine rd_addaT (small (by simp; omega)) ?_
    walk_at "rd"
    refine rd_slAFrom (by omega) ?_
    refine rd_addaT (small (by simp; omega)) ?_
    refine fin2_same ?_
    have e1 : ((i : Int)).toNat = i := by omega
    have e2 : ((i : Int) + 1).toNat = i + 1 := by omega
    rw [e1, e2]
    unfold row less at k
    rw [List.map_append, List.map_append, List.map_take, List.map_drop] at k
    exact k
end

section
variable {P : Program} {w : World} {K : PySem.W.Frag} {mg : Str → Option Value} {base : Heap}
theorem sc_law_key : FnScope ["_law_counts_here"] ["_law_counts_here"] (defScope (top 13)) := ⟨rfl, rfl, rfl, by decide +kernel, rfl, by decide +kernel, by decide +kernel⟩
theorem ok_key {f : Addr} {fd : FuncData} (F : Fun K "_law_key" "_law_key" (top 13) f fd) (T : Blt K mg) : FnOk P w K mg base CX0 1 f fd ["_law_counts_here"] (upSp K spKey) := by
  refine ok3 F sc_law_key (fun ds M Q h => ?_) (fun cdv A outer s H E ds M Q hr h => ?_)
  · obtain ⟨a, rfl, _⟩ := h
    rfl
  · obtain ⟨as, rfl, hz, k⟩ := h
    refine ⟨_, (wss_one (ws_ret (w_tup (wa_cons (w_callB (c_sum rfl) (by rfl) T.sum (by decide +kernel) (wa_cons (w_v 0) wa_nil)) (wa_cons (w_tmpT c_tuple tmp_tuple (by rfl) T.tuple (by decide +kernel) (tgs := ["_law_n"]) (fr := []) ⟨blk_of (by kernel_rfl), rfl, (fun _ _ h => h), (wi_any (w_v 0)), (wtc_name (fun _ _ _ _ _ => (pg_name (i := 0) (show (["_law_n"] : List Str).Nodup by decide +kernel) rfl (Or.inl rfl))) (by decide)), (fun _ _ _ _ _ => wif_nil), (fun _ _ _ _ _ => (w_op o_sub w_int (w_v 0)))⟩) wa_nil))))), ?_⟩
    walk_at "rd"
    refine rd_sumT ?_
    walk_at "rd"
    refine cl_fix (fun i acc M' => M' = M ∧ acc = ((as.map fun a => 0 - a).take i).map D.int) ⟨rfl, by simp⟩ (fun i acc M' hi h => ?_) (fun i d acc M' hd h => ?_) (fun acc M' h => ?_)
    · obtain ⟨_, rfl⟩ := h
      rw [List.length_map, List.length_take]
      rw [List.length_map] at hi
      exact small (by omega)
    · obtain ⟨rfl, rfl⟩ := h
      rw [List.getElem?_map] at hd
      cases e : as[i]? with
      | none => rw [e] at hd; cases hd
      | some a =>
        rw [e] at hd
        cases hd
        walk_at "rd"
        refine ⟨rfl, ?_⟩
        rw [take_snoc (a := 0 - a) (by simp [e]), List.map_append]
        rfl
    · obtain ⟨rfl, rfl⟩ := h
      walk_at "rd"
      refine ⟨by show 2 ≤ sizeLine; decide, fin2_same ?_⟩
      have e : (as.map fun a => 0 - a).take (as.map D.int).length = as.map fun a => 0 - a := by rw [List.length_map]; exact List.take_of_length_le (by simp)
      rw [e]
      exact k
end

section
variable {P : Program} {w : World} {K : PySem.W.Frag} {mg : Str → Option Value} {base : Heap}
theorem sc_law_in_order : FnScope ["_law_sums"] ["_law_sums"] (defScope (top 15)) := ⟨rfl, rfl, rfl, by decide +kernel, rfl, by decide +kernel, by decide +kernel⟩
theorem ok_inord {f : Addr} {fd : FuncData} (F : Fun K "_law_in_order" "_law_in_order" (top 15) f fd) (T : Blt K mg) (d_law_key : Def2 P w K mg base 1 "_law_key" ["_law_counts_here"] spKey) : FnOk P w K mg base CX0 4 f fd ["_law_sums"] (upSp K spInOrd) := by
  refine ok3 F sc_law_in_order (fun ds M Q h => ?_) (fun cdv A outer s H E ds M Q hr h => ?_)
  · obtain ⟨a, rs, rfl, _⟩ := h
    rfl
  · obtain ⟨x, rs, rfl, hx, h64, hz, k⟩ := h
    refine ⟨_, (wss_one (ws_ret (w_callT c_tuple (by rfl) T.tuple (by decide +kernel) (wa_cons (w_sortedDK d_law_key (hr.mono (by decide)) (by rfl) T.sorted (by rfl) T.dict (by rfl) (w_comp (tgs := ["_law_counts_here"]) (fr := []) ⟨blk_of (by kernel_rfl), rfl, (fun _ _ h => h), (wi_any (w_v 0)), (wtc_name (fun _ _ _ _ _ => (pg_name (i := 0) (show (["_law_counts_here"] : List Str).Nodup by decide +kernel) rfl (Or.inl rfl))) (by decide)), (fun _ _ _ _ _ => wif_nil), (fun _ _ _ _ _ => (w_tup (wa_cons (w_v 0) (wa_cons w_bl wa_nil))))⟩)) wa_nil)))), ?_⟩
    -- what follows the list of pairs
    have go : ∀ (N : VK2), (∀ (p : Addr) (out : List (List Int)) (M' : Mem), (∀ b o, M b = some o → M' b = some o) → M' p = some (.lst (out.map row)) → (∀ r ∈ out, r ∈ rs) → out.length ≤ rs.length → N (.ref p) M') → ∀ p, M p = none → dSortDK spKey (.ref p) (updM M p (.lst (rs.map pairD))) N := by
      intro N hN p hp
      have h0 := mext (fun b o e => e) hp (.lst (rs.map pairD))
      refine ⟨p, rs, true, fun kds M' => M' = updM M p (.lst (rs.map pairD)) ∧ kds.length ≤ (once rs).length ∧ ∀ i k, kds[i]? = some k → KeyD true M' k (kof ((once rs).getD i [])), fun i => kof ((once rs).getD i []), rfl, updM_same, h64, ⟨rfl, Nat.zero_le _, fun i k e => by simp at e⟩, ?_, ?_⟩
      · rintro kds M' e ⟨rfl, h2, h3⟩ he
        rw [List.getElem?_map] at he
        cases er : (once rs)[kds.length]? with
        | none => rw [er] at he; cases he
        | some r =>
          rw [er] at he
          cases he
          have hlt : kds.length < (once rs).length := (List.getElem?_eq_some_iff.mp er).1
          refine ⟨r, rfl, hz r (mem_once (List.mem_of_getElem? er)), rfl, ?_, fun i k e => ?_⟩
          · rw [List.length_append, List.length_singleton]; omega
          · by_cases hi : i < kds.length
            · rw [List.getElem?_append_left hi] at e
              exact h3 i k e
            · rw [List.getElem?_append_right (by omega)] at e
              have hi0 : i - kds.length = 0 := by
                have := (List.getElem?_eq_some_iff.mp e).1
                simp at this
                omega
              rw [hi0] at e
              have e : D.tup [.int r.sum, row (r.map fun a => 0 - a)] = k := by simpa using e
              have hik : i = kds.length := by omega
              subst hik
              show k = .tup [.int (kof ((once rs).getD kds.length [])).1, .tup ((kof ((once rs).getD kds.length [])).2.map D.int)]
              rw [← e, List.getD_eq_getElem?_getD, er]
              rfl
      · rintro kds M' ⟨rfl, h2, h3⟩ hl
        refine ⟨h3, fun p2 outD hp2 ho => ?_⟩
        obtain ⟨out, rfl, o1, o2⟩ := out_in (rs := once rs) ho
        exact hN p2 out _ (mext h0 hp2 _) updM_same (fun r hr => mem_once (o1 r hr)) (by rw [o2]; exact len_once rs)
    have fin : ∀ (p : Addr) (out : List (List Int)) (M' : Mem), (∀ b o, M b = some o → M' b = some o) → M' p = some (.lst (out.map row)) → (∀ r ∈ out, r ∈ rs) → out.length ≤ rs.length → dTuple [.ref p] M' (fin2 Q) := fun p out M' h1 h2 h3 h4 => rd_tupleL h2 (back h1 (k out h3 h4))
    rcases hx with rfl | ⟨l, rfl, hl⟩
    · walk_at "rd"
      refine cl_fix (fun i acc M' => M' = M ∧ acc = (rs.take i).map pairD) ⟨rfl, by simp⟩ (fun i acc M' hi h => ?_) (fun i d acc M' hd h => ?_) (fun acc M' h => ?_)
      · obtain ⟨_, rfl⟩ := h
        rw [List.length_map, List.length_take]
        exact small (by omega)
      · obtain ⟨rfl, rfl⟩ := h
        rw [List.getElem?_map] at hd
        cases e : rs[i]? with
        | none => rw [e] at hd; cases hd
        | some r =>
          rw [e] at hd
          cases hd
          walk_at "rd"
          refine ⟨by show 2 ≤ sizeLine; decide, rfl, ?_⟩
          rw [take_snoc e, List.map_append]
          rfl
      · obtain ⟨rfl, rfl⟩ := h
        rw [List.length_map, List.take_length]
        intro p hp
        exact go _ fin p hp
    · walk_at "rd"
      refine cl_at (ds := rs.map row) (fun i acc M' => M' = M ∧ acc = (rs.take i).map pairD) ⟨rfl, by simp⟩ (fun i acc M' hi h => ?_) (fun i acc M' hi h => ?_) (fun i d acc M' hd h => ?_) (fun acc M' h => ?_)
      · obtain ⟨rfl, _⟩ := h
        exact hl
      · obtain ⟨_, rfl⟩ := h
        rw [List.length_map, List.length_take]
        exact small (by omega)
      · obtain ⟨rfl, rfl⟩ := h
        rw [List.getElem?_map] at hd
        cases e : rs[i]? with
        | none => rw [e] at hd; cases hd
        | some r =>
          rw [e] at hd
          cases hd
          walk_at "rd"
          refine ⟨by show 2 ≤ sizeLine; decide, rfl, ?_⟩
          rw [take_snoc e, List.map_append]
          rfl
      · obtain ⟨rfl, rfl⟩ := h
        rw [List.length_map, List.take_length]
        intro p hp
        exact go _ fin p hp
end

section
variable {P : Program} {w : World} {K : PySem.W.Frag} {mg : Str → Option Value} {base : Heap}
theorem sc_law_counts : FnScope ["_law_heaps", "_law_many"] ["_law_heaps", "_law_many"] (defScope (top 14)) := ⟨rfl, rfl, rfl, by decide +kernel, rfl, by decide +kernel, by decide +kernel⟩
theorem ok_counts {f : Addr} {fd : FuncData} (F : Fun K "_law_counts" "_law_counts" (top 14) f fd) (T : Blt K mg) : FnOk P w K mg base CX0 1 f fd ["_law_heaps", "_law_many"] (upSp K spCounts) := by
  refine ok3 F sc_law_counts (fun ds M Q h => ?_) (fun cdv A outer s H E ds M Q hr h => ?_)
  · obtain ⟨a, b, c, rfl, _⟩ := h
    rfl
  · obtain ⟨a, ns, n, rfl, hM, hz, k⟩ := h
    refine ⟨_, (wss_one (ws_ret (w_tmpT c_tuple tmp_tuple (by rfl) T.tuple (by decide +kernel) (tgs := ["_law_h"]) (fr := [0]) ⟨blk_of (by kernel_rfl), rfl, (fun _ _ h => h), (wi_range1 rfl T.range (wa_cons (w_v 1) wa_nil)), (wtc_name (fun _ _ _ _ _ => (pg_name (i := 0) (show (["_law_h", "_law_heaps"] : List Str).Nodup by decide +kernel) rfl (Or.inl rfl))) (by decide)), (fun _ _ _ _ _ => wif_nil), (fun _ _ _ _ _ => (w_bm PySem.F.plainAttrs_list PySem.F.slot_list_count PySem.F.type_list_count (m_count hr.units) (w_v 1) (wa_cons (w_v 0) wa_nil)))⟩))), ?_⟩
    walk_at "rd"
    refine ⟨inR_of (by omega) (by omega), ?_⟩
    rw [Int.toNat_natCast]
    refine cl_pure (xs := List.range n) (enc := rgD) (fun h => D.int ((ns.count (h : Int) : Nat) : Int)) (by simp; omega) (fun i x N hx hN => ?_) ?_
    · walk_at "rd"
      refine ⟨⟨rfl, _, hM⟩, ?_⟩
      walk_at "rd"
      refine rd_countI hM ?_
      rw [Int.zero_add]
      exact hN
    · refine fin2_same ?_
      unfold row cnts at k
      rw [List.map_map] at k
      exact k
end

section
variable {P : Program} {w : World} {K : PySem.W.Frag} {mg : Str → Option Value} {base : Heap}
theorem sc_law_some_sum : FnScope ["_law_flow_here", "_law_many", "_law_most", "_law_heaps"] ["_law_flow_here", "_law_many", "_law_most"] (defScope (top 17)) := ⟨rfl, rfl, rfl, by decide +kernel, rfl, by decide +kernel, by decide +kernel⟩
theorem ok_some {f : Addr} {fd : FuncData} (F : Fun K "_law_some_sum" "_law_some_sum" (top 17) f fd) (T : Blt K mg) (d_law_pick : Def2 P w K mg base 1 "_law_pick" ["_law_flow_here", "_law_many"] spPick) (d_law_counts : Def2 P w K mg base 1 "_law_counts" ["_law_heaps", "_law_many"] spCounts) : FnOk P w K mg base CX0 2 f fd ["_law_flow_here", "_law_many", "_law_most"] (upSp K spSome) := by
  refine ok3 F sc_law_some_sum (fun ds M Q h => ?_) (fun cdv A outer s H E ds M Q hr h => ?_)
  · obtain ⟨a, cc, b, c, rfl, _⟩ := h
    rfl
  · obtain ⟨a, cc, n, m, rfl, hF, hz, m0, m1, k⟩ := h
    refine ⟨_, (wss_cons (ws_setComp (i := 3) sc_law_some_sum.nd rfl (Or.inl rfl) (tgs := ["_law_k"]) (fr := [0, 1]) ⟨blk_of (by kernel_rfl), rfl, (fun _ _ h => h), (wi_range1 rfl T.range (wa_cons (w_op o_mulB (w_callB (c_min rfl) (by rfl) T.min (by decide +kernel) (wa_cons (w_v 1) (wa_cons w_int wa_nil))) (w_def d_law_pick (hr.mono (by decide)) (by rfl) (wa_cons (w_v 0) (wa_cons (w_op o_addA (w_v 2) w_int) wa_nil)))) wa_nil)), (wtc_name (fun _ _ _ _ _ => (pg_name (i := 0) (show (["_law_k", "_law_flow_here", "_law_many"] : List Str).Nodup by decide +kernel) rfl (Or.inl rfl))) (by decide)), (fun _ _ _ _ _ => wif_nil), (fun _ _ _ _ _ => (w_def d_law_pick (hr.mono (by decide)) (by rfl) (wa_cons (w_v 1) (wa_cons (w_v 2) wa_nil))))⟩)
  (wss_one (ws_ret (w_def d_law_counts (hr.mono (by decide)) (by rfl) (wa_cons (w_v 3) (wa_cons (w_v 1) wa_nil)))))), ?_⟩
    walk_at "rd"
    refine ⟨a, cc, m + 1, rfl, hF, by omega, by omega, fun d o h0 h1 hF1 => ?_⟩
    have hmin : (if (1 : Int) < (n : Int) then (1 : Int) else (n : Int)) = if 1 ≤ n then 1 else 0 := by
      split <;> split <;> omega
    rw [hmin]
    refine rd_mulbI (cmul_l (by split <;> omega) (by split <;> omega)) ?_
    have hle : (if 1 ≤ n then (1 : Int) else 0) * d ≤ m ∧ 0 ≤ (if 1 ≤ n then (1 : Int) else 0) * d ∧ (n = 0 → (if 1 ≤ n then (1 : Int) else 0) * d = 0) := by
      split
      · rw [Int.one_mul]; exact ⟨by omega, h0, fun z => by omega⟩
      · rw [Int.zero_mul]; exact ⟨by omega, by omega, fun _ => rfl⟩
    generalize (if 1 ≤ n then (1 : Int) else 0) * d = c at hle ⊢
    obtain ⟨c1, c0, cn⟩ := hle
    refine ⟨inR_of (by omega) (by omega), ?_⟩
    have F1 : Fl a cc M _ := Fl.pick hF1
    refine cl_acc (xs := List.range c.toNat) (enc := rgD) D.int (fun ns M' => Fl a cc M M' ∧ ∀ x ∈ ns, 0 ≤ x ∧ x < (n : Int)) (by simp; omega) ⟨F1, fun x h => by cases h⟩ (fun i x ys M' N hx hy h hN => ?_) (fun ns M' hl h => ?_)
    · obtain ⟨F2, h2⟩ := h
      have hi := (List.getElem?_eq_some_iff.mp hx).1
      rw [List.length_range] at hi
      have hn : n ≠ 0 := fun z => by have := cn z; omega
      walk_at "rd"
      refine ⟨a, cc, n, rfl, F2.flow, by omega, by omega, fun d2 o2 h2' h3 hF2 => hN _ _ ⟨F2.trans (Fl.pick hF2), fun x hx => ?_⟩⟩
      rcases List.mem_append.mp hx with q | q
      · exact h2 x q
      · have : x = d2 := by simpa using q
        omega
    · obtain ⟨F2, h2⟩ := h
      rw [List.length_range] at hl
      intro p hp
      walk_at "rd"
      refine ⟨p, ns, n, rfl, updM_same, hz, fin2_same (k ns _ (by omega) h2 (F2.trans (Fl.put F2.flow hp)))⟩
end

section
variable {P : Program} {w : World} {K : PySem.W.Frag} {mg : Str → Option Value} {base : Heap}
theorem sc_law_great_sum : FnScope ["_law_flow_here", "_law_many", "_law_found", "_law_h", "_law_form"] ["_law_flow_here", "_law_many"] (defScope (top 18)) := ⟨rfl, rfl, rfl, by decide +kernel, rfl, by decide +kernel, by decide +kernel⟩
theorem ok_great {f : Addr} {fd : FuncData} (F : Fun K "_law_great_sum" "_law_great_sum" (top 18) f fd) (T : Blt K mg) (d_law_pick : Def2 P w K mg base 1 "_law_pick" ["_law_flow_here", "_law_many"] spPick) : FnOk P w K mg base CX0 2 f fd ["_law_flow_here", "_law_many"] (upSp K spGreat) := by
  refine ok3 F sc_law_great_sum (fun ds M Q h => ?_) (fun cdv A outer s H E ds M Q hr h => ?_)
  · obtain ⟨a, cc, b, rfl, _⟩ := h
    rfl
  · obtain ⟨a, cc, n, rfl, hF, hz, k⟩ := h
    refine ⟨_, (wss_cons (ws_set (i := 2) sc_law_great_sum.nd rfl (Or.inl rfl) (w_lst wa_nil))
  (wss_cons (ws_for PassesOwn.never rfl (wi_range1 rfl T.range (wa_cons (w_v 1) wa_nil)) (wg_name (i := 3) sc_law_great_sum.nd rfl (Or.inl rfl))
  (wss_cons (ws_set (i := 4) sc_law_great_sum.nd rfl (Or.inl rfl) (w_def d_law_pick (hr.mono (by decide)) (by rfl) (wa_cons (w_v 0) (wa_cons w_int wa_nil))))
  (wss_one (ws_expr (w_bm PySem.F.plainAttrs_list PySem.F.slot_list_append PySem.F.type_list_append m_append (w_v 2) (wa_cons (w_ix x_ix (w_lst (wa_cons w_int (wa_cons w_int (wa_cons (w_def d_law_pick (hr.mono (by decide)) (by rfl) (wa_cons (w_v 0) (wa_cons w_int wa_nil))) (wa_cons (w_def d_law_pick (hr.mono (by decide)) (by rfl) (wa_cons (w_v 0) (wa_cons (w_op o_pow w_int w_int) wa_nil))) (wa_cons (w_op o_sub (w_op o_pow w_int w_int) (w_def d_law_pick (hr.mono (by decide)) (by rfl) (wa_cons (w_v 0) (wa_cons (w_op o_pow w_int w_int) wa_nil)))) wa_nil)))))) (w_v 4) (fun _ _ => rfl)) wa_nil))))))
  (wss_one (ws_ret (w_callT c_tuple (by rfl) T.tuple (by decide +kernel) (wa_cons (w_v 2) wa_nil)))))), ?_⟩
    walk_at "rd"
    refine ⟨by decide, fun p hp => ?_⟩
    have hpa := (hF.ne hp).1
    walk_at "rd"
    refine ⟨inR_of (by omega) (by omega), ?_⟩
    rw [Int.toNat_natCast]
    refine fl_fix (fun i δ M' => ∃ (v1 v2 : Option D) (ms : List Int), δ = [some (.ref a), some (.int n), some (.ref p), v1, v2] ∧ (ms.length = i ∧ ∀ x ∈ ms, 0 ≤ x ∧ x ≤ 10 ^ 30) ∧ M' p = some (.lst (ms.map D.int)) ∧ Fl a cc M M') ⟨none, none, [], rfl, ⟨rfl, fun x h => by cases h⟩, updM_same, Fl.put hF hp⟩ (fun i d δ M' hd h => ?_) (fun δ M' h => ?_)
    · obtain ⟨v1, v2, ms, rfl, ⟨h2, hms⟩, h3, F1⟩ := h
      obtain ⟨hi, rfl⟩ := rangeD_at hd
      walk_at "rd"
      refine ⟨a, cc, 5, rfl, F1.flow, by decide, by decide, fun d1 o1 a0 a1 hF1 => ?_⟩
      have F2 := F1.trans (Fl.pick hF1)
      walk_at "rd"
      refine ⟨⟨rfl, _, by rw [updM_ne hpa]; exact h3⟩, ?_⟩
      walk_at "rd"
      refine ⟨a, cc, 6, rfl, hF1, by decide, by decide, fun d2 o2 b0 b1 hF2 => ?_⟩
      have F3 := F2.trans (Fl.pick hF2)
      walk_at "rd"
      refine rd_i ⟨by decide, by decide, by decide⟩ ?_
      walk_at "rd"
      refine ⟨a, cc, _, rfl, hF2, by decide, by decide, fun d3 o3 c0 c1 hF3 => ?_⟩
      have F4 := F3.trans (Fl.pick hF3)
      walk_at "rd"
      refine rd_i ⟨by decide, by decide, by decide⟩ ?_
      walk_at "rd"
      refine rd_i ⟨by decide, by decide, by decide⟩ ?_
      walk_at "rd"
      refine ⟨a, cc, _, rfl, hF3, by decide, by decide, fun d4 o4 e0 e1 hF4 => ?_⟩
      have F5 := F4.trans (Fl.pick hF4)
      walk_at "rd"
      refine ⟨small (by show 5 ≤ 10000; decide), fun q hq => ?_⟩
      have h3' : updM (updM (updM (updM M' a o1) a o2) a o3) a o4 p = some (.lst (ms.map D.int)) := by rw [updM_ne hpa, updM_ne hpa, updM_ne hpa, updM_ne hpa]; exact h3
      have hqp : p ≠ q := fun z => by
        subst z
        rw [h3'] at hq
        cases hq
      generalize updM (updM (updM (updM M' a o1) a o2) a o3) a o4 = M5 at *
      walk_at "rd"
      obtain ⟨x, hxm, hx⟩ := atI_ints (ns := [0, 1, d2, d3, _]) a0 (by show d1 < 5; exact a1)
      refine rd_ixL updM_same hx ?_
      walk_at "rd"
      refine rd_app (by rw [updM_ne hqp]; exact h3') (by rw [List.length_map]; exact Nat.lt_of_le_of_lt (show ms.length ≤ 1000 by omega) (by decide)) ?_
      walk_at "rd"
      refine ⟨_, _, ms ++ [x], rfl, ⟨by simp [h2], fun y hy => ?_⟩, by rw [updM_same, List.map_append]; rfl, (F5.trans (Fl.put hF4 hq)).own hF hp⟩
      rcases List.mem_append.mp hy with q | q
      · exact hms y q
      · have e : y = x := by simpa using q
        subst e
        have t6 : (10 : Int) ^ (6 : Int).toNat = 1000000 := by decide
        have t30 : (10 : Int) ^ (30 : Int).toNat = 1000000000000000000000000000000 := by decide
        have t30' : (10 : Int) ^ 30 = 1000000000000000000000000000000 := by decide
        rw [t6] at c1 e1
        rw [t30] at hxm
        rw [t30']
        simp only [List.mem_cons, List.not_mem_nil, or_false] at hxm
        rcases hxm with z | z | z | z | z <;> omega
    · obtain ⟨v1, v2, ms, rfl, ⟨h2, hms⟩, h3, F1⟩ := h
      rw [rangeD_len] at h2
      walk_at "rd"
      exact rd_tupleL h3 (fin2_same (k ms _ h2 hms F1))
end

section
variable {P : Program} {w : World} {K : PySem.W.Frag} {mg : Str → Option Value} {base : Heap}
theorem sc_law_names : FnScope ["_law_flow_here", "_law_many", "_law_names_here", "_law_k", "_law_name_here", "_law_spare"] ["_law_flow_here", "_law_many"] (defScope (top 12)) := ⟨rfl, rfl, rfl, by decide +kernel, rfl, by decide +kernel, by decide +kernel⟩
theorem ok_names {f : Addr} {fd : FuncData} (F : Fun K "_law_names" "_law_names" (top 12) f fd) (T : Blt K mg) (d_law_name : Def2 P w K mg base 2 "_law_name" ["_law_flow_here"] (spGen 6)) : FnOk P w K mg base CX0 3 f fd ["_law_flow_here", "_law_many"] (upSp K spNames) := by
  refine ok3 F sc_law_names (fun ds M Q h => ?_) (fun cdv A outer s H E ds M Q hr h => ?_)
  · obtain ⟨a, cc, b, rfl, _⟩ := h
    rfl
  · obtain ⟨a, cc, n, rfl, hF, hz, k⟩ := h
    refine ⟨_, (wss_cons (ws_set (i := 2) sc_law_names.nd rfl (Or.inl rfl) (w_lst wa_nil))
  (wss_cons (ws_for PassesOwn.never rfl (wi_range1 rfl T.range (wa_cons (w_v 1) wa_nil)) (wg_name (i := 3) sc_law_names.nd rfl (Or.inl rfl))
  (wss_cons (ws_set (i := 4) sc_law_names.nd rfl (Or.inl rfl) (w_def d_law_name (hr.mono (by decide)) (by rfl) (wa_cons (w_v 0) wa_nil)))
  (wss_cons (ws_set (i := 5) sc_law_names.nd rfl (Or.inl rfl) w_int)
  (wss_cons (ws_while PassesOwn.never (wt_cmp (o_inA hr.units) (w_v 4) (w_v 2) rfl)
  (wss_cons (ws_set (i := 4) sc_law_names.nd rfl (Or.inl rfl) (w_op o_mulB (w_ix x_ix w_str (w_op o_mod (w_v 5) w_int) (fun _ _ => rfl)) (w_op o_addA w_int (w_op o_fdiv (w_v 5) w_int))))
  (wss_one (ws_set (i := 5) sc_law_names.nd rfl (Or.inl rfl) (w_op o_addA (w_v 5) w_int)))))
  (wss_one (ws_expr (w_bm PySem.F.plainAttrs_list PySem.F.slot_list_append PySem.F.type_list_append m_append (w_v 2) (wa_cons (w_v 4) wa_nil))))))))
  (wss_one (ws_ret (w_v 2))))), ?_⟩
    walk_at "rd"
    refine ⟨by decide, fun p hp => ?_⟩
    have hpa := (hF.ne hp).1
    walk_at "rd"
    refine ⟨inR_of (by omega) (by omega), ?_⟩
    rw [Int.toNat_natCast]
    refine fl_fix (fun i δ M' => ∃ (v1 v2 v3 : Option D) (zs : List Str), δ = [some (.ref a), some (.int n), some (.ref p), v1, v2, v3] ∧ zs.length = i ∧ M' p = some (.lst (zs.map D.str)) ∧ Fl a cc M M') ⟨none, none, none, [], rfl, rfl, updM_same, Fl.put hF hp⟩ (fun i d δ M' hd h => ?_) (fun δ M' h => ?_)
    · obtain ⟨v1, v2, v3, zs, rfl, h2, h3, F1⟩ := h
      obtain ⟨hi, rfl⟩ := rangeD_at hd
      walk_at "rd"
      refine ⟨a, cc, rfl, F1.flow, fun z M1 hz6 F2 => ?_⟩
      have F3 := F1.trans F2
      have h3 := F2.mv p _ hpa h3
      walk_at "rd"
      refine rd_while ⟨fun m δ M' => M' = M1 ∧ ∃ (z : Str) (sp : Nat), δ = [some (.ref a), some (.int n), some (.ref p), some (.int (0 + (i : Nat))), some (.str z), some (.int sp)] ∧ m = zs.length + 2 - sp ∧ sp ≤ zs.length + 1 ∧ (0 < sp → z = cand (sp - 1)) ∧ ∀ j, j + 1 < sp → cand j ∈ zs, ⟨_, rfl, z, 0, rfl, rfl, Nat.zero_le _, fun q => absurd q (by omega), fun j q => absurd q (by omega)⟩, ?_⟩
      rintro m δ M' ⟨rfl, z, sp, rfl, rfl, hsp, hz1, hz2⟩
      walk_at "rd"
      refine rd_inaL h3 (inD_strs z zs) ?_
      refine rd_iteB (fun hin => ?_) (fun hin => ?_)
      · have hin : z ∈ zs := by simpa using hin
        have all : ∀ j, j < sp → cand j ∈ zs := fun j hj => by
          by_cases e : j + 1 < sp
          · exact hz2 j e
          · have : j = sp - 1 := by omega
            rw [this, ← hz1 (by omega)]
            exact hin
        have hsl : sp ≤ zs.length := cand_few (by omega) all
        refine ⟨fun δ' M2 => M2 = M' ∧ δ' = [some (.ref a), some (.int n), some (.ref p), some (.int (0 + (i : Nat))), some (.str (cand sp)), some (.int ((sp + 1 : Nat) : Int))], ?_, ?_⟩
        · rintro δ' M2 ⟨rfl, rfl⟩
          exact ⟨zs.length + 2 - (sp + 1), by omega, rfl, cand sp, sp + 1, rfl, rfl, by omega, fun _ => rfl, fun j hj => all j (by omega)⟩
        · walk_at "rd"
          have em : (sp : Int) % 26 = (sp : Int) := Int.emod_eq_of_lt (by omega) (by omega)
          have ed : (sp : Int) / 26 = 0 := Int.ediv_eq_zero_of_lt (by omega) (by omega)
          have bl : backw.length = 26 := by decide +kernel
          have hc : atI (Str.ofString "zyxwvutsrqponmlkjihgfedcba").cps.toList ((sp : Int) % 26) = some (backw.getD sp 0) := by
            rw [em]
            refine atI_nat ?_
            show backw[sp]? = _
            rw [List.getD_eq_getElem?_getD]
            have : sp < backw.length := by omega
            simp [this]
          refine rd_ixS (by decide +kernel) hc ?_
          walk_at "rd"
          rw [ed]
          refine rd_mulbS (mul_one_ok _) ?_
          walk_at "rd"
          exact ⟨rfl, rfl⟩
      · walk_at "rd"
        refine ⟨⟨rfl, _, h3⟩, ?_⟩
        walk_at "rd"
        refine rd_app h3 (by rw [List.length_map]; exact Nat.lt_of_le_of_lt (show zs.length ≤ 12 by omega) (by decide)) ?_
        walk_at "rd"
        exact ⟨_, _, _, zs ++ [z], rfl, by simp [h2], by rw [updM_same, List.map_append]; rfl, F3.own hF hp⟩
    · obtain ⟨v1, v2, v3, zs, rfl, h2, h3, F1⟩ := h
      rw [rangeD_len] at h2
      walk_at "rd"
      exact fin2_same (k p zs _ h2 hp h3 F1)
end

section
variable {P : Program} {w : World} {K : PySem.W.Frag} {mg : Str → Option Value} {base : Heap}
theorem sc_law_alike : FnScope ["_law_found", "_law_due"] ["_law_found", "_law_due"] (defScope (top 10)) := ⟨rfl, rfl, rfl, by decide +kernel, rfl, by decide +kernel, by decide +kernel⟩
theorem ok_al0 {f : Addr} {fd : FuncData} (F : Fun K "_law_alike" "_law_alike" (top 10) f fd) (T : Blt K mg) : FnOk P w K mg base CX0 1 f fd ["_law_found", "_law_due"] (upSp K (spAlS 0)) := by
  refine ok3 F sc_law_alike (fun ds M Q h => ?_) (fun cdv A outer s H E ds M Q hr h => ?_)
  · obtain ⟨a, rfl, _⟩ := h
    rfl
  · obtain ⟨x, rfl, ⟨i, rfl⟩, k⟩ := h
    refine ⟨_, (wss_cons (ws_if (wt_cmp o_isN (w_v 1) w_non (nomark _))
  (wss_one (ws_ret (w_cmp o_isN (w_v 0) w_non (nomark _))))
  wss_nil)
  (wss_cons (ws_if (ww_or (wt_val (w_callB (c_isi T.i_bool) (by rfl) T.isinstance (by decide +kernel) (wa_cons (w_v 1) (wa_cons (w_ty (n := "bool") (by rfl) T.bool (by decide +kernel)) wa_nil)))) (ww_or1 (wt_val (w_callB (c_isi T.i_bool) (by rfl) T.isinstance (by decide +kernel) (wa_cons (w_v 0) (wa_cons (w_ty (n := "bool") (by rfl) T.bool (by decide +kernel)) wa_nil)))))).pt
  (wss_one (ws_ret (w_and (w_callB (c_isi T.i_bool) (by rfl) T.isinstance (by decide +kernel) (wa_cons (w_v 1) (wa_cons (w_ty (n := "bool") (by rfl) T.bool (by decide +kernel)) wa_nil))) (w_and (w_callB (c_isi T.i_bool) (by rfl) T.isinstance (by decide +kernel) (wa_cons (w_v 0) (wa_cons (w_ty (n := "bool") (by rfl) T.bool (by decide +kernel)) wa_nil))) (w_one (w_cmp (o_eqA hr.units) (w_v 0) (w_v 1) (nomark _)))))))
  wss_nil)
  (wss_cons (ws_if (wt_val (w_callB (c_isi T.i_int) (by rfl) T.isinstance (by decide +kernel) (wa_cons (w_v 1) (wa_cons (w_ty (n := "int") (by rfl) T.int (by decide +kernel)) wa_nil))))
  (wss_one (ws_ret (w_and (w_callB (c_isi T.i_int) (by rfl) T.isinstance (by decide +kernel) (wa_cons (w_v 0) (wa_cons (w_ty (n := "int") (by rfl) T.int (by decide +kernel)) wa_nil))) (w_one (w_cmp (o_eqA hr.units) (w_v 0) (w_v 1) (nomark _))))))
  wss_nil)
  wss_never))), ?_⟩
    walk_at "rd"
    refine rd_notN (by simp [tyNm]) ?_
    walk_at "rd"
    refine rd_isi (n := "int") rfl (b := false) (by decide) ?_
    walk_at "rd"
    refine rd_isi (n := "int") rfl (b := false) (by decide) ?_
    walk_at "rd"
    refine rd_isi (n := "int") rfl (b := true) (by decide) ?_
    walk_at "rd"
    refine rd_isi (n := "int") rfl (b := true) (by decide) ?_
    walk_at "rd"
    rw [decide_eq_true (rfl : i = i)]
    exact fin2_same k
theorem ok_alS0 {f : Addr} {fd : FuncData} (F : Fun K "_law_alike" "_law_alike" (top 10) f fd) (T : Blt K mg) (d_law_alike : Def2 P w K mg base 1 "_law_alike" ["_law_found", "_law_due"] (spAlS 0)) : FnOk P w K mg base CX0 2 f fd ["_law_found", "_law_due"] (upSp K (spAlS 1)) := by
  refine ok3 F sc_law_alike (fun ds M Q h => ?_) (fun cdv A outer s H E ds M Q hr h => ?_)
  · obtain ⟨a, rfl, _⟩ := h
    rfl
  · obtain ⟨x, rfl, hx, k⟩ := h
    refine ⟨_, (wss_cons (ws_if (wt_cmp o_isN (w_v 1) w_non (nomark _))
  (wss_one (ws_ret (w_cmp o_isN (w_v 0) w_non (nomark _))))
  wss_nil)
  (wss_cons (ws_if (ww_or (wt_val (w_callB (c_isi T.i_bool) (by rfl) T.isinstance (by decide +kernel) (wa_cons (w_v 1) (wa_cons (w_ty (n := "bool") (by rfl) T.bool (by decide +kernel)) wa_nil)))) (ww_or1 (wt_val (w_callB (c_isi T.i_bool) (by rfl) T.isinstance (by decide +kernel) (wa_cons (w_v 0) (wa_cons (w_ty (n := "bool") (by rfl) T.bool (by decide +kernel)) wa_nil)))))).pt
  (wss_one (ws_ret (w_and (w_callB (c_isi T.i_bool) (by rfl) T.isinstance (by decide +kernel) (wa_cons (w_v 1) (wa_cons (w_ty (n := "bool") (by rfl) T.bool (by decide +kernel)) wa_nil))) (w_and (w_callB (c_isi T.i_bool) (by rfl) T.isinstance (by decide +kernel) (wa_cons (w_v 0) (wa_cons (w_ty (n := "bool") (by rfl) T.bool (by decide +kernel)) wa_nil))) (w_one (w_cmp (o_eqA hr.units) (w_v 0) (w_v 1) (nomark _)))))))
  wss_nil)
  (wss_cons (ws_if (wt_val (w_callB (c_isi T.i_int) (by rfl) T.isinstance (by decide +kernel) (wa_cons (w_v 1) (wa_cons (w_ty (n := "int") (by rfl) T.int (by decide +kernel)) wa_nil))))
  (wss_one (ws_ret (w_and (w_callB (c_isi T.i_int) (by rfl) T.isinstance (by decide +kernel) (wa_cons (w_v 0) (wa_cons (w_ty (n := "int") (by rfl) T.int (by decide +kernel)) wa_nil))) (w_one (w_cmp (o_eqA hr.units) (w_v 0) (w_v 1) (nomark _))))))
  wss_nil)
  (wss_cons (ws_if (wt_val (w_callB (c_isi T.i_str) (by rfl) T.isinstance (by decide +kernel) (wa_cons (w_v 1) (wa_cons (w_ty (n := "str") (by rfl) T.str (by decide +kernel)) wa_nil))))
  (wss_one (ws_ret (w_and (w_callB (c_isi T.i_str) (by rfl) T.isinstance (by decide +kernel) (wa_cons (w_v 0) (wa_cons (w_ty (n := "str") (by rfl) T.str (by decide +kernel)) wa_nil))) (w_one (w_cmp (o_eqA hr.units) (w_v 0) (w_v 1) (nomark _))))))
  wss_nil)
  (wss_cons (ws_if (ww_or (wt_cmp (o_neA hr.units) (w_callB (c_isi T.i_tuple) (by rfl) T.isinstance (by decide +kernel) (wa_cons (w_v 1) (wa_cons (w_ty (n := "tuple") (by rfl) T.tuple (by decide +kernel)) wa_nil))) (w_callB (c_isi T.i_tuple) (by rfl) T.isinstance (by decide +kernel) (wa_cons (w_v 0) (wa_cons (w_ty (n := "tuple") (by rfl) T.tuple (by decide +kernel)) wa_nil))) (nomark _)) (ww_or1 (wt_cmp (o_neA hr.units) (w_callB (c_isi T.i_list) (by rfl) T.isinstance (by decide +kernel) (wa_cons (w_v 1) (wa_cons (w_ty (n := "list") (by rfl) T.list (by decide +kernel)) wa_nil))) (w_callB (c_isi T.i_list) (by rfl) T.isinstance (by decide +kernel) (wa_cons (w_v 0) (wa_cons (w_ty (n := "list") (by rfl) T.list (by decide +kernel)) wa_nil))) (nomark _)))).pt
  (wss_one (ws_ret w_bl))
  wss_nil)
  (wss_one (ws_ret (w_and (w_cmp (o_eqA hr.units) (w_callB c_len (by rfl) T.len (by decide +kernel) (wa_cons (w_v 0) wa_nil)) (w_callB c_len (by rfl) T.len (by decide +kernel) (wa_cons (w_v 1) wa_nil)) (nomark _)) (w_one (w_tmpB (c_all rfl) tmp_all (by rfl) T.all (by decide +kernel) (tgs := ["_law_k"]) (fr := [0, 1]) ⟨blk_of (by kernel_rfl), rfl, (fun _ _ h => h), (wi_range1 rfl T.range (wa_cons (w_callB c_len (by rfl) T.len (by decide +kernel) (wa_cons (w_v 1) wa_nil)) wa_nil)), (wtc_name (fun _ _ _ _ _ => (pg_name (i := 0) (show (["_law_k", "_law_found", "_law_due"] : List Str).Nodup by decide +kernel) rfl (Or.inl rfl))) (by decide)), (fun _ _ _ _ _ => wif_nil), (fun _ _ _ _ _ => (w_def d_law_alike (hr.mono (by decide)) (by rfl) (wa_cons (w_ix x_ix (w_v 1) (w_v 0) (fun _ _ => rfl)) (wa_cons (w_ix x_ix (w_v 2) (w_v 0) (fun _ _ => rfl)) wa_nil))))⟩)))))))))), ?_⟩
    rcases hx with ⟨i, rfl⟩ | ⟨ds, rfl, hz, hs⟩
    · walk_at "rd"
      refine rd_notN (by simp [tyNm]) ?_
      walk_at "rd"
      refine rd_isi (n := "int") rfl (b := false) (by decide) ?_
      walk_at "rd"
      refine rd_isi (n := "int") rfl (b := false) (by decide) ?_
      walk_at "rd"
      refine rd_isi (n := "int") rfl (b := true) (by decide) ?_
      walk_at "rd"
      refine rd_isi (n := "int") rfl (b := true) (by decide) ?_
      walk_at "rd"
      rw [decide_eq_true (rfl : i = i)]
      exact fin2_same k
    · walk_at "rd"
      refine rd_notN (by simp [tyNm]) ?_
      walk_at "rd"
      refine rd_isi (n := "tuple") rfl (b := false) (by decide) ?_
      walk_at "rd"
      refine rd_isi (n := "tuple") rfl (b := false) (by decide) ?_
      walk_at "rd"
      refine rd_isi (n := "tuple") rfl (b := false) (by decide) ?_
      walk_at "rd"
      refine rd_isi (n := "tuple") rfl (b := false) (by decide) ?_
      walk_at "rd"
      refine rd_isi (n := "tuple") rfl (b := true) (by decide) ?_
      walk_at "rd"
      refine rd_isi (n := "tuple") rfl (b := true) (by decide) ?_
      walk_at "rd"
      refine rd_iteN (fun h => absurd rfl h) (fun _ => ?_)
      walk_at "rd"
      refine rd_isi (n := "tuple") rfl (b := false) (by decide) ?_
      walk_at "rd"
      refine rd_isi (n := "tuple") rfl (b := false) (by decide) ?_
      walk_at "rd"
      refine rd_iteN (fun h => absurd rfl h) (fun _ => ?_)
      walk_at "rd"
      refine rd_iteP (fun hl => ?_) (fun hl => absurd rfl hl)
      walk_at "rd"
      refine ⟨inR_of (by omega) (by omega), ?_⟩
      rw [Int.toNat_natCast]
      refine cl_fix (fun i acc M' => M' = M ∧ acc = (List.replicate i true).map D.bl) ⟨rfl, rfl⟩ (fun i acc M' hi h => ?_) (fun i d acc M' hd h => ?_) (fun acc M' h => ?_)
      · obtain ⟨_, rfl⟩ := h
        rw [rangeD_len] at hi
        simp only [List.length_map, List.length_replicate]
        exact small (by omega)
      · obtain ⟨rfl, rfl⟩ := h
        obtain ⟨hi, rfl⟩ := rangeD_at hd
        walk_at "rd"
        refine rd_ixT (atI_any hi) ?_
        walk_at "rd"
        refine rd_ixT (atI_any hi) ?_
        refine ⟨_, rfl, hs _ (List.getElem_mem hi), ?_⟩
        refine ⟨rfl, ?_⟩
        rw [List.replicate_succ', List.map_append]
        rfl
      · obtain ⟨rfl, rfl⟩ := h
        unfold dAll3
        rw [blsD_map]
        show fin2 Q (.bl ((List.replicate _ true).all id)) _
        rw [all_yes]
        exact fin2_same k
theorem ok_alS1 {f : Addr} {fd : FuncData} (F : Fun K "_law_alike" "_law_alike" (top 10) f fd) (T : Blt K mg) (d_law_alike : Def2 P w K mg base 2 "_law_alike" ["_law_found", "_law_due"] (spAlS 1)) : FnOk P w K mg base CX0 3 f fd ["_law_found", "_law_due"] (upSp K (spAlS 2)) := by
  refine ok3 F sc_law_alike (fun ds M Q h => ?_) (fun cdv A outer s H E ds M Q hr h => ?_)
  · obtain ⟨a, rfl, _⟩ := h
    rfl
  · obtain ⟨x, rfl, hx, k⟩ := h
    refine ⟨_, (wss_cons (ws_if (wt_cmp o_isN (w_v 1) w_non (nomark _))
  (wss_one (ws_ret (w_cmp o_isN (w_v 0) w_non (nomark _))))
  wss_nil)
  (wss_cons (ws_if (ww_or (wt_val (w_callB (c_isi T.i_bool) (by rfl) T.isinstance (by decide +kernel) (wa_cons (w_v 1) (wa_cons (w_ty (n := "bool") (by rfl) T.bool (by decide +kernel)) wa_nil)))) (ww_or1 (wt_val (w_callB (c_isi T.i_bool) (by rfl) T.isinstance (by decide +kernel) (wa_cons (w_v 0) (wa_cons (w_ty (n := "bool") (by rfl) T.bool (by decide +kernel)) wa_nil)))))).pt
  (wss_one (ws_ret (w_and (w_callB (c_isi T.i_bool) (by rfl) T.isinstance (by decide +kernel) (wa_cons (w_v 1) (wa_cons (w_ty (n := "bool") (by rfl) T.bool (by decide +kernel)) wa_nil))) (w_and (w_callB (c_isi T.i_bool) (by rfl) T.isinstance (by decide +kernel) (wa_cons (w_v 0) (wa_cons (w_ty (n := "bool") (by rfl) T.bool (by decide +kernel)) wa_nil))) (w_one (w_cmp (o_eqA hr.units) (w_v 0) (w_v 1) (nomark _)))))))
  wss_nil)
  (wss_cons (ws_if (wt_val (w_callB (c_isi T.i_int) (by rfl) T.isinstance (by decide +kernel) (wa_cons (w_v 1) (wa_cons (w_ty (n := "int") (by rfl) T.int (by decide +kernel)) wa_nil))))
  (wss_one (ws_ret (w_and (w_callB (c_isi T.i_int) (by rfl) T.isinstance (by decide +kernel) (wa_cons (w_v 0) (wa_cons (w_ty (n := "int") (by rfl) T.int (by decide +kernel)) wa_nil))) (w_one (w_cmp (o_eqA hr.units) (w_v 0) (w_v 1) (nomark _))))))
  wss_nil)
  (wss_cons (ws_if (wt_val (w_callB (c_isi T.i_str) (by rfl) T.isinstance (by decide +kernel) (wa_cons (w_v 1) (wa_cons (w_ty (n := "str") (by rfl) T.str (by decide +kernel)) wa_nil))))
  (wss_one (ws_ret (w_and (w_callB (c_isi T.i_str) (by rfl) T.isinstance (by decide +kernel) (wa_cons (w_v 0) (wa_cons (w_ty (n := "str") (by rfl) T.str (by decide +kernel)) wa_nil))) (w_one (w_cmp (o_eqA hr.units) (w_v 0) (w_v 1) (nomark _))))))
  wss_nil)
  (wss_cons (ws_if (ww_or (wt_cmp (o_neA hr.units) (w_callB (c_isi T.i_tuple) (by rfl) T.isinstance (by decide +kernel) (wa_cons (w_v 1) (wa_cons (w_ty (n := "tuple") (by rfl) T.tuple (by decide +kernel)) wa_nil))) (w_callB (c_isi T.i_tuple) (by rfl) T.isinstance (by decide +kernel) (wa_cons (w_v 0) (wa_cons (w_ty (n := "tuple") (by rfl) T.tuple (by decide +kernel)) wa_nil))) (nomark _)) (ww_or1 (wt_cmp (o_neA hr.units) (w_callB (c_isi T.i_list) (by rfl) T.isinstance (by decide +kernel) (wa_cons (w_v 1) (wa_cons (w_ty (n := "list") (by rfl) T.list (by decide +kernel)) wa_nil))) (w_callB (c_isi T.i_list) (by rfl) T.isinstance (by decide +kernel) (wa_cons (w_v 0) (wa_cons (w_ty (n := "list") (by rfl) T.list (by decide +kernel)) wa_nil))) (nomark _)))).pt
  (wss_one (ws_ret w_bl))
  wss_nil)
  (wss_one (ws_ret (w_and (w_cmp (o_eqA hr.units) (w_callB c_len (by rfl) T.len (by decide +kernel) (wa_cons (w_v 0) wa_nil)) (w_callB c_len (by rfl) T.len (by decide +kernel) (wa_cons (w_v 1) wa_nil)) (nomark _)) (w_one (w_tmpB (c_all rfl) tmp_all (by rfl) T.all (by decide +kernel) (tgs := ["_law_k"]) (fr := [0, 1]) ⟨blk_of (by kernel_rfl), rfl, (fun _ _ h => h), (wi_range1 rfl T.range (wa_cons (w_callB c_len (by rfl) T.len (by decide +kernel) (wa_cons (w_v 1) wa_nil)) wa_nil)), (wtc_name (fun _ _ _ _ _ => (pg_name (i := 0) (show (["_law_k", "_law_found", "_law_due"] : List Str).Nodup by decide +kernel) rfl (Or.inl rfl))) (by decide)), (fun _ _ _ _ _ => wif_nil), (fun _ _ _ _ _ => (w_def d_law_alike (hr.mono (by decide)) (by rfl) (wa_cons (w_ix x_ix (w_v 1) (w_v 0) (fun _ _ => rfl)) (wa_cons (w_ix x_ix (w_v 2) (w_v 0) (fun _ _ => rfl)) wa_nil))))⟩)))))))))), ?_⟩
    rcases hx with ⟨i, rfl⟩ | ⟨ds, rfl, hz, hs⟩
    · walk_at "rd"
      refine rd_notN (by simp [tyNm]) ?_
      walk_at "rd"
      refine rd_isi (n := "int") rfl (b := false) (by decide) ?_
      walk_at "rd"
      refine rd_isi (n := "int") rfl (b := false) (by decide) ?_
      walk_at "rd"
      refine rd_isi (n := "int") rfl (b := true) (by decide) ?_
      walk_at "rd"
      refine rd_isi (n := "int") rfl (b := true) (by decide) ?_
      walk_at "rd"
      rw [decide_eq_true (rfl : i = i)]
      exact fin2_same k
    · walk_at "rd"
      refine rd_notN (by simp [tyNm]) ?_
      walk_at "rd"
      refine rd_isi (n := "tuple") rfl (b := false) (by decide) ?_
      walk_at "rd"
      refine rd_isi (n := "tuple") rfl (b := false) (by decide) ?_
      walk_at "rd"
      refine rd_isi (n := "tuple") rfl (b := false) (by decide) ?_
      walk_at "rd"
      refine rd_isi (n := "tuple") rfl (b := false) (by decide) ?_
      walk_at "rd"
      refine rd_isi (n := "tuple") rfl (b := true) (by decide) ?_
      walk_at "rd"
      refine rd_isi (n := "tuple") rfl (b := true) (by decide) ?_
      walk_at "rd"
      refine rd_iteN (fun h => absurd rfl h) (fun _ => ?_)
      walk_at "rd"
      refine rd_isi (n := "tuple") rfl (b := false) (by decide) ?_
      walk_at "rd"
      refine rd_isi (n := "tuple") rfl (b := false) (by decide) ?_
      walk_at "rd"
      refine rd_iteN (fun h => absurd rfl h) (fun _ => ?_)
      walk_at "rd"
      refine rd_iteP (fun hl => ?_) (fun hl => absurd rfl hl)
      walk_at "rd"
      refine ⟨inR_of (by omega) (by omega), ?_⟩
      rw [Int.toNat_natCast]
      refine cl_fix (fun i acc M' => M' = M ∧ acc = (List.replicate i true).map D.bl) ⟨rfl, rfl⟩ (fun i acc M' hi h => ?_) (fun i d acc M' hd h => ?_) (fun acc M' h => ?_)
      · obtain ⟨_, rfl⟩ := h
        rw [rangeD_len] at hi
        simp only [List.length_map, List.length_replicate]
        exact small (by omega)
      · obtain ⟨rfl, rfl⟩ := h
        obtain ⟨hi, rfl⟩ := rangeD_at hd
        walk_at "rd"
        refine rd_ixT (atI_any hi) ?_
        walk_at "rd"
        refine rd_ixT (atI_any hi) ?_
        refine ⟨_, rfl, hs _ (List.getElem_mem hi), ?_⟩
        refine ⟨rfl, ?_⟩
        rw [List.replicate_succ', List.map_append]
        rfl
      · obtain ⟨rfl, rfl⟩ := h
        unfold dAll3
        rw [blsD_map]
        show fin2 Q (.bl ((List.replicate _ true).all id)) _
        rw [all_yes]
        exact fin2_same k
theorem ok_alL {f : Addr} {fd : FuncData} (F : Fun K "_law_alike" "_law_alike" (top 10) f fd) (T : Blt K mg) (d_law_alike : Def2 P w K mg base 3 "_law_alike" ["_law_found", "_law_due"] (spAlS 2)) : FnOk P w K mg base CX0 4 f fd ["_law_found", "_law_due"] (upSp K spAlLs) := by
  refine ok3 F sc_law_alike (fun ds M Q h => ?_) (fun cdv A outer s H E ds M Q hr h => ?_)
  · obtain ⟨a, b, _, rfl, _⟩ := h
    rfl
  · obtain ⟨p, q, es, rfl, hp, hq, hz, hs, k⟩ := h
    have tp : tyNm M (.ref p) = some "list" := by show (lstAt M p).map (fun _ => "list") = _; unfold lstAt; rw [hp]; rfl
    have tq : tyNm M (.ref q) = some "list" := by show (lstAt M q).map (fun _ => "list") = _; unfold lstAt; rw [hq]; rfl
    refine ⟨_, (wss_cons (ws_if (wt_cmp o_isN (w_v 1) w_non (nomark _))
  (wss_one (ws_ret (w_cmp o_isN (w_v 0) w_non (nomark _))))
  wss_nil)
  (wss_cons (ws_if (ww_or (wt_val (w_callB (c_isi T.i_bool) (by rfl) T.isinstance (by decide +kernel) (wa_cons (w_v 1) (wa_cons (w_ty (n := "bool") (by rfl) T.bool (by decide +kernel)) wa_nil)))) (ww_or1 (wt_val (w_callB (c_isi T.i_bool) (by rfl) T.isinstance (by decide +kernel) (wa_cons (w_v 0) (wa_cons (w_ty (n := "bool") (by rfl) T.bool (by decide +kernel)) wa_nil)))))).pt
  (wss_one (ws_ret (w_and (w_callB (c_isi T.i_bool) (by rfl) T.isinstance (by decide +kernel) (wa_cons (w_v 1) (wa_cons (w_ty (n := "bool") (by rfl) T.bool (by decide +kernel)) wa_nil))) (w_and (w_callB (c_isi T.i_bool) (by rfl) T.isinstance (by decide +kernel) (wa_cons (w_v 0) (wa_cons (w_ty (n := "bool") (by rfl) T.bool (by decide +kernel)) wa_nil))) (w_one (w_cmp (o_eqA hr.units) (w_v 0) (w_v 1) (nomark _)))))))
  wss_nil)
  (wss_cons (ws_if (wt_val (w_callB (c_isi T.i_int) (by rfl) T.isinstance (by decide +kernel) (wa_cons (w_v 1) (wa_cons (w_ty (n := "int") (by rfl) T.int (by decide +kernel)) wa_nil))))
  (wss_one (ws_ret (w_and (w_callB (c_isi T.i_int) (by rfl) T.isinstance (by decide +kernel) (wa_cons (w_v 0) (wa_cons (w_ty (n := "int") (by rfl) T.int (by decide +kernel)) wa_nil))) (w_one (w_cmp (o_eqA hr.units) (w_v 0) (w_v 1) (nomark _))))))
  wss_nil)
  (wss_cons (ws_if (wt_val (w_callB (c_isi T.i_str) (by rfl) T.isinstance (by decide +kernel) (wa_cons (w_v 1) (wa_cons (w_ty (n := "str") (by rfl) T.str (by decide +kernel)) wa_nil))))
  (wss_one (ws_ret (w_and (w_callB (c_isi T.i_str) (by rfl) T.isinstance (by decide +kernel) (wa_cons (w_v 0) (wa_cons (w_ty (n := "str") (by rfl) T.str (by decide +kernel)) wa_nil))) (w_one (w_cmp (o_eqA hr.units) (w_v 0) (w_v 1) (nomark _))))))
  wss_nil)
  (wss_cons (ws_if (ww_or (wt_cmp (o_neA hr.units) (w_callB (c_isi T.i_tuple) (by rfl) T.isinstance (by decide +kernel) (wa_cons (w_v 1) (wa_cons (w_ty (n := "tuple") (by rfl) T.tuple (by decide +kernel)) wa_nil))) (w_callB (c_isi T.i_tuple) (by rfl) T.isinstance (by decide +kernel) (wa_cons (w_v 0) (wa_cons (w_ty (n := "tuple") (by rfl) T.tuple (by decide +kernel)) wa_nil))) (nomark _)) (ww_or1 (wt_cmp (o_neA hr.units) (w_callB (c_isi T.i_list) (by rfl) T.isinstance (by decide +kernel) (wa_cons (w_v 1) (wa_cons (w_ty (n := "list") (by rfl) T.list (by decide +kernel)) wa_nil))) (w_callB (c_isi T.i_list) (by rfl) T.isinstance (by decide +kernel) (wa_cons (w_v 0) (wa_cons (w_ty (n := "list") (by rfl) T.list (by decide +kernel)) wa_nil))) (nomark _)))).pt
  (wss_one (ws_ret w_bl))
  wss_nil)
  (wss_one (ws_ret (w_and (w_cmp (o_eqA hr.units) (w_callB c_len (by rfl) T.len (by decide +kernel) (wa_cons (w_v 0) wa_nil)) (w_callB c_len (by rfl) T.len (by decide +kernel) (wa_cons (w_v 1) wa_nil)) (nomark _)) (w_one (w_tmpB (c_all rfl) tmp_all (by rfl) T.all (by decide +kernel) (tgs := ["_law_k"]) (fr := [0, 1]) ⟨blk_of (by kernel_rfl), rfl, (fun _ _ h => h), (wi_range1 rfl T.range (wa_cons (w_callB c_len (by rfl) T.len (by decide +kernel) (wa_cons (w_v 1) wa_nil)) wa_nil)), (wtc_name (fun _ _ _ _ _ => (pg_name (i := 0) (show (["_law_k", "_law_found", "_law_due"] : List Str).Nodup by decide +kernel) rfl (Or.inl rfl))) (by decide)), (fun _ _ _ _ _ => wif_nil), (fun _ _ _ _ _ => (w_def d_law_alike (hr.mono (by decide)) (by rfl) (wa_cons (w_ix x_ix (w_v 1) (w_v 0) (fun _ _ => rfl)) (wa_cons (w_ix x_ix (w_v 2) (w_v 0) (fun _ _ => rfl)) wa_nil))))⟩)))))))))), ?_⟩
    walk_at "rd"
    refine rd_notN (by rw [tq]; simp) ?_
    walk_at "rd"
    refine rd_isi tq (b := false) (by decide) ?_
    walk_at "rd"
    refine rd_isi tp (b := false) (by decide) ?_
    walk_at "rd"
    refine rd_isi tq (b := false) (by decide) ?_
    walk_at "rd"
    refine rd_isi tq (b := false) (by decide) ?_
    walk_at "rd"
    refine rd_isi tq (b := false) (by decide) ?_
    walk_at "rd"
    refine rd_isi tp (b := false) (by decide) ?_
    walk_at "rd"
    refine rd_iteN (fun h => absurd rfl h) (fun _ => ?_)
    walk_at "rd"
    refine rd_isi tq (b := true) (by decide) ?_
    walk_at "rd"
    refine rd_isi tp (b := true) (by decide) ?_
    walk_at "rd"
    refine rd_iteN (fun h => absurd rfl h) (fun _ => ?_)
    walk_at "rd"
    refine rd_iteP (fun hl => ?_) (fun hl => absurd rfl hl)
    walk_at "rd"
    refine ⟨inR_of (by omega) (by omega), ?_⟩
    rw [Int.toNat_natCast]
    refine cl_fix (fun i acc M' => M' = M ∧ acc = (List.replicate i true).map D.bl) ⟨rfl, rfl⟩ (fun i acc M' hi h => ?_) (fun i d acc M' hd h => ?_) (fun acc M' h => ?_)
    · obtain ⟨_, rfl⟩ := h
      rw [rangeD_len] at hi
      simp only [List.length_map, List.length_replicate]
      exact small (by omega)
    · obtain ⟨rfl, rfl⟩ := h
      obtain ⟨hi, rfl⟩ := rangeD_at hd
      walk_at "rd"
      refine rd_ixL hp (atI_any hi) ?_
      walk_at "rd"
      refine rd_ixL hq (atI_any hi) ?_
      refine ⟨_, rfl, hs _ (List.getElem_mem hi), ?_⟩
      refine ⟨rfl, ?_⟩
      rw [List.replicate_succ', List.map_append]
      rfl
    · obtain ⟨rfl, rfl⟩ := h
      unfold dAll3
      rw [blsD_map]
      show fin2 Q (.bl ((List.replicate _ true).all id)) _
      rw [all_yes]
      exact fin2_same k
end

section
variable {P : Program} {w : World} {K : PySem.W.Frag} {mg : Str → Option Value} {base : Heap}
theorem sc_moves : FnScope ["game", "counts", "told", "h", "heap", "rest"] ["game", "counts"] (defScope (top 3)) := ⟨rfl, rfl, rfl, by decide +kernel, rfl, by decide +kernel, by decide +kernel⟩
theorem ok_moves {f : Addr} {fd : FuncData} (F : Fun K "moves" "moves" (top 3) f fd) (T : Blt K mg) (d_one_less : Def2 P w K mg base 1 "one_less" ["counts", "heap"] spLess) (d_added : Def2 P w K mg base 1 "added" ["one", "other"] spAdd) : FnOk P w K mg base CX0 2 f fd ["game", "counts"] (upSp K spMoves) := by
  refine ok3 F sc_moves (fun ds M Q h => ?_) (fun cdv A outer s H E ds M Q hr h => ?_)
  · obtain ⟨n, g, as, rfl, _⟩ := h
    rfl
  · obtain ⟨n, g, as, rfl, G, ha, k⟩ := h
    have hfew := G.few
    refine ⟨_, (wss_cons (ws_set (i := 2) sc_moves.nd rfl (Or.inl rfl) (w_lst wa_nil))
  (wss_cons (ws_for PassesOwn.never rfl (wi_enum rfl T.enumerate (wa_cons (w_v 0) wa_nil)) (wg_tup (n := 2) rfl (wgs_cons (wg_name (i := 3) sc_moves.nd rfl (Or.inr rfl)) (wgs_cons (wg_name (i := 4) sc_moves.nd rfl (Or.inl rfl)) wgs_nil)))
  (wss_one (ws_if (wt_cmp o_gt (w_ix x_ix (w_v 1) (w_v 3) (fun _ _ => rfl)) w_int (nomark _))
  (wss_cons (ws_set (i := 5) sc_moves.nd rfl (Or.inr rfl) (w_def d_one_less (hr.mono (by decide)) (by rfl) (wa_cons (w_v 1) (wa_cons (w_v 3) wa_nil))))
  (wss_one (ws_expr (w_bm PySem.F.plainAttrs_list PySem.F.slot_list_extend PySem.F.type_list_extend m_extend (w_v 2) (wa_cons (w_comp (tgs := ["k", "option"]) (fr := [3, 5]) ⟨blk_of (by kernel_rfl), rfl, (fun _ _ h => h), (wi_enum rfl T.enumerate (wa_cons (w_ix x_ix (w_v 4) w_int (fun _ _ => rfl)) wa_nil)), (wtc_tup2 (fun _ _ _ _ _ => (pg_tup rfl (pgs_cons (pg_name (i := 0) (show (["k", "option", "h", "rest"] : List Str).Nodup by decide +kernel) rfl (Or.inl rfl)) (pgs_cons (pg_name (i := 1) (show (["k", "option", "h", "rest"] : List Str).Nodup by decide +kernel) rfl (Or.inl rfl)) pgs_nil)))) (by decide) (by decide)), (fun _ _ _ _ _ => wif_nil), (fun _ _ _ _ _ => (w_tup (wa_cons (w_v 2) (wa_cons (w_v 0) (wa_cons (w_def d_added (hr.mono (by decide)) (by rfl) (wa_cons (w_v 3) (wa_cons (w_v 1) wa_nil))) wa_nil)))))⟩) wa_nil)))))
  wss_nil)))
  (wss_one (ws_ret (w_v 2))))), ?_⟩
    walk_at "rd"
    refine ⟨by decide, fun p hp => ?_⟩
    walk_at "rd"
    refine fl_fix (fun i δ M' => ∃ (v1 v2 v3 : Option D), δ = [some (gameD g), some (row as), some (.ref p), v1, v2, v3] ∧ M' p = some (.lst (mvs g as i)) ∧ Ext M M') ⟨none, none, none, rfl, updM_same, mext (fun b o e => e) hp _⟩ (fun i d δ M' hd h => ?_) (fun δ M' h => ?_)
    · obtain ⟨v1, v2, v3, rfl, h3, hM⟩ := h
      obtain ⟨hi, rfl⟩ := enum_at hd
      rw [List.length_map] at hi
      rw [getD_heap hi]
      have hin : i < n := by rw [← G.len]; exact hi
      obtain ⟨ho, hr1⟩ := G.at hin
      generalize hos : g.getD i hp0 = hp at *
      obtain ⟨nm, os⟩ := hp
      have ho : os.length ≤ 63 := ho
      have hr1 : ∀ r ∈ os, r.length = n := hr1
      have ml := mvs_len G as i (by omega)
      have step : mvs g as (i + 1) = mvs g as i ++ opt as i (mv1 as i os os.length) := by
        show mvs g as i ++ opt as i (mv1 as i (g.getD i hp0).2 (g.getD i hp0).2.length) = _
        rw [hos]
      walk_at "rd"
      refine rd_ixT (atI_intN (by omega)) ?_
      walk_at "rd"
      refine rd_iteP (fun hpos => ?_) (fun hpos => ?_)
      · have eo : opt as i (mv1 as i os os.length) = mv1 as i os os.length := if_pos hpos
        walk_at "rd"
        refine ⟨as, i, rfl, by omega, by omega, ?_⟩
        walk_at "rd"
        refine ⟨⟨rfl, _, h3⟩, ?_⟩
        walk_at "rd"
        refine cl_fix (fun j acc M2 => M2 = M' ∧ acc = mv1 as i os j) ⟨rfl, rfl⟩ (fun j acc M2 hj h => ?_) (fun j d acc M2 hd h => ?_) (fun acc M2 h => ?_)
        · obtain ⟨_, rfl⟩ := h
          rw [enumD_len, List.length_map] at hj
          rw [mv1_len]
          exact small (by have := ho; show j ≤ 10000; omega)
        · obtain ⟨rfl, rfl⟩ := h
          obtain ⟨hj, rfl⟩ := enum_at hd
          rw [List.length_map] at hj
          rw [getD_row hj]
          have hl := hr1 _ (getD_mem hj)
          walk_at "rd"
          refine ⟨less as i, os.getD j [], rfl, by rw [less_len (by omega)]; omega, by rw [less_len (by omega)]; omega, ?_⟩
          walk_at "rd"
          refine ⟨by show 3 ≤ sizeLine; decide, rfl, ?_⟩
          rw [mv1_succ]
          rfl
        · obtain ⟨rfl, rfl⟩ := h
          rw [enumD_len, List.length_map]
          intro q hq
          have hpq : p ≠ q := fun z => by subst z; rw [h3] at hq; cases hq
          walk_at "rd"
          refine rd_ext (by rw [updM_ne hpq]; exact h3) updM_same ?_ ?_
          · rw [mv1_len]
            have ho : os.length ≤ 63 := ho
            exact small (by omega)
          · walk_at "rd"
            refine ⟨_, _, _, rfl, ?_, Ext.own (mext hM hq _) hp⟩
            rw [updM_same, step, eo]
      · have eo : opt as i (mv1 as i os os.length) = [] := if_neg hpos
        walk_at "rd"
        refine ⟨_, _, _, rfl, ?_, hM⟩
        rw [step, eo, List.append_nil]
        exact h3
    · obtain ⟨v1, v2, v3, rfl, h3, hM⟩ := h
      rw [enumD_len, List.length_map, G.len] at h3
      walk_at "rd"
      exact fin2_same (k p M' hp h3 hM)
end

section
variable {P : Program} {w : World} {K : PySem.W.Frag} {mg : Str → Option Value} {base : Heap}
theorem sc_law_any_sums : FnScope ["_law_flow_here", "_law_ahead", "_law_many", "_law_told", "_law_k", "_law_heaps"] ["_law_flow_here", "_law_ahead", "_law_many"] (defScope (top 20)) := ⟨rfl, rfl, rfl, by decide +kernel, rfl, by decide +kernel, by decide +kernel⟩
theorem ok_law_any_sums {f : Addr} {fd : FuncData} (F : Fun K "_law_any_sums" "_law_any_sums" (top 20) f fd) (T : Blt K mg) (d_law_pick : Def2 P w K mg base 1 "_law_pick" ["_law_flow_here", "_law_many"] spPick) (d_law_counts : Def2 P w K mg base 1 "_law_counts" ["_law_heaps", "_law_many"] spCounts) (d_law_in_order : Def2 P w K mg base 4 "_law_in_order" ["_law_sums"] spInOrd) : FnOk P w K mg base CX0 5 f fd ["_law_flow_here", "_law_ahead", "_law_many"] (upSp K spAnyS) := by
  refine ok3 F sc_law_any_sums (fun ds M Q h => ?_) (fun cdv A outer s H E ds M Q hr h => ?_)
  · obtain ⟨a, cc, b, c, rfl, _⟩ := h
    rfl
  · obtain ⟨a, cc, i, n, rfl, hF, hin, hn, k⟩ := h
    refine ⟨_, (wss_cons (ws_set (i := 3) sc_law_any_sums.nd rfl (Or.inl rfl) (w_lst wa_nil))
  (wss_cons (ws_for PassesOwn.never rfl (wi_range1 rfl T.range (wa_cons (w_ix x_ix (w_lst (wa_cons w_int (wa_cons w_int (wa_cons w_int (wa_cons w_int (wa_cons w_int wa_nil)))))) (w_def d_law_pick (hr.mono (by decide)) (by rfl) (wa_cons (w_v 0) (wa_cons w_int wa_nil))) (fun _ _ => rfl)) wa_nil)) (wg_name (i := 4) sc_law_any_sums.nd rfl (Or.inl rfl))
  (wss_cons (ws_setComp (i := 5) sc_law_any_sums.nd rfl (Or.inl rfl) (tgs := ["_law_j"]) (fr := [0, 1]) ⟨blk_of (by kernel_rfl), rfl, (fun _ _ h => h), (wi_range1 rfl T.range (wa_cons (w_op o_mulB (w_callB (c_min rfl) (by rfl) T.min (by decide +kernel) (wa_cons (w_v 1) (wa_cons w_int wa_nil))) (w_def d_law_pick (hr.mono (by decide)) (by rfl) (wa_cons (w_v 0) (wa_cons w_int wa_nil)))) wa_nil)), (wtc_name (fun _ _ _ _ _ => (pg_name (i := 0) (show (["_law_j", "_law_flow_here", "_law_ahead"] : List Str).Nodup by decide +kernel) rfl (Or.inl rfl))) (by decide)), (fun _ _ _ _ _ => wif_nil), (fun _ _ _ _ _ => (w_def d_law_pick (hr.mono (by decide)) (by rfl) (wa_cons (w_v 1) (wa_cons (w_v 2) wa_nil))))⟩)
  (wss_one (ws_expr (w_bm PySem.F.plainAttrs_list PySem.F.slot_list_append PySem.F.type_list_append m_append (w_v 3) (wa_cons (w_def d_law_counts (hr.mono (by decide)) (by rfl) (wa_cons (w_v 5) (wa_cons (w_v 2) wa_nil))) wa_nil))))))
  (wss_one (ws_ret (w_def d_law_in_order (hr.mono (by decide)) (by rfl) (wa_cons (w_v 3) wa_nil)))))), ?_⟩
    walk_at "rd"
    refine ⟨by decide, fun p hp => ?_⟩
    have hpa := (hF.ne hp).1
    have F0 : Fl a cc M _ := Fl.put (o := .lst []) hF hp
    walk_at "rd"
    refine ⟨by decide, fun q hq => ?_⟩
    have F1 : Fl a cc M _ := F0.trans (Fl.put (o := .lst [.int 0, .int 1, .int 2, .int 6, .int 12]) F0.flow hq)
    have hqa := (F0.flow.ne hq).1
    have hqp : p ≠ q := fun z => by rw [← z, updM_same] at hq; cases hq
    walk_at "rd"
    refine ⟨a, cc, 5, rfl, F1.flow, by decide, by decide, fun d o h0 h1 hF1 => ?_⟩
    have F2 := F1.trans (Fl.pick hF1)
    obtain ⟨c, hcm, hc⟩ := atI_ints (ns := [0, 1, 2, 6, 12]) h0 (by show d < 5; exact h1)
    have hc12 : 0 ≤ c ∧ c ≤ 12 := by
      simp only [List.mem_cons, List.not_mem_nil, or_false] at hcm
      omega
    refine rd_ixL (by rw [updM_ne hqa]; exact updM_same) hc ?_
    walk_at "rd"
    refine ⟨inR_of (by omega) (by omega), ?_⟩
    have hMp : updM (updM (updM M p (.lst [])) q (.lst [.int 0, .int 1, .int 2, .int 6, .int 12])) a o p = some (.lst (([] : List (List Int)).map row)) := by
      rw [updM_ne hpa, updM_ne hqp]
      exact updM_same
    generalize updM (updM (updM M p (.lst [])) q (.lst [.int 0, .int 1, .int 2, .int 6, .int 12])) a o = M2 at *
    refine fl_fix (fun j δ M' => ∃ (v1 v2 : Option D) (rs : List (List Int)), δ = [some (.ref a), some (.int i), some (.int n), some (.ref p), v1, v2] ∧ rs.length = j ∧ (∀ r ∈ rs, OptR n i r) ∧ M' p = some (.lst (rs.map row)) ∧ Fl a cc M M') ⟨none, none, [], rfl, rfl, (fun r h => by cases h), hMp, F2⟩ (fun j d δ M' hd h => ?_) (fun δ M' h => ?_)
    · obtain ⟨v1, v2, rs, rfl, hrl, hrs, h3, F3⟩ := h
      obtain ⟨hj, rfl⟩ := rangeD_at hd
      walk_at "rd"
      refine ⟨a, cc, 5, rfl, F3.flow, by decide, by decide, fun d o h0 h1 hF4 => ?_⟩
      have F4 := F3.trans (Fl.pick hF4)
      have hmin : (if (1 : Int) < (i : Int) then (1 : Int) else (i : Int)) = if 1 ≤ i then 1 else 0 := by
        split <;> split <;> omega
      rw [hmin]
      refine rd_mulbI (cmul_l (by split <;> omega) (by split <;> omega)) ?_
      have hle : (if 1 ≤ i then (1 : Int) else 0) * d ≤ 4 ∧ 0 ≤ (if 1 ≤ i then (1 : Int) else 0) * d ∧ (i = 0 → (if 1 ≤ i then (1 : Int) else 0) * d = 0) := by
        split
        · rw [Int.one_mul]; exact ⟨by omega, h0, fun z => by omega⟩
        · rw [Int.zero_mul]; exact ⟨by omega, by omega, fun _ => rfl⟩
      generalize (if 1 ≤ i then (1 : Int) else 0) * d = c2 at hle ⊢
      obtain ⟨c1, c0, cn⟩ := hle
      refine ⟨inR_of (by omega) (by omega), ?_⟩
      have h4 : updM M' a o p = some (.lst (rs.map row)) := by rw [updM_ne hpa]; exact h3
      refine cl_acc (xs := List.range c2.toNat) (enc := rgD) D.int (fun ns M' => Fl a cc M M' ∧ M' p = some (.lst (rs.map row)) ∧ ∀ x ∈ ns, 0 ≤ x ∧ x < (i : Int)) (by simp; omega) ⟨F4, h4, fun x h => by cases h⟩ (fun jj x ys M' N hx hy h hN => ?_) (fun ns M' hl h => ?_)
      · obtain ⟨F2, h3, h2⟩ := h
        have hi := (List.getElem?_eq_some_iff.mp hx).1
        rw [List.length_range] at hi
        have hn : i ≠ 0 := fun z => by have := cn z; omega
        walk_at "rd"
        refine ⟨a, cc, i, rfl, F2.flow, by omega, by omega, fun d2 o2 h2' h3' hF2 => hN _ _ ⟨F2.trans (Fl.pick hF2), by rw [updM_ne hpa]; exact h3, fun x hx => ?_⟩⟩
        rcases List.mem_append.mp hx with q | q
        · exact h2 x q
        · have : x = d2 := by simpa using q
          omega
      · obtain ⟨F2, h3, h2⟩ := h
        rw [List.length_range] at hl
        intro p2 hp2
        have hpp : p ≠ p2 := fun z => by subst z; rw [h3] at hp2; cases hp2
        walk_at "rd"
        refine ⟨⟨rfl, _, by rw [updM_ne hpp]; exact h3⟩, ?_⟩
        walk_at "rd"
        refine ⟨p2, ns, n, rfl, updM_same, by omega, ?_⟩
        walk_at "rd"
        refine rd_app (by rw [updM_ne hpp]; exact h3) (by rw [List.length_map]; exact Nat.lt_of_le_of_lt (show rs.length ≤ 12 by omega) (by decide)) ?_
        walk_at "rd"
        refine ⟨_, _, rs ++ [cnts ns n], rfl, by simp [hrl], fun r hr => ?_, by rw [updM_same, List.map_append]; rfl, (F2.trans (Fl.put F2.flow hp2)).own hF hp⟩
        rcases List.mem_append.mp hr with q | q
        · exact hrs r q
        · have e : r = cnts ns n := by simpa using q
          subst e
          refine ⟨cnts_len _ _, cnts_pos, ?_, cnts_low fun x hx => (h2 x hx).2⟩
          have := cnts_few (ns := ns) (n := n)
          omega
    · obtain ⟨v1, v2, rs, rfl, hrl, hrs, h3, F3⟩ := h
      rw [rangeD_len] at hrl
      walk_at "rd"
      refine ⟨_, rs, rfl, .inr ⟨p, rfl, h3⟩, by omega, fun r hr => by have := (hrs r hr).len; omega, fun out ho hol => ?_⟩
      exact fin2_same (k out _ (by omega) (fun r hr => hrs r (ho r hr)) F3)
end

section
variable {P : Program} {w : World} {K : PySem.W.Frag} {mg : Str → Option Value} {base : Heap}
theorem game_of {n : Nat} {zs : List Str} {oss : List (List (List Int))} (hn : n ≤ 12) (hz : zs.length = n) (ho : oss.length = n) (h : ∀ i os, oss[i]? = some os → os.length ≤ 12 ∧ ∀ r ∈ os, OptR n i r) : Game n (zs.zip oss) := by
  refine ⟨by rw [List.length_zip]; omega, hn, fun i hi => ?_⟩
  have e : (zs.zip oss).getD i hp0 = (zs[i]'(by omega), oss[i]'(by omega)) := by
    rw [List.getD_eq_getElem?_getD, List.getElem?_eq_getElem (by rw [List.length_zip]; omega)]
    simp
  rw [e]
  have := h i _ (List.getElem?_eq_getElem (by omega))
  exact ⟨by have := this.1; show (oss[i]'_).length ≤ 63; omega, this.2⟩
theorem sc_law_any_game : FnScope ["_law_flow_here", "_law_most", "_law_many", "_law_names_here"] ["_law_flow_here", "_law_most"] (defScope (top 21)) := ⟨rfl, rfl, rfl, by decide +kernel, rfl, by decide +kernel, by decide +kernel⟩
theorem ok_law_any_game {f : Addr} {fd : FuncData} (F : Fun K "_law_any_game" "_law_any_game" (top 21) f fd) (T : Blt K mg) (d_law_pick : Def2 P w K mg base 1 "_law_pick" ["_law_flow_here", "_law_many"] spPick) (d_law_names : Def2 P w K mg base 3 "_law_names" ["_law_flow_here", "_law_many"] spNames) (d_law_any_sums : Def2 P w K mg base 5 "_law_any_sums" ["_law_flow_here", "_law_ahead", "_law_many"] spAnyS) : FnOk P w K mg base CX0 6 f fd ["_law_flow_here", "_law_most"] (upSp K spAnyG) := by
  refine ok3 F sc_law_any_game (fun ds M Q h => ?_) (fun cdv A outer s H E ds M Q hr h => ?_)
  · obtain ⟨a, cc, b, rfl, _⟩ := h
    rfl
  · obtain ⟨a, cc, m, rfl, hF, hm, k⟩ := h
    refine ⟨_, (wss_cons (ws_set (i := 2) sc_law_any_game.nd rfl (Or.inr rfl) (w_def d_law_pick (hr.mono (by decide)) (by rfl) (wa_cons (w_v 0) (wa_cons (w_op o_addA (w_v 1) w_int) wa_nil))))
  (wss_cons (ws_set (i := 3) sc_law_any_game.nd rfl (Or.inr rfl) (w_def d_law_names (hr.mono (by decide)) (by rfl) (wa_cons (w_v 0) (wa_cons (w_v 2) wa_nil))))
  (wss_one (ws_ret (w_tmpT c_tuple tmp_tuple (by rfl) T.tuple (by decide +kernel) (tgs := ["_law_h"]) (fr := [3, 0, 2]) ⟨blk_of (by kernel_rfl), rfl, (fun _ _ h => h), (wi_range1 rfl T.range (wa_cons (w_v 2) wa_nil)), (wtc_name (fun _ _ _ _ _ => (pg_name (i := 0) (show (["_law_h", "_law_names_here", "_law_flow_here", "_law_many"] : List Str).Nodup by decide +kernel) rfl (Or.inl rfl))) (by decide)), (fun _ _ _ _ _ => wif_nil), (fun _ _ _ _ _ => (w_tup (wa_cons (w_ix x_ix (w_v 1) (w_v 0) (fun _ _ => rfl)) (wa_cons (w_def d_law_any_sums (hr.mono (by decide)) (by rfl) (wa_cons (w_v 2) (wa_cons (w_v 0) (wa_cons (w_v 3) wa_nil)))) wa_nil))))⟩))))), ?_⟩
    walk_at "rd"
    refine ⟨a, cc, m + 1, rfl, hF, by omega, by omega, fun d o h0 h1 hF1 => ?_⟩
    have F1 : Fl a cc M _ := Fl.pick hF1
    generalize updM M a o = M1 at *
    obtain ⟨n, rfl⟩ : ∃ n : Nat, d = (n : Int) := ⟨d.toNat, by omega⟩
    walk_at "rd"
    refine ⟨a, cc, n, rfl, F1.flow, by omega, fun p zs M2 hz hp hMp F2 => ?_⟩
    have F3 := F1.trans F2
    have hpa := (F1.flow.ne hp).1
    walk_at "rd"
    refine ⟨inR_of (by omega) (by omega), ?_⟩
    rw [Int.toNat_natCast]
    refine cl_acc (β := Str × List (List Int)) (xs := List.range n) (enc := rgD) heapD (fun g M' => Fl a cc M M' ∧ M' p = some (.lst (zs.map D.str)) ∧ ∃ oss : List (List (List Int)), oss.length = g.length ∧ g = (zs.take g.length).zip oss ∧ ∀ i os, oss[i]? = some os → os.length ≤ 12 ∧ ∀ r ∈ os, OptR n i r) (by simp; omega) ⟨F3, hMp, [], rfl, rfl, fun i os h => by simp at h⟩ (fun i x g M' N hx hy h hN => ?_) (fun g M' hl h => ?_)
    · obtain ⟨F4, h3, oss, ho, hg, hos⟩ := h
      have hi := (List.getElem?_eq_some_iff.mp hx).1
      have hxi : x = i := by rw [List.getElem?_range (by simpa using hi)] at hx; exact (Option.some.inj hx).symm
      subst hxi
      rw [List.length_range] at hi
      have hzi : zs[x]? = some (zs[x]'(by omega)) := List.getElem?_eq_getElem (by omega)
      have hat : atI (zs.map D.str) (0 + (x : Int)) = some (.str (zs[x]'(by omega))) := by
        rw [Int.zero_add]
        refine atI_nat ?_
        rw [List.getElem?_map, hzi]
        rfl
      walk_at "rd"
      refine rd_ixL h3 hat ?_
      walk_at "rd"
      rw [rgD_eq]
      refine ⟨a, cc, x, n, rfl, F4.flow, by omega, by omega, fun os M5 hos12 hosr F5 => ?_⟩
      walk_at "rd"
      refine ⟨by show 2 ≤ sizeLine; decide, hN (zs[x]'(by omega), os) _ ⟨F4.trans F5, F5.mv p _ hpa h3, oss ++ [os], by simp [ho], ?_, fun i os' h => ?_⟩⟩
      · rw [List.length_append, List.length_singleton, hy, take_one hzi]
        rw [hy] at hg ho
        rw [List.zip_append (by rw [List.length_take]; omega), ← hg]
        rfl
      · by_cases hlt : i < oss.length
        · rw [List.getElem?_append_left hlt] at h
          exact hos i os' h
        · rw [List.getElem?_append_right (by omega)] at h
          have hi0 : i - oss.length = 0 := by
            have := (List.getElem?_eq_some_iff.mp h).1
            simp at this
            omega
          rw [hi0] at h
          have e : os = os' := by simpa using h
          subst e
          have : i = x := by omega
          subst this
          exact ⟨hos12, hosr⟩
    · obtain ⟨F4, h3, oss, ho, hg, hos⟩ := h
      rw [List.length_range] at hl
      rw [hl, List.take_of_length_le (by omega)] at hg
      refine fin2_same (k n g M' (by omega) ?_ F4)
      rw [hg]
      exact game_of (by omega) hz (by omega) hos
end

def dot (as bs : List Int) : Int := (List.zipWith (· * ·) as bs).sum
def plN (oss : List (List (List Int))) : Nat → List Int
  | 0 => []
  | i + 1 => plN oss i ++ [maxI 0 ((oss.getD i []).map fun o => 1 + dot o (plN oss i))]
theorem plN_len (oss : List (List (List Int))) : ∀ i, (plN oss i).length = i
  | 0 => rfl
  | i + 1 => by show (plN oss i ++ [_]).length = _; rw [List.length_append, plN_len oss i]; rfl
structure OptsOk (oss : List (List (List Int))) : Prop where
  few : oss.length ≤ 12
  opts : ∀ i, i < oss.length → (oss.getD i []).length ≤ 63 ∧ ∀ o ∈ oss.getD i [], (∀ x ∈ o, 0 ≤ x) ∧ o.sum ≤ 4 ∧ o.length ≤ 1000
def optsOf (g : List HeapS) : List (List (List Int)) := g.map (·.2)
theorem optsOf_at (g : List HeapS) (i : Nat) : (optsOf g).getD i [] = (g.getD i hp0).2 := by
  unfold optsOf
  rw [List.getD_eq_getElem?_getD, List.getD_eq_getElem?_getD, List.getElem?_map]
  cases g[i]? <;> rfl
theorem Game.optsOk {n : Nat} {g : List HeapS} (G : Game n g) : OptsOk (optsOf g) := by
  have hl : (optsOf g).length = n := by unfold optsOf; rw [List.length_map]; exact G.len
  refine ⟨by rw [hl]; exact G.few, fun i hi => ?_⟩
  rw [optsOf_at]
  rw [hl] at hi
  exact ⟨(G.opts i hi).1, fun o ho => ⟨((G.opts i hi).2 o ho).pos, ((G.opts i hi).2 o ho).sum, by rw [((G.opts i hi).2 o ho).len]; have := G.few; omega⟩⟩
def playsN (g : List HeapS) (i : Nat) : List Int := plN (optsOf g) i
theorem playsN_len (g : List HeapS) (i : Nat) : (playsN g i).length = i := plN_len _ i
theorem playsN_succ (g : List HeapS) (i : Nat) : playsN g (i + 1) = playsN g i ++ [maxI 0 ((g.getD i hp0).2.map fun o => 1 + dot o (playsN g i))] := by
  show plN (optsOf g) i ++ [maxI 0 (((optsOf g).getD i []).map fun o => 1 + dot o (plN (optsOf g) i))] = _
  rw [optsOf_at]
  rfl
theorem maxI_le {b : Int} : ∀ {ns : List Int}, 0 ≤ b → (∀ x ∈ ns, x ≤ b) → maxI 0 ns ≤ b := fun {ns} hb h => by
  cases ns with
  | nil => exact hb
  | cons n ns =>
    rcases (foldl_max ns n).2.2 with e | e
    · show ns.foldl max n ≤ b
      rw [e]; exact h n (List.mem_cons_self ..)
    · exact h _ (List.mem_cons_of_mem _ e)
theorem maxI_ge {ns : List Int} {x : Int} (h : x ∈ ns) : x ≤ maxI 0 ns := by
  cases ns with
  | nil => cases h
  | cons n ns =>
    show x ≤ ns.foldl max n
    rcases List.mem_cons.mp h with rfl | h
    · exact (foldl_max ns x).1
    · exact (foldl_max ns n).2.1 x h
theorem maxI_pos {ns : List Int} (h : ∀ x ∈ ns, 0 ≤ x) : 0 ≤ maxI 0 ns := by
  cases ns with
  | nil => exact Int.le_refl _
  | cons n ns => exact Int.le_trans (h n (List.mem_cons_self ..)) (maxI_ge (List.mem_cons_self ..))
theorem dot_nil (as : List Int) : dot as [] = 0 := by unfold dot; rw [List.zipWith_nil_right]; rfl
theorem dot_cons (a b : Int) (as bs : List Int) : dot (a :: as) (b :: bs) = a * b + dot as bs := by unfold dot; rw [List.zipWith_cons_cons, List.sum_cons]
theorem dot_pos : ∀ {as bs : List Int}, (∀ x ∈ as, 0 ≤ x) → (∀ x ∈ bs, 0 ≤ x) → 0 ≤ dot as bs
  | [], bs, _, _ => by unfold dot; simp
  | a :: as, [], _, _ => by rw [dot_nil]; exact Int.le_refl _
  | a :: as, b :: bs, h, q => by
    rw [dot_cons]
    have := dot_pos (as := as) (bs := bs) (fun x hx => h x (List.mem_cons_of_mem _ hx)) (fun x hx => q x (List.mem_cons_of_mem _ hx))
    have := Int.mul_nonneg (h a (List.mem_cons_self ..)) (q b (List.mem_cons_self ..))
    omega
theorem dot_le {B : Int} (hB : 0 ≤ B) : ∀ {as bs : List Int}, (∀ x ∈ as, 0 ≤ x) → (∀ x ∈ bs, x ≤ B) → dot as bs ≤ as.sum * B
  | [], bs, _, _ => by unfold dot; simp
  | a :: as, [], h, _ => by
    rw [dot_nil]
    refine Int.mul_nonneg ?_ hB
    have : ∀ l : List Int, (∀ x ∈ l, 0 ≤ x) → 0 ≤ l.sum := fun l => by
      induction l with
      | nil => intro _; simp
      | cons x l ih => intro h; rw [List.sum_cons]; have := ih fun y hy => h y (List.mem_cons_of_mem _ hy); have := h x (List.mem_cons_self ..); omega
    exact this _ h
  | a :: as, b :: bs, h, q => by
    rw [dot_cons, List.sum_cons, Int.add_mul]
    have h1 := dot_le hB (as := as) (bs := bs) (fun x hx => h x (List.mem_cons_of_mem _ hx)) (fun x hx => q x (List.mem_cons_of_mem _ hx))
    have h2 := Int.mul_le_mul_of_nonneg_left (q b (List.mem_cons_self ..)) (h a (List.mem_cons_self ..))
    omega
theorem pl_bd {oss : List (List (List Int))} (G : OptsOk oss) : ∀ i, i ≤ oss.length → ∀ x ∈ plN oss i, 0 ≤ x ∧ x ≤ 5 ^ i
  | 0, _, x, hx => by cases hx
  | i + 1, hi, x, hx => by
    have ih := pl_bd G i (by omega)
    have hp5 : (0 : Int) < 5 ^ i := Int.pow_pos (by decide)
    have e5 : (5 : Int) ^ (i + 1) = 5 * 5 ^ i := by rw [Int.pow_succ, Int.mul_comm]
    have hx : x ∈ plN oss i ++ [maxI 0 ((oss.getD i []).map fun o => 1 + dot o (plN oss i))] := hx
    rcases List.mem_append.mp hx with q | q
    · have := ih x q
      omega
    · have e : x = maxI 0 ((oss.getD i []).map fun o => 1 + dot o (plN oss i)) := by simpa using q
      have ho := (G.opts i (by omega)).2
      subst e
      constructor
      · refine maxI_pos fun y hy => ?_
        obtain ⟨o, ho1, rfl⟩ := List.mem_map.mp hy
        have := dot_pos (ho o ho1).1 fun z hz => (ih z hz).1
        omega
      · refine maxI_le (by omega) fun y hy => ?_
        obtain ⟨o, ho1, rfl⟩ := List.mem_map.mp hy
        have h1 := dot_le (B := 5 ^ i) (by omega) (ho o ho1).1 fun z hz => (ih z hz).2
        have h2 := (ho o ho1).2.1
        have h3 : o.sum * 5 ^ i ≤ 4 * 5 ^ i := Int.mul_le_mul_of_nonneg_right h2 (by omega)
        omega
theorem pow5 {i : Nat} (h : i ≤ 12) : (5 : Int) ^ i ≤ 1000000000 := by
  have : ∀ j : Fin 13, (5 : Int) ^ (j : Nat) ≤ 1000000000 := by decide
  exact this ⟨i, by omega⟩
theorem pl_small {oss : List (List (List Int))} (G : OptsOk oss) {i : Nat} (hi : i ≤ oss.length) : ∀ x ∈ plN oss i, 0 ≤ x ∧ x ≤ 1000000000 := fun x hx => by
  have h := pl_bd G i hi x hx
  have := pow5 (i := i) (by have := G.few; omega)
  omega
theorem plays_small {n : Nat} {g : List HeapS} (G : Game n g) {i : Nat} (hi : i ≤ n) : ∀ x ∈ playsN g i, 0 ≤ x ∧ x ≤ 1000000000 := pl_small G.optsOk (by unfold optsOf; rw [List.length_map, G.len]; exact hi)
def lng (g : List HeapS) (n : Nat) (as : List Int) : Int := dot as (playsN g n)
def spBy : Sp2 := fun ds M Q => ∃ (p : Addr) (ps as : List Int), ds = [.ref p, row as] ∧ M p = some (.lst (ps.map D.int)) ∧ (∀ x ∈ ps, 0 ≤ x ∧ x ≤ 1000000000) ∧ as.length ≤ 1000 ∧ Q (.int (dot as ps)) M
def spPlays : Sp2 := fun ds M Q => ∃ (n : Nat) (g : List HeapS), ds = [gameD g] ∧ Game n g ∧ ∀ (p : Addr) (M' : Mem), M p = none → M' p = some (.lst ((playsN g n).map D.int)) → Ext M M' → Q (.ref p) M'
def spLong : Sp2 := fun ds M Q => ∃ (n : Nat) (g : List HeapS) (as : List Int), ds = [gameD g, row as] ∧ Game n g ∧ as.length ≤ 1000 ∧ Q (.int (lng g n as)) M
theorem dot_zip (as ps : List Int) : (as.zip ps).map (fun p => D.int (p.1 * p.2)) = (List.zipWith (· * ·) as ps).map D.int := by
  rw [List.zip, List.map_zipWith, List.map_zipWith]
theorem zipF_row {p : Addr} {ps as : List Int} {M : Mem} (h : M p = some (.lst (ps.map D.int))) : zipF (row as) (.ref p) M = some ((as.zip ps).map pr2) := by
  unfold zipF
  rw [seqD_ref h]
  show some (zipD (as.map D.int) (ps.map D.int)) = _
  rw [zip_map]
theorem zip_mem {as bs : List Int} {i : Nat} {x : Int × Int} (h : (as.zip bs)[i]? = some x) : x.1 ∈ as ∧ x.2 ∈ bs := by
  have := List.mem_of_getElem? h
  exact ⟨(List.of_mem_zip (a := x.1) (b := x.2) this).1, (List.of_mem_zip (a := x.1) (b := x.2) this).2⟩
section
variable {P : Program} {w : World} {K : PySem.W.Frag} {mg : Str → Option Value} {base : Heap}
theorem sc_longest_by : FnScope ["plays", "counts"] ["plays", "counts"] (defScope (top 5)) := ⟨rfl, rfl, rfl, by decide +kernel, rfl, by decide +kernel, by decide +kernel⟩
theorem ok_by {f : Addr} {fd : FuncData} (F : Fun K "longest_by" "longest_by" (top 5) f fd) (T : Blt K mg) : FnOk P w K mg base CX0 1 f fd ["plays", "counts"] (upSp K spBy) := by
  refine ok3 F sc_longest_by (fun ds M Q h => ?_) (fun cdv A outer s H E ds M Q hr h => ?_)
  · obtain ⟨a, b, c, rfl, _⟩ := h
    rfl
  · obtain ⟨p, ps, as, rfl, hM, hb, hz, k⟩ := h
    refine ⟨_, (wss_one (ws_ret (w_tmpB (c_sum rfl) tmp_sum (by rfl) T.sum (by decide +kernel) (tgs := ["many", "play"]) (fr := []) ⟨blk_of (by kernel_rfl), rfl, (fun _ _ h => h), (wi_zipA rfl T.zip (wa_cons (w_v 1) (wa_cons (w_v 0) wa_nil))), (wtc_tup2 (fun _ _ _ _ _ => (pg_tup rfl (pgs_cons (pg_name (i := 0) (show (["many", "play"] : List Str).Nodup by decide +kernel) rfl (Or.inl rfl)) (pgs_cons (pg_name (i := 1) (show (["many", "play"] : List Str).Nodup by decide +kernel) rfl (Or.inl rfl)) pgs_nil)))) (by decide) (by decide)), (fun _ _ _ _ _ => wif_nil), (fun _ _ _ _ _ => (w_op o_mulB (w_v 0) (w_v 1)))⟩))), ?_⟩
    walk_at "rd"
    refine cl_pureS pr2 (fun p => D.int (p.1 * p.2)) (by rw [List.length_zip]; omega) (zipF_row hM) (fun i x N hx hN => ?_) ?_
    · walk_at "rd"
      have := hb _ (zip_mem hx).2
      refine rd_mulbI (cmul_r (by omega) (by omega)) hN
    · rw [dot_zip]
      exact rd_sum3 (fin2_same k)
theorem sc_heap_plays : FnScope ["game", "plays", "heap"] ["game"] (defScope (top 4)) := ⟨rfl, rfl, rfl, by decide +kernel, rfl, by decide +kernel, by decide +kernel⟩
theorem ok_plays {f : Addr} {fd : FuncData} (F : Fun K "heap_plays" "heap_plays" (top 4) f fd) (T : Blt K mg) (d_longest_by : Def2 P w K mg base 1 "longest_by" ["plays", "counts"] spBy) : FnOk P w K mg base CX0 2 f fd ["game"] (upSp K spPlays) := by
  refine ok3 F sc_heap_plays (fun ds M Q h => ?_) (fun cdv A outer s H E ds M Q hr h => ?_)
  · obtain ⟨n, g, rfl, _⟩ := h
    rfl
  · obtain ⟨n, g, rfl, G, k⟩ := h
    have hfew := G.few
    refine ⟨_, (wss_cons (ws_set (i := 1) sc_heap_plays.nd rfl (Or.inr rfl) (w_lst wa_nil))
  (wss_cons (ws_for PassesOwn.never rfl (wi_any (w_v 0)) (wg_name (i := 2) sc_heap_plays.nd rfl (Or.inl rfl))
  (wss_one (ws_expr (w_bm PySem.F.plainAttrs_list PySem.F.slot_list_append PySem.F.type_list_append m_append (w_v 1) (wa_cons (w_maxC rfl (by rfl) T.max (tgs := ["option"]) (fr := [1]) ⟨blk_of (by kernel_rfl), rfl, (fun _ _ h => h), (wi_any (w_ix x_ix (w_v 2) w_int (fun _ _ => rfl))), (wtc_name (fun _ _ _ _ _ => (pg_name (i := 0) (show (["option", "plays"] : List Str).Nodup by decide +kernel) rfl (Or.inl rfl))) (by decide)), (fun _ _ _ _ _ => wif_nil), (fun _ _ _ _ _ => (w_op o_addA w_int (w_def d_longest_by (hr.mono (by decide)) (by rfl) (wa_cons (w_v 1) (wa_cons (w_v 0) wa_nil)))))⟩) wa_nil)))))
  (wss_one (ws_ret (w_v 1))))), ?_⟩
    walk_at "rd"
    refine ⟨by decide, fun p hp => ?_⟩
    unfold gameD
    walk_at "rd"
    refine fl_fix (fun i δ M' => ∃ (v1 : Option D), δ = [some (gameD g), some (.ref p), v1] ∧ M' p = some (.lst ((playsN g i).map D.int)) ∧ Ext M M') ⟨none, rfl, updM_same, mext (fun b o e => e) hp _⟩ (fun i d δ M' hd h => ?_) (fun δ M' h => ?_)
    · obtain ⟨v1, rfl, h3, hM⟩ := h
      rw [List.getElem?_map] at hd
      have hi : i < g.length := by
        refine Nat.lt_of_not_le fun z => ?_
        rw [List.getElem?_eq_none z] at hd
        cases hd
      have hd' : d = heapD (g.getD i hp0) := by
        rw [List.getElem?_eq_getElem hi] at hd
        rw [List.getD_eq_getElem?_getD, List.getElem?_eq_getElem hi]
        exact (Option.some.inj hd).symm
      subst hd'
      have hin : i < n := by rw [← G.len]; exact hi
      obtain ⟨ho, hr1⟩ := G.at hin
      have hps := plays_small G (i := i) (by omega)
      have step := playsN_succ g i
      generalize g.getD i hp0 = hp at *
      obtain ⟨nm, os⟩ := hp
      have ho : os.length ≤ 63 := ho
      have hr1 : ∀ r ∈ os, r.length = n := hr1
      walk_at "rd"
      refine ⟨⟨rfl, _, h3⟩, ?_⟩
      walk_at "rd"
      refine cl_pure (xs := os) (enc := row) (fun o => D.int (1 + dot o (playsN g i))) (by omega) (fun j o N ho hN => ?_) ?_
      · walk_at "rd"
        refine ⟨p, playsN g i, o, rfl, h3, hps, by rw [hr1 o (List.mem_of_getElem? ho)]; omega, ?_⟩
        walk_at "rd"
        exact hN
      · refine ⟨os.map fun o => 1 + dot o (playsN g i), by rw [List.map_map]; rfl, ?_⟩
        walk_at "rd"
        refine rd_app h3 (by rw [List.length_map, playsN_len]; exact Nat.lt_of_le_of_lt (show i ≤ 1000 by omega) (by decide)) ?_
        walk_at "rd"
        refine ⟨_, rfl, ?_, Ext.own hM hp⟩
        rw [updM_same, step, List.map_append]
        rfl
    · obtain ⟨v1, rfl, h3, hM⟩ := h
      rw [List.length_map, G.len] at h3
      walk_at "rd"
      exact fin2_same (k p M' hp h3 hM)
theorem sc_longest : FnScope ["game", "counts"] ["game", "counts"] (defScope (top 6)) := ⟨rfl, rfl, rfl, by decide +kernel, rfl, by decide +kernel, by decide +kernel⟩
theorem ok_long {f : Addr} {fd : FuncData} (F : Fun K "longest" "longest" (top 6) f fd) (T : Blt K mg) (d_longest_by : Def2 P w K mg base 1 "longest_by" ["plays", "counts"] spBy) (d_heap_plays : Def2 P w K mg base 2 "heap_plays" ["game"] spPlays) : FnOk P w K mg base CX0 3 f fd ["game", "counts"] (upSp K spLong) := by
  refine ok3 F sc_longest (fun ds M Q h => ?_) (fun cdv A outer s H E ds M Q hr h => ?_)
  · obtain ⟨n, g, as, rfl, _⟩ := h
    rfl
  · obtain ⟨n, g, as, rfl, G, ha, k⟩ := h
    refine ⟨_, (wss_one (ws_ret (w_def d_longest_by (hr.mono (by decide)) (by rfl) (wa_cons (w_def d_heap_plays (hr.mono (by decide)) (by rfl) (wa_cons (w_v 0) wa_nil)) (wa_cons (w_v 1) wa_nil))))), ?_⟩
    walk_at "rd"
    refine ⟨n, g, rfl, G, fun p M' hp h1 e1 => ?_⟩
    walk_at "rd"
    exact ⟨p, playsN g n, as, rfl, h1, plays_small G (Nat.le_refl _), ha, back e1 k⟩
end

def optsD (os : List (List Int)) : D := .tup (os.map row)
def spLens : Sp2 := fun ds M Q => ∃ (q : Addr) (oss : List (List (List Int))), ds = [.ref q] ∧ M q = some (.lst (oss.map optsD)) ∧ OptsOk oss ∧ ∀ (p : Addr) (M' : Mem), M p = none → M' p = some (.lst ((plN oss oss.length).map D.int)) → Ext M M' → Q (.ref p) M'
theorem dot_enum (o ps : List Int) : ((o.take ps.length).zipIdx).map (fun p => D.int (p.1 * ps.getD p.2 0)) = (List.zipWith (· * ·) o ps).map D.int := by
  refine List.ext_getElem? fun i => ?_
  rw [List.getElem?_map, List.getElem?_map, List.getElem?_zipIdx, List.getElem?_zipWith, List.getElem?_take]
  by_cases hi : i < ps.length
  · rw [if_pos hi, List.getElem?_eq_getElem hi]
    cases o[i]? with
    | none => rfl
    | some x => simp [List.getD_eq_getElem?_getD, hi]
  · rw [if_neg hi, List.getElem?_eq_none (show ps.length ≤ i by omega)]
    cases o[i]? <;> rfl
section
variable {P : Program} {w : World} {K : PySem.W.Frag} {mg : Str → Option Value} {base : Heap}
theorem sc_law_lengths : FnScope ["_law_options", "_law_found", "_law_sums", "_law_lasting"] ["_law_options"] (defScope (top 16)) := ⟨rfl, rfl, rfl, by decide +kernel, rfl, by decide +kernel, by decide +kernel⟩
theorem ok_lens {f : Addr} {fd : FuncData} (F : Fun K "_law_lengths" "_law_lengths" (top 16) f fd) (T : Blt K mg) : FnOk P w K mg base CX0 1 f fd ["_law_options"] (upSp K spLens) := by
  refine ok3 F sc_law_lengths (fun ds M Q h => ?_) (fun cdv A outer s H E ds M Q hr h => ?_)
  · obtain ⟨q, oss, rfl, _⟩ := h
    rfl
  · obtain ⟨q, oss, rfl, hq, G, k⟩ := h
    have hfew := G.few
    refine ⟨_, (wss_cons (ws_set (i := 1) sc_law_lengths.nd rfl (Or.inr rfl) (w_lst wa_nil))
  (wss_cons (ws_for PassesOwn.never rfl (wi_any (w_v 0)) (wg_name (i := 2) sc_law_lengths.nd rfl (Or.inl rfl))
  (wss_cons (ws_setComp (i := 3) sc_law_lengths.nd rfl (Or.inl rfl) (tgs := ["_law_counts_here"]) (fr := [1]) ⟨blk_of (by kernel_rfl), rfl, (fun _ _ h => h), (wi_any (w_v 2)), (wtc_name (fun _ _ _ _ _ => (pg_name (i := 0) (show (["_law_counts_here", "_law_found"] : List Str).Nodup by decide +kernel) rfl (Or.inl rfl))) (by decide)), (fun _ _ _ _ _ => wif_nil), (fun _ _ _ _ _ => (w_tmpB (c_sum rfl) tmp_sum (by rfl) T.sum (by decide +kernel) (tgs := ["_law_h", "_law_n"]) (fr := [1]) ⟨blk_of (by kernel_rfl), rfl, (fun _ _ h => h), (wi_enum rfl T.enumerate (wa_cons (w_slice s_slA (w_v 0) wo_none (wo_some (w_callB c_len (by rfl) T.len (by decide +kernel) (wa_cons (w_v 1) wa_nil)))) wa_nil)), (wtc_tup2 (fun _ _ _ _ _ => (pg_tup rfl (pgs_cons (pg_name (i := 0) (show (["_law_h", "_law_n", "_law_found"] : List Str).Nodup by decide +kernel) rfl (Or.inl rfl)) (pgs_cons (pg_name (i := 1) (show (["_law_h", "_law_n", "_law_found"] : List Str).Nodup by decide +kernel) rfl (Or.inl rfl)) pgs_nil)))) (by decide) (by decide)), (fun _ _ _ _ _ => wif_nil), (fun _ _ _ _ _ => (w_op o_mulB (w_v 1) (w_ix x_ix (w_v 2) (w_v 0) (fun _ _ => rfl))))⟩))⟩)
  (wss_one (ws_expr (w_bm PySem.F.plainAttrs_list PySem.F.slot_list_append PySem.F.type_list_append m_append (w_v 1) (wa_cons (w_maxC rfl (by rfl) T.max (tgs := ["_law_play"]) (fr := []) ⟨blk_of (by kernel_rfl), rfl, (fun _ _ h => h), (wi_any (w_v 3)), (wtc_name (fun _ _ _ _ _ => (pg_name (i := 0) (show (["_law_play"] : List Str).Nodup by decide +kernel) rfl (Or.inl rfl))) (by decide)), (fun _ _ _ _ _ => wif_nil), (fun _ _ _ _ _ => (w_op o_addA (w_v 0) w_int))⟩) wa_nil))))))
  (wss_one (ws_ret (w_v 1))))), ?_⟩
    walk_at "rd"
    refine ⟨by decide, fun p hp => ?_⟩
    have hpq : q ≠ p := fun z => by subst z; rw [hq] at hp; cases hp
    have e0 : Ext M (updM M p (.lst [])) := mext (fun b o e => e) hp _
    have hq1 := e0 _ _ hq
    walk_at "rd"
    refine fl_at (ds := oss.map optsD) (fun i δ M' => ∃ (v1 v2 : Option D), δ = [some (.ref q), some (.ref p), v1, v2] ∧ M' p = some (.lst ((plN oss i).map D.int)) ∧ Ext M M') ⟨none, none, rfl, updM_same, e0⟩ (fun i δ M' hi h => ?_) (fun i d δ M' hd h => ?_) (fun δ M' h => ?_)
    · obtain ⟨v1, v2, rfl, h3, hM⟩ := h
      exact hM _ _ hq
    · obtain ⟨v1, v2, rfl, h3, hM⟩ := h
      rw [List.getElem?_map] at hd
      have hi : i < oss.length := by
        refine Nat.lt_of_not_le fun z => ?_
        rw [List.getElem?_eq_none z] at hd
        cases hd
      have hd' : d = optsD (oss.getD i []) := by
        rw [List.getElem?_eq_getElem hi] at hd
        rw [List.getD_eq_getElem?_getD, List.getElem?_eq_getElem hi]
        exact (Option.some.inj hd).symm
      subst hd'
      obtain ⟨ho, hr1⟩ := G.opts i hi
      have hps := pl_small G (i := i) (by omega)
      have hpl := plN_len oss i
      have step : plN oss (i + 1) = plN oss i ++ [maxI 0 ((oss.getD i []).map fun o => 1 + dot o (plN oss i))] := rfl
      generalize oss.getD i [] = os at *
      generalize plN oss i = ps at *
      unfold optsD
      walk_at "rd"
      refine cl_pure (xs := os) (enc := row) (fun o => D.int (dot o ps)) (by omega) (fun j o N ho hN => ?_) ?_
      · have hol := (hr1 o (List.mem_of_getElem? ho)).2.2
        walk_at "rd"
        refine rd_slATo (by omega) ?_
        rw [Int.toNat_natCast, List.length_map, ← List.map_take]
        walk_at "rd"
        refine cl_enum (xs := o.take ps.length) (enc := D.int) (fun p => D.int (p.1 * ps.getD p.2 0)) (by rw [List.length_take]; omega) (fun l x N2 hx hN2 => ?_) ?_
        · have hl := (List.getElem?_eq_some_iff.mp hx).1
          rw [List.length_take] at hl
          walk_at "rd"
          refine rd_ixL h3 (atI_intN (i := l) (by omega)) ?_
          have hb := hps (ps.getD l 0) (by rw [List.getD_eq_getElem?_getD, List.getElem?_eq_getElem (by omega)]; exact List.getElem_mem _)
          exact rd_mulbI (cmul_r (by omega) (by omega)) hN2
        · rw [dot_enum]
          exact rd_sum3 hN
      · intro r hr
        have hM2 := mext hM hr (.lst (os.map fun o => D.int (dot o ps)))
        have hpr : p ≠ r := fun z => by subst z; rw [h3] at hr; cases hr
        have h3' : updM M' r (.lst (os.map fun o => D.int (dot o ps))) p = some (.lst (ps.map D.int)) := by rw [updM_ne hpr]; exact h3
        walk_at "rd"
        refine ⟨⟨rfl, _, h3'⟩, ?_⟩
        walk_at "rd"
        refine cl_pureAt (xs := os) (fun o => D.int (dot o ps)) (fun o => D.int (1 + dot o ps)) (by omega) updM_same (fun j o N _ hN => ?_) ?_
        · walk_at "rd"
          rw [Int.add_comm]
          exact hN
        · refine ⟨os.map fun o => 1 + dot o ps, by rw [List.map_map]; rfl, ?_⟩
          walk_at "rd"
          refine rd_app h3' (by rw [List.length_map, hpl]; exact Nat.lt_of_le_of_lt (show i ≤ 1000 by omega) (by decide)) ?_
          walk_at "rd"
          refine ⟨_, _, rfl, ?_, Ext.own hM2 hp⟩
          rw [updM_same, step, List.map_append]
          rfl
    · obtain ⟨v1, v2, rfl, h3, hM⟩ := h
      rw [List.length_map] at h3
      walk_at "rd"
      exact fin2_same (k p M' hp h3 hM)
end

def unit (n h : Nat) : List Int := List.replicate h 0 ++ [1] ++ List.replicate (n - h - 1) 0
theorem unit_len {n h : Nat} (hh : h < n) : (unit n h).length = n := by
  unfold unit
  simp
  omega
def spOne : Sp2 := fun ds M Q => ∃ (n h : Nat), ds = [.int n, .int h] ∧ h < n ∧ n ≤ 1000 ∧ Q (row (unit n h)) M
def spWhole : Sp2 := fun ds M Q => ∃ i : Int, ds = [.int i] ∧ Q (.bl true) M
section
variable {P : Program} {w : World} {K : PySem.W.Frag} {mg : Str → Option Value} {base : Heap}
theorem sc_law_one : FnScope ["_law_many", "_law_h"] ["_law_many", "_law_h"] (defScope (top 22)) := ⟨rfl, rfl, rfl, by decide +kernel, rfl, by decide +kernel, by decide +kernel⟩
theorem ok_law_one {f : Addr} {fd : FuncData} (F : Fun K "_law_one" "_law_one" (top 22) f fd) (T : Blt K mg) : FnOk P w K mg base CX0 1 f fd ["_law_many", "_law_h"] (upSp K spOne) := by
  refine ok3 F sc_law_one (fun ds M Q h => ?_) (fun cdv A outer s H E ds M Q hr h => ?_)
  · obtain ⟨n, h, rfl, _⟩ := h
    rfl
  · obtain ⟨n, h, rfl, hh, hn, k⟩ := h
    refine ⟨_, (wss_one (ws_ret (w_op o_addA (w_op o_addA (w_op o_mulB (w_tup (wa_cons w_int wa_nil)) (w_v 1)) (w_tup (wa_cons w_int wa_nil))) (w_op o_mulB (w_tup (wa_cons w_int wa_nil)) (w_op o_sub (w_op o_sub (w_v 0) (w_v 1)) w_int))))), ?_⟩
    walk_at "rd"
    refine ⟨by show 1 ≤ sizeLine; decide, ?_⟩
    walk_at "rd"
    refine rd_mulbT (by omega) (by omega) ?_
    walk_at "rd"
    refine ⟨by show 1 ≤ sizeLine; decide, ?_⟩
    walk_at "rd"
    refine rd_addaT (small (by simp; omega)) ?_
    walk_at "rd"
    refine ⟨by show 1 ≤ sizeLine; decide, ?_⟩
    walk_at "rd"
    refine rd_mulbT (by omega) (by omega) ?_
    walk_at "rd"
    refine rd_addaT (small (by simp; omega)) ?_
    refine fin2_same ?_
    unfold row unit at k
    rw [List.map_append, List.map_append, List.map_replicate, List.map_replicate] at k
    have e : ((n : Int) - (h : Int) - 1).toNat = n - h - 1 := by omega
    rw [Int.toNat_natCast, e]
    exact k
theorem sc_law_whole : FnScope ["_law_thing"] ["_law_thing"] (defScope (top 23)) := ⟨rfl, rfl, rfl, by decide +kernel, rfl, by decide +kernel, by decide +kernel⟩
theorem ok_law_whole {f : Addr} {fd : FuncData} (F : Fun K "_law_whole" "_law_whole" (top 23) f fd) (T : Blt K mg) : FnOk P w K mg base CX0 1 f fd ["_law_thing"] (upSp K spWhole) := by
  refine ok3 F sc_law_whole (fun ds M Q h => ?_) (fun cdv A outer s H E ds M Q hr h => ?_)
  · obtain ⟨i, rfl, _⟩ := h
    rfl
  · obtain ⟨i, rfl, k⟩ := h
    refine ⟨_, (wss_one (ws_ret (w_and (w_callB (c_isi T.i_int) (by rfl) T.isinstance (by decide +kernel) (wa_cons (w_v 0) (wa_cons (w_ty (n := "int") (by rfl) T.int (by decide +kernel)) wa_nil))) (w_one (w_not (w_callB (c_isi T.i_bool) (by rfl) T.isinstance (by decide +kernel) (wa_cons (w_v 0) (wa_cons (w_ty (n := "bool") (by rfl) T.bool (by decide +kernel)) wa_nil)))))))), ?_⟩
    walk_at "rd"
    refine rd_isi (n := "int") rfl (b := true) (by decide) ?_
    walk_at "rd"
    refine rd_isi (n := "int") rfl (b := false) (by decide) ?_
    walk_at "rd"
    exact fin2_same k
theorem sc_law_added : FnScope ["_law_one_here", "_law_other"] ["_law_one_here", "_law_other"] (defScope (top 19)) := ⟨rfl, rfl, rfl, by decide +kernel, rfl, by decide +kernel, by decide +kernel⟩
theorem ok_law_added {f : Addr} {fd : FuncData} (F : Fun K "_law_added" "_law_added" (top 19) f fd) (T : Blt K mg) : FnOk P w K mg base CX0 1 f fd ["_law_one_here", "_law_other"] (upSp K spAdd) := by
  refine ok3 F sc_law_added (fun ds M Q h => ?_) (fun cdv A outer s H E ds M Q hr h => ?_)
  · obtain ⟨a, b, rfl, _⟩ := h
    rfl
  · obtain ⟨as, bs, rfl, hl, hz, k⟩ := h
    refine ⟨_, (wss_one (ws_ret (w_tmpT c_tuple tmp_tuple (by rfl) T.tuple (by decide +kernel) (tgs := ["_law_a", "_law_b"]) (fr := []) ⟨blk_of (by kernel_rfl), rfl, (fun _ _ h => h), (wi_zipA rfl T.zip (wa_cons (w_v 0) (wa_cons (w_v 1) wa_nil))), (wtc_tup2 (fun _ _ _ _ _ => (pg_tup rfl (pgs_cons (pg_name (i := 0) (show (["_law_a", "_law_b"] : List Str).Nodup by decide +kernel) rfl (Or.inl rfl)) (pgs_cons (pg_name (i := 1) (show (["_law_a", "_law_b"] : List Str).Nodup by decide +kernel) rfl (Or.inl rfl)) pgs_nil)))) (by decide) (by decide)), (fun _ _ _ _ _ => wif_nil), (fun _ _ _ _ _ => (w_op o_addA (w_v 0) (w_v 1)))⟩))), ?_⟩
    walk_at "rd"
    refine cl_zip (as := as) (bs := bs) (fun p => D.int (p.1 + p.2)) (by omega) (fun _ x N hx hN => ?_) ?_
    · walk_at "rd"
      exact hN
    · rw [plus_zip]
      exact fin2_same k
end

theorem dot_append_zero : ∀ {as bs : List Int} (i : Nat), bs.length = i → (∀ j, i ≤ j → as.getD j 0 = 0) → ∀ cs : List Int, dot as (bs ++ cs) = dot as bs
  | [], bs, i, _, _, cs => by unfold dot; simp
  | a :: as, [], i, hl, hz, cs => by
    rw [dot_nil, List.nil_append]
    have hi : i = 0 := by simpa using hl.symm
    subst hi
    have all : ∀ (l m : List Int), (∀ j, l.getD j 0 = 0) → dot l m = 0 := fun l => by
      induction l with
      | nil => intro m _; unfold dot; simp
      | cons x l ih =>
        intro m h
        cases m with
        | nil => exact dot_nil _
        | cons y m =>
          rw [dot_cons, ih m fun j => by simpa using h (j + 1)]
          have : x = 0 := by simpa using h 0
          rw [this]; simp
    exact all _ _ fun j => hz j (Nat.zero_le _)
  | a :: as, b :: bs, i, hl, hz, cs => by
    rw [List.cons_append, dot_cons, dot_cons]
    have hl : bs.length + 1 = i := by simpa using hl
    rw [dot_append_zero (bs.length) rfl (fun j hj => by simpa using hz (j + 1) (by omega)) cs]
theorem plN_prefix (oss : List (List (List Int))) (i : Nat) : ∀ k, ∃ cs, plN oss (i + k) = plN oss i ++ cs
  | 0 => ⟨[], by simp⟩
  | k + 1 => by
    obtain ⟨cs, e⟩ := plN_prefix oss i k
    refine ⟨cs ++ [maxI 0 ((oss.getD (i + k) []).map fun o => 1 + dot o (plN oss (i + k)))], ?_⟩
    show plN oss (i + k) ++ [_] = _
    rw [← List.append_assoc, ← e]
    rfl
theorem plays_at {g : List HeapS} {n i : Nat} (h : i < n) : (playsN g n).getD i 0 = maxI 0 ((g.getD i hp0).2.map fun o => 1 + dot o (playsN g i)) := by
  obtain ⟨cs, e⟩ := plN_prefix (optsOf g) (i + 1) (n - (i + 1))
  have e : playsN g n = playsN g (i + 1) ++ cs := by
    unfold playsN
    rw [← e]
    congr 1
    omega
  rw [e, playsN_succ, List.append_assoc, List.getD_eq_getElem?_getD, List.getElem?_append_right (by rw [playsN_len]; exact Nat.le_refl _), playsN_len]
  simp
theorem dot_low {g : List HeapS} {n i : Nat} {o : List Int} (h : i ≤ n) (ho : OptR n i o) : dot o (playsN g n) = dot o (playsN g i) := by
  obtain ⟨cs, e⟩ := plN_prefix (optsOf g) i (n - i)
  have e : playsN g n = playsN g i ++ cs := by
    unfold playsN
    rw [← e]
    congr 1
    omega
  rw [e]
  exact dot_append_zero i (playsN_len g i) ho.low cs
theorem dot_plus : ∀ {as bs ps : List Int}, as.length = bs.length → dot (plus as bs) ps = dot as ps + dot bs ps
  | [], [], ps, _ => by unfold dot plus; simp
  | a :: as, b :: bs, [], _ => by rw [dot_nil, dot_nil, dot_nil]; rfl
  | a :: as, b :: bs, p :: ps, h => by
    have := dot_plus (as := as) (bs := bs) (ps := ps) (by simpa using h)
    unfold plus at this ⊢
    rw [List.zipWith_cons_cons, dot_cons, dot_cons, dot_cons, this, Int.add_mul]
    omega
  | a :: as, [], ps, h => by simp at h
  | [], b :: bs, ps, h => by simp at h
theorem dot_set : ∀ {as ps : List Int} {h : Nat}, h < as.length → h < ps.length → dot (as.set h (as.getD h 0 - 1)) ps = dot as ps - ps.getD h 0
  | a :: as, p :: ps, 0, _, _ => by
    rw [List.set_cons_zero, dot_cons, dot_cons]
    simp only [List.getD_cons_zero]
    rw [Int.sub_mul, Int.one_mul]
    omega
  | a :: as, p :: ps, h + 1, h1, h2 => by
    rw [List.set_cons_succ, dot_cons, dot_cons]
    have := dot_set (as := as) (ps := ps) (h := h) (by simpa using h1) (by simpa using h2)
    simp only [List.getD_cons_succ]
    rw [this]
    omega
  | [], ps, h, h1, _ => by simp at h1
  | a :: as, [], h, _, h2 => by simp at h2
def laterOf (as : List Int) (h : Nat) (o : List Int) : List Int := plus (less as h) o
def mvL (as : List Int) (h : Nat) (os : List (List Int)) : List (List Int) := if 0 < as.getD h 0 then os.map (laterOf as h) else []
def mvsL (g : List HeapS) (as : List Int) : Nat → List (List Int)
  | 0 => []
  | i + 1 => mvsL g as i ++ mvL as i (g.getD i hp0).2
theorem lng_later {n : Nat} {g : List HeapS} (G : Game n g) {as : List Int} (ha : as.length = n) {h : Nat} (hh : h < n) {o : List Int} (ho : o ∈ (g.getD h hp0).2) :
    lng g n (laterOf as h o) + 1 = lng g n as - (playsN g n).getD h 0 + (1 + dot o (playsN g h)) := by
  have hr := (G.opts h hh).2 o ho
  unfold lng laterOf
  rw [dot_plus (by rw [less_len (by omega), hr.len, ha]), less_set (by omega), dot_set (by omega) (by rw [playsN_len]; exact hh), dot_low (by omega) hr]
  omega
theorem mem_mvsL {g : List HeapS} {as : List Int} {l : List Int} : ∀ {i : Nat}, l ∈ mvsL g as i ↔ ∃ h o, h < i ∧ 0 < as.getD h 0 ∧ o ∈ (g.getD h hp0).2 ∧ l = laterOf as h o
  | 0 => by simp [mvsL]
  | i + 1 => by
    show l ∈ mvsL g as i ++ mvL as i (g.getD i hp0).2 ↔ _
    rw [List.mem_append, mem_mvsL]
    constructor
    · rintro (⟨h, o, h1, h2, h3, h4⟩ | q)
      · exact ⟨h, o, by omega, h2, h3, h4⟩
      · unfold mvL at q
        split at q
        · rename_i hp
          obtain ⟨o, ho, rfl⟩ := List.mem_map.mp q
          exact ⟨i, o, by omega, hp, ho, rfl⟩
        · cases q
    · rintro ⟨h, o, h1, h2, h3, h4⟩
      by_cases e : h < i
      · exact .inl ⟨h, o, e, h2, h3, h4⟩
      · have : h = i := by omega
        subst this
        refine .inr ?_
        unfold mvL
        rw [if_pos h2]
        exact List.mem_map.mpr ⟨o, h3, h4.symm⟩
theorem dot_zero_of : ∀ {as ps : List Int}, (∀ j, j < as.length → j < ps.length → as.getD j 0 = 0 ∨ ps.getD j 0 = 0) → dot as ps = 0
  | [], ps, _ => by unfold dot; simp
  | a :: as, [], _ => dot_nil _
  | a :: as, p :: ps, h => by
    rw [dot_cons, dot_zero_of fun j h1 h2 => by simpa using h (j + 1) (by simpa using h1) (by simpa using h2)]
    have : a = 0 ∨ p = 0 := by simpa using h 0 (by simp) (by simp)
    rcases this with rfl | rfl <;> simp
theorem maxI_mem {ns : List Int} (h : ns ≠ []) : maxI 0 ns ∈ ns := by
  cases ns with
  | nil => exact absurd rfl h
  | cons n ns =>
    rcases (foldl_max ns n).2.2 with e | e
    · show ns.foldl max n ∈ n :: ns
      rw [e]; exact List.mem_cons_self ..
    · exact List.mem_cons_of_mem _ e
theorem getD_pos {as : List Int} (hp : ∀ x ∈ as, 0 ≤ x) (j : Nat) : 0 ≤ as.getD j 0 := by
  rw [List.getD_eq_getElem?_getD]
  cases e : as[j]? with
  | none => exact Int.le_refl _
  | some x => exact hp x (List.mem_of_getElem? e)
theorem lng_right {n : Nat} {g : List HeapS} (G : Game n g) {as : List Int} (ha : as.length = n) (hp : ∀ x ∈ as, 0 ≤ x) : maxI 0 ((mvsL g as n).map fun l => lng g n l + 1) = lng g n as := by
  by_cases hx : ∃ h, h < n ∧ 0 < as.getD h 0 ∧ (g.getD h hp0).2 ≠ []
  · obtain ⟨h, hh, h0, hne⟩ := hx
    refine maxI_of ?_ fun x hx => ?_
    · have hpl := plays_at (g := g) (n := n) hh
      have hm := maxI_mem (ns := (g.getD h hp0).2.map fun o => 1 + dot o (playsN g h)) (by simpa using hne)
      rw [← hpl] at hm
      obtain ⟨o, ho, e⟩ := List.mem_map.mp hm
      refine List.mem_map.mpr ⟨laterOf as h o, mem_mvsL.mpr ⟨h, o, hh, h0, ho, rfl⟩, ?_⟩
      have := lng_later G ha hh ho
      omega
    · obtain ⟨l, hl, rfl⟩ := List.mem_map.mp hx
      obtain ⟨h2, o, h3, h4, h5, rfl⟩ := mem_mvsL.mp hl
      have e := lng_later G ha h3 h5
      have hpl := plays_at (g := g) (n := n) h3
      have := maxI_ge (ns := (g.getD h2 hp0).2.map fun o => 1 + dot o (playsN g h2)) (List.mem_map.mpr ⟨o, h5, rfl⟩)
      omega
  · have e1 : mvsL g as n = [] := by
      refine List.eq_nil_iff_forall_not_mem.mpr fun l hl => ?_
      obtain ⟨h2, o, h3, h4, h5, rfl⟩ := mem_mvsL.mp hl
      exact hx ⟨h2, h3, h4, fun z => by rw [z] at h5; cases h5⟩
    rw [e1]
    refine (dot_zero_of fun j h1 h2 => ?_).symm
    by_cases h0 : 0 < as.getD j 0
    · refine .inr ?_
      have hj : j < n := by omega
      rw [plays_at hj]
      have : (g.getD j hp0).2 = [] := by
        refine Classical.byContradiction fun z => hx ⟨j, hj, h0, z⟩
      rw [this]
      rfl
    · refine .inl ?_
      have := getD_pos hp j
      omega
def moveD (m : Int × Int × List Int) : D := .tup [.int m.1, .int m.2.1, row m.2.2]
def mv1T (as : List Int) (h : Nat) (os : List (List Int)) : List (Int × Int × List Int) := os.zipIdx.map fun p => ((h : Int), (p.2 : Int), laterOf as h p.1)
def mvsT (g : List HeapS) (as : List Int) : Nat → List (Int × Int × List Int)
  | 0 => []
  | i + 1 => mvsT g as i ++ if 0 < as.getD i 0 then mv1T as i (g.getD i hp0).2 else []
theorem mv1_map (as : List Int) (h : Nat) (os : List (List Int)) : mv1 as h os os.length = (mv1T as h os).map moveD := by
  refine List.ext_getElem? fun i => ?_
  unfold mv1 mv1T
  rw [List.map_map, List.getElem?_map, List.getElem?_map, List.getElem?_zipIdx]
  by_cases hi : i < os.length
  · rw [List.getElem?_range hi, List.getElem?_eq_getElem hi]
    simp [mvD, moveD, laterOf, List.getD_eq_getElem?_getD, hi]
  · rw [List.getElem?_eq_none (by simpa using hi), List.getElem?_eq_none (by omega)]
    rfl
theorem mvs_map (g : List HeapS) (as : List Int) : ∀ i, mvs g as i = (mvsT g as i).map moveD
  | 0 => rfl
  | i + 1 => by
    show mvs g as i ++ opt as i _ = (mvsT g as i ++ _).map moveD
    rw [List.map_append, mvs_map g as i]
    congr 1
    unfold opt
    split
    · exact mv1_map _ _ _
    · rfl
theorem mvsT_L (g : List HeapS) (as : List Int) : ∀ i, (mvsT g as i).map (fun m => m.2.2) = mvsL g as i
  | 0 => rfl
  | i + 1 => by
    show (mvsT g as i ++ _).map _ = mvsL g as i ++ mvL as i (g.getD i hp0).2
    rw [List.map_append, mvsT_L g as i]
    congr 1
    unfold mvL
    split
    · unfold mv1T
      rw [List.map_map]
      refine List.ext_getElem? fun j => ?_
      rw [List.getElem?_map, List.getElem?_map, List.getElem?_zipIdx]
      cases (g.getD i hp0).2[j]? <;> rfl
    · rfl
def spRight : Sp2 := fun ds M Q => ∃ (n : Nat) (g : List HeapS) (as : List Int), ds = [gameD g, row as] ∧ Game n g ∧ as.length = n ∧ (∀ x ∈ as, 0 ≤ x) ∧ ∀ M', Ext M M' → Q (.bl true) M'
theorem later_len {n : Nat} {g : List HeapS} (G : Game n g) {as : List Int} (ha : as.length = n) {l : List Int} (h : l ∈ mvsL g as n) : l.length = n := by
  obtain ⟨h2, o, h3, h4, h5, rfl⟩ := mem_mvsL.mp h
  unfold laterOf plus
  rw [List.length_zipWith, less_len (by omega), ((G.opts h2 h3).2 o h5).len, ha, Nat.min_self]
section
variable {P : Program} {w : World} {K : PySem.W.Frag} {mg : Str → Option Value} {base : Heap}
theorem sc_law_right : FnScope ["_law_game", "_law_counts_here", "_law_found", "_law_later"] ["_law_game", "_law_counts_here"] (defScope (top 24)) := ⟨rfl, rfl, rfl, by decide +kernel, rfl, by decide +kernel, by decide +kernel⟩
theorem ok_law_right {f : Addr} {fd : FuncData} (F : Fun K "_law_right" "_law_right" (top 24) f fd) (T : Blt K mg) (d_longest : Def2 P w K mg base 3 "longest" ["game", "counts"] spLong) (d_moves : Def2 P w K mg base 2 "moves" ["game", "counts"] spMoves) (d_law_whole : Def2 P w K mg base 1 "_law_whole" ["_law_thing"] spWhole) : FnOk P w K mg base CX0 4 f fd ["_law_game", "_law_counts_here"] (upSp K spRight) := by
  refine ok3 F sc_law_right (fun ds M Q h => ?_) (fun cdv A outer s H E ds M Q hr h => ?_)
  · obtain ⟨n, g, as, rfl, _⟩ := h
    rfl
  · obtain ⟨n, g, as, rfl, G, ha, hpos, k⟩ := h
    have hfew := G.few
    have hz := mvs_len G as n (Nat.le_refl _)
    rw [mvs_map, List.length_map] at hz
    refine ⟨_, (wss_cons (ws_set (i := 2) sc_law_right.nd rfl (Or.inl rfl) (w_def d_longest (hr.mono (by decide)) (by rfl) (wa_cons (w_v 0) (wa_cons (w_v 1) wa_nil))))
  (wss_cons (ws_setComp (i := 3) sc_law_right.nd rfl (Or.inl rfl) (tgs := ["_law_move"]) (fr := [0]) ⟨blk_of (by kernel_rfl), rfl, (fun _ _ h => h), (wi_any (w_def d_moves (hr.mono (by decide)) (by rfl) (wa_cons (w_v 0) (wa_cons (w_v 1) wa_nil)))), (wtc_name (fun _ _ _ _ _ => (pg_name (i := 0) (show (["_law_move", "_law_game"] : List Str).Nodup by decide +kernel) rfl (Or.inl rfl))) (by decide)), (fun _ _ _ _ _ => wif_nil), (fun _ _ _ _ _ => (w_op o_addA (w_def d_longest (hr.mono (by decide)) (by rfl) (wa_cons (w_v 1) (wa_cons (w_ix x_ix (w_v 0) w_int (fun _ _ => rfl)) wa_nil))) w_int))⟩)
  (wss_one (ws_ret (w_and (w_def d_law_whole (hr.mono (by decide)) (by rfl) (wa_cons (w_v 2) wa_nil)) (w_one (w_cmp (o_eqA hr.units) (w_v 2) (w_maxL rfl (by rfl) T.max (w_v 3)) (nomark _)))))))), ?_⟩
    walk_at "rd"
    refine ⟨n, g, as, rfl, G, by omega, ?_⟩
    walk_at "rd"
    refine ⟨n, g, as, rfl, G, ha, fun p M1 hp h1 e1 => ?_⟩
    rw [mvs_map] at h1
    walk_at "rd"
    refine cl_pureAt (xs := mvsT g as n) moveD (fun m => D.int (lng g n m.2.2 + 1)) (by omega) h1 (fun i m N hm hN => ?_) ?_
    · have hl : m.2.2.length = n := later_len G ha (by rw [← mvsT_L]; exact List.mem_map.mpr ⟨m, List.mem_of_getElem? hm, rfl⟩)
      unfold moveD
      walk_at "rd"
      refine ⟨n, g, m.2.2, rfl, G, by omega, ?_⟩
      walk_at "rd"
      exact hN
    · intro q hq
      have e2 := mext e1 hq (.lst ((mvsT g as n).map fun m => D.int (lng g n m.2.2 + 1)))
      have e3 : (mvsT g as n).map (fun m => D.int (lng g n m.2.2 + 1)) = ((mvsL g as n).map fun l => lng g n l + 1).map D.int := by
        rw [← mvsT_L, List.map_map, List.map_map]
        rfl
      rw [e3] at e2 ⊢
      walk_at "rd"
      refine ⟨_, rfl, ?_⟩
      walk_at "rd"
      rw [lng_right G ha hpos, decide_eq_true (rfl : lng g n as = lng g n as)]
      exact fin2_same (k _ e2)
end

theorem dot_unit : ∀ {n h : Nat} {ps : List Int}, h < n → ps.length = n → dot (unit n h) ps = ps.getD h 0 := fun {n h ps} hh hl => by
  have z : ∀ (m : Nat) (qs : List Int), dot (List.replicate m 0) qs = 0 := fun m qs => dot_zero_of fun j h1 _ => .inl (by
    rw [List.length_replicate] at h1
    simp [List.getD_eq_getElem?_getD, List.getElem?_replicate, h1])
  have go : ∀ (h : Nat) (ps : List Int) (m : Nat), h < ps.length → dot (List.replicate h 0 ++ [1] ++ List.replicate m 0) ps = ps.getD h 0 := by
    intro h
    induction h with
    | zero =>
      intro ps m hp
      cases ps with
      | nil => simp at hp
      | cons p ps =>
        show dot (1 :: List.replicate m 0) (p :: ps) = _
        rw [dot_cons, z]
        simp
    | succ h ih =>
      intro ps m hp
      cases ps with
      | nil => simp at hp
      | cons p ps =>
        rw [List.replicate_succ, List.cons_append, List.cons_append, dot_cons, ih ps m (by simpa using hp)]
        simp
  exact go h ps (n - h - 1) (by omega)
theorem dot_zeros (m : Nat) (qs : List Int) : dot (List.replicate m 0) qs = 0 := dot_zero_of fun j h1 _ => .inl (by
    rw [List.length_replicate] at h1
    simp [List.getD_eq_getElem?_getD, List.getElem?_replicate, h1])
def spHolds6 : Sp2 := fun ds M Q => ∃ (n : Nat) (g : List HeapS) (as bs : List Int), ds = [gameD g, row as, row bs] ∧ Game n g ∧ as.length = n ∧ bs.length = n ∧ (∀ x ∈ as, 0 ≤ x) ∧ (∀ x ∈ bs, 0 ≤ x) ∧ ∀ M', Ext M M' → Q (.bl true) M'
section
variable {P : Program} {w : World} {K : PySem.W.Frag} {mg : Str → Option Value} {base : Heap}
theorem sc_law_holds : FnScope ["_law_game", "_law_one_here", "_law_other", "_law_due", "_law_h"] ["_law_game", "_law_one_here", "_law_other"] (defScope (top 25)) := ⟨rfl, rfl, rfl, by decide +kernel, rfl, by decide +kernel, by decide +kernel⟩
theorem ok_law_holds {f : Addr} {fd : FuncData} (F : Fun K "_law_holds" "_law_holds" (top 25) f fd) (T : Blt K mg) (d_law_right : Def2 P w K mg base 4 "_law_right" ["_law_game", "_law_counts_here"] spRight) (d_longest : Def2 P w K mg base 3 "longest" ["game", "counts"] spLong) (d_law_added : Def2 P w K mg base 1 "_law_added" ["_law_one_here", "_law_other"] spAdd) (d_law_lengths : Def2 P w K mg base 1 "_law_lengths" ["_law_options"] spLens) (d_law_one : Def2 P w K mg base 1 "_law_one" ["_law_many", "_law_h"] spOne) (d_law_alike : Def2 P w K mg base 1 "_law_alike" ["_law_found", "_law_due"] (spAlS 0)) : FnOk P w K mg base CX0 5 f fd ["_law_game", "_law_one_here", "_law_other"] (upSp K spHolds6) := by
  refine ok3 F sc_law_holds (fun ds M Q h => ?_) (fun cdv A outer s H E ds M Q hr h => ?_)
  · obtain ⟨n, g, as, bs, rfl, _⟩ := h
    rfl
  · obtain ⟨n, g, as, bs, rfl, G, ha, hb, hap, hbp, k⟩ := h
    have hfew := G.few
    have hgl := G.len
    refine ⟨_, (wss_cons (ws_if (ww_or (wt_not (wt_val (w_def d_law_right (hr.mono (by decide)) (by rfl) (wa_cons (w_v 0) (wa_cons (w_v 1) wa_nil))))) (ww_or1 (wt_not (wt_val (w_def d_law_right (hr.mono (by decide)) (by rfl) (wa_cons (w_v 0) (wa_cons (w_v 2) wa_nil))))))).pt
  (wss_one (ws_ret w_bl))
  wss_nil)
  (wss_cons (ws_if (wt_cmp (o_neA hr.units) (w_def d_longest (hr.mono (by decide)) (by rfl) (wa_cons (w_v 0) (wa_cons (w_def d_law_added (hr.mono (by decide)) (by rfl) (wa_cons (w_v 1) (wa_cons (w_v 2) wa_nil))) wa_nil))) (w_op o_addA (w_def d_longest (hr.mono (by decide)) (by rfl) (wa_cons (w_v 0) (wa_cons (w_v 1) wa_nil))) (w_def d_longest (hr.mono (by decide)) (by rfl) (wa_cons (w_v 0) (wa_cons (w_v 2) wa_nil)))) (nomark _))
  (wss_one (ws_ret w_bl))
  wss_nil)
  (wss_cons (ws_set (i := 3) sc_law_holds.nd rfl (Or.inl rfl) (w_def d_law_lengths (hr.mono (by decide)) (by rfl) (wa_cons (w_comp (tgs := ["_law_name_here", "_law_options"]) (fr := []) ⟨blk_of (by kernel_rfl), rfl, (fun _ _ h => h), (wi_any (w_v 0)), (wtc_tup2 (fun _ _ _ _ _ => (pg_tup rfl (pgs_cons (pg_name (i := 0) (show (["_law_name_here", "_law_options"] : List Str).Nodup by decide +kernel) rfl (Or.inl rfl)) (pgs_cons (pg_name (i := 1) (show (["_law_name_here", "_law_options"] : List Str).Nodup by decide +kernel) rfl (Or.inl rfl)) pgs_nil)))) (by decide) (by decide)), (fun _ _ _ _ _ => wif_nil), (fun _ _ _ _ _ => (w_v 1))⟩) wa_nil)))
  (wss_cons (ws_for PassesOwn.never rfl (wi_range1 rfl T.range (wa_cons (w_callB c_len (by rfl) T.len (by decide +kernel) (wa_cons (w_v 0) wa_nil)) wa_nil)) (wg_name (i := 4) sc_law_holds.nd rfl (Or.inl rfl))
  (wss_one (ws_if (wt_not (wt_val (w_def d_law_alike (hr.mono (by decide)) (by rfl) (wa_cons (w_def d_longest (hr.mono (by decide)) (by rfl) (wa_cons (w_v 0) (wa_cons (w_def d_law_one (hr.mono (by decide)) (by rfl) (wa_cons (w_callB c_len (by rfl) T.len (by decide +kernel) (wa_cons (w_v 0) wa_nil)) (wa_cons (w_v 4) wa_nil))) wa_nil))) (wa_cons (w_ix x_ix (w_v 3) (w_v 4) (fun _ _ => rfl)) wa_nil)))))
  (wss_one (ws_ret w_bl))
  wss_nil)))
  (wss_one (ws_ret (w_def d_law_alike (hr.mono (by decide)) (by rfl) (wa_cons (w_def d_longest (hr.mono (by decide)) (by rfl) (wa_cons (w_v 0) (wa_cons (w_op o_mulB (w_tup (wa_cons w_int wa_nil)) (w_callB c_len (by rfl) T.len (by decide +kernel) (wa_cons (w_v 0) wa_nil))) wa_nil))) (wa_cons w_int wa_nil))))))))), ?_⟩
    walk_at "rd"
    refine ⟨n, g, as, rfl, G, ha, hap, fun M1 e1 => ?_⟩
    walk_at "rd"
    refine ⟨n, g, bs, rfl, G, hb, hbp, fun M2 e2 => ?_⟩
    have e2 : Ext M M2 := fun b o e => e2 b o (e1 b o e)
    walk_at "rd"
    refine ⟨as, bs, rfl, by omega, by omega, ?_⟩
    walk_at "rd"
    refine ⟨n, g, plus as bs, rfl, G, by unfold plus; rw [List.length_zipWith]; omega, ?_⟩
    walk_at "rd"
    refine ⟨n, g, as, rfl, G, by omega, ?_⟩
    walk_at "rd"
    refine ⟨n, g, bs, rfl, G, by omega, ?_⟩
    walk_at "rd"
    have el : lng g n (plus as bs) = lng g n as + lng g n bs := dot_plus (by omega)
    refine rd_iteN (fun z => absurd el z) (fun _ => ?_)
    unfold gameD
    walk_at "rd"
    refine cl_pure (xs := g) (enc := heapD) (fun h => optsD h.2) (by omega) (fun i x N hx hN => ?_) ?_
    · unfold heapD
      walk_at "rd"
      exact hN
    · intro q hq
      have e3 := mext e2 hq (.lst (g.map fun h => optsD h.2))
      have hq3 : updM M2 q (.lst (g.map fun h => optsD h.2)) q = some (.lst ((optsOf g).map optsD)) := by
        rw [updM_same]
        unfold optsOf
        rw [List.map_map]
        rfl
      generalize updM M2 q (.lst (g.map fun h => optsD h.2)) = M3 at *
      walk_at "rd"
      refine ⟨q, optsOf g, rfl, hq3, G.optsOk, fun p M4 hp h4 e4 => ?_⟩
      have hol : (optsOf g).length = n := by unfold optsOf; rw [List.length_map]; exact hgl
      rw [hol] at h4
      have e4 : Ext M M4 := fun b o e => e4 b o (e3 b o e)
      walk_at "rd"
      refine ⟨inR_of (by omega) (by rw [List.length_map]; omega), ?_⟩
      rw [Int.toNat_natCast, List.length_map, hgl]
      refine fl_fix (fun i δ M' => ∃ v1, δ = [some (gameD g), some (row as), some (row bs), some (.ref p), v1] ∧ M' = M4) ⟨none, rfl, rfl⟩ (fun i d δ M' hd h => ?_) (fun δ M' h => ?_)
      · obtain ⟨v1, rfl, rfl⟩ := h
        obtain ⟨hi, rfl⟩ := rangeD_at hd
        walk_at "rd"
        refine rd_lenG ?_
        rw [hgl]
        walk_at "rd"
        rw [Int.zero_add]
        refine ⟨n, i, rfl, hi, by omega, ?_⟩
        walk_at "rd"
        refine ⟨n, g, unit n i, rfl, G, by rw [unit_len hi]; omega, ?_⟩
        walk_at "rd"
        refine rd_ixL h4 (atI_intN (i := i) (by rw [plN_len]; exact hi)) ?_
        have e : lng g n (unit n i) = (plN (optsOf g) n).getD i 0 := dot_unit hi (playsN_len g n)
        rw [e]
        walk_at "rd"
        refine ⟨_, rfl, ⟨_, rfl⟩, ?_⟩
        walk_at "rd"
        exact ⟨_, rfl, rfl⟩
      · obtain ⟨v1, rfl, rfl⟩ := h
        walk_at "rd"
        refine ⟨by show 1 ≤ sizeLine; decide, ?_⟩
        walk_at "rd"
        refine rd_lenG ?_
        rw [hgl]
        walk_at "rd"
        refine rd_mulbT (by omega) (by omega) ?_
        rw [Int.toNat_natCast]
        walk_at "rd"
        refine ⟨n, g, List.replicate n 0, by rw [row, List.map_replicate], G, by simp; omega, ?_⟩
        have e : lng g n (List.replicate n 0) = 0 := dot_zeros _ _
        rw [e]
        walk_at "rd"
        exact ⟨_, rfl, ⟨_, rfl⟩, fin2_same (k _ e4)⟩
end

structure Asked (n : Nat) (g : List HeapS) (as bs : List Int) : Prop where
  game : Game n g
  la : as.length = n
  lb : bs.length = n
  pa : ∀ x ∈ as, 0 ≤ x
  pb : ∀ x ∈ bs, 0 ≤ x
def AskD (d : D) : Prop := ∃ (n : Nat) (g : List HeapS) (as bs : List Int), d = .tup [gameD g, row as, row bs] ∧ Asked n g as bs
section
variable {P : Program} {w : World} {K : PySem.W.Frag} {mg : Str → Option Value} {base : Heap}
theorem sc_law : FnScope ["_law_script", "_law_flow_here", "_law_asked", "_law_k", "_law_wide", "_law_game", "_law_great"] ["_law_script"] (defScope (top 26)) := ⟨rfl, rfl, rfl, by decide +kernel, rfl, by decide +kernel, by decide +kernel⟩
theorem ok_law {f : Addr} {fd : FuncData} (F : Fun K "law" "law" (top 26) f fd) (T : Blt K mg) (d_law_flow : Def2 P w K mg base 1 "_law_flow" ["_law_script"] spFlow) (d_law_pick : Def2 P w K mg base 1 "_law_pick" ["_law_flow_here", "_law_many"] spPick) (d_law_any_game : Def2 P w K mg base 6 "_law_any_game" ["_law_flow_here", "_law_most"] spAnyG) (d_law_great_sum : Def2 P w K mg base 2 "_law_great_sum" ["_law_flow_here", "_law_many"] spGreat) (d_law_some_sum : Def2 P w K mg base 2 "_law_some_sum" ["_law_flow_here", "_law_many", "_law_most"] spSome) (d_law_right : Def2 P w K mg base 4 "_law_right" ["_law_game", "_law_counts_here"] spRight) (d_law_holds : Def2 P w K mg base 5 "_law_holds" ["_law_game", "_law_one_here", "_law_other"] spHolds6) : FnOk P w K mg base CX0 7 f fd ["_law_script"] (upSp K spLaw) := by
  refine ok3 F sc_law (fun ds M Q h => ?_) (fun cdv A outer s H E ds M Q hr h => ?_)
  · obtain ⟨a, rfl, _⟩ := h
    rfl
  · obtain ⟨ns, rfl, k⟩ := h
    refine ⟨_, (wss_cons (ws_set (i := 1) sc_law.nd rfl (Or.inl rfl) (w_def d_law_flow (hr.mono (by decide)) (by rfl) (wa_cons (w_v 0) wa_nil)))
  (wss_cons (ws_set (i := 2) sc_law.nd rfl (Or.inl rfl) (w_lst wa_nil))
  (wss_cons (ws_for PassesOwn.never rfl (wi_range1 rfl T.range (wa_cons w_int wa_nil)) (wg_name (i := 3) sc_law.nd rfl (Or.inl rfl))
  (wss_cons (ws_set (i := 5) sc_law.nd rfl (Or.inl rfl) (w_def d_law_any_game (hr.mono (by decide)) (by rfl) (wa_cons (w_v 1) (wa_cons w_int wa_nil))))
  (wss_cons (ws_set (i := 6) sc_law.nd rfl (Or.inl rfl) (w_tmpT c_tuple tmp_tuple (by rfl) T.tuple (by decide +kernel) (tgs := ["_law_n"]) (fr := []) ⟨blk_of (by kernel_rfl), rfl, (fun _ _ h => h), (wi_any (w_def d_law_great_sum (hr.mono (by decide)) (by rfl) (wa_cons (w_v 1) (wa_cons (w_callB c_len (by rfl) T.len (by decide +kernel) (wa_cons (w_v 5) wa_nil)) wa_nil)))), (wtc_name (fun _ _ _ _ _ => (pg_name (i := 0) (show (["_law_n"] : List Str).Nodup by decide +kernel) rfl (Or.inl rfl))) (by decide)), (fun _ _ _ _ _ => wif_nil), (fun _ _ _ _ _ => (w_callB (c_min rfl) (by rfl) T.min (by decide +kernel) (wa_cons (w_v 0) (wa_cons (w_op o_sub (w_op o_pow w_int w_int) w_int) wa_nil))))⟩))
  (wss_one (ws_expr (w_bm PySem.F.plainAttrs_list PySem.F.slot_list_append PySem.F.type_list_append m_append (w_v 2) (wa_cons (w_tup (wa_cons (w_v 5) (wa_cons (w_v 6) (wa_cons (w_def d_law_some_sum (hr.mono (by decide)) (by rfl) (wa_cons (w_v 1) (wa_cons (w_callB c_len (by rfl) T.len (by decide +kernel) (wa_cons (w_v 5) wa_nil)) (wa_cons w_int wa_nil)))) wa_nil)))) wa_nil)))))))
  (wss_cons (ws_set (i := 4) sc_law.nd rfl (Or.inl rfl) (w_tup wa_nil))
  (wss_cons (ws_if (wt_cmp (o_eqA hr.units) (w_def d_law_pick (hr.mono (by decide)) (by rfl) (wa_cons (w_v 1) (wa_cons w_int wa_nil))) w_int (nomark _))
  (wss_one (ws_set (i := 4) sc_law.nd rfl (Or.inl rfl) (w_def d_law_any_game (hr.mono (by decide)) (by rfl) (wa_cons (w_v 1) (wa_cons w_int wa_nil)))))
  wss_nil)
  (wss_cons (ws_if (wt_not (wt_val (w_def d_law_right (hr.mono (by decide)) (by rfl) (wa_cons (w_v 4) (wa_cons (w_def d_law_some_sum (hr.mono (by decide)) (by rfl) (wa_cons (w_v 1) (wa_cons (w_callB c_len (by rfl) T.len (by decide +kernel) (wa_cons (w_v 4) wa_nil)) (wa_cons w_int wa_nil)))) wa_nil)))))
  (wss_one (ws_ret w_bl))
  wss_nil)
  (wss_one (ws_ret (w_tmpB (c_all rfl) tmp_all (by rfl) T.all (by decide +kernel) (tgs := ["_law_game", "_law_one_here", "_law_other"]) (fr := []) ⟨blk_of (by kernel_rfl), rfl, (fun _ _ h => h), (wi_any (w_op o_addA (w_v 2) (w_slice s_slA (w_v 2) wo_none (wo_some w_int)))), (wtc_tup3 (fun _ _ _ _ _ => (pg_tup rfl (pgs_cons (pg_name (i := 0) (show (["_law_game", "_law_one_here", "_law_other"] : List Str).Nodup by decide +kernel) rfl (Or.inl rfl)) (pgs_cons (pg_name (i := 1) (show (["_law_game", "_law_one_here", "_law_other"] : List Str).Nodup by decide +kernel) rfl (Or.inl rfl)) (pgs_cons (pg_name (i := 2) (show (["_law_game", "_law_one_here", "_law_other"] : List Str).Nodup by decide +kernel) rfl (Or.inl rfl)) pgs_nil))))) (by decide) (by decide) (by decide)), (fun _ _ _ _ _ => wif_nil), (fun _ _ _ _ _ => (w_def d_law_holds (hr.mono (by decide)) (by rfl) (wa_cons (w_v 0) (wa_cons (w_v 1) (wa_cons (w_v 2) wa_nil)))))⟩))))))))), ?_⟩
    walk_at "rd"
    refine ⟨ns, rfl, fun a cc M0 hF0 => ?_⟩
    walk_at "rd"
    refine ⟨by decide, fun p hp => ?_⟩
    have hpa := (hF0.ne hp).1
    have hF1 : Flow (updM M0 p (.lst [])) a cc := hF0.put hp
    walk_at "rd"
    refine ⟨inR_of (by decide) (by decide), ?_⟩
    refine fl_fix (fun i δ M' => ∃ (w0 w3 w4 w5 w6 : Option D) (ds : List D), δ = [w0, some (.ref a), some (.ref p), w3, w4, w5, w6] ∧ ds.length = i ∧ (∀ d ∈ ds, AskD d) ∧ M' p = some (.lst ds) ∧ Flow M' a cc ∧ p ≠ cc) ⟨_, _, _, _, _, [], rfl, rfl, (fun d h => by cases h), updM_same, hF1, (hF0.ne hp).2⟩ (fun i d δ M' hd h => ?_) (fun δ M' h => ?_)
    · obtain ⟨w0, w3, w4, w5, w6, ds, rfl, hl, hds, h3, hF, hpc⟩ := h
      obtain ⟨hi, rfl⟩ := rangeD_at hd
      walk_at "rd"
      refine ⟨a, cc, 6, rfl, hF, by decide, fun n g M1 hn G F1 => ?_⟩
      have h3 := F1.mv p _ hpa h3
      walk_at "rd"
      refine rd_lenG ?_
      rw [G.len]
      walk_at "rd"
      refine ⟨a, cc, n, rfl, F1.flow, by omega, fun ms M2 hms hm F2 => ?_⟩
      have h3 := F2.mv p _ hpa h3
      unfold row
      walk_at "rd"
      refine cl_pure (xs := ms) (enc := D.int) (fun x => D.int (if 1000000000000000000000000000000 - 20 < x then 1000000000000000000000000000000 - 20 else x)) (by omega) (fun j x N hx hN => ?_) ?_
      · walk_at "rd"
        refine rd_i ⟨by decide, by decide, by decide⟩ ?_
        walk_at "rd"
        exact hN
      · walk_at "rd"
        refine ⟨⟨rfl, _, h3⟩, ?_⟩
        walk_at "rd"
        refine rd_lenG ?_
        rw [G.len]
        walk_at "rd"
        refine ⟨a, cc, n, 6, rfl, F2.flow, by omega, by decide, by decide, fun ss M3 hss hsp F3 => ?_⟩
        have h3 := F3.mv p _ hpa h3
        walk_at "rd"
        refine ⟨by show 3 ≤ sizeLine; decide, ?_⟩
        walk_at "rd"
        refine rd_app h3 (by rw [hl]; exact Nat.lt_of_lt_of_le hi (by decide)) ?_
        walk_at "rd"
        refine ⟨_, _, _, _, _, ds ++ [_], rfl, by simp [hl], fun d hd => ?_, updM_same, ?_, hpc⟩
        · rcases List.mem_append.mp hd with q | q
          · exact hds d q
          · have e : d = .tup [gameD g, .tup (ms.map fun x => D.int (if 1000000000000000000000000000000 - 20 < x then 1000000000000000000000000000000 - 20 else x)), row (cnts ss n)] := by simpa using q
            refine ⟨n, g, ms.map fun x => if 1000000000000000000000000000000 - 20 < x then 1000000000000000000000000000000 - 20 else x, cnts ss n, ?_, G, by simp [hms], cnts_len _ _, fun x hx => ?_, cnts_pos⟩
            · rw [e]
              unfold row
              rw [List.map_map]
              rfl
            · obtain ⟨y, hy, rfl⟩ := List.mem_map.mp hx
              have := (hm y hy).1
              split <;> omega
        · obtain ⟨ns, pp, b, sd, ct, e1, e2, e3⟩ := F3.flow
          exact ⟨ns, pp, b, sd, ct, by rw [updM_ne (Ne.symm hpa)]; exact e1, by rw [updM_ne (Ne.symm hpc)]; exact e2, e3⟩
    · obtain ⟨w0, w3, w4, w5, w6, ds, rfl, hl, hds, h3, hF, hpc⟩ := h
      have hl : ds.length = 2 := by rw [rangeD_len] at hl; exact hl
      walk_at "rd"
      -- the wide game
      refine ⟨by show 0 ≤ sizeLine; decide, rd_name ?_⟩
      dsimp only
      with_reducible refine rd_cut (fun δ' M' => ∃ (v0 v3 v5 v6 : Option D) (n : Nat) (g : List HeapS), δ' = [v0, some (.ref a), some (.ref p), v3, some (gameD g), v5, v6] ∧ Game n g ∧ M' p = some (.lst ds) ∧ Flow M' a cc) (fun N hN => ?_) ?_
      · walk_at "rd"
        refine ⟨a, cc, 8, rfl, hF, by decide, by decide, fun d o d0 d1 hF2 => ?_⟩
        have h3 : updM M' a o p = some (.lst ds) := by rw [updM_ne hpa]; exact h3
        walk_at "rd"
        refine rd_iteP (fun _ => ?_) (fun _ => ?_)
        · walk_at "rd"
          refine ⟨a, cc, 12, rfl, hF2, by decide, fun n g M1 hn G F1 => ?_⟩
          walk_at "rd"
          exact hN _ _ ⟨_, _, _, _, n, g, rfl, G, F1.mv p _ hpa h3, F1.flow⟩
        · walk_at "rd"
          exact hN _ _ ⟨_, _, _, _, 0, [], rfl, ⟨rfl, by decide, fun i hi => absurd hi (Nat.not_lt_zero _)⟩, h3, hF2⟩
      · rintro δ' M1 ⟨v0, v3, v5, v6, n, g, rfl, G, h3, hF⟩
        have hfew := G.few
        walk_at "rd"
        refine rd_lenG ?_
        rw [G.len]
        walk_at "rd"
        refine ⟨a, cc, n, 2, rfl, hF, by omega, by decide, by decide, fun ss M2 hss hsp F2 => ?_⟩
        have h3 := F2.mv p _ hpa h3
        walk_at "rd"
        refine ⟨n, g, cnts ss n, rfl, G, cnts_len _ _, cnts_pos, fun M3 e3 => ?_⟩
        have h3 := e3 _ _ h3
        walk_at "rd"
        refine rd_slALTo h3 (by decide) fun q hq => ?_
        have hpq : p ≠ q := fun z => by subst z; rw [h3] at hq; cases hq
        refine rd_addaL (by rw [updM_ne hpq]; exact h3) updM_same (small (by rw [List.length_take]; omega)) fun r hr => ?_
        walk_at "rd"
        have hzs : ∀ d ∈ ds ++ ds.take (1 : Int).toNat, AskD d := fun d hd => by
          rcases List.mem_append.mp hd with z | z
          · exact hds d z
          · exact hds d (List.mem_of_mem_take z)
        have hzl : (ds ++ ds.take (1 : Int).toNat).length ≤ 10 := by rw [List.length_append, List.length_take]; omega
        generalize ds ++ ds.take (1 : Int).toNat = zs at *
        refine cl_at (ds := zs) (fun i acc M' => M' r = some (.lst zs) ∧ acc = (List.replicate i true).map D.bl) ⟨updM_same, rfl⟩ (fun i acc M' hi h => h.1) (fun i acc M' hi h => ?_) (fun i d acc M' hd h => ?_) (fun acc M' h => ?_)
        · obtain ⟨_, rfl⟩ := h
          simp only [List.length_map, List.length_replicate]
          exact small (by omega)
        · obtain ⟨h1, rfl⟩ := h
          obtain ⟨n, g, as, bs, rfl, A⟩ := hzs d (List.mem_of_getElem? hd)
          walk_at "rd"
          refine ⟨n, g, as, bs, rfl, A.game, A.la, A.lb, A.pa, A.pb, fun M4 e4 => ⟨e4 _ _ h1, ?_⟩⟩
          rw [List.replicate_succ', List.map_append]
          rfl
        · obtain ⟨h1, rfl⟩ := h
          unfold dAll3
          rw [blsD_map]
          show fin2 Q (.bl ((List.replicate _ true).all id)) _
          rw [all_yes]
          exact fin2_same (k _)
end

theorem isi_bool (K : PySem.W.Frag) : IsiOk K "bool" := ⟨by kernel_rfl, by kernel_rfl, by kernel_rfl, by kernel_rfl, by kernel_rfl, by kernel_rfl⟩
theorem isi_int (K : PySem.W.Frag) : IsiOk K "int" := ⟨by kernel_rfl, by kernel_rfl, by kernel_rfl, by kernel_rfl, by kernel_rfl, by kernel_rfl⟩
theorem isi_list (K : PySem.W.Frag) : IsiOk K "list" := ⟨by kernel_rfl, by kernel_rfl, by kernel_rfl, by kernel_rfl, by kernel_rfl, by kernel_rfl⟩
theorem isi_str (K : PySem.W.Frag) : IsiOk K "str" := ⟨by kernel_rfl, by kernel_rfl, by kernel_rfl, by kernel_rfl, by kernel_rfl, by kernel_rfl⟩
theorem isi_tuple (K : PySem.W.Frag) : IsiOk K "tuple" := ⟨by kernel_rfl, by kernel_rfl, by kernel_rfl, by kernel_rfl, by kernel_rfl, by kernel_rfl⟩
theorem law_sp {K : PySem.W.Frag} {H : Hp} {a : Addr} {ns : List Int} (hO : Only H) (hS : SqL K H a (ns.map V.int)) : upSp K spLaw [.ref a] H (fun v _ => v = .bl true) fun _ _ _ => False := by
  have hfr : FrL K H a (ns.map V.int) := by
    rcases hS with (h | ⟨o, h⟩) | h
    · rcases hO a with z | ⟨o, xs, z⟩
      · rw [z] at h; cases h
      · rw [z] at h; cases h
    · exact .inl ⟨o, h⟩
    · exact .inr h
  refine ⟨[.fl (ns.map D.int)], fun _ => none, fun d _ => d = .bl true, Dats.one (dat_fl.mpr ⟨a, _, rfl, hfr, dats_ints ns⟩), fun a o e => (by cases e), ⟨ns, rfl, fun _ => rfl⟩, fun v H' d M' hd hm t e => ?_⟩
  subst e
  exact dat_bl.mp hd
theorem all_mk {l : PySem.W.OpenLaw} {w : World} {K : PySem.W.Frag} {h : Heap} {mg : Str → Option Value} {fa : Addr}
    {f0 : Addr} {od0 an0 : Option Addr} {sl0 : Array (Option Value)} {oc0 kV0 dc0 pm0 cd0 ct0 : Value}
    {f1 : Addr} {od1 an1 : Option Addr} {sl1 : Array (Option Value)} {oc1 kV1 dc1 pm1 cd1 ct1 : Value}
    {f2 : Addr} {od2 an2 : Option Addr} {sl2 : Array (Option Value)} {oc2 kV2 dc2 pm2 cd2 ct2 : Value}
    {f3 : Addr} {od3 an3 : Option Addr} {sl3 : Array (Option Value)} {oc3 kV3 dc3 pm3 cd3 ct3 : Value}
    {f4 : Addr} {od4 an4 : Option Addr} {sl4 : Array (Option Value)} {oc4 kV4 dc4 pm4 cd4 ct4 : Value}
    {f5 : Addr} {od5 an5 : Option Addr} {sl5 : Array (Option Value)} {oc5 kV5 dc5 pm5 cd5 ct5 : Value}
    {f6 : Addr} {od6 an6 : Option Addr} {sl6 : Array (Option Value)} {oc6 kV6 dc6 pm6 cd6 ct6 : Value}
    {f7 : Addr} {od7 an7 : Option Addr} {sl7 : Array (Option Value)} {oc7 kV7 dc7 pm7 cd7 ct7 : Value}
    {f8 : Addr} {od8 an8 : Option Addr} {sl8 : Array (Option Value)} {oc8 kV8 dc8 pm8 cd8 ct8 : Value}
    {f9 : Addr} {od9 an9 : Option Addr} {sl9 : Array (Option Value)} {oc9 kV9 dc9 pm9 cd9 ct9 : Value}
    {f10 : Addr} {od10 an10 : Option Addr} {sl10 : Array (Option Value)} {oc10 kV10 dc10 pm10 cd10 ct10 : Value}
    {f11 : Addr} {od11 an11 : Option Addr} {sl11 : Array (Option Value)} {oc11 kV11 dc11 pm11 cd11 ct11 : Value}
    {f12 : Addr} {od12 an12 : Option Addr} {sl12 : Array (Option Value)} {oc12 kV12 dc12 pm12 cd12 ct12 : Value}
    {f13 : Addr} {od13 an13 : Option Addr} {sl13 : Array (Option Value)} {oc13 kV13 dc13 pm13 cd13 ct13 : Value}
    {f14 : Addr} {od14 an14 : Option Addr} {sl14 : Array (Option Value)} {oc14 kV14 dc14 pm14 cd14 ct14 : Value}
    {f15 : Addr} {od15 an15 : Option Addr} {sl15 : Array (Option Value)} {oc15 kV15 dc15 pm15 cd15 ct15 : Value}
    {f16 : Addr} {od16 an16 : Option Addr} {sl16 : Array (Option Value)} {oc16 kV16 dc16 pm16 cd16 ct16 : Value}
    {f17 : Addr} {od17 an17 : Option Addr} {sl17 : Array (Option Value)} {oc17 kV17 dc17 pm17 cd17 ct17 : Value}
    {f18 : Addr} {od18 an18 : Option Addr} {sl18 : Array (Option Value)} {oc18 kV18 dc18 pm18 cd18 ct18 : Value}
    {f19 : Addr} {od19 an19 : Option Addr} {sl19 : Array (Option Value)} {oc19 kV19 dc19 pm19 cd19 ct19 : Value}
    {f20 : Addr} {od20 an20 : Option Addr} {sl20 : Array (Option Value)} {oc20 kV20 dc20 pm20 cd20 ct20 : Value}
    {f21 : Addr} {od21 an21 : Option Addr} {sl21 : Array (Option Value)} {oc21 kV21 dc21 pm21 cd21 ct21 : Value}
    {f22 : Addr} {od22 an22 : Option Addr} {sl22 : Array (Option Value)} {oc22 kV22 dc22 pm22 cd22 ct22 : Value}
    {f23 : Addr} {od23 an23 : Option Addr} {sl23 : Array (Option Value)} {oc23 kV23 dc23 pm23 cd23 ct23 : Value}
    {f24 : Addr} {od24 an24 : Option Addr} {sl24 : Array (Option Value)} {oc24 kV24 dc24 pm24 cd24 ct24 : Value}
    (X : K.In h) (G : h.Ns mainGlobals mg) (hfa : mg "law" = some (.ref fa))
    (a0 : PySem.W.nsIn K mainGlobals "added" = some (some (.ref f0))) (l0 : K.lookup f0 = some ⟨oc0, od0, .func (PySem.W.fnOf "added" "added" (defArgs (top 1)) (defBody (top 1)) (defScope (top 1)) .none kV0 dc0 pm0 an0 cd0 ct0), sl0⟩) (c0 : PySem.W.codeIn K cd0 "added" = true) (k0 : PySem.W.keepIn K (.ref f0) = true)
    (a1 : PySem.W.nsIn K mainGlobals "one_less" = some (some (.ref f1))) (l1 : K.lookup f1 = some ⟨oc1, od1, .func (PySem.W.fnOf "one_less" "one_less" (defArgs (top 2)) (defBody (top 2)) (defScope (top 2)) .none kV1 dc1 pm1 an1 cd1 ct1), sl1⟩) (c1 : PySem.W.codeIn K cd1 "one_less" = true) (k1 : PySem.W.keepIn K (.ref f1) = true)
    (a2 : PySem.W.nsIn K mainGlobals "moves" = some (some (.ref f2))) (l2 : K.lookup f2 = some ⟨oc2, od2, .func (PySem.W.fnOf "moves" "moves" (defArgs (top 3)) (defBody (top 3)) (defScope (top 3)) .none kV2 dc2 pm2 an2 cd2 ct2), sl2⟩) (c2 : PySem.W.codeIn K cd2 "moves" = true) (k2 : PySem.W.keepIn K (.ref f2) = true)
    (a3 : PySem.W.nsIn K mainGlobals "heap_plays" = some (some (.ref f3))) (l3 : K.lookup f3 = some ⟨oc3, od3, .func (PySem.W.fnOf "heap_plays" "heap_plays" (defArgs (top 4)) (defBody (top 4)) (defScope (top 4)) .none kV3 dc3 pm3 an3 cd3 ct3), sl3⟩) (c3 : PySem.W.codeIn K cd3 "heap_plays" = true) (k3 : PySem.W.keepIn K (.ref f3) = true)
    (a4 : PySem.W.nsIn K mainGlobals "longest_by" = some (some (.ref f4))) (l4 : K.lookup f4 = some ⟨oc4, od4, .func (PySem.W.fnOf "longest_by" "longest_by" (defArgs (top 5)) (defBody (top 5)) (defScope (top 5)) .none kV4 dc4 pm4 an4 cd4 ct4), sl4⟩) (c4 : PySem.W.codeIn K cd4 "longest_by" = true) (k4 : PySem.W.keepIn K (.ref f4) = true)
    (a5 : PySem.W.nsIn K mainGlobals "longest" = some (some (.ref f5))) (l5 : K.lookup f5 = some ⟨oc5, od5, .func (PySem.W.fnOf "longest" "longest" (defArgs (top 6)) (defBody (top 6)) (defScope (top 6)) .none kV5 dc5 pm5 an5 cd5 ct5), sl5⟩) (c5 : PySem.W.codeIn K cd5 "longest" = true) (k5 : PySem.W.keepIn K (.ref f5) = true)
    (a6 : PySem.W.nsIn K mainGlobals "_law_flow" = some (some (.ref f6))) (l6 : K.lookup f6 = some ⟨oc6, od6, .func (PySem.W.fnOf "_law_flow" "_law_flow" (defArgs (top 8)) (defBody (top 8)) (defScope (top 8)) .none kV6 dc6 pm6 an6 cd6 ct6), sl6⟩) (c6 : PySem.W.codeIn K cd6 "_law_flow" = true) (k6 : PySem.W.keepIn K (.ref f6) = true)
    (a7 : PySem.W.nsIn K mainGlobals "_law_pick" = some (some (.ref f7))) (l7 : K.lookup f7 = some ⟨oc7, od7, .func (PySem.W.fnOf "_law_pick" "_law_pick" (defArgs (top 9)) (defBody (top 9)) (defScope (top 9)) .none kV7 dc7 pm7 an7 cd7 ct7), sl7⟩) (c7 : PySem.W.codeIn K cd7 "_law_pick" = true) (k7 : PySem.W.keepIn K (.ref f7) = true)
    (a8 : PySem.W.nsIn K mainGlobals "_law_alike" = some (some (.ref f8))) (l8 : K.lookup f8 = some ⟨oc8, od8, .func (PySem.W.fnOf "_law_alike" "_law_alike" (defArgs (top 10)) (defBody (top 10)) (defScope (top 10)) .none kV8 dc8 pm8 an8 cd8 ct8), sl8⟩) (c8 : PySem.W.codeIn K cd8 "_law_alike" = true) (k8 : PySem.W.keepIn K (.ref f8) = true)
    (a9 : PySem.W.nsIn K mainGlobals "_law_name" = some (some (.ref f9))) (l9 : K.lookup f9 = some ⟨oc9, od9, .func (PySem.W.fnOf "_law_name" "_law_name" (defArgs (top 11)) (defBody (top 11)) (defScope (top 11)) .none kV9 dc9 pm9 an9 cd9 ct9), sl9⟩) (c9 : PySem.W.codeIn K cd9 "_law_name" = true) (k9 : PySem.W.keepIn K (.ref f9) = true)
    (a10 : PySem.W.nsIn K mainGlobals "_law_names" = some (some (.ref f10))) (l10 : K.lookup f10 = some ⟨oc10, od10, .func (PySem.W.fnOf "_law_names" "_law_names" (defArgs (top 12)) (defBody (top 12)) (defScope (top 12)) .none kV10 dc10 pm10 an10 cd10 ct10), sl10⟩) (c10 : PySem.W.codeIn K cd10 "_law_names" = true) (k10 : PySem.W.keepIn K (.ref f10) = true)
    (a11 : PySem.W.nsIn K mainGlobals "_law_key" = some (some (.ref f11))) (l11 : K.lookup f11 = some ⟨oc11, od11, .func (PySem.W.fnOf "_law_key" "_law_key" (defArgs (top 13)) (defBody (top 13)) (defScope (top 13)) .none kV11 dc11 pm11 an11 cd11 ct11), sl11⟩) (c11 : PySem.W.codeIn K cd11 "_law_key" = true) (k11 : PySem.W.keepIn K (.ref f11) = true)
    (a12 : PySem.W.nsIn K mainGlobals "_law_counts" = some (some (.ref f12))) (l12 : K.lookup f12 = some ⟨oc12, od12, .func (PySem.W.fnOf "_law_counts" "_law_counts" (defArgs (top 14)) (defBody (top 14)) (defScope (top 14)) .none kV12 dc12 pm12 an12 cd12 ct12), sl12⟩) (c12 : PySem.W.codeIn K cd12 "_law_counts" = true) (k12 : PySem.W.keepIn K (.ref f12) = true)
    (a13 : PySem.W.nsIn K mainGlobals "_law_in_order" = some (some (.ref f13))) (l13 : K.lookup f13 = some ⟨oc13, od13, .func (PySem.W.fnOf "_law_in_order" "_law_in_order" (defArgs (top 15)) (defBody (top 15)) (defScope (top 15)) .none kV13 dc13 pm13 an13 cd13 ct13), sl13⟩) (c13 : PySem.W.codeIn K cd13 "_law_in_order" = true) (k13 : PySem.W.keepIn K (.ref f13) = true)
    (a14 : PySem.W.nsIn K mainGlobals "_law_lengths" = some (some (.ref f14))) (l14 : K.lookup f14 = some ⟨oc14, od14, .func (PySem.W.fnOf "_law_lengths" "_law_lengths" (defArgs (top 16)) (defBody (top 16)) (defScope (top 16)) .none kV14 dc14 pm14 an14 cd14 ct14), sl14⟩) (c14 : PySem.W.codeIn K cd14 "_law_lengths" = true) (k14 : PySem.W.keepIn K (.ref f14) = true)
    (a15 : PySem.W.nsIn K mainGlobals "_law_some_sum" = some (some (.ref f15))) (l15 : K.lookup f15 = some ⟨oc15, od15, .func (PySem.W.fnOf "_law_some_sum" "_law_some_sum" (defArgs (top 17)) (defBody (top 17)) (defScope (top 17)) .none kV15 dc15 pm15 an15 cd15 ct15), sl15⟩) (c15 : PySem.W.codeIn K cd15 "_law_some_sum" = true) (k15 : PySem.W.keepIn K (.ref f15) = true)
    (a16 : PySem.W.nsIn K mainGlobals "_law_great_sum" = some (some (.ref f16))) (l16 : K.lookup f16 = some ⟨oc16, od16, .func (PySem.W.fnOf "_law_great_sum" "_law_great_sum" (defArgs (top 18)) (defBody (top 18)) (defScope (top 18)) .none kV16 dc16 pm16 an16 cd16 ct16), sl16⟩) (c16 : PySem.W.codeIn K cd16 "_law_great_sum" = true) (k16 : PySem.W.keepIn K (.ref f16) = true)
    (a17 : PySem.W.nsIn K mainGlobals "_law_added" = some (some (.ref f17))) (l17 : K.lookup f17 = some ⟨oc17, od17, .func (PySem.W.fnOf "_law_added" "_law_added" (defArgs (top 19)) (defBody (top 19)) (defScope (top 19)) .none kV17 dc17 pm17 an17 cd17 ct17), sl17⟩) (c17 : PySem.W.codeIn K cd17 "_law_added" = true) (k17 : PySem.W.keepIn K (.ref f17) = true)
    (a18 : PySem.W.nsIn K mainGlobals "_law_any_sums" = some (some (.ref f18))) (l18 : K.lookup f18 = some ⟨oc18, od18, .func (PySem.W.fnOf "_law_any_sums" "_law_any_sums" (defArgs (top 20)) (defBody (top 20)) (defScope (top 20)) .none kV18 dc18 pm18 an18 cd18 ct18), sl18⟩) (c18 : PySem.W.codeIn K cd18 "_law_any_sums" = true) (k18 : PySem.W.keepIn K (.ref f18) = true)
    (a19 : PySem.W.nsIn K mainGlobals "_law_any_game" = some (some (.ref f19))) (l19 : K.lookup f19 = some ⟨oc19, od19, .func (PySem.W.fnOf "_law_any_game" "_law_any_game" (defArgs (top 21)) (defBody (top 21)) (defScope (top 21)) .none kV19 dc19 pm19 an19 cd19 ct19), sl19⟩) (c19 : PySem.W.codeIn K cd19 "_law_any_game" = true) (k19 : PySem.W.keepIn K (.ref f19) = true)
    (a20 : PySem.W.nsIn K mainGlobals "_law_one" = some (some (.ref f20))) (l20 : K.lookup f20 = some ⟨oc20, od20, .func (PySem.W.fnOf "_law_one" "_law_one" (defArgs (top 22)) (defBody (top 22)) (defScope (top 22)) .none kV20 dc20 pm20 an20 cd20 ct20), sl20⟩) (c20 : PySem.W.codeIn K cd20 "_law_one" = true) (k20 : PySem.W.keepIn K (.ref f20) = true)
    (a21 : PySem.W.nsIn K mainGlobals "_law_whole" = some (some (.ref f21))) (l21 : K.lookup f21 = some ⟨oc21, od21, .func (PySem.W.fnOf "_law_whole" "_law_whole" (defArgs (top 23)) (defBody (top 23)) (defScope (top 23)) .none kV21 dc21 pm21 an21 cd21 ct21), sl21⟩) (c21 : PySem.W.codeIn K cd21 "_law_whole" = true) (k21 : PySem.W.keepIn K (.ref f21) = true)
    (a22 : PySem.W.nsIn K mainGlobals "_law_right" = some (some (.ref f22))) (l22 : K.lookup f22 = some ⟨oc22, od22, .func (PySem.W.fnOf "_law_right" "_law_right" (defArgs (top 24)) (defBody (top 24)) (defScope (top 24)) .none kV22 dc22 pm22 an22 cd22 ct22), sl22⟩) (c22 : PySem.W.codeIn K cd22 "_law_right" = true) (k22 : PySem.W.keepIn K (.ref f22) = true)
    (a23 : PySem.W.nsIn K mainGlobals "_law_holds" = some (some (.ref f23))) (l23 : K.lookup f23 = some ⟨oc23, od23, .func (PySem.W.fnOf "_law_holds" "_law_holds" (defArgs (top 25)) (defBody (top 25)) (defScope (top 25)) .none kV23 dc23 pm23 an23 cd23 ct23), sl23⟩) (c23 : PySem.W.codeIn K cd23 "_law_holds" = true) (k23 : PySem.W.keepIn K (.ref f23) = true)
    (a24 : PySem.W.nsIn K mainGlobals "law" = some (some (.ref f24))) (l24 : K.lookup f24 = some ⟨oc24, od24, .func (PySem.W.fnOf "law" "law" (defArgs (top 26)) (defBody (top 26)) (defScope (top 26)) .none kV24 dc24 pm24 an24 cd24 ct24), sl24⟩) (c24 : PySem.W.codeIn K cd24 "law" = true) (k24 : PySem.W.keepIn K (.ref f24) = true)
    (z_all : PySem.W.nsIn K mainGlobals "all" = some none)
    (z_bool : PySem.W.nsIn K mainGlobals "bool" = some none)
    (z_dict : PySem.W.nsIn K mainGlobals "dict" = some none)
    (z_enumerate : PySem.W.nsIn K mainGlobals "enumerate" = some none)
    (z_int : PySem.W.nsIn K mainGlobals "int" = some none)
    (z_isinstance : PySem.W.nsIn K mainGlobals "isinstance" = some none)
    (z_len : PySem.W.nsIn K mainGlobals "len" = some none)
    (z_list : PySem.W.nsIn K mainGlobals "list" = some none)
    (z_max : PySem.W.nsIn K mainGlobals "max" = some none)
    (z_min : PySem.W.nsIn K mainGlobals "min" = some none)
    (z_range : PySem.W.nsIn K mainGlobals "range" = some none)
    (z_sorted : PySem.W.nsIn K mainGlobals "sorted" = some none)
    (z_str : PySem.W.nsIn K mainGlobals "str" = some none)
    (z_sum : PySem.W.nsIn K mainGlobals "sum" = some none)
    (z_tuple : PySem.W.nsIn K mainGlobals "tuple" = some none)
    (z_zip : PySem.W.nsIn K mainGlobals "zip" = some none) :
    ∃ fd : FuncData, (∀ (s : Shared) (v : Value), BindsTo s fd ⟨[v], []⟩ [("_law_script", v)]) ∧ ∀ base : Heap, K.In base → base.Ns mainGlobals mg → FnOk l.prog w K mg base CX0 7 fa fd ["_law_script"] (upSp K spLaw) := by
  have e := hfa.symm.trans (PySem.W.mg_of X G a24)
  cases e
  have T : Blt K mg := ⟨PySem.W.mg_none_of X G z_all, PySem.W.mg_none_of X G z_bool, PySem.W.mg_none_of X G z_dict, PySem.W.mg_none_of X G z_enumerate, PySem.W.mg_none_of X G z_int, PySem.W.mg_none_of X G z_isinstance, PySem.W.mg_none_of X G z_len, PySem.W.mg_none_of X G z_list, PySem.W.mg_none_of X G z_max, PySem.W.mg_none_of X G z_min, PySem.W.mg_none_of X G z_range, PySem.W.mg_none_of X G z_sorted, PySem.W.mg_none_of X G z_str, PySem.W.mg_none_of X G z_sum, PySem.W.mg_none_of X G z_tuple, PySem.W.mg_none_of X G z_zip, isi_bool K, isi_int K, isi_list K, isi_str K, isi_tuple K⟩
  have F0 := fun_mk (st := top 1) l0 c0 k0
  have b0 := F0.binds (ps := ["one", "other"]) fun _ _ _ _ _ _ us hl => match us, hl with | [_, _], _ => rfl
  have F1 := fun_mk (st := top 2) l1 c1 k1
  have b1 := F1.binds (ps := ["counts", "heap"]) fun _ _ _ _ _ _ us hl => match us, hl with | [_, _], _ => rfl
  have F2 := fun_mk (st := top 3) l2 c2 k2
  have b2 := F2.binds (ps := ["game", "counts"]) fun _ _ _ _ _ _ us hl => match us, hl with | [_, _], _ => rfl
  have F3 := fun_mk (st := top 4) l3 c3 k3
  have b3 := F3.binds (ps := ["game"]) fun _ _ _ _ _ _ us hl => match us, hl with | [_], _ => rfl
  have F4 := fun_mk (st := top 5) l4 c4 k4
  have b4 := F4.binds (ps := ["plays", "counts"]) fun _ _ _ _ _ _ us hl => match us, hl with | [_, _], _ => rfl
  have F5 := fun_mk (st := top 6) l5 c5 k5
  have b5 := F5.binds (ps := ["game", "counts"]) fun _ _ _ _ _ _ us hl => match us, hl with | [_, _], _ => rfl
  have F6 := fun_mk (st := top 8) l6 c6 k6
  have b6 := F6.binds (ps := ["_law_script"]) fun _ _ _ _ _ _ us hl => match us, hl with | [_], _ => rfl
  have F7 := fun_mk (st := top 9) l7 c7 k7
  have b7 := F7.binds (ps := ["_law_flow_here", "_law_many"]) fun _ _ _ _ _ _ us hl => match us, hl with | [_, _], _ => rfl
  have F8 := fun_mk (st := top 10) l8 c8 k8
  have b8 := F8.binds (ps := ["_law_found", "_law_due"]) fun _ _ _ _ _ _ us hl => match us, hl with | [_, _], _ => rfl
  have F9 := fun_mk (st := top 11) l9 c9 k9
  have b9 := F9.binds (ps := ["_law_flow_here"]) fun _ _ _ _ _ _ us hl => match us, hl with | [_], _ => rfl
  have F10 := fun_mk (st := top 12) l10 c10 k10
  have b10 := F10.binds (ps := ["_law_flow_here", "_law_many"]) fun _ _ _ _ _ _ us hl => match us, hl with | [_, _], _ => rfl
  have F11 := fun_mk (st := top 13) l11 c11 k11
  have b11 := F11.binds (ps := ["_law_counts_here"]) fun _ _ _ _ _ _ us hl => match us, hl with | [_], _ => rfl
  have F12 := fun_mk (st := top 14) l12 c12 k12
  have b12 := F12.binds (ps := ["_law_heaps", "_law_many"]) fun _ _ _ _ _ _ us hl => match us, hl with | [_, _], _ => rfl
  have F13 := fun_mk (st := top 15) l13 c13 k13
  have b13 := F13.binds (ps := ["_law_sums"]) fun _ _ _ _ _ _ us hl => match us, hl with | [_], _ => rfl
  have F14 := fun_mk (st := top 16) l14 c14 k14
  have b14 := F14.binds (ps := ["_law_options"]) fun _ _ _ _ _ _ us hl => match us, hl with | [_], _ => rfl
  have F15 := fun_mk (st := top 17) l15 c15 k15
  have b15 := F15.binds (ps := ["_law_flow_here", "_law_many", "_law_most"]) fun _ _ _ _ _ _ us hl => match us, hl with | [_, _, _], _ => rfl
  have F16 := fun_mk (st := top 18) l16 c16 k16
  have b16 := F16.binds (ps := ["_law_flow_here", "_law_many"]) fun _ _ _ _ _ _ us hl => match us, hl with | [_, _], _ => rfl
  have F17 := fun_mk (st := top 19) l17 c17 k17
  have b17 := F17.binds (ps := ["_law_one_here", "_law_other"]) fun _ _ _ _ _ _ us hl => match us, hl with | [_, _], _ => rfl
  have F18 := fun_mk (st := top 20) l18 c18 k18
  have b18 := F18.binds (ps := ["_law_flow_here", "_law_ahead", "_law_many"]) fun _ _ _ _ _ _ us hl => match us, hl with | [_, _, _], _ => rfl
  have F19 := fun_mk (st := top 21) l19 c19 k19
  have b19 := F19.binds (ps := ["_law_flow_here", "_law_most"]) fun _ _ _ _ _ _ us hl => match us, hl with | [_, _], _ => rfl
  have F20 := fun_mk (st := top 22) l20 c20 k20
  have b20 := F20.binds (ps := ["_law_many", "_law_h"]) fun _ _ _ _ _ _ us hl => match us, hl with | [_, _], _ => rfl
  have F21 := fun_mk (st := top 23) l21 c21 k21
  have b21 := F21.binds (ps := ["_law_thing"]) fun _ _ _ _ _ _ us hl => match us, hl with | [_], _ => rfl
  have F22 := fun_mk (st := top 24) l22 c22 k22
  have b22 := F22.binds (ps := ["_law_game", "_law_counts_here"]) fun _ _ _ _ _ _ us hl => match us, hl with | [_, _], _ => rfl
  have F23 := fun_mk (st := top 25) l23 c23 k23
  have b23 := F23.binds (ps := ["_law_game", "_law_one_here", "_law_other"]) fun _ _ _ _ _ _ us hl => match us, hl with | [_, _, _], _ => rfl
  have F24 := fun_mk (st := top 26) l24 c24 k24
  refine ⟨PySem.W.fnOf "law" "law" (defArgs (top 26)) (defBody (top 26)) (defScope (top 26)) .none kV24 dc24 pm24 an24 cd24 ct24, fun s v => .of_eq rfl, fun base _ _ => ?_⟩
  have m := fun {x : Str} {f : Addr} (h : PySem.W.nsIn K mainGlobals x = some (some (.ref f))) => PySem.W.mg_of X G h
  have x_ok_pick := DefOk.of F7 (ok_pick F7 T  (P := l.prog) (w := w) (base := base)) (m a7) b7
  have x_ok_flow := DefOk.of F6 (ok_flow F6 T  (P := l.prog) (w := w) (base := base)) (m a6) b6
  have x_ok_name := DefOk.of F9 (ok_name F9 T x_ok_pick (P := l.prog) (w := w) (base := base)) (m a9) b9
  have x_ok_added := DefOk.of F0 (ok_added F0 T  (P := l.prog) (w := w) (base := base)) (m a0) b0
  have x_ok_less := DefOk.of F1 (ok_less F1 T  (P := l.prog) (w := w) (base := base)) (m a1) b1
  have x_ok_key := DefOk.of F11 (ok_key F11 T  (P := l.prog) (w := w) (base := base)) (m a11) b11
  have x_ok_inord := DefOk.of F13 (ok_inord F13 T x_ok_key (P := l.prog) (w := w) (base := base)) (m a13) b13
  have x_ok_counts := DefOk.of F12 (ok_counts F12 T  (P := l.prog) (w := w) (base := base)) (m a12) b12
  have x_ok_some := DefOk.of F15 (ok_some F15 T x_ok_pick x_ok_counts (P := l.prog) (w := w) (base := base)) (m a15) b15
  have x_ok_great := DefOk.of F16 (ok_great F16 T x_ok_pick (P := l.prog) (w := w) (base := base)) (m a16) b16
  have x_ok_names := DefOk.of F10 (ok_names F10 T x_ok_name (P := l.prog) (w := w) (base := base)) (m a10) b10
  have x_ok_al0 := DefOk.of F8 (ok_al0 F8 T  (P := l.prog) (w := w) (base := base)) (m a8) b8
  have x_ok_alS0 := DefOk.of F8 (ok_alS0 F8 T x_ok_al0 (P := l.prog) (w := w) (base := base)) (m a8) b8
  have x_ok_alS1 := DefOk.of F8 (ok_alS1 F8 T x_ok_alS0 (P := l.prog) (w := w) (base := base)) (m a8) b8
  have x_ok_alL := DefOk.of F8 (ok_alL F8 T x_ok_alS1 (P := l.prog) (w := w) (base := base)) (m a8) b8
  have x_ok_moves := DefOk.of F2 (ok_moves F2 T x_ok_less x_ok_added (P := l.prog) (w := w) (base := base)) (m a2) b2
  have x_ok_law_any_sums := DefOk.of F18 (ok_law_any_sums F18 T x_ok_pick x_ok_counts x_ok_inord (P := l.prog) (w := w) (base := base)) (m a18) b18
  have x_ok_law_any_game := DefOk.of F19 (ok_law_any_game F19 T x_ok_pick x_ok_names x_ok_law_any_sums (P := l.prog) (w := w) (base := base)) (m a19) b19
  have x_ok_by := DefOk.of F4 (ok_by F4 T  (P := l.prog) (w := w) (base := base)) (m a4) b4
  have x_ok_plays := DefOk.of F3 (ok_plays F3 T x_ok_by (P := l.prog) (w := w) (base := base)) (m a3) b3
  have x_ok_long := DefOk.of F5 (ok_long F5 T x_ok_by x_ok_plays (P := l.prog) (w := w) (base := base)) (m a5) b5
  have x_ok_lens := DefOk.of F14 (ok_lens F14 T  (P := l.prog) (w := w) (base := base)) (m a14) b14
  have x_ok_law_one := DefOk.of F20 (ok_law_one F20 T  (P := l.prog) (w := w) (base := base)) (m a20) b20
  have x_ok_law_whole := DefOk.of F21 (ok_law_whole F21 T  (P := l.prog) (w := w) (base := base)) (m a21) b21
  have x_ok_law_added := DefOk.of F17 (ok_law_added F17 T  (P := l.prog) (w := w) (base := base)) (m a17) b17
  have x_ok_law_right := DefOk.of F22 (ok_law_right F22 T x_ok_long x_ok_moves x_ok_law_whole (P := l.prog) (w := w) (base := base)) (m a22) b22
  have x_ok_law_holds := DefOk.of F23 (ok_law_holds F23 T x_ok_law_right x_ok_long x_ok_law_added x_ok_lens x_ok_law_one x_ok_al0 (P := l.prog) (w := w) (base := base)) (m a23) b23
  exact ok_law F24 T x_ok_flow x_ok_pick x_ok_law_any_game x_ok_great x_ok_some x_ok_law_right x_ok_law_holds
theorem walk {l : PySem.W.OpenLaw} {q : Program} {loose : List Str} {XP : (Str → Option Value) → Heap → Prop} {YP : World → Heap → Prop} {d : DefRec} {K : Params → PySem.W.Frag} (hn : l.most = some 63) (hdf : d.params.defaults = [])
    (hY : ∀ (w : World) (h : Heap), YP w h → (K w.params).In h)
    (F : ∀ (w : World) (mg : Str → Option Value) (fa : Addr) (h : Heap), (K w.params).In h → h.Ns mainGlobals mg → mg d.name = some (.ref fa) →
      ∃ fd : FuncData, (∀ (s : Shared) (u : Value), BindsTo s fd ⟨[u], []⟩ [("_law_script", u)]) ∧ ∀ base : Heap, (K w.params).In base → base.Ns mainGlobals mg → FnOk l.prog w (K w.params) mg base CX0 7 fa fd ["_law_script"] (upSp (K w.params) spLaw)) :
    PySem.W.WalkO q loose XP YP l.row.toRowW d [] (fun f vs => PySem.call f vs) :=
  L2.walk_of (n := 63) (k := 7) (x := "_law_script") (CX := fun _ => CX0) (sp := fun w => upSp (K w.params) spLaw) hn (by decide) hdf ⟨rfl, by decide, by decide⟩ hY F (fun _ _ a ns hl hO hS => law_sp hO hS) fun _ _ _ _ _ z => z

end KK
open PySem PySem.W PyProof.Rows
set_option maxRecDepth 100000 in
set_option maxHeartbeats 0 in
theorem PySem.Challenge.cw_lastloser_k06_whole_longest_plays_holds : PySem.Challenge.rw_lastloser_k06_whole_longest_plays.Holds := by
  w_on; o_law; k_head; (case hw => w_witness2)
  k_fill
  refine KK.walk (l := PySem.Challenge.rw_lastloser_k06_whole_longest_plays) rfl rfl (fun w h Y => PySem.W.kIn_of Y) ?F
  case F =>
    intro w mg fa h KX G hmg
    refine' KK.all_mk KX G hmg ?a0 ?l0 ?c0 ?k0 ?a1 ?l1 ?c1 ?k1 ?a2 ?l2 ?c2 ?k2 ?a3 ?l3 ?c3 ?k3 ?a4 ?l4 ?c4 ?k4 ?a5 ?l5 ?c5 ?k5 ?a6 ?l6 ?c6 ?k6 ?a7 ?l7 ?c7 ?k7 ?a8 ?l8 ?c8 ?k8 ?a9 ?l9 ?c9 ?k9 ?a10 ?l10 ?c10 ?k10 ?a11 ?l11 ?c11 ?k11 ?a12 ?l12 ?c12 ?k12 ?a13 ?l13 ?c13 ?k13 ?a14 ?l14 ?c14 ?k14 ?a15 ?l15 ?c15 ?k15 ?a16 ?l16 ?c16 ?k16 ?a17 ?l17 ?c17 ?k17 ?a18 ?l18 ?c18 ?k18 ?a19 ?l19 ?c19 ?k19 ?a20 ?l20 ?c20 ?k20 ?a21 ?l21 ?c21 ?k21 ?a22 ?l22 ?c22 ?k22 ?a23 ?l23 ?c23 ?k23 ?a24 ?l24 ?c24 ?k24 ?z_all ?z_bool ?z_dict ?z_enumerate ?z_int ?z_isinstance ?z_len ?z_list ?z_max ?z_min ?z_range ?z_sorted ?z_str ?z_sum ?z_tuple ?z_zip
    (case a0 => k_is)
    (case l0 => k_is)
    (case c0 => k_is)
    (case k0 => k_is)
    (case a1 => k_is)
    (case l1 => k_is)
    (case c1 => k_is)
    (case k1 => k_is)
    (case a2 => k_is)
    (case l2 => k_is)
    (case c2 => k_is)
    (case k2 => k_is)
    (case a3 => k_is)
    (case l3 => k_is)
    (case c3 => k_is)
    (case k3 => k_is)
    (case a4 => k_is)
    (case l4 => k_is)
    (case c4 => k_is)
    (case k4 => k_is)
    (case a5 => k_is)
    (case l5 => k_is)
    (case c5 => k_is)
    (case k5 => k_is)
    (case a6 => k_is)
    (case l6 => k_is)
    (case c6 => k_is)
    (case k6 => k_is)
    (case a7 => k_is)
    (case l7 => k_is)
    (case c7 => k_is)
    (case k7 => k_is)
    (case a8 => k_is)
    (case l8 => k_is)
    (case c8 => k_is)
    (case k8 => k_is)
    (case a9 => k_is)
    (case l9 => k_is)
    (case c9 => k_is)
    (case k9 => k_is)
    (case a10 => k_is)
    (case l10 => k_is)
    (case c10 => k_is)
    (case k10 => k_is)
    (case a11 => k_is)
    (case l11 => k_is)
    (case c11 => k_is)
    (case k11 => k_is)
    (case a12 => k_is)
    (case l12 => k_is)
    (case c12 => k_is)
    (case k12 => k_is)
    (case a13 => k_is)
    (case l13 => k_is)
    (case c13 => k_is)
    (case k13 => k_is)
    (case a14 => k_is)
    (case l14 => k_is)
    (case c14 => k_is)
    (case k14 => k_is)
    (case a15 => k_is)
    (case l15 => k_is)
    (case c15 => k_is)
    (case k15 => k_is)
    (case a16 => k_is)
    (case l16 => k_is)
    (case c16 => k_is)
    (case k16 => k_is)
    (case a17 => k_is)
    (case l17 => k_is)
    (case c17 => k_is)
    (case k17 => k_is)
    (case a18 => k_is)
    (case l18 => k_is)
    (case c18 => k_is)
    (case k18 => k_is)
    (case a19 => k_is)
    (case l19 => k_is)
    (case c19 => k_is)
    (case k19 => k_is)
    (case a20 => k_is)
    (case l20 => k_is)
    (case c20 => k_is)
    (case k20 => k_is)
    (case a21 => k_is)
    (case l21 => k_is)
    (case c21 => k_is)
    (case k21 => k_is)
    (case a22 => k_is)
    (case l22 => k_is)
    (case c22 => k_is)
    (case k22 => k_is)
    (case a23 => k_is)
    (case l23 => k_is)
    (case c23 => k_is)
    (case k23 => k_is)
    (case a24 => k_is)
    (case l24 => k_is)
    (case c24 => k_is)
    (case k24 => k_is)
    (case z_all => k_is)
    (case z_bool => k_is)
    (case z_dict => k_is)
    (case z_enumerate => k_is)
    (case z_int => k_is)
    (case z_isinstance => k_is)
    (case z_len => k_is)
    (case z_list => k_is)
    (case z_max => k_is)
    (case z_min => k_is)
    (case z_range => k_is)
    (case z_sorted => k_is)
    (case z_str => k_is)
    (case z_sum => k_is)
    (case z_tuple => k_is)
    (case z_zip => k_is)
