import PyProof.Rows.All
import Wide.All
import OpenK.AllK
import Wide.FinOn
import Lean
import PyProof.EqAt
import PyProof.EqKinds
import PyProof.TupleCall
import PyProof.Draws
import PyProof.ZipIter
import PyProof.EnumMake
import KE.KSortTup
import PyProof.Rows.Range3
import PyProof.DictWalks
import PyProof.TupleOfStr
import PyProof.CollectIter
import PyProof.ListRange
import PyProof.TupleOfSeq
import PyProof.Rows.SetFrom
import PyProof.Rows.SortShell
import PyProof.SetRoads
import PyProof.MeetsStr
import PyProof.FactsAll.str_5
import PyProof.ExcClass3
import OpenK.KOwn
import KE.KTryMore
import PyProof.RulesAs
import PyProof.ExcAttrAll.ValueError
import PyProof.FactsAll.list_3
import KE.KLam
import KE.KSortKey
import PySem.Challenge.RW_twighall_k40_whole_lightest
set_option Elab.async false
set_option linter.all false
set_option maxRecDepth 100000
set_option maxHeartbeats 4000000
section
namespace L2
open PySem PySem.Spec PyProof.Rows
noncomputable abbrev Key := Sum Int Str
noncomputable def keyIs : Key -> Value -> Bool
 | .inl k, v => Value.isInt k v
 | .inr x, v => Value.isStrOf x v
noncomputable def keyH (w : World) : Key -> Int
 | .inl k => hashInt k
 | .inr x => hashStr w x
theorem keyIs_shape : ∀ {k : Key} {v : Value}, keyIs k v = true -> (∃ i t, k = Sum.inl i /\ v = Value.int i t) \/ (∃ x t, k = Sum.inr x /\ v = Value.str x t)
 | .inl i, v, h => by
  obtain ⟨t, e⟩ := Value.isInt_shape (k := i) (v := v) h
  exact .inl ⟨i, t, rfl, e⟩
 | .inr x, v, h => by
  obtain ⟨t, e⟩ := Value.isStrOf_shape (x := x) (v := v) h
  exact .inr ⟨x, t, rfl, e⟩
theorem keyIs_int (i : Int) (t : Tok) : keyIs (.inl i) (.int i t) = true := by simp [keyIs, Value.isInt]
theorem keyIs_str (x : Str) (t : Tok) : keyIs (.inr x) (.str x t) = true := by simp [keyIs, Value.isStrOf]
theorem key_ll (a b : Int) : decide ((Sum.inl a : Key) = Sum.inl b) = (a == b) := by
 by_cases e : a = b
 ·subst e; simp
 ·have h : ¬ (Sum.inl a : Key) = Sum.inl b := fun q => e (Sum.inl.inj q)
  rw [decide_eq_false h]
  exact (beq_eq_false_iff_ne.mpr e).symm
theorem key_rr (a b : Str) : decide ((Sum.inr a : Key) = Sum.inr b) = decide (a = b) := by
 by_cases e : a = b
 ·subst e; simp
 ·have h : ¬ (Sum.inr a : Key) = Sum.inr b := fun q => e (Sum.inr.inj q)
  rw [decide_eq_false h, decide_eq_false e]
theorem key_lr (a : Int) (b : Str) : decide ((Sum.inl a : Key) = Sum.inr b) = false := decide_eq_false (fun q => nomatch q)
theorem key_rl (a : Str) (b : Int) : decide ((Sum.inr a : Key) = Sum.inl b) = false := decide_eq_false (fun q => nomatch q)
noncomputable def mixKind (prog : Program) (w : World) : PySem.KeyKind prog w Key where
 is := keyIs
 hash := keyH w
 inj := fun v a b ha hb => by
  rcases keyIs_shape ha with ⟨i, t, rfl, rfl⟩ | ⟨x, t, rfl, rfl⟩
  ·rcases keyIs_shape hb with ⟨j, u, rfl, e⟩ | ⟨y, u, rfl, e⟩
   ·injection e with e1 _; rw [e1]
   ·exact nomatch e
  ·rcases keyIs_shape hb with ⟨j, u, rfl, e⟩ | ⟨y, u, rfl, e⟩
   ·exact nomatch e
   ·injection e with e1 _; rw [e1]
 byValue := fun k v h => by
  rcases keyIs_shape h with ⟨i, t, rfl, rfl⟩ | ⟨x, t, rfl, rfl⟩ <;> rfl
 pyHash := fun hv h => by
  rcases keyIs_shape hv with ⟨i, t, rfl, rfl⟩ | ⟨x, t, rfl, rfl⟩
  ·exact wpAny_pyHash_int h
  ·exact wpAny_pyHash_str h
 eqBool := fun hu hv h => by
  rcases keyIs_shape hu with ⟨i, t, rfl, rfl⟩ | ⟨x, t, rfl, rfl⟩
  ·rcases keyIs_shape hv with ⟨j, u, rfl, rfl⟩ | ⟨y, u, rfl, rfl⟩
   ·rw [key_ll] at h; exact wpAny_eqBool_int h
   ·rw [key_lr] at h; exact SeqAt.EqAt.int_str i t y u _ _ _ _ h
  ·rcases keyIs_shape hv with ⟨j, u, rfl, rfl⟩ | ⟨y, u, rfl, rfl⟩
   ·rw [key_rl] at h; exact SeqAt.EqAt.str_int x t j u _ _ _ _ h
   ·rw [key_rr] at h; exact wpAny_eqBool_str h
 «strs» := fun k x t v h => by
  rcases keyIs_shape h with ⟨i, u, rfl, e⟩ | ⟨y, u, rfl, e⟩
  ·exact nomatch e
  ·injection e with e1 _
   subst e1
   cases v <;> rfl
theorem mixKind_int (prog : Program) (w : World) (i : Int) (t : Tok) : (mixKind prog w).is (.inl i) (.int i t) = true := keyIs_int i t
theorem mixKind_str (prog : Program) (w : World) (x : Str) (t : Tok) : (mixKind prog w).is (.inr x) (.str x t) = true := keyIs_str x t
end L2
namespace L2
open PySem PySem.Spec PyProof.Rows
inductive V where
 | non | bl (b : Bool) | int (i : Int) | str (x : Str) | byt (b : Array UInt8) | flt (b : UInt64) | ref (a : Addr) | ty (n : String)
 deriving DecidableEq
noncomputable def RelV : V -> Value -> Prop
 | .non, u => u = Value.none
 | .bl b, u => u = Value.bool b
 | .int i, u => ∃ t, u = Value.int i t
 | .str x, u => ∃ t, u = Value.str x t
 | .byt b, u => ∃ t, u = Value.bytes b t
 | .flt b, u => ∃ t, u = Value.float b t
 | .ref a, u => u = Value.ref a
 | .ty n, u => u = Value.type n
noncomputable abbrev Vals : List V -> List Value -> Prop := Paired RelV
theorem Vals.length {xs : List V} {us : List Value} (r : Vals xs us) : xs.length = us.length := Paired.length r
theorem Vals.get : ∀ {xs : List V} {us : List Value} {i : Nat} {x : V}, Vals xs us -> xs[i]? = some x -> ∃ u, us[i]? = some u /\ RelV x u
 | _, _, _, _, .nil, e => by simp at e
 | _, _, 0, _, .cons r _, e => by simp at e; subst e; exact ⟨_, rfl, r⟩
 | _, _, i + 1, x, .cons _ t, e => by
  obtain ⟨u, h1, h2⟩ := Vals.get (i := i) (x := x) t (by simpa using e)
  exact ⟨u, by simpa using h1, h2⟩
theorem Vals.append : ∀ {xs ys : List V} {us ws : List Value}, Vals xs us -> Vals ys ws -> Vals (xs ++ ys) (us ++ ws)
 | _, _, _, _, .nil, s => s
 | _, _, _, _, .cons r t, s => .cons r (Vals.append t s)
theorem Vals.take : ∀ {xs : List V} {us : List Value} (n : Nat), Vals xs us -> Vals (xs.take n) (us.take n)
 | _, _, 0, _ => .nil
 | _, _, _ + 1, .nil => .nil
 | _, _, n + 1, .cons r t => .cons r (Vals.take n t)
theorem Vals.drop : ∀ {xs : List V} {us : List Value} (n : Nat), Vals xs us -> Vals (xs.drop n) (us.drop n)
 | _, _, 0, r => r
 | _, _, _ + 1, .nil => .nil
 | _, _, n + 1, .cons _ t => Vals.drop n t
noncomputable def RelO : Option V -> Option Value -> Prop
 | some v, some u => RelV v u
 | none, none => True
 | _, _ => False
noncomputable def KV {κ : Type} : List (κ × V) -> List (κ × Value) -> Prop := Paired fun (p : κ × V) (q : κ × Value) => p.1 = q.1 /\ RelV p.2 q.2
noncomputable def kV : Key -> V
 | .inl i => .int i
 | .inr x => .str x
inductive HO where
 | lst (xs : List V)
 | tup (xs : List V)
 | dK (kvs : List (Key × V)) | dT (kvs : List (List Key × V))
 | set (S : Int -> Bool) (n : Nat)
 | ins (C dx : Addr) (fs : List (Str × V))
 | own (x : Addr)
 | xd (fs : List (Str × V))
 | met (f x : Addr)
 | rng (lo hi : Int)
 | frz (o : Obj) (u : HO)
 | tbl (ps : Array Value)
 | ext (φ : (Addr -> Prop) -> Heap -> Prop)
noncomputable abbrev Hp := Addr -> Option HO
noncomputable def upd (H : Hp) (a : Addr) (o : HO) : Hp := fun b => if b = a then some o else H b
theorem upd_same {H : Hp} {a : Addr} {o : HO} : upd H a o a = some o := by unfold upd; rw [if_pos rfl]
theorem upd_ne {H : Hp} {a b : Addr} {o : HO} (h : b ≠ a) : upd H a o b = H b := by unfold upd; rw [if_neg h]
theorem ne_of {H : Hp} {a b : Addr} {o u : HO} (h : H a = some o) (h' : H b = some u) (d : o ≠ u) : a ≠ b := by
 intro e; subst e; rw [h] at h'; exact d (Option.some.inj h')
theorem ne_of_none {H : Hp} {a b : Addr} {o : HO} (h : H a = some o) (h' : H b = none) : a ≠ b := by
 intro e; subst e; rw [h] at h'; cases h'
section
variable (P : Program) (w : World)
noncomputable def ObjOk (H : Hp) (h : Heap) (a : Addr) : HO -> Prop
 | .lst xs => xs.length <= sizeLine /\ ∃ (its : List Value) (n : Nat), Vals xs its /\ h.get? a = some { cls := .type "list", data := .seq its.toArray n }
 | .tup xs => xs.length <= sizeLine /\ ∃ its : List Value, Vals xs its /\ IsTup h a its.toArray
 | .dK kvs => kvs.length <= sizeLine /\ (a == sysModules) = false /\ ∃ vs, KV kvs vs /\ h.DictOf (mixKind P w) a vs
 | .dT kvs => kvs.length <= sizeLine /\ (a == sysModules) = false /\ ∃ xs : List (List Key × Addr × Value),
   Paired (fun (p : List Key × V) (q : List Key × Addr × Value) => p.1 = q.1 /\ H q.2.1 = some (.tup (p.1.map kV)) /\ RelV p.2 q.2.2) kvs xs /\
   ∃ o es ep, h.get? a = some o /\ o.ExactDict /\ o.data = .dict es ep /\ es.toList = xs.map (entryOfKey (tupleKind (mixKind P w))) /\ (xs.map (·.1)).Nodup
 | .set S n => h.SetOf (intKind P w) a S n
 | .ins C dx fs => H dx = some (.own a) /\ fs.length <= 1000 /\ dx ≠ a /\ h.get? a = some (PySem.W.instObj C dx) /\
   ∃ mA, h.Ns1 dx mA /\ (∀ f, RelO (fs.lookup f) (mA f)) /\ PySem.Within mA (fs.map (·.1))
 | .own _ => ∃ o, h.get? a = some o
 | .xd fs => ∃ mA, h.Ns1 a mA /\ ∀ f, RelO (fs.lookup f) (mA f)
 | .rng lo hi => ∃ t u v, h.get? a = some { cls := .type "range", data := .fields #[.int lo t, .int hi u, .int 1 v] }
 | .frz o u => h.get? a = some o /\ ObjOk H h a u
 | .tbl ps => h.get? a = some { cls := .none, data := .fields ps }
 | .met f x => h.get? a = some (PySem.W.methodObj (.ref f) (.ref x))
 | .ext φ => φ (fun b => H b = some (.own a)) h /\ (∃ o, h.get? a = some o) /\ ∀ (S1 S2 : Addr -> Prop) (h1 h2 : Heap), φ S1 h1 -> (∀ b, S1 b -> S2 b) -> (∀ b o, (b = a \/ S1 b) -> h1.get? b = some o -> h2.get? b = some o) -> φ S2 h2
noncomputable def HOk (H : Hp) (h : Heap) : Prop := ∀ a o, H a = some o -> ObjOk P w H h a o
end
section
variable {P : Program} {w : World} {H H' : Hp} {h h' : Heap} {a : Addr} {o : HO}
theorem ObjOk.lt (x : ObjOk P w H h a o) : a < h.objs.size := by
 cases o with
 | lst xs => obtain ⟨_, _, _, _, e⟩ := x; exact Heap.lt_size e
 | tup xs => obtain ⟨_, _, _, p⟩ := x; exact p.lt
 | dK kvs => obtain ⟨_, _, _, _, o, _, _, e, _⟩ := x; exact Heap.lt_size e
 | dT kvs => obtain ⟨_, _, _, _, o, _, _, e, _⟩ := x; exact Heap.lt_size e
 | set S n => obtain ⟨o, _, _, _, e, _⟩ := x; exact Heap.lt_size e
 | ins C dx fs => obtain ⟨_, _, _, e, _⟩ := x; exact Heap.lt_size e
 | own y => obtain ⟨_, e⟩ := x; exact Heap.lt_size e
 | xd fs => obtain ⟨_, ⟨_, _, _, e, _⟩, _⟩ := x; exact Heap.lt_size e
 | rng lo hi => obtain ⟨_, _, _, e⟩ := x; exact Heap.lt_size e
 | frz ob u => obtain ⟨e, _⟩ := x; exact Heap.lt_size e
 | tbl ps => exact Heap.lt_size (show h.get? a = some _ from x)
 | met f y => exact Heap.lt_size (show h.get? a = some _ from x)
 | ext φ => obtain ⟨_, ⟨_, e⟩, _⟩ := x; exact Heap.lt_size e
theorem Paired.mapP {α β : Type} {F G : α -> β -> Prop} : ∀ {l₁ : List α} {l₂ : List β}, Paired F l₁ l₂ -> (∀ a b, F a b -> G a b) -> Paired G l₁ l₂
 | _, _, .nil, _ => .nil
 | _, _, .cons r t, f => .cons (f _ _ r) (Paired.mapP t f)
theorem ObjOk.stay (x : ObjOk P w H h a o) (k : ∀ b u, (b = a \/ H b = some (.own a)) -> h.get? b = some u -> h'.get? b = some u)
  (ho : ∀ b, H b = some (.own a) -> H' b = some (.own a)) (ht : ∀ b xs, H b = some (.tup xs) -> H' b = some (.tup xs)) : ObjOk P w H' h' a o := by
 induction o with
 | lst xs => obtain ⟨z, its, n, r, e⟩ := x; exact ⟨z, its, n, r, k _ _ (.inl rfl) e⟩
 | tup xs => obtain ⟨z, its, r, ob, e, c⟩ := x; exact ⟨z, its, r, ob, k _ _ (.inl rfl) e, c⟩
 | dK kvs => obtain ⟨z, y, vs, r, ob, es, ep, e, c⟩ := x; exact ⟨z, y, vs, r, ob, es, ep, k _ _ (.inl rfl) e, c⟩
 | dT kvs =>
  obtain ⟨z, y, xs, r, ob, es, ep, e, c⟩ := x
  exact ⟨z, y, xs, Paired.mapP r fun p q z => ⟨z.1, ht _ _ z.2.1, z.2.2⟩, ob, es, ep, k _ _ (.inl rfl) e, c⟩
 | set S n => obtain ⟨ob, es, ep, t, e, c⟩ := x; exact ⟨ob, es, ep, t, k _ _ (.inl rfl) e, c⟩
 | ins C dx fs =>
  obtain ⟨d, z, ne, e, mA, ⟨od, es, ep, e2, c⟩, r⟩ := x
  exact ⟨ho _ d, z, ne, k _ _ (.inl rfl) e, mA, ⟨od, es, ep, k _ _ (.inr d) e2, c⟩, r⟩
 | own y => obtain ⟨ob, e⟩ := x; exact ⟨ob, k _ _ (.inl rfl) e⟩
 | xd fs => obtain ⟨mA, ⟨od, es, ep, e, c⟩, r⟩ := x; exact ⟨mA, ⟨od, es, ep, k _ _ (.inl rfl) e, c⟩, r⟩
 | rng lo hi => obtain ⟨t, u, v, e⟩ := x; exact ⟨t, u, v, k _ _ (.inl rfl) e⟩
 | frz ob u ih => obtain ⟨e, q⟩ := x; exact ⟨k _ _ (.inl rfl) e, ih q⟩
 | tbl ps =>
  have e : h.get? a = some { cls := .none, data := .fields ps } := x
  show h'.get? a = some { cls := .none, data := .fields ps }
  exact k a _ (.inl rfl) e
 | met f y =>
  have e : h.get? a = some (PySem.W.methodObj (.ref f) (.ref y)) := x
  show h'.get? a = some (PySem.W.methodObj (.ref f) (.ref y))
  exact k a _ (.inl rfl) e
 | ext φ => obtain ⟨p, ⟨o, e⟩, st⟩ := x; exact ⟨st _ _ _ _ p (fun b q => ho b q) (fun b o hb q => k b o hb q), ⟨o, k _ _ (.inl rfl) e⟩, st⟩
theorem HOk.lt (x : HOk P w H h) (e : H a = some o) : a < h.objs.size := (x a o e).lt
theorem HOk.fresh (x : HOk P w H h) (e : h.objs.size <= a) : H a = none := by
 cases q : H a with
 | none => rfl
 | some u => exact absurd (Nat.lt_of_lt_of_le (x.lt q) e) (Nat.lt_irrefl _)
theorem HOk.kept (x : HOk P w H h) (k : ∀ b u, h.get? b = some u -> h'.get? b = some u) : HOk P w H h' := fun a o e =>
 (x a o e).stay (fun b u _ q => k b u q) (fun _ q => q) fun _ _ q => q
theorem HOk.laid (x : HOk P w H h) (k : ∀ b u, h.get? b = some u -> h'.get? b = some u) (hp : h.objs.size <= a) (new : ObjOk P w (upd H a o) h' a o) : HOk P w (upd H a o) h' := fun b u e => by
 have hn := x.fresh hp
 by_cases hb : b = a
 ·subst hb; rw [upd_same] at e; cases e; exact new
 ·rw [upd_ne hb] at e
  exact (x b u e).stay (fun c v _ q => k c v q) (fun c q => by rw [upd_ne (ne_of_none q hn)]; exact q) fun c xs q => by rw [upd_ne (ne_of_none q hn)]; exact q
end
noncomputable def Rd (H : Hp) (a : Addr) (u : HO) : Prop := H a = some u \/ ∃ o, H a = some (.frz o u)
theorem Rd.ok {P : Program} {w : World} {H : Hp} {h : Heap} {a : Addr} {u : HO} (r : Rd H a u) (x : HOk P w H h) : ObjOk P w H h a u := by
 rcases r with r | ⟨o, r⟩
 ·exact x a u r
 ·obtain ⟨_, q⟩ := x a _ r
  exact q
noncomputable def Mut : Option HO -> Prop
 | some (.lst _) => True
 | some (.dK _) => True
 | some (.dT _) => True
 | some (.set _ _) => True
 | some (.ins _ _ _) => True
 | some (.ext _) => True
 | _ => False
section
variable {P : Program} {w : World} {H : Hp} {h h' : Heap} {x e : Addr} {o' : HO}
theorem HOk.write (ok : HOk P w H h) (mu : Mut (H x)) (he : e = x \/ H e = some (.own x)) (k : ∀ b u, b ≠ e -> h.get? b = some u -> h'.get? b = some u) (heo : ∃ u, h'.get? e = some u)
  (new : ObjOk P w (upd H x o') h' x o') : HOk P w (upd H x o') h' := fun b u q => by
 have nown : ∀ c y, H c = some (.own y) -> c ≠ x := fun c y r z => by subst z; rw [r] at mu; exact mu
 have ntup : ∀ c xs, H c = some (.tup xs) -> c ≠ x := fun c xs r z => by subst z; rw [r] at mu; exact mu
 by_cases hb : b = x
 ·subst hb; rw [upd_same] at q; cases q; exact new
 ·rw [upd_ne hb] at q
  by_cases hbe : b = e
  ·have q' : H b = some (.own x) := by
    rcases he with z | z
    ·exact absurd (hbe.trans z) hb
    ·rw [hbe]; exact z
   rw [q] at q'; cases q'
   obtain ⟨v, hv⟩ := heo
   exact ⟨v, by rw [hbe]; exact hv⟩
  ·refine (ok b u q).stay (fun c v hc r => k c v ?_ r) (fun c r => by rw [upd_ne (nown c b r)]; exact r) fun c xs r => by rw [upd_ne (ntup c xs r)]; exact r
   rcases hc with rfl | hc
   ·exact hbe
   ·rintro rfl
    rcases he with z | z
    ·exact nown c b hc z
    ·rw [hc] at z; cases z; exact hb rfl
end
structure Un (fs ex : List Addr) (H H' : Hp) (h h' : Heap) : Prop where
 keep : ∀ b o, h.get? b = some o -> H b = none -> b ∉ fs -> b ∉ ex -> h'.get? b = some o
 slot : ∀ b o, h.get? b = some o -> H b = none -> b ∈ fs -> b ∉ ex -> ∃ sl, h'.get? b = some { o with slots := sl }
 free : ∀ b o, h.get? b = some o -> H b = none -> b ∉ ex -> H' b = none
 there : ∀ b o, h.get? b = some o -> b ∉ ex -> ∃ o', h'.get? b = some o'
 tups : ∀ b xs, H b = some (.tup xs) -> H' b = some (.tup xs)
 frzs : ∀ b o u, H b = some (.frz o u) -> H' b = some (.frz o u)
 tbls : ∀ b ps, H b = some (.tbl ps) -> ∃ more, H' b = some (.tbl (ps ++ more))
section
variable {fs fs' ex ex' : List Addr} {H H1 H2 : Hp} {h h1 h2 h' : Heap} {a x e : Addr} {o : HO}
theorem Un.any (u : Un fs ex H H1 h h1) {b : Addr} {ob : Obj} (q : h.get? b = some ob) (n : H b = none) (hx : b ∉ ex) : ∃ sl, h1.get? b = some { ob with slots := sl } := by
 by_cases hb : b ∈ fs
 ·exact u.slot b ob q n hb hx
 ·exact ⟨ob.slots, u.keep b ob q n hb hx⟩
theorem Un.kept (k : ∀ b u, h.get? b = some u -> h'.get? b = some u) : Un fs ex H H h h' :=
 ⟨fun b ob q _ _ _ => k b ob q, fun b ob q _ _ _ => ⟨ob.slots, k b ob q⟩, fun _ _ _ n _ => n, fun b ob q _ => ⟨ob, k b ob q⟩, fun _ _ q => q, fun _ _ _ q => q, fun _ ps q => ⟨#[], by rw [q]; simp⟩⟩
theorem Un.refl : Un fs ex H H h h := Un.kept fun _ _ q => q
theorem Un.laid (k : ∀ b u, h.get? b = some u -> h'.get? b = some u) (hp : h.objs.size <= a) (hn : H a = none) : Un fs ex H (upd H a o) h h' where
 keep := fun b u q _ _ _ => k b u q
 slot := fun b u q _ _ _ => ⟨u.slots, k b u q⟩
 free := fun b u q n _ => by rw [upd_ne (Nat.ne_of_lt (Nat.lt_of_lt_of_le (Heap.lt_size q) hp))]; exact n
 there := fun b u q _ => ⟨u, k b u q⟩
 tups := fun b xs q => by rw [upd_ne (ne_of_none q hn)]; exact q
 frzs := fun b u xs q => by rw [upd_ne (ne_of_none q hn)]; exact q
 tbls := fun b ps q => ⟨#[], by rw [upd_ne (ne_of_none q hn), q]; simp⟩
theorem Un.write (mu : Mut (H x)) (he : e = x \/ H e = some (.own x)) (k : ∀ b u, b ≠ e -> h.get? b = some u -> h'.get? b = some u) (heo : ∃ u, h'.get? e = some u) : Un fs ex H (upd H x o) h h' := by
 have hx : ∀ b, H b = none -> b ≠ x := fun b n z => by subst z; rw [n] at mu; exact mu
 have hb : ∀ b, H b = none -> b ≠ e := fun b n z => by
  subst z
  rcases he with r | r
  ·exact hx b n r
  ·rw [n] at r; cases r
 have hm : ∀ b u, H b = some u -> ¬ Mut (some u) -> b ≠ x := fun b u q nm z => by subst z; rw [q] at mu; exact nm mu
 refine ⟨fun b u q n _ _ => k b u (hb b n) q, fun b u q n _ _ => ⟨u.slots, k b u (hb b n) q⟩, fun b u q n _ => by rw [upd_ne (hx b n)]; exact n, fun b u q _ => ?_,
  fun b xs q => by rw [upd_ne (hm b _ q fun z => z)]; exact q, fun b u xs q => by rw [upd_ne (hm b _ q fun z => z)]; exact q, fun b ps q => ⟨#[], by rw [upd_ne (hm b _ q fun z => z), q]; simp⟩⟩
 by_cases hbe : b = e
 ·subst hbe; exact heo
 ·exact ⟨u, k b u hbe q⟩
end
noncomputable def trk (h : Heap) (H : Hp) : List Addr := (List.range h.objs.size).filter fun a => (H a).isSome
noncomputable def hidT (h : Heap) (H : Hp) : Heap := PySem.W.hideAll h (trk h H)
theorem hidT_size (h : Heap) (H : Hp) : (hidT h H).objs.size = h.objs.size := PySem.W.hideAll_size _ _
theorem hidT_get {h : Heap} {H : Hp} {b : Addr} {o : Obj} (e : h.get? b = some o) (n : H b = none) : (hidT h H).get? b = some o :=
 PySem.W.hideAll_get _ e fun hm => by
  have q : (H b).isSome = true := (List.mem_filter.mp hm).2
  rw [n] at q; simp at q
theorem of_hidT {h : Heap} {H : Hp} {b : Addr} {o : Obj} (e : (hidT h H).get? b = some o) : h.get? b = some o /\ H b = none := by
 have e' : h.get? b = some o := PySem.W.of_hideAll (trk h H) e
 refine ⟨e', ?_⟩
 cases q : H b with
 | none => rfl
 | some x =>
  have hm : b ∈ trk h H := List.mem_filter.mpr ⟨List.mem_range.mpr (Heap.lt_size e'), by simp [q]⟩
  have z : (hidT h H).get? b = none := PySem.W.hideAll_none (trk h H) hm
  rw [z] at e; cases e
end L2
namespace L2
open PySem PySem.Spec PyProof.Rows
structure Mod (K : PySem.W.Frag) (mg : Str -> Option Value) (base : Heap) : Prop where
 kin : K.In base
 glob : base.Ns mainGlobals mg
 blt : ∃ mb, base.Ns builtinsNs mb /\ ∀ x : Str, x ≠ "__name__" -> mb x = bootBuiltins x
 nolimit : base.NoLimit
structure Cx where
 prog : Program
 w : World
 K : PySem.W.Frag
 mg : Str -> Option Value
 base : Heap
 A : Around
 N : List Str
 s₀ : Shared
 H₀ : Hp
 env : Env
 outer : List Env
 stack : List Env
 ex : List Addr
 fn : Str -> Bool
 calm : Bool
 pn : List (Addr × Obj)
 xe : Value -> Shared -> Prop
noncomputable def frs (l : List Env) : List Addr := l.filterMap (·.frame)
noncomputable abbrev Cx.fs (X : Cx) : List Addr := frs X.outer
noncomputable def Vis (sc : Scope) (x : Str) : Prop := sc.names.lookup x = some .local \/ sc.names.lookup x = some .cell \/ sc.names.lookup x = some .free
noncomputable def Loc (sc : Scope) (x : Str) : Prop := sc.names.lookup x = some .local \/ sc.names.lookup x = some .cell
noncomputable def Look (env : Env) (h : Heap) (m : Str -> Option Value) (x : Str) (u : Value) : Prop :=
 (env.kindOf x = some .local /\ m x = some u) \/ ((env.kindOf x = some .cell \/ env.kindOf x = some .free) /\ ∃ c, env.cells.lookup x = some c /\ h.IsCell c (some u))
structure Cx.Ok (X : Cx) : Prop where
 mod : Mod X.K X.mg X.base
 kind : X.env.scope.kind = .function
 glob : X.env.globals = mainGlobals
 blt : X.env.builtins = builtinsNs
 above : X.s₀.heap.objs.size <= X.env.locals
 inj : ∀ x y c, X.env.cells.lookup x = some c -> X.env.cells.lookup y = some c -> x = y
 has : ∀ x, (X.env.kindOf x = some .cell \/ X.env.kindOf x = some .free) -> ∃ c, X.env.cells.lookup x = some c
 cab : ∀ x c, X.fn x = true -> X.env.cells.lookup x = some c -> X.s₀.heap.objs.size <= c
 hd : X.calm = true -> X.A.handled = none
 frames : X.A.frames = some X.stack
 stk : X.stack = X.outer \/ (X.stack = X.env :: X.outer /\ X.env.frame = some X.env.locals)
 exf : ∀ b ∈ X.ex, b ≠ X.env.locals /\ ∀ x c, X.env.cells.lookup x = some c -> c ≠ b
 bs : ∀ b o, X.base.get? b = some o -> X.s₀.heap.get? b = some o /\ X.H₀ b = none
 bsz : X.base.objs.size <= X.s₀.heap.objs.size
 noex : ∀ b o, X.base.get? b = some o -> b ∉ X.ex
 exfs : ∀ b ∈ X.ex, b ∉ X.fs
 funs : X.s₀.heap.FunFrames X.base X.outer
 frf : ∀ b ∈ X.fs, X.H₀ b = none
structure Inv (X : Cx) (pins : List (Addr × Obj)) (σ : List (Option V)) (H : Hp) (s : Shared) : Prop where
 ok : X.Ok
 os : s.os = X.s₀.os
 bare : AllBare s.gens
 base : Un X.fs X.ex X.H₀ H X.s₀.heap s.heap
 loc : ∃ m, s.heap.Ns X.env.locals m /\ ∀ (i : Nat) (x : Str) (v : V), X.N[i]? = some x -> σ[i]? = some (some v) -> Vis X.env.scope x -> ∃ u, RelV v u /\ Look X.env s.heap m x u
 cell : ∀ x c, X.env.cells.lookup x = some c -> ∃ v, s.heap.IsCell c v
 free : H X.env.locals = none
 freeC : ∀ x c, X.env.cells.lookup x = some c -> H c = none
 pin : ∀ p ∈ X.pn ++ pins, s.heap.get? p.1 = some p.2 /\ H p.1 = none /\ p.1 ≠ X.env.locals /\ p.1 ∉ X.fs /\ ∀ v, p.2.data ≠ .cell v
 hok : HOk X.prog X.w H s.heap
 len : σ.length = X.N.length
section
variable {X : Cx} {pins : List (Addr × Obj)} {σ : List (Option V)} {H H' : Hp} {s : Shared} {h' : Heap}
theorem Cx.Ok.nofr (ok : X.Ok) {b : Addr} {o : Obj} (e : X.base.get? b = some o) : b ∉ X.fs := fun hb => by
 have := (ok.funs.mem hb).1
 rw [e] at this; cases this
theorem Inv.bs (I : Inv X pins σ H s) : ∀ b o, X.base.get? b = some o -> s.heap.get? b = some o /\ H b = none := fun b o e =>
 ⟨I.base.keep b o (I.ok.bs b o e).1 (I.ok.bs b o e).2 (I.ok.nofr e) (I.ok.noex b o e), I.base.free b o (I.ok.bs b o e).1 (I.ok.bs b o e).2 (I.ok.noex b o e)⟩
theorem Inv.bk (I : Inv X pins σ H s) : ∀ b o, X.base.get? b = some o -> s.heap.get? b = some o := fun b o e => (I.bs b o e).1
theorem Inv.mod (I : Inv X pins σ H s) : Mod X.K X.mg X.base := I.ok.mod
theorem Inv.kIn (I : Inv X pins σ H s) : X.K.In s.heap := I.ok.mod.kin.keeps I.bk
theorem Inv.nolimit (I : Inv X pins σ H s) : s.heap.NoLimit := I.ok.mod.nolimit.keeps I.bk
theorem Inv.lt (I : Inv X pins σ H s) : X.env.locals < s.heap.objs.size := let ⟨_, hn, _⟩ := I.loc; hn.lt
theorem Inv.sz (I : Inv X pins σ H s) : X.s₀.heap.objs.size <= s.heap.objs.size := Nat.le_trans I.ok.above (Nat.le_of_lt I.lt)
theorem Inv.nofs (I : Inv X pins σ H s) {a : Addr} (h : s.heap.objs.size <= a) : a ∉ X.fs := fun hb => by
 obtain ⟨_, o, ho, _⟩ := I.ok.funs.mem hb
 exact absurd (Nat.lt_of_lt_of_le (Heap.lt_size ho) (Nat.le_trans I.sz h)) (Nat.lt_irrefl _)
theorem Inv.cne (I : Inv X pins σ H s) : ∀ x c, X.env.cells.lookup x = some c -> c ≠ X.env.locals := fun x c e z => by
 obtain ⟨v, o, ho, hd⟩ := I.cell x c e
 obtain ⟨m, ⟨o', es, ep, ho', hd', _⟩, _⟩ := I.loc
 rw [z, ho'] at ho; cases ho; rw [hd'] at hd; cases hd
theorem Inv.funs (I : Inv X pins σ H s) : s.heap.FunFrames X.base X.outer := by
 have all : ∀ (l : List Env), (∀ b ∈ frs l, b ∈ X.fs) -> X.s₀.heap.FunFrames X.base l -> s.heap.FunFrames X.base l := by
  intro l
  induction l with
  | nil => intro _ _; trivial
  | cons env r ih =>
   intro hs hl
   obtain ⟨hk, ⟨L, o, hf, hn, ho, hd⟩, hr⟩ := hl
   have hL : L ∈ X.fs := hs L (by unfold frs; rw [List.filterMap_cons, hf]; exact List.mem_cons_self)
   obtain ⟨sl, e⟩ := I.base.slot L o ho (I.ok.frf L hL) hL fun z => I.ok.exfs L z hL
   exact ⟨hk, ⟨L, _, hf, hn, e, hd⟩, ih (fun b hb => hs b (by unfold frs; rw [List.filterMap_cons, hf]; exact List.mem_cons_of_mem _ hb)) hr⟩
 exact all X.outer (fun _ hb => hb) I.ok.funs
theorem Inv.stack (I : Inv X pins σ H s) : s.heap.FunFrames X.base X.stack := by
 rcases I.ok.stk with e | ⟨e, hf⟩
 ·rw [e]; exact I.funs
 ·rw [e]
  obtain ⟨m, hn, _⟩ := I.loc
  refine .cons (by rw [I.ok.kind]; decide) hf hn ?_ I.funs
  exact Heap.get?_none_of_le (Nat.le_trans I.ok.bsz I.ok.above)
theorem Inv.stkSub (I : Inv X pins σ H s) : ∀ b ∈ frs X.stack, b ∈ X.env.locals :: X.fs := fun b hb => by
 rcases I.ok.stk with e | ⟨e, hf⟩
 ·rw [e] at hb; exact List.mem_cons_of_mem _ hb
 ·rw [e] at hb
  unfold frs at hb
  rw [List.filterMap_cons, hf] at hb
  exact hb
theorem Inv.stkFree (I : Inv X pins σ H s) : ∀ b ∈ frs X.stack, H b = none := fun b hb => by
 rcases List.mem_cons.mp (I.stkSub b hb) with e | hb
 ·rw [e]; exact I.free
 ·obtain ⟨_, o, ho, _⟩ := I.ok.funs.mem hb
  exact I.base.free b o ho (I.ok.frf b hb) fun z => I.ok.exfs b z hb
theorem Inv.step {g' : Array GenState} {t' : Nat} {d' : Drawn} {ch : List Addr} (I : Inv X pins σ H s)
  (hch : ∀ b ∈ ch, (b ∈ X.ex \/ X.s₀.heap.objs.size <= b) /\ b ≠ X.env.locals /\ (∀ x c, X.env.cells.lookup x = some c -> c ≠ b) /\ ∀ p ∈ X.pn ++ pins, p.1 ≠ b)
  (keep : ∀ b o, b ≠ X.env.locals -> b ∉ X.fs -> b ∉ ch -> s.heap.get? b = some o -> H b = none -> h'.get? b = some o)
  (slot : ∀ b o, b ≠ X.env.locals -> b ∈ X.fs -> b ∉ ch -> s.heap.get? b = some o -> H b = none -> ∃ sl, h'.get? b = some { o with slots := sl }) (free : ∀ b o, b ∉ ch -> s.heap.get? b = some o -> H b = none -> H' b = none)
  (there : ∀ b o, b ∉ ch -> s.heap.get? b = some o -> ∃ o', h'.get? b = some o')
  (tups : ∀ b xs, H b = some (.tup xs) -> H' b = some (.tup xs)) (frzs : ∀ b o u, H b = some (.frz o u) -> H' b = some (.frz o u)) (tbls : ∀ b ps, H b = some (.tbl ps) -> ∃ more, H' b = some (.tbl (ps ++ more)))
  (ns : ∀ m, s.heap.Ns X.env.locals m -> h'.Ns X.env.locals m) (hok : HOk X.prog X.w H' h') (hg : AllBare g') :
  Inv X pins σ H' { s with heap := h', gens := g', drawn := d', toks := t' } := by
 have neL : ∀ b o, X.s₀.heap.get? b = some o -> b ≠ X.env.locals := fun b o e => Nat.ne_of_lt (Nat.lt_of_lt_of_le (Heap.lt_size e) I.ok.above)
 have neC : ∀ b o, X.s₀.heap.get? b = some o -> b ∉ X.ex -> b ∉ ch := fun b o e hx hb => by
  rcases (hch b hb).1 with z | z
  ·exact hx z
  ·exact absurd (Nat.lt_of_lt_of_le (Heap.lt_size e) z) (Nat.lt_irrefl _)
 have cellK : ∀ x c, X.env.cells.lookup x = some c -> ∀ v, s.heap.IsCell c v -> h'.IsCell c v := fun x c e v ⟨o, ho, hd⟩ => by
  have nch : c ∉ ch := fun z => (hch c z).2.2.1 x c e rfl
  by_cases hc : c ∈ X.fs
  ·obtain ⟨sl, q⟩ := slot c o (I.cne x c e) hc nch ho (I.freeC x c e)
   exact ⟨_, q, hd⟩
  ·exact ⟨o, keep c o (I.cne x c e) hc nch ho (I.freeC x c e), hd⟩
 refine ⟨I.ok, I.os, hg, ⟨fun b o e n hb hx => ?_, fun b o e n hb hx => ?_, fun b o e n hx => ?_, fun b o e hx => ?_, fun b xs e => tups b xs (I.base.tups b xs e), fun b o xs e => frzs b o xs (I.base.frzs b o xs e), fun b ps e => ?_⟩, ?_, fun x c e => ?_, ?_, fun x c e => ?_, fun p hp => ?_, hok, I.len⟩
 ·exact keep b o (neL b o e) hb (neC b o e hx) (I.base.keep b o e n hb hx) (I.base.free b o e n hx)
 ·obtain ⟨sl, e1⟩ := I.base.slot b o e n hb hx
  obtain ⟨sl', e2⟩ := slot b _ (neL b o e) hb (neC b o e hx) e1 (I.base.free b o e n hx)
  exact ⟨sl', e2⟩
 ·obtain ⟨o', e1⟩ := I.base.there b o e hx
  exact free b o' (neC b o e hx) e1 (I.base.free b o e n hx)
 ·obtain ⟨o', e1⟩ := I.base.there b o e hx
  exact there b o' (neC b o e hx) e1
 ·obtain ⟨m1, e1⟩ := I.base.tbls b ps e
  obtain ⟨m2, e2⟩ := tbls b _ e1
  exact ⟨m1 ++ m2, by rw [e2, Array.append_assoc]⟩
 ·obtain ⟨m, hn, hl⟩ := I.loc
  refine ⟨m, ns m hn, fun i x v e1 e2 e3 => ?_⟩
  obtain ⟨u, r, l⟩ := hl i x v e1 e2 e3
  refine ⟨u, r, ?_⟩
  rcases l with l | ⟨k, c, e, z⟩
  ·exact .inl l
  ·exact .inr ⟨k, c, e, cellK x c e _ z⟩
 ·obtain ⟨v, z⟩ := I.cell x c e
  exact ⟨v, cellK x c e v z⟩
 ·obtain ⟨m, ⟨o, _, _, ho, _⟩, _⟩ := I.loc
  exact free _ o (fun z => (hch _ z).2.1 rfl) ho I.free
 ·obtain ⟨v, o, ho, hd⟩ := I.cell x c e
  exact free c o (fun z => (hch c z).2.2.1 x c e rfl) ho (I.freeC x c e)
 ·obtain ⟨e, n, ne, nf, d⟩ := I.pin p hp
  have nch : p.1 ∉ ch := fun z => (hch p.1 z).2.2.2 p hp rfl
  exact ⟨keep p.1 p.2 ne nf nch e n, free p.1 p.2 nch e n, ne, nf, d⟩
theorem Inv.un {t' : Nat} (I : Inv X pins σ H s) (u : Un X.fs [] H H' s.heap h') (hok : HOk X.prog X.w H' h') : Inv X pins σ H' { s with heap := h', toks := t' } := by
 obtain ⟨m, ⟨o, es, ep, ho, r⟩, _⟩ := id I.loc
 obtain ⟨sl, hL⟩ := u.any ho I.free (by simp)
 exact I.step (g' := s.gens) (d' := s.drawn) (ch := []) (fun _ z => nomatch z) (fun b o _ hb _ e n => u.keep b o e n hb (by simp)) (fun b o _ hb _ e n => u.slot b o e n hb (by simp)) (fun b o _ e n => u.free b o e n (by simp)) (fun b o _ e => u.there b o e (by simp)) u.tups u.frzs u.tbls (fun m' hm => by
  obtain ⟨o', es', ep', ho', r'⟩ := hm
  rw [ho] at ho'; cases ho'
  exact ⟨_, es', ep', hL, r'⟩) hok I.bare
theorem Inv.call {g' : Array GenState} {t' : Nat} {d' : Drawn} {ch : List Addr} (I : Inv X pins σ H s) (u : Un (frs X.stack) ch H H' s.heap h') (hok : HOk X.prog X.w H' h') (hg : AllBare g')
  (hch : ∀ b ∈ ch, (b ∈ X.ex \/ X.s₀.heap.objs.size <= b) /\ b ≠ X.env.locals /\ (∀ x c, X.env.cells.lookup x = some c -> c ≠ b) /\ ∀ p ∈ X.pn ++ pins, p.1 ≠ b) :
  Inv X pins σ H' { s with heap := h', gens := g', drawn := d', toks := t' } := by
 obtain ⟨m, ⟨o, es, ep, ho, r⟩, _⟩ := id I.loc
 obtain ⟨sl, hL⟩ := u.any ho I.free fun z => (hch _ z).2.1 rfl
 exact I.step (ch := ch) hch (fun b o hL hb hc e n => u.keep b o e n (fun z => (List.mem_cons.mp (I.stkSub b z)).elim hL hb) hc) (fun b o _ _ hc e n => u.any e n hc) (fun b o hc e n => u.free b o e n hc) (fun b o hc e => u.there b o e hc) u.tups u.frzs u.tbls (fun m' hm => by
  obtain ⟨o', es', ep', ho', r'⟩ := hm
  rw [ho] at ho'; cases ho'
  exact ⟨_, es', ep', hL, r'⟩) hok hg
theorem Inv.turned {t' : Nat} {it : Addr} (I : Inv X pins σ H s) (k : ∀ b o, b ≠ it -> s.heap.get? b = some o -> h'.get? b = some o) (hn : H it = none) (hL : it ≠ X.env.locals)
  (h1 : it ∈ X.ex \/ X.s₀.heap.objs.size <= it) (h2 : ∀ x c, X.env.cells.lookup x = some c -> c ≠ it) (h3 : ∀ p ∈ X.pn ++ pins, p.1 ≠ it) : Inv X pins σ H { s with heap := h', toks := t' } := by
 have nit : ∀ b u, H b = some u -> b ≠ it := fun b u e z => by rw [z, hn] at e; cases e
 refine I.step (g' := s.gens) (d' := s.drawn) (ch := [it]) (fun b hb => ?_) (fun b o _ _ hc e _ => k b o (fun z => hc (by simp [z])) e) (fun b o _ _ hc e _ => ⟨o.slots, k b o (fun z => hc (by simp [z])) e⟩) (fun _ _ _ _ n => n)
  (fun b o hc e => ⟨o, k b o (fun z => hc (by simp [z])) e⟩) (fun _ _ e => e) (fun _ _ _ e => e) (fun b ps e => ⟨#[], by rw [e]; simp⟩) (fun m hm => ?_) (fun b u e => ?_) I.bare
 ·have e : b = it := by simpa using hb
  subst e
  exact ⟨h1, hL, h2, h3⟩
 ·obtain ⟨o, es, ep, ho, r⟩ := hm
  exact ⟨o, es, ep, k _ o (Ne.symm hL) ho, r⟩
 ·refine (I.hok b u e).stay (fun c v hc q => k c v ?_ q) (fun _ q => q) fun _ _ q => q
  rcases hc with z | z
  ·rw [z]; exact nit b u e
  ·exact nit c _ z
theorem Inv.tok (I : Inv X pins σ H s) (t : Nat) : Inv X pins σ H { s with toks := t } := I.un (h' := s.heap) (t' := t) Un.refl I.hok
theorem Inv.kept {t' : Nat} (I : Inv X pins σ H s) (k : ∀ b u, s.heap.get? b = some u -> h'.get? b = some u) : Inv X pins σ H { s with heap := h', toks := t' } := I.un (Un.kept k) (I.hok.kept k)
theorem Inv.laid {a : Addr} {o : HO} {t' : Nat} (I : Inv X pins σ H s) (k : ∀ b u, s.heap.get? b = some u -> h'.get? b = some u) (hp : s.heap.objs.size <= a) (new : ObjOk X.prog X.w (upd H a o) h' a o) :
  Inv X pins σ (upd H a o) { s with heap := h', toks := t' } := I.un (Un.laid k hp (I.hok.fresh hp)) (I.hok.laid k hp new)
theorem Inv.write {x e : Addr} {o : HO} {t' : Nat} (I : Inv X pins σ H s) (mu : Mut (H x)) (he : e = x \/ H e = some (.own x)) (k : ∀ b u, b ≠ e -> s.heap.get? b = some u -> h'.get? b = some u) (heo : ∃ u, h'.get? e = some u)
  (new : ObjOk X.prog X.w (upd H x o) h' x o) : Inv X pins σ (upd H x o) { s with heap := h', toks := t' } := I.un (Un.write mu he k heo) (I.hok.write mu he k heo new)
theorem Inv.pins_of {pins' : List (Addr × Obj)} (I : Inv X pins σ H s) (h : ∀ p ∈ pins', s.heap.get? p.1 = some p.2 /\ H p.1 = none /\ p.1 ≠ X.env.locals /\ p.1 ∉ X.fs /\ ∀ v, p.2.data ≠ .cell v) : Inv X pins' σ H s :=
 ⟨I.ok, I.os, I.bare, I.base, I.loc, I.cell, I.free, I.freeC, fun p hp => (List.mem_append.mp hp).elim (fun z => I.pin p (List.mem_append_left _ z)) (h p), I.hok, I.len⟩
theorem nodup_ix {N : List Str} (hN : N.Nodup) {i j : Nat} {x : Str} (a : N[i]? = some x) (b : N[j]? = some x) : i = j := by
 obtain ⟨h1, e1⟩ := List.getElem?_eq_some_iff.mp a
 obtain ⟨h2, e2⟩ := List.getElem?_eq_some_iff.mp b
 exact (List.getElem_inj hN).mp (e1.trans e2.symm)
theorem store_ok2 {M : Model} {A : Around} {E : Value -> Shared -> Prop} {i : Nat} {x : Str} {v : V} {u : Value} {Q : Unit -> Shared -> Prop} (I : Inv X pins σ H s) (hN : X.N.Nodup) (hi : X.N[i]? = some x) (hx : Loc X.env.scope x) (r : RelV v u)
  (h : ∀ s', Inv X pins (σ.set i (some v)) H s' -> (∃ a, Heap.SameBut a s.heap s'.heap /\ (a = X.env.locals \/ X.env.cells.lookup x = some a)) -> Q () s') (hf : X.fn x = true \/ X.env.scope.names.lookup x = some .local := by first | exact .inl rfl | exact .inr rfl | assumption) : wpAny M A (storeName X.env x u) Q E s := by
 obtain ⟨m, hn, hl⟩ := id I.loc
 have hcls : (X.env.scope.kind == .class || (X.env.scope.kind == .module && X.env.locals != X.env.globals)) = false := by rw [I.ok.kind]; rfl
 have hiσ : i < σ.length := by rw [I.len]; exact (List.getElem?_eq_some_iff.mp hi).1
 have cne := I.cne
 have tracked : ∀ {a : Addr} {h' : Heap}, (∃ o, s.heap.get? a = some o /\ H a = none) -> Heap.SameBut a s.heap h' -> HOk X.prog X.w H h' := fun {a h'} ha hs b ob e => by
  obtain ⟨_, _, hfree⟩ := ha
  refine (I.hok b ob e).stay (fun c w' hc q => (hs.2 c ?_).trans q) (fun _ q => q) fun _ _ q => q
  rintro rfl
  rcases hc with rfl | hc
  ·rw [hfree] at e; cases e
  ·rw [hfree] at hc; cases hc
 rcases hx with hk | hk
 ·refine wpAny_storeName_local hk hn (fun h' hn' hs => ?_) hcls
  obtain ⟨oL, _, _, hoL, _⟩ := id hn
  refine h _ ⟨I.ok, I.os, I.bare, ⟨fun b o e n hb hx => ?_, fun b o e n hb hx => ?_, I.base.free, fun b o e hx => ?_, I.base.tups, I.base.frzs, I.base.tbls⟩, ⟨_, hn', fun j y v' e1 e2 e3 => ?_⟩, fun y c e => ?_, I.free, I.freeC, fun p hp => ?_, tracked ⟨oL, hoL, I.free⟩ hs, by simpa using I.len⟩ ⟨_, hs, .inl rfl⟩
  ·exact (hs.2 b (Nat.ne_of_lt (Nat.lt_of_lt_of_le (Heap.lt_size e) I.ok.above))).trans (I.base.keep b o e n hb hx)
  ·obtain ⟨sl, e1⟩ := I.base.slot b o e n hb hx
   exact ⟨sl, (hs.2 b (Nat.ne_of_lt (Nat.lt_of_lt_of_le (Heap.lt_size e) I.ok.above))).trans e1⟩
  ·obtain ⟨o', e1⟩ := I.base.there b o e hx
   exact ⟨o', (hs.2 b (Nat.ne_of_lt (Nat.lt_of_lt_of_le (Heap.lt_size e) I.ok.above))).trans e1⟩
  ·by_cases hj : j = i
   ·subst hj
    rw [hi] at e1; cases e1
    rw [List.getElem?_set_self hiσ] at e2
    cases e2
    exact ⟨u, r, .inl ⟨hk, by simp⟩⟩
   ·rw [List.getElem?_set_ne (Ne.symm hj)] at e2
    obtain ⟨u', r', q⟩ := hl j y v' e1 e2 e3
    refine ⟨u', r', ?_⟩
    rcases q with ⟨k, e⟩ | ⟨k, c, e, z⟩
    ·refine .inl ⟨k, ?_⟩
     have : y ≠ x := fun e => hj (nodup_ix hN e1 (e ▸ hi))
     simp [this, e]
    ·exact .inr ⟨k, c, e, z.sameBut hs (cne y c e)⟩
  ·obtain ⟨w', z⟩ := I.cell y c e
   exact ⟨w', z.sameBut hs (cne y c e)⟩
  ·obtain ⟨e, n, ne, nf, d⟩ := I.pin p hp
   exact ⟨(hs.2 p.1 ne).trans e, n, ne, nf, d⟩
 ·have hfn : X.fn x = true := by
   rcases hf with z | z
   ·exact z
   ·rw [z] at hk; cases hk
  obtain ⟨c, hc⟩ := I.ok.has x (.inl hk)
  obtain ⟨w', z⟩ := I.cell x c hc
  refine wpAny_storeName_cell I.ok.kind hk hc z (fun h' hc' hs => ?_)
  obtain ⟨oc, hoc, hocd⟩ := id z
  refine h { s with heap := h' } ⟨I.ok, I.os, I.bare, ⟨fun b o e n hb hx => ?_, fun b o e n hb hx => ?_, I.base.free, fun b o e hx => ?_, I.base.tups, I.base.frzs, I.base.tbls⟩, ⟨m, hn.sameBut hs (Ne.symm (cne x c hc)), fun j y v' e1 e2 e3 => ?_⟩, fun y c' e => ?_, I.free, I.freeC, fun p hp => ?_, tracked ⟨oc, hoc, I.freeC x c hc⟩ hs, by simpa using I.len⟩ ⟨c, hs, .inr hc⟩
  ·exact (hs.2 b (Nat.ne_of_lt (Nat.lt_of_lt_of_le (Heap.lt_size e) (I.ok.cab x c hfn hc)))).trans (I.base.keep b o e n hb hx)
  ·obtain ⟨sl, e1⟩ := I.base.slot b o e n hb hx
   exact ⟨sl, (hs.2 b (Nat.ne_of_lt (Nat.lt_of_lt_of_le (Heap.lt_size e) (I.ok.cab x c hfn hc)))).trans e1⟩
  ·obtain ⟨o', e1⟩ := I.base.there b o e hx
   exact ⟨o', (hs.2 b (Nat.ne_of_lt (Nat.lt_of_lt_of_le (Heap.lt_size e) (I.ok.cab x c hfn hc)))).trans e1⟩
  ·by_cases hj : j = i
   ·subst hj
    rw [hi] at e1; cases e1
    rw [List.getElem?_set_self hiσ] at e2
    cases e2
    exact ⟨u, r, .inr ⟨.inl hk, c, hc, hc'⟩⟩
   ·rw [List.getElem?_set_ne (Ne.symm hj)] at e2
    obtain ⟨u', r', q⟩ := hl j y v' e1 e2 e3
    refine ⟨u', r', ?_⟩
    rcases q with q | ⟨k, c', e, z'⟩
    ·exact .inl q
    ·refine .inr ⟨k, c', e, z'.sameBut hs ?_⟩
     rintro rfl
     exact hj (nodup_ix hN e1 (I.ok.inj _ _ _ e hc ▸ hi))
  ·by_cases hcc : c' = c
   ·subst hcc; exact ⟨_, hc'⟩
   ·obtain ⟨w2, z2⟩ := I.cell y c' e
    exact ⟨w2, z2.sameBut hs hcc⟩
  ·obtain ⟨e, n, ne, nf, d⟩ := I.pin p hp
   refine ⟨(hs.2 p.1 ?_).trans e, n, ne, nf, d⟩
   intro q
   rw [q, hoc] at e
   have q' : oc = p.2 := Option.some.inj e
   exact d w' (by rw [<- q']; exact hocd)
theorem store_ok {M : Model} {A : Around} {E : Value -> Shared -> Prop} {i : Nat} {x : Str} {v : V} {u : Value} {Q : Unit -> Shared -> Prop} (I : Inv X pins σ H s) (hN : X.N.Nodup) (hi : X.N[i]? = some x) (hx : Loc X.env.scope x) (r : RelV v u)
  (h : ∀ s', Inv X pins (σ.set i (some v)) H s' -> Q () s') (hf : X.fn x = true \/ X.env.scope.names.lookup x = some .local := by first | exact .inl rfl | exact .inr rfl | assumption) : wpAny M A (storeName X.env x u) Q E s :=
 store_ok2 I hN hi hx r (fun s' I' _ => h s' I') hf
theorem Inv.call' {s' : Shared} {ch : List Addr} (I : Inv X pins σ H s) (ho : s'.os = s.os) (u : Un (frs X.stack) ch H H' s.heap s'.heap) (hok : HOk X.prog X.w H' s'.heap) (hg : AllBare s'.gens)
  (hch : ∀ b ∈ ch, (b ∈ X.ex \/ X.s₀.heap.objs.size <= b) /\ b ≠ X.env.locals /\ (∀ x c, X.env.cells.lookup x = some c -> c ≠ b) /\ ∀ p ∈ X.pn ++ pins, p.1 ≠ b) : Inv X pins σ H' s' := by
 obtain ⟨h', g', d', t', o'⟩ := s'
 have e : o' = s.os := ho
 subst e
 exact I.call (g' := g') (t' := t') (d' := d') u hok hg hch
end
noncomputable abbrev XK := Value -> Option Addr -> Hp -> Prop
noncomputable abbrev St := List (Option V)
noncomputable abbrev VK := V -> Hp -> Prop
noncomputable abbrev TE := St -> Hp -> VK -> Prop
noncomputable abbrev TT := St -> Hp -> (Bool -> Hp -> Prop) -> Prop
noncomputable abbrev TA := St -> Hp -> (List V -> Hp -> Prop) -> Prop
structure Ends where
 nx : St -> Hp -> Prop
 rt : VK
 bk : St -> Hp -> Prop := fun _ _ => False
 ct : St -> Hp -> Prop := fun _ _ => False
noncomputable abbrev TS := Ends -> St -> Hp -> Prop
noncomputable def EP (X : Cx) (pins : List (Addr × Obj)) (σ : St) (Q : VK) (u : Value) (s' : Shared) : Prop := ∃ v H', Inv X pins σ H' s' /\ RelV v u /\ Q v H'
noncomputable def TP (X : Cx) (pins : List (Addr × Obj)) (σ : St) (Q : Bool -> Hp -> Prop) (b : Bool) (s' : Shared) : Prop := ∃ H', Inv X pins σ H' s' /\ Q b H'
noncomputable def AP (X : Cx) (pins : List (Addr × Obj)) (σ : St) (Q : List V -> Hp -> Prop) (us : List Value) (s' : Shared) : Prop := ∃ vs H', Inv X pins σ H' s' /\ Vals vs us /\ Q vs H'
noncomputable def SP (X : Cx) (pins : List (Addr × Obj)) (D : Ends) (f : Flow) (s' : Shared) : Prop :=
 match f with
 | .next => ∃ σ' H', Inv X pins σ' H' s' /\ D.nx σ' H'
 | .brk => ∃ σ' H', Inv X pins σ' H' s' /\ D.bk σ' H'
 | .cont => ∃ σ' H', Inv X pins σ' H' s' /\ D.ct σ' H'
 | .ret u => ∃ v σ' H', Inv X pins σ' H' s' /\ RelV v u /\ D.rt v H'
noncomputable def PE (X : Cx) (e : Expr) (t : TE) : Prop :=
 ∀ (pins : List (Addr × Obj)) (s : Shared) (σ : St) (H : Hp) (Q : VK), Inv X pins σ H s -> t σ H Q -> wpAny (model X.prog X.w) X.A (eval e X.env) (EP X pins σ Q) X.xe s
noncomputable def PT (X : Cx) (e : Expr) (t : TT) : Prop :=
 ∀ (pins : List (Addr × Obj)) (s : Shared) (σ : St) (H : Hp) (Q : Bool -> Hp -> Prop), Inv X pins σ H s -> t σ H Q -> wpAny (model X.prog X.w) X.A (isTrue e X.env (eval e X.env)) (TP X pins σ Q) X.xe s
noncomputable def PW (X : Cx) (e : Expr) (t : TT) : Prop :=
 ∀ (whole : Sem Value) (pins : List (Addr × Obj)) (s : Shared) (σ : St) (H : Hp) (Q : Bool -> Hp -> Prop), Inv X pins σ H s -> t σ H Q -> wpAny (model X.prog X.w) X.A (isTrue e X.env whole) (TP X pins σ Q) X.xe s
theorem PW.pt {X : Cx} {e : Expr} {t : TT} (h : PW X e t) : PT X e t := h _
noncomputable def PA (X : Cx) (es : List Expr) (t : TA) : Prop :=
 ∀ (pos : Pos) (pins : List (Addr × Obj)) (s : Shared) (σ : St) (H : Hp) (Q : List V -> Hp -> Prop), Inv X pins σ H s -> t σ H Q -> wpAny (model X.prog X.w) X.A (spliced (backTo pos (starEach es X.env))) (AP X pins σ Q) X.xe s
noncomputable def PS (X : Cx) (st : Stmt) (t : TS) : Prop :=
 ∀ (pins : List (Addr × Obj)) (s : Shared) (σ : St) (H : Hp) (D : Ends), Inv X pins σ H s -> t D σ H -> wpAny (model X.prog X.w) X.A (exec st X.env) (SP X pins D) X.xe s
noncomputable def PSs (X : Cx) (st : List Stmt) (t : TS) : Prop :=
 ∀ (pins : List (Addr × Obj)) (s : Shared) (σ : St) (H : Hp) (D : Ends), Inv X pins σ H s -> t D σ H -> wpAny (model X.prog X.w) X.A (execs st X.env) (SP X pins D) X.xe s
theorem thn {α : Type} {t : Sem α} {Q Q' : α -> Shared -> Prop} {M : Model} {A : Around} {E : Value -> Shared -> Prop} {s : Shared} (h : wpAny M A t Q E s) (hQ : ∀ a s, Q a s -> Q' a s) : wpAny M A t Q' E s := wpAny_mono h hQ fun _ _ x => x
end L2
namespace L2
open PySem PySem.Spec PyProof.Rows
section
variable {X : Cx}
theorem bin {a b : Expr} {ta tb : TE} (ha : PE X a ta) (hb : PE X b tb) {pins : List (Addr × Obj)} {s : Shared} {σ : St} {H : Hp} {R : V -> V -> Hp -> Prop} (I : Inv X pins σ H s) (h : ta σ H fun x H1 => tb σ H1 fun y H2 => R x y H2)
  {α : Type} {Q : α -> Shared -> Prop} {f : Value -> Value -> Sem α}
  (hf : ∀ v u s2 x y H2, Inv X pins σ H2 s2 -> RelV x v -> RelV y u -> R x y H2 -> wpAny (model X.prog X.w) X.A (f v u) Q X.xe s2) :
  wpAny (model X.prog X.w) X.A (eval a X.env) (fun v s₁ => wpAny (model X.prog X.w) X.A (eval b X.env) (fun u s₂ => wpAny (model X.prog X.w) X.A (f v u) Q X.xe s₂) X.xe s₁) X.xe s := by
 refine thn (ha pins s σ H _ I h) fun v s1 ⟨x, H1, I1, r1, q1⟩ => ?_
 refine thn (hb pins s1 σ H1 _ I1 q1) fun u s2 ⟨y, H2, I2, r2, q2⟩ => ?_
 exact hf v u s2 x y H2 I2 r1 r2 q2
noncomputable def tVar (i : Nat) : TE := fun σ H Q => ∃ v, σ[i]? = some (some v) /\ Q v H
noncomputable def tC (v : V) : TE := fun _ H Q => Q v H
theorem pe_var {i : Nat} {x : Str} {pos : Pos} (hN : X.N[i]? = some x) (hv : Vis X.env.scope x) (hd : (x == ("__debug__" : Str)) = false := by decide) (hcd : (x == ("__classdict__" : Str)) = false := by decide) : PE X (.Name x pos) (tVar i) := by
 intro pins s σ H Q I h
 obtain ⟨v, e, h⟩ := h
 obtain ⟨m, hn, hl⟩ := I.loc
 obtain ⟨u, r, l⟩ := hl i x v hN e hv
 have fin : EP X pins σ Q u s := ⟨v, H, I, r, h⟩
 rcases l with ⟨hk, hm⟩ | ⟨hk, c, hc, hcell⟩
 ·exact wpAny_Name (wpAny_loadName_local I.ok.kind hk hn hm fin) hd
 ·rcases hk with hk | hk
  ·exact wpAny_Name (wpAny_loadName_cell I.ok.kind hk hc hcell fin) hd
  ·exact wpAny_Name (wpAny_loadName_free I.ok.kind hk hc hcell fin hcd) hd
theorem pe_int {i j pos} : PE X (.Constant (.int i) j pos) (tC (.int i)) := fun _ _ _ H _ I h => wpAny_Constant_int ⟨.int i, H, I.tok _, ⟨_, rfl⟩, h⟩
theorem pe_bl {b j pos} : PE X (.Constant (.bool b) j pos) (tC (.bl b)) := fun _ _ _ H _ I h => Constant_bool ⟨.bl b, H, I, rfl, h⟩
theorem pe_non {j pos} : PE X (.Constant .none j pos) (tC .non) := fun _ _ _ H _ I h => Constant_none ⟨.non, H, I, rfl, h⟩
theorem pe_str {x j pos} : PE X (.Constant (.str x) j pos) (tC (.str x)) := fun _ _ _ H _ I h => Calls.Constant_str ⟨.str x, H, I.tok _, ⟨_, rfl⟩, h⟩
noncomputable def Gl (X : Cx) (x : Str) : Prop := X.env.kindOf x = some .globalImplicit
theorem ld_glob {E : Value -> Shared -> Prop} {pins : List (Addr × Obj)} {s : Shared} {σ : St} {H : Hp} {x : Str} {u : Value} {pos : Pos} {Q : Value -> Shared -> Prop} (I : Inv X pins σ H s) (hg : Gl X x) (hm : X.mg x = some u) (h : Q u s)
  (hd : (x == ("__debug__" : Str)) = false := by decide) : wpAny (model X.prog X.w) X.A (eval (.Name x pos) X.env) Q E s :=
 Calls.Name_function_global I.ok.kind hg (Calls.loadGlobal_global (by rw [I.ok.glob]; exact I.mod.glob.keeps I.bk) hm h) hd
theorem ld_blt {E : Value -> Shared -> Prop} {pins : List (Addr × Obj)} {s : Shared} {σ : St} {H : Hp} {x : Str} {u : Value} {pos : Pos} {Q : Value -> Shared -> Prop} (I : Inv X pins σ H s) (hg : Gl X x) (hm : X.mg x = none) (hv : bootBuiltins x = some u) (h : Q u s)
  (hn : x ≠ "__name__" := by decide) (hd : (x == ("__debug__" : Str)) = false := by decide) : wpAny (model X.prog X.w) X.A (eval (.Name x pos) X.env) Q E s := by
 obtain ⟨mb, h1, h2⟩ := I.mod.blt
 exact Calls.Name_function_global I.ok.kind hg (Calls.loadGlobal_builtin (by rw [I.ok.glob]; exact I.mod.glob.keeps I.bk) hm (by rw [I.ok.blt]; exact h1.keeps I.bk) ((h2 x hn).trans hv) h) hd
theorem pe_glob {x : Str} {v : V} {u : Value} {pos : Pos} (hg : Gl X x) (hm : X.mg x = some u) (r : RelV v u) (hd : (x == ("__debug__" : Str)) = false := by decide) : PE X (.Name x pos) (tC v) :=
 fun _ _ _ H _ I h => ld_glob I hg hm ⟨v, H, I, r, h⟩ hd
theorem pe_bltn {x : Str} {v : V} {u : Value} {pos : Pos} (hg : Gl X x) (hm : X.mg x = none) (hv : bootBuiltins x = some u) (r : RelV v u) (hn : x ≠ "__name__" := by decide) (hd : (x == ("__debug__" : Str)) = false := by decide) : PE X (.Name x pos) (tC v) :=
 fun _ _ _ H _ I h => ld_blt I hg hm hv ⟨v, H, I, r, h⟩ hn hd
variable {a b : Expr} {ta tb : TE} {pos : Pos}
variable {tA tB' : TT} {rest : List Expr}
noncomputable def tAnd (t u : TT) : TT := fun σ H Q => t σ H fun c H1 => if c = true then u σ H1 Q else Q false H1
noncomputable def tOr (t u : TT) : TT := fun σ H Q => t σ H fun c H1 => if c = true then Q true H1 else u σ H1 Q
noncomputable def tNot (t : TT) : TT := fun σ H Q => t σ H fun c H1 => Q (!c) H1
theorem pw_and1 (ha : PT X a tA) : PW X (.BoolOp .And [a] pos) tA := by
 intro wh pins s σ H Q I h
 refine isTrue_and (thn (ha pins s σ H Q I h) fun c s1 e => ?_)
 cases c with
 | true => exact isTrue_and_nil e
 | false => exact e
theorem pw_or1 (ha : PT X a tA) : PW X (.BoolOp .Or [a] pos) tA := by
 intro wh pins s σ H Q I h
 refine isTrue_or (thn (ha pins s σ H Q I h) fun c s1 e => ?_)
 cases c with
 | false => exact isTrue_or_nil e
 | true => exact e
theorem pw_and (ha : PT X a tA) (hb : PW X (.BoolOp .And (b :: rest) pos) tB') : PW X (.BoolOp .And (a :: b :: rest) pos) (tAnd tA tB') := by
 intro wh pins s σ H Q I h
 refine isTrue_and (thn (ha pins s σ H _ I h) fun c s1 ⟨H1, I1, q1⟩ => ?_)
 cases c with
 | true => exact hb wh pins s1 σ H1 Q I1 q1
 | false => exact ⟨H1, I1, q1⟩
theorem pw_or (ha : PT X a tA) (hb : PW X (.BoolOp .Or (b :: rest) pos) tB') : PW X (.BoolOp .Or (a :: b :: rest) pos) (tOr tA tB') := by
 intro wh pins s σ H Q I h
 refine isTrue_or (thn (ha pins s σ H _ I h) fun c s1 ⟨H1, I1, q1⟩ => ?_)
 cases c with
 | true => exact ⟨H1, I1, q1⟩
 | false => exact hb wh pins s1 σ H1 Q I1 q1
theorem pt_not (ha : PT X a tA) : PT X (.UnaryOp .Not a pos) (tNot tA) := by
 intro pins s σ H Q I h
 exact isTrue_not (ha pins s σ H (fun c H1 => Q (!c) H1) I h)
noncomputable def tAndV (ta tb : TE) : TE := fun σ H Q => ta σ H fun x H1 => ∃ c, x = .bl c /\ if c = true then tb σ H1 Q else Q (.bl false) H1
noncomputable def tOrV (ta tb : TE) : TE := fun σ H Q => ta σ H fun x H1 => ∃ c, x = .bl c /\ if c = true then Q (.bl true) H1 else tb σ H1 Q
noncomputable def tNotV (ta : TE) : TE := fun σ H Q => ta σ H fun x H1 => ∃ c, x = .bl c /\ Q (.bl (!c)) H1
theorem pe_one {op} {t : TE} (h : PE X a t) : PE X (.BoolOp op [a] pos) t := fun pins s σ H Q I hw => BoolOp_one (h pins s σ H Q I hw)
theorem pe_and (ha : PE X a ta) (hb : PE X (.BoolOp .And (b :: rest) pos) tb) : PE X (.BoolOp .And (a :: b :: rest) pos) (tAndV ta tb) := by
 intro pins s σ H Q I h
 refine BoolOp_and (thn (ha pins s σ H _ I h) fun v s1 ⟨x, H1, I1, r1, q1⟩ => ?_)
 obtain ⟨c, rfl, q1⟩ := q1
 cases r1
 refine wpAny_truthy_bool ?_
 cases c with
 | true => exact hb pins s1 σ H1 Q I1 q1
 | false => exact ⟨.bl false, H1, I1, rfl, q1⟩
theorem pe_or (ha : PE X a ta) (hb : PE X (.BoolOp .Or (b :: rest) pos) tb) : PE X (.BoolOp .Or (a :: b :: rest) pos) (tOrV ta tb) := by
 intro pins s σ H Q I h
 refine BoolOp_or (thn (ha pins s σ H _ I h) fun v s1 ⟨x, H1, I1, r1, q1⟩ => ?_)
 obtain ⟨c, rfl, q1⟩ := q1
 cases r1
 refine wpAny_truthy_bool ?_
 cases c with
 | false => exact hb pins s1 σ H1 Q I1 q1
 | true => exact ⟨.bl true, H1, I1, rfl, q1⟩
theorem pe_not (ha : PE X a ta) : PE X (.UnaryOp .Not a pos) (tNotV ta) := by
 intro pins s σ H Q I h
 refine UnaryOp_ (thn (ha pins s σ H _ I h) fun v s1 ⟨x, H1, I1, r1, q1⟩ => ?_)
 obtain ⟨c, rfl, q1⟩ := q1
 cases r1
 exact not_of (wpAny_truthy_bool ⟨.bl (!c), H1, I1, rfl, q1⟩)
noncomputable def tIf (t : TT) (ta tb : TE) : TE := fun σ H Q => t σ H fun c H1 => if c = true then ta σ H1 Q else tb σ H1 Q
theorem pe_ifExp {c : Expr} (hc : PT X c tA) (ha : PE X a ta) (hb : PE X b tb) : PE X (.IfExp c a b pos) (tIf tA ta tb) := by
 intro pins s σ H Q I h
 refine wpAny_IfExp (thn (hc pins s σ H _ I h) fun d s1 ⟨H1, I1, q1⟩ => ?_)
 cases d with
 | true => exact ha pins s1 σ H1 Q I1 q1
 | false => exact hb pins s1 σ H1 Q I1 q1
end
end L2
namespace L2
open PySem PySem.Spec PyProof.Rows
noncomputable def SqL (K : PySem.W.Frag) (H : Hp) (a : Addr) (xs : List V) : Prop :=
 Rd H a (.lst xs) \/
  ∃ (o : Obj) (its : Array Value) (n : Nat), K.lookup a = some o /\ o.cls = .type "list" /\ o.dict = none /\ o.data = .seq its n /\ its.size <= sizeLine /\ Vals xs its.toList
noncomputable def SqT (K : PySem.W.Frag) (H : Hp) (a : Addr) (xs : List V) : Prop :=
 Rd H a (.tup xs) \/
  ∃ (o : Obj) (its : Array Value) (n : Nat), K.lookup a = some o /\ o.cls = .type "tuple" /\ o.data = .seq its n /\ its.size <= sizeLine /\ Vals xs its.toList
noncomputable def absV : Value -> Option V
 | .none => some .non
 | .bool b => some (.bl b)
 | .int i _ => some (.int i)
 | .str x _ => some (.str x)
 | .bytes b _ => some (.byt b)
 | .float b _ => some (.flt b)
 | .ref a => some (.ref a)
 | .type n => some (.ty n)
 | _ => none
theorem RelV.abs {x : V} {u : Value} (r : RelV x u) : absV u = some x := by
 cases x with
 | non => cases r; rfl
 | bl _ => cases r; rfl
 | int _ => obtain ⟨t, rfl⟩ := r; rfl
 | str _ => obtain ⟨t, rfl⟩ := r; rfl
 | byt _ => obtain ⟨t, rfl⟩ := r; rfl
 | flt _ => obtain ⟨t, rfl⟩ := r; rfl
 | ref _ => cases r; rfl
 | ty _ => cases r; rfl
theorem RelV.inj {x y : V} {u : Value} (r : RelV x u) (q : RelV y u) : x = y := Option.some.inj (r.abs.symm.trans q.abs)
theorem Vals.inj : ∀ {xs ys : List V} {us : List Value}, Vals xs us -> Vals ys us -> xs = ys
 | _, _, _, .nil, .nil => rfl
 | _, _, _, .cons r t, .cons r' t' => by rw [r.inj r', Vals.inj t t']
section
variable {X : Cx} {pins : List (Addr × Obj)} {σ : St} {H : Hp} {s : Shared} {a : Addr} {xs ys : List V}
theorem SqT.of {K : PySem.W.Frag} (h : H a = some (.tup xs)) : SqT K H a xs := .inl (.inl h)
theorem Inv.list (I : Inv X pins σ H s) (h : SqL X.K H a xs) : ∃ its : List Value, Vals xs its /\ PlainL s.heap a its.toArray /\ xs.length <= sizeLine := by
 rcases h with h | ⟨o, its, n, hk, hc, hd, hs, hz, r⟩
 ·obtain ⟨z, its, n, r, e⟩ := h.ok I.hok
  exact ⟨its, r, ⟨_, n, e, rfl, rfl, rfl⟩, z⟩
 ·refine ⟨its.toList, r, ⟨o, n, I.kIn a o hk, hc, hd, by simpa using hs⟩, ?_⟩
  have e := r.length
  simp only [Array.length_toList] at e
  omega
theorem Inv.tuple (I : Inv X pins σ H s) (h : SqT X.K H a xs) : ∃ its : List Value, Vals xs its /\ IsTup s.heap a its.toArray /\ xs.length <= sizeLine := by
 rcases h with h | ⟨o, its, n, hk, hc, hs, hz, r⟩
 ·obtain ⟨z, its, r, p⟩ := h.ok I.hok
  exact ⟨its, r, p, z⟩
 ·refine ⟨its.toList, r, ⟨o, I.kIn a o hk, hc, n, by simpa using hs⟩, ?_⟩
  have e := r.length
  simp only [Array.length_toList] at e
  omega
theorem Inv.list_inj (I : Inv X pins σ H s) (h : SqL X.K H a xs) (h' : SqL X.K H a ys) : xs = ys := by
 obtain ⟨its, r, ⟨o, n, e, _, _, d⟩, _⟩ := I.list h
 obtain ⟨its', r', ⟨o', n', e', _, _, d'⟩, _⟩ := I.list h'
 rw [e] at e'; cases e'
 rw [d] at d'
 injection d' with d1 _
 have : its = its' := by simpa using congrArg Array.toList d1
 subst this
 exact r.inj r'
theorem Inv.tuple_inj (I : Inv X pins σ H s) (h : SqT X.K H a xs) (h' : SqT X.K H a ys) : xs = ys := by
 obtain ⟨its, r, ⟨o, e, _, n, d⟩, _⟩ := I.tuple h
 obtain ⟨its', r', ⟨o', e', _, n', d'⟩, _⟩ := I.tuple h'
 rw [e] at e'; cases e'
 rw [d] at d'
 injection d' with d1 _
 have : its = its' := by simpa using congrArg Array.toList d1
 subst this
 exact r.inj r'
end
noncomputable abbrev Cx.wish (X : Cx) (E : Value -> Shared -> Prop) : Cx := { X with xe := E }
noncomputable abbrev Cx.nox (X : Cx) : Cx := X.wish fun _ _ => False
theorem Cx.Ok.wish {X : Cx} (ok : X.Ok) (E : Value -> Shared -> Prop) : (X.wish E).Ok :=
 ⟨ok.mod, ok.kind, ok.glob, ok.blt, ok.above, ok.inj, ok.has, ok.cab, ok.hd, ok.frames, ok.stk, ok.exf, ok.bs, ok.bsz, ok.noex, ok.exfs, ok.funs, ok.frf⟩
theorem Cx.Ok.unwish {X : Cx} {E : Value -> Shared -> Prop} (ok : (X.wish E).Ok) : X.Ok :=
 ⟨ok.mod, ok.kind, ok.glob, ok.blt, ok.above, ok.inj, ok.has, ok.cab, ok.hd, ok.frames, ok.stk, ok.exf, ok.bs, ok.bsz, ok.noex, ok.exfs, ok.funs, ok.frf⟩
section
variable {X : Cx} {pins : List (Addr × Obj)} {σ : St} {H : Hp} {s : Shared} {E : Value -> Shared -> Prop}
theorem Inv.wish (I : Inv X pins σ H s) (E : Value -> Shared -> Prop) : Inv (X.wish E) pins σ H s := ⟨I.ok.wish E, I.os, I.bare, I.base, I.loc, I.cell, I.free, I.freeC, I.pin, I.hok, I.len⟩
theorem Inv.unwish (I : Inv (X.wish E) pins σ H s) : Inv X pins σ H s := ⟨I.ok.unwish, I.os, I.bare, I.base, I.loc, I.cell, I.free, I.freeC, I.pin, I.hok, I.len⟩
theorem SP.unwish {D : Ends} {f : Flow} {s' : Shared} (h : SP (X.wish E) pins D f s') : SP X pins D f s' := by
 cases f with
 | next => obtain ⟨σ', H', I, q⟩ := h; exact ⟨σ', H', I.unwish, q⟩
 | brk => obtain ⟨σ', H', I, q⟩ := h; exact ⟨σ', H', I.unwish, q⟩
 | cont => obtain ⟨σ', H', I, q⟩ := h; exact ⟨σ', H', I.unwish, q⟩
 | ret u => obtain ⟨v, σ', H', I, r, q⟩ := h; exact ⟨v, σ', H', I.unwish, r, q⟩
theorem PSs.nox {st : List Stmt} {t : TS} (h : PSs X.nox st t) : PSs X st t := fun pins s σ H D I hw =>
 wpAny_mono (h pins s σ H D (I.wish _) hw) (fun _ _ q => q.unwish) fun _ _ z => False.elim z
end
section
variable {X : Cx} {st : Stmt} {rest : List Stmt} {t u : TS} {e : Expr} {te : TE} {pos : Pos}
noncomputable def tNext : TS := fun D σ H => D.nx σ H
noncomputable def tSeq (t u : TS) : TS := fun D σ H => t { D with nx := u D } σ H
theorem pss_nil : PSs X [] tNext := fun _ _ σ H _ I h => wpAny_execs_nil ⟨σ, H, I, h⟩
theorem pss_cons (h1 : PS X st t) (h2 : PSs X rest u) : PSs X (st :: rest) (tSeq t u) := by
 intro pins s σ H D I h
 refine wpAny_execs_cons (thn (h1 pins s σ H { D with nx := u D } I h) fun f s1 q => ?_)
 cases f with
 | next =>
  obtain ⟨σ', H', I', q⟩ := q
  exact h2 pins s1 σ' H' D I' q
 | ret v => exact q
 | brk => exact q
 | cont => exact q
theorem pss_one (h1 : PS X st t) : PSs X [st] t := by
 intro pins s σ H D I h
 refine wpAny_execs_cons (thn (h1 pins s σ H D I h) fun f s1 q => ?_)
 cases f with
 | next => exact wpAny_execs_nil q
 | ret v => exact q
 | brk => exact q
 | cont => exact q
theorem ps_pass : PS X (.Pass pos) tNext := fun _ _ σ H _ I h => wpAny_Pass ⟨σ, H, I, h⟩
theorem Inv.quiet {pins : List (Addr × Obj)} {σ : St} {H : Hp} {s : Shared} (I : Inv X pins σ H s) : interactive X.env = false := by simp [interactive, I.ok.kind]
noncomputable def tDrop (te : TE) : TS := fun D σ H => te σ H fun _ H1 => D.nx σ H1
theorem ps_expr (he : PE X e te) (hs : swapsWith e none pos.line X.env = pure false := by rfl) : PS X (.Expr e pos) (tDrop te) := by
 intro pins s σ H D I h
 exact wpAny_Expr_any (thn (he pins s σ H _ I h) fun v s1 ⟨x, H1, I1, r1, q1⟩ => ⟨σ, H1, I1, q1⟩) I.quiet hs
noncomputable def tRet (te : TE) : TS := fun D σ H => te σ H D.rt
theorem ps_ret (he : PE X e te) : PS X (.Return (some e) pos) (tRet te) := by
 intro pins s σ H D I h
 exact wpAny_Return_some (thn (he pins s σ H _ I h) fun v s1 ⟨x, H1, I1, r1, q1⟩ => ⟨x, σ, H1, I1, r1, q1⟩)
noncomputable def tIfS (c : TT) (t u : TS) : TS := fun D σ H => c σ H fun b H1 => if b = true then t D σ H1 else u D σ H1
theorem ps_if {c : Expr} {a b : List Stmt} {tc : TT} (hc : PT X c tc) (ha : PSs X a t) (hb : PSs X b u) : PS X (.If c a b pos) (tIfS tc t u) := by
 intro pins s σ H D I h
 refine wpAny_If (thn (hc pins s σ H _ I h) fun d s1 ⟨H1, I1, q1⟩ => ?_)
 cases d with
 | true => exact ha pins s1 σ H1 D I1 q1
 | false => exact hb pins s1 σ H1 D I1 q1
noncomputable def tNever : TS := fun _ _ _ => False
theorem pss_never {sts : List Stmt} : PSs X sts tNever := fun _ _ _ _ _ _ h => h.elim
end
noncomputable abbrev TG := V -> St -> Hp -> (St -> Hp -> Prop) -> Prop
noncomputable abbrev TGs := List V -> St -> Hp -> (St -> Hp -> Prop) -> Prop
noncomputable def PG (X : Cx) (target : Expr) (t : TG) : Prop :=
 ∀ (pins : List (Addr × Obj)) (s : Shared) (σ : St) (H : Hp) (v : V) (u : Value) (Q : St -> Hp -> Prop), Inv X pins σ H s -> RelV v u -> t v σ H Q ->
  wpAny (model X.prog X.w) X.A (assign target X.env u) (fun _ s' => ∃ σ' H', Inv X pins σ' H' s' /\ Q σ' H') X.xe s
noncomputable def PGs (X : Cx) (ts : List Expr) (t : TGs) : Prop :=
 ∀ (pins : List (Addr × Obj)) (s : Shared) (σ : St) (H : Hp) (vs : List V) (us : List Value) (Q : St -> Hp -> Prop), Inv X pins σ H s -> Vals vs us -> t vs σ H Q ->
  wpAny (model X.prog X.w) X.A (assignInOrder ((assignEach ts X.env).map (·.2)) us) (fun _ s' => ∃ σ' H', Inv X pins σ' H' s' /\ Q σ' H') X.xe s
section
variable {X : Cx} {pos : Pos}
noncomputable def gName (i : Nat) : TG := fun v σ H Q => Q (σ.set i (some v)) H
theorem pg_name {i : Nat} {x : Str} (hN : X.N.Nodup) (hi : X.N[i]? = some x) (hx : Loc X.env.scope x) (hf : X.fn x = true \/ X.env.scope.names.lookup x = some .local := by first | exact .inl rfl | exact .inr rfl | assumption) : PG X (.Name x pos) (gName i) := by
 intro pins s σ H v u Q I r h
 exact wpAny_assign_Name (store_ok I hN hi hx r (fun s' I' => ⟨_, H, I', h⟩) hf)
noncomputable def gNil : TGs := fun vs σ H Q => vs = [] /\ Q σ H
noncomputable def gCons (t : TG) (u : TGs) : TGs := fun vs σ H Q => ∃ v r, vs = v :: r /\ t v σ H fun σ' H' => u r σ' H' Q
theorem pgs_nil : PGs X [] gNil := by
 intro pins s σ H vs us Q I r h
 obtain ⟨e, h⟩ := h
 subst e
 cases r
 exact assignInOrder_nil ⟨σ, H, I, h⟩
theorem pgs_cons {e : Expr} {es : List Expr} {t : TG} {u : TGs} (h1 : PG X e t) (h2 : PGs X es u)
  (hs : (assignEach (e :: es) X.env).map (·.2) = assign e X.env :: (assignEach es X.env).map (·.2) := by rfl) : PGs X (e :: es) (gCons t u) := by
 intro pins s σ H vs us Q I r h
 obtain ⟨v, vr, e1, h⟩ := h
 subst e1
 cases r with
 | cons r rr =>
  rw [hs]
  refine assignInOrder_cons (thn (h1 pins s σ H _ _ _ I r h) fun _ s1 ⟨σ1, H1, I1, q1⟩ => ?_)
  exact h2 pins s1 σ1 H1 _ _ Q I1 rr q1
noncomputable def gTup (K : PySem.W.Frag) (n : Nat) (t : TGs) : TG := fun v σ H Q => ∃ a xs, v = .ref a /\ SqT K H a xs /\ xs.length = n /\ t xs σ H Q
theorem pg_tup {es : List Expr} {k : Nat} {t : TGs} {n : Nat} (hc : X.calm = true) (h : PGs X es t)
  (hn : (assignEach es X.env).length = n := by rfl) (hst : (assignEach es X.env).findIdx? (·.1) = none := by rfl) : PG X (.Tuple es k pos) (gTup X.K n t) := by
 intro pins s σ H v u Q I r hw
 obtain ⟨a, xs, e1, hq, hl, hw⟩ := hw
 subst e1
 cases r
 obtain ⟨its, rv, ht, hz⟩ := I.tuple hq
 refine assign_Tuple_tuple (I.ok.hd hc) ht (by simp [hn, <- hl, rv.length]) hst fun h' hx => ?_
 have I1 : Inv X pins σ H { s with heap := h' } := I.kept (t' := s.toks) fun b o e => hx b o (Nat.ne_of_lt (Heap.lt_size e)) e
 exact h pins _ σ H xs _ Q I1 (by simpa using rv) hw
noncomputable def tAsg (te : TE) (g : TG) : TS := fun D σ H => te σ H fun x H1 => g x σ H1 D.nx
theorem ps_set {i : Nat} {x : Str} {e : Expr} {te : TE} {pos' : Pos} (hN : X.N.Nodup) (hi : X.N[i]? = some x) (hx : Loc X.env.scope x) (he : PE X e te) (hs : swapsWith e (some (.Name x pos')) pos.line X.env = pure false := by rfl) (hf : X.fn x = true \/ X.env.scope.names.lookup x = some .local := by first | exact .inl rfl | exact .inr rfl | assumption) :
  PS X (.Assign [.Name x pos'] e pos) (tAsg te (gName i)) := by
 intro pins s σ H D I h
 refine wpAny_Assign_Name (thn (he pins s σ H _ I h) fun v s1 ⟨y, H1, I1, r1, q1⟩ => ?_) hs
 exact store_ok I1 hN hi hx r1 (fun s2 I2 => ⟨_, H1, I2, q1⟩) hf
end
structure It where
 go : Nat -> Hp -> Prop
 yld : Nat -> Hp -> V -> Hp -> Prop
 stop : Nat -> Hp -> Prop
noncomputable def FpOk (X : Cx) (pins : List (Addr × Obj)) (H : Hp) (b : Addr) : Prop :=
 H b = none /\ b ≠ X.env.locals /\ b ∉ X.fs /\ (b ∈ X.ex \/ X.s₀.heap.objs.size <= b) /\ (∀ x c, X.env.cells.lookup x = some c -> c ≠ b) /\ ∀ p ∈ X.pn ++ pins, p.1 ≠ b
theorem Inv.fpOk {X : Cx} {pins : List (Addr × Obj)} {σ : St} {H H' : Hp} {s : Shared} {b : Addr} (I : Inv X pins σ H s) (hb : s.heap.objs.size <= b) (hn : H' b = none) : FpOk X pins H' b := by
 refine ⟨hn, Nat.ne_of_gt (Nat.lt_of_lt_of_le I.lt hb), I.nofs hb, .inr (Nat.le_trans I.sz hb), fun x c e z => ?_, fun p hp z => ?_⟩
 ·obtain ⟨v, q⟩ := I.cell x c e
  exact absurd (Nat.lt_of_lt_of_le q.lt (by rw [z]; exact hb)) (Nat.lt_irrefl _)
 ·exact absurd (Nat.lt_of_lt_of_le (Heap.lt_size (I.pin p hp).1) (by rw [z]; exact hb)) (Nat.lt_irrefl _)
structure Turn (P : Program) (w : World) (K : PySem.W.Frag) (tg : Expr) (J : It) (fp : List Addr) (it : Addr) (tn : Nat -> Heap -> Prop) : Prop where
 mem : it ∈ fp
 obj : ∀ i h, tn i h -> ∀ b ∈ fp, ∃ o, h.get? b = some o /\ ∀ v, o.data ≠ .cell v
 keep : ∀ i h h', tn i h -> (∀ b ∈ fp, ∀ o, h.get? b = some o -> h'.get? b = some o) -> tn i h'
 item : ∀ (X : Cx), X.prog = P -> X.w = w -> X.K = K -> X.calm = true -> ∀ (i : Nat) (pins : List (Addr × Obj)) (s : Shared) (σ : St) (H : Hp) (E : Value -> Shared -> Prop), Inv X pins σ H s -> (∀ b ∈ fp, FpOk X pins H b) -> tn i s.heap -> J.go i H ->
  wpAny (model P w) X.A (pyNext (.ref it)) (fun r s1 => ∃ u, r = some u /\
   wpAny (model P w) X.A (letOwnedTupleGo tg (.ref it) u) (fun _ s2 => ∃ x H', Inv X pins σ H' s2 /\ RelV x u /\ J.yld i H x H' /\ tn (i + 1) s2.heap /\ ∀ b ∈ fp, H' b = none) E s1) E s
 done : ∀ (X : Cx), X.prog = P -> X.w = w -> X.K = K -> X.calm = true -> ∀ (i : Nat) (pins : List (Addr × Obj)) (s : Shared) (σ : St) (H : Hp) (E : Value -> Shared -> Prop), Inv X pins σ H s -> (∀ b ∈ fp, FpOk X pins H b) -> tn i s.heap -> J.stop i H ->
  wpAny (model P w) X.A (pyNext (.ref it)) (fun r s1 => r = none /\ Inv X pins σ H s1) E s
 self : ∀ (A : Around) (i : Nat) (s : Shared) (Q : Value -> Shared -> Prop) (E : Value -> Shared -> Prop), tn i s.heap -> Q (.ref it) s -> wpAny (model P w) A (pyIter (.ref it)) Q E s
noncomputable abbrev TI := St -> Hp -> (It -> Hp -> Prop) -> Prop
noncomputable def PIE (X : Cx) (pins : List (Addr × Obj)) (σ : St) (tg : Expr) (R : It -> Hp -> Prop) (itv : Value) (s2 : Shared) : Prop :=
 ∃ (it : Addr) (fp : List Addr) (tn : Nat -> Heap -> Prop) (J : It) (H' : Hp), itv = .ref it /\ Inv X pins σ H' s2 /\ Turn X.prog X.w X.K tg J fp it tn /\ tn 0 s2.heap /\ (∀ b ∈ fp, FpOk X pins H' b) /\ R J H'
noncomputable def PI (X : Cx) (tg iter : Expr) (wi : TI) : Prop :=
 ∀ (pins : List (Addr × Obj)) (s : Shared) (σ : St) (H : Hp) (R : It -> Hp -> Prop), Inv X pins σ H s -> wi σ H R ->
  wpAny (model X.prog X.w) X.A (eval iter X.env) (fun v s1 => wpAny (model X.prog X.w) X.A (pyIter v) (PIE X pins σ tg R) X.xe s1) X.xe s
theorem go_of {M : Model} {A : Around} {E : Value -> Shared -> Prop} {s : Shared} {tg : Expr} {it : Addr} {u : Value} {o : Obj} {n : String} {vs : Array Value} {Q : Unit -> Shared -> Prop} (ho : s.heap.get? it = some o) (hc : o.cls = .type n) (hd : o.data = .fields vs)
  (hn : ["enumerate", "zip", "dict_itemiterator", "dict_reverseitemiterator", "odict_iterator", "itertools.zip_longest", "itertools.pairwise"].contains n = false) (hQ : Q () s) : wpAny M A (letOwnedTupleGo tg (.ref it) u) Q E s := by
 unfold letOwnedTupleGo
 cases tg <;> first
  | exact wpAny_pure hQ
  | (cases u <;> first
    | exact wpAny_pure hQ
    | (refine wpAny_bind (wpAny_load ho ?_)
       rw [hc, hd]
       show wpAny M A (if (["enumerate", "zip", "dict_itemiterator", "dict_reverseitemiterator", "odict_iterator", "itertools.zip_longest", "itertools.pairwise"].contains n && vs[0]? == some (rawInt _)) = true then _ else _) Q E s
       rw [if_neg (by intro h; rw [hn, Bool.false_and] at h; cases h)]
       exact wpAny_pure hQ))
noncomputable def Itl (K : PySem.W.Frag) (a : Addr) : It :=
 ⟨fun i H => ∃ xs x, SqL K H a xs /\ xs[i]? = some x, fun i H x H' => H' = H /\ ∀ xs, SqL K H a xs -> xs[i]? = some x, fun i H => ∃ xs, SqL K H a xs /\ xs.length <= i⟩
noncomputable def Itt (K : PySem.W.Frag) (a : Addr) : It :=
 ⟨fun i H => ∃ xs x, SqT K H a xs /\ xs[i]? = some x, fun i H x H' => H' = H /\ ∀ xs, SqT K H a xs -> xs[i]? = some x, fun i H => ∃ xs, SqT K H a xs /\ xs.length <= i⟩
noncomputable def Itr (lo : Int) (n : Nat) : It := ⟨fun i _ => i < n, fun i H x H' => H' = H /\ x = .int (lo + i), fun i _ => n <= i⟩
theorem turn_list {P : Program} {w : World} {K : PySem.W.Frag} {tg : Expr} (a it : Addr) : Turn P w K tg (Itl K a) [it] it (fun i h => h.IsListIter it a i) where
 mem := by simp
 obj := fun i h st b hb => by
  have e : b = it := by simpa using hb
  subst e
  obtain ⟨o, e, c, d⟩ := st
  exact ⟨o, e, fun v z => by rw [d] at z; cases z⟩
 keep := fun i h h' st k => st.at fun o e => k it (by simp) o e
 item := by
  intro X hP hw hK hc i pins s σ H E I hf st hg
  subst hP hw hK
  obtain ⟨xs, x, hq, hx⟩ := hg
  obtain ⟨its, rv, p, hz⟩ := I.list hq
  obtain ⟨u, hu, ru⟩ := rv.get hx
  obtain ⟨f0, f1, f2, f3, f4, f5⟩ := hf it (by simp)
  refine wpAny_pyNext_list_item st p.isList (x := u) (by simpa using hu) fun h' st' sb => ?_
  have I1 : Inv X pins σ H { s with heap := h' } := I.turned (t' := s.toks) (fun b o hb e => (sb.2 b hb).trans e) f0 f1 f3 f4 f5
  obtain ⟨o, e, c, d⟩ := id st'
  exact ⟨u, rfl, go_of (s := { s with heap := h' }) e c d (by decide) ⟨x, H, I1, ru, ⟨rfl, fun ys hy => by rw [I.list_inj hy hq]; exact hx⟩, st', fun b hb => (hf b hb).1⟩⟩
 done := by
  intro X hP hw hK hc i pins s σ H E I hf st hg
  subst hP hw hK
  obtain ⟨xs, hq, hx⟩ := hg
  obtain ⟨its, rv, p, hz⟩ := I.list hq
  obtain ⟨f0, f1, f2, f3, f4, f5⟩ := hf it (by simp)
  have hl := rv.length
  exact wpAny_pyNext_list_end (I.ok.hd hc) st p.isList (by simp; omega) fun h' eb => ⟨rfl, I.turned (t' := s.toks) (fun b o hb e => eb b o hb e) f0 f1 f3 f4 f5⟩
 self := fun _ _ _ _ _ st h => wpAny_pyIter_listiter st h
theorem turn_tuple {P : Program} {w : World} {K : PySem.W.Frag} {tg : Expr} (a it : Addr) : Turn P w K tg (Itt K a) [it] it (fun i h => h.IsTupleIter it a i) where
 mem := by simp
 obj := fun i h st b hb => by
  have e : b = it := by simpa using hb
  subst e
  obtain ⟨o, e, c, d⟩ := st
  exact ⟨o, e, fun v z => by rw [d] at z; cases z⟩
 keep := fun i h h' st k => st.at fun o e => k it (by simp) o e
 item := by
  intro X hP hw hK hc i pins s σ H E I hf st hg
  subst hP hw hK
  obtain ⟨xs, x, hq, hx⟩ := hg
  obtain ⟨its, rv, p, hz⟩ := I.tuple hq
  obtain ⟨u, hu, ru⟩ := rv.get hx
  obtain ⟨f0, f1, f2, f3, f4, f5⟩ := hf it (by simp)
  refine wpAny_pyNext_tuple_item st (show s.heap.IsTuple a its.toArray from p) (x := u) (by simpa using hu) fun h' st' sb => ?_
  have I1 : Inv X pins σ H { s with heap := h' } := I.turned (t' := s.toks) (fun b o hb e => (sb.2 b hb).trans e) f0 f1 f3 f4 f5
  obtain ⟨o, e, c, d⟩ := id st'
  exact ⟨u, rfl, go_of (s := { s with heap := h' }) e c d (by decide) ⟨x, H, I1, ru, ⟨rfl, fun ys hy => by rw [I.tuple_inj hy hq]; exact hx⟩, st', fun b hb => (hf b hb).1⟩⟩
 done := by
  intro X hP hw hK hc i pins s σ H E I hf st hg
  subst hP hw hK
  obtain ⟨xs, hq, hx⟩ := hg
  obtain ⟨its, rv, p, hz⟩ := I.tuple hq
  obtain ⟨f0, f1, f2, f3, f4, f5⟩ := hf it (by simp)
  have hl := rv.length
  exact wpAny_pyNext_tuple_end (I.ok.hd hc) st (show s.heap.IsTuple a its.toArray from p) (by simp; omega) fun h' eb => ⟨rfl, I.turned (t' := s.toks) (fun b o hb e => eb b o hb e) f0 f1 f3 f4 f5⟩
 self := fun _ _ _ _ _ st h => wpAny_pyIter_tupleiter st h
theorem turn_range {P : Program} {w : World} {K : PySem.W.Frag} {tg : Expr} (it : Addr) (lo : Int) (n : Nat) : Turn P w K tg (Itr lo n) [it] it (fun i h => IsRangeIter h it (lo + (i : Nat) * 1) ((n : Int) - (i : Nat)) 1) where
 mem := by simp
 obj := fun i h st b hb => by
  have e : b = it := by simpa using hb
  subst e
  exact ⟨_, st, fun v z => by
   have z' : Data.fields _ = Data.cell v := z
   cases z'⟩
 keep := fun i h h' st k => k it (by simp) _ st
 item := by
  intro X hP hw hK hc i pins s σ H E I hf st hg
  subst hP hw hK
  obtain ⟨f0, f1, f2, f3, f4, f5⟩ := hf it (by simp)
  have W := Walks.range (prog := X.prog) (w := X.w) (I.ok.hd hc) it lo 1 n
  refine W.item i s _ _ hg st fun v h' tk hv st' kk => ?_
  obtain ⟨t, rfl⟩ := hv
  have I1 : Inv X pins σ H { s with heap := h', toks := tk } := I.turned (fun b o hb e => kk b o (by simpa using hb) e) f0 f1 f3 f4 f5
  refine ⟨_, rfl, go_of (s := { s with heap := h', toks := tk }) (n := "range_iterator") st' rfl rfl (by decide) ⟨.int (lo + i), H, I1, ⟨t, ?_⟩, ⟨rfl, rfl⟩, st', fun b hb => (hf b hb).1⟩⟩
  rw [Int.mul_one]
 done := by
  intro X hP hw hK hc i pins s σ H E I hf st hg
  subst hP hw hK
  obtain ⟨f0, f1, f2, f3, f4, f5⟩ := hf it (by simp)
  exact wpAny_pyNext_range_end (I.ok.hd hc) st (by have : n <= i := hg; omega) fun h' eb => ⟨rfl, I.turned (t' := s.toks) (fun b o hb e => eb b o hb e) f0 f1 f3 f4 f5⟩
 self := fun _ _ _ _ _ st h => wpAny_pyIter_rangeiter st h
end L2
namespace L2
open PySem PySem.Spec PyProof.Rows
section
variable {X : Cx} {tg : Expr}
noncomputable def iList (K : PySem.W.Frag) (tl : TE) : TI := fun σ H R => tl σ H fun x H1 => ∃ a, x = .ref a /\ (∃ xs, SqL K H1 a xs) /\ R (Itl K a) H1
noncomputable def iTup (K : PySem.W.Frag) (tl : TE) : TI := fun σ H R => tl σ H fun x H1 => ∃ a, x = .ref a /\ (∃ xs, SqT K H1 a xs) /\ R (Itt K a) H1
theorem pi_list {l : Expr} {tl : TE} (hl : PE X l tl) : PI X tg l (iList X.K tl) := by
 intro pins s σ H R I h
 refine thn (hl pins s σ H _ I h) fun v s1 ⟨x, H1, I1, r1, q1⟩ => ?_
 obtain ⟨a, e, ⟨xs, hq⟩, q⟩ := q1
 subst e
 cases r1
 obtain ⟨its, rv, p, hz⟩ := I1.list hq
 refine wpAny_pyIter_list p.isList ?_
 refine ⟨s1.heap.objs.size, [s1.heap.objs.size], _, _, H1, rfl, I1.kept (t' := s1.toks) fun b o e => Heap.get?_push_of_some _ e, turn_list a _, ⟨_, Heap.get?_push_size _ rfl, rfl, rfl⟩, fun b hb => ?_, q⟩
 have e : b = s1.heap.objs.size := by simpa using hb
 subst e
 exact I1.fpOk (Nat.le_refl _) (I1.hok.fresh (Nat.le_refl _))
theorem pi_tup {l : Expr} {tl : TE} (hl : PE X l tl) : PI X tg l (iTup X.K tl) := by
 intro pins s σ H R I h
 refine thn (hl pins s σ H _ I h) fun v s1 ⟨x, H1, I1, r1, q1⟩ => ?_
 obtain ⟨a, e, ⟨xs, hq⟩, q⟩ := q1
 subst e
 cases r1
 obtain ⟨its, rv, p, hz⟩ := I1.tuple hq
 refine wpAny_pyIter_tuple (show s1.heap.IsTuple a its.toArray from p) ?_
 refine ⟨s1.heap.objs.size, [s1.heap.objs.size], _, _, H1, rfl, I1.kept (t' := s1.toks) fun b o e => Heap.get?_push_of_some _ e, turn_tuple a _, ⟨_, Heap.get?_push_size _ rfl, rfl, rfl⟩, fun b hb => ?_, q⟩
 have e : b = s1.heap.objs.size := by simpa using hb
 subst e
 exact I1.fpOk (Nat.le_refl _) (I1.hok.fresh (Nat.le_refl _))
theorem range_it {pins : List (Addr × Obj)} {σ : St} {H : Hp} {s : Shared} {R : It -> Hp -> Prop} {E : Value -> Shared -> Prop} {lo hi : Int} {t u v : Tok} {tk : Nat} (I : Inv X pins σ H s) (h1 : -(2 ^ 62) <= lo) (h2 : lo < 2 ^ 62) (h3 : -(2 ^ 62) <= hi) (h4 : hi < 2 ^ 62)
  (q : R (Itr lo (hi - lo).toNat) H) : wpAny (model X.prog X.w) X.A (pyIter (.ref s.heap.objs.size)) (PIE X pins σ tg R) E { s with heap := s.heap.push { cls := .type "range", data := .fields #[.int lo t, .int hi u, .int 1 v] }, toks := tk } := by
 refine wpAny_pyIter_range (IsRange.new ..) (small_one h1 h2 h3 h4) ?_
 have I1 : Inv X pins σ H { s with heap := s.heap.push { cls := .type "range", data := .fields #[.int lo t, .int hi u, .int 1 v] }, toks := tk } := I.kept fun b o e => Heap.get?_push_of_some _ e
 refine ⟨(s.heap.push { cls := .type "range", data := .fields #[.int lo t, .int hi u, .int 1 v] }).objs.size, [(s.heap.push { cls := .type "range", data := .fields #[.int lo t, .int hi u, .int 1 v] }).objs.size], _, _, H, rfl,
  I1.kept (t' := tk) fun b o e => Heap.get?_push_of_some _ e, turn_range _ lo (hi - lo).toNat, ?_, fun b hb => ?_, q⟩
 ·have e1 : lo + ((0 : Nat) : Int) * 1 = lo := by simp
  have e2 : (((hi - lo).toNat : Nat) : Int) - ((0 : Nat) : Int) = Builtin.Range.rangeSize lo hi 1 := by rw [rangeSize_one]; split <;> omega
  show IsRangeIter _ _ (lo + ((0 : Nat) : Int) * 1) ((((hi - lo).toNat : Nat) : Int) - ((0 : Nat) : Int)) 1
  rw [e1, e2]
  exact Heap.get?_push_size _ rfl
 ·have e : b = (s.heap.push { cls := .type "range", data := .fields #[.int lo t, .int hi u, .int 1 v] }).objs.size := by simpa using hb
  subst e
  exact I1.fpOk (Nat.le_refl _) (I1.hok.fresh (Nat.le_refl _))
noncomputable def iRng1 (ta : TA) : TI := fun σ H R => ta σ H fun vs H1 => ∃ j : Int, vs = [.int j] /\ -(2 ^ 62) <= j /\ j < 2 ^ 62 /\ R (Itr 0 j.toNat) H1
noncomputable def iRng2 (ta : TA) : TI := fun σ H R => ta σ H fun vs H1 => ∃ i j : Int, vs = [.int i, .int j] /\ (-(2 ^ 62) <= i /\ i < 2 ^ 62 /\ -(2 ^ 62) <= j /\ j < 2 ^ 62) /\ R (Itr i (j - i).toNat) H1
theorem pi_range1 {a : Expr} {ta : TA} {p pos : Pos} (hg : Gl X "range") (hm : X.mg "range" = none) (ha : PA X [a] ta) (hs : starEach [a] X.env = [(false, eval a X.env)] := by rfl) : PI X tg (.Call (.Name "range" p) [a] [] pos) (iRng1 ta) := by
 intro pins s σ H R I h
 refine Call_ (ld_blt I hg hm boot_range (PyProof.Rows.callWith_type1 (thn (ha pos pins s σ H _ I h) fun us s1 ⟨vs, H1, I1, r1, q1⟩ => ?_) hs rfl))
 obtain ⟨j, e, q1, q2, q⟩ := q1
 subst e
 cases r1 with
 | cons r rr =>
  cases rr
  obtain ⟨t, rfl⟩ := r
  exact call_range_1 (range_it I1 (by omega) (by omega) q1 q2 (by simpa using q))
theorem pi_range2 {a b : Expr} {ta : TA} {p pos : Pos} (hg : Gl X "range") (hm : X.mg "range" = none) (ha : PA X [a, b] ta) (hs : starEach [a, b] X.env = [(false, eval a X.env), (false, eval b X.env)] := by rfl) (hs2 : starEach [b] X.env = [(false, eval b X.env)] := by rfl) :
  PI X tg (.Call (.Name "range" p) [a, b] [] pos) (iRng2 ta) := by
 intro pins s σ H R I h
 refine Call_ (ld_blt I hg hm boot_range (PyProof.Rows.callWith_type1 (thn (ha pos pins s σ H _ I h) fun us s1 ⟨vs, H1, I1, r1, q1⟩ => ?_) (by rw [hs, hs2]) (by rw [hs2]; rfl)))
 obtain ⟨i, j, e, ⟨q1, q2, q3, q4⟩, q⟩ := q1
 subst e
 cases r1 with
 | cons r rr =>
  cases rr with
  | cons r' rr =>
   cases rr
   obtain ⟨t, rfl⟩ := r
   obtain ⟨t', rfl⟩ := r'
   exact call_range_2 (range_it I1 q1 q2 q3 q4 q)
noncomputable def tFor (wi : TI) (g : TG) (tb : TS) : TS := fun D σ H => wi σ H fun J H1 => ∃ W : Nat -> Nat -> St -> Hp -> Prop, (∃ m, W 0 m σ H1) /\ ∀ i m σ H, W i m σ H ->
 (J.stop i H /\ D.nx σ H) \/ (J.go i H /\ ∃ N : St -> Hp -> Prop, (∀ σ' H', N σ' H' -> ∃ m', m' < m /\ W (i + 1) m' σ' H') /\ ∀ x H', J.yld i H x H' -> g x σ H' fun σ2 H2 => tb { D with nx := N, ct := N, bk := D.nx } σ2 H2)
noncomputable def pinsAt (fp : List Addr) (h : Heap) : List (Addr × Obj) := fp.filterMap fun b => (h.get? b).map fun o => (b, o)
theorem mem_pinsAt {fp : List Addr} {h : Heap} {b : Addr} {o : Obj} (hb : b ∈ fp) (e : h.get? b = some o) : (b, o) ∈ pinsAt fp h := List.mem_filterMap.mpr ⟨b, hb, by rw [e]; rfl⟩
theorem of_pinsAt {fp : List Addr} {h : Heap} {p : Addr × Obj} (hp : p ∈ pinsAt fp h) : p.1 ∈ fp /\ h.get? p.1 = some p.2 := by
 obtain ⟨b, hb, e⟩ := List.mem_filterMap.mp hp
 cases q : h.get? b with
 | none => rw [q] at e; cases e
 | some o =>
  rw [q] at e
  have e' : (b, o) = p := Option.some.inj e
  subst e'
  exact ⟨hb, q⟩
theorem Inv.pinned {pins : List (Addr × Obj)} {σ : St} {H : Hp} {s : Shared} {fp : List Addr} (I : Inv X pins σ H s) (hf : ∀ b ∈ fp, FpOk X pins H b) (ho : ∀ b ∈ fp, ∃ o, s.heap.get? b = some o /\ ∀ v, o.data ≠ .cell v) : Inv X (pins ++ pinsAt fp s.heap) σ H s :=
 I.pins_of fun p hp => (List.mem_append.mp hp).elim (fun z => I.pin p (List.mem_append_right _ z)) fun z => by
  obtain ⟨hb, e⟩ := of_pinsAt z
  obtain ⟨f0, f1, f2, _⟩ := hf p.1 hb
  obtain ⟨o, e', d⟩ := ho p.1 hb
  rw [e] at e'; cases e'
  exact ⟨e, f0, f1, f2, d⟩
theorem Inv.unpinned {pins pl : List (Addr × Obj)} {σ : St} {H : Hp} {s : Shared} (I : Inv X (pins ++ pl) σ H s) : Inv X pins σ H s := I.pins_of fun p hp => I.pin p (List.mem_append_right _ (List.mem_append_left _ hp))
theorem ps_for {iter : Expr} {body : List Stmt} {wi : TI} {g : TG} {tb : TS} {pos : Pos} (hp : PassesOwn (model X.prog X.w) X.A X.env X.xe) (hc : X.calm = true) (hi : PI X tg iter wi) (hg : PG X tg g) (hb : PSs X body tb)
  (hs : ∀ x, foldedSetIterable iter X.env x = pure x := by intro _; rfl) : PS X (.For tg iter body [] pos) (tFor wi g tb) := by
 intro pins s σ H D I h
 refine wpAny_For (thn (hi pins s σ H _ I h) fun v s1 h1 => thn h1 fun itv s2 h2 => ?_) hs
 obtain ⟨it, fp, tn, J, H2, e, I2, T, st2, f2, W, ⟨m0, w0⟩, turn⟩ := h2
 subst e
 have stat : ∀ {H' : Hp}, (∀ b ∈ fp, H' b = none) -> ∀ b ∈ fp, FpOk X pins H' b := fun hn b hb => ⟨hn b hb, (f2 b hb).2⟩
 refine codeAny_forLoop_any (fun n s' => ∃ i σ' H', Inv X pins σ' H' s' /\ tn i s'.heap /\ (∀ b ∈ fp, H' b = none) /\ W i n σ' H') ?_ m0 ⟨0, σ, H2, I2, st2, fun b hb => (f2 b hb).1, w0⟩
 rintro n s3 ⟨i, σ3, H3, I3, st3, fr3, w3⟩
 rcases turn i n σ3 H3 w3 with ⟨stop, qn⟩ | ⟨go, N, hN, step⟩
 ·refine wpAny_passesOwn hp (thn (T.done X rfl rfl rfl hc i pins s3 σ3 H3 X.xe I3 (stat fr3) st3 stop) fun r s4 ⟨hr, I4⟩ => ?_)
  subst hr
  exact wpAny_execs_nil ⟨σ3, H3, I4, qn⟩
 ·refine wpAny_passesOwn hp (thn (T.item X rfl rfl rfl hc i pins s3 σ3 H3 X.xe I3 (stat fr3) st3 go) fun r s4 ⟨u, hr, h4⟩ => ?_)
  subst hr
  refine wpAny_passesOwn hp (thn h4 fun _ s5 ⟨x, H5, I5, r5, y5, st5, fr5⟩ => ?_)
  have I5' := I5.pinned (stat fr5) (T.obj _ _ st5)
  refine wpAny_passesOwn hp (thn (hg _ s5 σ3 H5 x u _ I5' r5 (step x H5 y5)) fun _ s6 ⟨σ6, H6, I6, q6⟩ => ?_)
  refine wpAny_passesOwn hp (thn (hb _ s6 σ6 H6 _ I6 q6) fun f s7 q7 => ?_)
  have again : ∀ {σ7 : St} {H7 : Hp}, Inv X (pins ++ pinsAt fp s5.heap) σ7 H7 s7 -> N σ7 H7 -> ∃ m, m < n /\ ∃ i σ' H', Inv X pins σ' H' s7 /\ tn i s7.heap /\ (∀ b ∈ fp, H' b = none) /\ W i m σ' H' := fun {σ7 H7} I7 n7 => by
   obtain ⟨m', hm, w7⟩ := hN σ7 H7 n7
   refine ⟨m', hm, i + 1, σ7, H7, I7.unpinned, T.keep _ _ _ st5 fun b hb o e => (I7.pin (b, o) (List.mem_append_right _ (List.mem_append_right _ (mem_pinsAt hb e)))).1, fun b hb => ?_, w7⟩
   obtain ⟨o, e, d⟩ := T.obj _ _ st5 b hb
   exact (I7.pin (b, o) (List.mem_append_right _ (List.mem_append_right _ (mem_pinsAt hb e)))).2.1
  cases f with
  | next => obtain ⟨σ7, H7, I7, n7⟩ := q7; exact again I7 n7
  | cont => obtain ⟨σ7, H7, I7, n7⟩ := q7; exact again I7 n7
  | brk => obtain ⟨σ7, H7, I7, q7⟩ := q7; exact ⟨σ7, H7, I7.unpinned, q7⟩
  | ret v => obtain ⟨x7, σ7, H7, I7, r7, q7⟩ := q7; exact ⟨x7, σ7, H7, I7.unpinned, r7, q7⟩
end
end L2
namespace L2
open PySem PySem.Spec PyProof.Rows
noncomputable abbrev R2 := V -> V -> Hp -> VK -> Prop
noncomputable def OpR (X : Cx) (f : Value -> Value -> Sem Value) (r : R2) : Prop :=
 ∀ (pins : List (Addr × Obj)) (s : Shared) (σ : St) (H : Hp) (x y : V) (v u : Value) (Q : VK), Inv X pins σ H s -> RelV x v -> RelV y u -> r x y H Q ->
  wpAny (model X.prog X.w) X.A (f v u) (EP X pins σ Q) X.xe s
noncomputable def CallR (X : Cx) (f : Value) (r : List V -> Hp -> VK -> Prop) : Prop :=
 ∀ (pins : List (Addr × Obj)) (s : Shared) (σ : St) (H : Hp) (xs : List V) (us : List Value) (Q : VK), Inv X pins σ H s -> Vals xs us -> r xs H Q ->
  wpAny (model X.prog X.w) X.A (call f us) (EP X pins σ Q) X.xe s
noncomputable def TruR (X : Cx) (r : V -> Hp -> (Bool -> Hp -> Prop) -> Prop) : Prop :=
 ∀ (pins : List (Addr × Obj)) (s : Shared) (σ : St) (H : Hp) (x : V) (v : Value) (Q : Bool -> Hp -> Prop), Inv X pins σ H s -> RelV x v -> r x H Q ->
  wpAny (model X.prog X.w) X.A (truthy v) (TP X pins σ Q) X.xe s
noncomputable def tOp (r : R2) (ta tb : TE) : TE := fun σ H Q => ta σ H fun x H1 => tb σ H1 fun y H2 => r x y H2 Q
noncomputable def rI (C : Int -> Int -> Prop) (g : Int -> Int -> V) : R2 := fun x y H Q => ∃ i j, x = .int i /\ y = .int j /\ C i j /\ Q (g i j) H
noncomputable def rI0 (g : Int -> Int -> V) : R2 := fun x y H Q => ∃ i j, x = .int i /\ y = .int j /\ Q (g i j) H
section
variable {X : Cx} {a b c : Expr} {ta tb tc : TE} {pos : Pos}
theorem binT (ha : PE X a ta) (hb : PE X b tb) {pins : List (Addr × Obj)} {s : Shared} {σ : St} {H : Hp} {R : V -> V -> Hp -> Prop} (I : Inv X pins σ H s)
  (h : ta σ H fun x H1 => tb σ H1 fun y H2 => R x y H2) {Q : Value -> Shared -> Prop} {f : Value -> Value -> Sem Value}
  (hf : ∀ v u s2 x y H2, Inv X pins σ H2 s2 -> RelV x v -> RelV y u -> R x y H2 -> wpAny (model X.prog X.w) X.A (f v u) Q X.xe s2) :
  wpAny (model X.prog X.w) X.A (eval a X.env) (fun v s₁ => wpAny (model X.prog X.w) X.A (eval b X.env) (fun u s₂ => wpAny (model X.prog X.w) X.A (f v u) Q X.xe s₂) X.xe s₁) X.xe s := by
 refine thn (ha pins s σ H _ I h) fun v s1 ⟨x, H1, I1, r1, q1⟩ => ?_
 refine thn (hb pins s1 σ H1 _ I1 q1) fun u s2 ⟨y, H2, I2, r2, q2⟩ => ?_
 exact hf v u s2 x y H2 I2 r1 r2 q2
theorem pe_op {op : Operator} {r : R2} (ho : OpR X (binaryOp op) r) (ha : PE X a ta) (hb : PE X b tb) : PE X (.BinOp a op b pos) (tOp r ta tb) := by
 intro pins s σ H Q I h
 exact wpAny_BinOp (binT ha hb I h fun v u s2 x y H2 I2 rx ry q => ho pins s2 σ H2 x y v u Q I2 rx ry q)
theorem opI {f : Value -> Value -> Sem Value} {C : Int -> Int -> Prop} {g : Int -> Int -> Int}
  (rule : ∀ (i j : Int) (t u : Tok) (s : Shared) (Q : Value -> Shared -> Prop) (E : Value -> Shared -> Prop), C i j -> Q (.int (g i j) s.toks) { s with toks := s.toks + 1 } -> wpAny (model X.prog X.w) X.A (f (.int i t) (.int j u)) Q E s) :
  OpR X f (rI C fun i j => .int (g i j)) := by
 intro pins s σ H x y v u Q I rx ry h
 obtain ⟨i, j, rfl, rfl, hc, q⟩ := h
 obtain ⟨t, rfl⟩ := rx
 obtain ⟨t', rfl⟩ := ry
 exact rule i j t t' s _ _ hc ⟨.int (g i j), H, I.tok _, ⟨_, rfl⟩, q⟩
theorem opI0 {f : Value -> Value -> Sem Value} {g : Int -> Int -> Int}
  (rule : ∀ (i j : Int) (t u : Tok) (s : Shared) (Q : Value -> Shared -> Prop) (E : Value -> Shared -> Prop), Q (.int (g i j) s.toks) { s with toks := s.toks + 1 } -> wpAny (model X.prog X.w) X.A (f (.int i t) (.int j u)) Q E s) :
  OpR X f (rI0 fun i j => .int (g i j)) := by
 intro pins s σ H x y v u Q I rx ry h
 obtain ⟨i, j, rfl, rfl, q⟩ := h
 obtain ⟨t, rfl⟩ := rx
 obtain ⟨t', rfl⟩ := ry
 exact rule i j t t' s _ _ ⟨.int (g i j), H, I.tok _, ⟨_, rfl⟩, q⟩
theorem opB0 {f : Value -> Value -> Sem Value} {g : Int -> Int -> Bool}
  (rule : ∀ (i j : Int) (t u : Tok) (s : Shared) (Q : Value -> Shared -> Prop) (E : Value -> Shared -> Prop), Q (.bool (g i j)) s -> wpAny (model X.prog X.w) X.A (f (.int i t) (.int j u)) Q E s) :
  OpR X f (rI0 fun i j => .bl (g i j)) := by
 intro pins s σ H x y v u Q I rx ry h
 obtain ⟨i, j, rfl, rfl, q⟩ := h
 obtain ⟨t, rfl⟩ := rx
 obtain ⟨t', rfl⟩ := ry
 exact rule i j t t' s _ _ ⟨.bl (g i j), H, I, rfl, q⟩
noncomputable def CDiv (i j : Int) : Prop := 0 < j /\ j < 1073741824
noncomputable def CPow (i j : Int) : Prop := 0 <= j /\ j <= 1000000 /\ i.natAbs < 2 ^ 64
noncomputable def CMul (i j : Int) : Prop := (-(2 ^ 64) < i /\ i < 2 ^ 64) \/ (-(2 ^ 64) < j /\ j < 2 ^ 64)
theorem CMul.ok {i j : Int} (h : CMul i j) : IntMulOk i j := by
 rcases h with ⟨h1, h2⟩ | ⟨h1, h2⟩
 ·exact .of_left (intBits_le_64 h1 h2)
 ·exact .of_right (intBits_le_64 h1 h2)
theorem op_add : OpR X (binaryOp .Add) (rI0 fun i j => .int (i + j)) := opI0 fun _ _ _ _ _ _ _ q => add_int q
theorem op_sub : OpR X (binaryOp .Sub) (rI0 fun i j => .int (i - j)) := opI0 fun _ _ _ _ _ _ _ q => sub_int q
theorem op_mul : OpR X (binaryOp .Mult) (rI CMul fun i j => .int (i * j)) := opI fun _ _ _ _ _ _ _ hc q => mul_int q hc.ok
theorem op_fdiv : OpR X (binaryOp .FloorDiv) (rI CDiv fun i j => .int (i / j)) := opI fun i j _ _ _ _ _ hc q => by
 have h1 : (0 : Int) < j := hc.1
 have h2 : j < 1073741824 := hc.2
 exact floordiv_int (by omega) (by rw [Int.fdiv_eq_ediv_of_nonneg i (by omega)]; exact q) (.inl (PyProof.noPylong_small (by omega)))
theorem op_mod : OpR X (binaryOp .Mod) (rI (fun _ j => 0 < j) fun i j => .int (i % j)) := opI fun i j _ _ _ _ _ hc q => by
 have h1 : (0 : Int) < j := hc
 exact mod_int' (by omega) (by rw [Int.fmod_eq_emod_of_nonneg i (by omega)]; exact q)
theorem op_pow : OpR X (binaryOp .Pow) (rI CPow fun i j => .int (i ^ j.toNat)) := opI fun _ _ _ _ _ _ _ hc q => pow_int_small hc.1 hc.2.1 hc.2.2 q
end
noncomputable def scal : V -> V -> Bool
 | .non, .non => true | .non, .int _ => true | .int _, .non => true | .non, .bl _ => true | .bl _, .non => true | .non, .str _ => true | .str _, .non => true
 | .int _, .int _ => true | .bl _, .bl _ => true | .str _, .str _ => true | .byt _, .byt _ => true
 | .int _, .str _ => true | .str _, .int _ => true | .bl _, .str _ => true | .str _, .bl _ => true
 | _, _ => false
noncomputable def rEq : R2 := fun x y H Q => scal x y = true /\ Q (.bl (decide (x = y))) H
noncomputable def rNe : R2 := fun x y H Q => scal x y = true /\ Q (.bl (!decide (x = y))) H
theorem dec_int {i j : Int} : decide (V.int i = V.int j) = (i == j) := by
 rw [Bool.eq_iff_iff]
 simp
theorem dec_bl {i j : Bool} : decide (V.bl i = V.bl j) = (i == j) := by
 rw [Bool.eq_iff_iff]
 simp
theorem dec_str {i j : Str} : decide (V.str i = V.str j) = (i == j) := by
 rw [Bool.eq_iff_iff]
 simp
theorem dec_byt {i j : Array UInt8} : decide (V.byt i = V.byt j) = (i.toList == j.toList) := by
 rw [Bool.eq_iff_iff]
 cases i
 cases j
 simp
section
variable {X : Cx} {a b c : Expr} {ta tb tc : TE} {pos : Pos}
theorem fin_bl {pins : List (Addr × Obj)} {σ : St} {H : Hp} {s : Shared} {Q : VK} {k k' : Bool} (I : Inv X pins σ H s) (q : Q (.bl k) H) (e : k = k') : EP X pins σ Q (.bool k') s := by
 subst e
 exact ⟨.bl k, H, I, rfl, q⟩
theorem op_eq : OpR X (compareOp .Eq) rEq := by
 intro pins s σ H x y v u Q I rx ry h
 obtain ⟨hs, q⟩ := h
 cases x with
 | non =>
  cases rx
  cases y with
  | non => cases ry; exact PySem.EqNone.eq_none_none (fin_bl I q (by simp))
  | bl j => cases ry; exact PySem.EqNone.eq_none_bool (fin_bl I q (by simp))
  | int j => obtain ⟨t', rfl⟩ := ry; exact PySem.EqNone.eq_none_int (fin_bl I q (by simp))
  | str j => obtain ⟨t', rfl⟩ := ry; exact PySem.EqNone.eq_none_str (fin_bl I q (by simp))
  | _ => exact absurd (show false = true from hs) Bool.false_ne_true
 | bl i =>
  cases rx
  cases y with
  | non => cases ry; exact PySem.EqNone.eq_bool_none (fin_bl I q (by simp))
  | bl j => cases ry; exact eq_bool (fin_bl I q dec_bl)
  | str j => obtain ⟨t', rfl⟩ := ry; exact PySem.EqMixed.eq_bool_str (fin_bl I q (by simp))
  | _ => exact absurd (show false = true from hs) Bool.false_ne_true
 | int i =>
  obtain ⟨t, rfl⟩ := rx
  cases y with
  | non => cases ry; exact PySem.EqNone.eq_int_none (fin_bl I q (by simp))
  | int j => obtain ⟨t', rfl⟩ := ry; exact eq_int (fin_bl I q dec_int)
  | str j => obtain ⟨t', rfl⟩ := ry; exact PySem.EqMixed.eq_int_str (fin_bl I q (by simp))
  | _ => exact absurd (show false = true from hs) Bool.false_ne_true
 | str i =>
  obtain ⟨t, rfl⟩ := rx
  cases y with
  | non => cases ry; exact PySem.EqNone.eq_str_none (fin_bl I q (by simp))
  | bl j => cases ry; exact PySem.EqMixed.eq_str_bool (fin_bl I q (by simp))
  | int j => obtain ⟨t', rfl⟩ := ry; exact PySem.EqMixed.eq_str_int (fin_bl I q (by simp))
  | str j => obtain ⟨t', rfl⟩ := ry; exact eq_str (fin_bl I q dec_str)
  | _ => exact absurd (show false = true from hs) Bool.false_ne_true
 | byt i =>
  obtain ⟨t, rfl⟩ := rx
  cases y with
  | byt j => obtain ⟨t', rfl⟩ := ry; exact PySem.W.eq_bytes (fin_bl I q dec_byt)
  | _ => exact absurd (show false = true from hs) Bool.false_ne_true
 | _ => cases y <;> exact absurd (show false = true from hs) Bool.false_ne_true
theorem op_ne : OpR X (compareOp .NotEq) rNe := by
 intro pins s σ H x y v u Q I rx ry h
 obtain ⟨hs, q⟩ := h
 cases x with
 | non =>
  cases rx
  cases y with
  | non => cases ry; exact PySem.EqNone.ne_none_none (fin_bl I q (by simp))
  | bl j => cases ry; exact PySem.EqNone.ne_none_bool (fin_bl I q (by simp))
  | int j => obtain ⟨t', rfl⟩ := ry; exact PySem.EqNone.ne_none_int (fin_bl I q (by simp))
  | str j => obtain ⟨t', rfl⟩ := ry; exact PySem.EqNone.ne_none_str (fin_bl I q (by simp))
  | _ => exact absurd (show false = true from hs) Bool.false_ne_true
 | bl i =>
  cases rx
  cases y with
  | non => cases ry; exact PySem.EqNone.ne_bool_none (fin_bl I q (by simp))
  | bl j => cases ry; exact ne_bool (fin_bl I q (congrArg not dec_bl))
  | str j => obtain ⟨t', rfl⟩ := ry; exact PySem.EqMixed.ne_bool_str (fin_bl I q (by simp))
  | _ => exact absurd (show false = true from hs) Bool.false_ne_true
 | int i =>
  obtain ⟨t, rfl⟩ := rx
  cases y with
  | non => cases ry; exact PySem.EqNone.ne_int_none (fin_bl I q (by simp))
  | int j => obtain ⟨t', rfl⟩ := ry; exact ne_int (fin_bl I q (congrArg not dec_int))
  | str j => obtain ⟨t', rfl⟩ := ry; exact PySem.EqMixed.ne_int_str (fin_bl I q (by simp))
  | _ => exact absurd (show false = true from hs) Bool.false_ne_true
 | str i =>
  obtain ⟨t, rfl⟩ := rx
  cases y with
  | non => cases ry; exact PySem.EqNone.ne_str_none (fin_bl I q (by simp))
  | bl j => cases ry; exact PySem.EqMixed.ne_str_bool (fin_bl I q (by simp))
  | int j => obtain ⟨t', rfl⟩ := ry; exact PySem.EqMixed.ne_str_int (fin_bl I q (by simp))
  | str j => obtain ⟨t', rfl⟩ := ry; exact ne_str (fin_bl I q (congrArg not dec_str))
  | _ => exact absurd (show false = true from hs) Bool.false_ne_true
 | byt i =>
  obtain ⟨t, rfl⟩ := rx
  cases y with
  | byt j => obtain ⟨t', rfl⟩ := ry; exact PySem.W.ne_bytes (fin_bl I q (congrArg not dec_byt))
  | _ => exact absurd (show false = true from hs) Bool.false_ne_true
 | _ => cases y <;> exact absurd (show false = true from hs) Bool.false_ne_true
theorem op_lt : OpR X (compareOp .Lt) (rI0 fun i j => .bl (decide (i < j))) := opB0 fun _ _ _ _ _ _ _ q => lt_int q
theorem op_le : OpR X (compareOp .LtE) (rI0 fun i j => .bl (decide (i <= j))) := opB0 fun _ _ _ _ _ _ _ q => le_int q
theorem op_gt : OpR X (compareOp .Gt) (rI0 fun i j => .bl (decide (j < i))) := opB0 fun _ _ _ _ _ _ _ q => gt_int q
theorem op_ge : OpR X (compareOp .GtE) (rI0 fun i j => .bl (decide (j <= i))) := opB0 fun _ _ _ _ _ _ _ q => ge_int q
theorem op_isN : OpR X (compareOp .Is) (fun x y H Q => y = .non /\ Q (.bl (decide (x = .non))) H) := by
 intro pins s σ H x y v u Q I rx ry h
 obtain ⟨rfl, q⟩ := h
 cases ry
 refine is_none_gen (fin_bl I q ?_)
 cases x <;> first
  | (cases rx; rfl)
  | (obtain ⟨t, rfl⟩ := rx; rfl)
theorem op_notN : OpR X (compareOp .IsNot) (fun x y H Q => y = .non /\ Q (.bl (!decide (x = .non))) H) := by
 intro pins s σ H x y v u Q I rx ry h
 obtain ⟨rfl, q⟩ := h
 cases ry
 refine isnot_none_gen (fin_bl I q ?_)
 cases x <;> first
  | (cases rx; rfl)
  | (obtain ⟨t, rfl⟩ := rx; rfl)
theorem OpR.or {f : Value -> Value -> Sem Value} {r r' : R2} (h : OpR X f r) (h' : OpR X f r') : OpR X f (fun x y H Q => r x y H Q \/ r' x y H Q) := by
 intro pins s σ H x y v u Q I rx ry q
 rcases q with q | q
 ·exact h pins s σ H x y v u Q I rx ry q
 ·exact h' pins s σ H x y v u Q I rx ry q
theorem nomark (b : Expr) {op : CmpOp} (h : op ≠ .In := by decide) (h2 : op ≠ .NotIn := by decide) : behindInMarks op b = false := by
 have e1 : (op == CmpOp.In) = false := by cases op <;> first | rfl | exact absurd rfl h
 have e2 : (op == CmpOp.NotIn) = false := by cases op <;> first | rfl | exact absurd rfl h2
 cases b <;> simp [behindInMarks, e1, e2]
theorem pe_cmpR {op : CmpOp} {r : R2} (ho : OpR X (compareOp op) r) (ha : PE X a ta) (hb : PE X b tb) (hm : behindInMarks op b = false) : PE X (.Compare a [op] [b] pos) (tOp r ta tb) := by
 intro pins s σ H Q I h
 exact wpAny_Compare1 (binT ha hb I h fun v u s2 x y H2 I2 rx ry q => ho pins s2 σ H2 x y v u Q I2 rx ry q) hm
noncomputable def tTest (t : TE) : TT := fun σ H Q => t σ H fun x H' => ∃ k, x = .bl k /\ Q k H'
theorem pt_cmpR {op : CmpOp} {r : R2} (ho : OpR X (compareOp op) r) (ha : PE X a ta) (hb : PE X b tb) (hm : behindInMarks op b = false) : PT X (.Compare a [op] [b] pos) (tTest (tOp r ta tb)) := by
 intro pins s σ H Q I h
 refine wpAny_isTrue_Compare1 (thn (ha pins s σ H _ I h) fun v s1 ⟨x, H1, I1, r1, q1⟩ => thn (hb pins s1 σ H1 _ I1 q1) fun u s2 ⟨y, H2, I2, r2, q2⟩ =>
  thn (ho pins s2 σ H2 x y v u _ I2 r1 r2 q2) fun c s3 ⟨z, H3, I3, r3, k, e, q3⟩ => ?_) hm
 subst e
 cases r3
 exact wpAny_truthy_bool ⟨H3, I3, q3⟩
noncomputable def tChain (r r' : R2) (ta tb tc : TE) : TE := fun σ H Q => ta σ H fun x H1 => tb σ H1 fun y H2 => r x y H2 fun z H3 => ∃ k, z = .bl k /\
 (if k = true then tc σ H3 fun w' H4 => r' y w' H4 Q else Q (.bl false) H3)
theorem pe_chain {op op' : CmpOp} {r r' : R2} (ho : OpR X (compareOp op) r) (ho' : OpR X (compareOp op') r') (ha : PE X a ta) (hb : PE X b tb) (hc : PE X c tc)
  (hm : lastMarks [op, op'] [b, c] = false := by with_unfolding_all rfl) : PE X (.Compare a [op, op'] [b, c] pos) (tChain r r' ta tb tc) := by
 intro pins s σ H Q I h
 refine Compare_chain (thn (ha pins s σ H _ I h) fun v s1 ⟨x, H1, I1, r1, q1⟩ => chain_link (thn (hb pins s1 σ H1 _ I1 q1) fun u s2 ⟨y, H2, I2, r2, q2⟩ =>
  thn (ho pins s2 σ H2 x y v u _ I2 r1 r2 q2) fun d s3 ⟨z, H3, I3, r3, k, e, q3⟩ => ?_)) hm
 subst e
 cases r3
 refine wpAny_truthy_bool ?_
 cases k with
 | false => exact ite_ff ⟨.bl false, H3, I3, rfl, q3⟩
 | true => exact ite_tt (chain_last (thn (hc pins s3 σ H3 _ I3 q3) fun w' s4 ⟨z', H4, I4, r4, q4⟩ => ho' pins s4 σ H4 y z' u w' Q I4 r2 r4 q4))
theorem pt_chain {op op' : CmpOp} {r r' : R2} (ho : OpR X (compareOp op) r) (ho' : OpR X (compareOp op') r') (ha : PE X a ta) (hb : PE X b tb) (hc : PE X c tc)
  (hm : lastMarks [op, op'] [b, c] = false := by with_unfolding_all rfl) : PT X (.Compare a [op, op'] [b, c] pos) (tTest (tChain r r' ta tb tc)) := by
 intro pins s σ H Q I h
 refine isTrue_chain (thn (ha pins s σ H _ I h) fun v s1 ⟨x, H1, I1, r1, q1⟩ => test_link (thn (hb pins s1 σ H1 _ I1 q1) fun u s2 ⟨y, H2, I2, r2, q2⟩ =>
  thn (ho pins s2 σ H2 x y v u _ I2 r1 r2 q2) fun d s3 ⟨z, H3, I3, r3, k, e, q3⟩ => ?_)) hm
 subst e
 cases r3
 refine wpAny_truthy_bool ?_
 cases k with
 | false =>
  obtain ⟨k', e', q'⟩ := q3
  cases e'
  exact ite_ff ⟨H3, I3, q'⟩
 | true =>
  refine ite_tt (test_last (thn (hc pins s3 σ H3 _ I3 q3) fun w' s4 ⟨z', H4, I4, r4, q4⟩ => thn (ho' pins s4 σ H4 y z' u w' _ I4 r2 r4 q4) fun d' s5 ⟨z2, H5, I5, r5, k2, e2, q5⟩ => ?_))
  subst e2
  cases r5
  exact wpAny_truthy_bool ⟨H5, I5, q5⟩
noncomputable def TruV (K : PySem.W.Frag) (x : V) (H : Hp) (k : Bool) : Prop :=
 match x with
 | .non => k = false
 | .bl b => k = b
 | .int i => k = (i != 0)
 | .str y => y.length <= sizeLine /\ k = ((y.length : Int) != 0)
 | .byt y => y.size <= sizeLine /\ k = ((y.size : Int) != 0)
 | .ref p => (∃ xs, SqL K H p xs /\ k = !xs.isEmpty) \/ (∃ xs, SqT K H p xs /\ k = !xs.isEmpty) \/ ∃ kvs, H p = some (.dK kvs) /\ k = !kvs.isEmpty
 | _ => False
theorem isEmpty_kv {κ : Type} {kvs : List (κ × V)} {vs : List (κ × Value)} (r : KV kvs vs) : (!vs.isEmpty) = !kvs.isEmpty := by
 cases r <;> rfl
theorem isEmpty_of {xs : List V} {its : List Value} (r : Vals xs its) : (!its.toArray.isEmpty) = !xs.isEmpty := by
 cases r <;> simp
theorem line63 : (sizeLine : Nat) < 2 ^ 63 := by rw [sizeLine_eq]; decide
theorem tru_ok : TruR X (fun x H Q => ∃ k, TruV X.K x H k /\ Q k H) := by
 intro pins s σ H x v Q I rx h
 obtain ⟨k, e, q⟩ := h
 have hl := line63
 have hs : sizeLine = 16777216 := sizeLine_eq
 cases x with
 | non =>
  cases rx
  have e' : k = false := e
  subst e'
  exact truthy_none ⟨H, I, q⟩
 | bl b =>
  cases rx
  have e' : k = b := e
  subst e'
  exact wpAny_truthy_bool ⟨H, I, q⟩
 | int i =>
  obtain ⟨t, rfl⟩ := rx
  have e' : k = (i != 0) := e
  subst e'
  exact PySem.P.truthy_int ⟨H, I, q⟩
 | str y =>
  obtain ⟨t, rfl⟩ := rx
  obtain ⟨hy, e'⟩ : y.length <= sizeLine /\ k = ((y.length : Int) != 0) := e
  subst e'
  exact PySem.P.truthy_str (by omega) ⟨H, I.tok _, q⟩
 | byt y =>
  obtain ⟨t, rfl⟩ := rx
  obtain ⟨hy, e'⟩ : y.size <= sizeLine /\ k = ((y.size : Int) != 0) := e
  subst e'
  exact PySem.W.truthy_bytes (by omega) ⟨H, I.tok _, q⟩
 | ref p =>
  cases rx
  have e' : (∃ xs, SqL X.K H p xs /\ k = !xs.isEmpty) \/ (∃ xs, SqT X.K H p xs /\ k = !xs.isEmpty) \/ ∃ kvs, H p = some (.dK kvs) /\ k = !kvs.isEmpty := e
  rcases e' with ⟨xs, hx, e'⟩ | ⟨xs, hx, e'⟩ | ⟨kvs, hx, e'⟩
  ·subst e'
   obtain ⟨its, r, pl, hz⟩ := I.list hx
   have hlen := r.length
   exact wpAny_truthy_list pl.isList (by simp only [List.size_toArray]; omega) ⟨H, I.tok _, by rw [isEmpty_of r]; exact q⟩
  ·subst e'
   obtain ⟨its, r, pl, hz⟩ := I.tuple hx
   have hlen := r.length
   exact truthy_tuple pl (by simp only [List.size_toArray]; omega) ⟨H, I.tok _, by rw [isEmpty_of r]; exact q⟩
  ·subst e'
   obtain ⟨hz, hS, vs, r, m⟩ : kvs.length <= sizeLine /\ (p == sysModules) = false /\ ∃ vs, KV kvs vs /\ s.heap.DictOf (mixKind X.prog X.w) p vs := I.hok p _ hx
   have hlen : kvs.length = vs.length := Paired.length r
   exact wpAny_truthy_dict hS m (by omega) ⟨H, I.tok _, by rw [isEmpty_kv r]; exact q⟩
 | _ => exact (show False from e).elim
theorem pt_truth (ha : PE X a ta) (he : ∀ whole, isTrue a X.env whole = (do let v <- whole; standAt a.pos; holding [v] (truthy v))) :
  PT X a (fun σ H Q => ta σ H fun x H' => ∃ k, TruV X.K x H' k /\ Q k H') := by
 intro pins s σ H Q I h
 exact isTrue_plain (thn (ha pins s σ H _ I h) fun v s1 ⟨x, H1, I1, r1, q1⟩ => tru_ok pins s1 σ H1 x v Q I1 r1 q1) (he _)
theorem op_add_str : OpR X (binaryOp .Add) (fun x y H Q => ∃ i j, x = .str i /\ y = .str j /\ i.length + j.length <= sizeLine /\ Q (.str (i ++ j)) H) := by
 intro pins s σ H x y v u Q I rx ry h
 obtain ⟨i, j, rfl, rfl, hz, q⟩ := h
 obtain ⟨t, rfl⟩ := rx
 obtain ⟨t', rfl⟩ := ry
 exact add_str (fun t' tk => ⟨.str (i ++ j), H, I.tok _, ⟨_, rfl⟩, q⟩) hz
theorem vals1 {x : V} {us : List Value} (r : Vals [x] us) : ∃ u, us = [u] /\ RelV x u := by
 cases r with
 | cons r1 r2 => cases r2; exact ⟨_, rfl, r1⟩
theorem vals2 {x y : V} {us : List Value} (r : Vals [x, y] us) : ∃ u w', us = [u, w'] /\ RelV x u /\ RelV y w' := by
 cases r with
 | cons r1 r2 =>
  cases r2 with
  | cons r3 r4 => cases r4; exact ⟨_, _, rfl, r1, r3⟩
theorem call_max2 (hc : X.calm = true) : CallR X (.builtin "max") (fun xs H Q => ∃ i j, xs = [.int i, .int j] /\ Q (.int (if j > i then j else i)) H) := by
 intro pins s σ H xs us Q I r h
 obtain ⟨i, j, rfl, q⟩ := h
 obtain ⟨u, w', rfl, ⟨t, rfl⟩, ⟨t', rfl⟩⟩ := vals2 r
 refine max_two_ints (I.ok.hd hc) fun h' tk k => ⟨_, H, I.kept k, ?_, q⟩
 by_cases hj : j > i
 ·rw [if_pos hj, if_pos hj]; exact ⟨_, rfl⟩
 ·rw [if_neg hj, if_neg hj]; exact ⟨_, rfl⟩
theorem call_min2 (hc : X.calm = true) : CallR X (.builtin "min") (fun xs H Q => ∃ i j, xs = [.int i, .int j] /\ Q (.int (if j < i then j else i)) H) := by
 intro pins s σ H xs us Q I r h
 obtain ⟨i, j, rfl, q⟩ := h
 obtain ⟨u, w', rfl, ⟨t, rfl⟩, ⟨t', rfl⟩⟩ := vals2 r
 refine min_two_ints (I.ok.hd hc) fun h' tk k => ⟨_, H, I.kept k, ?_, q⟩
 by_cases hj : j < i
 ·rw [if_pos hj, if_pos hj]; exact ⟨_, rfl⟩
 ·rw [if_neg hj, if_neg hj]; exact ⟨_, rfl⟩
theorem call_int1 : CallR X (.type "int") (fun xs H Q => (∃ i, xs = [.int i] /\ Q (.int i) H) \/ ∃ k, xs = [.bl k] /\ Q (.int (if k then 1 else 0)) H) := by
 intro pins s σ H xs us Q I r h
 rcases h with ⟨i, rfl, q⟩ | ⟨k, rfl, q⟩
 ·obtain ⟨u, rfl, t, rfl⟩ := vals1 r
  exact call_int_int ⟨.int i, H, I, ⟨_, rfl⟩, q⟩
 ·obtain ⟨u, rfl, r1⟩ := vals1 r
  cases r1
  exact call_int_bool ⟨.int (if k then 1 else 0), H, I.tok _, ⟨_, rfl⟩, q⟩
end
end L2
namespace L2
open PySem PySem.Spec PyProof.Rows
structure ObjM (h : Heap) (x dx C : Addr) (mA : Str -> Option Value) : Prop where
 obj : h.get? x = some (PySem.W.instObj C dx)
 ns : h.Ns1 dx mA
 ne : dx ≠ x
theorem lookIn_ns {h : Heap} {dx : Addr} {mA : Str -> Option Value} (n : h.Ns1 dx mA) : ∃ od, h.get? dx = some od /\ ∀ name, PySem.W.lookIn name od = some (mA name) := by
 obtain ⟨o, es, ep, ho, hd, hk, _, hm⟩ := n
 refine ⟨o, ho, fun name => ?_⟩
 have e := hm name
 unfold nsFind findBy at e
 rw [<- Array.find?_toList] at e
 unfold PySem.W.lookIn
 rw [hd]
 dsimp only
 split
 ·rename_i y q
  rw [q] at e
  exact congrArg some e
 ·rename_i q
  rw [q] at e
  have a : es.toList.any (·.refKey) = false := by
   rw [List.any_eq_false]
   intro y hy
   obtain ⟨z, t, hkey⟩ := hk y (Array.mem_toList_iff.mp hy)
   simp [DictEntry.refKey, hkey]
  have a' : ¬ es.toList.any (·.refKey) = true := by rw [a]; exact Bool.false_ne_true
  rw [if_neg a']
  exact congrArg some e
theorem ObjM.look {h : Heap} {x dx C : Addr} {mA : Str -> Option Value} (I : ObjM h x dx C mA) : ∃ od, PySem.W.InstAt h x (PySem.W.instObj C dx) C (some od) /\ ∀ name, PySem.W.lookIn name od = some (mA name) :=
 let ⟨od, ho, hl⟩ := lookIn_ns I.ns
 ⟨od, ⟨I.obj, rfl, rfl, ho⟩, hl⟩
theorem RelO.some_of {v : V} {o : Option Value} (r : RelO (some v) o) : ∃ u, o = some u /\ RelV v u := by
 cases o with
 | none => exact (show False from r).elim
 | some u => exact ⟨u, rfl, r⟩
section
variable {P : Program} {w : World} {H H' : Hp} {h h' : Heap} {a C dx : Addr} {fs fs' : List (Str × V)}
theorem ins_get (hok : HOk P w H h) (e : H a = some (.ins C dx fs)) : ∃ mA, ObjM h a dx C mA /\ (∀ f, RelO (fs.lookup f) (mA f)) /\ PySem.Within mA (fs.map (·.1)) /\ fs.length <= 1000 /\ H dx = some (.own a) := by
 obtain ⟨d, z, ne, ob, mA, n, r, q⟩ := (show ObjOk P w H h a (.ins C dx fs) from hok a _ e)
 exact ⟨mA, ⟨ob, n, ne⟩, r, q, z, d⟩
end
structure Cls (K : PySem.W.Frag) (C : Addr) : Prop where
 pg : PySem.W.plainGet K C Str.empty = true
 hd : PySem.W.hasDictIn K C = true
 po : PySem.W.plainOver K C = true
 sa : PySem.W.findIn K (.ref C) "__setattr__" = some (some (.builtin "object.__setattr__"))
theorem Cls.get {K : PySem.W.Frag} {C : Addr} (c : Cls K C) (f : Str) : PySem.W.plainGet K C f = true := c.pg
section
variable {X : Cx} {pins : List (Addr × Obj)} {σ : St} {H : Hp} {s : Shared} {A : Around} {E : Value -> Shared -> Prop} {Q : Value -> Shared -> Prop} {c : Value} {b : Bool}
inductive TyOf (K : PySem.W.Frag) (H : Hp) : V -> Value -> Prop where
 | non : TyOf K H .non (.type "NoneType")
 | bl (x : Bool) : TyOf K H (.bl x) (.type "bool")
 | int (i : Int) : TyOf K H (.int i) (.type "int")
 | str (x : Str) : TyOf K H (.str x) (.type "str")
 | flt (x : UInt64) : TyOf K H (.flt x) (.type "float")
 | lst {a : Addr} {xs : List V} (e : H a = some (.lst xs)) : TyOf K H (.ref a) (.type "list")
 | frz {a : Addr} {o : Obj} {xs : List V} (e : H a = some (.frz o (.lst xs))) : TyOf K H (.ref a) (.type "list")
 | tup {a : Addr} {xs : List V} (e : H a = some (.tup xs)) : TyOf K H (.ref a) (.type "tuple")
 | dK {a : Addr} {kvs : List (Key × V)} (e : H a = some (.dK kvs)) : TyOf K H (.ref a) (.type "dict")
 | dT {a : Addr} {kvs : List (List Key × V)} (e : H a = some (.dT kvs)) : TyOf K H (.ref a) (.type "dict")
 | ins {a C dx : Addr} {fs : List (Str × V)} (e : H a = some (.ins C dx fs)) (cl : Cls K C) (ha : PySem.W.findIn K (.ref C) "__class__" = some (some (.builtin "object.__class__")))
   (hn : PySem.W.specialIn K (.builtin "object.__class__") "__get__" = some (some (.builtin "getset_descriptor.__get__"))) (htk : PySem.W.takesIn K (.builtin "object.__class__") = some true)
   (hm : PySem.W.mroIn K C (.type "object") = some true) : TyOf K H (.ref a) (.ref C)
theorem isinst_ok {x : V} {u t : Value} (I : Inv X pins σ H s) (rx : RelV x u) (ty : TyOf X.K H x t) (e : PySem.W.kitOne X.K t c = some b) (h : ∀ tk, Q (.bool b) { s with toks := tk }) :
  wpAny (model X.prog X.w) A (call (.builtin "isinstance") [u, c]) Q E s := by
 cases ty with
 | non => cases (show u = Value.none from rx); exact PySem.W.kia_one PySem.W.kitx_none I.kIn True.intro e (fun z => nomatch z) h
 | bl y => cases (show u = Value.bool y from rx); exact PySem.W.kia_one PySem.W.kitx_bool I.kIn True.intro e (fun z => nomatch z) h
 | int i => obtain ⟨t, q⟩ := (show ∃ t, u = Value.int i t from rx); cases q; exact PySem.W.kia_one PySem.W.kitx_int I.kIn True.intro e (fun z => nomatch z) h
 | str y => obtain ⟨t, q⟩ := (show ∃ t, u = Value.str y t from rx); cases q; exact PySem.W.kia_one PySem.W.kitx_str I.kIn True.intro e (fun z => nomatch z) h
 | flt y => obtain ⟨t, q⟩ := (show ∃ t, u = Value.float y t from rx); cases q; exact PySem.W.kia_one PySem.W.kitx_float I.kIn True.intro e (fun z => nomatch z) h
 | @lst a xs ea =>
  cases (show u = Value.ref a from rx)
  obtain ⟨_, _, n, _, h1⟩ := (show ObjOk X.prog X.w H s.heap a (.lst xs) from I.hok a _ ea)
  exact PySem.W.kia_one PySem.W.kitx_list I.kIn ⟨_, h1, rfl⟩ e (fun z => nomatch z) h
 | @frz a ob xs ea =>
  cases (show u = Value.ref a from rx)
  obtain ⟨_, _, _, n, _, h1⟩ := (show ObjOk X.prog X.w H s.heap a (.frz ob (.lst xs)) from I.hok a _ ea)
  exact PySem.W.kia_one PySem.W.kitx_list I.kIn ⟨_, h1, rfl⟩ e (fun z => nomatch z) h
 | @tup a xs ea =>
  cases (show u = Value.ref a from rx)
  obtain ⟨_, _, _, p⟩ := (show ObjOk X.prog X.w H s.heap a (.tup xs) from I.hok a _ ea)
  obtain ⟨o, h1, h2, _⟩ := p
  exact PySem.W.kia_one PySem.W.kitx_tuple I.kIn ⟨o, h1, h2⟩ e (fun z => nomatch z) h
 | @dK a kvs ea =>
  cases (show u = Value.ref a from rx)
  obtain ⟨_, _, vs, _, p⟩ := (show ObjOk X.prog X.w H s.heap a (.dK kvs) from I.hok a _ ea)
  obtain ⟨o, es, ep, h1, h2, _⟩ := p
  exact PySem.W.kia_one PySem.W.kitx_dict I.kIn ⟨o, h1, h2.1⟩ e (fun z => nomatch z) h
 | @dT a kvs ea =>
  cases (show u = Value.ref a from rx)
  obtain ⟨_, _, xs, _, o, es, ep, h1, h2, _⟩ := (show ObjOk X.prog X.w H s.heap a (.dT kvs) from I.hok a _ ea)
  exact PySem.W.kia_one PySem.W.kitx_dict I.kIn ⟨o, h1, h2.1⟩ e (fun z => nomatch z) h
 | @ins a C dx fs ea cl ha hn htk hm =>
  cases (show u = Value.ref a from rx)
  obtain ⟨mA, O, _⟩ := ins_get I.hok ea
  obtain ⟨od, J, _⟩ := O.look
  exact PySem.W.kia_one (PySem.W.kitx_own (cl.get _) cl.hd ha hn htk hm) I.kIn J e (fun z => nomatch z) h
end
end L2
namespace L2
open PySem PySem.Spec PyProof.Rows
structure Room (k : Nat) (A : Around) : Prop where
 hd : A.handled = none
 dp : A.depth + 3 * k + 5 < recursionLimit
 un : A.units + 16 * k + 200 < cLine
theorem Room.deeper {k : Nat} {A : Around} (r : Room (k + 1) A) (env : Env) : Room k (A.deeper env) :=
 ⟨r.hd, by have := r.dp; show A.depth + 1 + 3 * k + 5 < _; omega, by have := r.un; show A.units + 3 + 16 * k + 200 < _; omega⟩
theorem Room.depth {k : Nat} {A : Around} (r : Room k A) : A.depth < recursionLimit := by have := r.dp; omega
theorem Room.units {k : Nat} {A : Around} (r : Room k A) : A.units + 64 < cLine := by have := r.un; omega
noncomputable def tNil : TA := fun _ H Q => Q [] H
noncomputable def tCons (ta : TE) (tr : TA) : TA := fun σ H Q => ta σ H fun x H1 => tr σ H1 fun xs H2 => Q (x :: xs) H2
section
variable {X : Cx} {e : Expr} {es : List Expr} {te : TE} {t : TA} {pos : Pos}
theorem pa_nil : PA X [] tNil := fun _ _ _ _ H Q I h => Calls.spliced_nil ⟨[], H, I, .nil, h⟩
theorem pa_cons (ha : PE X e te) (hr : PA X es t) (hs : starEach (e :: es) X.env = (false, eval e X.env) :: starEach es X.env := by rfl) : PA X (e :: es) (tCons te t) := by
 intro pos pins s σ H Q I h
 rw [hs]
 show wpAny _ _ (spliced ((false, eval e X.env) :: backTo pos (starEach es X.env))) _ _ s
 refine Calls.spliced_cons (thn (ha pins s σ H _ I h) fun u s1 ⟨x, H1, I1, r1, q1⟩ => ?_)
 exact thn (hr pos pins s1 σ H1 _ I1 q1) fun us s2 ⟨xs, H2, I2, r2, q2⟩ => ⟨x :: xs, H2, I2, .cons r1 r2, q2⟩
noncomputable def tTup (t : TA) : TE := fun σ H Q => t σ H fun xs H1 => xs.length <= sizeLine /\ ∀ p, H1 p = none -> Q (.ref p) (upd H1 p (.tup xs))
noncomputable def tLst (t : TA) : TE := fun σ H Q => t σ H fun xs H1 => xs.length <= sizeLine /\ ∀ p, H1 p = none -> Q (.ref p) (upd H1 p (.lst xs))
theorem pe_tup {x1} (h : PA X es t) : PE X (.Tuple es x1 pos) (tTup t) := by
 intro pins s σ H Q I hq
 refine wpAny_Tuple_spliced (thn (h pos pins s σ H _ I hq) fun us s1 ⟨xs, H1, I1, r, z, q⟩ => ⟨by rw [<- r.length]; exact z, ?_⟩)
 have hf : H1 s1.heap.objs.size = none := I1.hok.fresh (Nat.le_refl _)
 refine ⟨.ref s1.heap.objs.size, upd H1 s1.heap.objs.size (.tup xs), I1.laid (t' := s1.toks) (fun b u e => Heap.get?_push_of_some _ e) (Nat.le_refl _) ?_, rfl, q _ hf⟩
 exact ⟨z, us, r, ⟨_, Heap.get?_push_size _ rfl, rfl, _, rfl⟩⟩
theorem pe_lst (h : PA X es t) : PE X (.List es pos) (tLst t) := by
 intro pins s σ H Q I hq
 refine wpAny_List_spliced (thn (h pos pins s σ H _ I hq) fun us s1 ⟨xs, H1, I1, r, z, q⟩ => ⟨by rw [<- r.length]; exact z, ?_⟩)
 have hf : H1 s1.heap.objs.size = none := I1.hok.fresh (Nat.le_refl _)
 refine ⟨.ref s1.heap.objs.size, upd H1 s1.heap.objs.size (.lst xs), I1.laid (t' := s1.toks) (fun b u e => Heap.get?_push_of_some _ e) (Nat.le_refl _) ?_, rfl, q _ hf⟩
 exact ⟨z, us, 0, r, Heap.get?_push_size _ rfl⟩
end
noncomputable abbrev Sp := List V -> Hp -> VK -> XK -> Prop
noncomputable abbrev CXT := List Env -> Hp -> Shared -> XK -> Value -> Shared -> Prop
structure Env0 (P : Program) (w : World) (K : PySem.W.Frag) (mg : Str -> Option Value) (base : Heap) (A : Around) (outer : List Env) (s : Shared) (H : Hp) : Prop where
 frames : A.frames = some outer
 mod : Mod K mg base
 bs : ∀ b o, base.get? b = some o -> s.heap.get? b = some o /\ H b = none
 bsz : base.objs.size <= s.heap.objs.size
 funs : s.heap.FunFrames base outer
 frf : ∀ b ∈ frs outer, H b = none
 hok : HOk P w H s.heap
 bare : AllBare s.gens
noncomputable def CE (outer : List Env) (P : Program) (w : World) (H : Hp) (s : Shared) (Q : VK) (u : Value) (s' : Shared) : Prop :=
 ∃ v H', s'.os = s.os /\ AllBare s'.gens /\ Un (frs outer) [] H H' s.heap s'.heap /\ HOk P w H' s'.heap /\ RelV v u /\ Q v H'
noncomputable def CR (CX : CXT) (outer : List Env) (P : Program) (w : World) (H : Hp) (s : Shared) (Q : VK) (E : XK) (r : Result) (s' : Shared) : Prop :=
 match r with
 | .ok (.ret u) => CE outer P w H s Q u s'
 | .ok _ => False
 | .error e => CX outer H s E e s'
structure FnOk (P : Program) (w : World) (K : PySem.W.Frag) (mg : Str -> Option Value) (base : Heap) (CX : CXT) (k : Nat) (f : Addr) (fd : FuncData) (ps : List Str) (sp : Sp) : Prop where
 len : ∀ vs H Q E, sp vs H Q E -> vs.length = ps.length
 run : ∀ (A : Around) (outer : List Env) (s : Shared) (H : Hp) (args : Args) (us : List Value) (vs : List V) (Q : VK) (E : XK), Room k A -> Env0 P w K mg base A outer s H -> BindsTo s fd args (ps.zip us) -> Vals vs us -> sp vs H Q E ->
  codeAny (model P w) A (.call (.ref f) args) (CR CX outer P w H s Q E) s
theorem FnOk.imp {P : Program} {w : World} {K : PySem.W.Frag} {mg : Str -> Option Value} {base : Heap} {CX : CXT} {k : Nat} {f : Addr} {fd : FuncData} {ps : List Str} {sp sp' : Sp} (F : FnOk P w K mg base CX k f fd ps sp)
  (h : ∀ vs H Q E, sp' vs H Q E -> sp vs H Q E) : FnOk P w K mg base CX k f fd ps sp' :=
 ⟨fun vs H Q E q => F.len vs H Q E (h _ _ _ _ q), fun A outer s H args us vs Q E hr he hb hv hs => F.run A outer s H args us vs Q E hr he hb hv (h _ _ _ _ hs)⟩
section
variable {X : Cx} {pins : List (Addr × Obj)} {σ : St} {H : Hp} {s s' : Shared}
theorem Inv.env0 (I : Inv X pins σ H s) : Env0 X.prog X.w X.K X.mg X.base X.A X.stack s H :=
 ⟨I.ok.frames, I.ok.mod, I.bs, Nat.le_trans I.ok.bsz I.sz, I.stack, I.stkFree, I.hok, I.bare⟩
theorem Inv.after {Q : VK} {u : Value} (I : Inv X pins σ H s) (h : CE X.stack X.prog X.w H s Q u s') : EP X pins σ Q u s' := by
 obtain ⟨v, H', os, bare, un, hok, r, q⟩ := h
 obtain ⟨hh, g, d, t, os'⟩ := s'
 obtain rfl : os' = s.os := os
 exact ⟨v, H', I.call (h' := hh) (g' := g) (d' := d) (t' := t) (ch := []) un hok bare (fun b z => absurd z (by simp)), r, q⟩
end
noncomputable def tCall (sp : Sp) (dvs : List V) (E : XK) (t : TA) : TE := fun σ H Q => t σ H fun vs H1 => sp (vs ++ dvs) H1 Q E
noncomputable def Binds (K : PySem.W.Frag) (fd : FuncData) (ps : List Str) (ds : List Value) : Prop :=
 ∀ (s : Shared) (us : List Value), K.In s.heap -> (us ++ ds).length = ps.length -> BindsTo s fd ⟨us, []⟩ (ps.zip (us ++ ds))
theorem Binds.all {K : PySem.W.Frag} {fd : FuncData} {ps : List Str} (h : ∀ us : List Value, us.length = ps.length -> bindArgs fd ⟨us, []⟩ = pure (ps.zip us)) : Binds K fd ps [] := fun s us _ hl => by
 rw [List.append_nil] at hl ⊢
 exact .of_eq (h us hl)
noncomputable def Passes (CX : CXT) (X : Cx) (E : XK) : Prop := ∀ (pins : List (Addr × Obj)) (σ : St) (H : Hp) (s : Shared) (e : Value) (s' : Shared), Inv X pins σ H s -> CX X.stack H s E e s' -> X.xe e s'
section
variable {X : Cx} {CX : CXT} {k : Nat} {f C : Addr} {fd : FuncData} {ps : List Str} {sp : Sp} {dvs : List V} {ds : List Value} {E : XK} {x m : Str} {p pos apos : Pos} {e o : Expr} {es : List Expr} {ta : TE} {t : TA}
theorem run_fn {pins : List (Addr × Obj)} {σ : St} {H : Hp} {s : Shared} {Q : VK} {us : List Value} {vs : List V} (F : FnOk X.prog X.w X.K X.mg X.base CX k f fd ps sp) (hr : Room k X.A) (hb : Binds X.K fd ps ds) (hd : Vals dvs ds) (hx : Passes CX X E)
  (I : Inv X pins σ H s) (r : Vals vs us) (h : sp (vs ++ dvs) H Q E) : wpAny (model X.prog X.w) X.A (call (.ref f) us) (EP X pins σ Q) X.xe s := by
 have r2 : Vals (vs ++ dvs) (us ++ ds) := r.append hd
 have hl : (us ++ ds).length = ps.length := by rw [<- r2.length]; exact F.len _ _ _ _ h
 refine wpAny_call (codeAny_mono (F.run X.A X.stack s H ⟨us, []⟩ (us ++ ds) (vs ++ dvs) Q E hr I.env0 (hb s us I.kIn hl) r2 h) fun r s' hq => ?_)
 cases r with
 | error e => exact hx pins σ H s e s' I hq
 | ok fl =>
  cases fl with
  | ret u => exact I.after hq
  | next => exact False.elim hq
  | brk => exact False.elim hq
  | cont => exact False.elim hq
theorem pe_call (F : FnOk X.prog X.w X.K X.mg X.base CX k f fd ps sp) (hr : Room k X.A) (hg : Gl X x) (hm : X.mg x = some (.ref f)) (hk : PySem.W.keepIn X.K (.ref f) = true) (hb : Binds X.K fd ps ds) (hd : Vals dvs ds) (hx : Passes CX X E)
  (ha : PA X (e :: es) t) (hdb : (x == ("__debug__" : Str)) = false := by decide) (he : starEach (e :: es) X.env = (false, eval e X.env) :: starEach es X.env := by rfl) (hpl : (backTo pos (starEach es X.env)).any (·.1) = false := by rfl) :
  PE X (.Call (.Name x p) (e :: es) [] pos) (tCall sp dvs E t) := by
 intro pins s σ H Q I h
 refine wpAny_Call_Name_kw (ld_glob I hg hm ?_ hdb)
 refine PySem.W.callWith_K (h₀ := X.base) I.ok.mod.kin hk (thn (ha pos pins s σ H _ I h) fun us s1 ⟨vs, H1, I1, r, q⟩ => ⟨I1.kIn, ?_⟩) he hpl
 exact run_fn F hr hb hd hx I1 r q
end
structure FnScope (N P : List Str) (sc : Scope) : Prop where
 kind : sc.kind = .function
 co : sc.isCoroutine = false
 gen : sc.isGenerator = false
 nd : N.Nodup
 pre : N.take P.length = P
 par : ∀ x ∈ P, sc.names.lookup x = some .local \/ sc.names.lookup x = some .cell
 nofree : ∀ y ∈ sc.names, y.2 ≠ .free
theorem bindL_out {kindOf : Str -> Option NameKind} {x : Str} : ∀ {binds : List (Str × Value)} {m : Str -> Option Value}, (∀ v, (x, v) ∉ binds) -> bindL kindOf binds m x = m x
 | [], _, _ => rfl
 | (n, v) :: r, m, h => by
  unfold bindL
  rw [bindL_out fun w hw => h w (List.mem_cons_of_mem _ hw)]
  split
  ·have : x ≠ n := by rintro rfl; exact h v List.mem_cons_self
   simp [this]
  ·rfl
theorem bindC_out {kindOf : Str -> Option NameKind} {x : Str} : ∀ {binds : List (Str × Value)} {m : Str -> Option Value}, (∀ v, (x, v) ∉ binds) -> bindC kindOf binds m x = m x
 | [], _, _ => rfl
 | (n, v) :: r, m, h => by
  unfold bindC
  rw [bindC_out fun w hw => h w (List.mem_cons_of_mem _ hw)]
  split
  ·rfl
  ·have : x ≠ n := by rintro rfl; exact h v List.mem_cons_self
   simp [this]
theorem bindL_get {kindOf : Str -> Option NameKind} {x : Str} {v : Value} : ∀ {P : List Str} {vs : List Value} {i : Nat} {m : Str -> Option Value}, P.Nodup -> P[i]? = some x -> vs[i]? = some v -> kindOf x = some .local ->
  bindL kindOf (P.zip vs) m x = some v
 | [], _, _, _, _, h, _, _ => by simp at h
 | _ :: _, [], _, _, _, _, h, _ => by simp at h
 | p :: P, w :: vs, 0, m, nd, h1, h2, hk => by
  simp at h1 h2; subst h1; subst h2
  show bindL kindOf ((p, w) :: P.zip vs) m p = _
  unfold bindL
  rw [bindL_out fun v hv => (List.nodup_cons.mp nd).1 (List.of_mem_zip hv).1, if_pos hk]
  simp
 | p :: P, w :: vs, i + 1, m, nd, h1, h2, hk => by
  show bindL kindOf ((p, w) :: P.zip vs) m x = _
  unfold bindL
  exact bindL_get (i := i) (List.nodup_cons.mp nd).2 (by simpa using h1) (by simpa using h2) hk
theorem bindC_get {kindOf : Str -> Option NameKind} {x : Str} {v : Value} : ∀ {P : List Str} {vs : List Value} {i : Nat} {m : Str -> Option Value}, P.Nodup -> P[i]? = some x -> vs[i]? = some v -> kindOf x ≠ some .local ->
  bindC kindOf (P.zip vs) m x = some v
 | [], _, _, _, _, h, _, _ => by simp at h
 | _ :: _, [], _, _, _, _, h, _ => by simp at h
 | p :: P, w :: vs, 0, m, nd, h1, h2, hk => by
  simp at h1 h2; subst h1; subst h2
  show bindC kindOf ((p, w) :: P.zip vs) m p = _
  unfold bindC
  rw [bindC_out fun v hv => (List.nodup_cons.mp nd).1 (List.of_mem_zip hv).1, if_neg hk]
  simp
 | p :: P, w :: vs, i + 1, m, nd, h1, h2, hk => by
  show bindC kindOf ((p, w) :: P.zip vs) m x = _
  unfold bindC
  exact bindC_get (i := i) (List.nodup_cons.mp nd).2 (by simpa using h1) (by simpa using h2) hk
noncomputable def start (N : List Str) (vs : List V) : St := vs.map some ++ List.replicate (N.length - vs.length) none
noncomputable def cxOf (CX : CXT) (P : Program) (w : World) (K : PySem.W.Frag) (mg : Str -> Option Value) (base : Heap) (N : List Str) (qual : Str) (scope : Scope) (f : Addr) (cd : Value) (A : Around) (outer : List Env) (s : Shared) (H : Hp) (E : XK) : Cx where
 prog := P
 w := w
 K := K
 mg := mg
 base := base
 A := A.deeper (envOfC qual scope s.heap.objs.size f cd)
 N := N
 s₀ := s
 H₀ := H
 env := envOfC qual scope s.heap.objs.size f cd
 outer := outer
 stack := envOfC qual scope s.heap.objs.size f cd :: outer
 ex := []
 calm := true
 fn := fun _ => true
 pn := []
 xe := fun e s' => wpAny (model P w) (A.deeper (envOfC qual scope s.heap.objs.size f cd)) (leaving (envOfC qual scope s.heap.objs.size f cd) e) (fun _ s'' => CX outer H s E e s'') (fun e' s'' => CX outer H s E e' s'') s'
theorem cell_has {sc : Scope} {n : Nat} {x : Str} (h : sc.names.lookup x = some .cell) : ∃ c, (cellsFrom n sc.names []).lookup x = some c := by
 have q := PySem.W.cellsFrom_some sc.names n [] (.inl h)
 exact Option.isSome_iff_exists.mp q
theorem inv_start {CX : CXT} {P : Program} {w : World} {K : PySem.W.Frag} {mg : Str -> Option Value} {base : Heap} {N ps : List Str} {qual : Str} {scope : Scope} {f : Addr} {cd : Value} {A : Around} {outer : List Env} {s s1 : Shared} {H : Hp} {E : XK} {us : List Value} {vs : List V}
  (S : FnScope N ps scope) (hd : A.handled = none) (e0 : Env0 P w K mg base A outer s H) (hl : vs.length = ps.length) (r : Vals vs us)
  (x : InCallC s s.heap.objs.size (bindL (envOfC qual scope s.heap.objs.size f cd).kindOf (ps.zip us) fun _ => none) (cellsFrom (s.heap.objs.size + 1) scope.names []) (bindC (envOfC qual scope s.heap.objs.size f cd).kindOf (ps.zip us) fun _ => none) s1) :
  Inv (cxOf CX P w K mg base N qual scope f cd A outer s H E) [] (start N vs) H s1 := by
 have hpl : ps.length <= N.length := by have := congrArg List.length S.pre; rw [List.length_take] at this; omega
 obtain ⟨h1, tk, rfl, hk⟩ := x.done
 have noA : ∀ b : Addr, b ∉ (cxOf CX P w K mg base N qual scope f cd A outer s H E).ex := fun b z => absurd (show b ∈ ([] : List Addr) from z) (by simp)
 refine ⟨⟨e0.mod, S.kind, rfl, rfl, Nat.le_refl _, fun y z c h1 h2 => ?_, fun y hy => ?_, fun y c _ h => ?_, fun _ => hd, Around.frames_deeper e0.frames, .inr ⟨rfl, rfl⟩, fun b z => absurd z (noA b), e0.bs, e0.bsz, fun b _ _ => noA b, fun b z => absurd z (noA b), e0.funs, e0.frf⟩,
  rfl, e0.bare, Un.kept hk, ⟨_, x.toInCall.ns, fun i y v h1 h2 h3 => ?_⟩, fun y c h => ⟨_, x.cell y c h⟩, e0.hok.fresh (Nat.le_refl _), fun y c h => ?_, fun p hp => absurd (show p ∈ ([] : List (Addr × Obj)) from hp) (by simp), e0.hok.kept hk, ?_⟩
 ·exact name_of_addr x.apart (PySem.mem_of_lookup h1) (PySem.mem_of_lookup h2)
 ·have hy : scope.names.lookup y = some .cell \/ scope.names.lookup y = some .free := hy
  rcases hy with hy | hy
  ·exact cell_has hy
  ·exact absurd rfl (S.nofree _ (PySem.mem_of_lookup hy))
 ·exact Nat.le_of_lt (x.above y c (PySem.mem_of_lookup h))
 ·have hi : i < vs.length := by
   unfold start at h2
   by_cases hi : i < vs.length
   ·exact hi
   ·rw [List.getElem?_append_right (by simpa using hi)] at h2
    rw [List.getElem?_replicate] at h2
    split at h2 <;> cases h2
  have ha : vs[i]? = some v := by
   unfold start at h2
   rw [List.getElem?_append_left (by simpa using hi), List.getElem?_map] at h2
   cases e : vs[i]? with
   | none => rw [e] at h2; cases h2
   | some a => rw [e] at h2; cases h2; rfl
  obtain ⟨u, hu, rv⟩ := r.get ha
  have hp : ps[i]? = some y := by
   rw [<- S.pre, List.getElem?_take_of_lt (by omega)]; exact h1
  have ndP : ps.Nodup := by rw [<- S.pre]; exact S.nd.sublist (List.take_sublist _ _)
  refine ⟨u, rv, ?_⟩
  rcases S.par y (List.mem_of_getElem? hp) with k | k
  ·exact .inl ⟨k, bindL_get ndP hp hu k⟩
  ·obtain ⟨c, e⟩ := cell_has (n := s.heap.objs.size + 1) k
   refine .inr ⟨.inl k, c, e, ?_⟩
   have q := x.cell y c e
   rw [bindC_get ndP hp hu (by show scope.names.lookup y ≠ _; rw [k]; decide)] at q
   exact q
 ·exact e0.hok.fresh (Nat.le_of_lt (x.above y c (PySem.mem_of_lookup h)))
 ·unfold start
  show _ = N.length
  rw [List.length_append, List.length_map, List.length_replicate]
  omega
theorem fn_of {CX : CXT} {P : Program} {w : World} {K : PySem.W.Frag} {mg : Str -> Option Value} {base : Heap} {k : Nat} {f : Addr} {name qual : Str} {params : Arguments} {body : List Stmt} {scope : Scope} {dV kV doc pm cdv ct oc : Value} {an od : Option Addr}
  {osl : Array (Option Value)} {N ps : List Str} {sp : Sp} (lk : K.lookup f = some ⟨oc, od, .func (PySem.W.fnOf name qual params body scope dV kV doc pm an cdv ct), osl⟩) (hcd : PySem.W.codeIn K cdv qual = true) (S : FnScope N ps scope)
  (len : ∀ vs H Q E, sp vs H Q E -> vs.length = ps.length)
  (hbody : ∀ (A : Around) (outer : List Env) (s : Shared) (H : Hp) (vs : List V) (Q : VK) (E : XK), Room k (A.deeper (envOfC qual scope s.heap.objs.size f cdv)) -> sp vs H Q E ->
   ∃ t, PSs (cxOf CX P w K mg base N qual scope f cdv A outer s H E) body t /\ t { nx := fun _ H' => Q .non H', rt := Q } (start N vs) H) :
  FnOk P w K mg base CX (k + 1) f (PySem.W.fnOf name qual params body scope dV kV doc pm an cdv ct) ps sp := by
 refine ⟨len, fun A outer s H args us vs Q E hr e0 hb r hsp => ?_⟩
 have hl := len _ _ _ _ hsp
 have KX : K.In s.heap := e0.mod.kin.keeps fun b o e => (e0.bs b o e).1
 have lim : s.heap.NoLimit := e0.mod.nolimit.keeps fun b o e => (e0.bs b o e).1
 have hkind : ∀ y ∈ ps.zip us, scope.names.lookup y.1 = some .local \/ (scope.names.lookup y.1 = some .cell /\ ((cellsFrom (s.heap.objs.size + 1) scope.names []).lookup y.1).isSome = true) := fun ⟨n, v⟩ hy => by
  rcases S.par n (List.of_mem_zip hy).1 with q | q
  ·exact .inl q
  ·exact .inr ⟨q, PySem.W.cellsFrom_some _ _ _ (.inl q)⟩
 refine codeAny_call_function hr.depth (KX _ _ lk) rfl S.co S.gen rfl (PySem.W.codeRec_of KX hcd) (hb _ _ _ _ ?_)
 refine wpAny_newFunctionEnv_cells S.kind hkind fun env he s1 x => ?_
 subst he
 refine ⟨lim.keeps x.toInCall.keep, codeAny_func ?_⟩
 obtain ⟨t, ht, hq⟩ := hbody A outer s H vs Q E (hr.deeper _) hsp
 have I : Inv (cxOf CX P w K mg base N qual scope f cdv A outer s H E) [] (start N vs) H s1 := inv_start S hr.hd e0 hl r x
 refine wpAny_mono (ht [] s1 (start N vs) H _ I hq) (fun fl s' hs => ?_) fun e s' hs => hs
 have fin : ∀ {σ' : St} {H' : Hp} {v : V} {u : Value}, Inv (cxOf CX P w K mg base N qual scope f cdv A outer s H E) [] σ' H' s' -> RelV v u -> Q v H' -> CE outer P w H s Q u s' :=
  fun {σ' H' v u} J rv q => ⟨v, H', J.os, J.bare, J.base, J.hok, rv, q⟩
 cases fl with
 | ret u =>
  obtain ⟨v, σ', H', J, rv, q⟩ := hs
  exact fin J rv q
 | next =>
  obtain ⟨σ', H', J, q⟩ := hs
  exact fin (v := V.non) (u := Value.none) J rfl q
 | brk =>
  obtain ⟨_, _, _, q⟩ := hs
  exact False.elim q
 | cont =>
  obtain ⟨_, _, _, q⟩ := hs
  exact False.elim q
end L2
namespace L2
open PySem PySem.Spec PyProof.Rows
section
variable {X : Cx} {x : Str} {p pos : Pos} {e : Expr} {es : List Expr} {t : TA} {id T : String} {r : List V -> Hp -> VK -> Prop}
noncomputable def tCB (r : List V -> Hp -> VK -> Prop) (t : TA) : TE := fun σ H Q => t σ H fun vs H1 => r vs H1 Q
theorem pe_callB (hc : CallR X (.builtin id) r) (hg : Gl X x) (hm : X.mg x = none) (hv : bootBuiltins x = some (.builtin id)) (ha : PA X (e :: es) t) (hn : x ≠ "__name__" := by decide) (hdb : (x == ("__debug__" : Str)) = false := by decide)
  (he : starEach (e :: es) X.env = (false, eval e X.env) :: starEach es X.env := by rfl) (hpl : (backTo pos (starEach es X.env)).any (·.1) = false := by rfl) : PE X (.Call (.Name x p) (e :: es) [] pos) (tCB r t) := by
 intro pins s σ H Q I h
 refine wpAny_Call_Name_kw (ld_blt I hg hm hv ?_ hn hdb)
 exact PyProof.Rows.callWith_builtin1 (thn (ha pos pins s σ H _ I h) fun us s1 ⟨vs, H1, I1, r1, q1⟩ => hc pins s1 σ H1 vs us Q I1 r1 q1) he hpl
theorem pe_callTy (hc : CallR X (.type T) r) (hg : Gl X x) (hm : X.mg x = none) (hv : bootBuiltins x = some (.type T)) (ha : PA X (e :: es) t) (hn : x ≠ "__name__" := by decide) (hdb : (x == ("__debug__" : Str)) = false := by decide)
  (he : starEach (e :: es) X.env = (false, eval e X.env) :: starEach es X.env := by rfl) (hpl : (backTo pos (starEach es X.env)).any (·.1) = false := by rfl) : PE X (.Call (.Name x p) (e :: es) [] pos) (tCB r t) := by
 intro pins s σ H Q I h
 refine wpAny_Call_Name_kw (ld_blt I hg hm hv ?_ hn hdb)
 exact PyProof.Rows.callWith_type1 (thn (ha pos pins s σ H _ I h) fun us s1 ⟨vs, H1, I1, r1, q1⟩ => hc pins s1 σ H1 vs us Q I1 r1 q1) he hpl
end
end L2
namespace HT
open PySem PyProof.Rows
noncomputable def lexLt : List Int -> List Int -> Bool
 | [], [] => false
 | [], _ :: _ => true
 | _ :: _, [] => false
 | x :: xs, y :: ys => if x = y then lexLt xs ys else decide (x < y)
theorem lexLt_cons (x y : Int) (xs ys : List Int) : lexLt (x :: xs) (y :: ys) = if x = y then lexLt xs ys else decide (x < y) := rfl
theorem lexLt_nil_nil : lexLt [] [] = false := rfl
theorem lexLt_nil_cons (y : Int) (ys : List Int) : lexLt [] (y :: ys) = true := rfl
theorem lexLt_cons_nil (x : Int) (xs : List Int) : lexLt (x :: xs) [] = false := rfl
theorem eqAt_int (A : Around) (s : Shared) (a : Int) (t : Tok) (c : Int) (u : Tok) : ∃ e, SeqAt.EqAt A s (.int a t) (.int c u) e /\ (e = true ↔ a = c) :=
 ⟨(a == c), SeqAt.EqAt.int_int a t c u, by simp⟩
theorem rcLt_int (A : Around) (s : Shared) (a : Int) (t : Tok) (c : Int) (u : Tok) (prog : Program) (w : World) (E : Value -> Shared -> Prop) (Q : Value -> Shared -> Prop) (h : Q (.bool (decide (a < c))) s) :
  wpAny (model prog w) A (richCompare .Lt (.int a t) (.int c u)) Q E s :=
 (PyProof.Rows.lt_int h : wpAny (model prog w) A (compareOp .Lt (.int a t) (.int c u)) Q E s)
section
open PySem.SeqAt
open PySem.AutoSeq1 (wpAny_loadPart')
open PySem.MeetsSeq PySem.MeetsSeq2 PySem.MeetsSeq3
theorem tuple_lt_ints (l b : Addr) (items items2 : Array Value) (n n2 : Nat) (dd dd2 : Option Addr) (sl sl2 : Array (Option Value)) (ns ms : List Int) (hi : IntsAre items.toList ns) (hj : IntsAre items2.toList ms) :
  Meets (Builtin.«tuple.__lt__» ⟨[.ref l, .ref b], []⟩)
   (fun _ R s => s.heap.get? l = some { cls := .type "tuple", dict := dd, data := .seq items n, slots := sl } /\ s.heap.get? b = some { cls := .type "tuple", dict := dd2, data := .seq items2 n2, slots := sl2 } /\
    R (.ok (.ret (.bool (lexLt ns ms)))) s) :=
 .of_wp fun prog w A R s h => by
  obtain ⟨hp, g, d, tk, os⟩ := s; obtain ⟨hl, hb, h⟩ := h
  have f2 := AutoSeq1.sub_tuple_tuple
  have z1 : items.size = ns.length := by rw [<- hi.length]; simp
  have z2 : items2.size = ms.length := by rw [<- hj.length]; simp
  wp_walk using wpAny_loadPart' hl, wpAny_loadPart' hb, wpAny_forIn_list _ (fun rest b s' => b.1 = none /\ s' = ⟨hp, g, d, tk, os⟩ /\ ∃ (vs ws : List Value) (ns' ms' : List Int), rest = vs.zip ws /\
   IntsAre vs ns' /\ IntsAre ws ms' /\ ns'.length + items2.size = ms'.length + items.size /\ R (.ok (.ret (.bool (lexLt ns' ms')))) ⟨hp, g, d, tk, os⟩) _
  case turn =>
   rintro ⟨y, x⟩ rest b s' ⟨hb', rfl, vs, ws, ns', ms', hz, hvi, hwi, hlen, hR⟩
   cases hvi with
   | nil => rw [List.zip_nil_left] at hz; cases hz
   | cons a t hvi' =>
    cases hwi with
    | nil => rw [List.zip_nil_right] at hz; cases hz
    | cons c u hwi' =>
     rw [List.zip_cons_cons] at hz
     injection hz with hyx hrest
     injection hyx with hy hx
     subst hy hx
     rw [lexLt_cons] at hR
     simp only [List.length_cons] at hlen
     obtain ⟨e, he, hiff⟩ := eqAt_int A.in1 ⟨hp, g, d, tk, os⟩ a t c u
     refine wpAny_bind (he prog w _ _ ?_)
     cases e with
     | true =>
      rw [if_pos (hiff.mp rfl)] at hR
      wp_walk
      exact ⟨rfl, rfl, _, _, _, _, hrest, hvi', hwi', by omega, hR⟩
     | false =>
      rw [if_neg (fun q => absurd (hiff.mpr q) Bool.false_ne_true)] at hR
      have hri := rcLt_int A.in1 ⟨hp, g, d, tk, os⟩ a t c u prog w
      wp_walk using hri
      exact ⟨_, rfl, by simpa using hR⟩
  case fin =>
   rintro ⟨b1, b2⟩ s' ⟨hb', rfl, vs, ws, ns', ms', hz, hvi, hwi, hlen, hR⟩
   simp only at hb'
   subst hb'
   have hv : lexLt ns' ms' = decide (items.size < items2.size) := by
    cases hvi with
    | nil =>
     cases hwi with
     | nil =>
      simp only [List.length_nil] at hlen
      rw [lexLt_nil_nil]
      exact (decide_eq_false (by omega)).symm
     | cons c u hw =>
      simp only [List.length_nil, List.length_cons] at hlen
      rw [lexLt_nil_cons]
      exact (decide_eq_true (by omega)).symm
    | cons a t hv =>
     cases hwi with
     | nil =>
      simp only [List.length_nil, List.length_cons] at hlen
      rw [lexLt_cons_nil]
      exact (decide_eq_false (by omega)).symm
     | cons c u hw =>
      rw [List.zip_cons_cons] at hz
      cases hz
   rw [hv] at hR
   wp_walk
   exact ⟨_, rfl, by simpa [Builtin.Tuple.tupleCompareSizes] using hR⟩
  case h =>
   exact ⟨rfl, rfl, items.toList, items2.toList, ns, ms, rfl, hi, hj, by omega, h⟩
end
section
variable {prog : Program} {w : World} {A : Around} {E : Value -> Shared -> Prop} {s : Shared}
theorem lt_tupInts {l b : Addr} {items items2 : Array Value} {ns ms : List Int} {Q : Value -> Shared -> Prop} (hl : IsTup s.heap l items) (hb : IsTup s.heap b items2) (hi : IntsAre items.toList ns) (hj : IntsAre items2.toList ms)
  (hu : A.units < cLine) (h : Q (.bool (lexLt ns ms)) s) : wpAny (model prog w) A (compareOp .Lt (.ref l) (.ref b)) Q E s := by
 obtain ⟨⟨cls, dd, data, sl⟩, ho, hc, n, hd⟩ := id hl
 obtain ⟨⟨cls2, dd2, data2, sl2⟩, ho2, hc2, n2, hd2⟩ := id hb
 simp only at hc hd hc2 hd2
 subst hc hd hc2 hd2
 exact richCompare_meets_room (op := .Lt) ⟨_, ho, rfl⟩ ⟨_, ho2, rfl⟩ PySem.F.slot_tuple_lt PySem.F.entry_tuple_lt (PySem.F.args_tuple_lt_2 _ _) (tuple_lt_ints l b items items2 n n2 dd dd2 sl sl2 ns ms hi hj)
  ⟨ho, ho2, show Value.bool (lexLt ns ms) ≠ Value.notImplemented /\ Q (.bool (lexLt ns ms)) s from ⟨(fun x => nomatch x), h⟩⟩ hu
theorem cat_tup {t b : Addr} {vs ws : List Value} {Q : Value -> Shared -> Prop} (ht : IsTup s.heap t vs.toArray) (hb : IsTup s.heap b ws.toArray) (hv : vs ≠ [])
  (h1 : ws = [] -> Q (.ref t) s) (h2 : ws ≠ [] -> Q (.ref s.heap.objs.size) { s with heap := s.heap.push { cls := .type "tuple", data := .seq (vs ++ ws).toArray } })
  (hsz : vs.length + ws.length <= sizeLine) : wpAny (model prog w) A (binaryOp .Add (.ref t) (.ref b)) Q E s := by
 obtain ⟨⟨cls, dd, data, sl⟩, ho, hc, n, hd⟩ := id ht
 obtain ⟨⟨cls2, dd2, data2, sl2⟩, ho2, hc2, n2, hd2⟩ := id hb
 simp only at hc hd hc2 hd2
 subst hc hd hc2 hd2
 have e : vs.toArray ++ ws.toArray = (vs ++ ws).toArray := by simp
 by_cases hw : ws = []
 ·exact concat_meets ⟨_, ho, rfl⟩ ⟨_, ho2, rfl⟩ noFill_tuple_add seq_tuple_add PySem.F.slot_tuple_add PySem.F.entry_tuple_add (PySem.F.args_tuple_add_2 _ _)
   (tuple_addW1 t b vs.toArray ws.toArray n n2 dd dd2 sl sl2 (by simpa using hv) (by simp [hw])) ⟨ho, ho2, h1 hw⟩
 ·refine concat_meets ⟨_, ho, rfl⟩ ⟨_, ho2, rfl⟩ noFill_tuple_add seq_tuple_add PySem.F.slot_tuple_add PySem.F.entry_tuple_add (PySem.F.args_tuple_add_2 _ _)
   (tuple_addW2 t b vs.toArray ws.toArray n n2 dd dd2 sl sl2 (by simpa using hv) (by simpa using hw) (by rw [List.size_toArray, List.size_toArray]; exact hsz)) ⟨ho, ho2, ?_⟩
  rw [e]
  exact h2 hw
noncomputable def sIx (n d : Nat) : Option Int -> Nat
 | none => d
 | some v => if v < 0 then (v + (n : Int)).toNat else min v.toNat n
theorem sIx_le (n d : Nat) (hd : d <= n) (o : Option Int) : sIx n d o <= n := by
 cases o with
 | none => exact hd
 | some v =>
  show (if v < 0 then (v + (n : Int)).toNat else min v.toNat n) <= n
  by_cases hv : v < 0
  ·rw [if_pos hv]; omega
  ·rw [if_neg hv]; exact Nat.min_le_right _ _
theorem clip_eq (v : Int) (n d : Nat) : (if v < 0 then max (v + (n : Int)) 0 else min v (n : Int)) = ((sIx n d (some v) : Nat) : Int) := by
 show (if v < 0 then max (v + (n : Int)) 0 else min v (n : Int)) = (((if v < 0 then (v + (n : Int)).toNat else min v.toNat n) : Nat) : Int)
 by_cases hv : v < 0
 ·simp only [if_pos hv]; omega
 ·simp only [if_neg hv]; omega
theorem adjust_gen (lo hi : Option Int) (n : Nat) : Builtin.Slice.sliceAdjust lo hi 1 (n : Int) = (((sIx n 0 lo : Nat) : Int), ((sIx n n hi : Nat) : Int)) := by
 have h1 : ¬ ((1 : Int) < 0) := by omega
 unfold Builtin.Slice.sliceAdjust
 simp only [h1, if_false]
 refine Prod.ext ?_ ?_
 ·cases lo with
  | none => rfl
  | some v => exact clip_eq v n 0
 ·cases hi with
  | none => rfl
  | some v => exact clip_eq v n n
theorem places_gen (i j : Nat) : Builtin.Slice.slicePlaces (i : Int) (j : Int) 1 = j - i := by
 unfold Builtin.Slice.slicePlaces
 have h1 : (1 : Int) > 0 := by omega
 simp only [h1, if_true, Int.ediv_one]
 split <;> omega
theorem slicePart_ {v : Value} {o : Option Int} {Q : Option Int -> Shared -> Prop} (p : IsPart v o) (h : Q o s) : wpAny (model prog w) A (Builtin.Slice.slicePartIndex v) Q E s := by
 cases p with
 | none => exact slicePart_none h
 | int i t => exact slicePart_int h
theorem sliceApplied_gen {sl : Addr} {vl vu : Value} {lo hi : Option Int} {n : Nat} {Q : Int × Int × Nat -> Shared -> Prop} (hs : s.heap.IsSliceOf sl vl vu .none) (pl : IsPart vl lo) (pu : IsPart vu hi)
  (h : Q (((sIx n 0 lo : Nat) : Int), 1, sIx n n hi - sIx n 0 lo) s) : wpAny (model prog w) A (Builtin.Slice.sliceApplied (.ref sl) (pure (n : Int))) Q E s := by
 obtain ⟨os, hos, hcs, hds⟩ := id hs
 unfold Builtin.Slice.sliceApplied Builtin.Slice.sliceFields
 refine wpAny_bind (wpAny_bind (wpAny_field hos hds (x := vl) rfl (wpAny_bind (wpAny_field hos hds (x := vu) rfl (wpAny_bind (wpAny_field hos hds (x := .none) rfl (wpAny_pure ?_)))))))
 refine wpAny_bind (slicePart_none ?_)
 show wpAny _ _ (if ((1 : Int) == 0) = true then _ else _) _ _ s
 rw [if_neg (by decide)]
 refine wpAny_bind (slicePart_ pl (wpAny_bind (slicePart_ pu (wpAny_bind (wpAny_pure ?_)))))
 show wpAny _ _ (match Builtin.Slice.sliceAdjust lo hi 1 (n : Int) with | (lo, hi) => pure (lo, (1 : Int), Builtin.Slice.slicePlaces lo hi 1)) _ _ s
 rw [adjust_gen lo hi n]
 show wpAny _ _ (pure (((sIx n 0 lo : Nat) : Int), (1 : Int), Builtin.Slice.slicePlaces ((sIx n 0 lo : Nat) : Int) ((sIx n n hi : Nat) : Int) 1)) _ _ s
 rw [places_gen]
 exact wpAny_pure h
theorem pick_gen (xs : Array Value) (i k : Nat) : ((List.range k).filterMap fun (m : Nat) => xs[((i : Int) + (m : Int) * 1).toNat]?).toArray = ((xs.toList.drop i).take k).toArray := by
 have e : (fun (m : Nat) => xs[((i : Int) + (m : Int) * 1).toNat]?) = fun m => xs[i + m]? := by
  funext m
  have : ((i : Int) + (m : Int) * 1).toNat = i + m := by omega
  rw [this]
 rw [e]
 have := pick_run xs i k
 rw [List.filterMap_map] at this
 have e2 : ((fun x => xs[x]?) ∘ fun x => i + x) = fun m => xs[i + m]? := rfl
 rw [e2] at this
 rw [this]
theorem getItem_tuple_cut {t sl : Addr} {items : Array Value} {vl vu : Value} {lo hi : Option Int} {Q : Value -> Shared -> Prop} (ht : IsTup s.heap t items) (hs : s.heap.IsSliceOf sl vl vu .none) (pl : IsPart vl lo) (pu : IsPart vu hi)
  (hw : ¬ (sIx items.size 0 lo = 0 /\ sIx items.size items.size hi = items.size))
  (h : Q (.ref s.heap.objs.size) { s with heap := s.heap.push { cls := .type "tuple", data := .seq ((items.toList.drop (sIx items.size 0 lo)).take (sIx items.size items.size hi - sIx items.size 0 lo)).toArray } })
  (hsz : items.size <= sizeLine) : wpAny (model prog w) A (getItem (.ref t) (.ref sl)) Q E s := by
 have htake : sizeOk (.seq ((items.toList.drop (sIx items.size 0 lo)).take (sIx items.size items.size hi - sIx items.size 0 lo)).toArray) := by
  show ((items.toList.drop (sIx items.size 0 lo)).take (sIx items.size items.size hi - sIx items.size 0 lo)).toArray.size <= sizeLine
  rw [List.size_toArray, List.length_take, List.length_drop, Array.length_toList]
  omega
 have hj : sIx items.size items.size hi <= items.size := sIx_le _ _ (Nat.le_refl _) hi
 obtain ⟨os, hos, hcs, hds⟩ := id hs
 have hTs : s.TypeIs (.ref sl) "slice" := ⟨os, hos, hcs⟩
 unfold getItem
 try with_reducible refine wpAny_holding ?_
 first | refine wpAny_bind (wpAny_pure ?_) | skip
 refine wpAny_bind (wpAny_sequenceKey ht.typeIs (by decide) ?_)
 refine wpAny_bind (wpAny_callSpecial?_slot (name := Str.ofString "__getitem__") ht.typeIs PyProof.Rows.slot_tuple_getitem
  (wpAny_call_entry PyProof.Rows.slot_tuple_getitem ht.typeIs entry_tuple_getitem ?_ (args_tuple_getitem _ _)))
 show wpAny _ _ (Builtin.Tuple.tupleItemsOf (.ref t) >>= _) _ _ s
 refine wpAny_bind (tupleItemsOf_ ht ?_)
 refine wpAny_bind (wpAny_typeOf hTs ?_)
 rw [if_pos (by decide)]
 refine wpAny_bind (sliceApplied_gen hs pl pu ?_)
 have hno : ¬ ((((sIx items.size 0 lo : Nat) : Int) == 0 && (1 : Int) == 1 && (sIx items.size items.size hi - sIx items.size 0 lo) == items.size) = true) := by
  intro q
  rw [Bool.and_eq_true, Bool.and_eq_true] at q
  have q1 : ((sIx items.size 0 lo : Nat) : Int) = 0 := eq_of_beq q.1.1
  have q2 : sIx items.size items.size hi - sIx items.size 0 lo = items.size := eq_of_beq q.2
  exact hw ⟨by omega, by omega⟩
 show wpAny _ _ (if (((sIx items.size 0 lo : Nat) : Int) == 0 && (1 : Int) == 1 && (sIx items.size items.size hi - sIx items.size 0 lo) == items.size) = true then _ else _) _ _ s
 rw [if_neg hno, pick_gen]
 first
  | exact wpAny_bind (m := Builtin.Tuple.tupleExact _) (wpAny_newObj_type (wpAny_pure ⟨_, rfl, wpAny_pure h⟩) htake)
  | exact wpAny_bind (m := Builtin.Tuple.tupleExact _) (wpAny_newObj_type (wpAny_bind (wpAny_pure (wpAny_pure ⟨_, rfl, wpAny_pure h⟩))) htake)
  | exact wpAny_bind (wpAny_bind (m := Builtin.Tuple.tupleExact _) (wpAny_newObj_type (wpAny_pure (wpAny_pure ⟨_, rfl, wpAny_pure h⟩)) htake))
  | exact wpAny_bind (wpAny_bind (m := Builtin.Tuple.tupleExact _) (wpAny_newObj_type (wpAny_pure ⟨_, rfl, wpAny_pure h⟩) htake))
end
end HT
namespace L2
open PySem PySem.Spec PyProof.Rows
noncomputable abbrev TO := St -> Hp -> (Option Int -> Hp -> Prop) -> Prop
noncomputable def PO (X : Cx) (e : Option Expr) (t : TO) : Prop :=
 ∀ (pins : List (Addr × Obj)) (s : Shared) (σ : St) (H : Hp) (Q : Option Int -> Hp -> Prop), Inv X pins σ H s -> t σ H Q ->
  wpAny (model X.prog X.w) X.A (evalPart e X.env) (fun u s' => ∃ o H', Inv X pins σ H' s' /\ IsPart u o /\ Q o H') X.xe s
noncomputable def tNoPart : TO := fun _ H Q => Q none H
noncomputable def tPart (t : TE) : TO := fun σ H Q => t σ H fun x H1 => ∃ i, x = .int i /\ Q (some i) H1
theorem intsAre_of {ns : List Int} : ∀ {us : List Value}, Vals (ns.map V.int) us -> IntsAre us ns := by
 induction ns with
 | nil => intro us r; rw [List.map_nil] at r; cases r; exact .nil
 | cons n ns ih =>
  intro us r
  rw [List.map_cons] at r
  cases r with
  | cons r1 r2 =>
   obtain ⟨t, e⟩ := r1
   subst e
   exact .cons n t (ih r2)
section
variable {X : Cx} {e : Expr} {te : TE} {lo hi : Option Expr} {tl th : TO} {pos p2 : Pos}
theorem po_none : PO X none tNoPart := by
 intro pins s σ H Q I h
 rw [evalPart_none]
 exact wpAny_pure ⟨none, H, I, .none, h⟩
theorem po_some (h : PE X e te) : PO X (some e) (tPart te) := by
 intro pins s σ H Q I hw
 rw [evalPart_some]
 refine thn (h pins s σ H _ I hw) fun u s1 ⟨x, H1, I1, r1, q1⟩ => ?_
 obtain ⟨i, rfl, q⟩ := q1
 obtain ⟨t, rfl⟩ := r1
 exact ⟨some i, H1, I1, .int i t, q⟩
noncomputable def SlR (X : Cx) (r : V -> Option Int -> Option Int -> Hp -> VK -> Prop) : Prop :=
 ∀ (pins : List (Addr × Obj)) (s : Shared) (σ : St) (H : Hp) (x : V) (v vl vu : Value) (lo hi : Option Int) (sl : Addr) (Q : VK), Inv X pins σ H s -> RelV x v -> s.heap.IsSliceOf sl vl vu .none -> IsPart vl lo -> IsPart vu hi -> r x lo hi H Q ->
  ∃ T id, typeLookup (.type T) "__getitem__" = pure (some (.builtin id)) /\ s.TypeIs v T /\ wpAny (model X.prog X.w) X.A (getItem v (.ref sl)) (EP X pins σ Q) X.xe s
theorem SlR.or {r r' : V -> Option Int -> Option Int -> Hp -> VK -> Prop} (h : SlR X r) (h' : SlR X r') : SlR X (fun x lo hi H Q => r x lo hi H Q \/ r' x lo hi H Q) := by
 intro pins s σ H x v vl vu lo hi sl Q I rx hs pl pu q
 rcases q with q | q
 ·exact h pins s σ H x v vl vu lo hi sl Q I rx hs pl pu q
 ·exact h' pins s σ H x v vl vu lo hi sl Q I rx hs pl pu q
noncomputable def tSl (r : V -> Option Int -> Option Int -> Hp -> VK -> Prop) (te : TE) (tl th : TO) : TE := fun σ H Q => te σ H fun x H1 => tl σ H1 fun l H2 => th σ H2 fun u H3 => r x l u H3 Q
theorem pe_slice {r : V -> Option Int -> Option Int -> Hp -> VK -> Prop} (hr : SlR X r) (he : PE X e te) (hl : PO X lo tl) (hu : PO X hi th) : PE X (.Subscript e (.Slice lo hi none p2) pos) (tSl r te tl th) := by
 intro pins s σ H Q I h
 refine Subscript_ (thn (he pins s σ H _ I h) fun v s1 ⟨x, H1, I1, r1, q1⟩ => ?_)
 refine wpAny_Slice (thn (hl pins s1 σ H1 _ I1 q1) fun vl s2 ⟨l, H2, I2, pl, q2⟩ => thn (hu pins s2 σ H2 _ I2 q2) fun vu s3 ⟨u, H3, I3, pu, q3⟩ => ?_)
 rw [evalPart_none]
 refine wpAny_pure ?_
 have I4 : Inv X pins σ H3 { s3 with heap := s3.heap.push { cls := .type "slice", data := .fields #[vl, vu, .none] } } := I3.kept (t' := s3.toks) fun b ob q => Heap.get?_push_of_some _ q
 obtain ⟨T, id, hT, ht, hg⟩ := hr pins { s3 with heap := s3.heap.push { cls := .type "slice", data := .fields #[vl, vu, .none] } } σ H3 x v vl vu l u s3.heap.objs.size Q I4 r1 (Heap.IsSliceOf.new ..) pl pu q3
 show wpAny (model X.prog X.w) X.A (subscriptTail e (.Slice lo hi none p2) v (.ref s3.heap.objs.size)) (EP X pins σ Q) X.xe { s3 with heap := s3.heap.push { cls := .type "slice", data := .fields #[vl, vu, .none] } }
 exact tail_any (ops := [.ref s3.heap.objs.size, v]) ht hT hg (by with_unfolding_all rfl)
noncomputable def cutV (xs : List V) (lo hi : Option Int) : List V := (xs.drop (HT.sIx xs.length 0 lo)).take (HT.sIx xs.length xs.length hi - HT.sIx xs.length 0 lo)
theorem cutV_length (xs : List V) (lo hi : Option Int) : (cutV xs lo hi).length <= xs.length := by
 unfold cutV
 rw [List.length_take, List.length_drop]
 omega
noncomputable def rSlT (K : PySem.W.Frag) : V -> Option Int -> Option Int -> Hp -> VK -> Prop := fun x lo hi H Q => ∃ a xs, x = .ref a /\ SqT K H a xs /\
 ¬ (HT.sIx xs.length 0 lo = 0 /\ HT.sIx xs.length xs.length hi = xs.length) /\ ∀ p, H p = none -> Q (.ref p) (upd H p (.tup (cutV xs lo hi)))
theorem sl_tup : SlR X (rSlT X.K) := by
 intro pins s σ H x v vl vu lo hi sl Q I rx hs pl pu h
 obtain ⟨a, xs, rfl, hx, hw, q⟩ := h
 cases rx
 obtain ⟨its, r, ht, hz⟩ := I.tuple hx
 have hlen : its.toArray.size = xs.length := by rw [List.size_toArray]; exact r.length.symm
 refine ⟨"tuple", _, PyProof.Rows.slot_tuple_getitem.lookup, ht.typeIs, ?_⟩
 refine HT.getItem_tuple_cut ht hs pl pu (by rw [hlen]; exact hw) ?_ (by rw [hlen]; exact hz)
 rw [hlen]
 refine ⟨.ref s.heap.objs.size, _, I.laid (t' := s.toks) (o := .tup (cutV xs lo hi)) (fun b ob q => Heap.get?_push_of_some _ q) (Nat.le_refl _) ?_, rfl, q _ (I.hok.fresh (Nat.le_refl _))⟩
 exact ⟨Nat.le_trans (cutV_length xs lo hi) hz, _, (r.drop (HT.sIx xs.length 0 lo)).take (HT.sIx xs.length xs.length hi - HT.sIx xs.length 0 lo), IsTup.new _ _⟩
noncomputable def rLtT (K : PySem.W.Frag) : R2 := fun x y H Q => ∃ a b ns ms, x = .ref a /\ y = .ref b /\ SqT K H a (ns.map V.int) /\ SqT K H b (ms.map V.int) /\ Q (.bl (HT.lexLt ns ms)) H
theorem op_ltT (hu : X.A.units < cLine) : OpR X (compareOp .Lt) (rLtT X.K) := by
 intro pins s σ H x y v u Q I rx ry h
 obtain ⟨a, b, ns, ms, rfl, rfl, ha, hb, q⟩ := h
 cases rx
 cases ry
 obtain ⟨its, r1, p1, _⟩ := I.tuple ha
 obtain ⟨its2, r2, p2, _⟩ := I.tuple hb
 have i1 : IntsAre its.toArray.toList ns := intsAre_of r1
 have i2 : IntsAre its2.toArray.toList ms := intsAre_of r2
 exact HT.lt_tupInts p1 p2 i1 i2 hu ⟨.bl (HT.lexLt ns ms), H, I, rfl, q⟩
noncomputable def rCatT (K : PySem.W.Frag) : R2 := fun x y H Q => ∃ a b xs ys, x = .ref a /\ y = .ref b /\ SqT K H a xs /\ SqT K H b ys /\ xs ≠ [] /\ xs.length + ys.length <= sizeLine /\
 (ys = [] -> Q (.ref a) H) /\ (ys ≠ [] -> ∀ p, H p = none -> Q (.ref p) (upd H p (.tup (xs ++ ys))))
theorem Vals.nil_iff {xs : List V} {us : List Value} (r : Vals xs us) : us = [] ↔ xs = [] := by
 cases r with
 | nil => simp
 | cons _ _ => simp
theorem op_catT : OpR X (binaryOp .Add) (rCatT X.K) := by
 intro pins s σ H x y v u Q I rx ry h
 obtain ⟨a, b, xs, ys, rfl, rfl, ha, hb, hx, hz, q1, q2⟩ := h
 cases rx
 cases ry
 obtain ⟨its, r1, p1, _⟩ := I.tuple ha
 obtain ⟨its2, r2, p2, _⟩ := I.tuple hb
 refine HT.cat_tup p1 p2 (fun z => hx (r1.nil_iff.mp z)) (fun z => ⟨.ref a, H, I, rfl, q1 (r2.nil_iff.mp z)⟩) (fun z => ?_) (by rw [<- r1.length, <- r2.length]; exact hz)
 refine ⟨.ref s.heap.objs.size, _, I.laid (t' := s.toks) (o := .tup (xs ++ ys)) (fun b ob q => Heap.get?_push_of_some _ q) (Nat.le_refl _) ?_, rfl, q2 (fun w => z (r2.nil_iff.mpr w)) _ (I.hok.fresh (Nat.le_refl _))⟩
 exact ⟨by rw [List.length_append]; exact hz, _, r1.append r2, IsTup.new _ _⟩
end
end L2
namespace L2
open PySem PySem.Spec PyProof.Rows
noncomputable def ixN (n : Nat) (i : Int) : Option Nat := if 0 <= i then (if i < n then some i.toNat else none) else if -(n : Int) <= i then some (i + n).toNat else none
noncomputable def atI {α : Type} (xs : List α) (i : Int) : Option α := (ixN xs.length i).bind fun j => xs[j]?
theorem ixN_seq {n : Nat} {i : Int} {j : Nat} (h : ixN n i = some j) : seqIndex? i n = some j /\ j < n /\ -(n : Int) <= i /\ i < n := by
 unfold ixN at h
 by_cases h0 : 0 <= i
 ·rw [if_pos h0] at h
  by_cases h1 : i < n
  ·rw [if_pos h1] at h
   have e : i.toNat = j := Option.some.inj h
   exact ⟨by rw [seqIndex_of h0 h1, e], by omega, by omega, h1⟩
  ·rw [if_neg h1] at h; cases h
 ·rw [if_neg h0] at h
  by_cases h1 : -(n : Int) <= i
  ·rw [if_pos h1] at h
   have e : (i + n).toNat = j := Option.some.inj h
   exact ⟨by rw [seqIndex_neg (by omega) h1, e], by omega, h1, by omega⟩
  ·rw [if_neg h1] at h; cases h
theorem atI_get {α : Type} {xs : List α} {i : Int} {v : α} (h : atI xs i = some v) : ∃ j, seqIndex? i xs.length = some j /\ xs[j]? = some v /\ j < xs.length /\ -(xs.length : Int) <= i /\ i < xs.length := by
 unfold atI at h
 cases e : ixN xs.length i with
 | none => rw [e] at h; cases h
 | some j =>
  rw [e] at h
  obtain ⟨h1, h2, h3, h4⟩ := ixN_seq e
  exact ⟨j, h1, h, h2, h3, h4⟩
theorem atI_nat {α : Type} {xs : List α} {j : Nat} {v : α} (h : xs[j]? = some v) : atI xs (j : Int) = some v := by
 have hj : j < xs.length := (List.getElem?_eq_some_iff.mp h).1
 have e : ixN xs.length (j : Int) = some j := by
  unfold ixN
  rw [if_pos (by omega), if_pos (by omega)]; simp
 unfold atI; rw [e]; exact h
noncomputable def PlainIx (b : Expr) : Prop := ∀ o i, subscripted b false o i = operate [o, i] (getItem o i)
noncomputable def IxR (X : Cx) (r : R2) : Prop :=
 ∀ (value slice : Expr) (pins : List (Addr × Obj)) (s : Shared) (σ : St) (H : Hp) (x y : V) (v u : Value) (Q : VK), Inv X pins σ H s -> RelV x v -> RelV y u -> r x y H Q ->
  subscripted slice false v u = operate [v, u] (getItem v u) -> wpAny (model X.prog X.w) X.A (subscriptTail value slice v u) (EP X pins σ Q) X.xe s
noncomputable def MtR (X : Cx) (id : String) (r : V -> List V -> Hp -> VK -> Prop) : Prop :=
 ∀ (pins : List (Addr × Obj)) (s : Shared) (σ : St) (H : Hp) (x : V) (xs : List V) (v : Value) (us : List Value) (Q : VK), Inv X pins σ H s -> RelV x v -> Vals xs us -> r x xs H Q ->
  wpAny (model X.prog X.w) X.A (call (.builtin id) (v :: us)) (EP X pins σ Q) X.xe s
section
variable {X : Cx} {a b : Expr} {ta tb : TE} {pos : Pos}
theorem IxR.or {r r' : R2} (h : IxR X r) (h' : IxR X r') : IxR X (fun x y H Q => r x y H Q \/ r' x y H Q) := by
 intro value slice pins s σ H x y v u Q I rx ry q hs
 rcases q with q | q
 ·exact h value slice pins s σ H x y v u Q I rx ry q hs
 ·exact h' value slice pins s σ H x y v u Q I rx ry q hs
theorem pe_ix {r : R2} (hr : IxR X r) (ha : PE X a ta) (hb : PE X b tb) (hs : PlainIx b) : PE X (.Subscript a b pos) (tOp r ta tb) := by
 intro pins s σ H Q I h
 exact Subscript_ (binT ha hb I h fun v u s2 x y H2 I2 rx ry q => hr a b pins s2 σ H2 x y v u Q I2 rx ry q (hs _ _))
noncomputable def rIxL (K : PySem.W.Frag) : R2 := fun x y H Q => ∃ p xs i v, x = .ref p /\ y = .int i /\ SqL K H p xs /\ atI xs i = some v /\ Q v H
noncomputable def rIxT (K : PySem.W.Frag) : R2 := fun x y H Q => ∃ p xs i v, x = .ref p /\ y = .int i /\ SqT K H p xs /\ atI xs i = some v /\ Q v H
theorem ix_list : IxR X (rIxL X.K) := by
 intro value slice pins s σ H x y v u Q I rx ry h hs
 obtain ⟨p, xs, i, z, rfl, rfl, hq, he, q⟩ := h
 cases rx
 obtain ⟨t, rfl⟩ := ry
 obtain ⟨its, r, pl, hz⟩ := I.list hq
 obtain ⟨j, h1, h2, h3, h4, h5⟩ := atI_get he
 obtain ⟨w, ew, rw'⟩ := r.get h2
 have hl := r.length
 have hn := line63
 have fin : EP X pins σ Q w s := ⟨z, H, I, rw', q⟩
 by_cases h0 : 0 <= i
 ·have hj : i.toNat = j := by
   rw [seqIndex_of h0 h5] at h1
   exact Option.some.inj h1
  exact item_listR pl.isList h0 (by omega) (by rw [hj]; simpa using ew) fin hs
 ·have hj : (i + (its.toArray.size : Int)).toNat = j := by
   rw [seqIndex_neg (by omega) h4] at h1
   rw [List.size_toArray, <- hl]
   exact Option.some.inj h1
  exact subscriptTail_builtinR (x := w) pl.isList.typeIs slot_list_getitem.lookup
   (wpAny_getItem_list_neg (Q := fun r s' => r = w /\ EP X pins σ Q r s') pl.isList (by omega) (by rw [List.size_toArray] <;> omega) (by omega) (by rw [hj]; simpa using ew) ⟨rfl, fin⟩) hs
theorem ix_tup : IxR X (rIxT X.K) := by
 intro value slice pins s σ H x y v u Q I rx ry h hs
 obtain ⟨p, xs, i, z, rfl, rfl, hq, he, q⟩ := h
 cases rx
 obtain ⟨t, rfl⟩ := ry
 obtain ⟨its, r, pl, hz⟩ := I.tuple hq
 obtain ⟨j, h1, h2, h3, h4, h5⟩ := atI_get he
 obtain ⟨w, ew, rw'⟩ := r.get h2
 have hl := r.length
 have hn := line63
 have fin : EP X pins σ Q w s := ⟨z, H, I, rw', q⟩
 exact subscriptTail_builtinR (x := w) pl.typeIs slot_tuple_getitem.lookup
  (getItem_tuple (j := j) (Q := fun r s' => r = w /\ EP X pins σ Q r s') pl (by omega) (by omega) (by rw [List.size_toArray, <- hl]; exact h1) (by simpa using ew) ⟨rfl, fin⟩) hs
theorem slice_bounds (lo hi : Option Int) (n : Nat) : (sliceBounds lo hi none n).1 = ((HT.sIx n 0 lo : Nat) : Int) /\ (sliceBounds lo hi none n).2.1 = ((HT.sIx n n hi : Nat) : Int) /\ (sliceBounds lo hi none n).2.2 = 1 := by
 refine ⟨?_, ?_, rfl⟩
 ·cases lo with
  | none => simp [sliceBounds, HT.sIx]
  | some i =>
   simp only [sliceBounds, HT.sIx, Option.getD_none, show (1 : Int) > 0 by decide, if_true]
   by_cases h : i < 0
   ·simp only [h, if_true] <;> omega
   ·simp only [h, if_false] <;> omega
 ·cases hi with
  | none => simp [sliceBounds, HT.sIx]
  | some i =>
   simp only [sliceBounds, HT.sIx, Option.getD_none, show (1 : Int) > 0 by decide, if_true]
   by_cases h : i < 0
   ·simp only [h, if_true] <;> omega
   ·simp only [h, if_false] <;> omega
theorem slicePick_cut (its : List Value) (lo hi : Option Int) : slicePick its.toArray lo hi none = ((its.drop (HT.sIx its.length 0 lo)).take (HT.sIx its.length its.length hi - HT.sIx its.length 0 lo)).toArray := by
 obtain ⟨h1, h2, h3⟩ := slice_bounds lo hi its.toArray.size
 unfold slicePick
 rw [h1, h2, h3]
 simp only [sliceRange_one, pick_run, List.size_toArray] <;> rfl
noncomputable def rSlL (K : PySem.W.Frag) : V -> Option Int -> Option Int -> Hp -> VK -> Prop := fun x lo hi H Q => ∃ a xs, x = .ref a /\ SqL K H a xs /\ ∀ p, H p = none -> Q (.ref p) (upd H p (.lst (cutV xs lo hi)))
theorem sl_list : SlR X (rSlL X.K) := by
 intro pins s σ H x v vl vu lo hi sl Q I rx hs pl pu h
 obtain ⟨a, xs, rfl, hx, q⟩ := h
 cases rx
 obtain ⟨its, r, ht, hz⟩ := I.list hx
 have hlen := r.length
 refine ⟨"list", _, slot_list_getitem.lookup, ht.isList.typeIs, ?_⟩
 refine wpAny_getItem_list_slice ht.isList hs pl pu .none (by simp) ?_ (by rw [List.size_toArray] <;> omega)
 rw [slicePick_cut, <- hlen]
 refine ⟨.ref s.heap.objs.size, _, I.laid (t' := s.toks) (o := .lst (cutV xs lo hi)) (fun b ob q => Heap.get?_push_of_some _ q) (Nat.le_refl _) ?_, rfl, q _ (I.hok.fresh (Nat.le_refl _))⟩
 exact ⟨Nat.le_trans (cutV_length xs lo hi) hz, _, 0, (r.drop (HT.sIx xs.length 0 lo)).take (HT.sIx xs.length xs.length hi - HT.sIx xs.length 0 lo), Heap.get?_push_size _ rfl⟩
theorem call_len_seq : CallR X (.builtin "len") (fun xs H Q => ∃ p ys, xs = [.ref p] /\ (SqL X.K H p ys \/ SqT X.K H p ys) /\ Q (.int ys.length) H) := by
 intro pins s σ H xs us Q I r h
 obtain ⟨p, ys, rfl, hq, q⟩ := h
 obtain ⟨u, rfl, rx⟩ := vals1 r
 cases rx
 have hn := line63
 rcases hq with hq | hq
 ·obtain ⟨its, r', pl, hz⟩ := I.list hq
  have hlen := r'.length
  exact Calls.call_len_list pl.isList (by simp only [List.size_toArray] <;> omega) ⟨.int ys.length, H, I.tok _, ⟨s.toks + 1, by rw [List.size_toArray, hlen]⟩, q⟩
 ·obtain ⟨its, r', pl, hz⟩ := I.tuple hq
  have hlen := r'.length
  exact len_tuple pl (by simp only [List.size_toArray] <;> omega) ⟨.int ys.length, H, I.tok _, ⟨s.toks + 1, by rw [List.size_toArray, hlen]⟩, q⟩
theorem call_len_str : CallR X (.builtin "len") (fun xs H Q => ∃ z, xs = [.str z] /\ z.length <= sizeLine /\ Q (.int z.length) H) := by
 intro pins s σ H xs us Q I r h
 obtain ⟨z, rfl, hz, q⟩ := h
 obtain ⟨u, rfl, t, rfl⟩ := vals1 r
 have hn := line63
 exact len_str (by omega) ⟨.int z.length, H, I.tok _, ⟨_, rfl⟩, q⟩
theorem call_tuple_of : CallR X (.type "tuple") (fun xs H Q => ∃ p ys, xs = [.ref p] /\ ((SqL X.K H p ys /\ ∀ l, H l = none -> Q (.ref l) (upd H l (.tup ys))) \/ (SqT X.K H p ys /\ Q (.ref p) H))) := by
 intro pins s σ H xs us Q I r h
 obtain ⟨p, ys, rfl, h⟩ := h
 obtain ⟨u, rfl, rx⟩ := vals1 r
 cases rx
 rcases h with ⟨hq, q⟩ | ⟨hq, q⟩
 ·obtain ⟨its, r', pl, hz⟩ := I.list hq
  have hlen := r'.length
  refine call_tuple_list pl.isList (fun h' kp => ?_) (by simp only [List.size_toArray] <;> omega)
  have I1 : Inv X pins σ H { s with heap := h' } := I.kept (t' := s.toks) kp
  have I2 : Inv X pins σ (upd H h'.objs.size (.tup ys)) { s with heap := h'.push { cls := .type "tuple", data := .seq its.toArray } } :=
   I1.laid (t' := s.toks) (fun b o e => Heap.get?_push_of_some _ e) (Nat.le_refl _) (show ObjOk X.prog X.w _ _ _ (.tup ys) from ⟨hz, its, r', IsTup.new _ _⟩)
  exact ⟨.ref h'.objs.size, _, I2, rfl, q _ (I1.hok.fresh (Nat.le_refl _))⟩
 ·obtain ⟨its, r', pl, hz⟩ := I.tuple hq
  exact call_tuple_same pl ⟨.ref p, H, I, rfl, q⟩
noncomputable def tyV (K : PySem.W.Frag) (T : String) (x : V) (H : Hp) : Prop := match x with
 | .str _ => T = "str"
 | .int _ => T = "int"
 | .ref p => (T = "list" /\ ∃ xs, SqL K H p xs) \/ (T = "tuple" /\ ∃ o, K.lookup p = some o /\ o.cls = .type "tuple" /\ o.dict = none) \/
   (T = "dict" /\ ((∃ kvs, H p = some (.dK kvs)) \/ ∃ kvs, H p = some (.dT kvs))) \/ (T = "set" /\ ∃ S n, H p = some (.set S n))
 | _ => False
theorem tyV_is {pins : List (Addr × Obj)} {σ : St} {H : Hp} {s : Shared} {T : String} {x : V} {v : Value} (I : Inv X pins σ H s) (r : RelV x v) (ty : tyV X.K T x H) :
  s.TypeIs v T /\ ∀ a, v = .ref a -> ∃ ob, s.heap.get? a = some ob /\ ob.dict = none := by
 cases x with
 | str z =>
  obtain ⟨t, rfl⟩ := r
  cases (show T = "str" from ty)
  exact ⟨typeIs_str s z t, fun _ e => nomatch e⟩
 | int i =>
  obtain ⟨t, rfl⟩ := r
  cases (show T = "int" from ty)
  exact ⟨typeIs_int s i t, fun _ e => nomatch e⟩
 | ref p =>
  cases r
  rcases ty with ⟨rfl, xs, hq⟩ | ⟨rfl, o, hk, hc, hd⟩ | ⟨rfl, hk⟩ | ⟨rfl, S, n, hk⟩
  ·obtain ⟨its, _, pl, _⟩ := I.list hq
   refine ⟨pl.isList.typeIs, fun a e => ?_⟩
   cases e
   obtain ⟨o, n, e, c, hd, _⟩ := pl
   exact ⟨o, e, hd⟩
  ·refine ⟨⟨o, I.kIn p o hk, hc⟩, fun a e => ?_⟩
   cases e
   exact ⟨o, I.kIn _ o hk, hd⟩
  ·have z : ∃ o, s.heap.get? p = some o /\ o.ExactDict := by
    rcases hk with ⟨kvs, hk⟩ | ⟨kvs, hk⟩
    ·obtain ⟨_, _, _, _, o, _, _, e, ex, _⟩ := I.hok p _ hk
     exact ⟨o, e, ex⟩
    ·obtain ⟨_, _, _, _, o, _, _, e, ex, _⟩ := I.hok p _ hk
     exact ⟨o, e, ex⟩
   obtain ⟨o, e, ex⟩ := z
   refine ⟨⟨o, e, ex.1⟩, fun a e2 => ?_⟩
   cases e2
   exact ⟨o, e, ex.2.1⟩
  ·obtain ⟨o, _, _, _, e, ex, _⟩ := I.hok p _ hk
   refine ⟨⟨o, e, ex.1⟩, fun a e2 => ?_⟩
   cases e2
   exact ⟨o, e, ex.2.1⟩
 | _ => exact False.elim ty
noncomputable def tBM (K : PySem.W.Frag) (T : String) (r : V -> List V -> Hp -> VK -> Prop) (to : TE) (t : TA) : TE := fun σ H Q => to σ H fun x H1 => tyV K T x H1 /\ t σ H1 fun xs H2 => r x xs H2 Q
variable {o e : Expr} {es : List Expr} {to : TE} {t : TA} {name : Str} {apos cpos : Pos} {T id : String} {r : V -> List V -> Hp -> VK -> Prop}
theorem pe_bm (pa : PlainAttrs T) (slot : Slot T name id) (hty : typeOf (.builtin id) = pure (.type "method_descriptor")) (hm : MtR X id r) (ho : PE X o to) (ha : PA X (e :: es) t)
  (hbase : attributeBase o name X.env (eval o X.env) = eval o X.env := by rfl)
  (hfew : ((backTo cpos (starEach (e :: es) X.env)).all (fun x => !x.1) && (backToKw cpos (keywordEach [] X.env)).all (fun x => x.1.isSome)
   && decide ((e :: es).length + ([] : List Keyword).length + (if ([] : List Keyword).isEmpty then 0 else 1) < 30)) = true := by rfl)
  (hline : (apos.endLine == cpos.line) = true := by rfl) (hs : starEach (e :: es) X.env = (false, eval e X.env) :: starEach es X.env := by rfl) (hplain : (backTo cpos (starEach es X.env)).any (·.1) = false := by rfl) :
  PE X (.Call (.Attribute o name apos) (e :: es) [] cpos) (tBM X.K T r to t) := by
 intro pins s σ H Q I h
 refine wpAny_Call_method_late hbase hfew hline rfl (thn (ho pins s σ H _ I h) fun v s1 ⟨x, H1, I1, r1, ty, q1⟩ => ?_)
 obtain ⟨h1, h2⟩ := tyV_is I1 r1 ty
 refine ⟨T, id, pa, slot, hty, h1, h2, ?_⟩
 have hA := ha cpos pins s1 σ H1 _ I1 q1
 rw [hs] at hA ⊢
 refine Calls.callWith_builtin (by show (false || (backTo cpos (starEach es X.env)).any (·.1)) = false; rw [hplain] <;> rfl) (Calls.evalArgs_plain ?_)
 exact thn hA fun us s2 ⟨vs, H2, I2, r2, q2⟩ => hm pins s2 σ H2 x vs v us Q I2 r1 r2 q2
end
end L2
namespace L2
open PySem PySem.Spec PyProof.Rows
noncomputable def MtM (X : Cx) (id : String) (r : V -> List V -> Hp -> VK -> Prop) : Prop :=
 ∀ (pins : List (Addr × Obj)) (s : Shared) (σ : St) (H : Hp) (x : V) (xs : List V) (v : Value) (us : List Value) (Q : VK), Inv X pins σ H s -> RelV x v -> Vals xs us -> r x xs H Q ->
  wpAny (model X.prog X.w) X.A (call (.builtin id) (v :: us)) (EP X pins σ Q) X.xe s
theorem Vals.one : ∀ {x : V} {us : List Value}, Vals [x] us -> ∃ u, us = [u] /\ RelV x u
 | _, _, .cons r .nil => ⟨_, rfl, r⟩
theorem Vals.reverse {xs : List V} {us : List Value} (h : Vals xs us) : Vals xs.reverse us.reverse := by
 induction h with
 | nil => exact .nil
 | cons r t ih => rw [List.reverse_cons, List.reverse_cons]; exact Vals.append ih (.cons r .nil)
theorem Vals.rep {xs : List V} {us : List Value} (h : Vals xs us) : ∀ k : Nat, Vals (List.replicate k xs).flatten (List.replicate k us).flatten
 | 0 => .nil
 | k + 1 => by
  rw [List.replicate_succ, List.replicate_succ, List.flatten_cons, List.flatten_cons]
  exact Vals.append h (Vals.rep h k)
theorem foldl_rep (its : List Value) : ∀ (k : Nat) (acc : List Value),
  List.foldl (fun x1 x2 => x1 ++ x2) acc.toArray (List.replicate k its.toArray) = (acc ++ (List.replicate k its).flatten).toArray
 | 0, acc => by simp
 | k + 1, acc => by
  have e : acc.toArray ++ its.toArray = (acc ++ its).toArray := by simp
  have e2 : (acc ++ its) ++ (List.replicate k its).flatten = acc ++ (List.replicate (k + 1) its).flatten := by
   rw [List.replicate_succ, List.flatten_cons, List.append_assoc]
  rw [<- e2, <- foldl_rep its k (acc ++ its), <- e, List.replicate_succ, List.foldl_cons]
section
variable {X : Cx} {pins : List (Addr × Obj)} {σ : St} {H : Hp} {s : Shared} {l b : Addr} {xs ys zs : List V}
theorem Inv.lset {its its' : List Value} {n : Nat} {f : Array Value -> Array Value} {t' : Nat} (I : Inv X pins σ H s) (hH : H l = some (.lst xs))
  (e : s.heap.get? l = some { cls := .type "list", data := .seq its.toArray n }) (hf : f its.toArray = its'.toArray) (hv : Vals ys its') (hz : ys.length <= sizeLine) :
  Inv X pins σ (upd H l (.lst ys)) { s with heap := s.heap.update l (Obj.mapSeq f), toks := t' } := by
 have q := PySem.IsL.update e f
 rw [hf] at q
 refine I.write (x := l) (e := l) (by rw [hH]; exact trivial) (.inl rfl) (fun b' u hb hu => (Heap.get?_update_other s.heap (Obj.mapSeq f) (Ne.symm hb)).trans hu) ⟨_, q⟩ ?_
 exact ⟨hz, its', _, hv, q⟩
theorem Inv.lnew {its : List Value} {t' : Nat} (I : Inv X pins σ H s) (hv : Vals ys its) (hz : ys.length <= sizeLine) :
  Inv X pins σ (upd H s.heap.objs.size (.lst ys)) { s with heap := s.heap.push { cls := .type "list", data := .seq its.toArray }, toks := t' } :=
 I.laid (fun _ _ q => Heap.get?_push_of_some _ q) (Nat.le_refl _) ⟨hz, its, 0, hv, Heap.get?_push_size _ rfl⟩
theorem Inv.fresh (I : Inv X pins σ H s) : H s.heap.objs.size = none := I.hok.fresh (Nat.le_refl _)
theorem Inv.lstM (I : Inv X pins σ H s) (hH : H l = some (.lst xs)) : xs.length <= sizeLine /\ ∃ (its : List Value) (n : Nat), Vals xs its /\ xs.length = its.length /\ s.heap.get? l = some { cls := .type "list", data := .seq its.toArray n } := by
 obtain ⟨z, its, n, r, e⟩ := I.hok l _ hH
 exact ⟨z, its, n, r, r.length, e⟩
theorem notLongL {n : Nat} (h : n <= sizeLine) : Builtin.List.listTooLong n = false := by
 unfold Builtin.List.listTooLong
 exact decide_eq_false (by omega)
end
section
variable {X : Cx}
noncomputable def rAppend : V -> List V -> Hp -> VK -> Prop := fun x vs H Q => ∃ l xs y, x = .ref l /\ vs = [y] /\ H l = some (.lst xs) /\ xs.length < sizeLine /\ Q .non (upd H l (.lst (xs ++ [y])))
theorem mt_append : MtM X "list.append" rAppend := by
 intro pins s σ H x vs v us Q I rx rv h
 obtain ⟨l, xs, y, rfl, rfl, hH, hz, q⟩ := h
 cases rx
 obtain ⟨u, rfl, ru⟩ := rv.one
 obtain ⟨z, its, n, r, hl, e⟩ := I.lstM hH
 refine call_meets F.slot_list_append ⟨_, e, rfl⟩ F.entry_list_append (F.args_list_append_2 _ _) (PySem.list_append l its.toArray n u (by rw [List.size_toArray]; omega)) ⟨e, ?_⟩
 refine ⟨.non, _, I.lset (its' := its ++ [u]) hH e (by simp) (r.append (.cons ru .nil)) ?_, rfl, q⟩
 rw [List.length_append, List.length_singleton]
 omega
theorem len_rep {α : Type} (xs : List α) (k : Nat) : (List.replicate k xs).flatten.length = k * xs.length := by
 induction k with
 | zero => simp
 | succ k ih => rw [List.replicate_succ, List.flatten_cons, List.length_append, ih, Nat.succ_mul, Nat.add_comm]
end
end L2
namespace Att
open PySem PySem.W PySem.Calls PyProof.Rows
theorem ints_of_wellAll {P : Params} {h : Heap} : ∀ (ns : List Int) (vs : List Value), WellAll P h vs (ns.map WData.int) -> IntsAre vs ns := by
 intro ns
 induction ns with
 | nil =>
  intro vs w
  rw [List.map_nil] at w
  cases w
  exact .nil
 | cons n ns ih =>
  intro vs w
  rw [List.map_cons] at w
  cases w with
  | cons a b =>
   cases a
   exact .cons _ _ (ih _ b)
theorem script_of {l : OpenLaw} {n : Nat} (hn : l.most = some n) {P : Params} {h : Heap} {args : List WData} {vals : List Value}
  (hpre : l.row.toRowW.claim.pre args = true) (hwl : WellAll P h vals args) :
  ∃ a vs ns, vals = [Value.ref a] /\ args = [WData.list (ns.map WData.int)] /\ h.get? a = some { cls := .type "list", data := .seq vs.toArray } /\ IntsAre vs ns /\ ns.length <= n := by
 have hsh : WShape.hasAll [] args [.list .int] = true := (pre_splitW hpre).1
 have hc : l.pre.holds [] { args := args } = true := (pre_splitW hpre).2
 obtain ⟨d, r, rfl, h1, h2⟩ := hasAllW_cons hsh
 obtain rfl := hasAllW_nil h2
 obtain ⟨xs, rfl, h3⟩ := hasW_list h1
 obtain ⟨ns, rfl⟩ := items_int h3
 have hlen : ns.length <= n := by
  unfold OpenLaw.pre at hc
  have h4 : (WTm.not (.lt (.lit (.int (n : Int))) (.len (.arg 0)))).holds [] { args := [.list (ns.map .int)] } = true := by
   have h4 := (holds_andW hc).1
   rw [hn] at h4
   exact h4
  have h5 := condW_of h4 (w_not (w_lt w_lit (w_len_list (w_arg rfl))))
  rw [List.length_map] at h5
  refine Nat.le_of_not_lt fun q => ?_
  have q' : (n : Int) < ((ns.length : Nat) : Int) := by omega
  first
   | (rw [decide_eq_true q'] at h5; exact absurd h5 (by decide))
   | (simp at h5; omega)
 cases hwl with
 | cons w1 w2 =>
  cases w2
  cases w1 with
  | list ho hall => exact ⟨_, _, ns, rfl, rfl, ho, ints_of_wellAll ns _ hall, hlen⟩
theorem post_true (l : OpenLaw) (args : List WData) : l.row.toRowW.claim.post args (.bool true) args = true :=
 postW_of (r := l.row.toRowW) (X := (true == true))
  (show WShape.has [] (.bool true) .bool = true by first | rfl | decide | simp [WShape.has, WShape.arms, WShape.armsAll])
  (show (WTm.eq .res (.lit (.bool true))).value [] { args := args, res := some (.bool true), after := args } = some (.bool (true == true)) from w_eq_bool (w_res rfl) w_lit) rfl
theorem attach_call {l : OpenLaw} {n : Nat} {q : Program} {loose : List Str} {XP : (Str -> Option Value) -> Heap -> Prop} {YP : World -> Heap -> Prop} {d : DefRec}
  (hn : l.most = some n) (hdf : d.params.defaults = [])
  (call : ∀ (w : World) (s₀ s₁ : Shared) (mg mb : Str -> Option Value) (fa : Addr) (o : Obj) (pm cd doc : Value) (a : Addr) (vs : List Value) (ns : List Int),
   Ground q loose [] XP w s₀ mg mb s₁.heap -> YP w s₁.heap ->
   s₁.heap.get? fa = some o -> o.data = .func (docDef d.name d.params d.body d.scope pm cd doc) -> s₁.heap.CodeRec cd d.name -> mg d.name = some (.ref fa) ->
   s₁.heap.get? a = some { cls := .type "list", data := .seq vs.toArray } -> IntsAre vs ns -> ns.length <= n -> s₁.gens = #[] ->
   codeAny (model l.prog w) callerA (.call (.ref fa) ⟨[.ref a], []⟩) (fun r s' => r = .ok (.ret (.bool true)) /\ OldK s₁.heap s'.heap /\ s'.os = s₁.os /\ AllBare s'.gens) s₁) :
  WalkO q loose XP YP l.row.toRowW d [] (fun f vs => PySem.call f vs) := by
 intro w s₀ s₁ mg mb G Y fa o pm cd doc dV kV ho hd hcd hD hmg hg args vals as hpre hlay hrd hwl hlo
 obtain rfl : dV = .none := Dflts.none hD hdf
 obtain rfl : kV = .none := Dflts.noKw hD
 obtain ⟨a, vs, ns, rfl, rfl, hobj, hints, hlen⟩ := script_of hn hpre hwl
 refine enter_call (codeAny_mono (call w s₀ s₁ mg mb fa o pm cd doc a vs ns G Y ho (fd_plain hd) hcd hmg hobj hints hlen hg) fun r s' hq => ?_)
 obtain ⟨rfl, h2, h3, h4⟩ := hq
 exact ⟨.inl ⟨.bool true, .bool true, [], rfl, fun _ => rfl, .bool true, post_true l _, fun _ => ⟨List.Pairwise.nil, fun _ hm => (nomatch hm)⟩⟩, h2, h3, h4⟩
end Att
namespace L2
open PySem PySem.Spec PyProof.Rows
theorem vals_ints : ∀ {vs : List Value} {ns : List Int}, IntsAre vs ns -> Vals (ns.map V.int) vs
 | _, _, .nil => .nil
 | _, _, .cons n t h => .cons ⟨t, rfl⟩ (vals_ints h)
end L2
namespace L2
open PySem PySem.Spec PyProof.Rows
noncomputable def defArgs (s : Stmt) : Arguments := match s with
 | .FunctionDef _ a _ _ _ _ _ _ _ _ => a
 | _ => { posonlyargs := [], args := [], vararg := none, kwonlyargs := [], kw_defaults := [], kwarg := none, defaults := [] }
noncomputable def defBody (s : Stmt) : List Stmt := match s with
 | .FunctionDef _ _ b _ _ _ _ _ _ _ => b
 | _ => []
noncomputable def defScope (s : Stmt) : Scope := match s with
 | .FunctionDef _ _ _ _ _ _ sc _ _ _ => sc
 | _ => { kind := .function, names := [], isGenerator := false, isCoroutine := false }
noncomputable abbrev CX0 : CXT := fun _ _ _ _ _ _ => False
noncomputable abbrev E0 : XK := fun _ _ _ => False
theorem pass0 {X : Cx} : Passes CX0 X E0 := fun _ _ _ _ _ _ _ h => h.elim
structure Fun (K : PySem.W.Frag) (x qual : Str) (st : Stmt) (f : Addr) (fd : FuncData) : Prop where
 ex : ∃ (oc : Value) (od : Option Addr) (kV doc pm : Value) (an : Option Addr) (cdv ct : Value) (osl : Array (Option Value)),
  fd = PySem.W.fnOf x qual (defArgs st) (defBody st) (defScope st) .none kV doc pm an cdv ct /\ K.lookup f = some ⟨oc, od, .func fd, osl⟩ /\ PySem.W.codeIn K cdv qual = true
 kp : PySem.W.keepIn K (.ref f) = true
section
variable {P : Program} {w : World} {K : PySem.W.Frag} {mg : Str -> Option Value} {base : Heap}
theorem Fun.ok {x qual : Str} {st : Stmt} {f : Addr} {fd : FuncData} {N ps : List Str} {k : Nat} {sp : Sp} (F : Fun K x qual st f fd) (S : FnScope N ps (defScope st)) (len : ∀ vs H Q E, sp vs H Q E -> vs.length = ps.length)
  (hbody : ∀ (cdv : Value) (A : Around) (outer : List Env) (s : Shared) (H : Hp) (vs : List V) (Q : VK) (E : XK), Room k (A.deeper (envOfC qual (defScope st) s.heap.objs.size f cdv)) -> sp vs H Q E ->
   ∃ t, PSs (cxOf CX0 P w K mg base N qual (defScope st) f cdv A outer s H E).nox (defBody st) t /\ t { nx := fun _ H' => Q .non H', rt := Q } (start N vs) H) : FnOk P w K mg base CX0 (k + 1) f fd ps sp := by
 obtain ⟨oc, od, kV, doc, pm, an, cdv, ct, osl, rfl, lk, hcd⟩ := F.ex
 refine fn_of lk hcd S len fun A outer s H vs Q E hr hsp => ?_
 obtain ⟨t, h, q⟩ := hbody cdv A outer s H vs Q E hr hsp
 exact ⟨t, h.nox, q⟩
theorem Fun.binds {x qual : Str} {st : Stmt} {f : Addr} {fd : FuncData} {ps : List Str} (F : Fun K x qual st f fd)
  (h : ∀ (kV doc pm : Value) (an : Option Addr) (cdv ct : Value) (us : List Value), us.length = ps.length -> bindArgs (PySem.W.fnOf x qual (defArgs st) (defBody st) (defScope st) .none kV doc pm an cdv ct) ⟨us, []⟩ = pure (ps.zip us)) : Binds K fd ps [] := by
 obtain ⟨oc, od, kV, doc, pm, an, cdv, ct, osl, rfl, lk, hcd⟩ := F.ex
 exact .all (h kV doc pm an cdv ct)
theorem fun_mk {x qual : Str} {st : Stmt} {f : Addr} {oc : Value} {od an : Option Addr} {osl : Array (Option Value)} {kV doc pm cdv ct : Value} (l : K.lookup f = some ⟨oc, od, .func (PySem.W.fnOf x qual (defArgs st) (defBody st) (defScope st) .none kV doc pm an cdv ct), osl⟩)
  (c : PySem.W.codeIn K cdv qual = true) (k : PySem.W.keepIn K (.ref f) = true) : Fun K x qual st f (PySem.W.fnOf x qual (defArgs st) (defBody st) (defScope st) .none kV doc pm an cdv ct) := ⟨⟨oc, od, kV, doc, pm, an, cdv, ct, osl, rfl, l, c⟩, k⟩
end
theorem iteF {A B : Prop} (h : B) : if false = true then A else B := by
 rw [if_neg Bool.false_ne_true]
 exact h
theorem iteT {A B : Prop} (h : A) : if true = true then A else B := by
 rw [if_pos rfl]
 exact h
noncomputable def Same (H H' : Hp) : Prop := ∀ b o, H b = some o -> H' b = some o
theorem Same.refl (H : Hp) : Same H H := fun _ _ h => h
theorem Same.trans {H H1 H2 : Hp} (a : Same H H1) (b : Same H1 H2) : Same H H2 := fun c o h => b c o (a c o h)
theorem Same.free {H H' : Hp} (e : Same H H') {l : Addr} (h : H' l = Option.none) : H l = Option.none := by
 cases q : H l with
 | none => rfl
 | some o =>
  rw [e l o q] at h
  cases h
theorem Same.seq {K : PySem.W.Frag} {H H' : Hp} {a : Addr} {xs : List V} (e : Same H H') (h : SqL K H a xs) : SqL K H' a xs := by
 rcases h with (h | ⟨o, h⟩) | h
 ·exact .inl (.inl (e _ _ h))
 ·exact .inl (.inr ⟨o, e _ _ h⟩)
 ·exact .inr h
end L2
end
section
namespace L2
open PySem PySem.Spec PyProof.Rows
section
variable {κ : Type} [DecidableEq κ]
noncomputable def valV (kvs : List (κ × V)) (k : κ) : Option V := (kvs.find? fun kv => decide (kv.1 = k)).map (·.2)
noncomputable def putK (kvs : List (κ × V)) (k : κ) (v : V) : List (κ × V) :=
 if (kvs.any fun kv => decide (kv.1 = k)) = true then kvs.map (fun kv => if kv.1 = k then (kv.1, v) else kv) else kvs ++ [(k, v)]
theorem valV_pos {p : κ × V} {r : List (κ × V)} {k : κ} (e : p.1 = k) : valV (p :: r) k = some p.2 := by simp [valV, List.find?_cons, e]
theorem valV_neg {p : κ × V} {r : List (κ × V)} {k : κ} (e : ¬ p.1 = k) : valV (p :: r) k = valV r k := by simp [valV, List.find?_cons, e]
theorem valV_any (k : κ) : ∀ kvs : List (κ × V), (kvs.any fun kv => decide (kv.1 = k)) = (valV kvs k).isSome
 | [] => rfl
 | p :: r => by
  rw [List.any_cons]
  by_cases e : p.1 = k
  ·simp only [valV_pos e, decide_eq_true e, Bool.true_or, Option.isSome_some]
  ·rw [valV_neg e, decide_eq_false e, Bool.false_or]; exact valV_any k r
theorem length_putK (kvs : List (κ × V)) (k : κ) (v : V) : (putK kvs k v).length <= kvs.length + 1 := by
 unfold putK
 split
 ·rw [List.length_map]; omega
 ·rw [List.length_append, List.length_cons, List.length_nil]; omega
theorem putK_new {kvs : List (κ × V)} {k : κ} (v : V) (h : valV kvs k = none) : putK kvs k v = kvs ++ [(k, v)] := by
 unfold putK
 rw [valV_any, h]
 exact if_neg (by decide)
theorem RelO.isSome_eq {o : Option V} {u : Option Value} (r : RelO o u) : o.isSome = u.isSome := by
 cases o with
 | none => cases u with
  | none => rfl
  | some _ => exact (show False from r).elim
 | some _ => cases u with
  | none => exact (show False from r).elim
  | some _ => rfl
theorem KV.val {kvs : List (κ × V)} {vs : List (κ × Value)} (r : KV kvs vs) (k : κ) : RelO (valV kvs k) (valueAt vs k) := by
 unfold KV at r
 induction r with
 | nil => exact True.intro
 | @cons p q ps qs h t ih =>
  obtain ⟨h1, h2⟩ := h
  by_cases e : p.1 = k
  ·have e' : q.1 = k := h1.symm.trans e
   have b : valueAt (q :: qs) k = some q.2 := by simp [valueAt, List.find?_cons, e']
   rw [valV_pos e, b]; exact h2
  ·have e' : ¬ q.1 = k := fun z => e (h1.trans z)
   have b : valueAt (q :: qs) k = valueAt qs k := by simp [valueAt, List.find?_cons, e']
   rw [valV_neg e, b]; exact ih
theorem KV.any {kvs : List (κ × V)} {vs : List (κ × Value)} (r : KV kvs vs) (k : κ) : (kvs.any fun kv => decide (kv.1 = k)) = vs.any fun kv => decide (kv.1 = k) := by
 unfold KV at r
 induction r with
 | nil => rfl
 | cons h t ih => rw [List.any_cons, List.any_cons, ih, h.1]
theorem KV.repl {kvs : List (κ × V)} {vs : List (κ × Value)} (r : KV kvs vs) (k : κ) {y : V} {u : Value} (ry : RelV y u) :
  KV (kvs.map fun kv => if kv.1 = k then (kv.1, y) else kv) (vs.map fun kv => if kv.1 = k then (kv.1, u) else kv) := by
 unfold KV at r ⊢
 induction r with
 | nil => exact .nil
 | @cons p q ps qs h t ih =>
  rw [List.map_cons, List.map_cons]
  refine .cons ?_ ih
  obtain ⟨h1, h2⟩ := h
  by_cases e : p.1 = k
  ·rw [if_pos e, if_pos (h1.symm.trans e)]; exact ⟨h1, ry⟩
  ·rw [if_neg e, if_neg (fun z => e (h1.trans z))]; exact ⟨h1, h2⟩
theorem KV.put {kvs : List (κ × V)} {vs : List (κ × Value)} (r : KV kvs vs) (k : κ) {y : V} {u : Value} (ry : RelV y u) : KV (putK kvs k y) (stored vs k u) := by
 unfold putK stored
 rw [r.any k]
 by_cases e : (vs.any fun kv => decide (kv.1 = k)) = true
 ·rw [if_pos e, if_pos e]; exact r.repl k ry
 ·rw [if_neg e, if_neg e]; exact Paired.snoc r ⟨rfl, ry⟩
theorem KV.keys {kvs : List (κ × V)} {vs : List (κ × Value)} (r : KV kvs vs) : kvs.map (·.1) = vs.map (·.1) := by
 unfold KV at r
 induction r with
 | nil => rfl
 | cons h t ih => rw [List.map_cons, List.map_cons, ih, h.1]
theorem KV.length {kvs : List (κ × V)} {vs : List (κ × Value)} (r : KV kvs vs) : kvs.length = vs.length := Paired.length r
end
theorem kV_is {P : Program} {w : World} {k : Key} {u : Value} (r : RelV (kV k) u) : (mixKind P w).is k u = true := by
 cases k with
 | inl i => obtain ⟨t, e⟩ := (show ∃ t, u = Value.int i t from r); subst e; exact mixKind_int P w i t
 | inr x => obtain ⟨t, e⟩ := (show ∃ t, u = Value.str x t from r); subst e; exact mixKind_str P w x t
theorem items_are {P : Program} {w : World} : ∀ {ks : List Key} {us : List Value}, Vals (ks.map kV) us -> ItemsAre (mixKind P w) ks us
 | [], _, r => by rw [List.map_nil] at r; cases r; exact .nil
 | k :: ks, _, r => by
  rw [List.map_cons] at r
  cases r with
  | cons h t => exact .cons (kV_is h) (items_are t)
noncomputable abbrev KT (H : Hp) : List (List Key × V) -> List (List Key × Addr × Value) -> Prop := Paired fun p q => p.1 = q.1 /\ H q.2.1 = some (.tup (p.1.map kV)) /\ RelV p.2 q.2.2
theorem KT.val {H : Hp} {kvs : List (List Key × V)} {xs : List (List Key × Addr × Value)} (r : KT H kvs xs) (k : List Key) : RelO (valV kvs k) ((atKey xs k).map (·.2)) := by
 induction r with
 | nil => exact True.intro
 | @cons p q ps qs h t ih =>
  obtain ⟨h1, _, h2⟩ := h
  by_cases e : p.1 = k
  ·have e' : q.1 = k := h1.symm.trans e
   have b : atKey (q :: qs) k = some q.2 := by simp [atKey, List.find?_cons, e']
   rw [valV_pos e, b]; exact h2
  ·have e' : ¬ q.1 = k := fun z => e (h1.trans z)
   have b : atKey (q :: qs) k = atKey qs k := by simp [atKey, List.find?_cons, e']
   rw [valV_neg e, b]; exact ih
theorem KT.repl {H : Hp} {kvs : List (List Key × V)} {xs : List (List Key × Addr × Value)} (r : KT H kvs xs) (k : List Key) {y : V} {u : Value} (ry : RelV y u) :
  KT H (kvs.map fun kv => if kv.1 = k then (kv.1, y) else kv) (xs.map (putAt k u)) := by
 induction r with
 | nil => exact .nil
 | @cons p q ps qs h t ih =>
  rw [List.map_cons, List.map_cons]
  refine .cons ?_ ih
  obtain ⟨h1, h2, h3⟩ := h
  unfold putAt
  by_cases e : p.1 = k
  ·rw [if_pos e, if_pos (h1.symm.trans e)]; exact ⟨h1, h2, ry⟩
  ·rw [if_neg e, if_neg (fun z => e (h1.trans z))]; exact ⟨h1, h2, h3⟩
theorem KT.put {H : Hp} {kvs : List (List Key × V)} {xs : List (List Key × Addr × Value)} (r : KT H kvs xs) (k : List Key) {b : Addr} {y : V} {u : Value} (hb : H b = some (.tup (k.map kV))) (ry : RelV y u) :
  KT H (putK kvs k y) (storedH xs k b u) := by
 have e : (kvs.any fun kv => decide (kv.1 = k)) = (atKey xs k).isSome := by
  rw [valV_any, (r.val k).isSome_eq, Option.isSome_map]
 unfold putK storedH
 rw [e]
 by_cases q : (atKey xs k).isSome = true
 ·rw [if_pos q, if_pos q]; exact r.repl k ry
 ·rw [if_neg q, if_neg q]; exact Paired.snoc r ⟨rfl, hb, ry⟩
theorem KT.keeps {H H' : Hp} {kvs : List (List Key × V)} {xs : List (List Key × Addr × Value)} (r : KT H kvs xs) (ht : ∀ b ys, H b = some (.tup ys) -> H' b = some (.tup ys)) : KT H' kvs xs :=
 Paired.mapP r fun _ _ z => ⟨z.1, ht _ _ z.2.1, z.2.2⟩
section
variable {P : Program} {w : World} {H : Hp} {h : Heap} {a : Addr}
theorem rd_of {u : HO} (ok : HOk P w H h) (e : Rd H a u) : ObjOk P w H h a u := e.ok ok
theorem dk_rd {kvs : List (Key × V)} (ok : HOk P w H h) (e : Rd H a (.dK kvs)) : kvs.length <= sizeLine /\ (a == sysModules) = false /\ ∃ vs, KV kvs vs /\ h.DictOf (mixKind P w) a vs :=
 show ObjOk P w H h a (.dK kvs) from rd_of ok e
theorem dk_of {kvs : List (Key × V)} (ok : HOk P w H h) (e : H a = some (.dK kvs)) : kvs.length <= sizeLine /\ (a == sysModules) = false /\ ∃ vs, KV kvs vs /\ h.DictOf (mixKind P w) a vs := dk_rd ok (.inl e)
theorem key_of {ks : List Key} (ok : HOk P w H h) (e : H a = some (.tup (ks.map kV))) : (tupleKind (mixKind P w)).is h ks a := by
 obtain ⟨_, its, r, o, h1, h2, n, h3⟩ := (show ObjOk P w H h a (.tup (ks.map kV)) from ok a _ e)
 exact ⟨o, its.toArray, n, h1, h2, h3, by simpa using items_are r⟩
theorem dt_rd {kvs : List (List Key × V)} (ok : HOk P w H h) (e : Rd H a (.dT kvs)) : kvs.length <= sizeLine /\ (a == sysModules) = false /\
  ∃ xs, KT H kvs xs /\ h.DictOfH (tupleKind (mixKind P w)) a xs := by
 obtain ⟨z, y, xs, r, o, es, ep, h1, h2, h3, h4, h5⟩ := (show ObjOk P w H h a (.dT kvs) from rd_of ok e)
 refine ⟨z, y, xs, r, o, es, ep, h1, h2, h3, h4, fun x hx => ?_, h5⟩
 have all : ∀ {l : List (List Key × V)} {m : List (List Key × Addr × Value)}, KT H l m -> ∀ x ∈ m, (tupleKind (mixKind P w)).is h x.1 x.2.1 := by
  intro l m q
  induction q with
  | nil => intro x hx; exact nomatch hx
  | @cons p q ps qs hq t ih =>
   intro x hx
   rcases List.mem_cons.mp hx with e | hx
   ·subst e
    exact key_of ok (by rw [<- hq.1]; exact hq.2.1)
   ·exact ih x hx
 exact all r x hx
theorem dt_of {kvs : List (List Key × V)} (ok : HOk P w H h) (e : H a = some (.dT kvs)) : kvs.length <= sizeLine /\ (a == sysModules) = false /\
  ∃ xs, KT H kvs xs /\ h.DictOfH (tupleKind (mixKind P w)) a xs := dt_rd ok (.inl e)
end
noncomputable def DGet (H : Hp) (a : Addr) (y : V) (r : Option V) : Prop :=
 (∃ kvs k, Rd H a (.dK kvs) /\ y = kV k /\ r = valV kvs k) \/ ∃ kvs k b, Rd H a (.dT kvs) /\ y = .ref b /\ H b = some (.tup (k.map kV)) /\ r = valV kvs k
noncomputable def DPut (H : Hp) (a : Addr) (y v : V) (H' : Hp) : Prop :=
 (∃ kvs k, H a = some (.dK kvs) /\ y = kV k /\ kvs.length < sizeLine /\ H' = upd H a (.dK (putK kvs k v))) \/
 ∃ kvs k b, H a = some (.dT kvs) /\ y = .ref b /\ H b = some (.tup (k.map kV)) /\ kvs.length < sizeLine /\ H' = upd H a (.dT (putK kvs k v))
section
variable {X : Cx} {pins : List (Addr × Obj)} {σ : St} {H : Hp} {s : Shared} {a : Addr} {y v : V} {u r : Value} {o : Option V} {A : Around} {E : Value -> Shared -> Prop}
theorem Inv.big (I : Inv X pins σ H s) : sysModules < s.heap.objs.size := by
 have h : mainGlobals < s.heap.objs.size := (I.mod.glob.keeps I.bk).lt
 exact Nat.lt_trans (by decide) h
theorem d_getItem {Q : Value -> Shared -> Prop} (hu : A.units + 1 < cLine) (I : Inv X pins σ H s) (g : DGet H a y (some v)) (ry : RelV y u) (h : ∀ w' s', Inv X pins σ H s' -> RelV v w' -> Q w' s') :
  wpAny (model X.prog X.w) A (getItem (.ref a) u) Q E s := by
 rcases g with ⟨kvs, k, e, ey, l⟩ | ⟨kvs, k, b, e, ey, eb, l⟩
 ·subst ey
  obtain ⟨z, hd, vs, rel, dd⟩ := dk_rd I.hok e
  obtain ⟨w', hw, rw'⟩ := RelO.some_of (v := v) (o := valueAt vs k) (by rw [l]; exact rel.val k)
  exact wpAny_getItem_of (kV_is ry) dd.mapOf hw (h w' _ (I.tok _) rw')
 ·subst ey
  cases (show u = Value.ref b from ry)
  obtain ⟨z, hd, xs, rel, dd⟩ := dt_rd I.hok e
  obtain ⟨w', hw, rw'⟩ := RelO.some_of (v := v) (o := (atKey xs k).map (·.2)) (by rw [l]; exact rel.val k)
  obtain ⟨p, hp, hp2⟩ := Option.map_eq_some_iff.mp hw
  refine wpAny_getItem_heap (tupleKind_room_in1 hu) (key_of I.hok eb) dd hp ?_
  rw [hp2]
  exact h w' _ (I.tok _) rw'
theorem d_in {Q : Value -> Shared -> Prop} (hu : A.units + 1 < cLine) (I : Inv X pins σ H s) (g : DGet H a y o) (ry : RelV y u) (h : ∀ s', Inv X pins σ H s' -> Q (.bool o.isSome) s') :
  wpAny (model X.prog X.w) A (compareOp .In u (.ref a)) Q E s := by
 rcases g with ⟨kvs, k, e, ey, l⟩ | ⟨kvs, k, b, e, ey, eb, l⟩
 ·subst ey
  obtain ⟨z, hd, vs, rel, dd⟩ := dk_rd I.hok e
  refine wpAny_in_of (kV_is ry) hd dd.mapOf ?_
  rw [<- (rel.val k).isSome_eq, <- l]
  exact h _ (I.tok _)
 ·subst ey
  cases (show u = Value.ref b from ry)
  obtain ⟨z, hd, xs, rel, dd⟩ := dt_rd I.hok e
  refine wpAny_in_heap (tupleKind_room_in1 hu) (key_of I.hok eb) hd dd ?_
  have q := (rel.val k).isSome_eq
  rw [Option.isSome_map] at q
  rw [<- q, <- l]
  exact h _ (I.tok _)
theorem d_notIn {Q : Value -> Shared -> Prop} (hu : A.units + 1 < cLine) (I : Inv X pins σ H s) (g : DGet H a y o) (ry : RelV y u) (h : ∀ s', Inv X pins σ H s' -> Q (.bool (!o.isSome)) s') :
  wpAny (model X.prog X.w) A (compareOp .NotIn u (.ref a)) Q E s := by
 rcases g with ⟨kvs, k, e, ey, l⟩ | ⟨kvs, k, b, e, ey, eb, l⟩
 ·subst ey
  obtain ⟨z, hd, vs, rel, dd⟩ := dk_rd I.hok e
  refine wpAny_notIn_of (kV_is ry) hd dd.mapOf ?_
  rw [<- (rel.val k).isSome_eq, <- l]
  exact h _ (I.tok _)
 ·subst ey
  cases (show u = Value.ref b from ry)
  obtain ⟨z, hd, xs, rel, dd⟩ := dt_rd I.hok e
  refine wpAny_notIn_heap (tupleKind_room_in1 hu) (key_of I.hok eb) hd dd ?_
  have q := (rel.val k).isSome_eq
  rw [Option.isSome_map] at q
  rw [<- q, <- l]
  exact h _ (I.tok _)
theorem d_write {h' : Heap} {t' : Nat} {ob : HO} (I : Inv X pins σ H s) (mu : Mut (H a)) (hs : Heap.SameBut a s.heap h') (he : ∃ q, h'.get? a = some q) (new : ObjOk X.prog X.w (upd H a ob) h' a ob) :
  Inv X pins σ (upd H a ob) { s with heap := h', toks := t' } :=
 I.write (x := a) (e := a) mu (.inl rfl) (fun b q hb z => (hs.2 b hb).trans z) he new
theorem dk_new {P : Program} {w : World} {H' : Hp} {h' : Heap} {kvs : List (Key × V)} {vs : List (Key × Value)} (z : kvs.length <= sizeLine) (hd : (a == sysModules) = false) (rel : KV kvs vs) (dd : h'.DictOf (mixKind P w) a vs) :
  ObjOk P w H' h' a (.dK kvs) := ⟨z, hd, vs, rel, dd⟩
theorem d_setItem {H' : Hp} {Q : Unit -> Shared -> Prop} (hu : A.units + 1 < cLine) (I : Inv X pins σ H s) (g : DPut H a y v H') (ry : RelV y u) (rv : RelV v r) (h : ∀ s', Inv X pins σ H' s' -> Q () s') :
  wpAny (model X.prog X.w) A (setItem (.ref a) u r) Q E s := by
 rcases g with ⟨kvs, k, e, ey, l, eH⟩ | ⟨kvs, k, b, e, ey, eb, l, eH⟩
 ·subst ey eH
  obtain ⟨z, hd, vs, rel, dd⟩ := dk_of I.hok e
  have hz : vs.length <= sizeLine := by rw [<- rel.length]; exact z
  have hl : (putK kvs k v).length <= sizeLine := by have := length_putK kvs k v; omega
  refine wpAny_setItem_pairs (hsz := hz) (kV_is ry) dd fun h' dd' hs => h _ ?_
  have he : ∃ q, h'.get? a = some q := let ⟨q, _, _, hq, _⟩ := dd'; ⟨q, hq⟩
  exact d_write I (by rw [e]; exact True.intro) hs he (dk_new hl hd (rel.put k rv) dd')
 ·subst ey eH
  cases (show u = Value.ref b from ry)
  obtain ⟨z, hd, xs, rel, dd⟩ := dt_of I.hok e
  have hz : xs.length <= sizeLine := by rw [<- Paired.length rel]; exact z
  have hl : (putK kvs k v).length <= sizeLine := by have := length_putK kvs k v; omega
  refine wpAny_setItem_heap (hsz := hz) (tupleKind_room_in1 hu) (key_of I.hok eb) dd fun h' dd' hs => h _ ?_
  obtain ⟨q, es, ep, hq, h2, h3, h4, _, h5⟩ := dd'
  refine d_write I (by rw [e]; exact True.intro) hs ⟨q, hq⟩ ⟨hl, hd, _, (rel.put k eb rv).keeps fun c ys ec => ?_, q, es, ep, hq, h2, h3, h4, h5⟩
  rw [upd_ne (ne_of ec e (fun z => nomatch z))]
  exact ec
end
noncomputable def NoSl (i : Expr) : Prop := ∀ ov iv, subscripted i false ov iv = operate [ov, iv] (getItem ov iv)
theorem subD_of {prog : Program} {w : World} {A : Around} {E : Value -> Shared -> Prop} {s : Shared} {env : Env} {value slice : Expr} {pos : Pos} {T id : String} {Q : Value -> Shared -> Prop}
  (hl : typeLookup (.type T) "__getitem__" = pure (some (.builtin id))) (hs : NoSl slice)
  (h : wpAny (model prog w) A (eval value env) (fun o s₁ => wpAny (model prog w) A (eval slice env) (fun i s₂ => s₂.TypeIs o T /\ wpAny (model prog w) A (getItem o i) Q E s₂) E s₁) E s) :
  wpAny (model prog w) A (eval (.Subscript value slice pos) env) Q E s := by
 refine Subscript_ (wpAny_mono h (fun o s₁ h₁ => wpAny_mono h₁ (fun i s₂ h₂ => ?_) fun _ _ x => x) fun _ _ x => x)
 obtain ⟨hT, h₂⟩ := h₂
 unfold subscriptTail
 refine wpAny_bind ?_
 rw [getitemInPython_of_ne hT.not_modules]
 refine wpAny_bind (wpAny_specialOf hT hl ?_)
 have fin : wpAny (model prog w) A (subscripted slice false o i) (fun r s₃ => wpAny (model prog w) A (letTemporaryGo value o r >>= fun _ => pure r) Q E s₃) E s₂ := by
  rw [hs o i]
  exact wpAny_operating (wpAny_mono h₂ (fun r s₃ h₃ => wpAny_bind (wpAny_letTemporaryGo (wpAny_pure h₃))) fun _ _ x => x)
 first
  | exact wpAny_pure (wpAny_bind fin)
  | exact wpAny_bind (wpAny_pure (wpAny_bind fin))
  | exact wpAny_bind fin
theorem dict_typeIs {X : Cx} {pins : List (Addr × Obj)} {σ : St} {H : Hp} {s : Shared} {a : Addr} {y : V} {o : Option V} (I : Inv X pins σ H s) (g : DGet H a y o) : s.TypeIs (.ref a) "dict" := by
 rcases g with ⟨kvs, k, e, _, _⟩ | ⟨kvs, k, b, e, _, _, _⟩
 ·obtain ⟨_, _, vs, _, dd⟩ := dk_rd I.hok e
  exact dd.typeIs
 ·obtain ⟨_, _, xs, _, dd⟩ := dt_rd I.hok e
  exact dd.typeIs
noncomputable def tDGet (td ty : TE) : TE := fun σ H Q => td σ H fun x H1 => ty σ H1 fun y H2 => ∃ a v, x = .ref a /\ DGet H2 a y (some v) /\ Q v H2
noncomputable def sDPut (td ty tv : TE) : TS := fun D σ H => tv σ H fun v H1 => td σ H1 fun x H2 => ty σ H2 fun y H3 => ∃ a H4, x = .ref a /\ DPut H3 a y v H4 /\ D.nx σ H4
section
variable {X : Cx} {o i e value : Expr} {pos pos' tpos : Pos} {td ty tv : TE}
theorem pe_dget (hu : X.A.units + 1 < cLine) (ho : PE X o td) (hi : PE X i ty) (hs : NoSl i) : PE X (.Subscript o i pos) (tDGet td ty) := by
 intro pins s σ H Q I h
 refine subD_of PySem.F.slot_dict_getitem.lookup hs (thn (ho pins s σ H _ I h) fun u s1 ⟨x, H1, I1, rx, q1⟩ => thn (hi pins s1 σ H1 _ I1 q1) fun iv s2 ⟨y, H2, I2, ry, a, v, ex, g, q2⟩ => ?_)
 subst ex
 obtain rfl : u = Value.ref a := rx
 exact ⟨dict_typeIs I2 g, d_getItem hu I2 g ry fun w' s3 I3 rw' => ⟨v, H2, I3, rw', q2⟩⟩
theorem ps_dput (hu : X.A.units + 1 < cLine) (ho : PE X o td) (hi : PE X i ty) (hv : PE X value tv) (hs : swapsWith value (some (.Subscript o i pos')) pos.line X.env = pure false) :
  PS X (.Assign [.Subscript o i pos'] value pos) (sDPut td ty tv) := by
 intro pins s σ H D I h
 refine wpAny_Assign_Subscript (thn (hv pins s σ H _ I h) fun r s1 ⟨v, H1, I1, rv, q1⟩ => thn (ho pins s1 σ H1 _ I1 q1) fun u s2 ⟨x, H2, I2, rx, q2⟩ => thn (hi pins s2 σ H2 _ I2 q2) fun iv s3 ⟨y, H3, I3, ry, a, H4, ex, g, q3⟩ => ?_) hs
 subst ex
 obtain rfl : u = Value.ref a := rx
 exact d_setItem hu I3 g ry rv fun s4 I4 => ⟨σ, H4, I4, q3⟩
end
theorem dk_empty {P : Program} {w : World} {H : Hp} (h : Heap) (hb : sysModules < h.objs.size) : ObjOk P w H (h.push { cls := .type "dict", data := .dict #[] }) h.objs.size (.dK []) :=
 ⟨Nat.zero_le _, beq_eq_false_iff_ne.mpr (Ne.symm (Nat.ne_of_lt hb)), [], .nil, Heap.DictOf.new h⟩
noncomputable def tPairs : List (TE × TE) -> St -> Hp -> (List (V × V) -> Hp -> Prop) -> Prop
 | [], _, H, Q => Q [] H
 | (tk, tv) :: r, σ, H, Q => tk σ H fun x H1 => tv σ H1 fun y H2 => tPairs r σ H2 fun ps H3 => Q ((x, y) :: ps) H3
noncomputable abbrev VV : List (V × V) -> List (Value × Value) -> Prop := Paired fun p q => RelV p.1 q.1 /\ RelV p.2 q.2
noncomputable def PPs (X : Cx) (pos : Pos) (keys : List (Option Expr)) (values : List Expr) (trs : List (TE × TE)) : Prop :=
 ∀ (pins : List (Addr × Obj)) (s : Shared) (σ : St) (H : Hp) (Q : List (V × V) -> Hp -> Prop), Inv X pins σ H s -> tPairs trs σ H Q ->
  wpAny (model X.prog X.w) X.A (evalPairs (pairTrees keys values X.env pos)) (fun vs s' => ∃ ps H', Inv X pins σ H' s' /\ VV ps vs /\ Q ps H') X.xe s
theorem pps_nil {X : Cx} {pos : Pos} : PPs X pos [] [] [] := fun pins s σ H Q I h => pairTrees_nil_walk ⟨[], H, I, .nil, h⟩
theorem pps_cons {X : Cx} {pos : Pos} {k v : Expr} {ks : List (Option Expr)} {vs : List Expr} {tk tv : TE} {trs : List (TE × TE)} (hk : PE X k tk) (hv : PE X v tv) (hr : PPs X pos ks vs trs) :
  PPs X pos (some k :: ks) (v :: vs) ((tk, tv) :: trs) := fun pins s σ H Q I h =>
 pairTrees_cons_walk (thn (hk pins s σ H _ I h) fun u s1 ⟨x, H1, I1, rx, q1⟩ => thn (hv pins s1 σ H1 _ I1 q1) fun w2 s2 ⟨y, H2, I2, ry, q2⟩ =>
  thn (hr pins s2 σ H2 _ I2 q2) fun ws s3 ⟨ps, H3, I3, rel, q3⟩ => ⟨(x, y) :: ps, H3, I3, .cons ⟨rx, ry⟩ rel, q3⟩)
noncomputable def mergeK (kvs more : List (Key × V)) : List (Key × V) := more.foldl (fun acc kv => putK acc kv.1 kv.2) kvs
theorem KV.merge : ∀ {more : List (Key × V)} {rs : List (Key × Value)} {kvs : List (Key × V)} {vs : List (Key × Value)}, KV more rs -> KV kvs vs -> KV (mergeK kvs more) (merged vs rs) := by
 intro more rs kvs vs r
 unfold KV at r
 induction r generalizing kvs vs with
 | nil => intro q; exact q
 | @cons p q ps qs h t ih =>
  intro r0
  have e : KV (putK kvs p.1 p.2) (stored vs q.1 q.2) := by
   have := r0.put p.1 h.2
   rw [<- h.1]; exact this
  exact ih e
theorem length_mergeK : ∀ (more kvs : List (Key × V)), (mergeK kvs more).length <= kvs.length + more.length
 | [], kvs => by show kvs.length <= kvs.length + 0; omega
 | p :: r, kvs => by
  have h1 := length_mergeK r (putK kvs p.1 p.2)
  have h2 := length_putK kvs p.1 p.2
  show (mergeK (putK kvs p.1 p.2) r).length <= _
  rw [List.length_cons]; omega
theorem carries_of {P : Program} {w : World} : ∀ {kvs : List (Key × V)} {ws : List (Value × Value)}, VV (kvs.map fun kv => (kV kv.1, kv.2)) ws -> ∃ rs, Carries (mixKind P w) ws rs /\ KV kvs rs
 | [], _, r => by rw [List.map_nil] at r; cases r; exact ⟨[], True.intro, .nil⟩
 | p :: kvs, _, r => by
  rw [List.map_cons] at r
  cases r with
  | @cons a b as bs h t =>
   obtain ⟨rs, c, q⟩ := carries_of (P := P) (w := w) t
   obtain ⟨b1, b2⟩ := b
   exact ⟨(p.1, b2) :: rs, ⟨kV_is h.1, rfl, c⟩, .cons ⟨rfl, h.2⟩ q⟩
noncomputable def tDisp (trs : List (TE × TE)) : TE := fun σ H Q => ∀ p, H p = none -> tPairs trs σ (upd H p (.dK [])) fun ps H2 => H2 p = some (.dK []) /\ ∃ kvs : List (Key × V), ps = kvs.map (fun kv => (kV kv.1, kv.2)) /\ kvs.length <= 15 /\ Q (.ref p) (upd H2 p (.dK (mergeK [] kvs)))
theorem pe_disp {X : Cx} {pos : Pos} {keys : List (Option Expr)} {values : List Expr} {trs : List (TE × TE)} (h : PPs X pos keys values trs) (hall : keys.all (·.isSome) = true) (hl : keys.length = values.length) (h0 : keys ≠ [])
  (h15 : keys.length <= 15) : PE X (.Dict keys values pos) (tDisp trs) := by
 intro pins s σ H Q I q
 have hn := I.hok.fresh (Nat.le_refl s.heap.objs.size)
 have I1 := I.laid (a := s.heap.objs.size) (o := .dK []) (h' := s.heap.push { cls := .type "dict", data := .dict #[] }) (t' := s.toks) (fun _ _ q => Heap.get?_push_of_some _ q) (Nat.le_refl _) (dk_empty s.heap I.big)
 refine wpAny_Dict_walk (knd := mixKind X.prog X.w) hall hl h0 h15 (thn (h pins _ σ _ _ I1 (q _ hn)) fun ws s2 ⟨ps, H2, I2, rel, e, kvs, ep, lk, q2⟩ => ?_)
 subst ep
 obtain ⟨rs, c, rk⟩ := carries_of (P := X.prog) (w := X.w) rel
 obtain ⟨z, hd, vs0, r0, dd⟩ := dk_of I2.hok e
 cases r0
 refine ⟨rs, c, dd, fun h' dd' hs => ⟨.ref s.heap.objs.size, _, ?_, rfl, q2⟩⟩
 have hz : (mergeK [] kvs).length <= sizeLine := by
  have h1 := length_mergeK kvs []
  rw [List.length_nil] at h1
  rw [sizeLine_eq]; omega
 have he : ∃ q, h'.get? s.heap.objs.size = some q := let ⟨q, _, _, hq, _⟩ := dd'; ⟨q, hq⟩
 exact d_write I2 (by rw [e]; exact True.intro) hs he (dk_new hz hd (rk.merge .nil) dd')
end L2
end
section
namespace TW
open PySem PySem.Spec PyProof.Rows L2
open PySem.W (tabObj)
noncomputable def tabφ (P : Addr) (pos : Pos) (q : Str) : (Addr -> Prop) -> Heap -> Prop := fun S h =>
 h.get? P = some (tabObj #[]) \/ ∃ c, h.get? P = some (tabObj #[rawInt pos.line, rawInt pos.col, .ref c]) /\ S c /\ h.CodeRec (.ref c) q
theorem tabφ_stay {P : Addr} {pos : Pos} {q : Str} (S1 S2 : Addr -> Prop) (h1 h2 : Heap) (x : tabφ P pos q S1 h1) (hs : ∀ b, S1 b -> S2 b) (k : ∀ b o, (b = P \/ S1 b) -> h1.get? b = some o -> h2.get? b = some o) : tabφ P pos q S2 h2 := by
 rcases x with x | ⟨c, x1, x2, c', o, vs, t, e, ho, hd, hv⟩
 ·exact .inl (k _ _ (.inl rfl) x)
 ·cases e
  exact .inr ⟨c, k _ _ (.inl rfl) x1, hs _ x2, c, o, vs, t, rfl, k _ _ (.inr x2) ho, hd, hv⟩
theorem tabφ_there {P : Addr} {pos : Pos} {q : Str} {S : Addr -> Prop} {h : Heap} (x : tabφ P pos q S h) : ∃ o, h.get? P = some o := by
 rcases x with x | ⟨c, x, _⟩ <;> exact ⟨_, x⟩
theorem tab_ok {p : Program} {w : World} {H : Hp} {h : Heap} {P : Addr} {pos : Pos} {q : Str} (x : tabφ P pos q (fun b => H b = some (.own P)) h) : ObjOk p w H h P (.ext (tabφ P pos q)) := ⟨x, tabφ_there x, tabφ_stay⟩
noncomputable def tabAt : Addr := 111
noncomputable def tabCode : Addr := 115
noncomputable def tabC : Option (Addr × HO) := some (tabAt, .ext (tabφ tabAt ⟨50, 41, 50, 72⟩ "by_length.<locals>.<lambda>"))
noncomputable def Tb (G : Hp) : Prop := ∀ P o, tabC = some (P, o) -> G P = some o
theorem Tb.mono {G G' : Hp} (h : Same G G') (t : Tb G) : Tb G' := fun P o e => h _ _ (t P o e)
end TW
end
section
namespace TW
open PySem
inductive D where
 | non | bl (b : Bool) | int (i : Int) | str (x : Str) | tup (ds : List D) | lst (ds : List D)
 | scr (K : List (Addr × Obj)) (a : Addr) (ns : List Int)
 | dct (ks : List Int) (ds : List D)
instance : Inhabited D := ⟨.non⟩
noncomputable def lim : Nat := 65536
mutual
noncomputable def eqD : D -> D -> Bool
 | .non, .non => true
 | .bl a, .bl b => a == b
 | .int a, .int b => a == b
 | .bl a, .int b => (if a then 1 else 0) == b
 | .int a, .bl b => a == (if b then 1 else 0)
 | .str a, .str b => decide (a = b)
 | .tup a, .tup b => eqDs a b
 | .lst a, .lst b => eqDs a b
 | .scr _ _ _, .non => true
 | .non, .scr _ _ _ => true
 | .scr _ _ _, .scr _ _ _ => true
 | .dct _ _, .non => true
 | .non, .dct _ _ => true
 | .dct _ _, .scr _ _ _ => true
 | .scr _ _ _, .dct _ _ => true
 | .dct _ _, .dct _ _ => true
 | _, _ => false
noncomputable def eqDs : List D -> List D -> Bool
 | [], [] => true
 | a :: r, b :: q => eqD a b && eqDs r q
 | _, _ => false
end
noncomputable def intsOf : List D -> Option (List Int)
 | [] => some []
 | .int i :: r => (intsOf r).map (i :: ·)
 | _ => none
noncomputable def ddp (l : List Int) : List Int := l.foldl (fun acc x => if acc.any (· == x) then acc else acc ++ [x]) []
noncomputable def lexLt : List Int -> List Int -> Bool
 | [], [] => false
 | [], _ :: _ => true
 | _ :: _, [] => false
 | x :: xs, y :: ys => if x = y then lexLt xs ys else decide (x < y)
noncomputable def ltD : D -> D -> Option Bool
 | .int a, .int b => some (decide (a < b))
 | .tup a, .tup b => (intsOf a).bind fun x => (intsOf b).map fun y => lexLt x y
 | _, _ => none
noncomputable def geD : D -> D -> Option Bool
 | .int a, .int b => some (decide (b <= a))
 | .tup a, .tup b => (intsOf a).bind fun x => (intsOf b).map fun y => !(lexLt x y)
 | _, _ => none
noncomputable def leD : D -> D -> Option Bool
 | .int a, .int b => some (decide (a <= b))
 | _, _ => none
noncomputable def gtD : D -> D -> Option Bool
 | .int a, .int b => some (decide (b < a))
 | _, _ => none
noncomputable def isNon : D -> Bool
 | .non => true
 | _ => false
noncomputable def remD (d : D) : List D -> Option (List D)
 | [] => none
 | e :: r => if eqD e d then some r else (remD d r).map (e :: ·)
noncomputable def inD (d : D) (ds : List D) : Bool := ds.any fun e => eqD e d
inductive Kd where | fz | fr | bo
 deriving DecidableEq
inductive Ty where | int | bool | str | list | tuple | dict
 deriving DecidableEq
noncomputable def isD : Ty -> D -> Bool
 | .int, .int _ => true
 | .int, .bl _ => true
 | .bool, .bl _ => true
 | .str, .str _ => true
 | .list, .lst _ => true
 | .tuple, .tup _ => true
 | _, _ => false
noncomputable def isiD (t : Ty) : D -> Option (Kd × D)
 | .scr _ _ _ => none
 | .dct _ _ => none
 | d => some (.fz, .bl (isD t d))
noncomputable def seqOf : D -> Option (List D)
 | .tup ds => some ds
 | .lst ds => some ds
 | _ => none
noncomputable def truD : D -> Option Bool
 | .non => some false
 | .bl b => some b
 | .int i => some (i != 0)
 | .str x => if x.length <= lim then some (!(x.length == 0)) else none
 | .tup ds => some (!ds.isEmpty)
 | .lst ds => some (!ds.isEmpty)
 | .scr _ _ _ => none
 | .dct _ _ => none
noncomputable def atK : List Int -> List D -> Int -> Option D
 | k :: ks, d :: ds, i => if k = i then some d else atK ks ds i
 | _, _, _ => none
noncomputable def ixN (n : Nat) (i : Int) : Option Nat := if 0 <= i then (if i < n then some i.toNat else none) else if -(n : Int) <= i then some (i + n).toNat else none
noncomputable def atI {α : Type} (xs : List α) (i : Int) : Option α := (ixN xs.length i).bind fun j => xs[j]?
noncomputable def sIx (n d : Nat) : Option Int -> Nat
 | none => d
 | some v => if v < 0 then (max (v + (n : Int)) 0).toNat else (min v (n : Int)).toNat
noncomputable def cut {α : Type} (xs : List α) (lo hi : Option Int) : List α := (xs.drop (sIx xs.length 0 lo)).take (sIx xs.length xs.length hi - sIx xs.length 0 lo)
noncomputable def catRep (ds : List D) (k : Nat) : List D := (List.replicate k ds).flatten
noncomputable def opD : Operator -> D -> D -> Option (Kd × D)
 | .Add, .int a, .int b => some (.fz, .int (a + b))
 | .Add, .str a, .str b => if a.length + b.length <= lim then some (.fz, .str (a ++ b)) else none
 | .Add, .tup a, .tup b => if a.length + b.length <= lim then some (.fz, .tup (a ++ b)) else none
 | .Add, .lst a, .lst b => if a.length + b.length <= lim then some (.fr, .lst (a ++ b)) else none
 | .Sub, .int a, .int b => some (.fz, .int (a - b))
 | .Mult, .int a, .int b => if a.natAbs < 18446744073709551616 \/ b.natAbs < 18446744073709551616 then some (.fz, .int (a * b)) else none
 | .Mult, .tup a, .int b => if 2 <= b /\ 0 < a.length /\ a.length * b.toNat <= lim /\ b.natAbs <= lim then some (.fz, .tup (catRep a b.toNat)) else none
 | .Mult, .lst a, .int b => if 0 < b /\ a.length * b.toNat <= lim /\ b.natAbs <= lim then some (.fr, .lst (catRep a b.toNat)) else none
 | .FloorDiv, .int a, .int b => if 0 < b /\ b.natAbs < 1073741824 then some (.fz, .int (a / b)) else none
 | .Mod, .int a, .int b => if 0 < b then some (.fz, .int (a % b)) else none
 | .Pow, .int a, .int b => if 0 <= b /\ b.natAbs <= 1000000 /\ a.natAbs < 18446744073709551616 then some (.fz, .int (a ^ b.toNat)) else none
 | _, _, _ => none
mutual
noncomputable def okD : Nat -> D -> Bool
 | _, .non => true
 | _, .bl _ => true
 | _, .int _ => true
 | _, .str x => x.cps.all (· < 0x110000)
 | _, .scr _ _ _ => false
 | _, .dct _ _ => false
 | 0, .tup _ => false
 | 0, .lst _ => false
 | n + 1, .tup ds => okDs n ds
 | n + 1, .lst ds => okDs n ds
noncomputable def okDs : Nat -> List D -> Bool
 | _, [] => true
 | n, d :: ds => okD n d && okDs n ds
end
noncomputable def eqO : D -> D -> Option Bool
 | .str a, .str b => some (decide (a = b))
 | a, b => if okD 40 a && okD 40 b then some (eqD a b) else none
noncomputable def cmpD : CmpOp -> D -> D -> Option Bool
 | .Eq, a, b => eqO a b
 | .NotEq, a, b => (eqO a b).map fun k => !k
 | .Lt, a, b => ltD a b
 | .LtE, a, b => leD a b
 | .Gt, a, b => gtD a b
 | .GtE, a, b => geD a b
 | .In, a, b => match b with
  | .dct ks _ => (match a with | .int i => some (decide (i ∈ ks)) | _ => none)
  | z => (seqOf z).bind fun ds => if okD 40 a && okDs 40 ds then some (inD a ds) else none
 | .NotIn, a, b => match b with
  | .dct ks _ => (match a with | .int i => some (!decide (i ∈ ks)) | _ => none)
  | z => (seqOf z).bind fun ds => if okD 40 a && okDs 40 ds then some (!inD a ds) else none
 | .Is, a, .non => some (isNon a)
 | .IsNot, a, .non => some (!isNon a)
 | _, _, _ => none
inductive B1 where | len | tuple | list | sorted | sortp | byl | str | int | sum | all | any | min | max
 deriving DecidableEq
inductive B2 where | min | max
 deriving DecidableEq
inductive LM where | index | count
 deriving DecidableEq
mutual
inductive C where
 | var (i : Nat) | cst (d : D) | neg (a : C) | nt (a : C) | bin (op : Operator) (a b : C) | cmp (op : CmpOp) (a b : C)
 | cmp2 (op oq : CmpOp) (a b c : C) | an (a b : C) | orr (a b : C) | ife (c a b : C) | tp (l : CA) | ls (l : CA)
 | ix (a b : C) | sl (a : C) (lo hi : CO) | rev (a : C) | comp (cap : List (Option Nat)) (tg : Tg) (it : CI) (cd : CO) (e : C)
 | call (f : Nat) (l : CA) | b1 (f : B1) (a : C) | b2 (f : B2) (a b : C) | isi (a : C) (t : Ty) | rngl (a : C) | rngt (a : C) | slen (a : C) | join (sep : Str) (a : C) | lm (f : LM) (a b : C)
inductive CA where | nil | cons (a : C) (r : CA)
inductive CO where | no | so (a : C)
inductive CI where | sq (a : C) | ky (a : C) | r1 (a : C) | r2 (a b : C) | r3 (a b c : C) | zp (a b : C) | en (a : C)
inductive Tg where | one (i : Nat) | many (l : List Nat)
end
inductive Sl where | val (d : D) | own (ds : List D) | ownd (ks : List Int) (ds : List D)
noncomputable def Sl.isO : Sl -> Bool
 | .val _ => false
 | _ => true
noncomputable abbrev En := List (Option Sl)
noncomputable def frz : Kd × D -> Option D
 | (.bo, _) => none
 | (_, d) => some d
noncomputable def setAll : List Nat -> List D -> En -> Option En
 | [], [], r => some r
 | i :: l, d :: ds, r => setAll l ds (r.set i (some (.val d)))
 | _, _, _ => none
noncomputable def bindT : Tg -> D -> En -> Option En
 | .one i, d, r => some (r.set i (some (.val d)))
 | .many l, .tup ds, r => setAll l ds r
 | _, _, _ => none
noncomputable def compGo (f : D -> Option (Option D)) : List D -> Option (List D)
 | [] => some []
 | d :: r => (f d).bind fun o => (compGo f r).map fun q => match o with | some x => x :: q | none => q
noncomputable def insI (i : Int) : List Int -> List Int
 | [] => [i]
 | x :: r => if i < x then i :: x :: r else x :: insI i r
noncomputable def srtI (l : List Int) : List Int := l.foldr insI []
noncomputable def pairsOf : List D -> Option (List (List Int))
 | [] => some []
 | .tup a :: r => (intsOf a).bind fun x => (pairsOf r).map (x :: ·)
 | _ => none
noncomputable def insP (i : List Int) : List (List Int) -> List (List Int)
 | [] => [i]
 | x :: r => if lexLt x i then x :: insP i r else i :: x :: r
noncomputable def srtP (l : List (List Int)) : List (List Int) := l.foldr insP []
noncomputable def boolsOf : List D -> Option (List Bool)
 | [] => some []
 | .bl b :: r => (boolsOf r).map (b :: ·)
 | _ => none
noncomputable def strsOf : List D -> Option (List Str)
 | [] => some []
 | .str b :: r => (strsOf r).map (b :: ·)
 | _ => none
noncomputable def joinS (sep : Str) (l : List Str) : Str := ⟨(l.drop 1).foldl (fun acc p => acc ++ sep.cps ++ p.cps) (l.headD Str.empty).cps⟩
noncomputable def jlen (sep : Str) (l : List Str) : Nat := l.foldl (fun n x => n + x.length + sep.length) 0
noncomputable def sumL (l : List Int) : Int := l.foldl (· + ·) 0
noncomputable def minL : List Int -> Option Int
 | [] => none
 | x :: r => some (r.foldl (fun a b => if b < a then b else a) x)
noncomputable def maxL : List Int -> Option Int
 | [] => none
 | x :: r => some (r.foldl (fun a b => if b > a then b else a) x)
noncomputable def runT {α : Type} (c : Nat -> Nat -> Bool) : PySem.W.KasT α -> α
 | .ret a => a
 | .ask i j k => runT c (k (c i j))
noncomputable def keyLt (ks : List Int) (i j : Nat) : Bool := decide (ks.getD i 0 < ks.getD j 0)
noncomputable def srtK (ks : List Int) : List Nat := if ks.length < 2 then List.range ks.length else (runT (keyLt ks) (PySem.W.kas_sort ks.length)).toList
noncomputable def keyOf : D -> Option Int
 | .tup (_ :: _ :: .int k :: _) => some k
 | _ => none
noncomputable def keysOf : List D -> Option (List Int)
 | [] => some []
 | d :: r => (keyOf d).bind fun k => (keysOf r).map (k :: ·)
noncomputable def idxD (d : D) : List D -> Option Nat
 | [] => none
 | e :: r => if eqD e d then some 0 else (idxD d r).map (· + 1)
noncomputable def lmD : LM -> D -> D -> Option (Kd × D)
 | .index, .lst ds, d => if okD 40 d && okDs 40 ds then (idxD d ds).map fun i => (.fz, .int (i : Nat)) else none
 | .count, .lst ds, d => if okD 40 d && okDs 40 ds then some (.fz, .int (ds.countP fun e => eqD e d : Nat)) else none
 | _, _, _ => none
noncomputable def b1D : B1 -> D -> Option (Kd × D)
 | .len, .tup ds => some (.fz, .int ds.length)
 | .len, .lst ds => some (.fz, .int ds.length)
 | .len, .str x => if x.length <= lim then some (.fz, .int x.length) else none
 | .tuple, .tup ds => some (.fz, .tup ds)
 | .tuple, .lst ds => some (.fz, .tup ds)
 | .list, .tup ds => some (.fr, .lst ds)
 | .list, .lst ds => some (.fr, .lst ds)
 | .sorted, .lst ds => (intsOf ds).bind fun l => if l.length < 64 then some (.fr, .lst ((srtI l).map D.int)) else none
 | .sorted, .tup ds => (intsOf ds).bind fun l => if l.length < 64 then some (.fr, .lst ((srtI l).map D.int)) else none
 | .sortp, .lst ds => (pairsOf ds).bind fun l => if l.length < 64 /\ (l.all fun x => x.length == 2) = true then some (.fr, .lst ((srtP l).map fun p => .tup (p.map D.int))) else none
 | .byl, .tup ds => (keysOf ds).bind fun ks => if ks.length < 64 /\ (ds.all fun d => match d with | .tup x => decide (x.length <= 1000) | _ => false) = true then some (.fr, .lst ((srtK ks).map fun i => .int (i : Nat))) else none
 | .str, .int i => if i.natAbs < 10 ^ 20 then some (.fz, .str (Str.ofString (toString i))) else none
 | .int, .int i => some (.fz, .int i)
 | .int, .bl b => some (.fz, .int (if b then 1 else 0))
 | .sum, .lst ds => (intsOf ds).map fun l => (.fz, .int (sumL l))
 | .all, .lst ds => (boolsOf ds).map fun l => (.fz, .bl (l.all id))
 | .any, .lst ds => (boolsOf ds).map fun l => (.fz, .bl (l.any id))
 | .min, .lst ds => (intsOf ds).bind fun l => (minL l).map fun i => (.fz, .int i)
 | .min, .tup ds => (intsOf ds).bind fun l => (minL l).map fun i => (.fz, .int i)
 | .max, .lst ds => (intsOf ds).bind fun l => (maxL l).map fun i => (.fz, .int i)
 | .max, .tup ds => (intsOf ds).bind fun l => (maxL l).map fun i => (.fz, .int i)
 | _, _ => none
noncomputable def b2D : B2 -> D -> D -> Option (Kd × D)
 | .min, .int a, .int b => some (.fz, .int (if b < a then b else a))
 | .max, .int a, .int b => some (.fz, .int (if b > a then b else a))
 | _, _, _ => none
noncomputable def rngD (lo : Int) (n : Nat) : List D := (List.range n).map fun (k : Nat) => D.int (lo + (k : Int))
noncomputable def dwnD (hi : Int) (n : Nat) : List D := (List.range n).map fun (k : Nat) => D.int (hi - (k : Int))
noncomputable def rngOk (i : Int) : Bool := decide (i.natAbs < 4611686018427387904)
noncomputable def zipD : List D -> List D -> List D
 | a :: r, b :: q => .tup [a, b] :: zipD r q
 | _, _ => []
noncomputable def capt (r : En) (cap : List (Option Nat)) : En := cap.map fun o => o.bind fun i => (r[i]?).join
noncomputable def free1 (cap : List (Option Nat)) (i : Nat) : Bool := match cap[i]? with | some none => true | _ => false
noncomputable def freeT (cap : List (Option Nat)) : Tg -> Bool
 | .one i => free1 cap i
 | .many l => l.all (free1 cap)
noncomputable def nfr : Kd -> Kd
 | .bo => .bo
 | _ => .fz
noncomputable abbrev VT := Option (Kd × D) × Option Bool
noncomputable def vt (v : Option (Kd × D)) : VT := (v, v.bind fun x => truD x.2)
mutual
noncomputable def ev (p : Nat -> List D -> Option D) : C -> En -> VT
 | .var i, r => vt (match r[i]? with
  | some (some (.val d)) => some (.fz, d)
  | some (some (.own ds)) => some (.bo, .lst ds)
  | some (some (.ownd ks ds)) => some (.bo, .dct ks ds)
  | _ => none)
 | .cst d, _ => vt (some (.fz, d))
 | .neg a, r => vt ((ev p a r).1.bind fun x => match x.2 with | .int i => some (.fz, .int (-i)) | _ => none)
 | .nt a, r => ((ev p a r).1.bind fun x => match x.2 with | .bl b => some (.fz, .bl (!b)) | _ => none, (ev p a r).2.map fun k => !k)
 | .bin op a b, r => vt ((ev p a r).1.bind fun x => (ev p b r).1.bind fun y => opD op x.2 y.2)
 | .cmp op a b, r => vt ((ev p a r).1.bind fun x => (ev p b r).1.bind fun y => (cmpD op x.2 y.2).map fun b => (.fz, .bl b))
 | .cmp2 op oq a b c, r => vt ((ev p a r).1.bind fun x => (ev p b r).1.bind fun y => (cmpD op x.2 y.2).bind fun k =>
   if k then (ev p c r).1.bind fun z => (cmpD oq y.2 z.2).map fun b => (.fz, .bl b) else some (.fz, .bl false))
 | .an a b, r => ((ev p a r).1.bind fun x => match x.2 with | .bl true => (ev p b r).1 | .bl false => some (.fz, .bl false) | _ => none,
   (ev p a r).2.bind fun k => if k then (ev p b r).2 else some false)
 | .orr a b, r => ((ev p a r).1.bind fun x => match x.2 with | .bl true => some (.fz, .bl true) | .bl false => (ev p b r).1 | _ => none,
   (ev p a r).2.bind fun k => if k then some true else (ev p b r).2)
 | .ife c a b, r => vt ((ev p c r).2.bind fun k => if k then (ev p a r).1 else (ev p b r).1)
 | .tp l, r => vt ((evA p l r).bind fun ds => if ds.length <= lim then some (.fz, .tup ds) else none)
 | .ls l, r => vt ((evA p l r).bind fun ds => if ds.length <= lim then some (.fr, .lst ds) else none)
 | .ix a b, r => vt ((ev p a r).1.bind fun x => (ev p b r).1.bind fun y => match y.2 with
  | .int i => (match x.2 with
   | .dct ks ds => (atK ks ds i).map fun d => (.fz, d)
   | z => (seqOf z).bind fun ds => (atI ds i).map fun d => (.fz, d))
  | _ => none)
 | .sl a lo hi, r => vt ((ev p a r).1.bind fun x => (evO p lo r).1.bind fun l => (evO p hi r).1.bind fun h => match x.2 with
  | .tup ds => some (.fz, .tup (cut ds l h))
  | .lst ds => some (.fr, .lst (cut ds l h))
  | _ => none)
 | .rev a, r => vt ((ev p a r).1.bind fun x => match x.2 with
  | .tup ds => some (.fz, .tup ds.reverse)
  | .lst ds => some (.fr, .lst ds.reverse)
  | _ => none)
 | .comp cap tg it cd e, r => vt ((evI p it r).bind fun ds => if ds.2.length <= lim /\ freeT cap tg = true then
   (compGo (fun d => (bindT tg d (capt r cap)).bind fun q => (evO p cd q).2.bind fun k => if k then ((ev p e q).1.bind frz).map some else some none) ds.2).map fun l => (.fr, .lst l)
  else none)
 | .call f l, r => vt ((evA p l r).bind fun ds => (p f ds).map fun d => (.fz, d))
 | .b1 f a, r => vt ((ev p a r).1.bind fun x => b1D f x.2)
 | .b2 f a b, r => vt ((ev p a r).1.bind fun x => (ev p b r).1.bind fun y => b2D f x.2 y.2)
 | .isi a t, r => vt ((ev p a r).1.bind fun x => isiD t x.2)
 | .rngl a, r => vt ((ev p a r).1.bind fun x => match x.2 with
  | .int i => if rngOk i && decide (i.natAbs <= lim) then some (.fr, .lst (rngD 0 i.toNat)) else none
  | _ => none)
 | .rngt a, r => vt ((ev p a r).1.bind fun x => match x.2 with
  | .int i => if rngOk i && decide (i.natAbs <= lim) then some (.fz, .tup (rngD 0 i.toNat)) else none
  | _ => none)
 | .slen a, r => vt ((ev p a r).1.bind fun x => match x.2 with
  | .tup ds => (intsOf ds).bind fun l => if l.length <= 1000 then some (.fz, .int (ddp l).length) else none
  | _ => none)
 | .join sep a, r => vt ((ev p a r).1.bind fun x => match x.2 with
  | .lst ds => (strsOf ds).bind fun l => if jlen sep l <= lim then some (.fz, .str (joinS sep l)) else none
  | _ => none)
 | .lm f a b, r => vt ((ev p a r).1.bind fun x => (ev p b r).1.bind fun y => lmD f x.2 y.2)
noncomputable def evA (p : Nat -> List D -> Option D) : CA -> En -> Option (List D)
 | .nil, _ => some []
 | .cons a l, r => ((ev p a r).1.bind frz).bind fun d => (evA p l r).map fun q => d :: q
noncomputable def evO (p : Nat -> List D -> Option D) : CO -> En -> Option (Option Int) × Option Bool
 | .no, _ => (some none, some true)
 | .so a, r => ((ev p a r).1.bind fun x => match x.2 with | .int i => some (some i) | _ => none, (ev p a r).2)
noncomputable def evI (p : Nat -> List D -> Option D) : CI -> En -> Option (Kd × List D)
 | .sq a, r => (ev p a r).1.bind fun x => (seqOf x.2).map fun u => (nfr x.1, u)
 | .ky a, r => (ev p a r).1.bind fun x => match x with | (.fz, .dct ks _) => some (.fz, ks.map D.int) | _ => none
 | .r1 a, r => (ev p a r).1.bind fun x => match x.2 with | .int i => if rngOk i then some (.fz, rngD 0 i.toNat) else none | _ => none
 | .r2 a b, r => (ev p a r).1.bind fun x => (ev p b r).1.bind fun y => match x.2, y.2 with
  | .int i, .int j => if rngOk i && rngOk j then some (.fz, rngD i (j - i).toNat) else none
  | _, _ => none
 | .r3 a b c, r => (ev p a r).1.bind fun x => (ev p b r).1.bind fun y => (ev p c r).1.bind fun z => match x.2, y.2, z.2 with
  | .int i, .int j, .int k => if rngOk i && rngOk j && k == -1 then some (.fz, dwnD i (i - j).toNat) else none
  | _, _, _ => none
 | .zp a b, r => (ev p a r).1.bind fun x => (ev p b r).1.bind fun y => match x.2, y.2 with | .tup u, .tup v => some (.fz, zipD u v) | _, _ => none
 | .en a, r => (ev p a r).1.bind fun x => match x.2 with | .tup u => some (.fz, zipD (rngD 0 u.length) u) | _ => none
end
mutual
inductive S where
 | asg (o : Bool) (i : Nat) (c : C) | asgT (l : List Nat) (c : C) | app (i : Nat) (c : C) | ext (i : Nat) (c : C) | rem (i : Nat) (c : C) | dnew (i : Nat) (k v : C) | dset (i : Nat) (k v : C) | give (i : Nat)
 | ifs (c : C) (a b : SS) | fr (tg : Tg) (it : CI) (b : SS) | wh (c : C) (b : SS) | ret (c : C) | pas | nev
inductive SS where | nil | cons (s : S) (r : SS)
end
inductive Fl where | nx (r : En) | bk (r : En) | ct (r : En) | rt (d : D)
noncomputable def loopF (tg : Tg) (f : En -> Option Fl) : List D -> En -> Option Fl
 | [], r => some (.nx r)
 | d :: ds, r => (bindT tg d r).bind fun q => (f q).bind fun o => match o with
  | .nx q => loopF tg f ds q
  | .ct q => loopF tg f ds q
  | .bk q => some (.nx q)
  | .rt d => some (.rt d)
noncomputable def loopW (c : En -> Option Bool) (f : En -> Option Fl) : Nat -> En -> Option Fl
 | 0, _ => none
 | n + 1, r => (c r).bind fun k => if k then (f r).bind fun o => match o with
  | .nx q => loopW c f n q
  | .ct q => loopW c f n q
  | .bk q => some (.nx q)
  | .rt d => some (.rt d) else some (.nx r)
noncomputable def fuel : Nat := 100000
mutual
noncomputable def evS (p : Nat -> List D -> Option D) : S -> En -> Option Fl
 | .asg o i c, r => (ev p c r).1.bind fun x => match o, x with
  | true, (.fr, .lst ds) => some (.nx (r.set i (some (.own ds))))
  | _, x => (frz x).map fun d => .nx (r.set i (some (.val d)))
 | .asgT l c, r => ((ev p c r).1.bind frz).bind fun d => (bindT (.many l) d r).map Fl.nx
 | .app i c, r => ((ev p c r).1.bind frz).bind fun d => match r[i]? with
  | some (some (.own ds)) => if ds.length < lim then some (.nx (r.set i (some (.own (ds ++ [d]))))) else none
  | _ => none
 | .ext i c, r => (ev p c r).1.bind fun x => match x.2, r[i]? with
  | .lst es, some (some (.own ds)) => if ds.length + es.length <= lim then some (.nx (r.set i (some (.own (ds ++ es))))) else none
  | _, _ => none
 | .rem i c, r => ((ev p c r).1.bind frz).bind fun d => match r[i]? with
  | some (some (.own ds)) => if okD 40 d && okDs 40 ds && decide (ds.length <= lim) then (remD d ds).map fun es => .nx (r.set i (some (.own es))) else none
  | _ => none
 | .dnew i k v, r => (ev p k r).1.bind fun x => ((ev p v r).1.bind frz).bind fun d => match x.2 with
  | .int a => some (.nx (r.set i (some (.ownd [a] [d]))))
  | _ => none
 | .dset i k v, r => (ev p k r).1.bind fun x => ((ev p v r).1.bind frz).bind fun d => match x.2, r[i]? with
  | .int a, some (some (.ownd ks ds)) => if ks.length < lim /\ a ∉ ks then some (.nx (r.set i (some (.ownd (ks ++ [a]) (ds ++ [d]))))) else none
  | _, _ => none
 | .give i, r => match r[i]? with
  | some (some (.own ds)) => some (.nx (r.set i (some (.val (.lst ds)))))
  | some (some (.ownd ks ds)) => some (.nx (r.set i (some (.val (.dct ks ds)))))
  | _ => none
 | .ifs c a b, r => (ev p c r).2.bind fun k => if k then evSS p a r else evSS p b r
 | .fr tg it b, r => (evI p it r).bind fun ds => match ds.1 with
  | .bo => none
  | _ => loopF tg (fun q => evSS p b q) ds.2 r
 | .wh c b, r => loopW (fun q => (ev p c q).2) (fun q => evSS p b q) fuel r
 | .ret c, r => ((ev p c r).1.bind frz).map Fl.rt
 | .pas, r => some (.nx r)
 | .nev, _ => none
noncomputable def evSS (p : Nat -> List D -> Option D) : SS -> En -> Option Fl
 | .nil, r => some (.nx r)
 | .cons s l, r => (evS p s r).bind fun o => match o with
  | .nx q => evSS p l q
  | x => some x
end
noncomputable def enter (n : Nat) (ds : List D) : En := ds.map (fun d => some (.val d)) ++ List.replicate (n - ds.length) none
noncomputable def left : Option Fl -> Option D
 | some (.rt d) => some d
 | some (.nx _) => some .non
 | _ => none
noncomputable def runF (p : Nat -> List D -> Option D) (n : Nat) (b : SS) (ds : List D) : Option D := left (evSS p b (enter n ds))
noncomputable def cellD (K : List (Addr × Obj)) : List D -> Option D
 | [.scr K' _ ns, .int k] => by
  classical
  exact if K' = K /\ ns.length <= 63 /\ 0 <= k then some (.int (ns.getD k.toNat 0)) else none
 | _ => none
noncomputable def pf (K : List (Addr × Obj)) (bs : List (Nat × SS)) : Nat -> Nat -> List D -> Option D
 | 0, _, _ => none
 | k + 1, i, args => if i = 0 then cellD K args else match bs[i]? with
  | some b => runF (pf K bs k) b.1 b.2 args
  | none => none
noncomputable def slice (l : List C) : CA := l.foldr CA.cons CA.nil
noncomputable def block (l : List S) : SS := l.foldr SS.cons SS.nil
example (p r a b) : ev p (.bin .Add a b) r = vt ((ev p a r).1.bind fun x => (ev p b r).1.bind fun y => opD .Add x.2 y.2) := rfl
end TW
end
section
namespace TW
open PySem PySem.Spec PyProof.Rows L2
noncomputable def zipK (ks : List Int) (xs : List V) : List (Key × V) := (ks.map Sum.inl).zip xs
mutual
noncomputable def Rp (G : Hp) : D -> V -> Prop
 | .non, v => v = .non
 | .bl b, v => v = .bl b
 | .int i, v => v = .int i
 | .str x, v => v = .str x
 | .tup ds, v => ∃ a xs, v = .ref a /\ G a = some (.tup xs) /\ Rps G ds xs
 | .lst ds, v => ∃ a xs, v = .ref a /\ Rd G a (.lst xs) /\ Rps G ds xs
 | .scr K a ns, v => v = .ref a /\ SqL K G a (ns.map V.int)
 | .dct ks ds, v => ∃ a o xs, v = .ref a /\ ks.length = ds.length /\ G a = some (.frz o (.dK (zipK ks xs))) /\ Rps G ds xs
noncomputable def Rps (G : Hp) : List D -> List V -> Prop
 | [], xs => xs = []
 | d :: ds, xs => ∃ x r, xs = x :: r /\ Rp G d x /\ Rps G ds r
end
theorem Rd.same {G G' : Hp} (h : Same G G') {a : Addr} {u : HO} (r : Rd G a u) : Rd G' a u := by
 rcases r with g | ⟨o, g⟩
 ·exact .inl (h _ _ g)
 ·exact .inr ⟨o, h _ _ g⟩
mutual
theorem Rp.mono {G G' : Hp} (h : Same G G') : ∀ (d : D) (v : V), Rp G d v -> Rp G' d v
 | .non, _, r => r
 | .bl _, _, r => r
 | .int _, _, r => r
 | .str _, _, r => r
 | .tup ds, v, r => by
  obtain ⟨a, xs, e, g, r⟩ := r
  exact ⟨a, xs, e, h _ _ g, Rps.mono h ds xs r⟩
 | .lst ds, v, r => by
  obtain ⟨a, xs, e, g, r⟩ := r
  exact ⟨a, xs, e, Rd.same h g, Rps.mono h ds xs r⟩
 | .scr K a ns, v, r => ⟨r.1, Same.seq h r.2⟩
 | .dct ks ds, v, r => by
  obtain ⟨a, o, xs, e, l, g, r⟩ := r
  exact ⟨a, o, xs, e, l, h _ _ g, Rps.mono h ds xs r⟩
theorem Rps.mono {G G' : Hp} (h : Same G G') : ∀ (ds : List D) (xs : List V), Rps G ds xs -> Rps G' ds xs
 | [], _, r => r
 | d :: ds, _, r => by
  obtain ⟨x, q, e, p, t⟩ := r
  exact ⟨x, q, e, Rp.mono h d x p, Rps.mono h ds q t⟩
end
section
variable {G : Hp}
theorem Rps.length : ∀ {ds : List D} {xs : List V}, Rps G ds xs -> xs.length = ds.length
 | [], _, r => by cases (show _ = _ from r); rfl
 | d :: ds, _, r => by
  obtain ⟨x, q, rfl, _, t⟩ := r
  simp [Rps.length t]
theorem Rps.get : ∀ {ds : List D} {xs : List V} {i : Nat} {d : D}, Rps G ds xs -> ds[i]? = some d -> ∃ x, xs[i]? = some x /\ Rp G d x
 | [], _, _, _, _, e => by simp at e
 | d :: ds, _, 0, _, r, e => by
  obtain ⟨x, q, rfl, p, t⟩ := r
  simp at e; subst e
  exact ⟨x, rfl, p⟩
 | d :: ds, _, i + 1, e', r, e => by
  obtain ⟨x, q, rfl, p, t⟩ := r
  obtain ⟨y, h1, h2⟩ := Rps.get (i := i) t (by simpa using e)
  exact ⟨y, by simpa using h1, h2⟩
theorem Rps.nil : Rps G [] [] := rfl
theorem Rps.cons {d : D} {x : V} {ds : List D} {xs : List V} (p : Rp G d x) (t : Rps G ds xs) : Rps G (d :: ds) (x :: xs) := ⟨x, xs, rfl, p, t⟩
theorem Rps.append : ∀ {ds es : List D} {xs ys : List V}, Rps G ds xs -> Rps G es ys -> Rps G (ds ++ es) (xs ++ ys)
 | [], _, _, _, r, s => by cases (show _ = _ from r); exact s
 | d :: ds, _, _, _, r, s => by
  obtain ⟨x, q, rfl, p, t⟩ := r
  exact ⟨x, _, rfl, p, Rps.append t s⟩
theorem Rps.take : ∀ (n : Nat) {ds : List D} {xs : List V}, Rps G ds xs -> Rps G (ds.take n) (xs.take n)
 | 0, _, _, _ => by simp [Rps]
 | n + 1, [], _, r => by cases (show _ = _ from r); simp [Rps]
 | n + 1, d :: ds, _, r => by
  obtain ⟨x, q, rfl, p, t⟩ := r
  exact ⟨x, _, rfl, p, Rps.take n t⟩
theorem Rps.drop : ∀ (n : Nat) {ds : List D} {xs : List V}, Rps G ds xs -> Rps G (ds.drop n) (xs.drop n)
 | 0, _, _, r => r
 | n + 1, [], _, r => by cases (show _ = _ from r); simp [Rps]
 | n + 1, d :: ds, _, r => by
  obtain ⟨x, q, rfl, p, t⟩ := r
  exact Rps.drop n t
theorem Rps.reverse : ∀ {ds : List D} {xs : List V}, Rps G ds xs -> Rps G ds.reverse xs.reverse
 | [], _, r => by cases (show _ = _ from r); simp [Rps]
 | d :: ds, _, r => by
  obtain ⟨x, q, rfl, p, t⟩ := r
  rw [List.reverse_cons, List.reverse_cons]
  exact Rps.append (Rps.reverse t) (Rps.cons p Rps.nil)
theorem Rps.ints : ∀ {ns : List Int} {xs : List V}, Rps G (ns.map D.int) xs -> xs = ns.map V.int
 | [], _, r => by cases (show _ = _ from r); rfl
 | n :: ns, _, r => by
  obtain ⟨x, q, rfl, p, t⟩ := r
  cases (show _ = _ from p)
  rw [Rps.ints t]; rfl
theorem Rps.of_ints : ∀ (ns : List Int), Rps G (ns.map D.int) (ns.map V.int)
 | [] => rfl
 | n :: ns => ⟨_, _, rfl, rfl, Rps.of_ints ns⟩
theorem Rps.rep {ds : List D} {xs : List V} (r : Rps G ds xs) : ∀ k : Nat, Rps G (catRep ds k) (List.replicate k xs).flatten
 | 0 => by simp [catRep, Rps]
 | k + 1 => by
  have := Rps.append r (Rps.rep r k)
  simpa [catRep, List.replicate_succ] using this
end
theorem intsOf_eq : ∀ {ds : List D} {ns : List Int}, intsOf ds = some ns -> ds = ns.map D.int
 | [], _, e => by simp [intsOf] at e; subst e; rfl
 | .int i :: r, ns, e => by
  simp only [intsOf, Option.map_eq_some_iff] at e
  obtain ⟨q, h, rfl⟩ := e
  rw [intsOf_eq h]; rfl
 | .non :: r, _, e => by simp [intsOf] at e
 | .bl _ :: r, _, e => by simp [intsOf] at e
 | .str _ :: r, _, e => by simp [intsOf] at e
 | .tup _ :: r, _, e => by simp [intsOf] at e
 | .lst _ :: r, _, e => by simp [intsOf] at e
 | .scr _ _ _ :: r, _, e => by simp [intsOf] at e
 | .dct _ _ :: r, _, e => by simp [intsOf] at e
structure Ext (G H G' H' : Hp) : Prop where
 gg : Same G G'
 hh : Same H H'
 gh : Same G' H'
 nw : ∀ b o, G' b = some o -> G b = some o \/ H b = none
theorem Ext.refl {G H : Hp} (h : Same G H) : Ext G H G H := ⟨Same.refl _, Same.refl _, h, fun _ _ e => .inl e⟩
theorem Ext.trans {G H G1 H1 G2 H2 : Hp} (a : Ext G H G1 H1) (b : Ext G1 H1 G2 H2) : Ext G H G2 H2 :=
 ⟨a.gg.trans b.gg, a.hh.trans b.hh, b.gh, fun c o e => (b.nw c o e).elim (fun z => a.nw c o z) fun z => .inr (a.hh.free z)⟩
theorem Ext.laid {G H : Hp} (h : Same G H) {p : Addr} (hp : H p = none) (o : HO) : Ext G H (upd G p o) (upd H p o) := by
 have gp : G p = none := h.free hp
 refine ⟨fun b u e => ?_, fun b u e => ?_, fun b u e => ?_, fun b u e => ?_⟩
 ·rw [upd_ne (ne_of_none e gp)]; exact e
 ·rw [upd_ne (ne_of_none e hp)]; exact e
 ·by_cases hb : b = p
  ·subst hb; rw [upd_same] at e ⊢; exact e
  ·rw [upd_ne hb] at e ⊢; exact h _ _ e
 ·by_cases hb : b = p
  ·subst hb; exact .inr hp
  ·rw [upd_ne hb] at e; exact .inl e
theorem Ext.grown {G H : Hp} (h : Same G H) {p : Addr} (hp : H p = none) (o : HO) : Ext G H G (upd H p o) := by
 refine ⟨Same.refl _, fun b u e => ?_, fun b u e => ?_, fun b u e => .inl e⟩
 ·rw [upd_ne (ne_of_none e hp)]; exact e
 ·rw [upd_ne (ne_of_none (h _ _ e) hp)]; exact h _ _ e
theorem Ext.freeze {G H G' H' : Hp} (x : Ext G H G' H') {l : Addr} {o : HO} (hl : H l = none) (hl' : H' l = some o) (hg : G' l = none) : Ext G H (upd G' l o) H' /\ Same G' (upd G' l o) := by
 have s1 : Same G' (upd G' l o) := fun b u e => by rw [upd_ne (ne_of_none e hg)]; exact e
 refine ⟨⟨x.gg.trans s1, x.hh, fun b u e => ?_, fun b u e => ?_⟩, s1⟩
 ·by_cases hb : b = l
  ·subst hb; rw [upd_same] at e; rw [hl']; exact e
  ·rw [upd_ne hb] at e; exact x.gh _ _ e
 ·by_cases hb : b = l
  ·subst hb; exact .inr hl
  ·rw [upd_ne hb] at e; exact x.nw _ _ e
noncomputable def Rb (G H : Hp) : D -> V -> Prop
 | .lst ds, v => ∃ l xs, v = .ref l /\ Rd H l (.lst xs) /\ Rps G ds xs
 | .dct ks ds, v => ∃ a xs, v = .ref a /\ ks.length = ds.length /\ Rd H a (.dK (zipK ks xs)) /\ Rps G ds xs
 | d, v => Rp G d v
theorem Rb.mono {G H G' H' : Hp} (gg : Same G G') (hh : Same H H') {d : D} {v : V} (r : Rb G H d v) : Rb G' H' d v := by
 cases d with
 | lst ds => obtain ⟨l, xs, e, h, r⟩ := r; exact ⟨l, xs, e, Rd.same hh h, Rps.mono gg _ _ r⟩
 | non => exact Rp.mono gg _ _ r
 | bl b => exact Rp.mono gg _ _ r
 | int b => exact Rp.mono gg _ _ r
 | str b => exact Rp.mono gg _ _ r
 | tup b => exact Rp.mono gg _ _ r
 | scr _ _ _ => exact Rp.mono gg _ _ r
 | dct ks ds => obtain ⟨a, xs, e, l, h, r⟩ := r; exact ⟨a, xs, e, l, Rd.same hh h, Rps.mono gg _ _ r⟩
theorem Rb.of {G H : Hp} (s : Same G H) {d : D} {v : V} (r : Rp G d v) : Rb G H d v := by
 cases d with
 | lst ds => obtain ⟨l, xs, e, h, r⟩ := r; exact ⟨l, xs, e, Rd.same s h, r⟩
 | non => exact r
 | bl b => exact r
 | int b => exact r
 | str b => exact r
 | tup b => exact r
 | scr _ _ _ => exact r
 | dct ks ds => obtain ⟨a, o, xs, e, l, h, r⟩ := r; exact ⟨a, xs, e, l, .inr ⟨o, s _ _ h⟩, r⟩
noncomputable def RR (G' H' H : Hp) (v : V) : Kd × D -> Prop
 | (.fz, d) => Rp G' d v
 | (.fr, d) => ∃ l xs ds, d = .lst ds /\ v = .ref l /\ H' l = some (.lst xs) /\ G' l = none /\ H l = none /\ Rps G' ds xs
 | (.bo, d) => Rb G' H' d v
theorem RR.rb {G' H' H : Hp} {v : V} (s : Same G' H') : ∀ {x : Kd × D}, RR G' H' H v x -> Rb G' H' x.2 v
 | (.fz, d), r => Rb.of s r
 | (.fr, d), r => by obtain ⟨l, xs, ds, rfl, e, h, _, _, r⟩ := r; exact ⟨l, xs, e, .inl h, r⟩
 | (.bo, d), r => r
theorem RR.back {G' H' H H0 : Hp} {v : V} (s : Same H0 H) : ∀ {x : Kd × D}, RR G' H' H v x -> RR G' H' H0 v x
 | (.fz, d), r => r
 | (.fr, d), r => by obtain ⟨l, xs, ds, e1, e2, h, g, n, r⟩ := r; exact ⟨l, xs, ds, e1, e2, h, g, s.free n, r⟩
 | (.bo, d), r => r
theorem RR.frz {G H G' H' : Hp} (x : Ext G H G' H') {v : V} {y : Kd × D} {d : D} (r : RR G' H' H v y) (e : TW.frz y = some d) : ∃ G2, Ext G H G2 H' /\ Same G' G2 /\ Rp G2 d v := by
 obtain ⟨k, z⟩ := y
 cases k with
 | fz => cases e; exact ⟨G', x, Same.refl _, r⟩
 | bo => cases e
 | fr =>
  cases e
  obtain ⟨l, xs, ds, rfl, rfl, h, g, n, r⟩ := r
  obtain ⟨x2, s2⟩ := x.freeze n h g
  exact ⟨_, x2, s2, l, xs, rfl, .inl upd_same, Rps.mono s2 _ _ r⟩
noncomputable def Ob (G : Hp) : Sl -> HO -> Prop
 | .val _, _ => False
 | .own ds, o => ∃ xs, o = .lst xs /\ Rps G ds xs
 | .ownd ks ds, o => ∃ xs, o = .dK (zipK ks xs) /\ ks.length = ds.length /\ Rps G ds xs
theorem Ob.mono {G G' : Hp} (h : Same G G') : ∀ {x : Sl} {o : HO}, Ob G x o -> Ob G' x o
 | .val _, _, r => r
 | .own ds, o, ⟨xs, e, r⟩ => ⟨xs, e, Rps.mono h _ _ r⟩
 | .ownd ks ds, o, ⟨xs, e, l, r⟩ => ⟨xs, e, l, Rps.mono h _ _ r⟩
structure SR0 (G H : Hp) (σ : L2.St) (ρ : En) : Prop where
 len : σ.length = ρ.length
 val : ∀ (i : Nat) (d : D), ρ[i]? = some (some (Sl.val d)) -> ∃ v, σ[i]? = some (some v) /\ Rp G d v
 owns : ∀ (i : Nat) (x : Sl), ρ[i]? = some (some x) -> x.isO = true -> ∃ l o, σ[i]? = some (some (.ref l)) /\ H l = some o /\ G l = none /\ Ob G x o
 dst : ∀ (i j : Nat) (x y : Sl) (l : Addr), ρ[i]? = some (some x) -> x.isO = true -> ρ[j]? = some (some y) -> y.isO = true -> σ[i]? = some (some (.ref l)) -> σ[j]? = some (some (.ref l)) -> i = j
theorem SR0.own {G H : Hp} {σ : L2.St} {ρ : En} (s : SR0 G H σ ρ) (i : Nat) (ds : List D) (h : ρ[i]? = some (some (Sl.own ds))) : ∃ l xs, σ[i]? = some (some (.ref l)) /\ H l = some (.lst xs) /\ G l = none /\ Rps G ds xs := by
 obtain ⟨l, o, a, b, c, xs, rfl, r⟩ := s.owns i _ h rfl
 exact ⟨l, xs, a, b, c, r⟩
theorem SR0.ownd {G H : Hp} {σ : L2.St} {ρ : En} (s : SR0 G H σ ρ) (i : Nat) (ks : List Int) (ds : List D) (h : ρ[i]? = some (some (Sl.ownd ks ds))) : ∃ l xs, σ[i]? = some (some (.ref l)) /\ H l = some (.dK (zipK ks xs)) /\ G l = none /\ ks.length = ds.length /\ Rps G ds xs := by
 obtain ⟨l, o, a, b, c, xs, rfl, e, r⟩ := s.owns i _ h rfl
 exact ⟨l, xs, a, b, c, e, r⟩
structure SR (G H : Hp) (σ : L2.St) (ρ : En) : Prop extends SR0 G H σ ρ where
 gh : Same G H
 tb : Tb G
theorem SR0.mono {G H G' H' : Hp} {σ : L2.St} {ρ : En} (s : SR0 G H σ ρ) (gg : Same G G') (hh : Same H H') (nw : ∀ b o, G' b = some o -> G b = some o \/ H b = none) : SR0 G' H' σ ρ := by
 refine ⟨s.len, fun i d e => ?_, fun i x e hx => ?_, s.dst⟩
 ·obtain ⟨v, e1, r⟩ := s.val i d e
  exact ⟨v, e1, Rp.mono gg _ _ r⟩
 ·obtain ⟨l, o, e1, h, g, r⟩ := s.owns i x e hx
  refine ⟨l, o, e1, hh _ _ h, ?_, r.mono gg⟩
  cases q : G' l with
  | none => rfl
  | some o =>
   rcases nw l o q with z | z
   ·rw [g] at z; cases z
   ·rw [h] at z; cases z
theorem SR.ext {G H G' H' : Hp} {σ : L2.St} {ρ : En} (s : SR G H σ ρ) (x : Ext G H G' H') : SR G' H' σ ρ := ⟨s.toSR0.mono x.gg x.hh x.nw, x.gh, s.tb.mono x.gg⟩
theorem set_own {ρ : En} {i j : Nat} {d : D} {x : Sl} (h : (ρ.set i (some (Sl.val d)))[j]? = some (some x)) (hx : x.isO = true) : i ≠ j /\ ρ[j]? = some (some x) := by
 have n : i ≠ j := fun z => by
  subst z
  have hi : i < ρ.length := by
   obtain ⟨q, _⟩ := List.getElem?_eq_some_iff.mp h; simpa using q
  rw [List.getElem?_set_self hi] at h
  cases h
  cases hx
 rw [List.getElem?_set_ne n] at h
 exact ⟨n, h⟩
theorem SR0.set {G H : Hp} {σ : L2.St} {ρ : En} (s : SR0 G H σ ρ) {i : Nat} {d : D} {v : V} (r : Rp G d v) : SR0 G H (σ.set i (some v)) (ρ.set i (some (.val d))) := by
 refine ⟨by simp [s.len], fun j e h => ?_, fun j x h hx => ?_, fun j k x y l h1 hx h2 hy e1 e2 => ?_⟩
 ·by_cases hj : i = j
  ·subst hj
   have hi : i < ρ.length := by
    obtain ⟨q, _⟩ := List.getElem?_eq_some_iff.mp h; simpa using q
   rw [List.getElem?_set_self hi] at h
   cases h
   exact ⟨v, by rw [List.getElem?_set_self (by rw [s.len]; exact hi)], r⟩
  ·rw [List.getElem?_set_ne hj] at h ⊢
   exact s.val j e h
 ·obtain ⟨n, h⟩ := set_own h hx
  rw [List.getElem?_set_ne n]
  exact s.owns j x h hx
 ·obtain ⟨n1, h1⟩ := set_own h1 hx
  obtain ⟨n2, h2⟩ := set_own h2 hy
  rw [List.getElem?_set_ne n1] at e1
  rw [List.getElem?_set_ne n2] at e2
  exact s.dst j k x y l h1 hx h2 hy e1 e2
theorem SR0.drop {G H : Hp} {σ : L2.St} {ρ : En} {i : Nat} {d : D} (s : SR0 G H σ (ρ.set i (some (.val d)))) (h : ρ[i]? = some none) : SR0 G H σ ρ := by
 have back : ∀ (j : Nat) (x : Sl), ρ[j]? = some (some x) -> (ρ.set i (some (.val d)))[j]? = some (some x) := fun j x e => by
  have n : i ≠ j := fun z => by subst z; rw [h] at e; cases e
  rw [List.getElem?_set_ne n]; exact e
 exact ⟨by rw [s.len, List.length_set], fun j e q => s.val j e (back _ _ q), fun j x q hx => s.owns j x (back _ _ q) hx, fun j k x y l h1 hx h2 hy => s.dst j k x y l (back _ _ h1) hx (back _ _ h2) hy⟩
noncomputable def setAllV : List Nat -> List V -> L2.St -> L2.St
 | i :: l, x :: xs, σ => setAllV l xs (σ.set i (some x))
 | _, _, σ => σ
noncomputable def Bound (tg : Tg) (d : D) (G : Hp) (σ σ' : L2.St) : Prop :=
 match tg with
 | .one i => ∃ v, Rp G d v /\ σ' = σ.set i (some v)
 | .many l => ∃ ds xs, d = .tup ds /\ Rps G ds xs /\ xs.length = l.length /\ σ' = setAllV l xs σ
theorem SR0.setAll {G H : Hp} : ∀ (l : List Nat) (ds : List D) (xs : List V) (σ : L2.St) (ρ ρ' : En), SR0 G H σ ρ -> Rps G ds xs -> TW.setAll l ds ρ = some ρ' -> SR0 G H (setAllV l xs σ) ρ'
 | [], [], _, σ, ρ, ρ', s, r, e => by
  cases e; exact s
 | i :: l, d :: ds, _, σ, ρ, ρ', s, r, e => by
  obtain ⟨x, q, rfl, p, t⟩ := r
  exact SR0.setAll l ds q _ _ ρ' (s.set p) t e
 | [], _ :: _, _, _, _, _, _, _, e => by cases e
 | _ :: _, [], _, _, _, _, _, _, e => by cases e
theorem SR0.bound {G H : Hp} {σ σ' : L2.St} {ρ ρ' : En} {tg : Tg} {d : D} (s : SR0 G H σ ρ) (b : Bound tg d G σ σ') (e : bindT tg d ρ = some ρ') : SR0 G H σ' ρ' := by
 cases tg with
 | one i =>
  obtain ⟨v, r, rfl⟩ := b
  cases e
  exact s.set r
 | many l =>
  obtain ⟨ds, xs, rfl, r, _, rfl⟩ := b
  exact SR0.setAll l ds xs σ ρ ρ' s r e
theorem SR0.dropAll {G H : Hp} {σ : L2.St} : ∀ (l : List Nat) (ds : List D) (ρ ρ' : En), SR0 G H σ ρ' -> TW.setAll l ds ρ = some ρ' -> (∀ i ∈ l, ρ[i]? = some none) -> SR0 G H σ ρ
 | [], [], ρ, ρ', s, e, _ => by cases e; exact s
 | i :: l, d :: ds, ρ, ρ', s, e, h => by
  have gen : ∀ (l : List Nat) (ds : List D) (ρ ρ' : En), SR0 G H σ ρ' -> TW.setAll l ds ρ = some ρ' -> (∀ i ∈ l, ρ[i]? = some none \/ ∃ d, ρ[i]? = some (some (Sl.val d))) ->
    SR0 G H σ (ρ.mapIdx fun j x => if j ∈ l then none else x) := by
   intro l
   induction l with
   | nil =>
    intro ds ρ ρ' s e _
    cases ds with
    | nil =>
     cases e
     have : (ρ.mapIdx fun j x => if j ∈ ([] : List Nat) then none else x) = ρ := by
      apply List.ext_getElem?
      intro j
      simp [List.getElem?_mapIdx]
     rw [this]; exact s
    | cons _ _ => cases e
   | cons i l ih =>
    intro ds ρ ρ' s e hl
    cases ds with
    | nil => cases e
    | cons d ds =>
     have hlt : ∀ k ∈ l, (ρ.set i (some (Sl.val d)))[k]? = some none \/ ∃ d', (ρ.set i (some (Sl.val d)))[k]? = some (some (Sl.val d')) := fun k hk => by
      by_cases hik : i = k
      ·subst hik
       rcases hl i List.mem_cons_self with z | ⟨d', z⟩
       ·have hi : i < ρ.length := (List.getElem?_eq_some_iff.mp z).1
        exact .inr ⟨d, by rw [List.getElem?_set_self hi]⟩
       ·have hi : i < ρ.length := (List.getElem?_eq_some_iff.mp z).1
        exact .inr ⟨d, by rw [List.getElem?_set_self hi]⟩
      ·rw [List.getElem?_set_ne hik]
       exact hl k (List.mem_cons_of_mem _ hk)
     have r := ih ds (ρ.set i (some (Sl.val d))) ρ' s e hlt
     have back : ∀ (j : Nat) (x : Sl), (ρ.mapIdx fun j x => if j ∈ i :: l then none else x)[j]? = some (some x) -> ((ρ.set i (some (Sl.val d))).mapIdx fun j x => if j ∈ l then none else x)[j]? = some (some x) := fun j x q => by
      rw [List.getElem?_mapIdx] at q ⊢
      obtain ⟨y, ey, q⟩ := Option.map_eq_some_iff.mp q
      by_cases hj : j ∈ i :: l
      ·rw [if_pos hj] at q; cases q
      ·rw [if_neg hj] at q
       subst q
       have nij : i ≠ j := fun z => hj (by rw [z]; exact List.mem_cons_self)
       rw [List.getElem?_set_ne nij, ey]
       have nl : ¬ j ∈ l := fun z => hj (List.mem_cons_of_mem _ z)
       simp [nl]
     exact ⟨by rw [r.len]; simp, fun j e' q => r.val j e' (back _ _ q), fun j x q hx => r.owns j x (back _ _ q) hx, fun j k x y l' h1 hx h2 hy => r.dst j k x y l' (back _ _ h1) hx (back _ _ h2) hy⟩
  have r := gen (i :: l) (d :: ds) ρ ρ' s e (fun k hk => .inl (h k hk))
  have : (ρ.mapIdx fun j x => if j ∈ i :: l then none else x) = ρ := by
   apply List.ext_getElem?
   intro j
   rw [List.getElem?_mapIdx]
   by_cases hj : j ∈ i :: l
   ·rw [h j hj]; simp [hj]
   ·cases ρ[j]? <;> simp [hj]
  rw [this] at r
  exact r
 | [], _ :: _, _, _, _, e, _ => by cases e
 | _ :: _, [], _, _, _, e, _ => by cases e
theorem free_capt {ρ : En} {cap : List (Option Nat)} {i : Nat} (h : free1 cap i = true) : (capt ρ cap)[i]? = some none := by
 unfold free1 at h
 unfold capt
 rw [List.getElem?_map]
 split at h
 ·rename_i e; rw [e]; rfl
 ·cases h
theorem SR0.unbound {G H : Hp} {σ : L2.St} {ρ ρ' : En} {cap : List (Option Nat)} {tg : Tg} {d : D} (s : SR0 G H σ ρ') (e : bindT tg d (capt ρ cap) = some ρ') (h : freeT cap tg = true) : SR0 G H σ (capt ρ cap) := by
 cases tg with
 | one i =>
  cases e
  exact s.drop (free_capt h)
 | many l =>
  cases d <;> first | cases e | skip
  rename_i ds
  exact SR0.dropAll l ds _ _ s e fun i hi => free_capt (List.all_eq_true.mp h i hi)
end TW
end
section
namespace TW
open PySem PySem.Spec PyProof.Rows L2
noncomputable def tD (ρ : En) (x : Kd × D) : TE := fun σ H Q => ∃ G, SR G H σ ρ /\ ∀ v H' G', Ext G H G' H' -> RR G' H' H v x -> Q v H'
noncomputable def tDT (ρ : En) (b : Bool) : TT := fun σ H Q => ∃ G, SR G H σ ρ /\ ∀ H' G', Ext G H G' H' -> Q b H'
noncomputable def tDA (ρ : En) (ds : List D) : TA := fun σ H Q => ∃ G, SR G H σ ρ /\ ∀ vs H' G', Ext G H G' H' -> Rps G' ds vs -> Q vs H'
noncomputable def tDO (ρ : En) (o : Option Int) : TO := fun σ H Q => ∃ G, SR G H σ ρ /\ ∀ H' G', Ext G H G' H' -> Q o H'
noncomputable def DE (X : Cx) (e : Expr) (g : En -> Option (Kd × D)) : Prop := ∀ ρ x, g ρ = some x -> PE X e (tD ρ x)
noncomputable def DT (X : Cx) (e : Expr) (g : En -> Option Bool) : Prop := ∀ ρ b, g ρ = some b -> PT X e (tDT ρ b)
noncomputable def DW (X : Cx) (e : Expr) (g : En -> Option Bool) : Prop := ∀ ρ b, g ρ = some b -> PW X e (tDT ρ b)
noncomputable def DA (X : Cx) (es : List Expr) (g : En -> Option (List D)) : Prop := ∀ ρ ds, g ρ = some ds -> PA X es (tDA ρ ds)
noncomputable def DO (X : Cx) (e : Option Expr) (g : En -> Option (Option Int)) : Prop := ∀ ρ o, g ρ = some o -> PO X e (tDO ρ o)
section
variable {X : Cx}
theorem pe_imp {e : Expr} {t t' : TE} (h : PE X e t) (i : ∀ σ H Q, t' σ H Q -> t σ H Q) : PE X e t' := fun pins s σ H Q I q => h pins s σ H Q I (i σ H Q q)
theorem pt_imp {e : Expr} {t t' : TT} (h : PT X e t) (i : ∀ σ H Q, t' σ H Q -> t σ H Q) : PT X e t' := fun pins s σ H Q I q => h pins s σ H Q I (i σ H Q q)
theorem pw_imp {e : Expr} {t t' : TT} (h : PW X e t) (i : ∀ σ H Q, t' σ H Q -> t σ H Q) : PW X e t' := fun w pins s σ H Q I q => h w pins s σ H Q I (i σ H Q q)
theorem pa_imp {e : List Expr} {t t' : TA} (h : PA X e t) (i : ∀ σ H Q, t' σ H Q -> t σ H Q) : PA X e t' := fun p pins s σ H Q I q => h p pins s σ H Q I (i σ H Q q)
theorem pe_nev {e : Expr} : PE X e (fun _ _ _ => False) := fun _ _ _ _ _ _ q => q.elim
theorem pw_nev {e : Expr} : PW X e (fun _ _ _ => False) := fun _ _ _ _ _ _ _ q => q.elim
theorem OpR.imp {f : Value -> Value -> Sem Value} {r r' : R2} (h : OpR X f r) (i : ∀ x y H Q, r' x y H Q -> r x y H Q) : OpR X f r' := fun pins s σ H x y v u Q I rx ry q => h pins s σ H x y v u Q I rx ry (i x y H Q q)
theorem CallR.imp {f : Value} {r r' : List V -> Hp -> VK -> Prop} (h : CallR X f r) (i : ∀ xs H Q, r' xs H Q -> r xs H Q) : CallR X f r' := fun pins s σ H xs us Q I rx q => h pins s σ H xs us Q I rx (i xs H Q q)
theorem IxR.imp {r r' : R2} (h : IxR X r) (i : ∀ x y H Q, r' x y H Q -> r x y H Q) : IxR X r' :=
 fun a b pins s σ H x y v u Q I rx ry q hs => h a b pins s σ H x y v u Q I rx ry (i x y H Q q) hs
noncomputable def rD (x y : D) (z : Kd × D) : R2 := fun v u H Q => ∃ G, Same G H /\ Rb G H x v /\ Rb G H y u /\ ∀ w H' G', Ext G H G' H' -> RR G' H' H w z -> Q w H'
noncomputable def rD1 (x : D) (z : Kd × D) : V -> Hp -> VK -> Prop := fun v H Q => ∃ G, Same G H /\ Rb G H x v /\ ∀ w H' G', Ext G H G' H' -> RR G' H' H w z -> Q w H'
theorem tD_op {x y z : Kd × D} {ρ : En} : ∀ σ H Q, tD ρ z σ H Q -> tOp (rD x.2 y.2 z) (tD ρ x) (tD ρ y) σ H Q := by
 rintro σ H Q ⟨G, s, k⟩
 exact ⟨G, s, fun v H1 G1 x1 r1 => ⟨G1, s.ext x1, fun u H2 G2 x2 r2 => ⟨G2, x2.gh, (r1.rb x1.gh).mono x2.gg x2.hh, r2.rb x2.gh, fun w H3 G3 x3 r3 =>
  k w H3 G3 ((x1.trans x2).trans x3) (r3.back (x1.hh.trans x2.hh))⟩⟩⟩
theorem bnd {α β : Type} {a : Option α} {f : α -> Option β} {b : β} (h : a.bind f = some b) : ∃ x, a = some x /\ f x = some b := Option.bind_eq_some_iff.mp h
theorem mpd {α β : Type} {a : Option α} {f : α -> β} {b : β} (h : a.map f = some b) : ∃ x, a = some x /\ f x = b := Option.map_eq_some_iff.mp h
theorem de_var {i : Nat} {x : Str} {pos : Pos} (hN : X.N[i]? = some x) (hv : Vis X.env.scope x) (hd : (x == ("__debug__" : Str)) = false) (hcd : (x == ("__classdict__" : Str)) = false)
  (p : Nat -> List D -> Option D) : DE X (.Name x pos) (fun ρ => (ev p (.var i) ρ).1) := by
 intro ρ y e
 refine pe_imp (pe_var hN hv hd hcd) ?_
 rintro σ H Q ⟨G, s, k⟩
 simp only [ev, vt] at e
 split at e
 ·rename_i d h
  cases e
  obtain ⟨v, e1, r⟩ := s.val i d h
  exact ⟨v, e1, k v H G (.refl s.gh) r⟩
 ·rename_i ds h
  cases e
  obtain ⟨l, xs, e1, h1, _, r⟩ := s.own i ds h
  exact ⟨.ref l, e1, k _ H G (.refl s.gh) (show Rb G H (.lst ds) (.ref l) from ⟨l, xs, rfl, .inl h1, r⟩)⟩
 ·rename_i ks ds h
  cases e
  obtain ⟨l, xs, e1, h1, _, hl, r⟩ := s.ownd i ks ds h
  exact ⟨.ref l, e1, k _ H G (.refl s.gh) (show Rb G H (.dct ks ds) (.ref l) from ⟨l, xs, rfl, hl, .inl h1, r⟩)⟩
 ·cases e
theorem tD_c {ρ : En} {d : D} {v : V} (h : ∀ G, Rp G d v) : ∀ σ H Q, tD ρ (.fz, d) σ H Q -> tC v σ H Q := by
 rintro σ H Q ⟨G, s, k⟩
 exact k v H G (.refl s.gh) (h G)
theorem de_int {i j pos} : DE X (.Constant (.int i) j pos) (fun _ => some (.fz, .int i)) := fun ρ y e => by cases e; exact pe_imp pe_int (tD_c fun _ => rfl)
theorem de_bl {i j pos} : DE X (.Constant (.bool i) j pos) (fun _ => some (.fz, .bl i)) := fun ρ y e => by cases e; exact pe_imp pe_bl (tD_c fun _ => rfl)
theorem de_non {j pos} : DE X (.Constant .none j pos) (fun _ => some (.fz, .non)) := fun ρ y e => by cases e; exact pe_imp pe_non (tD_c fun _ => rfl)
theorem de_str {i j pos} : DE X (.Constant (.str i) j pos) (fun _ => some (.fz, .str i)) := fun ρ y e => by cases e; exact pe_imp pe_str (tD_c fun _ => rfl)
theorem de_glob {x : Str} {pos : Pos} {d : D} {v : V} {u : Value} (hg : Gl X x) (hm : X.mg x = some u) (r : RelV v u) (hd : (x == ("__debug__" : Str)) = false) (h : ∀ G, Rp G d v) : DE X (.Name x pos) (fun _ => some (.fz, d)) :=
 fun ρ y e => by cases e; exact pe_imp (pe_glob hg hm r hd) (tD_c h)
theorem de_bin {a b : Expr} {ga gb : En -> Option (Kd × D)} {op : Operator} {pos : Pos} (ho : ∀ x y z, opD op x y = some z -> OpR X (binaryOp op) (rD x y z)) (ha : DE X a ga) (hb : DE X b gb) :
  DE X (.BinOp a op b pos) (fun ρ => (ga ρ).bind fun x => (gb ρ).bind fun y => opD op x.2 y.2) := by
 intro ρ z e
 obtain ⟨x, ex, e⟩ := bnd e
 obtain ⟨y, ey, e⟩ := bnd e
 exact pe_imp (pe_op (ho _ _ _ e) (ha ρ x ex) (hb ρ y ey)) tD_op
theorem de_not {a : Expr} {ga : En -> Option (Kd × D)} {pos : Pos} (ha : DE X a ga) :
  DE X (.UnaryOp .Not a pos) (fun ρ => (ga ρ).bind fun x => match x.2 with | .bl b => some (.fz, .bl (!b)) | _ => none) := by
 intro ρ z e
 obtain ⟨⟨k, d⟩, ex, e⟩ := bnd e
 cases d <;> first | cases e | skip
 rename_i i
 refine pe_imp (pe_not (ha ρ _ ex)) ?_
 rintro σ H Q ⟨G, s, q⟩
 exact ⟨G, s, fun v H1 G1 x1 r1 => ⟨i, r1.rb x1.gh, q _ H1 G1 x1 rfl⟩⟩
theorem de_cmp {a b : Expr} {ga gb : En -> Option (Kd × D)} {op : CmpOp} {pos : Pos} (ho : ∀ x y z, cmpD op x y = some z -> OpR X (compareOp op) (rD x y (.fz, .bl z))) (hm : behindInMarks op b = false) (ha : DE X a ga) (hb : DE X b gb) :
  DE X (.Compare a [op] [b] pos) (fun ρ => (ga ρ).bind fun x => (gb ρ).bind fun y => (cmpD op x.2 y.2).map fun b => (.fz, .bl b)) := by
 intro ρ z e
 obtain ⟨x, ex, e⟩ := bnd e
 obtain ⟨y, ey, e⟩ := bnd e
 obtain ⟨k, ek, rfl⟩ := mpd e
 exact pe_imp (pe_cmpR (ho _ _ _ ek) (ha ρ x ex) (hb ρ y ey) hm) tD_op
theorem tDT_cmp {x y : Kd × D} {ρ : En} {b : Bool} : ∀ σ H Q, tDT ρ b σ H Q -> tTest (tOp (rD x.2 y.2 (.fz, .bl b)) (tD ρ x) (tD ρ y)) σ H Q := by
 rintro σ H Q ⟨G, s, k⟩
 refine tD_op σ H _ ⟨G, s, fun v H' G' x r => ?_⟩
 exact ⟨b, r, k H' G' x⟩
theorem dt_cmp {a b : Expr} {ga gb : En -> Option (Kd × D)} {op : CmpOp} {pos : Pos} (ho : ∀ x y z, cmpD op x y = some z -> OpR X (compareOp op) (rD x y (.fz, .bl z))) (hm : behindInMarks op b = false) (ha : DE X a ga) (hb : DE X b gb) :
  DT X (.Compare a [op] [b] pos) (fun ρ => (ga ρ).bind fun x => (gb ρ).bind fun y => cmpD op x.2 y.2) := by
 intro ρ z e
 obtain ⟨x, ex, e⟩ := bnd e
 obtain ⟨y, ey, e⟩ := bnd e
 exact pt_imp (pt_cmpR (ho _ _ _ e) (ha ρ x ex) (hb ρ y ey) hm) tDT_cmp
theorem tD_chain {x y z : Kd × D} {ρ : En} {k k2 : Bool} (h : k = false -> k2 = false) : ∀ σ H Q, tD ρ (.fz, .bl k2) σ H Q ->
  tChain (rD x.2 y.2 (.fz, .bl k)) (rD y.2 z.2 (.fz, .bl k2)) (tD ρ x) (tD ρ y) (if k = true then tD ρ z else fun _ _ _ => False) σ H Q := by
 rintro σ H Q ⟨G, s, q⟩
 refine ⟨G, s, fun v H1 G1 x1 r1 => ⟨G1, s.ext x1, fun u H2 G2 x2 r2 => ⟨G2, x2.gh, (r1.rb x1.gh).mono x2.gg x2.hh, r2.rb x2.gh, fun w H3 G3 x3 r3 => ⟨k, r3, ?_⟩⟩⟩⟩
 cases k with
 | false =>
  rw [if_neg Bool.false_ne_true]
  have e : k2 = false := h rfl
  subst e
  exact q _ H3 G3 ((x1.trans x2).trans x3) rfl
 | true =>
  rw [if_pos rfl, if_pos rfl]
  refine ⟨G3, ((s.ext x1).ext x2).ext x3, fun w' H4 G4 x4 r4 => ⟨G4, x4.gh, (r2.rb x2.gh).mono (x3.trans x4).gg (x3.trans x4).hh, r4.rb x4.gh, fun w2 H5 G5 x5 r5 => ?_⟩⟩
  exact q w2 H5 G5 ((((x1.trans x2).trans x3).trans x4).trans x5) r5
theorem de_chain {a b c : Expr} {ga gb gc : En -> Option (Kd × D)} {op oq : CmpOp} {pos : Pos} (ho : ∀ x y z, cmpD op x y = some z -> OpR X (compareOp op) (rD x y (.fz, .bl z)))
  (hq : ∀ x y z, cmpD oq x y = some z -> OpR X (compareOp oq) (rD x y (.fz, .bl z))) (hm : lastMarks [op, oq] [b, c] = false) (ha : DE X a ga) (hb : DE X b gb) (hc : DE X c gc) :
  DE X (.Compare a [op, oq] [b, c] pos) (fun ρ => (ga ρ).bind fun x => (gb ρ).bind fun y => (cmpD op x.2 y.2).bind fun k =>
   if k then (gc ρ).bind fun z => (cmpD oq y.2 z.2).map fun b => (.fz, .bl b) else some (.fz, .bl false)) := by
 intro ρ z e
 obtain ⟨x, ex, e⟩ := bnd e
 obtain ⟨y, ey, e⟩ := bnd e
 obtain ⟨k, ek, e⟩ := bnd e
 cases k with
 | false =>
  rw [if_neg Bool.false_ne_true] at e
  cases e
  refine pe_imp (pe_chain (r' := fun _ _ _ _ => False) (ho _ _ _ ek) (fun _ _ _ _ _ _ _ _ _ _ _ _ q => q.elim) (ha ρ x ex) (hb ρ y ey) pe_nev hm) ?_
  rintro σ H Q ⟨G, s, q⟩
  refine ⟨G, s, fun v H1 G1 x1 r1 => ⟨G1, s.ext x1, fun u H2 G2 x2 r2 => ⟨G2, x2.gh, (r1.rb x1.gh).mono x2.gg x2.hh, r2.rb x2.gh, fun w H3 G3 x3 r3 => ⟨false, r3, ?_⟩⟩⟩⟩
  rw [if_neg Bool.false_ne_true]
  exact q _ H3 G3 ((x1.trans x2).trans x3) rfl
 | true =>
  rw [if_pos rfl] at e
  obtain ⟨z', ez, e⟩ := bnd e
  obtain ⟨k2, ek2, rfl⟩ := mpd e
  exact pe_imp (pe_chain (ho _ _ _ ek) (hq _ _ _ ek2) (ha ρ x ex) (hb ρ y ey) (hc ρ z' ez) hm) (tD_chain (k := true) fun h => nomatch h)
theorem dt_chain {a b c : Expr} {ga gb gc : En -> Option (Kd × D)} {op oq : CmpOp} {pos : Pos} (ho : ∀ x y z, cmpD op x y = some z -> OpR X (compareOp op) (rD x y (.fz, .bl z)))
  (hq : ∀ x y z, cmpD oq x y = some z -> OpR X (compareOp oq) (rD x y (.fz, .bl z))) (hm : lastMarks [op, oq] [b, c] = false) (ha : DE X a ga) (hb : DE X b gb) (hc : DE X c gc) :
  DT X (.Compare a [op, oq] [b, c] pos) (fun ρ => (ga ρ).bind fun x => (gb ρ).bind fun y => (cmpD op x.2 y.2).bind fun k =>
   if k then (gc ρ).bind fun z => cmpD oq y.2 z.2 else some false) := by
 intro ρ z e
 obtain ⟨x, ex, e⟩ := bnd e
 obtain ⟨y, ey, e⟩ := bnd e
 obtain ⟨k, ek, e⟩ := bnd e
 cases k with
 | false =>
  rw [if_neg Bool.false_ne_true] at e
  cases e
  refine pt_imp (pt_chain (r' := fun _ _ _ _ => False) (ho _ _ _ ek) (fun _ _ _ _ _ _ _ _ _ _ _ _ q => q.elim) (ha ρ x ex) (hb ρ y ey) pe_nev hm) ?_
  rintro σ H Q ⟨G, s, q⟩
  refine ⟨G, s, fun v H1 G1 x1 r1 => ⟨G1, s.ext x1, fun u H2 G2 x2 r2 => ⟨G2, x2.gh, (r1.rb x1.gh).mono x2.gg x2.hh, r2.rb x2.gh, fun w H3 G3 x3 r3 => ⟨false, r3, ?_⟩⟩⟩⟩
  rw [if_neg Bool.false_ne_true]
  exact ⟨false, rfl, q H3 G3 ((x1.trans x2).trans x3)⟩
 | true =>
  rw [if_pos rfl] at e
  obtain ⟨z', ez, e⟩ := bnd e
  refine pt_imp (pt_chain (ho _ _ _ ek) (hq _ _ _ e) (ha ρ x ex) (hb ρ y ey) (hc ρ z' ez) hm) ?_
  rintro σ H Q ⟨G, s, q⟩
  exact tD_chain (k := true) (fun h => nomatch h) σ H _ ⟨G, s, fun v H' G' x r => ⟨z, r, q H' G' x⟩⟩
theorem de_one {op} {a : Expr} {g : En -> Option (Kd × D)} {pos : Pos} (h : DE X a g) : DE X (.BoolOp op [a] pos) g := fun ρ x e => pe_one (h ρ x e)
theorem de_and {a b : Expr} {rest : List Expr} {ga gb : En -> Option (Kd × D)} {pos : Pos} (ha : DE X a ga) (hb : DE X (.BoolOp .And (b :: rest) pos) gb) :
  DE X (.BoolOp .And (a :: b :: rest) pos) (fun ρ => (ga ρ).bind fun x => match x.2 with | .bl true => gb ρ | .bl false => some (.fz, .bl false) | _ => none) := by
 intro ρ z e
 obtain ⟨⟨k, d⟩, ex, e⟩ := bnd e
 cases d <;> first | cases e | skip
 rename_i c
 cases c with
 | true =>
  refine pe_imp (pe_and (ha ρ _ ex) (hb ρ z e)) ?_
  rintro σ H Q ⟨G, s, q⟩
  refine ⟨G, s, fun v H1 G1 x1 r1 => ⟨true, r1.rb x1.gh, ?_⟩⟩
  rw [if_pos rfl]
  exact ⟨G1, s.ext x1, fun w H2 G2 x2 r2 => q w H2 G2 (x1.trans x2) (r2.back x1.hh)⟩
 | false =>
  cases e
  refine pe_imp (pe_and (ha ρ _ ex) pe_nev) ?_
  rintro σ H Q ⟨G, s, q⟩
  refine ⟨G, s, fun v H1 G1 x1 r1 => ⟨false, r1.rb x1.gh, ?_⟩⟩
  rw [if_neg Bool.false_ne_true]
  exact q _ H1 G1 x1 rfl
theorem de_or {a b : Expr} {rest : List Expr} {ga gb : En -> Option (Kd × D)} {pos : Pos} (ha : DE X a ga) (hb : DE X (.BoolOp .Or (b :: rest) pos) gb) :
  DE X (.BoolOp .Or (a :: b :: rest) pos) (fun ρ => (ga ρ).bind fun x => match x.2 with | .bl true => some (.fz, .bl true) | .bl false => gb ρ | _ => none) := by
 intro ρ z e
 obtain ⟨⟨k, d⟩, ex, e⟩ := bnd e
 cases d <;> first | cases e | skip
 rename_i c
 cases c with
 | false =>
  refine pe_imp (pe_or (ha ρ _ ex) (hb ρ z e)) ?_
  rintro σ H Q ⟨G, s, q⟩
  refine ⟨G, s, fun v H1 G1 x1 r1 => ⟨false, r1.rb x1.gh, ?_⟩⟩
  rw [if_neg Bool.false_ne_true]
  exact ⟨G1, s.ext x1, fun w H2 G2 x2 r2 => q w H2 G2 (x1.trans x2) (r2.back x1.hh)⟩
 | true =>
  cases e
  refine pe_imp (pe_or (ha ρ _ ex) pe_nev) ?_
  rintro σ H Q ⟨G, s, q⟩
  refine ⟨G, s, fun v H1 G1 x1 r1 => ⟨true, r1.rb x1.gh, ?_⟩⟩
  rw [if_pos rfl]
  exact q _ H1 G1 x1 rfl
theorem dw_and1 {a : Expr} {g : En -> Option Bool} {pos : Pos} (h : DT X a g) : DW X (.BoolOp .And [a] pos) g := fun ρ x e => pw_and1 (h ρ x e)
theorem dw_or1 {a : Expr} {g : En -> Option Bool} {pos : Pos} (h : DT X a g) : DW X (.BoolOp .Or [a] pos) g := fun ρ x e => pw_or1 (h ρ x e)
theorem dw_and {a b : Expr} {rest : List Expr} {ga gb : En -> Option Bool} {pos : Pos} (ha : DT X a ga) (hb : DW X (.BoolOp .And (b :: rest) pos) gb) :
  DW X (.BoolOp .And (a :: b :: rest) pos) (fun ρ => (ga ρ).bind fun k => if k then gb ρ else some false) := by
 intro ρ z e
 obtain ⟨c, ex, e⟩ := bnd e
 cases c with
 | true =>
  rw [if_pos rfl] at e
  refine pw_imp (pw_and (ha ρ _ ex) (hb ρ z e)) ?_
  rintro σ H Q ⟨G, s, q⟩
  refine ⟨G, s, fun H1 G1 x1 => ?_⟩
  dsimp only
  rw [if_pos rfl]
  exact ⟨G1, s.ext x1, fun H2 G2 x2 => q H2 G2 (x1.trans x2)⟩
 | false =>
  rw [if_neg Bool.false_ne_true] at e
  cases e
  refine pw_imp (pw_and (ha ρ _ ex) pw_nev) ?_
  rintro σ H Q ⟨G, s, q⟩
  refine ⟨G, s, fun H1 G1 x1 => ?_⟩
  dsimp only
  rw [if_neg Bool.false_ne_true]
  exact q H1 G1 x1
theorem dw_or {a b : Expr} {rest : List Expr} {ga gb : En -> Option Bool} {pos : Pos} (ha : DT X a ga) (hb : DW X (.BoolOp .Or (b :: rest) pos) gb) :
  DW X (.BoolOp .Or (a :: b :: rest) pos) (fun ρ => (ga ρ).bind fun k => if k then some true else gb ρ) := by
 intro ρ z e
 obtain ⟨c, ex, e⟩ := bnd e
 cases c with
 | false =>
  rw [if_neg Bool.false_ne_true] at e
  refine pw_imp (pw_or (ha ρ _ ex) (hb ρ z e)) ?_
  rintro σ H Q ⟨G, s, q⟩
  refine ⟨G, s, fun H1 G1 x1 => ?_⟩
  dsimp only
  rw [if_neg Bool.false_ne_true]
  exact ⟨G1, s.ext x1, fun H2 G2 x2 => q H2 G2 (x1.trans x2)⟩
 | true =>
  rw [if_pos rfl] at e
  cases e
  refine pw_imp (pw_or (ha ρ _ ex) pw_nev) ?_
  rintro σ H Q ⟨G, s, q⟩
  refine ⟨G, s, fun H1 G1 x1 => ?_⟩
  dsimp only
  rw [if_pos rfl]
  exact q H1 G1 x1
theorem DW.dt {e : Expr} {g : En -> Option Bool} (h : DW X e g) : DT X e g := fun ρ b q => (h ρ b q).pt
theorem dt_not {a : Expr} {ga : En -> Option Bool} {pos : Pos} (ha : DT X a ga) : DT X (.UnaryOp .Not a pos) (fun ρ => (ga ρ).map fun k => !k) := by
 intro ρ z e
 obtain ⟨c, ex, rfl⟩ := mpd e
 refine pt_imp (pt_not (ha ρ _ ex)) ?_
 rintro σ H Q ⟨G, s, q⟩
 exact ⟨G, s, fun H1 G1 x1 => q H1 G1 x1⟩
theorem de_ife {c a b : Expr} {gc : En -> Option Bool} {ga gb : En -> Option (Kd × D)} {pos : Pos} (hc : DT X c gc) (ha : DE X a ga) (hb : DE X b gb) :
  DE X (.IfExp c a b pos) (fun ρ => (gc ρ).bind fun k => if k then ga ρ else gb ρ) := by
 intro ρ z e
 obtain ⟨k, ex, e⟩ := bnd e
 cases k with
 | true =>
  rw [if_pos rfl] at e
  refine pe_imp (pe_ifExp (hc ρ _ ex) (ha ρ z e) pe_nev) ?_
  rintro σ H Q ⟨G, s, q⟩
  refine ⟨G, s, fun H1 G1 x1 => ?_⟩
  dsimp only
  rw [if_pos rfl]
  exact ⟨G1, s.ext x1, fun w H2 G2 x2 r2 => q w H2 G2 (x1.trans x2) (r2.back x1.hh)⟩
 | false =>
  rw [if_neg Bool.false_ne_true] at e
  refine pe_imp (pe_ifExp (hc ρ _ ex) pe_nev (hb ρ z e)) ?_
  rintro σ H Q ⟨G, s, q⟩
  refine ⟨G, s, fun H1 G1 x1 => ?_⟩
  dsimp only
  rw [if_neg Bool.false_ne_true]
  exact ⟨G1, s.ext x1, fun w H2 G2 x2 r2 => q w H2 G2 (x1.trans x2) (r2.back x1.hh)⟩
theorem lim_line : lim <= sizeLine := by decide
theorem tru_of {G H : Hp} {d : D} {v : V} {b : Bool} (K : PySem.W.Frag) (r : Rb G H d v) (gh : Same G H) (e : truD d = some b) : TruV K v H b := by
 cases d with
 | scr _ _ _ => cases e
 | dct _ _ => cases e
 | non => cases (show v = .non from r); cases e; rfl
 | bl c => cases (show v = .bl c from r); cases e; rfl
 | int c => cases (show v = .int c from r); cases e; rfl
 | str c =>
  cases (show v = .str c from r)
  have e' : (if c.length <= lim then some (!(c.length == 0)) else none) = some b := e
  split at e'
  case isFalse => cases e'
  rename_i hl
  cases e'
  refine ⟨Nat.le_trans hl lim_line, ?_⟩
  by_cases h : c.length = 0
  ·rw [h]; rfl
  ·have h1 : (c.length == 0) = false := by simpa using h
   have h2 : ((c.length : Int) != 0) = true := by
    rw [bne_iff_ne]; omega
   rw [h1, h2]; rfl
 | tup ds =>
  obtain ⟨a, xs, rfl, g, q⟩ := r
  cases e
  refine .inr (.inl ⟨xs, .inl (.inl (gh _ _ g)), ?_⟩)
  have := q.length
  cases ds <;> cases xs <;> simp_all
 | lst ds =>
  obtain ⟨a, xs, rfl, g, q⟩ := r
  cases e
  refine .inl ⟨xs, .inl g, ?_⟩
  have := q.length
  cases ds <;> cases xs <;> simp_all
end
end TW
end
section
namespace TW
open PySem PySem.Spec PyProof.Rows L2
theorem lookup_map {f : Str -> NameKind -> NameKind} (x : Str) : ∀ l : List (Str × NameKind), (l.map fun (n, k) => (n, f n k)).lookup x = (l.lookup x).map (f x)
 | [] => rfl
 | (n, k) :: r => by
  rw [List.map_cons, List.lookup_cons, List.lookup_cons]
  cases h : x == n with
  | true =>
   have e : x = n := by simpa using h
   subst e; rfl
  | false => exact lookup_map x r
theorem relabel_lookup (scope : Scope) (env : Env) (x : Str) : (relabel scope env).names.lookup x =
  (scope.names.lookup x).map fun k => if (k == .free && env.scope.kind == .function && env.kindOf x == some .cell) then .cell else k := by
 rw [<- lookup_map (f := fun n k => if (k == .free && env.scope.kind == .function && env.kindOf n == some .cell) then .cell else k)]
 unfold relabel
 congr 1
 apply List.map_congr_left
 rintro ⟨n, k⟩ _
 dsimp only
 split <;> rfl
noncomputable def closeL (cells : List (Str × Addr)) : List (Str × NameKind) -> List (Str × Addr) -> List (Str × Addr)
 | [], acc => acc
 | (n, k) :: r, acc => if k == .free then closeL cells r ((n, (cells.lookup n).getD 0) :: acc) else closeL cells r acc
theorem closure_eq {scope : Scope} {env : Env} (h : ∀ n, (n, NameKind.free) ∈ scope.names -> ∃ c, env.cells.lookup n = some c) : closureFor scope env = pure (closeL env.cells scope.names []) := by
 have go : ∀ (l : List (Str × NameKind)) (acc : List (Str × Addr)), (∀ n, (n, NameKind.free) ∈ l -> ∃ c, env.cells.lookup n = some c) ->
   (forIn l acc (fun (x : Str × NameKind) (r : List (Str × Addr)) => if x.2 == .free then (do let a <- cellOf env x.1; pure (ForInStep.yield ((x.1, a) :: r))) else pure (ForInStep.yield r)) : Sem (List (Str × Addr))) = pure (closeL env.cells l acc) := by
  intro l
  induction l with
  | nil => intro acc _; rfl
  | cons x r ih =>
   obtain ⟨n, k⟩ := x
   intro acc hl
   have hr : ∀ m, (m, NameKind.free) ∈ r -> ∃ c, env.cells.lookup m = some c := fun m hm => hl m (List.mem_cons_of_mem _ hm)
   rw [List.forIn_cons]
   by_cases hk : (k == NameKind.free) = true
   ·have hk' : k = .free := by simpa using hk
    subst hk'
    obtain ⟨c, hc⟩ := hl n List.mem_cons_self
    simp only [beq_self_eq_true, if_true, cellOf, hc, closeL, Option.getD_some]
    exact ih _ hr
   ·simp only [hk, closeL, if_neg]
    exact ih _ hr
 have := go scope.names [] h
 simp only [closureFor]
 rw [show (forIn scope.names ([] : List (Str × Addr)) _ : Sem (List (Str × Addr))) = _ from this]
 rfl
theorem closeL_in {cells : List (Str × Addr)} {x : Str} {c : Addr} : ∀ (l : List (Str × NameKind)) (acc : List (Str × Addr)), (closeL cells l acc).lookup x = some c ->
  ((x, NameKind.free) ∈ l /\ c = (cells.lookup x).getD 0) \/ acc.lookup x = some c
 | [], _, h => .inr h
 | (n, k) :: r, acc, h => by
  unfold closeL at h
  split at h
  ·rename_i hk
   have hk' : k = .free := by simpa using hk
   subst hk'
   rcases closeL_in r _ h with ⟨m, e⟩ | h
   ·exact .inl ⟨List.mem_cons_of_mem _ m, e⟩
   ·rw [List.lookup_cons] at h
    cases hx : x == n with
    | true =>
     have e : x = n := by simpa using hx
     subst e
     rw [hx] at h
     cases h
     exact .inl ⟨List.mem_cons_self, rfl⟩
    | false => rw [hx] at h; exact .inr h
  ·rcases closeL_in r _ h with ⟨m, e⟩ | h
   ·exact .inl ⟨List.mem_cons_of_mem _ m, e⟩
   ·exact .inr h
theorem closeL_has {cells : List (Str × Addr)} {x : Str} : ∀ (l : List (Str × NameKind)) (acc : List (Str × Addr)), ((x, NameKind.free) ∈ l \/ ∃ c, acc.lookup x = some c) -> ∃ c, (closeL cells l acc).lookup x = some c
 | [], _, h => by
  rcases h with h | h
  ·cases h
  ·exact h
 | (n, k) :: r, acc, h => by
  unfold closeL
  split
  ·rename_i hk
   have hk' : k = .free := by simpa using hk
   subst hk'
   refine closeL_has r _ ?_
   rcases h with h | ⟨c, h⟩
   ·rcases List.mem_cons.mp h with e | h
    ·cases e; exact .inr ⟨_, by rw [List.lookup_cons, beq_self_eq_true]⟩
    ·exact .inl h
   ·right
    rw [List.lookup_cons]
    cases hx : x == n with
    | true => exact ⟨_, rfl⟩
    | false => exact ⟨c, h⟩
  ·rename_i hk
   refine closeL_has r _ ?_
   rcases h with h | h
   ·rcases List.mem_cons.mp h with e | h
    ·cases e; exact absurd rfl hk
    ·exact .inl h
   ·exact .inr h
theorem cellsFrom_in {x : Str} {c : Addr} : ∀ (l : List (Str × NameKind)) (n : Nat) (acc : List (Str × Addr)), (cellsFrom n l acc).lookup x = some c -> (n <= c /\ (x, NameKind.cell) ∈ l) \/ acc.lookup x = some c
 | [], _, _, h => .inr h
 | (m, k) :: r, n, acc, h => by
  unfold cellsFrom at h
  split at h
  ·rename_i hk
   have hk' : k = .cell := by simpa using hk
   subst hk'
   rcases cellsFrom_in r _ _ h with ⟨a, b⟩ | h
   ·exact .inl ⟨by omega, List.mem_cons_of_mem _ b⟩
   ·rw [List.lookup_cons] at h
    cases hx : x == m with
    | true =>
     have e : x = m := by simpa using hx
     subst e
     rw [hx] at h
     cases h
     exact .inl ⟨Nat.le_refl _, List.mem_cons_self⟩
    | false => rw [hx] at h; exact .inr h
  ·rcases cellsFrom_in r _ _ h with ⟨a, b⟩ | h
   ·exact .inl ⟨a, List.mem_cons_of_mem _ b⟩
   ·exact .inr h
theorem cellsFrom_out {x : Str} : ∀ (l : List (Str × NameKind)) (n : Nat) (acc : List (Str × Addr)), (x, NameKind.cell) ∉ l -> (cellsFrom n l acc).lookup x = acc.lookup x
 | [], _, _, _ => rfl
 | (m, k) :: r, n, acc, h => by
  have hr : (x, NameKind.cell) ∉ r := fun z => h (List.mem_cons_of_mem _ z)
  unfold cellsFrom
  split
  ·rename_i hk
   rw [cellsFrom_out r _ _ hr, List.lookup_cons]
   have hk' : k = .cell := by simpa using hk
   subst hk'
   have : (x == m) = false := by
    rw [beq_eq_false_iff_ne]
    intro e; subst e; exact h List.mem_cons_self
   rw [this]
  ·exact cellsFrom_out r n acc hr
theorem cellsFrom_has {x : Str} : ∀ (l : List (Str × NameKind)) (n : Nat) (acc : List (Str × Addr)), ((x, NameKind.cell) ∈ l \/ ∃ c, acc.lookup x = some c) -> ∃ c, (cellsFrom n l acc).lookup x = some c
 | [], _, _, h => by
  rcases h with h | h
  ·cases h
  ·exact h
 | (m, k) :: r, n, acc, h => by
  unfold cellsFrom
  split
  ·rename_i hk
   have hk' : k = .cell := by simpa using hk
   subst hk'
   refine cellsFrom_has r _ _ ?_
   rcases h with h | ⟨c, h⟩
   ·rcases List.mem_cons.mp h with e | h
    ·cases e; exact .inr ⟨_, by rw [List.lookup_cons, beq_self_eq_true]⟩
    ·exact .inl h
   ·right
    rw [List.lookup_cons]
    cases hx : x == m with
    | true => exact ⟨_, rfl⟩
    | false => exact ⟨c, h⟩
  ·rename_i hk
   refine cellsFrom_has r _ _ ?_
   rcases h with h | h
   ·rcases List.mem_cons.mp h with e | h
    ·cases e; exact absurd rfl hk
    ·exact .inl h
   ·exact .inr h
theorem cellsFrom_inj : ∀ (l : List (Str × NameKind)) (n : Nat) (acc : List (Str × Addr)), (∀ x c, acc.lookup x = some c -> c < n) -> (∀ x y c, acc.lookup x = some c -> acc.lookup y = some c -> x = y) ->
  ∀ x y c, (cellsFrom n l acc).lookup x = some c -> (cellsFrom n l acc).lookup y = some c -> x = y
 | [], _, _, _, h => h
 | (m, k) :: r, n, acc, hb, hi => by
  unfold cellsFrom
  split
  ·refine cellsFrom_inj r (n + 1) ((m, n) :: acc) (fun x c h => ?_) (fun x y c h1 h2 => ?_)
   ·rw [List.lookup_cons] at h
    cases hx : x == m with
    | true => rw [hx] at h; cases h; exact Nat.lt_succ_self _
    | false => rw [hx] at h; exact Nat.lt_succ_of_lt (hb x c h)
   ·rw [List.lookup_cons] at h1 h2
    cases hx : x == m with
    | true =>
     have ex : x = m := by simpa using hx
     rw [hx] at h1
     cases h1
     cases hy : y == m with
     | true =>
      have ey : y = m := by simpa using hy
      rw [ex, ey]
     | false => rw [hy] at h2; exact absurd (hb y _ h2) (Nat.lt_irrefl _)
    | false =>
     rw [hx] at h1
     cases hy : y == m with
     | true => rw [hy] at h2; cases h2; exact absurd (hb x _ h1) (Nat.lt_irrefl _)
     | false => rw [hy] at h2; exact hi x y c h1 h2
  ·exact cellsFrom_inj r n acc hb hi
theorem pushCells_cell {x : Str} {c : Addr} : ∀ (l : List (Str × NameKind)) (h : Heap) (acc : List (Str × Addr)), (∀ c, acc.lookup x = some c -> ∃ v, h.IsCell c v) -> (cellsFrom h.objs.size l acc).lookup x = some c -> ∃ v, (pushCells h l).IsCell c v
 | [], _, _, ha, e => ha c e
 | (m, k) :: r, h, acc, ha, e => by
  unfold cellsFrom at e
  unfold pushCells
  split
  ·rename_i hk
   rw [if_pos hk] at e
   refine pushCells_cell r (h.push { cls := .type "cell", data := .cell none }) ((m, h.objs.size) :: acc) (fun c' z => ?_) (by rw [Heap.size_push]; exact e)
   rw [List.lookup_cons] at z
   cases hx : x == m with
   | true => rw [hx] at z; cases z; exact ⟨none, _, Heap.get?_push_size _ rfl, rfl⟩
   | false =>
    rw [hx] at z
    obtain ⟨v, q⟩ := ha c' z
    exact ⟨v, q.keeps fun b o e => Heap.get?_push_of_some _ e⟩
  ·rename_i hk
   rw [if_neg hk] at e
   exact pushCells_cell r h acc ha e
section
variable {M : Model} {A : Around} {E : Value -> Shared -> Prop} {s : Shared}
theorem comp_env {scope : Scope} {env : Env} {cl : List (Str × Addr)} {Q : Env -> Shared -> Prop}
  (h : Q { scope := scope, locals := s.heap.objs.size, globals := env.globals, cells := cellsFrom (s.heap.objs.size + 1) scope.names cl, qual := env.qual, func := none, code := env.code, frame := env.frame, builtins := env.builtins }
   { s with heap := pushCells (s.heap.push { cls := .type "dict", data := .dict #[] }) scope.names }) :
  wpAny M A (newFunctionEnv scope env.globals cl [] env.qual none .none (some env)) Q E s := by
 simp only [newFunctionEnv, Option.isSome_some, if_true]
 refine wpAny_bind (wpAny_alloc ?_)
 refine wpAny_bind (wpAny_layCells _ (fun name kind cells => by cases hkc : kind == NameKind.cell <;> simp [hkc]) _ _ _ _ ?_)
 rw [show ({ s with heap := s.heap.push { cls := .type "dict", data := .dict #[] } } : Shared).heap.objs.size = s.heap.objs.size + 1 from Heap.size_push ..]
 simp only [List.forIn_nil]
 exact wpAny_bind (wpAny_pure (wpAny_pure h))
end
section
variable {prog : Program} {w : World} {A : Around} {R : Result -> Shared -> Prop} {s : Shared}
theorem compLoop_go {elt target iter : Expr} {ifs : List Expr} {scope : Scope} {pos : Pos} {it acc : Value} {env : Env} (I : Nat -> Shared -> Prop)
  (turn : ∀ n s, I n s -> wpAny (model prog w) A (pyNext it) (fun r s₁ => match r with
   | none => R (.ok .next) s₁
   | some v => wpAny (model prog w) A (letOwnedTupleGo target it v) (fun _ s₀ => wpAny (model prog w) A (assign target env v) (fun _ s₂ =>
     wpAny (model prog w) A (forIn ifs true fun c r => if r = true then do let ok <- isTrue c env (eval c env); pure (ForInStep.yield ok) else pure (ForInStep.yield r)) (fun ok s₃ =>
      if ok = true then wpAny (model prog w) A (eval elt env) (fun x s₄ =>
       wpAny (model prog w) A (call (.builtin "list.append") [acc, x]) (fun _ s₅ => ∃ m, m < n /\ I m s₅) (fun _ _ => False) s₄) (fun _ _ => False) s₃
      else ∃ m, m < n /\ I m s₃) (fun _ _ => False) s₂) (fun _ _ => False) s₀) (fun _ _ => False) s₁) (fun _ _ => False) s)
  (n : Nat) (h : I n s) :
  codeAny (model prog w) A (.compLoop (.ListComp elt [⟨target, iter, ifs, 0⟩] scope pos) 0 it acc env) R s := by
 refine codeAny_loop rfl I (fun n s hI => ?_) n h
 show wpAny _ A ((compTurn (.ListComp elt [⟨target, iter, ifs, 0⟩] scope pos) 0 it acc env).onRaise (fun x => do noteFrame x env; theTreesLotGoes x)) _ _ s
 refine wpAny_noted ?_
 rw [compTurn_list]
 refine wpAny_bind (wpAny_standAt (wpAny_bind (wpAny_mono (turn n s hI) (fun r s₁ h₁ => ?_) fun _ _ h' => h'.elim)))
 cases r with
 | none => exact wpAny_pure h₁
 | some v =>
  refine wpAny_bind (wpAny_mono h₁ (fun _ s₀ h₀ => ?_) fun _ _ h' => h'.elim)
  refine wpAny_bind (wpAny_mono h₀ (fun _ s₂ h₂ => wpAny_bind (wpAny_mono h₂ (fun ok s₃ h₃ => ?_) fun _ _ h' => h'.elim)) fun _ _ h' => h'.elim)
  cases ok with
  | false => exact wpAny_pure ⟨rfl, h₃⟩
  | true =>
   exact wpAny_bind (wpAny_bind (wpAny_mono h₃ (fun x s₄ h₄ => wpAny_bind (wpAny_mono h₄ (fun _ s₅ h₅ => wpAny_pure (wpAny_pure ⟨rfl, h₅⟩)) fun _ _ h' => h'.elim)) fun _ _ h' => h'.elim))
end
theorem lookup_of_mem : ∀ {l : List (Str × NameKind)} {x : Str} {k : NameKind}, (l.map (·.1)).Nodup -> (x, k) ∈ l -> l.lookup x = some k
 | [], _, _, _, h => by cases h
 | (n, j) :: r, x, k, nd, h => by
  rw [List.map_cons, List.nodup_cons] at nd
  rw [List.lookup_cons]
  rcases List.mem_cons.mp h with e | h'
  ·cases e; rw [beq_self_eq_true]
  ·skip
   have : (x == n) = false := by
    rw [beq_eq_false_iff_ne]
    intro e; subst e
    exact nd.1 (List.mem_map.mpr ⟨(x, k), h', rfl⟩)
   rw [this]
   exact lookup_of_mem nd.2 h'
structure BlkOk (X : Cx) (scope : Scope) (N' : List Str) (cap : List (Option Nat)) : Prop where
 kind : scope.kind = .function
 keys : (scope.names.map (·.1)).Nodup
 len : cap.length = N'.length
 cap : ∀ (i j : Nat) x, N'[i]? = some x -> cap[i]? = some (some j) -> scope.names.lookup x = some .free /\ X.N[j]? = some x
 out : ∀ n, (n, NameKind.free) ∈ scope.names -> (X.env.kindOf n = some .cell \/ X.env.kindOf n = some .free)
noncomputable def blkX (X : Cx) (scope : Scope) (N' : List Str) (s : Shared) (H : Hp) (fp : List Addr) : Cx where
 prog := X.prog
 w := X.w
 K := X.K
 mg := X.mg
 base := X.base
 A := X.A
 N := N'
 s₀ := s
 H₀ := H
 env := { scope := relabel scope X.env, locals := s.heap.objs.size, globals := X.env.globals, cells := cellsFrom (s.heap.objs.size + 1) scope.names (closeL X.env.cells scope.names []), qual := X.env.qual, func := none, code := X.env.code, frame := X.env.frame, builtins := X.env.builtins }
 outer := X.stack
 stack := X.stack
 ex := fp
 fn := fun x => decide (scope.names.lookup x = some .cell)
 calm := X.calm
 pn := []
 xe := fun _ _ => False
noncomputable def capS (σ : L2.St) (cap : List (Option Nat)) : L2.St := cap.map fun o => o.bind fun i => (σ[i]?).join
section
variable {X : Cx} {scope : Scope} {N' : List Str} {cap : List (Option Nat)} {pins : List (Addr × Obj)} {σ : L2.St} {H : Hp} {s : Shared} {fp : List Addr}
theorem BlkOk.closed (B : BlkOk X scope N' cap) (I : Inv X pins σ H s) : ∀ x c, (closeL X.env.cells scope.names []).lookup x = some c -> (x, NameKind.free) ∈ scope.names /\ X.env.cells.lookup x = some c := fun x c e => by
 rcases closeL_in _ _ e with ⟨m, e'⟩ | e'
 ·obtain ⟨c', h⟩ := I.ok.has x (B.out x m)
  rw [h] at e'
  exact ⟨m, by rw [h, e']; rfl⟩
 ·cases e'
theorem blk_start (B : BlkOk X scope N' cap) (I : Inv X pins σ H s) (hf : ∀ b ∈ fp, FpOk X pins H b) (hlt : ∀ b ∈ fp, b < s.heap.objs.size) :
  Inv (blkX X scope N' s H fp) [] (capS σ cap) H { s with heap := pushCells (s.heap.push { cls := .type "dict", data := .dict #[] }) scope.names } := by
 have hcl := B.closed I
 have keep : ∀ b u, s.heap.get? b = some u -> (pushCells (s.heap.push { cls := .type "dict", data := .dict #[] }) scope.names).get? b = some u := fun b u e => pushCells_keeps _ _ _ _ (Heap.get?_push_of_some _ e)
 have cin : ∀ x c, (blkX X scope N' s H fp).env.cells.lookup x = some c -> (s.heap.objs.size + 1 <= c /\ (x, NameKind.cell) ∈ scope.names) \/ ((x, NameKind.free) ∈ scope.names /\ X.env.cells.lookup x = some c) := fun x c e => by
  rcases cellsFrom_in _ _ _ e with z | z
  ·exact .inl z
  ·exact .inr (hcl x c z)
 have kof : ∀ x, (blkX X scope N' s H fp).env.kindOf x = (scope.names.lookup x).map fun k => if (k == .free && X.env.scope.kind == .function && X.env.kindOf x == some .cell) then .cell else k := fun x => relabel_lookup scope X.env x
 refine ⟨⟨I.ok.mod, B.kind, I.ok.glob, I.ok.blt, Nat.le_refl _, ?_, ?_, ?_, I.ok.hd, I.ok.frames, .inl rfl, ?_, I.bs, Nat.le_trans I.ok.bsz I.sz, ?_, ?_, I.stack, I.stkFree⟩, rfl, I.bare, Un.kept keep, ?_, ?_, I.hok.fresh (Nat.le_refl _), ?_, ?_, I.hok.kept keep, ?_⟩
 ·refine cellsFrom_inj _ _ _ (fun x c e => ?_) (fun x y c e1 e2 => I.ok.inj x y c (hcl x c e1).2 (hcl y c e2).2)
  obtain ⟨v, q⟩ := I.cell x c (hcl x c e).2
  exact Nat.lt_succ_of_lt q.lt
 ·intro x hk
  rw [kof] at hk
  have : scope.names.lookup x = some .cell \/ scope.names.lookup x = some .free := by
   cases q : scope.names.lookup x with
   | none => rw [q] at hk; rcases hk with hk | hk <;> cases hk
   | some k => cases k <;> simp [q] at hk ⊢
  rcases this with h | h
  ·exact cellsFrom_has _ _ _ (.inl (PySem.mem_of_lookup h))
  ·exact cellsFrom_has _ _ _ (.inr (closeL_has _ _ (.inl (PySem.mem_of_lookup h))))
 ·intro x c hx e
  have hx' : scope.names.lookup x = some .cell := of_decide_eq_true hx
  rcases cin x c e with z | z
  ·exact Nat.le_of_succ_le z.1
  ·rw [lookup_of_mem B.keys z.1] at hx'; cases hx'
 ·intro b hb
  have hb' : b ∈ fp := hb
  refine ⟨Nat.ne_of_lt (hlt b hb'), fun x c e z => ?_⟩
  rcases cin x c e with q | q
  ·subst z
   exact absurd (Nat.lt_of_lt_of_le (hlt _ hb') (Nat.le_of_succ_le q.1)) (Nat.lt_irrefl _)
  ·exact (hf b hb').2.2.2.2.1 x c q.2 z
 ·intro b o e hb
  have hb' : b ∈ fp := hb
  rcases (hf b hb').2.2.2.1 with q | q
  ·exact I.ok.noex b o e q
  ·exact absurd (Nat.lt_of_lt_of_le (Heap.lt_size e) (Nat.le_trans I.ok.bsz q)) (Nat.lt_irrefl _)
 ·intro b hb hs
  have hb' : b ∈ fp := hb
  have hs' : b ∈ frs X.stack := hs
  rcases List.mem_cons.mp (I.stkSub b hs') with q | q
  ·exact (hf b hb').2.1 q
  ·exact (hf b hb').2.2.1 q
 ·refine ⟨_, (Heap.Ns.new s.heap (.type "dict")).keeps (pushCells_keeps _ _), fun i x v h1 h2 h3 => ?_⟩
  have h1' : N'[i]? = some x := h1
  obtain ⟨j, hj, hv⟩ : ∃ j, cap[i]? = some (some j) /\ σ[j]? = some (some v) := by
   unfold capS at h2
   rw [List.getElem?_map] at h2
   cases q : cap[i]? with
   | none => rw [q] at h2; cases h2
   | some o =>
    rw [q] at h2
    cases o with
    | none => cases h2
    | some j =>
     refine ⟨j, rfl, ?_⟩
     have h2' : (σ[j]?).join = some v := Option.some.inj h2
     cases z : σ[j]? with
     | none => rw [z] at h2'; cases h2'
     | some y => rw [z] at h2'; exact congrArg some h2'
  obtain ⟨hfree, hN⟩ := B.cap i j x h1' hj
  have hm := PySem.mem_of_lookup hfree
  have hout := B.out x hm
  obtain ⟨m', hn, hl⟩ := I.loc
  obtain ⟨u, ru, lk⟩ := hl j x v hN hv (hout.elim (fun z => .inr (.inl z)) fun z => .inr (.inr z))
  refine ⟨u, ru, ?_⟩
  rcases lk with ⟨z, _⟩ | ⟨_, c, hc, cell⟩
  ·rcases hout with y | y <;> (rw [z] at y; cases y)
  ·refine .inr ⟨?_, c, ?_, cell.keeps keep⟩
   ·rw [kof, hfree]
    show (some (if _ then _ else _) = _ \/ some (if _ then _ else _) = _)
    split
    ·exact .inl rfl
    ·exact .inr rfl
   ·have nc : (x, NameKind.cell) ∉ scope.names := fun z => by rw [lookup_of_mem B.keys z] at hfree; cases hfree
    show (cellsFrom _ _ _).lookup x = some c
    rw [cellsFrom_out _ _ _ nc]
    obtain ⟨c', e⟩ := closeL_has (cells := X.env.cells) scope.names [] (x := x) (.inl hm)
    have := (hcl x c' e).2
    rw [hc] at this; cases this
    exact e
 ·intro x c e
  refine pushCells_cell scope.names _ (closeL X.env.cells scope.names []) (fun c' z => ?_) (by rw [Heap.size_push]; exact e)
  obtain ⟨v, q⟩ := I.cell x c' (hcl x c' z).2
  exact ⟨v, q.keeps fun b o e => Heap.get?_push_of_some _ e⟩
 ·intro x c e
  rcases cin x c e with q | q
  ·exact I.hok.fresh (Nat.le_of_succ_le q.1)
  ·exact I.freeC x c q.2
 ·intro p hp
  exact absurd (show p ∈ ([] : List (Addr × Obj)) from hp) (by simp)
 ·show (capS σ cap).length = N'.length
  unfold capS
  rw [List.length_map]
  exact B.len
theorem blk_back {σ' : L2.St} {H' : Hp} {s' : Shared} (I : Inv X pins σ H s) (hf : ∀ b ∈ fp, FpOk X pins H b) (J : Inv (blkX X scope N' s H fp) [] σ' H' s') : Inv X pins σ H' s' :=
 I.call' (ch := fp) J.os J.base J.hok J.bare fun b hb => ⟨(hf b hb).2.2.2.1, (hf b hb).2.1, (hf b hb).2.2.2.2.1, (hf b hb).2.2.2.2.2⟩
noncomputable def PTs (X : Cx) (ifs : List Expr) (t : TT) : Prop :=
 ∀ (pins : List (Addr × Obj)) (s : Shared) (σ : L2.St) (H : Hp) (Q : Bool -> Hp -> Prop), Inv X pins σ H s -> t σ H Q ->
  wpAny (model X.prog X.w) X.A (forIn ifs true fun c r => if r = true then do let ok <- isTrue c X.env (eval c X.env); pure (ForInStep.yield ok) else pure (ForInStep.yield r)) (TP X pins σ Q) X.xe s
theorem pts_nil : PTs X [] (fun _ H Q => Q true H) := fun pins s σ H Q I h => wpAny_tests_nil ⟨H, I, h⟩
theorem pts_one {c : Expr} {t : TT} (h : PT X c t) : PTs X [c] t := fun pins s σ H Q I q => wpAny_tests_one (h pins s σ H Q I q)
noncomputable def cW (g : TG) (tc : TT) (te : TE) (J : It) (D : Addr) (Q : Hp -> Prop) (W : Nat -> Nat -> L2.St -> Hp -> Prop) : Prop := ∀ i m σ H, W i m σ H ->
 (J.stop i H /\ Q H) \/ (J.go i H /\ ∀ x H2, J.yld i H x H2 -> g x σ H2 fun σ2 H3 => tc σ2 H3 fun b H4 =>
  if b = true then te σ2 H4 fun v H5 => ∃ ys, H5 D = some (.lst ys) /\ ys.length < sizeLine /\ ∃ m', m' < m /\ W (i + 1) m' σ2 (upd H5 D (.lst (ys ++ [v])))
  else ∃ m', m' < m /\ W (i + 1) m' σ2 H4)
theorem comp_loop {elt target iter : Expr} {ifs : List Expr} {pos : Pos} {g : TG} {tc : TT} {te : TE} {J : It} {it D : Addr} {tn : Nat -> Heap -> Prop} {Q : Hp -> Prop} {W : Nat -> Nat -> L2.St -> Hp -> Prop} {Y : Cx} (hcalm : Y.calm = true) (hxe : Y.xe = fun _ _ => False)
  (hg : PG Y target g) (hc : PTs Y ifs tc) (he : PE Y elt te) (T : Turn Y.prog Y.w Y.K target J fp it tn) (hex : ∀ b ∈ fp, b ≠ Y.env.locals /\ b ∉ Y.fs /\ (b ∈ Y.ex \/ Y.s₀.heap.objs.size <= b) /\ (∀ x c, Y.env.cells.lookup x = some c -> c ≠ b) /\ ∀ p ∈ Y.pn, p.1 ≠ b)
  (hW : cW g tc te J D Q W) {n : Nat} {i : Nat} {s : Shared} (I : Inv Y [] σ H s) (st : tn i s.heap) (hn : ∀ b ∈ fp, H b = none) (w0 : W i n σ H) :
  codeAny (model Y.prog Y.w) Y.A (.compLoop (.ListComp elt [⟨target, iter, ifs, 0⟩] scope pos) 0 (.ref it) (.ref D) Y.env)
   (fun r s' => match r with | .ok _ => ∃ σ' H', Inv Y [] σ' H' s' /\ Q H' | .error _ => False) s := by
 have stat : ∀ {H' : Hp}, (∀ b ∈ fp, H' b = none) -> ∀ b ∈ fp, FpOk Y [] H' b := fun hn b hb => ⟨hn b hb, (hex b hb).1, (hex b hb).2.1, (hex b hb).2.2.1, (hex b hb).2.2.2.1, fun p hp => (hex b hb).2.2.2.2 p (by simpa using hp)⟩
 refine compLoop_go (fun n s' => ∃ i σ' H', Inv Y [] σ' H' s' /\ tn i s'.heap /\ (∀ b ∈ fp, H' b = none) /\ W i n σ' H') ?_ n ⟨i, σ, H, I, st, hn, w0⟩
 rintro n s3 ⟨i, σ3, H3, I3, st3, fr3, w3⟩
 rcases hW i n σ3 H3 w3 with ⟨stop, qn⟩ | ⟨go, step⟩
 ·refine thn (T.done Y rfl rfl rfl hcalm i [] s3 σ3 H3 _ I3 (stat fr3) st3 stop) fun r s4 ⟨hr, I4⟩ => ?_
  subst hr
  exact ⟨σ3, H3, I4, qn⟩
 ·refine thn (T.item Y rfl rfl rfl hcalm i [] s3 σ3 H3 _ I3 (stat fr3) st3 go) fun r s4 ⟨u, hr, h4⟩ => ?_
  subst hr
  refine thn h4 fun _ s5 ⟨x, H5, I5, r5, y5, st5, fr5⟩ => ?_
  have I5' := I5.pinned (stat fr5) (T.obj _ _ st5)
  have again : ∀ {σ7 : L2.St} {H7 : Hp} {s7 : Shared}, Inv Y ([] ++ pinsAt fp s5.heap) σ7 H7 s7 -> (∃ m', m' < n /\ W (i + 1) m' σ7 H7) -> ∃ m, m < n /\ ∃ i σ' H', Inv Y [] σ' H' s7 /\ tn i s7.heap /\ (∀ b ∈ fp, H' b = none) /\ W i m σ' H' := fun {σ7 H7 s7} I7 n7 => by
   obtain ⟨m', hm, w7⟩ := n7
   refine ⟨m', hm, i + 1, σ7, H7, I7.unpinned, T.keep _ _ _ st5 fun b hb o e => (I7.pin (b, o) (List.mem_append_right _ (List.mem_append_right _ (mem_pinsAt hb e)))).1, fun b hb => ?_, w7⟩
   obtain ⟨o, e, d⟩ := T.obj _ _ st5 b hb
   exact (I7.pin (b, o) (List.mem_append_right _ (List.mem_append_right _ (mem_pinsAt hb e)))).2.1
  have a1 := hg _ s5 σ3 H5 x u _ I5' r5 (step x H5 y5)
  rw [hxe] at a1
  refine thn a1 fun _ s6 ⟨σ6, H6, I6, q6⟩ => ?_
  have a2 := hc _ s6 σ6 H6 _ I6 q6
  rw [hxe] at a2
  refine thn a2 fun b s7 ⟨H7, I7, q7⟩ => ?_
  cases b with
  | false => exact again I7 q7
  | true =>
   rw [if_pos rfl] at q7 ⊢
   have a3 := he _ s7 σ6 H7 _ I7 q7
   rw [hxe] at a3
   refine thn a3 fun y s8 ⟨v, H8, I8, r8, ys, hD, hz, q8⟩ => ?_
   have a4 := mt_append _ s8 σ6 H8 (.ref D) [v] (.ref D) [y] (fun _ H9 => ∃ m', m' < n /\ W (i + 1) m' σ6 H9) I8 rfl (.cons r8 .nil) ⟨D, ys, v, rfl, rfl, hD, hz, q8⟩
   rw [hxe] at a4
   exact thn a4 fun _ s9 ⟨_, H9, I9, _, q9⟩ => again I9 q9
end
section
variable {X : Cx} {scope : Scope} {N' : List Str} {cap : List (Option Nat)}
noncomputable def tComp (wi : TI) (g : TG) (tc : TT) (te : TE) (cap : List (Option Nat)) : TE := fun σ H Q => wi σ H fun J H1 => ∀ D, H1 D = none ->
 ∃ W, (∃ m, W 0 m (capS σ cap) (upd H1 D (.lst []))) /\ cW g tc te J D (fun H => Q (.ref D) H) W
theorem comp_block {elt target iter : Expr} {ifs : List Expr} {pos : Pos} {g : TG} {tc : TT} {te : TE} {J : It} {it : Addr} {tn : Nat -> Heap -> Prop} {Q : Hp -> Prop} {pins : List (Addr × Obj)} {σ : L2.St} {H : Hp} {s : Shared} {fp : List Addr}
  (B : BlkOk X scope N' cap) (hcalm : X.calm = true) (hg : ∀ s H fp, PG (blkX X scope N' s H fp) target g) (hc : ∀ s H fp, PTs (blkX X scope N' s H fp) ifs tc) (he : ∀ s H fp, PE (blkX X scope N' s H fp) elt te)
  (I : Inv X pins σ H s) (T : Turn X.prog X.w X.K target J fp it tn) (st : tn 0 s.heap) (hf : ∀ b ∈ fp, FpOk X pins H b)
  (hW : ∃ W, (∃ m, W 0 m (capS σ cap) (upd H s.heap.objs.size (.lst []))) /\ cW g tc te J s.heap.objs.size Q W) (RR : Value -> Addr -> Result -> Shared -> Prop) (E : Value -> Shared -> Prop)
  (hR : ∀ H3 s3 σ' H' s' f, Inv X pins σ H3 s3 -> s3.heap.objs.size = s.heap.objs.size + 1 -> (∀ b ∈ fp, FpOk X pins H3 b) -> Inv (blkX X scope N' s3 H3 fp) [] σ' H' s' -> Q H' -> RR (.ref s.heap.objs.size) s3.heap.objs.size (.ok f) s') :
  wpAny (model X.prog X.w) X.A (newList []) (fun acc s₃ => wpAny (model X.prog X.w) X.A (newFunctionEnv scope X.env.globals (closeL X.env.cells scope.names []) [] X.env.qual none .none (some X.env)) (fun cenv s₄ =>
   codeAny (model X.prog X.w) X.A (.compStart (.ListComp elt [⟨target, iter, ifs, 0⟩] scope pos) 0 (.ref it) acc { cenv with scope := relabel scope X.env }) (RR acc cenv.locals) s₄) E s₃) E s := by
 obtain ⟨W, ⟨m0, w0⟩, hW⟩ := hW
 refine wpAny_newObj_type (comp_env ?_)
 have I3 : Inv X pins σ (upd H s.heap.objs.size (.lst [])) { s with heap := s.heap.push { cls := .type "list", data := .seq ([] : List Value).toArray } } := I.lnew (t' := s.toks) .nil (Nat.zero_le _)
 have hb : ∀ b ∈ fp, b < s.heap.objs.size := fun b hb => by
  obtain ⟨o, e, _⟩ := T.obj _ _ st b hb
  exact Heap.lt_size e
 have hsz : (s.heap.push { cls := .type "list", data := .seq ([] : List Value).toArray }).objs.size = s.heap.objs.size + 1 := Heap.size_push ..
 have hf3 : ∀ b ∈ fp, FpOk X pins (upd H s.heap.objs.size (.lst [])) b := fun b h => ⟨by rw [upd_ne (Nat.ne_of_lt (hb b h))]; exact (hf b h).1, (hf b h).2⟩
 have I4 := blk_start B I3 hf3 (fun b h => by rw [hsz]; exact Nat.lt_succ_of_lt (hb b h))
 have st4 : tn 0 (pushCells ((s.heap.push { cls := .type "list", data := .seq ([] : List Value).toArray }).push { cls := .type "dict", data := .dict #[] }) scope.names) :=
  T.keep _ _ _ st fun b _ o e => pushCells_keeps _ _ _ _ (Heap.get?_push_of_some _ (Heap.get?_push_of_some _ e))
 have fin : ∀ r s', (match r with | .ok _ => ∃ σ' H', Inv (blkX X scope N' { s with heap := s.heap.push { cls := .type "list", data := .seq ([] : List Value).toArray } } (upd H s.heap.objs.size (.lst [])) fp) [] σ' H' s' /\ Q H' | .error _ => False) ->
   RR (.ref s.heap.objs.size) (s.heap.push { cls := .type "list", data := .seq ([] : List Value).toArray }).objs.size r s' := fun r s' h => by
  cases r with
  | error e => exact h.elim
  | ok f =>
   obtain ⟨σ', H', J4, q⟩ := h
   exact hR _ _ σ' H' s' f I3 hsz hf3 J4 q
 have loop := comp_loop (iter := iter) (scope := scope) (pos := pos) (Y := blkX X scope N' { s with heap := s.heap.push { cls := .type "list", data := .seq ([] : List Value).toArray } } (upd H s.heap.objs.size (.lst [])) fp) hcalm rfl (hg _ _ _) (hc _ _ _) (he _ _ _) T (fun b h => ⟨(I4.ok.exf b h).1, I4.ok.exfs b h, .inl h, (I4.ok.exf b h).2, fun p hp => nomatch hp⟩) hW I4 st4
  (fun b h => (hf3 b h).1) w0
 have loop' := codeAny_mono loop fin
 exact codeAny_compStart_list loop' (T.self X.A 0 _ _ _ st4 loop')
theorem hnames_of (B : BlkOk X scope N' cap) : ∀ x ∈ scope.names, x.2 = .local -> scope.names.lookup x.1 = some .local := fun ⟨n, k⟩ hx e => by
 cases e
 exact lookup_of_mem B.keys hx
theorem ns_of {pins : List (Addr × Obj)} {σ : L2.St} {H : Hp} {s : Shared} {Y : Cx} (J : Inv Y pins σ H s) : ∃ m, s.heap.Ns Y.env.locals m := let ⟨m, h, _⟩ := J.loc; ⟨m, h⟩
theorem pe_comp {elt target iter : Expr} {ifs : List Expr} {pos : Pos} {wi : TI} {g : TG} {tc : TT} {te : TE} (B : BlkOk X scope N' cap) (hcalm : X.calm = true) (hi : PI X target iter wi)
  (hg : ∀ s H fp, PG (blkX X scope N' s H fp) target g) (hc : ∀ s H fp, PTs (blkX X scope N' s H fp) ifs tc) (he : ∀ s H fp, PE (blkX X scope N' s H fp) elt te)
  (hs : ∀ x, foldedSetIterable iter X.env x = pure x) : PE X (.ListComp elt [⟨target, iter, ifs, 0⟩] scope pos) (tComp wi g tc te cap) := by
 intro pins s σ H Q I h
 rw [eval_ListComp]
 refine wpAny_comprehension_free (use := none) rfl hs (closure_eq fun n hn => I.ok.has n (B.out n hn)) B.kind (hnames_of B) (thn (hi pins s σ H _ I h) fun x s1 h1 => thn h1 fun itv s2 h2 => ?_)
 obtain ⟨it, fp, tn, J, H2, e, I2, T, st2, f2, R⟩ := h2
 subst e
 refine comp_block B hcalm hg hc he I2 T st2 f2 (R _ I2.fresh) (fun acc C => compPost (model X.prog X.w) X.A X.xe none (EP X pins σ Q) acc C) _ ?_
 intro H3 s3 σ' H' s' f I3 hsz hf3 J4 q
 obtain ⟨m, hm⟩ := ns_of J4
 have I4 := blk_back I3 hf3 J4
 refine ⟨m, hm, fun h' sb => ⟨.ref s2.heap.objs.size, H', ?_, rfl, q⟩⟩
 have fC : FpOk X pins H' s3.heap.objs.size := I3.fpOk (Nat.le_refl _) J4.free
 exact I4.turned (t' := s'.toks) (fun b o hb e => sb.extBut b o hb e) fC.1 fC.2.1 fC.2.2.2.1 fC.2.2.2.2.1 fC.2.2.2.2.2
theorem ps_comp {elt target iter : Expr} {ifs : List Expr} {pos spos py : Pos} {y : Str} {i : Nat} {wi : TI} {g : TG} {tc : TT} {te : TE} (B : BlkOk X scope N' cap) (hcalm : X.calm = true) (hi : PI X target iter wi)
  (hg : ∀ s H fp, PG (blkX X scope N' s H fp) target g) (hc : ∀ s H fp, PTs (blkX X scope N' s H fp) ifs tc) (he : ∀ s H fp, PE (blkX X scope N' s H fp) elt te)
  (hs : ∀ x, foldedSetIterable iter X.env x = pure x) (hN : X.N.Nodup) (hy : X.N[i]? = some y) (hl : X.env.kindOf y = some .local)
  (hsw : swapsWith (.ListComp elt [⟨target, iter, ifs, 0⟩] scope pos) (some (.Name y py)) spos.line X.env = pure true) :
  PS X (.Assign [.Name y py] (.ListComp elt [⟨target, iter, ifs, 0⟩] scope pos) spos) (tAsg (tComp wi g tc te cap) (gName i)) := by
 intro pins s σ H D I h
 rw [exec_Assign_Name_used _ _ _ _ hsw]
 refine wpAny_bind (wpAny_standAt (wpAny_bind ?_))
 show wpAny _ X.A (do let _ <- comprehension (.ListComp elt [⟨target, iter, ifs, 0⟩] scope pos) scope X.env _ (newList []) false (eval iter X.env) (some (assign (.Name y py) X.env))) _ _ s
 refine wpAny_bind (wpAny_mono (wpAny_comprehension_free (use := some (assign (.Name y py) X.env)) (Q := fun _ s' => SP X pins D .next s') rfl hs (closure_eq fun n hn => I.ok.has n (B.out n hn)) B.kind (hnames_of B)
  (thn (hi pins s σ H _ I h) fun x s1 h1 => thn h1 fun itv s2 h2 => ?_)) (fun _ s' hq => wpAny_pure (wpAny_pure hq)) fun _ _ e => e)
 obtain ⟨it, fp, tn, J, H2, e, I2, T, st2, f2, R⟩ := h2
 subst e
 refine comp_block B hcalm hg hc he I2 T st2 f2 (R _ I2.fresh) (fun acc C => compPost (model X.prog X.w) X.A X.xe (some (assign (.Name y py) X.env)) (fun _ s' => SP X pins D .next s') acc C) _ ?_
 intro H3 s3 σ' H' s' f I3 hsz hf3 J4 q
 obtain ⟨m, o, es, ep, ho, hd, hr⟩ := ns_of J4
 have I4 := blk_back I3 hf3 J4
 have fC : FpOk X pins H' s3.heap.objs.size := I3.fpOk (Nat.le_refl _) J4.free
 have hdC : ∀ v, o.data ≠ .cell v := fun v z => by rw [hd] at z; cases z
 have I5 : Inv X (pins ++ [(s3.heap.objs.size, o)]) σ H' s' := I4.pins_of fun p hp => (List.mem_append.mp hp).elim (fun z => I4.pin p (List.mem_append_right _ z)) fun z => by
  have e : p = (s3.heap.objs.size, o) := by simpa using z
  subst e
  exact ⟨ho, fC.1, fC.2.1, fC.2.2.1, hdC⟩
 show wpAny _ X.A (assign (.Name y py) X.env (.ref s2.heap.objs.size)) _ _ _
 refine wpAny_assign_Name (store_ok (v := .ref s2.heap.objs.size) I5 hN hy (.inl hl) rfl (fun s6 I6 => ?_) (.inr hl))
 have pin := I6.pin (s3.heap.objs.size, o) (List.mem_append_right _ (List.mem_append_right _ (by simp)))
 refine ⟨m, ⟨o, es, ep, pin.1, hd, hr⟩, fun h' sb => ⟨_, H', ?_, q⟩⟩
 exact I6.unpinned.turned (t' := s6.toks) (fun b o hb e => sb.extBut b o hb e) fC.1 fC.2.1 fC.2.2.2.1 fC.2.2.2.2.1 fC.2.2.2.2.2
end
end TW
end
section
namespace TW
open PySem PySem.Spec PyProof.Rows L2
section
variable {X : Cx}
theorem dt_val {e : Expr} {g : En -> Option (Kd × D)} (h : DE X e g) (he : ∀ whole, isTrue e X.env whole = (do let v <- whole; standAt e.pos; holding [v] (truthy v))) :
  DT X e (fun ρ => (g ρ).bind fun x => truD x.2) := by
 intro ρ b q
 obtain ⟨x, ex, et⟩ := bnd q
 refine pt_imp (pt_truth (h ρ x ex) he) ?_
 rintro σ H Q ⟨G, s, k⟩
 exact ⟨G, s, fun v H' G' x1 r => ⟨b, tru_of X.K (r.rb x1.gh) x1.gh et, k H' G' x1⟩⟩
theorem da_nil : DA X [] (fun _ => some []) := fun ρ ds e => by
 cases e
 refine pa_imp pa_nil ?_
 rintro σ H Q ⟨G, s, k⟩
 exact k [] H G (.refl s.gh) rfl
theorem da_cons {e : Expr} {es : List Expr} {ge : En -> Option (Kd × D)} {gs : En -> Option (List D)} (ha : DE X e ge) (hr : DA X es gs) (hs : starEach (e :: es) X.env = (false, eval e X.env) :: starEach es X.env) :
  DA X (e :: es) (fun ρ => ((ge ρ).bind TW.frz).bind fun d => (gs ρ).map fun q => d :: q) := by
 intro ρ ds q
 obtain ⟨d, q1, q⟩ := bnd q
 obtain ⟨x, ex, ef⟩ := bnd q1
 obtain ⟨dr, eq, rfl⟩ := mpd q
 refine pa_imp (pa_cons (ha ρ x ex) (hr ρ dr eq) hs) ?_
 rintro σ H Q ⟨G, s, k⟩
 refine ⟨G, s, fun v H1 G1 x1 r1 => ?_⟩
 obtain ⟨G2, x2, s2, rp⟩ := r1.frz x1 ef
 exact ⟨G2, s.ext x2, fun vs H3 G3 x3 rs => k (v :: vs) H3 G3 (x2.trans x3) (Rps.cons (Rp.mono x3.gg _ _ rp) rs)⟩
theorem Rps.le {G : Hp} {ds : List D} {xs : List V} (r : Rps G ds xs) (h : ds.length <= lim) : xs.length <= sizeLine := by
 rw [r.length]; exact Nat.le_trans h lim_line
theorem de_tup {es : List Expr} {k : Nat} {pos : Pos} {g : En -> Option (List D)} (h : DA X es g) : DE X (.Tuple es k pos) (fun ρ => (g ρ).bind fun ds => if ds.length <= lim then some (.fz, .tup ds) else none) := by
 intro ρ x q
 obtain ⟨ds, e, q⟩ := bnd q
 split at q
 case isFalse => cases q
 rename_i hl
 cases q
 refine pe_imp (pe_tup (h ρ ds e)) ?_
 rintro σ H Q ⟨G, s, k⟩
 refine ⟨G, s, fun vs H' G' x1 rs => ⟨rs.le hl, fun p hp => ?_⟩⟩
 have x2 := Ext.laid x1.gh hp (.tup vs)
 exact k _ _ _ (x1.trans x2) ⟨p, vs, rfl, upd_same, Rps.mono x2.gg _ _ rs⟩
theorem fresh_ok {G H : Hp} (gh : Same G H) {p : Addr} (hp : H p = none) {ds : List D} {vs : List V} (rs : Rps G ds vs) : Ext G H G (upd H p (.lst vs)) /\ RR G (upd H p (.lst vs)) H (.ref p) (.fr, .lst ds) :=
 ⟨Ext.grown gh hp _, p, vs, ds, rfl, rfl, upd_same, gh.free hp, hp, rs⟩
theorem de_lst {es : List Expr} {pos : Pos} {g : En -> Option (List D)} (h : DA X es g) : DE X (.List es pos) (fun ρ => (g ρ).bind fun ds => if ds.length <= lim then some (.fr, .lst ds) else none) := by
 intro ρ x q
 obtain ⟨ds, e, q⟩ := bnd q
 split at q
 case isFalse => cases q
 rename_i hl
 cases q
 refine pe_imp (pe_lst (h ρ ds e)) ?_
 rintro σ H Q ⟨G, s, k⟩
 refine ⟨G, s, fun vs H' G' x1 rs => ⟨rs.le hl, fun p hp => ?_⟩⟩
 obtain ⟨x2, rr⟩ := fresh_ok x1.gh hp rs
 exact k _ _ _ (x1.trans x2) (rr.back x1.hh)
noncomputable def spD (n : Nat) (g : List D -> Option D) : Sp := fun vs H Q _ => ∃ G ds d, (Same G H /\ Tb G) /\ Rps G ds vs /\ ds.length = n /\ g ds = some d /\ ∀ v H' G', Ext G H G' H' -> Rp G' d v -> Q v H'
theorem de_call {k : Nat} {f : Addr} {fd : FuncData} {ps : List Str} {n : Nat} {g : List D -> Option D} {x : Str} {p pos : Pos} {e : Expr} {es : List Expr} {gs : En -> Option (List D)}
  (F : FnOk X.prog X.w X.K X.mg X.base CX0 k f fd ps (spD n g)) (hr : Room k X.A) (hg : Gl X x) (hm : X.mg x = some (.ref f)) (hk : PySem.W.keepIn X.K (.ref f) = true) (hb : Binds X.K fd ps [])
  (hn : ∀ ρ ds, gs ρ = some ds -> ds.length = n)
  (ha : DA X (e :: es) gs) (hdb : (x == ("__debug__" : Str)) = false) (he : starEach (e :: es) X.env = (false, eval e X.env) :: starEach es X.env) (hpl : (backTo pos (starEach es X.env)).any (·.1) = false) :
  DE X (.Call (.Name x p) (e :: es) [] pos) (fun ρ => (gs ρ).bind fun ds => (g ds).map fun d => (.fz, d)) := by
 intro ρ z q
 obtain ⟨ds, eq, q⟩ := bnd q
 obtain ⟨d, ed, rfl⟩ := mpd q
 refine pe_imp (pe_call (dvs := []) (E := E0) F hr hg hm hk hb .nil pass0 (ha ρ ds eq) hdb he hpl) ?_
 rintro σ H Q ⟨G, s, k⟩
 refine ⟨G, s, fun vs H1 G1 x1 rs => ⟨G1, ds, d, ⟨x1.gh, s.tb.mono x1.gg⟩, by rw [List.append_nil]; exact rs, hn ρ ds eq, ed, fun v H2 G2 x2 r => k v H2 G2 (x1.trans x2) r⟩⟩
noncomputable def ItD (J : It) (P : Hp -> Hp -> Prop) (ds : List D) : Prop := ∀ (i : Nat) G H, P G H -> (∀ d, ds[i]? = some d -> J.go i H /\ ∀ x H2, J.yld i H x H2 -> ∃ G2, Ext G H G2 H2 /\ Rp G2 d x) /\ (ds.length <= i -> J.stop i H)
noncomputable def tDI (ρ : En) (x : Kd × List D) : TI := fun σ H R => ∃ G, SR G H σ ρ /\ ∀ J H' G', Ext G H G' H' -> ItD J (fun G2 H2 => Same G' G2 /\ Same G2 H2 /\ Same H' H2) x.2 -> (x.1 ≠ .bo -> ItD J (fun G2 H2 => Same G' G2 /\ Same G2 H2) x.2) -> R J H'
noncomputable def DI (X : Cx) (tg iter : Expr) (g : En -> Option (Kd × List D)) : Prop := ∀ ρ x, g ρ = some x -> PI X tg iter (tDI ρ x)
theorem pi_imp {tg e : Expr} {t t' : TI} (h : PI X tg e t) (i : ∀ σ H Q, t' σ H Q -> t σ H Q) : PI X tg e t' := fun pins s σ H Q I q => h pins s σ H Q I (i σ H Q q)
theorem itd_list {K : PySem.W.Frag} {a : Addr} {ds : List D} {xs : List V} {G' : Hp} {P : Hp -> Hp -> Prop} (hP : ∀ G H, P G H -> Same G' G /\ Same G H /\ Rd H a (.lst xs)) (r : Rps G' ds xs) : ItD (Itl K a) P ds := by
 intro i G H p
 obtain ⟨g1, g2, h⟩ := hP G H p
 refine ⟨fun d e => ?_, fun hl => ⟨xs, .inl h, by rw [r.length]; exact hl⟩⟩
 obtain ⟨x, ex, rx⟩ := r.get e
 refine ⟨⟨xs, x, .inl h, ex⟩, fun y H2 hy => ?_⟩
 obtain ⟨rfl, hy⟩ := hy
 have e2 := hy xs (.inl h)
 rw [ex] at e2
 cases e2
 exact ⟨G, .refl g2, Rp.mono g1 _ _ rx⟩
theorem itd_tup {K : PySem.W.Frag} {a : Addr} {ds : List D} {xs : List V} {G' : Hp} {P : Hp -> Hp -> Prop} (hP : ∀ G H, P G H -> Same G' G /\ Same G H /\ H a = some (.tup xs)) (r : Rps G' ds xs) : ItD (Itt K a) P ds := by
 intro i G H p
 obtain ⟨g1, g2, h⟩ := hP G H p
 refine ⟨fun d e => ?_, fun hl => ⟨xs, .inl (.inl h), by rw [r.length]; exact hl⟩⟩
 obtain ⟨x, ex, rx⟩ := r.get e
 refine ⟨⟨xs, x, .inl (.inl h), ex⟩, fun y H2 hy => ?_⟩
 obtain ⟨rfl, hy⟩ := hy
 have e2 := hy xs (.inl (.inl h))
 rw [ex] at e2
 cases e2
 exact ⟨G, .refl g2, Rp.mono g1 _ _ rx⟩
theorem itd_rng {lo : Int} {n : Nat} {P : Hp -> Hp -> Prop} (hP : ∀ G H, P G H -> Same G H) : ItD (Itr lo n) P (rngD lo n) := by
 intro i G H p
 refine ⟨fun d e => ?_, fun hl => by simpa [rngD, Itr] using hl⟩
 unfold rngD at e
 rw [List.getElem?_map] at e
 obtain ⟨j, ej, rfl⟩ := mpd e
 obtain ⟨hi, ej⟩ := List.getElem?_eq_some_iff.mp ej
 rw [List.length_range] at hi
 rw [List.getElem_range] at ej
 subst ej
 refine ⟨hi, fun x H2 hy => ?_⟩
 obtain ⟨rfl, rfl⟩ := hy
 exact ⟨G, .refl (hP G _ p), rfl⟩
theorem di_seq {tg l : Expr} {g : En -> Option (Kd × D)} (h : DE X l g) : DI X tg l (fun ρ => (g ρ).bind fun x => (seqOf x.2).map fun u => (nfr x.1, u)) := by
 intro ρ y q
 obtain ⟨⟨k, d⟩, ex, q⟩ := bnd q
 obtain ⟨ds, es, rfl⟩ := mpd q
 cases d with
 | lst es' =>
  cases es
  refine pi_imp (pi_list (h ρ _ ex)) ?_
  rintro σ H R ⟨G, s, c⟩
  refine ⟨G, s, fun v H1 G1 x1 r1 => ?_⟩
  cases k with
  | fz =>
   obtain ⟨a, xs, rfl, rd, rs⟩ := r1
   refine ⟨a, rfl, ⟨xs, .inl (Rd.same x1.gh rd)⟩, c _ H1 G1 x1 ?_ fun _ => ?_⟩
   ·exact itd_list (fun G2 H2 ⟨p1, p2, p3⟩ => ⟨p1, p2, Rd.same p2 (Rd.same p1 rd)⟩) rs
   ·exact itd_list (fun G2 H2 ⟨p1, p2⟩ => ⟨p1, p2, Rd.same p2 (Rd.same p1 rd)⟩) rs
  | fr =>
   obtain ⟨a, xs, ds', e, rfl, hl, hg, hn, rs⟩ := r1
   cases e
   obtain ⟨x2, s2⟩ := x1.freeze hn hl hg
   have rd : Rd (upd G1 a (.lst xs)) a (.lst xs) := .inl upd_same
   refine ⟨a, rfl, ⟨xs, .inl (.inl hl)⟩, c _ H1 _ x2 ?_ fun _ => ?_⟩
   ·exact itd_list (fun G2 H2 ⟨p1, p2, p3⟩ => ⟨p1, p2, Rd.same p2 (Rd.same p1 rd)⟩) (Rps.mono s2 _ _ rs)
   ·exact itd_list (fun G2 H2 ⟨p1, p2⟩ => ⟨p1, p2, Rd.same p2 (Rd.same p1 rd)⟩) (Rps.mono s2 _ _ rs)
  | bo =>
   obtain ⟨a, xs, rfl, rd, rs⟩ := r1
   refine ⟨a, rfl, ⟨xs, .inl rd⟩, c _ H1 G1 x1 ?_ fun z => absurd rfl z⟩
   exact itd_list (fun G2 H2 ⟨p1, p2, p3⟩ => ⟨p1, p2, Rd.same p3 rd⟩) rs
 | tup es' =>
  cases es
  refine pi_imp (pi_tup (h ρ _ ex)) ?_
  rintro σ H R ⟨G, s, c⟩
  refine ⟨G, s, fun v H1 G1 x1 r1 => ?_⟩
  obtain ⟨a, xs, rfl, hg, rs⟩ := r1.rb x1.gh
  refine ⟨a, rfl, ⟨xs, .inl (.inl (x1.gh _ _ hg))⟩, c _ H1 G1 x1 ?_ fun _ => ?_⟩
  ·exact itd_tup (fun G2 H2 ⟨p1, p2, p3⟩ => ⟨p1, p2, p2 _ _ (p1 _ _ hg)⟩) rs
  ·exact itd_tup (fun G2 H2 ⟨p1, p2⟩ => ⟨p1, p2, p2 _ _ (p1 _ _ hg)⟩) rs
 | non => cases es
 | bl _ => cases es
 | int _ => cases es
 | str _ => cases es
 | scr _ _ _ => cases es
 | dct _ _ => cases es
theorem rngOk_of {i : Int} (h : rngOk i = true) : -(2 ^ 62) <= i /\ i < 2 ^ 62 := by
 have : i.natAbs < 4611686018427387904 := of_decide_eq_true h
 omega
theorem di_r1 {tg a : Expr} {p pos : Pos} {g : En -> Option (Kd × D)} (hg : Gl X "range") (hm : X.mg "range" = none) (h : DE X a g) (hs : starEach [a] X.env = [(false, eval a X.env)]) :
  DI X tg (.Call (.Name "range" p) [a] [] pos) (fun ρ => (g ρ).bind fun x => match x.2 with | .int i => if rngOk i then some (.fz, rngD 0 i.toNat) else none | _ => none) := by
 intro ρ y q
 obtain ⟨⟨k, d⟩, ex, q⟩ := bnd q
 cases d <;> first | cases q | skip
 rename_i i
 dsimp only at q
 split at q
 case isFalse => cases q
 rename_i hi
 cases q
 obtain ⟨h1, h2⟩ := rngOk_of hi
 refine pi_imp (pi_range1 hg hm (pa_cons (h ρ _ ex) pa_nil hs) hs) ?_
 rintro σ H R ⟨G, s, c⟩
 refine ⟨G, s, fun v H1 G1 x1 r1 => ⟨i, ?_, h1, h2, c _ H1 G1 x1 (itd_rng fun _ _ p => p.2.1) fun _ => itd_rng fun _ _ p => p.2⟩⟩
 rw [show v = V.int i from r1.rb x1.gh]
theorem di_r2 {tg a b : Expr} {p pos : Pos} {ga gb : En -> Option (Kd × D)} (hg : Gl X "range") (hm : X.mg "range" = none) (ha : DE X a ga) (hb : DE X b gb)
  (hs : starEach [a, b] X.env = [(false, eval a X.env), (false, eval b X.env)]) (hs2 : starEach [b] X.env = [(false, eval b X.env)]) :
  DI X tg (.Call (.Name "range" p) [a, b] [] pos) (fun ρ => (ga ρ).bind fun x => (gb ρ).bind fun y => match x.2, y.2 with
   | .int i, .int j => if rngOk i && rngOk j then some (.fz, rngD i (j - i).toNat) else none
   | _, _ => none) := by
 intro ρ y q
 obtain ⟨⟨k, d⟩, ex, q1⟩ := bnd q
 obtain ⟨⟨k2, d2⟩, ey, q2⟩ := bnd q1
 clear q q1
 obtain ⟨i, rfl⟩ : ∃ i, d = .int i := by
  cases d <;> first | cases q2 | exact ⟨_, rfl⟩
 obtain ⟨j, rfl⟩ : ∃ j, d2 = .int j := by
  cases d2 <;> first | cases q2 | exact ⟨_, rfl⟩
 have q := q2
 dsimp only at q
 split at q
 case isFalse => cases q
 rename_i hij
 cases q
 rw [Bool.and_eq_true] at hij
 obtain ⟨h1, h2⟩ := rngOk_of hij.1
 obtain ⟨h3, h4⟩ := rngOk_of hij.2
 refine pi_imp (pi_range2 hg hm (pa_cons (ha ρ _ ex) (pa_cons (hb ρ _ ey) pa_nil hs2) (by rw [hs, hs2])) hs hs2) ?_
 rintro σ H R ⟨G, s, c⟩
 refine ⟨G, s, fun v H1 G1 x1 r1 => ⟨G1, s.ext x1, fun u H2 G2 x2 r2 => ⟨i, j, ?_, ⟨h1, h2, h3, h4⟩, c _ H2 G2 (x1.trans x2) (itd_rng fun _ _ p => p.2.1) fun _ => itd_rng fun _ _ p => p.2⟩⟩⟩
 rw [show v = V.int i from r1.rb x1.gh, show u = V.int j from r2.rb x2.gh]
noncomputable def tDG (tg : Tg) : TG := fun v σ H Q => ∃ G d, Same G H /\ Rp G d v /\ (∀ l, tg = .many l -> ∃ ds, d = .tup ds /\ ds.length = l.length) /\ ∀ σ', Bound tg d G σ σ' -> Q σ' H
noncomputable def DG (X : Cx) (e : Expr) (tg : Tg) : Prop := PG X e (tDG tg)
theorem pg_imp {e : Expr} {t t' : TG} (h : PG X e t) (i : ∀ v σ H Q, t' v σ H Q -> t v σ H Q) : PG X e t' := fun pins s σ H v u Q I r q => h pins s σ H v u Q I r (i v σ H Q q)
theorem dg_name {i : Nat} {x : Str} {pos : Pos} (hN : X.N.Nodup) (hi : X.N[i]? = some x) (hx : Loc X.env.scope x) (hf : X.fn x = true \/ X.env.scope.names.lookup x = some .local) : DG X (.Name x pos) (.one i) := by
 refine pg_imp (pg_name hN hi hx hf) ?_
 rintro v σ H Q ⟨G, d, gh, r, _, q⟩
 exact q _ ⟨v, r, rfl⟩
noncomputable def DGs (X : Cx) (es : List Expr) (l : List Nat) : Prop := PGs X es (fun vs σ H Q => vs.length = l.length /\ Q (setAllV l vs σ) H)
theorem pgs_imp {e : List Expr} {t t' : TGs} (h : PGs X e t) (i : ∀ v σ H Q, t' v σ H Q -> t v σ H Q) : PGs X e t' := fun pins s σ H v u Q I r q => h pins s σ H v u Q I r (i v σ H Q q)
theorem dgs_nil : DGs X [] [] := by
 refine pgs_imp pgs_nil ?_
 rintro vs σ H Q ⟨h, q⟩
 cases vs with
 | nil => exact ⟨rfl, q⟩
 | cons _ _ => cases h
theorem dgs_cons {i : Nat} {x : Str} {pos : Pos} {es : List Expr} {l : List Nat} (hN : X.N.Nodup) (hi : X.N[i]? = some x) (hx : Loc X.env.scope x) (hf : X.fn x = true \/ X.env.scope.names.lookup x = some .local) (h : DGs X es l)
  (hs : (assignEach (.Name x pos :: es) X.env).map (·.2) = assign (.Name x pos) X.env :: (assignEach es X.env).map (·.2)) : DGs X (.Name x pos :: es) (i :: l) := by
 refine pgs_imp (pgs_cons (pg_name hN hi hx hf) h hs) ?_
 rintro vs σ H Q ⟨e, q⟩
 cases vs with
 | nil => cases e
 | cons v vs => exact ⟨v, vs, rfl, by simpa using e, q⟩
theorem dg_tup {es : List Expr} {k : Nat} {pos : Pos} {l : List Nat} (hc : X.calm = true) (h : DGs X es l) (hn : (assignEach es X.env).length = l.length) (hst : (assignEach es X.env).findIdx? (·.1) = none) : DG X (.Tuple es k pos) (.many l) := by
 refine pg_imp (pg_tup (n := l.length) hc h hn hst) ?_
 rintro v σ H Q ⟨G, d, gh, r, hl, q⟩
 obtain ⟨ds, rfl, hk⟩ := hl l rfl
 obtain ⟨a, xs, rfl, g, rs⟩ := r
 refine ⟨a, xs, rfl, .inl (.inl (gh _ _ g)), by rw [rs.length, hk], by rw [rs.length, hk], q _ ⟨ds, xs, rfl, rs, by rw [rs.length, hk], rfl⟩⟩
theorem setAll_len : ∀ (l : List Nat) (ds : List D) (ρ ρ' : En), TW.setAll l ds ρ = some ρ' -> ds.length = l.length
 | [], [], _, _, _ => rfl
 | i :: l, d :: ds, ρ, ρ', e => by
  have := setAll_len l ds _ ρ' e
  simp [this]
 | [], _ :: _, _, _, e => by cases e
 | _ :: _, [], _, _, e => by cases e
theorem bindT_len {tg : Tg} {d : D} {ρ ρ' : En} (e : bindT tg d ρ = some ρ') : ∀ l, tg = .many l -> ∃ ds, d = .tup ds /\ ds.length = l.length := by
 rintro l rfl
 cases d <;> first | cases e | skip
 exact ⟨_, rfl, setAll_len _ _ _ _ e⟩
theorem SR.capt {G H : Hp} {σ : L2.St} {ρ : En} (s : SR0 G H σ ρ) (cap : List (Option Nat)) (nd : ∀ (i j k : Nat), cap[i]? = some (some k) -> cap[j]? = some (some k) -> i = j) : SR0 G H (capS σ cap) (TW.capt ρ cap) := by
 have get : ∀ (i : Nat) (x : Sl), (TW.capt ρ cap)[i]? = some (some x) -> ∃ k, cap[i]? = some (some k) /\ ρ[k]? = some (some x) /\ (capS σ cap)[i]? = some ((σ[k]?).join) := fun i x e => by
  unfold TW.capt at e
  rw [List.getElem?_map] at e
  obtain ⟨o, eo, e⟩ := mpd e
  cases o with
  | none => cases e
  | some k =>
   refine ⟨k, eo, ?_, ?_⟩
   ·have e' : (ρ[k]?).join = some x := e
    cases z : ρ[k]? with
    | none => rw [z] at e'; cases e'
    | some y => rw [z] at e'; exact congrArg some e'
   ·unfold capS
    rw [List.getElem?_map, eo]
    rfl
 refine ⟨by unfold capS TW.capt; simp, fun i d e => ?_, fun i x e hx => ?_, fun i j x y l h1 hx h2 hy e1 e2 => ?_⟩
 ·obtain ⟨k, _, ek, es⟩ := get i _ e
  obtain ⟨v, e1, r⟩ := s.val k d ek
  exact ⟨v, by rw [es, e1]; rfl, r⟩
 ·obtain ⟨k, _, ek, es⟩ := get i _ e
  obtain ⟨l, xs, e1, r⟩ := s.owns k x ek hx
  exact ⟨l, xs, by rw [es, e1]; rfl, r⟩
 ·obtain ⟨k1, c1, k1e, s1⟩ := get i _ h1
  obtain ⟨k2, c2, k2e, s2⟩ := get j _ h2
  rw [s1] at e1
  rw [s2] at e2
  have j1 : σ[k1]? = some (some (.ref l)) := by
   have e' : (σ[k1]?).join = some (.ref l) := Option.some.inj e1
   cases z : σ[k1]? with
   | none => rw [z] at e'; cases e'
   | some y => rw [z] at e'; exact congrArg some e'
  have j2 : σ[k2]? = some (some (.ref l)) := by
   have e' : (σ[k2]?).join = some (.ref l) := Option.some.inj e2
   cases z : σ[k2]? with
   | none => rw [z] at e'; cases e'
   | some y => rw [z] at e'; exact congrArg some e'
  have := s.dst k1 k2 x y l k1e hx k2e hy j1 j2
  subst this
  exact nd i j k1 c1 c2
noncomputable def DTs (X : Cx) (ifs : List Expr) (g : En -> Option Bool) : Prop := ∀ ρ b, g ρ = some b -> PTs X ifs (tDT ρ b)
theorem pts_imp {e : List Expr} {t t' : TT} (h : PTs X e t) (i : ∀ σ H Q, t' σ H Q -> t σ H Q) : PTs X e t' := fun pins s σ H Q I q => h pins s σ H Q I (i σ H Q q)
theorem dts_nil : DTs X [] (fun _ => some true) := fun ρ b e => by
 cases e
 refine pts_imp pts_nil ?_
 rintro σ H Q ⟨G, s, k⟩
 exact k H G (.refl s.gh)
theorem dts_one {c : Expr} {g : En -> Option Bool} (h : DT X c g) : DTs X [c] g := fun ρ b e => pts_one (h ρ b e)
noncomputable def xT (g : En -> Option Bool) : TT := fun σ H Q => ∃ ρ b, g ρ = some b /\ tDT ρ b σ H Q
noncomputable def xE (g : En -> Option (Kd × D)) : TE := fun σ H Q => ∃ ρ x, g ρ = some x /\ tD ρ x σ H Q
theorem DTs.x {ifs : List Expr} {g : En -> Option Bool} (h : DTs X ifs g) : PTs X ifs (xT g) := fun pins s σ H Q I ⟨ρ, b, e, q⟩ => h ρ b e pins s σ H Q I q
theorem DE.x {e : Expr} {g : En -> Option (Kd × D)} (h : DE X e g) : PE X e (xE g) := fun pins s σ H Q I ⟨ρ, b, e, q⟩ => h ρ b e pins s σ H Q I q
theorem tD_comp {gi : Kd × List D} {gc : En -> Option Bool} {ge : En -> Option (Kd × D)} {cap : List (Option Nat)} {tg : Tg} {ρ : En} {l : List D} (hl : gi.2.length <= lim) (hft : freeT cap tg = true)
  (nd : ∀ (i j k : Nat), cap[i]? = some (some k) -> cap[j]? = some (some k) -> i = j)
  (hgo : compGo (fun d => (bindT tg d (TW.capt ρ cap)).bind fun q => (gc q).bind fun k => if k then ((ge q).bind TW.frz).map some else some none) gi.2 = some l) :
  ∀ σ H Q, tD ρ (.fr, .lst l) σ H Q -> tComp (tDI ρ gi) (tDG tg) (xT gc) (xE ge) cap σ H Q := by
 rintro σ H Q ⟨G, s, c⟩
 refine ⟨G, s, fun J H1 G1 x1 it1 _ A hA => ?_⟩
 refine ⟨fun i m σ' H' => m = gi.2.length - i /\ i <= gi.2.length /\ ∃ G' ys out rest, Ext G1 H1 G' H' /\ H' A = some (.lst ys) /\ G' A = none /\ Rps G' out ys /\ out.length <= i /\ l = out ++ rest /\
   compGo (fun d => (bindT tg d (TW.capt ρ cap)).bind fun q => (gc q).bind fun k => if k then ((ge q).bind TW.frz).map some else some none) (gi.2.drop i) = some rest /\ SR0 G' H1 σ' (TW.capt ρ cap), ?_, ?_⟩
 ·refine ⟨gi.2.length, rfl, Nat.zero_le _, G1, [], [], l, Ext.grown x1.gh hA _, upd_same, x1.gh.free hA, rfl, Nat.le_refl _, rfl, hgo, ?_⟩
  exact SR.capt (s.ext x1).toSR0 cap nd
 ·rintro i m σ' H' ⟨rfl, hi, G', ys, out, rest, xx, hD, hG, rs, ho, el, go, sr⟩
  have P : Same G1 G' /\ Same G' H' /\ Same H1 H' := ⟨xx.gg, xx.gh, xx.hh⟩
  by_cases hlt : i < gi.2.length
  ·right
   have ed : gi.2[i]? = some gi.2[i] := by simp [hlt]
   obtain ⟨jgo, jy⟩ := (it1 i G' H' P).1 _ ed
   refine ⟨jgo, fun x H2 hy => ?_⟩
   obtain ⟨G2, x2, rx⟩ := jy x H2 hy
   rw [List.drop_eq_getElem_cons hlt] at go
   obtain ⟨o, eo, go⟩ := bnd go
   obtain ⟨rest', er, go⟩ := mpd go
   obtain ⟨q1, eb, eo⟩ := bnd eo
   obtain ⟨k, ek, eo⟩ := bnd eo
   refine ⟨G2, _, x2.gh, rx, bindT_len eb, fun σ2 bd => ?_⟩
   have xx2 := xx.trans x2
   have sr2 : SR0 G2 H1 σ2 q1 := SR0.bound (sr.mono x2.gg (Same.refl _) fun b o e => (x2.nw b o e).elim .inl fun z => .inr (xx.hh.free z)) bd eb
   have srH : SR G2 H2 σ2 q1 := ⟨sr2.mono (Same.refl _) xx2.hh fun b o e => .inl e, x2.gh, s.tb.mono (x1.gg.trans (xx.gg.trans x2.gg))⟩
   have noA : ∀ {G3 H3 : Hp}, Ext G' H' G3 H3 -> G3 A = none := fun {G3 H3} x3 => by
    cases z : G3 A with
    | none => rfl
    | some o =>
     rcases x3.nw A o z with y | y
     ·rw [hG] at y; cases y
     ·rw [hD] at y; cases y
   refine ⟨q1, k, ek, G2, srH, fun H3 G3 x3 => ?_⟩
   have sr3 : SR0 G3 H1 σ2 (TW.capt ρ cap) := SR0.unbound (sr2.mono x3.gg (Same.refl _) fun b o e => (x3.nw b o e).elim .inl fun z => .inr ((xx2.hh).free z)) eb hft
   cases k with
   | false =>
    rw [if_neg Bool.false_ne_true] at eo
    cases eo
    subst go
    refine iteF ⟨_, ?_, rfl, hlt, G3, ys, out, rest', xx2.trans x3, (x2.trans x3).hh _ _ hD, noA (x2.trans x3), Rps.mono (x2.trans x3).gg _ _ rs, by omega, el, er, sr3⟩
    omega
   | true =>
    rw [if_pos rfl] at eo
    obtain ⟨d', ed', rfl⟩ := mpd eo
    obtain ⟨y, ey, ef⟩ := bnd ed'
    subst go
    refine iteT ⟨q1, y, ey, G3, srH.ext x3, fun v H4 G4 x4 r4 => ?_⟩
    obtain ⟨G5, x5, s5, rp⟩ := r4.frz x4 ef
    have x25 := (x2.trans x3).trans x5
    have hD4 := x25.hh _ _ hD
    have hG5 := noA x25
    refine ⟨ys, hD4, ?_, _, ?_, rfl, hlt, G5, ys ++ [v], out ++ [d'], rest', ?_, upd_same, hG5, Rps.append (Rps.mono x25.gg _ _ rs) (Rps.cons rp Rps.nil), ?_, ?_, er, ?_⟩
    ·rw [rs.length]
     exact Nat.lt_of_lt_of_le (Nat.lt_of_le_of_lt ho (Nat.lt_of_lt_of_le hlt hl)) lim_line
    ·omega
    ·have xx5 := xx.trans x25
     refine ⟨xx5.gg, fun b o e => ?_, fun b o e => ?_, xx5.nw⟩
     ·rw [upd_ne (ne_of_none e hA)]; exact xx5.hh _ _ e
     ·rw [upd_ne (ne_of_none e hG5)]; exact xx5.gh _ _ e
    ·simp; omega
    ·rw [el]; simp
    ·exact sr3.mono (x5.gg) (Same.refl _) fun b o e => (x5.nw b o e).elim .inl fun z => .inr ((xx2.trans x3).hh.free z)
  ·left
   have e : i = gi.2.length := by omega
   subst e
   refine ⟨(it1 _ G' H' P).2 (Nat.le_refl _), c _ H' G' (x1.trans xx) ⟨A, ys, l, rfl, rfl, hD, hG, x1.hh.free hA, ?_⟩⟩
   rw [List.drop_length] at go
   cases go
   rw [el, List.append_nil]
   exact rs
theorem de_comp {scope : Scope} {N' : List Str} {cap : List (Option Nat)} {elt target iter : Expr} {ifs : List Expr} {pos : Pos} {tg : Tg} {gi : En -> Option (Kd × List D)} {gc : En -> Option Bool} {ge : En -> Option (Kd × D)}
  (B : BlkOk X scope N' cap) (nd : ∀ (i j k : Nat), cap[i]? = some (some k) -> cap[j]? = some (some k) -> i = j) (hcalm : X.calm = true) (hi : DI X target iter gi)
  (hg : ∀ s H fp, DG (blkX X scope N' s H fp) target tg) (hc : ∀ s H fp, DTs (blkX X scope N' s H fp) ifs gc) (he : ∀ s H fp, DE (blkX X scope N' s H fp) elt ge)
  (hs : ∀ x, foldedSetIterable iter X.env x = pure x) : DE X (.ListComp elt [⟨target, iter, ifs, 0⟩] scope pos) (fun ρ => (gi ρ).bind fun ds => if ds.2.length <= lim /\ freeT cap tg = true then
   (compGo (fun d => (bindT tg d (TW.capt ρ cap)).bind fun q => (gc q).bind fun k => if k then ((ge q).bind TW.frz).map some else some none) ds.2).map fun l => (.fr, .lst l)
  else none) := by
 intro ρ x q
 obtain ⟨ds, eds, q⟩ := bnd q
 split at q
 case isFalse => cases q
 rename_i hh
 obtain ⟨l, el, rfl⟩ := mpd q
 exact pe_imp (pe_comp B hcalm (hi ρ ds eds) hg (fun s H fp => (hc s H fp).x) (fun s H fp => (he s H fp).x) hs) (tD_comp hh.1 hh.2 nd el)
end
end TW
end
section
namespace TW
open PySem PySem.Spec PyProof.Rows L2
section
variable {X : Cx}
theorem Rd.get {pins : List (Addr × Obj)} {σ : L2.St} {H : Hp} {s : Shared} {l : Addr} {xs : List V} (I : Inv X pins σ H s) (h : Rd H l (.lst xs)) :
  xs.length <= sizeLine /\ ∃ (its : List Value) (n : Nat), Vals xs its /\ xs.length = its.length /\ s.heap.get? l = some { cls := .type "list", data := .seq its.toArray n } := by
 obtain ⟨z, its, n, r, e⟩ := h.ok I.hok
 exact ⟨z, its, n, r, r.length, e⟩
theorem sqT {K : PySem.W.Frag} {G H : Hp} (gh : Same G H) {a : Addr} {xs : List V} (h : G a = some (.tup xs)) : SqT K H a xs := .inl (.inl (gh _ _ h))
theorem op_catL : OpR X (binaryOp .Add) (fun x y H Q => ∃ l b xs zs, x = .ref l /\ y = .ref b /\ Rd H l (.lst xs) /\ Rd H b (.lst zs) /\ xs.length + zs.length <= sizeLine /\ ∀ p, H p = none -> Q (.ref p) (upd H p (.lst (xs ++ zs)))) := by
 intro pins s σ H x y v u Q I rx ry h
 obtain ⟨l, b, xs, zs, rfl, rfl, hH, hB, hz, q⟩ := h
 cases rx
 cases ry
 obtain ⟨z, its, n, r, hl, e⟩ := Rd.get I hH
 obtain ⟨z2, its2, n2, r2, hl2, e2⟩ := Rd.get I hB
 refine PySem.P.add_list e e2 ?_ (by rw [List.size_toArray, List.size_toArray]; omega)
 have ea : its.toArray ++ its2.toArray = (its ++ its2).toArray := by simp
 rw [ea]
 exact ⟨.ref _, _, I.lnew (t' := s.toks) (r.append r2) (by rw [List.length_append]; omega), rfl, q _ I.fresh⟩
theorem op_catT0 : OpR X (binaryOp .Add) (fun x y H Q => ∃ a b ys, x = .ref a /\ y = .ref b /\ SqT X.K H a [] /\ SqT X.K H b ys /\ Q (.ref b) H) := by
 intro pins s σ H x y v u Q I rx ry h
 obtain ⟨a, b, ys, rfl, rfl, ha, hb, q⟩ := h
 cases rx
 cases ry
 obtain ⟨its, r1, p1, _⟩ := I.tuple ha
 obtain ⟨its2, r2, p2, _⟩ := I.tuple hb
 cases r1
 obtain ⟨⟨cls, dd, data, sl⟩, ho, hc, n, hd⟩ := id p1
 obtain ⟨⟨cls2, dd2, data2, sl2⟩, ho2, hc2, n2, hd2⟩ := id p2
 simp only at hc hd hc2 hd2
 subst hc hd hc2 hd2
 exact concat_meets ⟨_, ho, rfl⟩ ⟨_, ho2, rfl⟩ noFill_tuple_add seq_tuple_add PySem.F.slot_tuple_add PySem.F.entry_tuple_add (PySem.F.args_tuple_add_2 _ _)
  (tuple_addW0 a b _ its2.toArray n n2 dd dd2 sl sl2 rfl) ⟨ho, ho2, ⟨.ref b, H, I, rfl, q⟩⟩
theorem no_some {α : Type} {z : α} {P : Prop} (e : (none : Option α) = some z) : P := nomatch e
theorem if_some {α : Type} {c : Prop} [Decidable c] {x z : α} (e : (if c then some x else none) = some z) : c /\ x = z := by
 split at e
 ·exact ⟨‹c›, Option.some.inj e⟩
 ·cases e
theorem opD_ok (op : Operator) (hnm : op ≠ .Mult) (x y : D) (z : Kd × D) (e : opD op x y = some z) : OpR X (binaryOp op) (rD x y z) := by
 cases op <;> first | exact absurd rfl hnm | exact no_some e | skip
 case Add =>
  cases x <;> first | exact no_some e | skip
  all_goals (cases y <;> first | exact no_some e | skip)
  case int.int a b =>
   cases e
   refine TW.OpR.imp op_add ?_
   rintro v u H Q ⟨G, gh, rv, ru, k⟩
   exact ⟨a, b, rv, ru, k _ H G (.refl gh) rfl⟩
  case str.str a b =>
   obtain ⟨hl, rfl⟩ := if_some e
   refine TW.OpR.imp op_add_str ?_
   rintro v u H Q ⟨G, gh, rv, ru, k⟩
   exact ⟨a, b, rv, ru, Nat.le_trans hl lim_line, k _ H G (.refl gh) rfl⟩
  case tup.tup a b =>
   obtain ⟨hl, rfl⟩ := if_some e
   refine TW.OpR.imp (L2.OpR.or op_catT op_catT0) ?_
   rintro v u H Q ⟨G, gh, ⟨p, xs, rfl, hp, rx⟩, ⟨q, ys, rfl, hq, ry⟩, k⟩
   cases xs with
   | nil =>
    have : a = [] := by have := rx.length; cases a <;> simp_all
    subst this
    exact .inr ⟨p, q, ys, rfl, rfl, sqT gh hp, sqT gh hq, k _ H G (.refl gh) ⟨q, ys, rfl, hq, ry⟩⟩
   | cons x0 xr =>
    refine .inl ⟨p, q, x0 :: xr, ys, rfl, rfl, sqT gh hp, sqT gh hq, by simp, by rw [rx.length, ry.length]; exact Nat.le_trans hl lim_line, fun h0 => ?_, fun _ r hr => ?_⟩
    ·have : b = [] := by have := ry.length; subst h0; cases b <;> simp_all
     subst this
     rw [List.append_nil] at k
     exact k _ H G (.refl gh) ⟨p, _, rfl, hp, rx⟩
    ·have x2 := Ext.laid gh hr (.tup (x0 :: xr ++ ys))
     exact k _ _ _ x2 ⟨r, _, rfl, upd_same, Rps.mono x2.gg _ _ (rx.append ry)⟩
  case lst.lst a b =>
   obtain ⟨hl, rfl⟩ := if_some e
   refine TW.OpR.imp op_catL ?_
   rintro v u H Q ⟨G, gh, ⟨p, xs, rfl, hp, rx⟩, ⟨q, ys, rfl, hq, ry⟩, k⟩
   refine ⟨p, q, xs, ys, rfl, rfl, hp, hq, by rw [rx.length, ry.length]; exact Nat.le_trans hl lim_line, fun r hr => ?_⟩
   obtain ⟨x2, rr⟩ := fresh_ok gh hr (rx.append ry)
   exact k _ _ _ x2 rr
 case Sub =>
  cases x <;> first | exact no_some e | skip
  all_goals (cases y <;> first | exact no_some e | skip)
  case int.int a b =>
   cases e
   refine TW.OpR.imp op_sub ?_
   rintro v u H Q ⟨G, gh, rv, ru, k⟩
   exact ⟨a, b, rv, ru, k _ H G (.refl gh) rfl⟩
 case FloorDiv =>
  cases x <;> first | exact no_some e | skip
  all_goals (cases y <;> first | exact no_some e | skip)
  case int.int a b =>
   obtain ⟨hl, rfl⟩ := if_some e
   refine TW.OpR.imp op_fdiv ?_
   rintro v u H Q ⟨G, gh, rv, ru, k⟩
   exact ⟨a, b, rv, ru, ⟨hl.1, by omega⟩, k _ H G (.refl gh) rfl⟩
 case Mod =>
  cases x <;> first | exact no_some e | skip
  all_goals (cases y <;> first | exact no_some e | skip)
  case int.int a b =>
   obtain ⟨hl, rfl⟩ := if_some e
   refine TW.OpR.imp op_mod ?_
   rintro v u H Q ⟨G, gh, rv, ru, k⟩
   exact ⟨a, b, rv, ru, hl, k _ H G (.refl gh) rfl⟩
 case Pow =>
  cases x <;> first | exact no_some e | skip
  all_goals (cases y <;> first | exact no_some e | skip)
  case int.int a b =>
   obtain ⟨hl, rfl⟩ := if_some e
   refine TW.OpR.imp op_pow ?_
   rintro v u H Q ⟨G, gh, rv, ru, k⟩
   exact ⟨a, b, rv, ru, ⟨hl.1, by omega, by omega⟩, k _ H G (.refl gh) rfl⟩
mutual
noncomputable def toPy : D -> PyData
 | .non => .none
 | .bl b => .bool b
 | .int i => .int i
 | .str x => .str x
 | .tup ds => .tuple (toPys ds)
 | .lst ds => .list (toPys ds)
 | .scr _ _ _ => .none
 | .dct _ _ => .none
noncomputable def toPys : List D -> List PyData
 | [] => []
 | d :: ds => toPy d :: toPys ds
end
mutual
theorem eqv_of : ∀ a b : D, PyData.eqv (toPy a) (toPy b) = eqD a b
 | .non, b => by cases b <;> rfl
 | .bl _, b => by cases b <;> rfl
 | .int _, b => by cases b <;> rfl
 | .str x, b => by cases b <;> first | rfl | skip
 | .tup ds, b => by
  cases b <;> first | rfl | exact eqvs_of _ _
 | .lst ds, b => by
  cases b <;> first | rfl | exact eqvs_of _ _
 | .scr _ _ _, b => by cases b <;> rfl
 | .dct _ _, b => by cases b <;> rfl
theorem eqvs_of : ∀ a b : List D, PyData.eqvAll (toPys a) (toPys b) = eqDs a b
 | [], [] => rfl
 | [], _ :: _ => rfl
 | _ :: _, [] => rfl
 | a :: r, b :: q => by
  show (PyData.eqv (toPy a) (toPy b) && PyData.eqvAll (toPys r) (toPys q)) = (eqD a b && eqDs r q)
  rw [eqv_of a b, eqvs_of r q]
end
mutual
theorem lay_of : ∀ (n : Nat) (d : D), okD n d = true -> (toPy d).canLay0 = true /\ (toPy d).depth <= n
 | n, .non, _ => ⟨rfl, Nat.zero_le _⟩
 | n, .bl _, _ => ⟨rfl, Nat.zero_le _⟩
 | n, .int _, _ => ⟨rfl, Nat.zero_le _⟩
 | n, .str x, h => ⟨by simpa [okD, toPy, PyData.canLay0, PyData.strOk] using h, Nat.zero_le _⟩
 | n, .scr _ _ _, h => by simp [okD] at h
 | n, .dct _ _, h => by simp [okD] at h
 | 0, .tup _, h => by simp [okD] at h
 | 0, .lst _, h => by simp [okD] at h
 | n + 1, .tup ds, h => by
  obtain ⟨h1, h2⟩ := lays_of n ds (by simpa [okD] using h)
  exact ⟨by simpa [toPy, PyData.canLay0] using h1, by simpa [toPy, PyData.depth] using h2⟩
 | n + 1, .lst ds, h => by
  obtain ⟨h1, h2⟩ := lays_of n ds (by simpa [okD] using h)
  exact ⟨by simpa [toPy, PyData.canLay0] using h1, by simpa [toPy, PyData.depth] using h2⟩
theorem lays_of : ∀ (n : Nat) (ds : List D), okDs n ds = true -> PyData.canLayAll0 (toPys ds) = true /\ PyData.depthAll (toPys ds) <= n
 | n, [], _ => ⟨rfl, Nat.zero_le _⟩
 | n, d :: ds, h => by
  have h' : okD n d = true /\ okDs n ds = true := by simpa [okDs] using h
  obtain ⟨a1, a2⟩ := lay_of n d h'.1
  obtain ⟨b1, b2⟩ := lays_of n ds h'.2
  exact ⟨by simp [toPys, PyData.canLayAll0, a1, b1], by simp only [toPys, PyData.depthAll]; omega⟩
end
mutual
theorem reads_of {pins : List (Addr × Obj)} {σ : L2.St} {G H : Hp} {s : Shared} (I : Inv X pins σ H s) (gh : Same G H) : ∀ (n : Nat) (d : D) (v : V) (u : Value), okD n d = true -> Rp G d v -> RelV v u -> ∃ as, Reads s.heap u (toPy d) as
 | _, .non, v, u, _, r, q => by cases (show v = _ from r); cases q; exact ⟨_, .none⟩
 | _, .bl _, v, u, _, r, q => by cases (show v = _ from r); cases q; exact ⟨_, .bool _⟩
 | _, .int _, v, u, _, r, q => by cases (show v = _ from r); obtain ⟨t, rfl⟩ := q; exact ⟨_, .int _ _⟩
 | _, .str _, v, u, _, r, q => by cases (show v = _ from r); obtain ⟨t, rfl⟩ := q; exact ⟨_, .str _ _⟩
 | _, .scr _ _ _, v, u, h, _, _ => by simp [okD] at h
 | _, .dct _ _, v, u, h, _, _ => by simp [okD] at h
 | 0, .tup _, _, _, h, _, _ => by simp [okD] at h
 | 0, .lst _, _, _, h, _, _ => by simp [okD] at h
 | n + 1, .tup ds, v, u, h, r, q => by
  obtain ⟨a, xs, rfl, g, rs⟩ := r
  cases q
  obtain ⟨z, its, rv, o, ho, hc, m, hd⟩ := I.hok a _ (gh _ _ g)
  obtain ⟨as, ra⟩ := reads_all I gh n ds xs its (by simpa [okD] using h) rs rv
  exact ⟨as, .tuple ho hc hd (by simpa using ra)⟩
 | n + 1, .lst ds, v, u, h, r, q => by
  obtain ⟨a, xs, rfl, g, rs⟩ := r
  cases q
  obtain ⟨z, its, m, rv, _, ho⟩ := Rd.get I (Rd.same gh g)
  obtain ⟨as, ra⟩ := reads_all I gh n ds xs its (by simpa [okD] using h) rs rv
  exact ⟨_, .list ho rfl rfl (by simpa using ra)⟩
theorem reads_all {pins : List (Addr × Obj)} {σ : L2.St} {G H : Hp} {s : Shared} (I : Inv X pins σ H s) (gh : Same G H) : ∀ (n : Nat) (ds : List D) (xs : List V) (us : List Value), okDs n ds = true -> Rps G ds xs -> Vals xs us -> ∃ as, ReadsAll s.heap us (toPys ds) as
 | _, [], _, us, _, r, q => by cases (show _ = _ from r); cases q; exact ⟨_, .nil⟩
 | n, d :: ds, _, us, h, r, q => by
  have h' : okD n d = true /\ okDs n ds = true := by simpa [okDs] using h
  obtain ⟨x, xr, rfl, p, t⟩ := r
  cases q with
  | cons q1 q2 =>
   obtain ⟨a1, r1⟩ := reads_of I gh n d x _ h'.1 p q1
   obtain ⟨a2, r2⟩ := reads_all I gh n ds xr _ h'.2 t q2
   exact ⟨_, .cons r1 r2⟩
end
theorem reads_rb {pins : List (Addr × Obj)} {σ : L2.St} {G H : Hp} {s : Shared} (I : Inv X pins σ H s) (gh : Same G H) {n : Nat} {d : D} {v : V} {u : Value} (h : okD n d = true) (r : Rb G H d v) (q : RelV v u) : ∃ as, Reads s.heap u (toPy d) as := by
 cases d with
 | lst ds =>
  obtain ⟨a, xs, rfl, g, rs⟩ := r
  cases q
  obtain ⟨z, its, m, rv, _, ho⟩ := Rd.get I g
  cases n with
  | zero => simp [okD] at h
  | succ n =>
   obtain ⟨as, ra⟩ := reads_all I gh n ds xs its (by simpa [okD] using h) rs rv
   exact ⟨_, .list ho rfl rfl (by simpa using ra)⟩
 | non => exact reads_of I gh _ _ _ _ h r q
 | bl _ => exact reads_of I gh _ _ _ _ h r q
 | int _ => exact reads_of I gh _ _ _ _ h r q
 | str _ => exact reads_of I gh _ _ _ _ h r q
 | tup _ => exact reads_of I gh _ _ _ _ h r q
 | scr _ _ _ => exact reads_of I gh _ _ _ _ h r q
 | dct _ _ => simp [okD] at h
theorem shaped_of {d : D} (h : okD 40 d = true) : SeqAt.shaped (toPy d) = true := by
 obtain ⟨h1, h2⟩ := lay_of _ _ h
 unfold SeqAt.shaped
 rw [h1, decide_eq_true (by omega)]; rfl
theorem eqO_cases {a b : D} {k : Bool} (e : eqO a b = some k) : (∃ x y, a = .str x /\ b = .str y /\ k = decide (x = y)) \/ (okD 40 a = true /\ okD 40 b = true /\ k = eqD a b) := by
 have gen : (if okD 40 a && okD 40 b then some (eqD a b) else none) = some k -> (okD 40 a = true /\ okD 40 b = true /\ k = eqD a b) := fun e => by
  split at e
  ·rename_i h
   rw [Bool.and_eq_true] at h
   exact ⟨h.1, h.2, (Option.some.inj e).symm⟩
  ·cases e
 cases a <;> cases b <;> first | exact .inr (gen e) | skip
 cases e
 exact .inl ⟨_, _, rfl, rfl, rfl⟩
theorem eq_ok (hu : X.A.units + 64 < cLine) (x y : D) (k : Bool) (e : eqO x y = some k) : OpR X (compareOp .Eq) (rD x y (.fz, .bl k)) := by
 rcases eqO_cases e with ⟨a, b, rfl, rfl, rfl⟩ | ⟨ha, hb, rfl⟩
 ·refine TW.OpR.imp op_eq ?_
  rintro v u H Q ⟨G, gh, rv, ru, q⟩
  cases (show v = _ from rv)
  cases (show u = _ from ru)
  refine ⟨rfl, ?_⟩
  have : decide (V.str a = V.str b) = decide (a = b) := by by_cases h : a = b <;> simp [h]
  rw [this]
  exact q _ H G (.refl gh) rfl
 ·intro pins s σ H v u vv uu Q I r1 r2 h
  obtain ⟨G, gh, rv, ru, q⟩ := h
  obtain ⟨as, ra⟩ := reads_rb I gh ha rv r1
  obtain ⟨bs, rb⟩ := reads_rb I gh hb ru r2
  refine eq_dataH ra rb (shaped_of ha) (shaped_of hb) hu ?_
  rw [eqv_of]
  exact ⟨.bl _, H, I, rfl, q _ H G (.refl gh) rfl⟩
theorem ne_ok (hu : X.A.units + 64 < cLine) (x y : D) (k : Bool) (e : eqO x y = some k) : OpR X (compareOp .NotEq) (rD x y (.fz, .bl (!k))) := by
 rcases eqO_cases e with ⟨a, b, rfl, rfl, rfl⟩ | ⟨ha, hb, rfl⟩
 ·refine TW.OpR.imp op_ne ?_
  rintro v u H Q ⟨G, gh, rv, ru, q⟩
  cases (show v = _ from rv)
  cases (show u = _ from ru)
  refine ⟨rfl, ?_⟩
  have : decide (V.str a = V.str b) = decide (a = b) := by by_cases h : a = b <;> simp [h]
  rw [this]
  exact q _ H G (.refl gh) rfl
 ·intro pins s σ H v u vv uu Q I r1 r2 h
  obtain ⟨G, gh, rv, ru, q⟩ := h
  obtain ⟨as, ra⟩ := reads_rb I gh ha rv r1
  obtain ⟨bs, rb⟩ := reads_rb I gh hb ru r2
  refine ne_dataH ra rb (shaped_of ha) (shaped_of hb) hu ?_
  rw [eqv_of]
  exact ⟨.bl _, H, I, rfl, q _ H G (.refl gh) rfl⟩
theorem any_of (d : D) : ∀ ds : List D, ((toPys ds).any fun y => PyData.eqv y (toPy d)) = inD d ds
 | [] => rfl
 | e :: ds => by
  show (PyData.eqv (toPy e) (toPy d) || (toPys ds).any fun y => PyData.eqv y (toPy d)) = (eqD e d || inD d ds)
  rw [eqv_of, any_of d ds]
theorem in_ok (hu : X.A.units + 64 < cLine) (x y : D) (ds : List D) (ey : seqOf y = some ds) (h1 : okD 40 x = true) (h2 : okDs 40 ds = true) :
  OpR X (compareOp .In) (rD x y (.fz, .bl (inD x ds))) /\ OpR X (compareOp .NotIn) (rD x y (.fz, .bl (!inD x ds))) := by
 have hy : okD 41 y = true := by
  cases y <;> first | (cases ey; done) | (cases ey; simpa [okD] using h2)
 obtain ⟨c1, d1⟩ := lay_of _ _ h1
 obtain ⟨c2, d2⟩ := lays_of _ _ h2
 have room : X.A.units + 1 + min (PyData.depthAll (toPys ds)) (toPy x).depth < cLine := by omega
 constructor
 ·intro pins s σ H v u vv uu Q I r1 r2 h
  obtain ⟨G, gh, rv, ru, q⟩ := h
  obtain ⟨as, ra⟩ := reads_rb I gh h1 rv r1
  obtain ⟨bs, rb⟩ := reads_rb I gh hy ru r2
  have fin : EP X pins σ Q (.bool ((toPys ds).any fun y => PyData.eqv y (toPy x))) s := by
   rw [any_of]
   exact ⟨.bl _, H, I, rfl, q _ H G (.refl gh) rfl⟩
  cases y <;> first | (cases ey; done) | skip
  ·cases ey
   exact SeqAt.in_tuple_reads rb ra c2 c1 room fin
  ·cases ey
   exact SeqAt.in_list_reads rb ra c2 c1 room fin
 ·intro pins s σ H v u vv uu Q I r1 r2 h
  obtain ⟨G, gh, rv, ru, q⟩ := h
  obtain ⟨as, ra⟩ := reads_rb I gh h1 rv r1
  obtain ⟨bs, rb⟩ := reads_rb I gh hy ru r2
  have fin : EP X pins σ Q (.bool (!(toPys ds).any fun y => PyData.eqv y (toPy x))) s := by
   rw [any_of]
   exact ⟨.bl _, H, I, rfl, q _ H G (.refl gh) rfl⟩
  cases y <;> first | (cases ey; done) | skip
  ·cases ey
   exact SeqAt.notIn_tuple_reads rb ra c2 c1 room fin
  ·cases ey
   exact SeqAt.notIn_list_reads rb ra c2 c1 room fin
end
end TW
end
section
namespace TW
open PySem PySem.Spec PyProof.Rows L2
theorem lexLt_eq : ∀ a b : List Int, HT.lexLt a b = lexLt a b
 | [], [] => rfl
 | [], _ :: _ => rfl
 | _ :: _, [] => rfl
 | x :: xs, y :: ys => by
  rw [HT.lexLt_cons]
  show _ = if x = y then lexLt xs ys else decide (x < y)
  rw [lexLt_eq xs ys]
section
open PySem.SeqAt
open PySem.AutoSeq1 (wpAny_loadPart')
open PySem.MeetsSeq PySem.MeetsSeq2 PySem.MeetsSeq3
theorem rcGe_int (A : Around) (s : Shared) (a : Int) (t : Tok) (c : Int) (u : Tok) (prog : Program) (w : World) (E : Value -> Shared -> Prop) (Q : Value -> Shared -> Prop) (h : Q (.bool (decide (c <= a))) s) :
  wpAny (model prog w) A (richCompare .GtE (.int a t) (.int c u)) Q E s :=
 (PyProof.Rows.ge_int h : wpAny (model prog w) A (compareOp .GtE (.int a t) (.int c u)) Q E s)
theorem tuple_ge_ints (l b : Addr) (items items2 : Array Value) (n n2 : Nat) (dd dd2 : Option Addr) (sl sl2 : Array (Option Value)) (ns ms : List Int) (hi : IntsAre items.toList ns) (hj : IntsAre items2.toList ms) :
  Meets (Builtin.«tuple.__ge__» ⟨[.ref l, .ref b], []⟩)
   (fun _ R s => s.heap.get? l = some { cls := .type "tuple", dict := dd, data := .seq items n, slots := sl } /\ s.heap.get? b = some { cls := .type "tuple", dict := dd2, data := .seq items2 n2, slots := sl2 } /\
    R (.ok (.ret (.bool (!HT.lexLt ns ms)))) s) :=
 .of_wp fun prog w A R s h => by
  obtain ⟨hp, g, d, tk, os⟩ := s; obtain ⟨hl, hb, h⟩ := h
  have f2 := AutoSeq1.sub_tuple_tuple
  have z1 : items.size = ns.length := by rw [<- hi.length]; simp
  have z2 : items2.size = ms.length := by rw [<- hj.length]; simp
  wp_walk using wpAny_loadPart' hl, wpAny_loadPart' hb, wpAny_forIn_list _ (fun rest b s' => b.1 = none /\ s' = ⟨hp, g, d, tk, os⟩ /\ ∃ (vs ws : List Value) (ns' ms' : List Int), rest = vs.zip ws /\
   IntsAre vs ns' /\ IntsAre ws ms' /\ ns'.length + items2.size = ms'.length + items.size /\ R (.ok (.ret (.bool (!HT.lexLt ns' ms')))) ⟨hp, g, d, tk, os⟩) _
  case turn =>
   rintro ⟨y, x⟩ rest b s' ⟨hb', rfl, vs, ws, ns', ms', hz, hvi, hwi, hlen, hR⟩
   cases hvi with
   | nil => rw [List.zip_nil_left] at hz; cases hz
   | cons a t hvi' =>
    cases hwi with
    | nil => rw [List.zip_nil_right] at hz; cases hz
    | cons c u hwi' =>
     rw [List.zip_cons_cons] at hz
     injection hz with hyx hrest
     injection hyx with hy hx
     subst hy hx
     rw [HT.lexLt_cons] at hR
     simp only [List.length_cons] at hlen
     obtain ⟨e, he, hiff⟩ := HT.eqAt_int A.in1 ⟨hp, g, d, tk, os⟩ a t c u
     refine wpAny_bind (he prog w _ _ ?_)
     cases e with
     | true =>
      rw [if_pos (hiff.mp rfl)] at hR
      wp_walk
      exact ⟨rfl, rfl, _, _, _, _, hrest, hvi', hwi', by omega, hR⟩
     | false =>
      rw [if_neg (fun q => absurd (hiff.mpr q) Bool.false_ne_true)] at hR
      have e2 : (!decide (a < c)) = decide (c <= a) := by
       by_cases h : a < c
       ·rw [decide_eq_true h, decide_eq_false (by omega)]; rfl
       ·rw [decide_eq_false h, decide_eq_true (by omega)]; rfl
      rw [e2] at hR
      have hri := rcGe_int A.in1 ⟨hp, g, d, tk, os⟩ a t c u prog w
      wp_walk using hri
      exact ⟨_, rfl, by simpa using hR⟩
  case fin =>
   rintro ⟨b1, b2⟩ s' ⟨hb', rfl, vs, ws, ns', ms', hz, hvi, hwi, hlen, hR⟩
   simp only at hb'
   subst hb'
   have hv : (!HT.lexLt ns' ms') = decide (items.size ≥ items2.size) := by
    cases hvi with
    | nil =>
     cases hwi with
     | nil =>
      simp only [List.length_nil] at hlen
      rw [HT.lexLt_nil_nil]
      exact (decide_eq_true (by omega)).symm
     | cons c u hw =>
      simp only [List.length_nil, List.length_cons] at hlen
      rw [HT.lexLt_nil_cons]
      exact (decide_eq_false (by omega)).symm
    | cons a t hv =>
     cases hwi with
     | nil =>
      simp only [List.length_nil, List.length_cons] at hlen
      rw [HT.lexLt_cons_nil]
      exact (decide_eq_true (by omega)).symm
     | cons c u hw =>
      rw [List.zip_cons_cons] at hz
      cases hz
   rw [hv] at hR
   wp_walk
   exact ⟨_, rfl, by simpa [Builtin.Tuple.tupleCompareSizes] using hR⟩
  case h =>
   exact ⟨rfl, rfl, items.toList, items2.toList, ns, ms, rfl, hi, hj, by omega, h⟩
end
section
variable {prog : Program} {w : World} {A : Around} {E : Value -> Shared -> Prop} {s : Shared}
theorem ge_tupInts {l b : Addr} {items items2 : Array Value} {ns ms : List Int} {Q : Value -> Shared -> Prop} (hl : IsTup s.heap l items) (hb : IsTup s.heap b items2) (hi : IntsAre items.toList ns) (hj : IntsAre items2.toList ms)
  (hu : A.units < cLine) (h : Q (.bool (!HT.lexLt ns ms)) s) : wpAny (model prog w) A (compareOp .GtE (.ref l) (.ref b)) Q E s := by
 obtain ⟨⟨cls, dd, data, sl⟩, ho, hc, n, hd⟩ := id hl
 obtain ⟨⟨cls2, dd2, data2, sl2⟩, ho2, hc2, n2, hd2⟩ := id hb
 simp only at hc hd hc2 hd2
 subst hc hd hc2 hd2
 exact richCompare_meets_room (op := .GtE) ⟨_, ho, rfl⟩ ⟨_, ho2, rfl⟩ PySem.F.slot_tuple_ge PySem.F.entry_tuple_ge (PySem.F.args_tuple_ge_2 _ _) (tuple_ge_ints l b items items2 n n2 dd dd2 sl sl2 ns ms hi hj)
  ⟨ho, ho2, show Value.bool (!HT.lexLt ns ms) ≠ Value.notImplemented /\ Q (.bool (!HT.lexLt ns ms)) s from ⟨(fun x => nomatch x), h⟩⟩ hu
end
section
variable {X : Cx}
theorem op_geT (hu : X.A.units < cLine) : OpR X (compareOp .GtE) (fun x y H Q => ∃ a b ns ms, x = .ref a /\ y = .ref b /\ SqT X.K H a (ns.map V.int) /\ SqT X.K H b (ms.map V.int) /\ Q (.bl (!HT.lexLt ns ms)) H) := by
 intro pins s σ H x y v u Q I rx ry h
 obtain ⟨a, b, ns, ms, rfl, rfl, ha, hb, q⟩ := h
 cases rx
 cases ry
 obtain ⟨its, r1, p1, _⟩ := I.tuple ha
 obtain ⟨its2, r2, p2, _⟩ := I.tuple hb
 have i1 : IntsAre its.toArray.toList ns := intsAre_of r1
 have i2 : IntsAre its2.toArray.toList ms := intsAre_of r2
 exact ge_tupInts p1 p2 i1 i2 hu ⟨.bl (!HT.lexLt ns ms), H, I, rfl, q⟩
theorem lt_ok (hu : X.A.units < cLine) (x y : D) (k : Bool) (e : ltD x y = some k) : OpR X (compareOp .Lt) (rD x y (.fz, .bl k)) := by
 cases x <;> cases y <;> first | (cases e; done) | skip
 case int.int a b =>
  cases e
  refine TW.OpR.imp op_lt ?_
  rintro v u H Q ⟨G, gh, rv, ru, q⟩
  exact ⟨a, b, rv, ru, q _ H G (.refl gh) rfl⟩
 case tup.tup a b =>
  obtain ⟨ns, e1, e⟩ := bnd e
  obtain ⟨ms, e2, rfl⟩ := mpd e
  have := intsOf_eq e1
  subst this
  have := intsOf_eq e2
  subst this
  refine TW.OpR.imp (op_ltT hu) ?_
  rintro v u H Q ⟨G, gh, ⟨p, xs, rfl, hp, rx⟩, ⟨q, ys, rfl, hq, ry⟩, c⟩
  have e1 := rx.ints
  have e2 := ry.ints
  subst e1 e2
  refine ⟨p, q, ns, ms, rfl, rfl, sqT gh hp, sqT gh hq, ?_⟩
  rw [lexLt_eq]
  exact c _ H G (.refl gh) rfl
theorem ge_ok (hu : X.A.units < cLine) (x y : D) (k : Bool) (e : geD x y = some k) : OpR X (compareOp .GtE) (rD x y (.fz, .bl k)) := by
 cases x <;> cases y <;> first | (cases e; done) | skip
 case int.int a b =>
  cases e
  refine TW.OpR.imp op_ge ?_
  rintro v u H Q ⟨G, gh, rv, ru, q⟩
  exact ⟨a, b, rv, ru, q _ H G (.refl gh) rfl⟩
 case tup.tup a b =>
  obtain ⟨ns, e1, e⟩ := bnd e
  obtain ⟨ms, e2, rfl⟩ := mpd e
  have := intsOf_eq e1
  subst this
  have := intsOf_eq e2
  subst this
  refine TW.OpR.imp (op_geT hu) ?_
  rintro v u H Q ⟨G, gh, ⟨p, xs, rfl, hp, rx⟩, ⟨q, ys, rfl, hq, ry⟩, c⟩
  have e1 := rx.ints
  have e2 := ry.ints
  subst e1 e2
  refine ⟨p, q, ns, ms, rfl, rfl, sqT gh hp, sqT gh hq, ?_⟩
  rw [lexLt_eq]
  exact c _ H G (.refl gh) rfl
theorem isN_ok (x : D) : OpR X (compareOp .Is) (rD x .non (.fz, .bl (isNon x))) /\ OpR X (compareOp .IsNot) (rD x .non (.fz, .bl (!isNon x))) := by
 have key : ∀ (G H : Hp) (v : V), Rb G H x v -> decide (v = .non) = isNon x := fun G H v r => by
  cases x with
  | non => cases (show v = _ from r); rfl
  | bl b => cases (show v = _ from r); rfl
  | int b => cases (show v = _ from r); rfl
  | str b => cases (show v = _ from r); rfl
  | tup b => obtain ⟨a, xs, rfl, _⟩ := r; rfl
  | lst b => obtain ⟨a, xs, rfl, _⟩ := r; rfl
  | scr _ _ _ => obtain ⟨rfl, _⟩ := r; rfl
  | dct _ _ => obtain ⟨a, xs, rfl, _⟩ := r; rfl
 constructor
 ·refine TW.OpR.imp op_isN ?_
  rintro v u H Q ⟨G, gh, rv, ru, q⟩
  refine ⟨ru, ?_⟩
  rw [key G H v rv]
  exact q _ H G (.refl gh) rfl
 ·refine TW.OpR.imp op_notN ?_
  rintro v u H Q ⟨G, gh, rv, ru, q⟩
  refine ⟨ru, ?_⟩
  rw [key G H v rv]
  exact q _ H G (.refl gh) rfl
theorem val_zip {G : Hp} {i : Int} : ∀ {ks : List Int} {ds : List D} {xs : List V}, ks.length = ds.length -> Rps G ds xs ->
  (valV (zipK ks xs) (Sum.inl i : Key)).isSome = decide (i ∈ ks) /\ ∀ d, atK ks ds i = some d -> ∃ v, valV (zipK ks xs) (Sum.inl i : Key) = some v /\ Rp G d v
 | [], _, xs, _, _ => ⟨by simp [zipK, valV], fun d h => by simp [atK] at h⟩
 | k :: ks, [], _, h, _ => by simp at h
 | k :: ks, d :: ds, _, h, r => by
  obtain ⟨x, q, rfl, p, t⟩ := r
  obtain ⟨h1, h2⟩ := val_zip (i := i) (by simpa using h) t
  have e : zipK (k :: ks) (x :: q) = (Sum.inl k, x) :: zipK ks q := rfl
  rw [e]
  by_cases hk : k = i
  ·subst hk
   rw [valV_pos rfl]
   refine ⟨by simp, fun d' hd => ?_⟩
   simp only [atK, if_true] at hd
   cases hd
   exact ⟨x, rfl, p⟩
  ·rw [valV_neg (by simpa using hk), h1]
   refine ⟨by simp; exact fun z => absurd z.symm hk, fun d' hd => ?_⟩
   simp only [atK, hk, if_false] at hd
   exact h2 d' hd
theorem din_ok (hu : X.A.units + 64 < cLine) (i : Int) (ks : List Int) (ds : List D) :
  OpR X (compareOp .In) (rD (.int i) (.dct ks ds) (.fz, .bl (decide (i ∈ ks)))) /\ OpR X (compareOp .NotIn) (rD (.int i) (.dct ks ds) (.fz, .bl (!decide (i ∈ ks)))) := by
 constructor
 ·intro pins s σ H v u vv uu Q I r1 r2 h
  obtain ⟨G, gh, rv, ⟨a, xs, rfl, hl, hd, rs⟩, q⟩ := h
  cases (show v = .int i from rv)
  cases r2
  refine d_in (by omega) I (.inl ⟨_, .inl i, hd, rfl, rfl⟩) r1 fun s' I' => ?_
  rw [(val_zip hl rs).1]
  exact ⟨.bl _, H, I', rfl, q _ H G (.refl gh) rfl⟩
 ·intro pins s σ H v u vv uu Q I r1 r2 h
  obtain ⟨G, gh, rv, ⟨a, xs, rfl, hl, hd, rs⟩, q⟩ := h
  cases (show v = .int i from rv)
  cases r2
  refine d_notIn (by omega) I (.inl ⟨_, .inl i, hd, rfl, rfl⟩) r1 fun s' I' => ?_
  rw [(val_zip hl rs).1]
  exact ⟨.bl _, H, I', rfl, q _ H G (.refl gh) rfl⟩
theorem in_split {x y : D} {k : Bool} (e : cmpD .In x y = some k) : (∃ i ks ds, x = .int i /\ y = .dct ks ds /\ k = decide (i ∈ ks)) \/ ∃ ds, seqOf y = some ds /\ okD 40 x = true /\ okDs 40 ds = true /\ k = inD x ds := by
 have gen : ((seqOf y).bind fun ds => if okD 40 x && okDs 40 ds then some (inD x ds) else none) = some k -> ∃ ds, seqOf y = some ds /\ okD 40 x = true /\ okDs 40 ds = true /\ k = inD x ds := fun e => by
  obtain ⟨ds, ey, e⟩ := bnd e
  obtain ⟨h, rfl⟩ := if_some e
  have h := Bool.and_eq_true_iff.mp h
  exact ⟨ds, ey, h.1, h.2, rfl⟩
 cases y <;> first | exact .inr (gen e) | skip
 cases x <;> first | exact no_some e | skip
 cases e
 exact .inl ⟨_, _, _, rfl, rfl, rfl⟩
theorem notin_split {x y : D} {k : Bool} (e : cmpD .NotIn x y = some k) : (∃ i ks ds, x = .int i /\ y = .dct ks ds /\ k = !decide (i ∈ ks)) \/ ∃ ds, seqOf y = some ds /\ okD 40 x = true /\ okDs 40 ds = true /\ k = !inD x ds := by
 have gen : ((seqOf y).bind fun ds => if okD 40 x && okDs 40 ds then some (!inD x ds) else none) = some k -> ∃ ds, seqOf y = some ds /\ okD 40 x = true /\ okDs 40 ds = true /\ k = !inD x ds := fun e => by
  obtain ⟨ds, ey, e⟩ := bnd e
  obtain ⟨h, rfl⟩ := if_some e
  have h := Bool.and_eq_true_iff.mp h
  exact ⟨ds, ey, h.1, h.2, rfl⟩
 cases y <;> first | exact .inr (gen e) | skip
 cases x <;> first | exact no_some e | skip
 cases e
 exact .inl ⟨_, _, _, rfl, rfl, rfl⟩
theorem cmpD_ok (hu : X.A.units + 64 < cLine) (op : CmpOp) (x y : D) (k : Bool) (e : cmpD op x y = some k) : OpR X (compareOp op) (rD x y (.fz, .bl k)) := by
 have hu' : X.A.units < cLine := by omega
 cases op with
 | Eq => exact eq_ok hu x y k e
 | NotEq => obtain ⟨j, ej, rfl⟩ := mpd e; exact ne_ok hu x y j ej
 | Lt => exact lt_ok hu' x y k e
 | GtE => exact ge_ok hu' x y k e
 | LtE =>
  cases x <;> first | exact no_some e | skip
  cases y <;> first | exact no_some e | skip
  cases e
  refine TW.OpR.imp op_le ?_
  rintro v u H Q ⟨G, gh, rv, ru, q⟩
  exact ⟨_, _, rv, ru, q _ H G (.refl gh) rfl⟩
 | Gt =>
  cases x <;> first | exact no_some e | skip
  cases y <;> first | exact no_some e | skip
  cases e
  refine TW.OpR.imp op_gt ?_
  rintro v u H Q ⟨G, gh, rv, ru, q⟩
  exact ⟨_, _, rv, ru, q _ H G (.refl gh) rfl⟩
 | In =>
  rcases in_split e with ⟨i, ks, ds, rfl, rfl, rfl⟩ | ⟨ds, ey, h1, h2, rfl⟩
  ·exact (din_ok hu i ks ds).1
  ·exact (in_ok hu x y ds ey h1 h2).1
 | NotIn =>
  rcases notin_split e with ⟨i, ks, ds, rfl, rfl, rfl⟩ | ⟨ds, ey, h1, h2, rfl⟩
  ·exact (din_ok hu i ks ds).2
  ·exact (in_ok hu x y ds ey h1 h2).2
 | Is =>
  cases y <;> first | (cases x <;> cases e; done) | skip
  cases e
  exact (isN_ok x).1
 | IsNot =>
  cases y <;> first | (cases x <;> cases e; done) | skip
  cases e
  exact (isN_ok x).2
end
end TW
end
section
namespace TW
open PySem PySem.Spec PyProof.Rows L2
theorem noFill_tuple_mul : fillsNumberSlot (.type "tuple") "mul" = pure false :=
 PySem.fillsNumberSlot_seq (id := "tuple.__mul__") (r := some (.builtin "tuple.__rmul__")) F.slot_tuple_mul.lookup (by decide +kernel) F.slot_tuple_rmul.lookup (by decide +kernel)
theorem repeat_tuple : seqRepeat? (.type "tuple") = pure (some (.builtin "tuple.__mul__")) := by
 unfold seqRepeat?
 rw [PySem.seqSlot_of (T := "tuple") (name := "__mul__") (id := "tuple.__mul__") F.slot_tuple_mul.lookup (by decide +kernel), PySem.seqSlot_of (T := "tuple") (name := "__rmul__") (id := "tuple.__rmul__") F.slot_tuple_rmul.lookup (by decide +kernel)]
 rfl
theorem int_rmul_tuple (a : Int) (t : Tok) (l : Addr) (items : Array Value) (n : Nat) (dd : Option Addr) (sl : Array (Option Value)) :
  Meets (Builtin.«int.__rmul__» ⟨[.int a t, .ref l], []⟩) (fun _ R s => s.heap.get? l = some { cls := .type "tuple", dict := dd, data := .seq items n, slots := sl } /\ R (.ok (.ret Value.notImplemented)) s) :=
 .of_wp fun prog w A R s h => by obtain ⟨hp, g, d, tk, os⟩ := s; obtain ⟨hl, h⟩ := h; wp_walk; exact ⟨_, rfl, h⟩
theorem tuple_mul_at (l : Addr) (items : Array Value) (n : Nat) (x : Int) (u : Tok) (dd : Option Addr) (sl : Array (Option Value)) (h2 : 2 <= x) (hx : x <= 65536) (he : ¬ items.isEmpty = true) (hz : items.size * x.toNat <= 65536) :
  Meets (Builtin.«tuple.__mul__» ⟨[.ref l, .int x u], []⟩) (fun _ R s => s.heap.get? l = some { cls := .type "tuple", dict := dd, data := .seq items n, slots := sl } /\
   R (.ok (.ret (Value.ref s.heap.objs.size))) { s with heap := s.heap.push { cls := Value.type "tuple", data := Data.seq (List.foldl (fun x1 x2 => x1 ++ x2) #[] (List.replicate x.toNat items)) } }) :=
 .of_wp fun prog w A R s h => by
  obtain ⟨hp, g, d, tk, os⟩ := s
  obtain ⟨hl, h⟩ := h
  have c1 : (decide (x < -(2 ^ 63)) || decide (x ≥ 2 ^ 63)) = false := by
   rw [decide_eq_false (by omega), decide_eq_false (by omega)]; rfl
  have c2 : (items.isEmpty || x == 1) = false := by
   have : (x == 1) = false := by rw [beq_eq_false_iff_ne]; omega
   rw [this, Bool.or_false]; simpa using he
  have c3 : (decide (x <= 0) || items.isEmpty) = false := by
   rw [decide_eq_false (by omega)]; simpa using he
  have e : ((items.size * x.toNat : Nat) : Int) = (items.size : Int) * x := by
   rw [Int.natCast_mul, Int.toNat_of_nonneg (by omega)]
  have c4 : ¬ ((items.size : Int) * x > (2 ^ 63 - 1) / 8) := by
   rw [<- e]; omega
  have c5 : Builtin.Tuple.tupleTooMany ((items.size : Int) * x) = false := by
   unfold Builtin.Tuple.tupleTooMany
   refine decide_eq_false ?_
   rw [<- e, sizeLine_eq]; omega
  have nf : ∀ {b : Bool}, b = false -> decide (b = true) = false := fun h => by rw [h]; rfl
  have hsz : (List.foldl (fun x1 x2 => x1 ++ x2) #[] (List.replicate x.toNat items)).size <= sizeLine := by
   have f : ∀ (k : Nat) (acc : Array Value), (List.foldl (fun x1 x2 => x1 ++ x2) acc (List.replicate k items)).size = acc.size + k * items.size := by
    intro k
    induction k with
    | zero => intro acc; simp
    | succ k ih => intro acc; rw [List.replicate_succ, List.foldl_cons, ih, Array.size_append, Nat.succ_mul]; omega
   rw [f, Nat.mul_comm, sizeLine_eq]
   simp only [List.size_toArray, List.length_nil]
   omega
  wp_walk
  refine wpAny_ite_false (nf c1) ?_
  wp_walk using AutoSeq1.wpAny_loadPart' hl
  refine wpAny_ite_false (nf c2) ?_
  wp_walk
  refine wpAny_ite_false (nf c3) ?_
  wp_walk
  refine wpAny_ite_false (decide_eq_false c4) ?_
  wp_walk
  exact ⟨_, rfl, h⟩
section
variable {X : Cx}
theorem op_repT : OpR X (binaryOp .Mult) (fun x y H Q => ∃ l k xs, x = .ref l /\ y = .int k /\ SqT X.K H l xs /\ 2 <= k /\ k <= 65536 /\ xs ≠ [] /\ xs.length * k.toNat <= 65536 /\ ∀ p, H p = none -> Q (.ref p) (upd H p (.tup (List.replicate k.toNat xs).flatten))) := by
 intro pins s σ H x y v u Q I rx ry h
 obtain ⟨l, k, xs, rfl, rfl, hH, h1, h2, hne, hz, q⟩ := h
 cases rx
 obtain ⟨t, rfl⟩ := ry
 obtain ⟨its, r, p1, z⟩ := I.tuple hH
 have hl := r.length
 obtain ⟨⟨cls, dd, data, sl⟩, ho, hc, n, hd⟩ := id p1
 simp only at hc hd
 subst hc hd
 have hnew : List.foldl (fun x1 x2 => x1 ++ x2) #[] (List.replicate k.toNat its.toArray) = (List.replicate k.toNat its).flatten.toArray := by
  have := foldl_rep its k.toNat []
  rw [List.nil_append] at this
  exact this
 refine wpAny_binaryOp_repeat_ref (T := "tuple") (U := "int") (by decide) ⟨_, ho, rfl⟩ (fun s' => typeIs_int s' k t) noFill_tuple_mul F.fills_int_mul F.slot_int_rmul repeat_tuple F.slot_int_index.lookup
  (call_meets F.slot_int_rmul (typeIs_int s k t) F.entry_int_rmul (F.args_int_rmul_2 _ _) (int_rmul_tuple k t l its.toArray n dd sl)
   ⟨ho, rfl, ⟨_, ho, rfl⟩, call_meets F.slot_tuple_mul ⟨_, ho, rfl⟩ F.entry_tuple_mul (F.args_tuple_mul_2 _ _) (tuple_mul_at l its.toArray n k t dd sl h1 h2 (by simpa using fun z => hne (by subst z; cases r; rfl)) (by rw [List.size_toArray, <- hl]; exact hz)) ⟨ho, ?_⟩⟩)
 rw [hnew]
 have hlen : ((List.replicate k.toNat xs).flatten).length <= sizeLine := by rw [len_rep, Nat.mul_comm, sizeLine_eq]; omega
 exact ⟨.ref _, _, I.laid (t' := s.toks) (o := .tup (List.replicate k.toNat xs).flatten) (fun b ob q => Heap.get?_push_of_some _ q) (Nat.le_refl _) ⟨hlen, _, r.rep k.toNat, IsTup.new _ _⟩, rfl, q _ I.fresh⟩
theorem op_repL : OpR X (binaryOp .Mult) (fun x y H Q => ∃ l k xs, x = .ref l /\ y = .int k /\ Rd H l (.lst xs) /\ 0 < k /\ k <= 65536 /\ xs.length * k.toNat <= sizeLine /\
 ∀ p, H p = none -> Q (.ref p) (upd H p (.lst (List.replicate k.toNat xs).flatten))) := by
 intro pins s σ H x y v u Q I rx ry h
 obtain ⟨l, k, xs, rfl, rfl, hH, h1, h2, hz, q⟩ := h
 cases rx
 obtain ⟨t, rfl⟩ := ry
 obtain ⟨z, its, n, r, hl, e⟩ := Rd.get I hH
 have hlen : its.toArray.size * k.toNat <= sizeLine := by rw [List.size_toArray, <- hl]; exact hz
 have hcap : ¬ its.toArray.size * k.toNat > (2 ^ 63 - 1) / 8 := by
  have : (sizeLine : Nat) <= (2 ^ 63 - 1) / 8 := by decide
  omega
 have hfit : ¬ (!Builtin.List.listFitsIndex k) = true := by
  rw [fitsIndex_both (by omega) (by omega)]
  exact Bool.false_ne_true
 have hlong : ¬ Builtin.List.listTooLong (its.toArray.size * k.toNat) = true := by
  rw [notLongL hlen]
  exact Bool.false_ne_true
 have hnew : List.foldl (fun x1 x2 => x1 ++ x2) #[] (List.replicate (if its.toArray.isEmpty = true then 0 else k.toNat) its.toArray) = (List.replicate k.toNat its).flatten.toArray := by
  have f0 : ∀ m : Nat, List.foldl (fun x1 x2 => x1 ++ x2) #[] (List.replicate m its.toArray) = (List.replicate m its).flatten.toArray := fun m => by
   have := foldl_rep its m []
   rw [List.nil_append] at this
   exact this
  rw [f0]
  cases its with
  | nil => simp
  | cons a r' => rw [if_neg (by simp)]
 refine wpAny_binaryOp_repeat_ref (T := "list") (U := "int") (by decide) ⟨_, e, rfl⟩ (fun s' => typeIs_int s' k t) noFill_list_mul F.fills_int_mul F.slot_int_rmul repeat_list F.slot_int_index.lookup
  (call_meets F.slot_int_rmul (typeIs_int s k t) F.entry_int_rmul (F.args_int_rmul_2 _ _) (int___rmul___int_list k t l its.toArray n)
   ⟨e, rfl, ⟨_, e, rfl⟩, call_meets F.slot_list_mul ⟨_, e, rfl⟩ F.entry_list_mul (F.args_list_mul_2 _ _) (AutoListH.list___mul___list_int_3 l its.toArray n k t hfit hcap hlong) ⟨e, ?_⟩⟩)
 rw [hnew]
 exact ⟨.ref _, _, I.lnew (t' := s.toks) (r.rep k.toNat) (by rw [len_rep, Nat.mul_comm]; exact hz), rfl, q _ I.fresh⟩
theorem mul_ok (x y : D) (z : Kd × D) (e : opD .Mult x y = some z) : OpR X (binaryOp .Mult) (rD x y z) := by
 cases x <;> first | exact no_some e | skip
 all_goals (cases y <;> first | exact no_some e | skip)
 case int.int a b =>
  obtain ⟨hl, rfl⟩ := if_some e
  refine TW.OpR.imp op_mul ?_
  rintro v u H Q ⟨G, gh, rv, ru, k⟩
  exact ⟨a, b, rv, ru, (by rcases hl with h | h; exact .inl ⟨by omega, by omega⟩; exact .inr ⟨by omega, by omega⟩ : CMul a b), k _ H G (.refl gh) rfl⟩
 case tup.int a b =>
  obtain ⟨hl, rfl⟩ := if_some e
  refine TW.OpR.imp op_repT ?_
  rintro v u H Q ⟨G, gh, ⟨p, xs, rfl, hp, rx⟩, ru, k⟩
  have hlim : lim = 65536 := rfl
  refine ⟨p, b, xs, rfl, ru, sqT gh hp, hl.1, by omega, fun z => ?_, by rw [rx.length]; omega, fun r hr => ?_⟩
  ·have := rx.length
   subst z
   simp at this
   omega
  ·have x2 := Ext.laid gh hr (.tup (List.replicate b.toNat xs).flatten)
   exact k _ _ _ x2 ⟨r, _, rfl, upd_same, Rps.mono x2.gg _ _ (rx.rep _)⟩
 case lst.int a b =>
  obtain ⟨hl, rfl⟩ := if_some e
  refine TW.OpR.imp op_repL ?_
  rintro v u H Q ⟨G, gh, ⟨p, xs, rfl, hp, rx⟩, ru, k⟩
  have hlim : lim = 65536 := rfl
  refine ⟨p, b, xs, rfl, ru, hp, hl.1, by omega, by rw [rx.length]; exact Nat.le_trans hl.2.1 lim_line, fun r hr => ?_⟩
  obtain ⟨x2, rr⟩ := fresh_ok gh hr (rx.rep b.toNat)
  exact k _ _ _ x2 rr
theorem op_ok (op : Operator) (x y : D) (z : Kd × D) (e : opD op x y = some z) : OpR X (binaryOp op) (rD x y z) := by
 by_cases h : op = .Mult
 ·subst h; exact mul_ok x y z e
 ·exact opD_ok op h x y z e
theorem atI_map {G : Hp} {ds : List D} {xs : List V} {i : Int} {d : D} (r : Rps G ds xs) (e : TW.atI ds i = some d) : ∃ v, L2.atI xs i = some v /\ Rp G d v := by
 unfold TW.atI at e
 obtain ⟨j, ej, e⟩ := bnd e
 obtain ⟨v, ev, rv⟩ := r.get e
 refine ⟨v, ?_, rv⟩
 unfold L2.atI
 have : L2.ixN xs.length i = some j := by rw [r.length]; exact ej
 rw [this]
 exact ev
theorem de_ix {a b : Expr} {ga gb : En -> Option (Kd × D)} {pos : Pos} (hs : PlainIx b) (ha : DE X a ga) (hb : DE X b gb) :
  DE X (.Subscript a b pos) (fun ρ => (ga ρ).bind fun x => (gb ρ).bind fun y => match y.2 with
   | .int i => (seqOf x.2).bind fun ds => (TW.atI ds i).map fun d => (.fz, d)
   | _ => none) := by
 intro ρ z e
 obtain ⟨⟨kx, dx⟩, ex, e⟩ := bnd e
 obtain ⟨⟨ky, dy⟩, ey, e⟩ := bnd e
 obtain ⟨i, rfl⟩ : ∃ i, dy = .int i := by cases dy <;> first | cases e | exact ⟨_, rfl⟩
 obtain ⟨ds, es, e⟩ := bnd e
 obtain ⟨d, ed, rfl⟩ := mpd e
 refine pe_imp (pe_ix (TW.IxR.imp (L2.IxR.or ix_list ix_tup) (r' := rD dx (.int i) (.fz, d)) ?_) (ha ρ _ ex) (hb ρ _ ey) hs) tD_op
 rintro v u H Q ⟨G, gh, rv, ru, k⟩
 cases (show u = _ from ru)
 cases dx <;> first | (cases es; done) | skip
 ·cases es
  obtain ⟨p, xs, rfl, hp, rx⟩ := rv
  obtain ⟨w, ew, rw'⟩ := atI_map rx ed
  exact .inr ⟨p, xs, i, w, rfl, rfl, sqT gh hp, ew, k _ H G (.refl gh) rw'⟩
 ·cases es
  obtain ⟨p, xs, rfl, hp, rx⟩ := rv
  obtain ⟨w, ew, rw'⟩ := atI_map rx ed
  exact .inl ⟨p, xs, i, w, rfl, rfl, .inl hp, ew, k _ H G (.refl gh) rw'⟩
theorem de_ixk {a b : Expr} {ga gb : En -> Option (Kd × D)} {pos : Pos} (hu : X.A.units + 64 < cLine) (hs : PlainIx b) (hn : NoSl b) (ha : DE X a ga) (hb : DE X b gb) :
  DE X (.Subscript a b pos) (fun ρ => (ga ρ).bind fun x => (gb ρ).bind fun y => match y.2 with
   | .int i => (match x.2 with
    | .dct ks ds => (atK ks ds i).map fun d => (.fz, d)
    | z => (seqOf z).bind fun ds => (TW.atI ds i).map fun d => (.fz, d))
   | _ => none) := by
 intro ρ z e
 have e0 := e
 obtain ⟨⟨kx, dx⟩, ex, e⟩ := bnd e
 obtain ⟨⟨ky, dy⟩, ey, e⟩ := bnd e
 obtain ⟨i, rfl⟩ : ∃ i, dy = .int i := by cases dy <;> first | cases e | exact ⟨_, rfl⟩
 have old : ((seqOf dx).bind fun ds => (TW.atI ds i).map fun d => ((.fz, d) : Kd × D)) = some z -> PE X (.Subscript a b pos) (tD ρ z) := fun e => by
  refine de_ix hs ha hb ρ z ?_
  simp only [ex, ey, Option.bind_some]
  exact e
 cases dx <;> first | exact old e | skip
 rename_i ks ds
 obtain ⟨d, ed, rfl⟩ := mpd e
 refine pe_imp (pe_dget (by omega) (ha ρ _ ex) (hb ρ _ ey) hn) ?_
 rintro σ H Q ⟨G, s, k⟩
 refine ⟨G, s, fun v H1 G1 x1 r1 => ⟨G1, s.ext x1, fun u H2 G2 x2 r2 => ?_⟩⟩
 obtain ⟨l, xs, rfl, hl, h1, rs⟩ := r1.rb x1.gh
 cases (show u = .int i from r2.rb x2.gh)
 obtain ⟨w, ew, rw'⟩ := (val_zip (i := i) hl rs).2 d ed
 exact ⟨l, w, rfl, .inl ⟨_, .inl i, Rd.same x2.hh h1, rfl, ew.symm⟩, k w H2 G2 (x1.trans x2) (Rp.mono x2.gg _ _ rw')⟩
end
end TW
end
section
namespace TW
open PySem PySem.Spec PyProof.Rows L2
theorem sIx_eq (n d : Nat) (o : Option Int) : TW.sIx n d o = HT.sIx n d o := by
 cases o with
 | none => rfl
 | some v =>
  show (if v < 0 then (max (v + (n : Int)) 0).toNat else (min v (n : Int)).toNat) = (if v < 0 then (v + (n : Int)).toNat else min v.toNat n)
  by_cases h : v < 0
  ·rw [if_pos h, if_pos h]; omega
  ·rw [if_neg h, if_neg h]; omega
section
variable {prog : Program} {w : World} {A : Around} {E : Value -> Shared -> Prop} {s : Shared}
theorem getItem_tuple_whole {t sl : Addr} {items : Array Value} {vl vu : Value} {lo hi : Option Int} {Q : Value -> Shared -> Prop} (ht : IsTup s.heap t items) (hs : s.heap.IsSliceOf sl vl vu .none) (pl : IsPart vl lo) (pu : IsPart vu hi)
  (hw : HT.sIx items.size 0 lo = 0 /\ HT.sIx items.size items.size hi = items.size) (h : Q (.ref t) s) : wpAny (model prog w) A (getItem (.ref t) (.ref sl)) Q E s := by
 obtain ⟨os, hos, hcs, hds⟩ := id hs
 have hTs : s.TypeIs (.ref sl) "slice" := ⟨os, hos, hcs⟩
 unfold getItem
 try with_reducible refine wpAny_holding ?_
 first | refine wpAny_bind (wpAny_pure ?_) | skip
 refine wpAny_bind (wpAny_sequenceKey ht.typeIs (by decide) ?_)
 refine wpAny_bind (wpAny_callSpecial?_slot (name := Str.ofString "__getitem__") ht.typeIs PyProof.Rows.slot_tuple_getitem
  (wpAny_call_entry PyProof.Rows.slot_tuple_getitem ht.typeIs entry_tuple_getitem ?_ (args_tuple_getitem _ _)))
 show wpAny _ _ (Builtin.Tuple.tupleItemsOf (.ref t) >>= _) _ _ s
 refine wpAny_bind (tupleItemsOf_ ht ?_)
 refine wpAny_bind (wpAny_typeOf hTs ?_)
 rw [if_pos (by decide)]
 refine wpAny_bind (HT.sliceApplied_gen hs pl pu ?_)
 have hyes : ((((HT.sIx items.size 0 lo : Nat) : Int) == 0 && (1 : Int) == 1 && (HT.sIx items.size items.size hi - HT.sIx items.size 0 lo) == items.size) = true) := by
  rw [hw.1, hw.2]; simp
 show wpAny _ _ (if (((HT.sIx items.size 0 lo : Nat) : Int) == 0 && (1 : Int) == 1 && (HT.sIx items.size items.size hi - HT.sIx items.size 0 lo) == items.size) = true then _ else _) _ _ s
 rw [if_pos hyes]
 unfold Builtin.Tuple.tupleIsExact
 refine wpAny_bind (wpAny_bind (wpAny_typeOf ht.typeIs (wpAny_pure ?_)))
 rw [if_pos (by decide)]
 exact wpAny_bind (wpAny_rule (wpAny_pure ⟨_, rfl, wpAny_pure h⟩))
end
section
variable {X : Cx}
theorem sl_tup0 : SlR X (fun x lo hi H Q => ∃ a xs, x = .ref a /\ SqT X.K H a xs /\ (HT.sIx xs.length 0 lo = 0 /\ HT.sIx xs.length xs.length hi = xs.length) /\ Q (.ref a) H) := by
 intro pins s σ H x v vl vu lo hi sl Q I rx hs pl pu h
 obtain ⟨a, xs, rfl, hx, hw, q⟩ := h
 cases rx
 obtain ⟨its, r, ht, hz⟩ := I.tuple hx
 have hlen : its.toArray.size = xs.length := by rw [List.size_toArray]; exact r.length.symm
 refine ⟨"tuple", _, PyProof.Rows.slot_tuple_getitem.lookup, ht.typeIs, ?_⟩
 exact getItem_tuple_whole ht hs pl pu (by rw [hlen]; exact hw) ⟨.ref a, H, I, rfl, q⟩
theorem do_none : DO X none (fun _ => some none) := fun ρ o e => by
 cases e
 refine fun pins s σ H Q I q => po_none pins s σ H Q I ?_
 obtain ⟨G, sr, k⟩ := q
 exact k H G (.refl sr.gh)
theorem do_some {e : Expr} {g : En -> Option (Kd × D)} (h : DE X e g) : DO X (some e) (fun ρ => (g ρ).bind fun x => match x.2 with | .int i => some (some i) | _ => none) := by
 intro ρ o q
 obtain ⟨⟨k, d⟩, ex, q⟩ := bnd q
 obtain ⟨i, rfl⟩ : ∃ i, d = .int i := by cases d <;> first | exact ⟨_, rfl⟩ | cases q
 cases q
 refine fun pins s σ H Q I q => po_some (h ρ _ ex) pins s σ H Q I ?_
 obtain ⟨G, sr, k⟩ := q
 exact ⟨G, sr, fun v H1 G1 x1 r1 => ⟨i, r1.rb x1.gh, k H1 G1 x1⟩⟩
theorem cut_rps {G : Hp} {ds : List D} {xs : List V} (r : Rps G ds xs) (lo hi : Option Int) : Rps G (cut ds lo hi) (cutV xs lo hi) := by
 unfold cut cutV
 rw [sIx_eq, sIx_eq, <- r.length]
 exact (r.drop _).take _
theorem de_sl {a : Expr} {lo hi : Option Expr} {ga : En -> Option (Kd × D)} {gl gh : En -> Option (Option Int)} {pos p2 : Pos} (ha : DE X a ga) (hl : DO X lo gl) (hh : DO X hi gh) :
  DE X (.Subscript a (.Slice lo hi none p2) pos) (fun ρ => (ga ρ).bind fun x => (gl ρ).bind fun l => (gh ρ).bind fun h => match x.2 with
   | .tup ds => some (.fz, .tup (cut ds l h))
   | .lst ds => some (.fr, .lst (cut ds l h))
   | _ => none) := by
 intro ρ z e
 obtain ⟨⟨k, d⟩, ex, e⟩ := bnd e
 obtain ⟨l, el, e⟩ := bnd e
 obtain ⟨h, eh, e⟩ := bnd e
 have step : ∀ (r : V -> Option Int -> Option Int -> Hp -> VK -> Prop), (∀ v H Q, (∃ G, Same G H /\ Rb G H d v /\ ∀ w H' G', Ext G H G' H' -> RR G' H' H w z -> Q w H') -> r v l h H Q) ->
   ∀ σ H Q, tD ρ z σ H Q -> tSl r (tD ρ (k, d)) (tDO ρ l) (tDO ρ h) σ H Q := by
  rintro r hr σ H Q ⟨G, s, c⟩
  refine ⟨G, s, fun v H1 G1 x1 r1 => ⟨G1, s.ext x1, fun H2 G2 x2 => ⟨G2, (s.ext x1).ext x2, fun H3 G3 x3 => hr v H3 Q ⟨G3, x3.gh, (r1.rb x1.gh).mono (x2.trans x3).gg (x2.trans x3).hh, fun w H4 G4 x4 r4 => ?_⟩⟩⟩⟩
  exact c w H4 G4 (((x1.trans x2).trans x3).trans x4) (r4.back (((x1.trans x2).trans x3).hh))
 cases d <;> first | (cases e; done) | skip
 case tup ds =>
  cases e
  refine pe_imp (pe_slice (L2.SlR.or sl_tup sl_tup0) (ha ρ _ ex) (hl ρ _ el) (hh ρ _ eh)) (step _ ?_)
  rintro v H Q ⟨G, gh', ⟨a, xs, rfl, g, rs⟩, c⟩
  by_cases hw : HT.sIx xs.length 0 l = 0 /\ HT.sIx xs.length xs.length h = xs.length
  ·right
   refine ⟨a, xs, rfl, sqT gh' g, hw, c _ H G (.refl gh') ⟨a, xs, rfl, g, ?_⟩⟩
   have := cut_rps rs l h
   have e : cutV xs l h = xs := by unfold cutV; rw [hw.1, hw.2]; simp
   rw [e] at this
   exact this
  ·left
   refine ⟨a, xs, rfl, sqT gh' g, hw, fun p hp => ?_⟩
   have x2 := Ext.laid gh' hp (.tup (cutV xs l h))
   exact c _ _ _ x2 ⟨p, _, rfl, upd_same, Rps.mono x2.gg _ _ (cut_rps rs l h)⟩
 case lst ds =>
  cases e
  refine pe_imp (pe_slice sl_list (ha ρ _ ex) (hl ρ _ el) (hh ρ _ eh)) (step _ ?_)
  rintro v H Q ⟨G, gh', ⟨a, xs, rfl, g, rs⟩, c⟩
  refine ⟨a, xs, rfl, .inl g, fun p hp => ?_⟩
  obtain ⟨x2, rr⟩ := fresh_ok gh' hp (cut_rps rs l h)
  exact c _ _ _ x2 rr
end
end TW
end
section
namespace TW
open PySem PySem.Spec PyProof.Rows L2
section
variable {X : Cx}
noncomputable def rC1 (x : D) (z : Kd × D) : List V -> Hp -> VK -> Prop := fun xs H Q => ∃ v, xs = [v] /\ rD1 x z v H Q
theorem tD_b1 {x z : Kd × D} {ρ : En} : ∀ σ H Q, tD ρ z σ H Q -> tCB (rC1 x.2 z) (tCons (tD ρ x) tNil) σ H Q := by
 rintro σ H Q ⟨G, s, k⟩
 exact ⟨G, s, fun v H1 G1 x1 r1 => ⟨v, rfl, G1, x1.gh, r1.rb x1.gh, fun w H3 G3 x3 r3 => k w H3 G3 (x1.trans x3) (r3.back x1.hh)⟩⟩
theorem de_bB {f : D -> Option (Kd × D)} {x : Str} {id : String} {e : Expr} {p pos : Pos} {g : En -> Option (Kd × D)} (hc : ∀ d z, f d = some z -> CallR X (.builtin id) (rC1 d z)) (hg : Gl X x) (hm : X.mg x = none) (hv : bootBuiltins x = some (.builtin id))
  (hn : x ≠ "__name__") (hdb : (x == ("__debug__" : Str)) = false) (ha : DE X e g) (hs : starEach [e] X.env = [(false, eval e X.env)]) : DE X (.Call (.Name x p) [e] [] pos) (fun ρ => (g ρ).bind fun x => f x.2) := by
 intro ρ z q
 obtain ⟨y, ey, q⟩ := bnd q
 exact pe_imp (pe_callB (hc _ _ q) hg hm hv (pa_cons (ha ρ y ey) pa_nil hs) hn hdb hs rfl) tD_b1
theorem de_bT {f : D -> Option (Kd × D)} {x : Str} {id : String} {e : Expr} {p pos : Pos} {g : En -> Option (Kd × D)} (hc : ∀ d z, f d = some z -> CallR X (.type id) (rC1 d z)) (hg : Gl X x) (hm : X.mg x = none) (hv : bootBuiltins x = some (.type id))
  (hn : x ≠ "__name__") (hdb : (x == ("__debug__" : Str)) = false) (ha : DE X e g) (hs : starEach [e] X.env = [(false, eval e X.env)]) : DE X (.Call (.Name x p) [e] [] pos) (fun ρ => (g ρ).bind fun x => f x.2) := by
 intro ρ z q
 obtain ⟨y, ey, q⟩ := bnd q
 exact pe_imp (pe_callTy (hc _ _ q) hg hm hv (pa_cons (ha ρ y ey) pa_nil hs) hn hdb hs rfl) tD_b1
theorem c_len (d : D) (z : Kd × D) (e : b1D .len d = some z) : CallR X (.builtin "len") (rC1 d z) := by
 cases d <;> first | (cases e; done) | skip
 case str x =>
  obtain ⟨hl, rfl⟩ := if_some (show (if x.length <= lim then some (Kd.fz, D.int x.length) else none) = some z from e)
  refine TW.CallR.imp call_len_str ?_
  rintro xs H Q ⟨v, rfl, G, gh, r, k⟩
  exact ⟨x, by rw [show v = _ from r], Nat.le_trans hl lim_line, k _ H G (.refl gh) rfl⟩
 case tup ds =>
  cases e
  refine TW.CallR.imp call_len_seq ?_
  rintro xs H Q ⟨v, rfl, G, gh, ⟨a, ys, rfl, g, rs⟩, k⟩
  refine ⟨a, ys, rfl, .inr (sqT gh g), ?_⟩
  rw [rs.length]
  exact k _ H G (.refl gh) rfl
 case lst ds =>
  cases e
  refine TW.CallR.imp call_len_seq ?_
  rintro xs H Q ⟨v, rfl, G, gh, ⟨a, ys, rfl, g, rs⟩, k⟩
  refine ⟨a, ys, rfl, .inl (.inl g), ?_⟩
  rw [rs.length]
  exact k _ H G (.refl gh) rfl
theorem c_tuple (d : D) (z : Kd × D) (e : b1D .tuple d = some z) : CallR X (.type "tuple") (rC1 d z) := by
 cases d <;> first | (cases e; done) | skip
 case tup ds =>
  cases e
  refine TW.CallR.imp call_tuple_of ?_
  rintro xs H Q ⟨v, rfl, G, gh, ⟨a, ys, rfl, g, rs⟩, k⟩
  exact ⟨a, ys, rfl, .inr ⟨sqT gh g, k _ H G (.refl gh) ⟨a, ys, rfl, g, rs⟩⟩⟩
 case lst ds =>
  cases e
  refine TW.CallR.imp call_tuple_of ?_
  rintro xs H Q ⟨v, rfl, G, gh, ⟨a, ys, rfl, g, rs⟩, k⟩
  refine ⟨a, ys, rfl, .inl ⟨.inl g, fun p hp => ?_⟩⟩
  have x2 := Ext.laid gh hp (.tup ys)
  exact k _ _ _ x2 ⟨p, _, rfl, upd_same, Rps.mono x2.gg _ _ rs⟩
set_option exponentiation.threshold 2000 in
theorem c_int (d : D) (z : Kd × D) (e : b1D .int d = some z) : CallR X (.type "int") (rC1 d z) := by
 cases d <;> first | (cases e; done) | skip
 case int i =>
  cases e
  refine TW.CallR.imp call_int1 ?_
  rintro xs H Q ⟨v, rfl, G, gh, r, k⟩
  exact .inl ⟨i, by rw [show v = _ from r], k _ H G (.refl gh) rfl⟩
 case bl i =>
  cases e
  refine TW.CallR.imp call_int1 ?_
  rintro xs H Q ⟨v, rfl, G, gh, r, k⟩
  exact .inr ⟨i, by rw [show v = _ from r], k _ H G (.refl gh) rfl⟩
theorem boolsOf_get : ∀ {ds : List D} {bs : List Bool}, boolsOf ds = some bs -> ds = bs.map D.bl
 | [], _, e => by cases e; rfl
 | .bl b :: r, _, e => by
  obtain ⟨q, h, rfl⟩ := mpd e
  rw [boolsOf_get h]; rfl
 | .non :: _, _, e => by cases e
 | .int _ :: _, _, e => by cases e
 | .str _ :: _, _, e => by cases e
 | .tup _ :: _, _, e => by cases e
 | .lst _ :: _, _, e => by cases e
theorem rps_bools {G : Hp} : ∀ {bs : List Bool} {xs : List V}, Rps G (bs.map D.bl) xs -> xs = bs.map V.bl
 | [], _, r => by cases (show _ = _ from r); rfl
 | b :: bs, _, r => by
  obtain ⟨x, q, rfl, p, t⟩ := r
  cases (show _ = _ from p)
  rw [rps_bools t]; rfl
theorem vals_bools : ∀ {bs : List Bool} {us : List Value}, Vals (bs.map V.bl) us -> us = bs.map Value.bool
 | [], _, r => by cases r; rfl
 | b :: bs, _, r => by
  cases r with
  | cons p t => cases p; rw [vals_bools t]; rfl
theorem range_all (bs : List Bool) : (List.range bs.length).all (fun i => bs.getD i false) = bs.all id := by
 have : bs = (List.range bs.length).map (fun i => bs.getD i false) := by
  apply List.ext_getElem
  ·simp
  ·intro i h1 h2; simp [h1]
 conv => rhs; rw [this]
 rw [List.all_map]; rfl
theorem c_all (hc : X.calm = true) (d : D) (z : Kd × D) (e : b1D .all d = some z) : CallR X (.builtin "all") (rC1 d z) := by
 cases d <;> first | (cases e; done) | skip
 case lst ds =>
  obtain ⟨bs, eb, rfl⟩ := mpd e
  have := boolsOf_get eb
  subst this
  intro pins s σ H xs us Q I rx h
  obtain ⟨v, rfl, G, gh, ⟨a, ys, rfl, g, rs⟩, k⟩ := h
  obtain ⟨u, rfl, ru⟩ := vals1 rx
  cases ru
  obtain ⟨zz, its, n, r, hl, e⟩ := Rd.get I g
  have e1 := rps_bools rs
  subst e1
  have e2 := vals_bools r
  subst e2
  have il : s.heap.IsList a (bs.map Value.bool).toArray := ⟨_, e, rfl, _, rfl⟩
  refine call_all_walk (wpAny_pyIter_list il ⟨s.heap.objs.size, _, _, _, _, _, fun i => bs.getD i false, rfl, Walks.list (A := X.A.in1) (I.ok.hd hc) s.heap.objs.size a (Nat.ne_of_lt (Heap.lt_size e)) (bs.map Value.bool).toArray, ⟨⟨_, Heap.get?_push_size _ rfl, rfl, rfl⟩, ?_⟩, ?_, ?_⟩)
  ·exact il.at fun o q => Heap.get?_push_of_some _ q
  ·intro i w s' Q' E' hw hq
   have : w = .bool (bs.getD i false) := by
    simp only [List.getElem?_toArray, List.getElem?_map] at hw
    obtain ⟨b, eb', rfl⟩ := mpd hw
    rw [List.getD_eq_getElem?_getD, eb']; rfl
   subst this
   exact wpAny_truthy_bool hq
  ·intro h' tk keep
   have sz : (bs.map Value.bool).toArray.size = bs.length := by simp
   rw [sz, range_all]
   refine ⟨.bl _, H, I.kept (t' := tk) (h' := h') (fun b o q => keep b o (fun z => ?_) (Heap.get?_push_of_some _ q)), rfl, k _ H G (.refl gh) rfl⟩
   have : b = s.heap.objs.size := by simpa using z
   subst this
   exact absurd (Heap.lt_size q) (Nat.lt_irrefl _)
theorem preSum_eq (ns : List Int) : ∀ k, k <= ns.length -> preSum (fun i => ns.getD i 0) k = sumL (ns.take k) := by
 intro k
 induction k with
 | zero => intro _; rfl
 | succ k ih =>
  intro h
  have hk : k < ns.length := by omega
  show preSum (fun i => ns.getD i 0) k + ns.getD k 0 = _
  rw [ih (by omega), List.take_add_one]
  unfold sumL
  rw [List.foldl_append]
  simp [List.getD_eq_getElem?_getD, hk]
theorem c_sum (hc : X.calm = true) (d : D) (z : Kd × D) (e : b1D .sum d = some z) : CallR X (.builtin "sum") (rC1 d z) := by
 cases d <;> first | (cases e; done) | skip
 case lst ds =>
  obtain ⟨ns, eb, rfl⟩ := mpd e
  have := intsOf_eq eb
  subst this
  intro pins s σ H xs us Q I rx h
  obtain ⟨v, rfl, G, gh, ⟨a, ys, rfl, g, rs⟩, k⟩ := h
  obtain ⟨u, rfl, ru⟩ := vals1 rx
  cases ru
  obtain ⟨zz, its, n, r, hl, e⟩ := Rd.get I g
  have e1 := rs.ints
  subst e1
  have il : s.heap.IsList a its.toArray := ⟨_, e, rfl, _, rfl⟩
  have ia := intsAre_of r
  refine call_sum_walkG (wpAny_pyIter_list il ⟨s.heap.objs.size, _, _, _, _, _, fun i => ns.getD i 0, rfl, Walks.list (A := X.A.in1) (I.ok.hd hc) s.heap.objs.size a (Nat.ne_of_lt (Heap.lt_size e)) its.toArray, ⟨⟨_, Heap.get?_push_size _ rfl, rfl, rfl⟩, ?_⟩, ?_, ?_, ?_⟩)
  ·exact il.at fun o q => Heap.get?_push_of_some _ q
  ·intro b hb
   show b < (s.heap.push _).objs.size
   rw [Heap.size_push]
   have : b = s.heap.objs.size \/ b = a := by simpa using hb
   rcases this with rfl | rfl
   ·exact Nat.lt_succ_self _
   ·exact Nat.lt_succ_of_lt (Heap.lt_size e)
  ·intro i w hw
   obtain ⟨x, ex, rx'⟩ : ∃ x, (ns.map V.int)[i]? = some x /\ RelV x w := by
    have hi : i < its.length := by
     simp only [List.getElem?_toArray] at hw
     exact (List.getElem?_eq_some_iff.mp hw).1
    have hi' : i < (ns.map V.int).length := by rw [hl]; exact hi
    obtain ⟨u', eu, ru'⟩ := r.get (i := i) (x := (ns.map V.int)[i]) (by simp [hi'])
    simp only [List.getElem?_toArray] at hw
    rw [hw] at eu; cases eu
    exact ⟨_, by simp [hi'], ru'⟩
   rw [List.getElem?_map] at ex
   obtain ⟨y, ey, rfl⟩ := mpd ex
   obtain ⟨t, rfl⟩ := rx'
   exact ⟨t, by show _ = Value.int (ns.getD i 0) t; rw [List.getD_eq_getElem?_getD, ey]; rfl⟩
  ·intro h' tk t' keep
   have sz : its.toArray.size = ns.length := by rw [List.size_toArray, <- hl]; simp
   rw [sz, preSum_eq ns _ (Nat.le_refl _), List.take_length]
   refine ⟨.int _, H, I.kept (t' := tk) (h' := h') (fun b o q => keep b o (fun z => ?_) (Heap.get?_push_of_some _ q)), ⟨_, rfl⟩, k _ H G (.refl gh) rfl⟩
   have : b = s.heap.objs.size := by simpa using z
   subst this
   exact absurd (Heap.lt_size q) (Nat.lt_irrefl _)
theorem de_b2 {f : B2} {x : Str} {id : String} {a b : Expr} {p pos : Pos} {ga gb : En -> Option (Kd × D)} (hc : ∀ i j, CallR X (.builtin id) (fun xs H Q => xs = [.int i, .int j] /\ ∀ z, b2D f (.int i) (.int j) = some (.fz, .int z) -> Q (.int z) H))
  (hf : ∀ d e z, b2D f d e = some z -> ∃ i j k, d = .int i /\ e = .int j /\ z = (.fz, .int k)) (hg : Gl X x) (hm : X.mg x = none) (hv : bootBuiltins x = some (.builtin id))
  (hn : x ≠ "__name__") (hdb : (x == ("__debug__" : Str)) = false) (ha : DE X a ga) (hb : DE X b gb) (hs : starEach [a, b] X.env = [(false, eval a X.env), (false, eval b X.env)]) (hs2 : starEach [b] X.env = [(false, eval b X.env)]) :
  DE X (.Call (.Name x p) [a, b] [] pos) (fun ρ => (ga ρ).bind fun x => (gb ρ).bind fun y => b2D f x.2 y.2) := by
 intro ρ z q
 obtain ⟨u, eu, q⟩ := bnd q
 obtain ⟨w, ew, q⟩ := bnd q
 obtain ⟨i, j, k, hi, hj, rfl⟩ := hf _ _ _ q
 refine pe_imp (pe_callB (hc i j) hg hm hv (pa_cons (ha ρ u eu) (pa_cons (hb ρ w ew) pa_nil hs2) (by rw [hs, hs2])) hn hdb (by rw [hs, hs2]) (by rw [hs2]; rfl)) ?_
 rintro σ H Q ⟨G, s, c⟩
 refine ⟨G, s, fun v H1 G1 x1 r1 => ⟨G1, s.ext x1, fun v2 H2 G2 x2 r2 => ⟨?_, fun z hz => ?_⟩⟩⟩
 ·have e1 := r1.rb x1.gh
  have e2 := r2.rb x2.gh
  rw [hi] at e1
  rw [hj] at e2
  rw [show v = V.int i from e1, show v2 = V.int j from e2]
 ·rw [hi, hj] at q
  rw [q] at hz
  cases hz
  exact c _ H2 G2 (x1.trans x2) rfl
theorem c_min2 (hc : X.calm = true) (i j : Int) : CallR X (.builtin "min") (fun xs H Q => xs = [.int i, .int j] /\ ∀ z, b2D .min (.int i) (.int j) = some (.fz, .int z) -> Q (.int z) H) :=
 TW.CallR.imp (call_min2 hc) fun xs H Q h => ⟨i, j, h.1, h.2 _ rfl⟩
theorem c_max2 (hc : X.calm = true) (i j : Int) : CallR X (.builtin "max") (fun xs H Q => xs = [.int i, .int j] /\ ∀ z, b2D .max (.int i) (.int j) = some (.fz, .int z) -> Q (.int z) H) :=
 TW.CallR.imp (call_max2 hc) fun xs H Q h => ⟨i, j, h.1, h.2 _ rfl⟩
theorem b2_ints (f : B2) (d e : D) (z : Kd × D) (h : b2D f d e = some z) : ∃ i j k, d = .int i /\ e = .int j /\ z = (.fz, .int k) := by
 cases f <;> cases d <;> cases e <;> first | (cases h; done) | (cases h; exact ⟨_, _, _, rfl, rfl, rfl⟩)
noncomputable def tyName : Ty -> String
 | .int => "int"
 | .bool => "bool"
 | .str => "str"
 | .list => "list"
 | .tuple => "tuple"
 | .dict => "dict"
noncomputable def dName : D -> String
 | .non => "NoneType"
 | .bl _ => "bool"
 | .int _ => "int"
 | .str _ => "str"
 | .tup _ => "tuple"
 | .lst _ => "list"
 | .scr _ _ _ => "NoneType"
 | .dct _ _ => "NoneType"
theorem kit_ty (K : PySem.W.Frag) (d : D) (t : Ty) : PySem.W.kitOne K (.type (dName d)) (.type (tyName t)) = some (isD t d) := by
 cases d <;> cases t <;> first | rfl | (show PySem.W.kitOne K _ _ = _; unfold PySem.W.kitOne PySem.W.kitCls; with_unfolding_all rfl)
theorem ty_of {pins : List (Addr × Obj)} {σ : L2.St} {G H : Hp} {s : Shared} (I : Inv X pins σ H s) (gh : Same G H) {d : D} {v : V} (r : Rb G H d v) (ns : (isiD .int d).isSome = true) : TyOf X.K H v (.type (dName d)) := by
 cases d with
 | scr K a n => cases ns
 | dct _ _ => cases ns
 | non => cases (show v = _ from r); exact .non
 | bl b => cases (show v = _ from r); exact .bl b
 | int b => cases (show v = _ from r); exact .int b
 | str b => cases (show v = _ from r); exact .str b
 | tup ds => obtain ⟨a, xs, rfl, g, _⟩ := r; exact .tup (gh _ _ g)
 | lst ds =>
  obtain ⟨a, xs, rfl, g, _⟩ := r
  rcases g with g | ⟨o, g⟩
  ·exact .lst g
  ·exact .frz g
theorem c_isi (d : D) (t : Ty) (ns : (isiD .int d).isSome = true) : CallR X (.builtin "isinstance") (fun xs H Q => ∃ v G, xs = [v, .ty (tyName t)] /\ Same G H /\ Rb G H d v /\ Q (.bl (isD t d)) H) := by
 intro pins s σ H xs us Q I rx h
 obtain ⟨v, G, rfl, gh, r, q⟩ := h
 obtain ⟨u, u2, rfl, ru, ru2⟩ := vals2 rx
 cases ru2
 exact isinst_ok I ru (ty_of I gh r ns) (kit_ty X.K d t) fun tk => ⟨.bl _, H, I.tok tk, rfl, q⟩
theorem de_isi {e : Expr} {x : Str} {t : Ty} {p p2 pos : Pos} {g : En -> Option (Kd × D)} (hg : Gl X "isinstance") (hm : X.mg "isinstance" = none) (hgx : Gl X x) (hmx : X.mg x = none) (hvx : bootBuiltins x = some (.type (tyName t)))
  (hn : x ≠ "__name__") (hdb : (x == ("__debug__" : Str)) = false) (ha : DE X e g) (hs : starEach [e, .Name x p2] X.env = [(false, eval e X.env), (false, eval (.Name x p2) X.env)]) :
  DE X (.Call (.Name "isinstance" p) [e, .Name x p2] [] pos) (fun ρ => (g ρ).bind fun x => isiD t x.2) := by
 intro ρ z q
 obtain ⟨⟨k, d⟩, ey, q⟩ := bnd q
 have ns : (isiD .int d).isSome = true := by cases d <;> first | rfl | exact no_some q
 have q' : z = (.fz, .bl (isD t d)) := by cases d <;> first | exact no_some q | (cases q; rfl)
 subst q'
 refine pe_imp (pe_callB (c_isi d t ns) hg hm boot_isinstance (pa_cons (ha ρ _ ey) (pa_cons (pe_bltn (v := .ty (tyName t)) hgx hmx hvx rfl hn hdb) pa_nil rfl) hs) (by decide) (by decide) hs rfl) ?_
 rintro σ H Q ⟨G, s, c⟩
 exact ⟨G, s, fun v H1 G1 x1 r1 => ⟨v, G1, rfl, x1.gh, r1.rb x1.gh, c _ H1 G1 x1 rfl⟩⟩
theorem de_rngl {a : Expr} {p p2 pos pos2 : Pos} {g : En -> Option (Kd × D)} (hc : X.calm = true) (hg : Gl X "list") (hm : X.mg "list" = none) (hg2 : Gl X "range") (hm2 : X.mg "range" = none) (ha : DE X a g) (hs : starEach [a] X.env = [(false, eval a X.env)]) :
  DE X (.Call (.Name "list" p) [.Call (.Name "range" p2) [a] [] pos2] [] pos) (fun ρ => (g ρ).bind fun x => match x.2 with
   | .int i => if rngOk i && decide (i.natAbs <= lim) then some (.fr, .lst (rngD 0 i.toNat)) else none
   | _ => none) := by
 intro ρ z q
 obtain ⟨⟨k, d⟩, ey, q⟩ := bnd q
 obtain ⟨i, rfl⟩ : ∃ i, d = .int i := by cases d <;> first | exact ⟨_, rfl⟩ | cases q
 dsimp only at q
 split at q
 case isFalse => cases q
 rename_i hi
 cases q
 rw [Bool.and_eq_true] at hi
 obtain ⟨h1, h2⟩ := rngOk_of hi.1
 have h3' : i.natAbs <= lim := of_decide_eq_true hi.2
 have hlim : lim = 65536 := rfl
 have h3 : i <= lim := by omega
 intro pins s σ H Q I h
 obtain ⟨G, sr, c⟩ := h
 refine wpAny_Call_Name_kw (ld_blt I hg hm PyProof.Rows.boot_list ?_ (by decide) (by decide))
 refine PyProof.Rows.callWith_type1 (Q := EP X pins σ Q) ?_ rfl rfl
 refine Calls.spliced_cons (Call_ (ld_blt I hg2 hm2 boot_range (PyProof.Rows.callWith_type1 (thn (pa_cons (ha ρ _ ey) pa_nil hs pos2 pins s σ H (fun vs H1 => ∃ G1, Ext G H G1 H1 /\ vs = [.int i]) I ⟨G, sr, fun v H1 G1 x1 r1 => ⟨G1, x1, by rw [show v = _ from r1.rb x1.gh]⟩⟩) fun us s1 ⟨vs, H1, I1, rv, G1, x1, e1⟩ => ?_) hs rfl) (by decide) (by decide)))
 subst e1
 obtain ⟨u, rfl, t, rfl⟩ := vals1 rv
 refine call_range_1 (Calls.spliced_nil ?_)
 have I2 : Inv X pins σ H1 { s1 with heap := s1.heap.push { cls := .type "range", data := .fields #[.int 0 s1.toks, .int i t, .int 1 (s1.toks + 1)] }, toks := s1.toks + 2 } := I1.kept fun b o e => Heap.get?_push_of_some _ e
 have hsz : Builtin.Range.rangeSize 0 i 1 = (i.toNat : Nat) := by rw [rangeSize_one]; split <;> omega
 refine call_list_range (n := i.toNat) (I1.ok.hd hc) (IsRange.new ..) (small_one (by omega) (by omega) h1 h2) hsz (by omega) fun h' tk acc c' keep hget items => ?_
 have hx : Vals ((List.range i.toNat).map fun (k : Nat) => V.int (0 + (k : Int))) acc.toList := by
  have go : ∀ (l : List Value) (n m : Nat), l.length = m -> (∀ (j : Nat) v, l[j]? = some v -> ∃ t, v = .int (0 + ((n + j : Nat) : Int)) t) -> Vals ((List.range' n m).map fun (k : Nat) => V.int (0 + (k : Int))) l := by
   intro l
   induction l with
   | nil => intro n m hm _; subst hm; exact .nil
   | cons u r ih =>
    intro n m hm hl
    subst hm
    rw [List.length_cons, List.range'_succ, List.map_cons]
    refine .cons (show ∃ t, u = Value.int (0 + (n : Int)) t by simpa using hl 0 u rfl) (ih (n + 1) _ rfl fun j v e => ?_)
    have := hl (j + 1) v (by simpa using e)
    rw [show n + (j + 1) = n + 1 + j by omega] at this
    exact this
  rw [List.range_eq_range']
  refine go acc.toList 0 i.toNat (by simpa using items.1) fun j v e => ?_
  obtain ⟨t', e'⟩ := items.2 j v (by simpa using e)
  exact ⟨t', by rw [e']; simp⟩
 have hl := hx.length
 have hsize : ((List.range i.toNat).map fun (k : Nat) => V.int (0 + (k : Int))).length <= sizeLine := by
  rw [List.length_map, List.length_range, sizeLine_eq]; omega
 have hp := I2.fresh
 have rs : Rps G1 (rngD 0 i.toNat) ((List.range i.toNat).map fun (k : Nat) => V.int (0 + (k : Int))) := by
  have go : ∀ l : List Nat, Rps G1 (l.map fun (k : Nat) => D.int (0 + (k : Int))) (l.map fun (k : Nat) => V.int (0 + (k : Int))) := by
   intro l
   induction l with
   | nil => rfl
   | cons n r ih => exact ⟨_, _, rfl, rfl, ih⟩
  exact go _
 obtain ⟨x2, rr⟩ := fresh_ok x1.gh hp rs
 exact ⟨.ref _, _, I2.laid (t' := tk) (o := .lst ((List.range i.toNat).map fun (k : Nat) => V.int (0 + (k : Int)))) keep (Nat.le_refl _) ⟨hsize, acc.toList, c', hx, by simpa using hget⟩, rfl, c _ _ _ (x1.trans x2) (rr.back x1.hh)⟩
theorem sorted_unique : ∀ {l m : List Int}, l.Perm m -> l.Pairwise (· <= ·) -> m.Pairwise (· <= ·) -> l = m := fun h1 h2 h3 => h1.eq_of_pairwise (le := (· <= ·)) (fun a b _ _ h h' => Int.le_antisymm h h') h2 h3
theorem insI_perm (i : Int) : ∀ l : List Int, (insI i l).Perm (i :: l)
 | [] => List.Perm.refl _
 | x :: r => by
  unfold insI
  split
  ·exact List.Perm.refl _
  ·exact ((insI_perm i r).cons x).trans (List.Perm.swap i x r)
theorem srtI_perm : ∀ l : List Int, (srtI l).Perm l
 | [] => List.Perm.refl _
 | x :: r => (insI_perm x (srtI r)).trans ((srtI_perm r).cons x)
theorem insI_sorted (i : Int) : ∀ l : List Int, l.Pairwise (· <= ·) -> (insI i l).Pairwise (· <= ·)
 | [], _ => by simp [insI]
 | x :: r, h => by
  rw [List.pairwise_cons] at h
  unfold insI
  split
  ·rename_i hi
   rw [List.pairwise_cons, List.pairwise_cons]
   refine ⟨fun y hy => ?_, h⟩
   rcases List.mem_cons.mp hy with e | hy
   ·omega
   ·have := h.1 y hy; omega
  ·rename_i hi
   rw [List.pairwise_cons]
   refine ⟨fun y hy => ?_, insI_sorted i r h.2⟩
   have := (insI_perm i r).mem_iff.mp hy
   rcases List.mem_cons.mp this with e | hy
   ·omega
   ·exact h.1 y hy
theorem srtI_sorted : ∀ l : List Int, (srtI l).Pairwise (· <= ·)
 | [] => List.Pairwise.nil
 | x :: r => insI_sorted x _ (srtI_sorted r)
theorem c_sortI (ns : List Int) (h64 : ns.length < 64) : CallR X (.builtin "sorted") (rC1 (.lst (ns.map D.int)) (.fr, .lst ((srtI ns).map D.int))) := by
 intro pins s σ H xs us Q I rx h
 obtain ⟨v, rfl, G, gh, ⟨a, ys, rfl, g, rs⟩, k⟩ := h
 obtain ⟨u, rfl, ru⟩ := vals1 rx
 cases ru
 obtain ⟨zz, its, n, r, hl, e⟩ := Rd.get I g
 have e1 := rs.ints
 subst e1
 have il : s.heap.IsList a its.toArray := ⟨_, e, rfl, _, rfl⟩
 refine sorted_ints il (intsAre_of r) (by rw [<- hl]; simpa using h64) fun out ns' hI hp hs => ?_
 have e2 : ns' = srtI ns := sorted_unique (hp.trans (srtI_perm ns).symm) hs (srtI_sorted ns)
 subst e2
 obtain ⟨ep, hat⟩ := sortedAll_at s.heap its out
 have hlen : (srtI ns).length = ns.length := (srtI_perm ns).length_eq
 have hf : H (s.heap.objs.size + 1) = none := I.hok.fresh (Nat.le_succ _)
 obtain ⟨x2, rr⟩ := fresh_ok gh hf (Rps.of_ints (G := G) (srtI ns))
 refine ⟨.ref (s.heap.objs.size + 1), _, I.laid (t' := s.toks) (o := .lst ((srtI ns).map V.int)) (fun b o q => sortedAll_old q) (Nat.le_succ _) ⟨by rw [List.length_map, hlen, sizeLine_eq]; omega, out.toList, ep, vals_ints hI, by simpa [seqObj] using hat⟩, rfl, k _ _ _ x2 rr⟩
end
end TW
end
section
namespace TW
open PySem PySem.Spec PyProof.Rows L2
open PySem.AutoSeq1 (wpAny_loadPart')
section
variable {prog : Program} {w : World} {A : Around} {E : Value -> Shared -> Prop} {s : Shared}
theorem iadd_rng {R : Result -> Shared -> Prop} {r S : Addr} {lo hi by' : Int} {t u v : Tok} {n : Nat} (calm : A.handled = none) (hr : IsRange s.heap r lo hi by' t u v) (sm : Builtin.Range.small lo hi by' = true) (hn : Builtin.Range.rangeSize lo hi by' = n) (hl : n <= 2 ^ 24)
  (hS : s.heap.get? S = some { cls := .type "list", data := .seq #[] })
  (fin : ∀ h' tk acc c', (∀ b o, b ≠ S -> s.heap.get? b = some o -> h'.get? b = some o) -> h'.get? S = some { cls := .type "list", dict := none, data := .seq acc c', slots := #[] } -> ItemsOf (fun i x => ∃ t, x = .int (lo + i * by') t) acc n -> R (.ok (.ret (.ref S))) { s with heap := h', toks := tk }) :
  codeAny (model prog w) A (.builtin "list.__iadd__" ⟨[.ref S, .ref r], []⟩) R s := by
 refine codeAny_builtin F.entry_list_iadd ?_
 rw [Around.under_plainId F.plain_list_iadd _]
 exact wpAny_extend_range calm hr sm hn hl S (.ref S) 0 hS fin
theorem collect_rng {Q : List Value -> Shared -> Prop} {r : Addr} {lo hi by' : Int} {t u v : Tok} {n : Nat} (calm : A.handled = none) (hr : IsRange s.heap r lo hi by' t u v) (sm : Builtin.Range.small lo hi by' = true) (hn : Builtin.Range.rangeSize lo hi by' = n) (hl : n <= 2 ^ 24)
  (fin : ∀ h' tk acc, (∀ b o, s.heap.get? b = some o -> h'.get? b = some o) -> ItemsOf (fun i x => ∃ t, x = .int (lo + i * by') t) acc n -> Q acc.toList { s with heap := h', toks := tk }) :
  wpAny (model prog w) A (collect (.ref r)) Q E s := by
 have hrlt : r < s.heap.objs.size := Heap.lt_size hr
 unfold collect
 refine wpAny_bind (wpAny_runValue (codeAny_builtin F.entry_proto_collect ?_))
 rw [Around.under_plainId F.plain_proto_collect _]
 show wpAny _ A.in1 (newList [] >>= fun z => again (.builtin "list.__iadd__" ⟨[z, .ref r], []⟩)) _ _ s
 refine wpAny_bind (wpAny_newObj_type ?_)
 have hS : (s.heap.push { cls := .type "list", data := .seq ([] : List Value).toArray }).get? s.heap.objs.size = some { cls := .type "list", data := .seq #[] } := Heap.get?_push_size _ rfl
 refine wpAny_pure ⟨plainId_quiet F.plain_list_iadd _, iadd_rng (s := { s with heap := s.heap.push { cls := .type "list", data := .seq ([] : List Value).toArray } }) calm (Heap.get?_push_of_some _ hr) sm hn hl hS fun h' tk acc c' keep hS' items => ?_⟩
 show wpAny _ A (load s.heap.objs.size >>= _) _ _ _
 refine wpAny_bind (wpAny_load hS' ?_)
 exact wpAny_pure (fin h' tk acc (fun b o e => keep b o (Nat.ne_of_lt (Heap.lt_size e)) (Heap.get?_push_of_some _ e)) items)
end
section
variable {X : Cx}
theorem vals_rng {lo : Int} {acc : Array Value} {n : Nat} (items : ItemsOf (fun i x => ∃ t, x = Value.int (lo + (i : Nat) * 1) t) acc n) : Vals ((List.range n).map fun (k : Nat) => V.int (lo + (k : Int))) acc.toList := by
 have go : ∀ (l : List Value) (n m : Nat), l.length = m -> (∀ (j : Nat) v, l[j]? = some v -> ∃ t, v = .int (lo + ((n + j : Nat) : Int)) t) -> Vals ((List.range' n m).map fun (k : Nat) => V.int (lo + (k : Int))) l := by
  intro l
  induction l with
  | nil => intro n m hm _; subst hm; exact .nil
  | cons u r ih =>
   intro n m hm hl
   subst hm
   rw [List.length_cons, List.range'_succ, List.map_cons]
   refine .cons (show ∃ t, u = Value.int (lo + (n : Int)) t by simpa using hl 0 u rfl) (ih (n + 1) _ rfl fun j v e => ?_)
   have := hl (j + 1) v (by simpa using e)
   rw [show n + (j + 1) = n + 1 + j by omega] at this
   exact this
 rw [List.range_eq_range']
 refine go acc.toList 0 n (by simpa using items.1) fun j v e => ?_
 obtain ⟨t', e'⟩ := items.2 j v (by simpa using e)
 exact ⟨t', by rw [e']; simp⟩
end
end TW
end
section
namespace TW
open PySem PySem.Spec PyProof.Rows L2
theorem sortH_at {h : Heap} {a : Addr} {vs : List Value} {out xs : Array Value} {n : Nat} (ho : h.get? a = some (seqObj "list" xs n)) : ∃ e, (sortedHeap h a vs out).get? a = some (seqObj "list" out e) := by
 have la : a < h.objs.size := Heap.lt_size ho
 have g1 := get?_update_seq ho (fun _ => (#[] : Array Value))
 have g2 : (((h.update a (Obj.mapSeq fun _ => #[])).push (seqObj "tuple" vs.toArray 0)).push (seqObj "list" #[] 0)).get? a = _ := Heap.get?_push_of_some _ (Heap.get?_push_of_some _ g1)
 exact ⟨_, get?_update_seq g2 (fun _ => out)⟩
theorem sortH_old {h : Heap} {a b : Addr} {vs : List Value} {out : Array Value} {o : Obj} (e : h.get? b = some o) (hne : b ≠ a) : (sortedHeap h a vs out).get? b = some o := by
 unfold sortedHeap
 rw [Heap.get?_update_ne _ _ _ _ hne]
 refine Heap.get?_push_of_some _ (Heap.get?_push_of_some _ ?_)
 rw [Heap.get?_update_ne _ _ _ _ hne]
 exact e
section
variable {prog : Program} {w : World} {A : Around} {E : Value -> Shared -> Prop} {s : Shared}
theorem sorted_tup {t : Addr} {vs : List Value} {ns : List Int} {Q : Value -> Shared -> Prop} (ht : IsTup s.heap t vs.toArray) (hI : IntsAre vs ns) (h64 : vs.length < 64)
  (fin : ∀ (h' : Heap) (out : Array Value) (ns' : List Int), (∀ b o, s.heap.get? b = some o -> h'.get? b = some o) -> IntsAre out.toList ns' -> ns'.Perm ns -> ns'.Pairwise (· <= ·) ->
   Q (.ref h'.objs.size) { s with heap := sortedHeap (h'.push (seqObj "list" vs.toArray 0)) h'.objs.size vs out }) : wpAny (model prog w) A (call (.builtin "sorted") [.ref t]) Q E s := by
 obtain ⟨o, ho, hc, n, hd⟩ := ht
 refine Calls.call_function_entry kind_sorted plain_sorted entry_sorted (args_sorted1 _) ?_
 unfold Builtin.«sorted»
 have fits : vs.toArray.size <= sizeLine := by rw [List.size_toArray, sizeLine_eq]; omega
 refine wpAny_bind (m := checkCount "sorted" 1 1 _) (wpAny_pure (wpAny_bind (wpAny_collect_seq (hsz := fits) t (.inr rfl) ho hc hd fun h' keep => wpAny_bind (wpAny_newList ?_))))
 have hL : (h'.push (seqObj "list" vs.toArray 0)).get? h'.objs.size = some (seqObj "list" vs.toArray 0) := Heap.get?_push_size _ rfl
 show wpAny _ _ _ _ _ { s with heap := h'.push (seqObj "list" vs.toArray 0) }
 refine wpAny_bind (wpAny_holding (wpAny_call_entry slot_list_sort ⟨_, hL, rfl⟩ entry_list_sort
  (list_sort_tree (s := { s with heap := h'.push (seqObj "list" vs.toArray 0) }) hL hI h64 fun out ns' b1 b2 b3 => ⟨_, rfl, wpAny_pure ⟨_, rfl, fin h' out ns' keep b1 b2 b3⟩⟩) (args_list_sort _)))
end
section
variable {X : Cx}
theorem c_sortT (ns : List Int) (h64 : ns.length < 64) : CallR X (.builtin "sorted") (rC1 (.tup (ns.map D.int)) (.fr, .lst ((srtI ns).map D.int))) := by
 intro pins s σ H xs us Q I rx h
 obtain ⟨v, rfl, G, gh, ⟨a, ys, rfl, g, rs⟩, k⟩ := h
 obtain ⟨u, rfl, ru⟩ := vals1 rx
 cases ru
 have e1 := rs.ints
 subst e1
 obtain ⟨zz, its, rv, tp⟩ := I.hok a _ (gh _ _ g)
 have hl := rv.length
 refine sorted_tup tp (intsAre_of rv) (by rw [<- hl]; simpa using h64) fun h' out ns' keep hI hp hs => ?_
 have e2 : ns' = srtI ns := sorted_unique (hp.trans (srtI_perm ns).symm) hs (srtI_sorted ns)
 subst e2
 have hlen : (srtI ns).length = ns.length := (srtI_perm ns).length_eq
 have hL : (h'.push (seqObj "list" its.toArray 0)).get? h'.objs.size = some (seqObj "list" its.toArray 0) := Heap.get?_push_size _ rfl
 obtain ⟨ep, hat⟩ := sortH_at (vs := its) (out := out) hL
 have I2 : Inv X pins σ H { s with heap := h' } := I.kept (t' := s.toks) keep
 have hf : H h'.objs.size = none := I2.fresh
 obtain ⟨x2, rr⟩ := fresh_ok gh hf (Rps.of_ints (G := G) (srtI ns))
 refine ⟨.ref h'.objs.size, _, I2.laid (t' := s.toks) (o := .lst ((srtI ns).map V.int)) (fun b o q => sortH_old (Heap.get?_push_of_some _ q) (Nat.ne_of_lt (Heap.lt_size q))) (Nat.le_refl _) ⟨by rw [List.length_map, hlen, sizeLine_eq]; omega, out.toList, ep, vals_ints hI, by simpa [seqObj] using hat⟩, rfl, k _ _ _ x2 rr⟩
theorem c_sorted (d : D) (z : Kd × D) (e : b1D .sorted d = some z) : CallR X (.builtin "sorted") (rC1 d z) := by
 cases d <;> first | exact no_some e | skip
 all_goals
  obtain ⟨ns, ei, e2⟩ := bnd e
  have := intsOf_eq ei
  subst this
  obtain ⟨h, rfl⟩ := if_some e2
  first | exact c_sortI ns h | exact c_sortT ns h
end
section
variable {prog : Program} {w : World} {A : Around} {E : Value -> Shared -> Prop} {s : Shared}
noncomputable abbrev met (ns : List Int) (k : Nat) : List Int := firstMet (fun i => ns.getD i 0) k
end
end TW
end
section
namespace TW
open PySem PySem.Spec PyProof.Rows L2
section
variable {X : Cx}
theorem Rps.strs {G : Hp} : ∀ {l : List Str} {vs : List V}, Rps G (l.map D.str) vs -> vs = l.map V.str
 | [], vs, h => h
 | x :: l, vs, h => by
  obtain ⟨v, r, rfl, h1, h2⟩ := h
  cases (show v = _ from h1)
  rw [Rps.strs (l := l) h2]
  rfl
end
end TW
end
section
namespace TW
open PySem PySem.Spec PyProof.Rows L2
structure OkS (G0 B G H : Hp) (σ : L2.St) (ρ : En) : Prop where
 sr : SR G H σ ρ
 ext : Ext G0 B G H
 nob : ∀ (i : Nat) (x : Sl) (l : Addr), ρ[i]? = some (some x) -> x.isO = true -> σ[i]? = some (some (.ref l)) -> B l = none
noncomputable def tS (ρ : En) (f : Fl) : TS := fun D σ H => ∃ G0 B G, OkS G0 B G H σ ρ /\ match f with
 | .nx ρ' => ∀ σ' H' G', OkS G0 B G' H' σ' ρ' -> D.nx σ' H'
 | .bk ρ' => ∀ σ' H' G', OkS G0 B G' H' σ' ρ' -> D.bk σ' H'
 | .ct ρ' => ∀ σ' H' G', OkS G0 B G' H' σ' ρ' -> D.ct σ' H'
 | .rt d => ∀ v H' G', Ext G0 B G' H' -> Rp G' d v -> D.rt v H'
noncomputable def DS (X : Cx) (st : Stmt) (g : En -> Option Fl) : Prop := ∀ ρ f, g ρ = some f -> PS X st (tS ρ f)
noncomputable def DSs (X : Cx) (st : List Stmt) (g : En -> Option Fl) : Prop := ∀ ρ f, g ρ = some f -> PSs X st (tS ρ f)
section
variable {G0 B G H G' H' : Hp} {σ : L2.St} {ρ : En}
theorem OkS.grow (s : OkS G0 B G H σ ρ) (x : Ext G H G' H') : OkS G0 B G' H' σ ρ := ⟨s.sr.ext x, s.ext.trans x, s.nob⟩
theorem OkS.bound {σ' : L2.St} {ρ' : En} {tg : Tg} {d : D} (s : OkS G0 B G H σ ρ) (b : Bound tg d G σ σ') (e : bindT tg d ρ = some ρ') : OkS G0 B G H σ' ρ' := by
 refine ⟨⟨s.sr.toSR0.bound b e, s.sr.gh, s.sr.tb⟩, s.ext, ?_⟩
 have one : ∀ (σ : L2.St) (ρ : En) (i : Nat) (d : D) (v : V), (∀ (i : Nat) (x : Sl) (l : Addr), ρ[i]? = some (some x) -> x.isO = true -> σ[i]? = some (some (.ref l)) -> B l = none) ->
   (∀ (j : Nat) (x : Sl) (l : Addr), (ρ.set i (some (Sl.val d)))[j]? = some (some x) -> x.isO = true -> (σ.set i (some v))[j]? = some (some (.ref l)) -> B l = none) := fun σ ρ i d v h j x l h1 hx h2 => by
  obtain ⟨n, h1⟩ := set_own h1 hx
  rw [List.getElem?_set_ne n] at h2
  exact h j x l h1 hx h2
 cases tg with
 | one i =>
  obtain ⟨v, r, rfl⟩ := b
  cases e
  exact one _ _ _ _ _ s.nob
 | many l =>
  obtain ⟨ds, xs, rfl, r, _, rfl⟩ := b
  have all : ∀ (l : List Nat) (ds : List D) (xs : List V) (σ : L2.St) (ρ ρ' : En), xs.length = ds.length -> TW.setAll l ds ρ = some ρ' ->
    (∀ (i : Nat) (x : Sl) (l : Addr), ρ[i]? = some (some x) -> x.isO = true -> σ[i]? = some (some (.ref l)) -> B l = none) ->
    (∀ (j : Nat) (x : Sl) (a : Addr), ρ'[j]? = some (some x) -> x.isO = true -> (setAllV l xs σ)[j]? = some (some (.ref a)) -> B a = none) := by
   intro l
   induction l with
   | nil =>
    intro ds xs σ ρ ρ' hl e h
    cases ds with
    | nil => cases e; exact h
    | cons _ _ => cases e
   | cons i l ih =>
    intro ds xs σ ρ ρ' hl e h
    cases ds with
    | nil => cases e
    | cons d ds =>
     cases xs with
     | nil => simp at hl
     | cons x xs => exact ih ds xs _ _ ρ' (by simpa using hl) e (one _ _ _ _ _ h)
  exact all l ds xs σ ρ ρ' r.length e s.nob
theorem OkS.setV (s : OkS G0 B G H σ ρ) {i : Nat} {d : D} {v : V} (r : Rp G d v) : OkS G0 B G H (σ.set i (some v)) (ρ.set i (some (.val d))) := s.bound (tg := .one i) ⟨v, r, rfl⟩ rfl
theorem set_at {ρ : En} {i j : Nat} {y x : Sl} (h : (ρ.set i (some y))[j]? = some (some x)) : (i = j /\ y = x /\ i < ρ.length) \/ (i ≠ j /\ ρ[j]? = some (some x)) := by
 by_cases hij : i = j
 ·subst hij
  have hi : i < ρ.length := by
   obtain ⟨q, _⟩ := List.getElem?_eq_some_iff.mp h; simpa using q
  rw [List.getElem?_set_self hi] at h
  cases h
  exact .inl ⟨rfl, rfl, hi⟩
 ·rw [List.getElem?_set_ne hij] at h
  exact .inr ⟨hij, h⟩
theorem OkS.setW (s : OkS G0 B G H σ ρ) (x : Ext G H G' H') {i : Nat} {y : Sl} {l : Addr} {o : HO} (hy : y.isO = true) (hl' : H' l = some o) (hg : G' l = none) (hl : H l = none) (r : Ob G' y o) :
  OkS G0 B G' H' (σ.set i (some (.ref l))) (ρ.set i (some y)) := by
 have s' := s.grow x
 have hB : B l = none := s.ext.hh.free hl
 have fresh : ∀ (j : Nat) (z : Sl), ρ[j]? = some (some z) -> z.isO = true -> σ[j]? ≠ some (some (.ref l)) := fun j z e hz q => by
  obtain ⟨l', o', e1, h1, _⟩ := s.sr.owns j z e hz
  rw [q] at e1; cases e1
  rw [hl] at h1; cases h1
 refine ⟨⟨⟨by simp [s.sr.len], fun j e h => ?_, fun j z h hz => ?_, fun j k z z' a h1 hz h2 hz' e1 e2 => ?_⟩, x.gh, s.sr.tb.mono x.gg⟩, s'.ext, fun j z a h1 hz h2 => ?_⟩
 ·rcases set_at h with ⟨_, e, _⟩ | ⟨n, h⟩
  ·subst e; cases hy
  ·rw [List.getElem?_set_ne n]
   exact s'.sr.val j e h
 ·rcases set_at h with ⟨rfl, rfl, hi⟩ | ⟨n, h⟩
  ·exact ⟨l, o, by rw [List.getElem?_set_self (by rw [s.sr.len]; exact hi)], hl', hg, r⟩
  ·rw [List.getElem?_set_ne n]
   exact s'.sr.owns j z h hz
 ·rcases set_at h1 with ⟨rfl, rfl, hi⟩ | ⟨n1, h1⟩
  ·rcases set_at h2 with ⟨rfl, rfl, _⟩ | ⟨n2, h2⟩
   ·rfl
   ·rw [List.getElem?_set_self (by rw [s.sr.len]; exact hi)] at e1
    cases e1
    rw [List.getElem?_set_ne n2] at e2
    exact absurd e2 (fresh k z' h2 hz')
  ·rw [List.getElem?_set_ne n1] at e1
   rcases set_at h2 with ⟨rfl, rfl, hi⟩ | ⟨n2, h2⟩
   ·rw [List.getElem?_set_self (by rw [s.sr.len]; exact hi)] at e2
    cases e2
    exact absurd e1 (fresh j z h1 hz)
   ·rw [List.getElem?_set_ne n2] at e2
    exact s.sr.dst j k z z' a h1 hz h2 hz' e1 e2
 ·rcases set_at h1 with ⟨rfl, rfl, hi⟩ | ⟨n, h1⟩
  ·rw [List.getElem?_set_self (by rw [s.sr.len]; exact hi)] at h2
   cases h2
   exact hB
  ·rw [List.getElem?_set_ne n] at h2
   exact s.nob j z a h1 hz h2
theorem OkS.setO (s : OkS G0 B G H σ ρ) (x : Ext G H G' H') {i : Nat} {ds : List D} {l : Addr} {xs : List V} (hl' : H' l = some (.lst xs)) (hg : G' l = none) (hl : H l = none) (r : Rps G' ds xs) :
  OkS G0 B G' H' (σ.set i (some (.ref l))) (ρ.set i (some (.own ds))) := s.setW x rfl hl' hg hl ⟨xs, rfl, r⟩
theorem OkS.changeW (s : OkS G0 B G H σ ρ) {i : Nat} {x y : Sl} {l : Addr} {o : HO} (ho : ρ[i]? = some (some x)) (hx : x.isO = true) (hs : σ[i]? = some (some (.ref l))) (hy : y.isO = true) (r : Ob G y o) :
  OkS G0 B G (upd H l o) σ (ρ.set i (some y)) := by
 obtain ⟨l', o', e1, hl, hg, _⟩ := s.sr.owns i x ho hx
 rw [hs] at e1; cases e1
 have hB := s.nob i x l ho hx hs
 have hi : i < ρ.length := (List.getElem?_eq_some_iff.mp ho).1
 have gh : Same G (upd H l o) := fun b u e => by rw [upd_ne (ne_of_none e hg)]; exact s.sr.gh _ _ e
 have was : ∀ (j : Nat) (z : Sl), (ρ.set i (some y))[j]? = some (some z) -> z.isO = true -> ∃ z', ρ[j]? = some (some z') /\ z'.isO = true := fun j z h hz => by
  rcases set_at h with ⟨rfl, rfl, _⟩ | ⟨_, h⟩
  ·exact ⟨x, ho, hx⟩
  ·exact ⟨z, h, hz⟩
 refine ⟨⟨⟨by simp [s.sr.len], fun j e h => ?_, fun j z h hz => ?_, fun j k z z' a h1 hz h2 hz' e1 e2 => ?_⟩, gh, s.sr.tb⟩, ⟨s.ext.gg, fun b u e => ?_, gh, s.ext.nw⟩, fun j z a h1 hz h2 => ?_⟩
 ·rcases set_at h with ⟨_, e, _⟩ | ⟨n, h⟩
  ·subst e; cases hy
  ·exact s.sr.val j e h
 ·rcases set_at h with ⟨rfl, rfl, _⟩ | ⟨n, h⟩
  ·exact ⟨l, o, hs, upd_same, hg, r⟩
  ·obtain ⟨l2, o2, e2, h2, g2, r2⟩ := s.sr.owns j z h hz
   have nl : l2 ≠ l := fun q => by subst q; exact n (s.sr.dst i j x z l2 ho hx h hz hs e2)
   exact ⟨l2, o2, e2, by rw [upd_ne nl]; exact h2, g2, r2⟩
 ·obtain ⟨f1, h1, f1o⟩ := was j z h1 hz
  obtain ⟨f2, h2, f2o⟩ := was k z' h2 hz'
  exact s.sr.dst j k f1 f2 a h1 f1o h2 f2o e1 e2
 ·rw [upd_ne (ne_of_none e hB)]; exact s.ext.hh _ _ e
 ·obtain ⟨f1, h1, f1o⟩ := was j z h1 hz
  exact s.nob j f1 a h1 f1o h2
theorem OkS.change (s : OkS G0 B G H σ ρ) {i : Nat} {ds es : List D} {l : Addr} {ys : List V} (ho : ρ[i]? = some (some (Sl.own ds))) (hs : σ[i]? = some (some (.ref l))) (r : Rps G es ys) :
  OkS G0 B G (upd H l (.lst ys)) σ (ρ.set i (some (.own es))) := s.changeW ho rfl hs rfl ⟨ys, rfl, r⟩
theorem OkS.giveW (s : OkS G0 B G H σ ρ) {i : Nat} {x : Sl} {d : D} (ho : ρ[i]? = some (some x)) (hx : x.isO = true) (hd : ∀ (G : Hp) (l : Addr) (o : HO), Ob G x o -> G l = some o -> Rp G d (.ref l)) : ∃ G2, OkS G0 B G2 H σ (ρ.set i (some (.val d))) := by
 obtain ⟨l, o, hs, hl, hg, r⟩ := s.sr.owns i x ho hx
 have hB := s.nob i x l ho hx hs
 have hi : i < ρ.length := (List.getElem?_eq_some_iff.mp ho).1
 obtain ⟨x2, s2⟩ := s.ext.freeze hB hl hg
 refine ⟨_, ⟨⟨⟨by simp [s.sr.len], fun j e h => ?_, fun j z h hz => ?_, fun j k z z' a h1 hz h2 hz' e1 e2 => ?_⟩, x2.gh, s.sr.tb.mono s2⟩, x2, fun j z a h1 hz h2 => ?_⟩⟩
 ·rcases set_at h with ⟨rfl, e, _⟩ | ⟨n, h⟩
  ·cases e
   exact ⟨_, hs, hd _ _ _ (r.mono s2) upd_same⟩
  ·obtain ⟨v, e1, r1⟩ := s.sr.val j e h
   exact ⟨v, e1, Rp.mono s2 _ _ r1⟩
 ·obtain ⟨n, h⟩ := set_own h hz
  obtain ⟨l2, o2, e2, h2, g2, r2⟩ := s.sr.owns j z h hz
  have nl : l2 ≠ l := fun q => by subst q; exact n (s.sr.dst i j x z l2 ho hx h hz hs e2)
  exact ⟨l2, o2, e2, h2, by rw [upd_ne nl]; exact g2, r2.mono s2⟩
 ·exact s.sr.dst j k z z' a (set_own h1 hz).2 hz (set_own h2 hz').2 hz' e1 e2
 ·exact s.nob j z a (set_own h1 hz).2 hz h2
theorem OkS.give (s : OkS G0 B G H σ ρ) {i : Nat} {ds : List D} (ho : ρ[i]? = some (some (Sl.own ds))) : ∃ G2, OkS G0 B G2 H σ (ρ.set i (some (.val (.lst ds)))) :=
 s.giveW ho rfl fun G l o ⟨xs, e, r⟩ hl => ⟨l, xs, rfl, .inl (e ▸ hl), r⟩
theorem OkS.giveD (s : OkS G0 B G H σ ρ) {i : Nat} {ks : List Int} {ds : List D} (ho : ρ[i]? = some (some (Sl.ownd ks ds))) :
  ∃ l kvs, H l = some (.dK kvs) /\ ∀ ob : Obj, ∃ G2, OkS G0 B G2 (upd H l (.frz ob (.dK kvs))) σ (ρ.set i (some (.val (.dct ks ds)))) := by
 obtain ⟨l, xs, hs, hl, hg, hlen, r⟩ := s.sr.ownd i ks ds ho
 have hB := s.nob i _ l ho rfl hs
 have hi : i < ρ.length := (List.getElem?_eq_some_iff.mp ho).1
 refine ⟨l, _, hl, fun ob => ⟨upd G l (.frz ob (.dK (zipK ks xs))), ?_⟩⟩
 have s2 : Same G (upd G l (.frz ob (.dK (zipK ks xs)))) := fun b u e => by rw [upd_ne (ne_of_none e hg)]; exact e
 have gh : Same (upd G l (.frz ob (.dK (zipK ks xs)))) (upd H l (.frz ob (.dK (zipK ks xs)))) := fun b u e => by
  by_cases hb : b = l
  ·subst hb; rw [upd_same] at e ⊢; exact e
  ·rw [upd_ne hb] at e ⊢; exact s.sr.gh _ _ e
 refine ⟨⟨⟨by simp [s.sr.len], fun j e h => ?_, fun j z h hz => ?_, fun j k z z' a h1 hz h2 hz' e1 e2 => ?_⟩, gh, s.sr.tb.mono s2⟩, ⟨s.ext.gg.trans s2, fun b u e => ?_, gh, fun b u e => ?_⟩, fun j z a h1 hz h2 => ?_⟩
 ·rcases set_at h with ⟨rfl, e, _⟩ | ⟨n, h⟩
  ·cases e
   exact ⟨_, hs, l, ob, xs, rfl, hlen, upd_same, Rps.mono s2 _ _ r⟩
  ·obtain ⟨v, e1, r1⟩ := s.sr.val j e h
   exact ⟨v, e1, Rp.mono s2 _ _ r1⟩
 ·obtain ⟨n, h⟩ := set_own h hz
  obtain ⟨l2, o2, e2, h2, g2, r2⟩ := s.sr.owns j z h hz
  have nl : l2 ≠ l := fun q => by subst q; exact n (s.sr.dst i j _ z l2 ho rfl h hz hs e2)
  exact ⟨l2, o2, e2, by rw [upd_ne nl]; exact h2, by rw [upd_ne nl]; exact g2, r2.mono s2⟩
 ·exact s.sr.dst j k z z' a (set_own h1 hz).2 hz (set_own h2 hz').2 hz' e1 e2
 ·rw [upd_ne (ne_of_none e hB)]; exact s.ext.hh _ _ e
 ·by_cases hb : b = l
  ·subst hb; exact .inr hB
  ·rw [upd_ne hb] at e; exact s.ext.nw _ _ e
 ·exact s.nob j z a (set_own h1 hz).2 hz h2
end
end TW
end
section
namespace TW
open PySem PySem.Spec PyProof.Rows L2
section
variable {X : Cx}
theorem ps_imp {st : Stmt} {t t' : TS} (h : PS X st t) (i : ∀ E σ H, t' E σ H -> t E σ H) : PS X st t' := fun pins s σ H E I q => h pins s σ H E I (i E σ H q)
theorem pss_imp {st : List Stmt} {t t' : TS} (h : PSs X st t) (i : ∀ E σ H, t' E σ H -> t E σ H) : PSs X st t' := fun pins s σ H E I q => h pins s σ H E I (i E σ H q)
theorem Ext.join {G0 B G1 H1 G2 H2 : Hp} (a : Ext G0 B G1 H1) (b : Ext G1 B G2 H2) : Ext G0 B G2 H2 := ⟨a.gg.trans b.gg, b.hh, b.gh, fun c o e => (b.nw c o e).elim (a.nw c o) .inr⟩
theorem OkS.rebase {G0 B G H : Hp} {σ : L2.St} {ρ : En} (s : OkS G0 B G H σ ρ) : OkS G B G H σ ρ := ⟨s.sr, ⟨Same.refl _, s.ext.hh, s.sr.gh, fun _ _ e => .inl e⟩, s.nob⟩
theorem OkS.unbase {G0 B G1 H1 G2 H2 : Hp} {σ : L2.St} {ρ : En} (a : Ext G0 B G1 H1) (s : OkS G1 B G2 H2 σ ρ) : OkS G0 B G2 H2 σ ρ := ⟨s.sr, a.join s.ext, s.nob⟩
noncomputable def DAs (X : Cx) (st : Stmt) (i : Nat) (g : En -> Option (Kd × D)) : Prop := ∀ ρ x, g ρ = some x -> PS X st (tAsg (tD ρ x) (gName i))
theorem das_set {i : Nat} {x : Str} {e : Expr} {g : En -> Option (Kd × D)} {pos pos' : Pos} (hN : X.N.Nodup) (hi : X.N[i]? = some x) (hx : Loc X.env.scope x) (hf : X.fn x = true \/ X.env.scope.names.lookup x = some .local) (he : DE X e g)
  (hs : swapsWith e (some (.Name x pos')) pos.line X.env = pure false) : DAs X (.Assign [.Name x pos'] e pos) i g := fun ρ y ey => ps_set hN hi hx (he ρ y ey) hs hf
theorem das_comp {scope : Scope} {N' : List Str} {cap : List (Option Nat)} {elt target iter : Expr} {ifs : List Expr} {pos spos py : Pos} {y : Str} {i : Nat} {tg : Tg} {gi : En -> Option (Kd × List D)} {gc : En -> Option Bool} {ge : En -> Option (Kd × D)}
  (B : BlkOk X scope N' cap) (nd : ∀ (i j k : Nat), cap[i]? = some (some k) -> cap[j]? = some (some k) -> i = j) (hcalm : X.calm = true) (hi : DI X target iter gi)
  (hg : ∀ s H fp, DG (blkX X scope N' s H fp) target tg) (hc : ∀ s H fp, DTs (blkX X scope N' s H fp) ifs gc) (he : ∀ s H fp, DE (blkX X scope N' s H fp) elt ge)
  (hs : ∀ x, foldedSetIterable iter X.env x = pure x) (hN : X.N.Nodup) (hy : X.N[i]? = some y) (hl : X.env.kindOf y = some .local)
  (hsw : swapsWith (.ListComp elt [⟨target, iter, ifs, 0⟩] scope pos) (some (.Name y py)) spos.line X.env = pure true) :
  DAs X (.Assign [.Name y py] (.ListComp elt [⟨target, iter, ifs, 0⟩] scope pos) spos) i (fun ρ => (gi ρ).bind fun ds => if ds.2.length <= lim /\ freeT cap tg = true then
   (compGo (fun d => (bindT tg d (TW.capt ρ cap)).bind fun q => (gc q).bind fun k => if k then ((ge q).bind TW.frz).map some else some none) ds.2).map fun l => (.fr, .lst l)
  else none) := by
 intro ρ x q
 obtain ⟨ds, eds, q⟩ := bnd q
 split at q
 case isFalse => cases q
 rename_i hh
 obtain ⟨l, el, rfl⟩ := mpd q
 exact ps_imp (ps_comp B hcalm (hi ρ ds eds) hg (fun s H fp => (hc s H fp).x) (fun s H fp => (he s H fp).x) hs hN hy hl hsw) fun E σ H q => tD_comp hh.1 hh.2 nd el σ H _ q
theorem ds_asg {st : Stmt} {i : Nat} {g : En -> Option (Kd × D)} (o : Bool) (h : DAs X st i g) : DS X st (fun ρ => (g ρ).bind fun x => match o, x with
  | true, (.fr, .lst ds) => some (.nx (ρ.set i (some (.own ds))))
  | _, x => (TW.frz x).map fun d => .nx (ρ.set i (some (.val d)))) := by
 intro ρ f e
 obtain ⟨x, ex, e⟩ := bnd e
 refine ps_imp (h ρ x ex) ?_
 rintro E σ H ⟨G0, B, G, s, k⟩
 refine ⟨G, s.sr, fun v H1 G1 x1 r1 => ?_⟩
 show E.nx (σ.set i (some v)) H1
 split at e
 ·rename_i ds
  cases e
  obtain ⟨l, xs, es, ee, rfl, h1, h2, h3, rs⟩ := r1
  cases ee
  exact k _ _ _ (s.setO x1 h1 h2 h3 rs)
 ·obtain ⟨d, ed, hf⟩ := mpd e
  subst hf
  obtain ⟨G2, x2, s2, rp⟩ := r1.frz x1 ed
  exact k _ _ _ ((s.grow x2).setV rp)
theorem ds_app {i : Nat} {x : Str} {e : Expr} {g : En -> Option (Kd × D)} {p1 apos cpos pos : Pos} (hN : X.N[i]? = some x) (hv : Vis X.env.scope x) (hd : (x == ("__debug__" : Str)) = false) (hcd : (x == ("__classdict__" : Str)) = false)
  (he : DE X e g) (hs : starEach [e] X.env = [(false, eval e X.env)]) (hline : (apos.endLine == cpos.line) = true) :
  DS X (.Expr (.Call (.Attribute (.Name x p1) "append" apos) [e] [] cpos) pos) (fun ρ => ((g ρ).bind TW.frz).bind fun d => match ρ[i]? with
   | some (some (.own ds)) => if ds.length < lim then some (.nx (ρ.set i (some (.own (ds ++ [d]))))) else none
   | _ => none) := by
 intro ρ f q
 obtain ⟨d, ed, q⟩ := bnd q
 obtain ⟨y, ey, ef⟩ := bnd ed
 split at q
 case h_2 => cases q
 rename_i ds ho
 split at q
 case isFalse => cases q
 rename_i hl
 cases q
 refine ps_imp (ps_expr (pe_bm PySem.F.plainAttrs_list PySem.F.slot_list_append PySem.F.type_list_append mt_append (pe_var hN hv hd hcd) (pa_cons (he ρ y ey) pa_nil hs) rfl (by rw [hs]; rfl) hline hs rfl) rfl) ?_
 rintro E σ H ⟨G0, B, G, s, k⟩
 obtain ⟨l, xs, hs', hl', hg, r⟩ := s.sr.own i ds ho
 refine ⟨.ref l, hs', .inl ⟨rfl, xs, .inl (.inl hl')⟩, G, s.sr, fun v H1 G1 x1 r1 => ?_⟩
 obtain ⟨G2, x2, s2, rp⟩ := r1.frz x1 ef
 refine ⟨l, xs, v, rfl, rfl, x2.hh _ _ hl', ?_, ?_⟩
 ·rw [r.length]; exact Nat.lt_of_lt_of_le hl lim_line
 ·exact k _ _ _ ((s.grow x2).change ho hs' (Rps.append (Rps.mono x2.gg _ _ r) (Rps.cons rp Rps.nil)))
theorem Rps.erase {G : Hp} : ∀ {ds : List D} {vs : List V} (j : Nat), Rps G ds vs -> Rps G (ds.eraseIdx j) (vs.eraseIdx j)
 | [], vs, _, h => by
  have e : vs = [] := by simpa [Rps] using h
  subst e
  simpa using h
 | d :: ds, vs, j, h => by
  obtain ⟨v, r, rfl, h1, h2⟩ := h
  cases j with
  | zero => exact h2
  | succ j => exact Rps.cons h1 (Rps.erase j h2)
theorem ds_if {c : Expr} {a b : List Stmt} {gc : En -> Option Bool} {ga gb : En -> Option Fl} {pos : Pos} (hc : DT X c gc) (ha : DSs X a ga) (hb : DSs X b gb) : DS X (.If c a b pos) (fun ρ => (gc ρ).bind fun k => if k then ga ρ else gb ρ) := by
 intro ρ f q
 obtain ⟨k, ek, q⟩ := bnd q
 cases k with
 | false =>
  rw [if_neg Bool.false_ne_true] at q
  refine ps_imp (ps_if (hc ρ false ek) pss_never (hb ρ f q)) ?_
  rintro E σ H ⟨G0, B, G, s, c⟩
  exact ⟨G, s.sr, fun H1 G1 x1 => iteF ⟨G0, B, G1, s.grow x1, c⟩⟩
 | true =>
  rw [if_pos rfl] at q
  refine ps_imp (ps_if (hc ρ true ek) (ha ρ f q) pss_never) ?_
  rintro E σ H ⟨G0, B, G, s, c⟩
  exact ⟨G, s.sr, fun H1 G1 x1 => iteT ⟨G0, B, G1, s.grow x1, c⟩⟩
theorem ds_ret {e : Expr} {g : En -> Option (Kd × D)} {pos : Pos} (he : DE X e g) : DS X (.Return (some e) pos) (fun ρ => ((g ρ).bind TW.frz).map Fl.rt) := by
 intro ρ f q
 obtain ⟨d, ed, rfl⟩ := mpd q
 obtain ⟨y, ey, ef⟩ := bnd ed
 refine ps_imp (ps_ret (he ρ y ey)) ?_
 rintro E σ H ⟨G0, B, G, s, k⟩
 refine ⟨G, s.sr, fun v H1 G1 x1 r1 => ?_⟩
 obtain ⟨G2, x2, s2, rp⟩ := r1.frz x1 ef
 exact k v H1 G2 (s.ext.trans x2) rp
theorem ds_pass {pos : Pos} : DS X (.Pass pos) (fun ρ => some (.nx ρ)) := by
 intro ρ f q
 cases q
 refine ps_imp ps_pass ?_
 rintro E σ H ⟨G0, B, G, s, k⟩
 exact k σ H G s
theorem ds_never {st : Stmt} : DS X st (fun _ => none) := fun ρ f q => by cases q
theorem dss_nil : DSs X [] (fun ρ => some (.nx ρ)) := by
 intro ρ f q
 cases q
 refine pss_imp pss_nil ?_
 rintro E σ H ⟨G0, B, G, s, k⟩
 exact k σ H G s
theorem dss_cons {st : Stmt} {rest : List Stmt} {g1 g2 : En -> Option Fl} (h1 : DS X st g1) (h2 : DSs X rest g2) : DSs X (st :: rest) (fun ρ => (g1 ρ).bind fun o => match o with
  | .nx q => g2 q
  | x => some x) := by
 intro ρ f q
 obtain ⟨o, eo, q⟩ := bnd q
 cases o with
 | nx r =>
  refine pss_imp (pss_cons (h1 ρ _ eo) (h2 r f q)) ?_
  rintro E σ H ⟨G0, B, G, s, c⟩
  exact ⟨G0, B, G, s, fun σ' H' G' s' => ⟨G0, B, G', s', c⟩⟩
 | rt d =>
  cases q
  refine pss_imp (pss_cons (h1 ρ _ eo) pss_never) ?_
  rintro E σ H ⟨G0, B, G, s, c⟩
  exact ⟨G0, B, G, s, c⟩
 | bk d =>
  cases q
  refine pss_imp (pss_cons (h1 ρ _ eo) pss_never) ?_
  rintro E σ H ⟨G0, B, G, s, c⟩
  exact ⟨G0, B, G, s, c⟩
 | ct d =>
  cases q
  refine pss_imp (pss_cons (h1 ρ _ eo) pss_never) ?_
  rintro E σ H ⟨G0, B, G, s, c⟩
  exact ⟨G0, B, G, s, c⟩
theorem inv_frozen {pins : List (Addr × Obj)} {σ : L2.St} {H : Hp} {s : Shared} (I : Inv X pins σ H s) {l : Addr} {kvs : List (Key × V)} {ob : Obj} (hl : H l = some (.dK kvs)) (ho : s.heap.get? l = some ob) :
  Inv X pins σ (upd H l (.frz ob (.dK kvs))) s := by
 have nn : ∀ b, H b = none -> upd H l (.frz ob (.dK kvs)) b = none := fun b e => by
  rw [upd_ne (fun z => by subst z; rw [hl] at e; cases e)]; exact e
 have tp : ∀ b xs, H b = some (.tup xs) -> upd H l (.frz ob (.dK kvs)) b = some (.tup xs) := fun b xs e => by
  rw [upd_ne (fun z => by subst z; rw [hl] at e; cases e)]; exact e
 have ow : ∀ b c, H b = some (.own c) -> upd H l (.frz ob (.dK kvs)) b = some (.own c) := fun b c e => by
  rw [upd_ne (fun z => by subst z; rw [hl] at e; cases e)]; exact e
 refine ⟨I.ok, I.os, I.bare, ⟨I.base.keep, I.base.slot, fun b o e n hx => nn b (I.base.free b o e n hx), I.base.there, fun b xs e => tp b xs (I.base.tups b xs e), fun b o u e => ?_, fun b ps e => ?_⟩, I.loc, I.cell, nn _ I.free, fun x c e => nn _ (I.freeC x c e),
  fun p hp => ⟨(I.pin p hp).1, nn _ (I.pin p hp).2.1, (I.pin p hp).2.2⟩, fun b u e => ?_, I.len⟩
 ·have := I.base.frzs b o u e
  rw [upd_ne (fun z => by subst z; rw [hl] at this; cases this)]; exact this
 ·obtain ⟨more, q⟩ := I.base.tbls b ps e
  exact ⟨more, by rw [upd_ne (fun z => by subst z; rw [hl] at q; cases q)]; exact q⟩
 ·by_cases hb : b = l
  ·subst hb
   rw [upd_same] at e
   cases e
   refine ⟨ho, ?_⟩
   exact (I.hok b _ hl).stay (fun c v _ q => q) (fun c q => ow c _ q) (fun c xs q => tp c xs q)
  ·rw [upd_ne hb] at e
   exact (I.hok b u e).stay (fun c v _ q => q) (fun c q => ow c _ q) (fun c xs q => tp c xs q)
theorem dss_give {sts : List Stmt} {i : Nat} {g : En -> Option Fl} (h : DSs X sts g) : DSs X sts (fun ρ => (match ρ[i]? with
  | some (some (.own ds)) => some (.nx (ρ.set i (some (.val (.lst ds)))))
  | some (some (.ownd ks ds)) => some (.nx (ρ.set i (some (.val (.dct ks ds)))))
  | _ => none : Option Fl).bind fun o => match o with
  | .nx q => g q
  | x => some x) := by
 intro ρ f q
 obtain ⟨o, eo, q⟩ := bnd q
 split at eo
 ·rename_i ds ho
  cases eo
  refine pss_imp (h _ f q) ?_
  rintro E σ H ⟨G0, B, G, s, c⟩
  obtain ⟨G2, s2⟩ := s.give ho
  exact ⟨G0, B, G2, s2, c⟩
 ·rename_i ks ds ho
  cases eo
  intro pins s σ H E I ⟨G0, B, G, ok, c⟩
  obtain ⟨l, kvs, hl, k⟩ := ok.giveD ho
  obtain ⟨_, _, vs, _, dd⟩ := dk_of I.hok hl
  obtain ⟨ob, _, _, hob, _⟩ := dd
  obtain ⟨G2, ok2⟩ := k ob
  exact h _ f q pins s σ _ E (inv_frozen I hl hob) ⟨G0, B, G2, ok2, c⟩
 ·cases eo
theorem ds_dnew {i : Nat} {x : Str} {k v : Expr} {gk gv : En -> Option (Kd × D)} {p1 dpos pos : Pos} (hN : X.N.Nodup) (hi : X.N[i]? = some x) (hx : Loc X.env.scope x) (hf : X.fn x = true \/ X.env.scope.names.lookup x = some .local)
  (hk : DE X k gk) (hv : DE X v gv) (hs : swapsWith (.Dict [some k] [v] dpos) (some (.Name x p1)) pos.line X.env = pure false) :
  DS X (.Assign [.Name x p1] (.Dict [some k] [v] dpos) pos) (fun ρ => (gk ρ).bind fun y => ((gv ρ).bind TW.frz).bind fun d => match y.2 with
   | .int a => some (.nx (ρ.set i (some (.ownd [a] [d]))))
   | _ => none) := by
 intro ρ f q
 obtain ⟨⟨ky, dy⟩, ey, q⟩ := bnd q
 obtain ⟨d, ed, q⟩ := bnd q
 obtain ⟨z, ez, ef⟩ := bnd ed
 obtain ⟨a, rfl⟩ : ∃ a, dy = .int a := by cases dy <;> first | exact no_some q | exact ⟨_, rfl⟩
 cases q
 refine ps_imp (ps_set hN hi hx (pe_disp (pps_cons (hk ρ _ ey) (hv ρ _ ez) pps_nil) rfl rfl (by simp) (by simp)) hs hf) ?_
 rintro E σ H ⟨G0, B, G, s, c⟩
 intro p hp
 have x0 : Ext G H G (upd H p (.dK [])) := Ext.grown s.sr.gh hp _
 refine ⟨G, (s.grow x0).sr, fun u H1 G1 x1 r1 => ⟨G1, ((s.grow x0).grow x1).sr, fun w H2 G2 x2 r2 => ?_⟩⟩
 have hu : u = .int a := r1.rb x1.gh
 obtain ⟨G3, x3, s3, rp⟩ := r2.frz x2 ef
 have hp2 : H2 p = some (.dK []) := x3.hh _ _ (x1.hh _ _ upd_same)
 have g0 : G p = none := s.sr.gh.free hp
 have g1 : G1 p = none := by
  cases q : G1 p with
  | none => rfl
  | some o =>
   rcases x1.nw p o q with z | z
   ·rw [g0] at z; cases z
   ·rw [upd_same] at z; cases z
 have g3 : G3 p = none := by
  cases q : G3 p with
  | none => rfl
  | some o =>
   rcases x3.nw p o q with z | z
   ·rw [g1] at z; cases z
   ·rw [x1.hh _ _ upd_same] at z; cases z
 refine ⟨hp2, [(Sum.inl a, w)], by rw [hu]; rfl, by simp, ?_⟩
 have xx := (x0.trans x1).trans x3
 have ex : Ext G H G3 (upd H2 p (.dK (mergeK [] [(Sum.inl a, w)]))) := by
  refine ⟨xx.gg, fun b o e => ?_, fun b o e => ?_, xx.nw⟩
  ·rw [upd_ne (ne_of_none e hp)]; exact xx.hh _ _ e
  ·rw [upd_ne (ne_of_none e g3)]; exact xx.gh _ _ e
 exact c _ _ _ (s.setW ex (y := .ownd [a] [d]) rfl upd_same g3 hp ⟨[w], rfl, rfl, Rps.cons rp Rps.nil⟩)
theorem zipK_snoc {ks : List Int} {xs : List V} (h : xs.length = ks.length) (a : Int) (v : V) : zipK (ks ++ [a]) (xs ++ [v]) = zipK ks xs ++ [(Sum.inl a, v)] := by
 unfold zipK
 rw [List.map_append, List.zip_append (by simp [h])]
 rfl
theorem ds_dset {i : Nat} {x : Str} {k v : Expr} {gk gv : En -> Option (Kd × D)} {p1 tpos pos : Pos} (hu : X.A.units + 64 < cLine) (hN : X.N[i]? = some x) (hvis : Vis X.env.scope x) (hd : (x == ("__debug__" : Str)) = false) (hcd : (x == ("__classdict__" : Str)) = false)
  (hk : DE X k gk) (hv : DE X v gv) (hs : swapsWith v (some (.Subscript (.Name x p1) k tpos)) pos.line X.env = pure false) :
  DS X (.Assign [.Subscript (.Name x p1) k tpos] v pos) (fun ρ => (gk ρ).bind fun y => ((gv ρ).bind TW.frz).bind fun d => match y.2, ρ[i]? with
   | .int a, some (some (.ownd ks ds)) => if ks.length < lim /\ a ∉ ks then some (.nx (ρ.set i (some (.ownd (ks ++ [a]) (ds ++ [d]))))) else none
   | _, _ => none) := by
 intro ρ f q
 obtain ⟨⟨ky, dy⟩, ey, q⟩ := bnd q
 obtain ⟨d, ed, q⟩ := bnd q
 obtain ⟨z, ez, ef⟩ := bnd ed
 obtain ⟨a, rfl⟩ : ∃ a, dy = .int a := by cases dy <;> first | exact no_some q | exact ⟨_, rfl⟩
 dsimp only at q
 split at q
 case h_2 => cases q
 rename_i a' ks ds hdy ho
 cases hdy
 obtain ⟨⟨hlim, hna⟩, rfl⟩ := if_some q
 refine ps_imp (ps_dput (by omega) (pe_var hN hvis hd hcd) (hk ρ _ ey) (hv ρ _ ez) hs) ?_
 rintro E σ H ⟨G0, B, G, s, c⟩
 refine ⟨G, s.sr, fun w H1 G1 x1 r1 => ?_⟩
 obtain ⟨G2, x2, s2, rp⟩ := r1.frz x1 ef
 have ok1 := s.grow x2
 obtain ⟨l, xs, hs', hl', hg, hlen, r⟩ := ok1.sr.ownd i ks ds ho
 refine ⟨.ref l, hs', G2, ok1.sr, fun u H3 G3 x3 r3 => ?_⟩
 have hu' : u = .int a := r3.rb x3.gh
 subst hu'
 have ok3 := ok1.grow x3
 have hl3 := x3.hh _ _ hl'
 have rl := r.length
 refine ⟨l, _, rfl, .inl ⟨_, .inl a, hl3, rfl, ?_, rfl⟩, ?_⟩
 ·have : (zipK ks xs).length <= ks.length := by unfold zipK; rw [List.length_zip, List.length_map]; omega
  exact Nat.lt_of_le_of_lt this (Nat.lt_of_lt_of_le hlim lim_line)
 ·have hnone : valV (zipK ks xs) (Sum.inl a : Key) = none := by
   have := (val_zip (i := a) hlen r).1
   rw [decide_eq_false hna] at this
   cases q : valV (zipK ks xs) (Sum.inl a : Key) with
   | none => rfl
   | some w => rw [q] at this; cases this
  rw [putK_new w hnone, <- zipK_snoc (by omega)]
  exact c _ _ _ (ok3.changeW ho rfl hs' (y := .ownd (ks ++ [a]) (ds ++ [d])) rfl ⟨xs ++ [w], rfl, by simp [hlen], Rps.append (Rps.mono x3.gg _ _ r) (Rps.cons (Rp.mono x3.gg _ _ rp) Rps.nil)⟩)
noncomputable def xS (g : En -> Option Fl) : TS := fun E σ H => ∃ ρ f, g ρ = some f /\ tS ρ f E σ H
theorem DSs.x {st : List Stmt} {g : En -> Option Fl} (h : DSs X st g) : PSs X st (xS g) := fun pins s σ H E I ⟨ρ, f, e, q⟩ => h ρ f e pins s σ H E I q
theorem DT.x {e : Expr} {g : En -> Option Bool} (h : DT X e g) : PT X e (xT g) := fun pins s σ H Q I ⟨ρ, b, e, q⟩ => h ρ b e pins s σ H Q I q
theorem ds_for {tg iter : Expr} {body : List Stmt} {t : Tg} {gi : En -> Option (Kd × List D)} {gb : En -> Option Fl} {pos : Pos} (hp : PassesOwn (model X.prog X.w) X.A X.env X.xe) (hc : X.calm = true) (hi : DI X tg iter gi) (hg : DG X tg t) (hb : DSs X body gb)
  (hs : ∀ x, foldedSetIterable iter X.env x = pure x) : DS X (.For tg iter body [] pos) (fun ρ => (gi ρ).bind fun ds => match ds.1 with
   | .bo => none
   | _ => loopF t gb ds.2 ρ) := by
 intro ρ f q
 obtain ⟨⟨k, ds⟩, ei, q⟩ := bnd q
 have hk : k ≠ .bo := fun z => by subst z; cases q
 have q' : loopF t gb ds ρ = some f := by
  cases k with
  | bo => cases q
  | fz => exact q
  | fr => exact q
 clear q
 refine ps_imp (ps_for hp hc (hi ρ _ ei) hg hb.x hs) ?_
 rintro E σ H ⟨G0, B, G, s, c⟩
 refine ⟨G, s.sr, fun J H1 G1 x1 _ it1 => ?_⟩
 have it := it1 hk
 refine ⟨fun i m σ' H' => m = ds.length - i /\ i <= ds.length /\ ∃ ρ' G', Same G1 G' /\ OkS G0 B G' H' σ' ρ' /\ loopF t gb (ds.drop i) ρ' = some f, ⟨ds.length, rfl, Nat.zero_le _, ρ, G1, Same.refl _, s.grow x1, by simpa using q'⟩, ?_⟩
 rintro i m σ' H' ⟨rfl, hi, ρ', G', g1, s', lp⟩
 have P : Same G1 G' /\ Same G' H' := ⟨g1, s'.sr.gh⟩
 by_cases hlt : i < ds.length
 ·right
  have ed : ds[i]? = some ds[i] := by simp [hlt]
  obtain ⟨jgo, jy⟩ := (it i G' H' P).1 _ ed
  refine ⟨jgo, fun σ3 H3 => ∃ ρ3 G3, Same G1 G3 /\ OkS G0 B G3 H3 σ3 ρ3 /\ loopF t gb (ds.drop (i + 1)) ρ3 = some f, fun σ3 H3 ⟨ρ3, G3, a, b, d⟩ => ⟨_, ?_, rfl, hlt, ρ3, G3, a, b, d⟩, fun x H2 hy => ?_⟩
  ·omega
  obtain ⟨G2, x2, rx⟩ := jy x H2 hy
  rw [List.drop_eq_getElem_cons hlt] at lp
  obtain ⟨q1, eb, lp⟩ := bnd lp
  obtain ⟨o, eo, lp⟩ := bnd lp
  refine ⟨G2, _, x2.gh, rx, bindT_len eb, fun σ2 bd => ?_⟩
  have s2 := (s'.grow x2).bound bd eb
  refine ⟨q1, o, eo, G2, B, G2, s2.rebase, ?_⟩
  cases o with
  | nx q2 => exact fun σ3 H3 G3 s3 => ⟨q2, G3, (g1.trans x2.gg).trans s3.ext.gg, s3.unbase s2.ext, lp⟩
  | ct q2 => exact fun σ3 H3 G3 s3 => ⟨q2, G3, (g1.trans x2.gg).trans s3.ext.gg, s3.unbase s2.ext, lp⟩
  | bk q2 =>
   cases lp
   exact fun σ3 H3 G3 s3 => c _ _ _ (s3.unbase s2.ext)
  | rt d =>
   cases lp
   exact fun v H3 G3 x3 r3 => c v H3 G3 (s2.ext.join x3) r3
 ·left
  have e : i = ds.length := by omega
  subst e
  rw [List.drop_length] at lp
  cases lp
  exact ⟨(it _ G' H' P).2 (Nat.le_refl _), c _ _ _ s'⟩
end
theorem enter_ok {G H : Hp} (gh : Same G H) (tb : Tb G) {N : List Str} {ds : List D} {vs : List V} (r : Rps G ds vs) : OkS G H G H (L2.start N vs) (enter N.length ds) := by
 have hl := r.length
 have noO : ∀ (i : Nat) (es : Sl), (enter N.length ds)[i]? = some (some es) -> ¬ es.isO = true := fun i es h ho => by
  unfold enter at h
  by_cases hi : i < ds.length
  ·rw [List.getElem?_append_left (by simpa using hi), List.getElem?_map] at h
   obtain ⟨d, _, e⟩ := Option.map_eq_some_iff.mp h
   cases e
   cases ho
  ·rw [List.getElem?_append_right (by simpa using hi), List.getElem?_replicate] at h
   split at h <;> cases h
 refine ⟨⟨⟨?_, fun i d h => ?_, fun i es h ho => absurd ho (noO i es h), fun i j es es' l h ho => absurd ho (noO i es h)⟩, gh, tb⟩, .refl gh, fun i es l h ho => absurd ho (noO i es h)⟩
 ·simp [L2.start, enter, hl]
 ·unfold enter at h
  by_cases hi : i < ds.length
  ·rw [List.getElem?_append_left (by simpa using hi), List.getElem?_map] at h
   obtain ⟨d', e1, e2⟩ := Option.map_eq_some_iff.mp h
   cases e2
   obtain ⟨v, ev, rv⟩ := r.get e1
   refine ⟨v, ?_, rv⟩
   unfold L2.start
   rw [List.getElem?_append_left (by rw [List.length_map, hl]; exact hi), List.getElem?_map, ev]
   rfl
  ·rw [List.getElem?_append_right (by simpa using hi), List.getElem?_replicate] at h
   split at h <;> cases h
theorem fnD {P : Program} {w : World} {K : PySem.W.Frag} {mg : Str -> Option Value} {base : Heap} {x qual : Str} {st : Stmt} {f : Addr} {fd : FuncData} {N ps : List Str} {k : Nat} {g : En -> Option Fl} (F : Fun K x qual st f fd) (S : FnScope N ps (defScope st))
  (hb : ∀ (cdv : Value) (A : Around) (outer : List Env) (s : Shared) (H : Hp) (E : XK), Room k (A.deeper (envOfC qual (defScope st) s.heap.objs.size f cdv)) -> DSs (cxOf CX0 P w K mg base N qual (defScope st) f cdv A outer s H E).nox (defBody st) g) :
  FnOk P w K mg base CX0 (k + 1) f fd ps (spD ps.length fun ds => left (g (enter N.length ds))) := by
 refine F.ok S (fun vs H Q E h => ?_) (fun cdv A outer s H vs Q E hr h => ?_)
 ·obtain ⟨G, ds, d, _, r, hl, _⟩ := h
  rw [r.length, hl]
 ·obtain ⟨G, ds, d, gh, r, hl, e, k'⟩ := h
  dsimp only at e
  have s0 := enter_ok (N := N) gh.1 gh.2 r
  cases o : g (enter N.length ds) with
  | none => rw [o] at e; cases e
  | some fl =>
   rw [o] at e
   refine ⟨_, hb cdv A outer s H E hr _ _ o, G, H, G, s0, ?_⟩
   cases fl with
   | rt d' => cases e; exact fun v H' G' x r => k' v H' G' x r
   | nx ρ' => cases e; exact fun σ' H' G' s' => k' _ H' G' s'.ext rfl
   | bk _ => cases e
   | ct _ => cases e
end TW
end
section
namespace TW
open PySem PySem.W PyProof.Rows
section
variable {c : Nat -> Nat -> Bool} {n : Nat}
noncomputable def post {α : Type} (c : Nat -> Nat -> Bool) (n : Nat) : KasT α -> (α -> Prop) -> Prop
 | .ret a, Q => Q a
 | .ask i j k, Q => i < n /\ j < n /\ post c n (k (c i j)) Q
theorem post_bind {α β : Type} {f : α -> KasT β} {Q : β -> Prop} : ∀ (t : KasT α), post c n (t.bind f) Q ↔ post c n t fun a => post c n (f a) Q
 | .ret a => Iff.rfl
 | .ask i j k => by
  show (i < n /\ j < n /\ post c n ((k (c i j)).bind f) Q) ↔ _
  rw [post_bind (k (c i j))]
  rfl
theorem post_mono {α : Type} {P Q : α -> Prop} (h : ∀ a, P a -> Q a) : ∀ (t : KasT α), post c n t P -> post c n t Q
 | .ret a, p => h a p
 | .ask i j k, p => ⟨p.1, p.2.1, post_mono h _ p.2.2⟩
theorem post_wp {α : Type} {cmp : Nat -> Nat -> (Bool -> Shared -> Prop) -> Shared -> Prop} {s : Shared} (hc : ∀ i j C, i < n -> j < n -> C (c i j) s -> cmp i j C s) {P : α -> Prop} {Q : α -> Shared -> Prop} (h : ∀ a, P a -> Q a s) : ∀ (t : KasT α), post c n t P -> t.kasWp cmp Q s
 | .ret a, p => h a p
 | .ask i j k, p => hc i j _ p.1 p.2.1 (post_wp hc h (k (c i j)) p.2.2)
structure Ord (c : Nat -> Nat -> Bool) : Prop where
 tr : ∀ {i j k}, c j i = false -> c k j = false -> c k i = false
 as : ∀ {i j}, c i j = true -> c j i = false
noncomputable def le (c : Nat -> Nat -> Bool) (i j : Nat) : Prop := c j i = false
noncomputable def gp (p : Array Nat) (t : Nat) : Nat := p.getD t 0
theorem gp_eq (p : Array Nat) (t : Nat) : gp p t = (p[t]?).getD 0 := by
 unfold gp
 rw [Array.getD_eq_getD_getElem?]
structure PG (n : Nat) (p : Array Nat) : Prop where
 sz : p.size = n
 pm : p.toList.Perm (List.range n)
theorem PG.lt {p : Array Nat} (h : PG n p) (h0 : 0 < n) (t : Nat) : gp p t < n := by
 rw [gp_eq]
 cases e : p[t]? with
 | none => simpa using h0
 | some x =>
  have : x ∈ p.toList := by
   have := Array.mem_of_getElem? e
   simpa using this
  have := h.pm.mem_iff.mp this
  simpa using this
theorem PG.rev {p : Array Nat} (h : PG n p) (i j : Nat) : PG n (kas_rev p i j) :=
 ⟨(mirror_size _ _ _ _).trans h.sz, (Array.perm_iff_toList_perm.mp (mirror_perm p i j _)).trans h.pm⟩
theorem PG.bub {p : Array Nat} (h : PG n p) (k d : Nat) : PG n (bubble p k d) :=
 ⟨(bubble_size _ _ _).trans h.sz, (Array.perm_iff_toList_perm.mp (bubble_perm p k d)).trans h.pm⟩
theorem gp_rev {p : Array Nat} {i j : Nat} (hj : j <= p.size) (k : Nat) : gp (kas_rev p i j) k = if i <= k /\ k < j then gp p (i + j - 1 - k) else gp p k := by
 rw [gp_eq]
 unfold kas_rev
 rw [getElem?_mirror_all hj k]
 split <;> rw [gp_eq]
theorem gp_bub {p : Array Nat} {k d : Nat} (hk : k < p.size) (hd : d <= k) (t : Nat) : gp (bubble p k d) t = if t = k - d then gp p k else if k - d < t /\ t <= k then gp p (t - 1) else gp p t := by
 rw [gp_eq, getElem?_bubble hk d hd t]
 split
 ·rw [gp_eq]
 ·split <;> rw [gp_eq]
variable (O : Ord c)
noncomputable def Up (c : Nat -> Nat -> Bool) (p : Array Nat) (m : Nat) : Prop := ∀ t, 1 <= t -> t < m -> le c (gp p (t - 1)) (gp p t)
noncomputable def Dn (c : Nat -> Nat -> Bool) (p : Array Nat) (m : Nat) : Prop := ∀ t, 1 <= t -> t < m -> le c (gp p t) (gp p (t - 1))
include O
theorem Up.all {p : Array Nat} {m : Nat} (h : Up c p m) : ∀ d i, i + d < m -> le c (gp p i) (gp p (i + d))
 | 0, i, _ => by
  show c (gp p i) (gp p i) = false
  cases e : c (gp p i) (gp p i) with
  | false => rfl
  | true => exact e.symm.trans (O.as e)
 | d + 1, i, hi => O.tr (Up.all h d i (by omega)) (h (i + d + 1) (by omega) hi)
theorem asc_post {p : Array Nat} (g : PG n p) (h0 : 0 < n) : ∀ (f a : Nat), 1 <= a -> post c n (kas_asc p f a) fun m => a <= m /\ m <= a + f /\ (∀ t, a <= t -> t < m -> le c (gp p (t - 1)) (gp p t)) /\ (m < a + f -> c (gp p m) (gp p (m - 1)) = true)
 | 0, a, h => ⟨Nat.le_refl _, Nat.le_refl _, fun t h1 h2 => by omega, fun h => by omega⟩
 | f + 1, a, h => by
  refine ⟨g.lt h0 a, g.lt h0 (a - 1), ?_⟩
  cases e : c (p.getD a 0) (p.getD (a - 1) 0) with
  | true => exact ⟨Nat.le_refl _, by omega, fun t h1 h2 => by omega, fun _ => e⟩
  | false =>
   refine post_mono (fun m hm => ?_) _ (asc_post g h0 f (a + 1) (by omega))
   obtain ⟨m1, m2, m3, m4⟩ := hm
   refine ⟨by omega, by omega, fun t h1 h2 => ?_, fun h => m4 (by omega)⟩
   by_cases ht : t = a
   ·subst ht; exact e
   ·exact m3 t (by omega) h2
structure DQ (c : Nat -> Nat -> Bool) (p : Array Nat) (m q : Nat) : Prop where
 dn : Dn c p m
 lt : q < m
 eq : ∀ t, m - q <= t -> t < m -> le c (gp p (t - 1)) (gp p t)
theorem DQ.turn {p : Array Nat} {m q : Nat} (h : DQ c p m q) (hm : m <= p.size) : Dn c (kas_rev p (m - (q + 1)) m) m /\ ∃ x y, gp (kas_rev p (m - (q + 1)) m) (m - 1) = x /\ gp p (m - 1) = y /\ le c x y /\ le c y x := by
 have al : ∀ t, m - (q + 1) <= t -> t < m -> le c (gp p t) (gp p (m - 1)) /\ le c (gp p (m - 1)) (gp p t) := by
  intro t h1 h2
  have key : ∀ d, d <= q -> le c (gp p (m - 1 - d)) (gp p (m - 1)) /\ le c (gp p (m - 1)) (gp p (m - 1 - d)) := by
   intro d
   induction d with
   | zero =>
    intro _
    have r : le c (gp p (m - 1)) (gp p (m - 1)) := by
     show c (gp p (m - 1)) (gp p (m - 1)) = false
     cases e : c (gp p (m - 1)) (gp p (m - 1)) with
     | false => rfl
     | true => exact e.symm.trans (O.as e)
    exact ⟨r, r⟩
   | succ d ih =>
    intro hd
    obtain ⟨i1, i2⟩ := ih (by omega)
    have e1 := h.eq (m - 1 - d) (by omega) (by have := h.lt; omega)
    have e2 := h.dn (m - 1 - d) (by have := h.lt; omega) (by have := h.lt; omega)
    rw [show m - 1 - d - 1 = m - 1 - (d + 1) by omega] at e1 e2
    exact ⟨O.tr e1 i1, O.tr i2 e2⟩
  have := key (m - 1 - t) (by omega)
  rwa [show m - 1 - (m - 1 - t) = t by omega] at this
 have lq := h.lt
 have vals : ∀ t, t < m -> le c (gp (kas_rev p (m - (q + 1)) m) t) (gp p t) /\ le c (gp p t) (gp (kas_rev p (m - (q + 1)) m) t) := by
  intro t ht
  rw [gp_rev hm]
  split
  ·rename_i hh
   have a1 := al t hh.1 ht
   have a2 := al (m - (q + 1) + m - 1 - t) (by omega) (by omega)
   exact ⟨O.tr a2.1 a1.2, O.tr a1.1 a2.2⟩
  ·have r : le c (gp p t) (gp p t) := by
    show c (gp p t) (gp p t) = false
    cases e : c (gp p t) (gp p t) with
    | false => rfl
    | true => exact e.symm.trans (O.as e)
   exact ⟨r, r⟩
 refine ⟨fun t h1 h2 => ?_, _, _, rfl, rfl, (vals (m - 1) (by omega)).1, (vals (m - 1) (by omega)).2⟩
 exact O.tr (O.tr (vals t h2).1 (h.dn t h1 h2)) (vals (t - 1) (by omega)).2
theorem desc_post (h0 : 0 < n) : ∀ (f : Nat) (p : Array Nat) (m q : Nat), PG n p -> m + f <= n -> DQ c p m q -> post c n (kas_desc f p m q) fun r => PG n r.1 /\ r.2.1 <= m + f /\ DQ c r.1 r.2.1 r.2.2
 | 0, p, m, q, g, hm, d => ⟨g, Nat.le_refl _, d⟩
 | f + 1, p, m, q, g, hm, d => by
  refine ⟨g.lt h0 m, g.lt h0 (m - 1), ?_⟩
  have dl := d.lt
  cases e : c (p.getD m 0) (p.getD (m - 1) 0) with
  | true =>
   have e' : le c (gp p m) (gp p (m - 1)) := O.as e
   show post c n (if true = true then _ else _) _
   rw [if_pos rfl]
   by_cases hq : q > 0
   ·rw [if_pos hq]
    obtain ⟨t1, x, y, ex, ey, l1, l2⟩ := d.turn O (by rw [g.sz]; omega)
    refine post_mono (fun r hr => ⟨hr.1, by omega, hr.2.2⟩) _ (desc_post h0 f _ (m + 1) 0 (g.rev _ _) (by omega) ⟨fun t h1 h2 => ?_, by omega, fun t h1 h2 => by omega⟩)
    by_cases ht : t = m
    ·subst ht
     have : gp (kas_rev p (t - (q + 1)) t) t = gp p t := by
      rw [gp_rev (by rw [g.sz]; omega), if_neg (by omega)]
     rw [this, ex]
     rw [ey] at e'
     exact O.tr e' l2
    ·exact t1 t h1 (by omega)
   ·rw [if_neg hq]
    refine post_mono (fun r hr => ⟨hr.1, by omega, hr.2.2⟩) _ (desc_post h0 f _ (m + 1) 0 g (by omega) ⟨fun t h1 h2 => ?_, by omega, fun t h1 h2 => by omega⟩)
    by_cases ht : t = m
    ·subst ht; exact e'
    ·exact d.dn t h1 (by omega)
  | false =>
   show post c n (if false = true then _ else _) _
   rw [if_neg (by simp)]
   refine ⟨g.lt h0 (m - 1), g.lt h0 m, ?_⟩
   cases e2 : c (p.getD (m - 1) 0) (p.getD m 0) with
   | true => exact ⟨g, by show m <= _; omega, d⟩
   | false =>
    show post c n (if false = true then _ else _) _
    rw [if_neg (by simp)]
    refine post_mono (fun r hr => ⟨hr.1, by omega, hr.2.2⟩) _ (desc_post h0 f _ (m + 1) (q + 1) g (by omega) ⟨fun t h1 h2 => ?_, by omega, fun t h1 h2 => ?_⟩)
    ·by_cases ht : t = m
     ·subst ht; exact e2
     ·exact d.dn t h1 (by omega)
    ·by_cases ht : t = m
     ·subst ht; exact e
     ·exact d.eq t (by omega) (by omega)
theorem tail_post (h0 : 0 < n) {p : Array Nat} {m : Nat} (g : PG n p) (hm : m <= n) (h1 : 1 <= m) (d : Dn c p m) : post c n (kas_tail3 m n p) fun r => PG n r.2 /\ 1 <= r.1 /\ r.1 <= n /\ Up c r.2 r.1 := by
 unfold kas_tail3
 rw [post_bind]
 refine post_mono (fun x hx => ?_) _ (asc_post O (g.rev 0 m) h0 (n - m) m h1)
 obtain ⟨x1, x2, x3, _⟩ := hx
 refine ⟨g.rev 0 m, by show 1 <= x; omega, by show x <= n; omega, fun t t1 t2 => ?_⟩
 by_cases ht : t < m
 ·have e1 := gp_rev (p := p) (i := 0) (j := m) (by rw [g.sz]; exact hm) (t - 1)
  have e2 := gp_rev (p := p) (i := 0) (j := m) (by rw [g.sz]; exact hm) t
  rw [if_pos (by omega)] at e1 e2
  show le c (gp (kas_rev p 0 m) (t - 1)) (gp (kas_rev p 0 m) t)
  rw [e1, e2]
  have := d (0 + m - 1 - (t - 1)) (by omega) (by omega)
  rwa [show 0 + m - 1 - (t - 1) - 1 = 0 + m - 1 - t by omega] at this
 ·exact x3 t (by omega) t2
theorem part_post (h0 : 0 < n) {p : Array Nat} {m : Nat} (g : PG n p) (hm : m < n) (d : Dn c p (m + 1)) : post c n (kas_descPart m n p) fun r => PG n r.2 /\ 1 <= r.1 /\ r.1 <= n /\ Up c r.2 r.1 := by
 unfold kas_descPart
 rw [post_bind]
 refine post_mono (fun r hr => ?_) _ (desc_post O h0 (n - (m + 1)) p (m + 1) 0 g (by omega) ⟨d, by omega, fun t h1 h2 => by omega⟩)
 obtain ⟨r1, r2, r3⟩ := hr
 have := r3.lt
 split
 ·exact tail_post O h0 (r1.rev _ _) (by omega) (by omega) (r3.turn O (by rw [r1.sz]; omega)).1
 ·exact tail_post O h0 r1 (by omega) (by omega) r3.dn
theorem count_post (h0 : 0 < n) {p : Array Nat} (g : PG n p) : post c n (kas_count n p) fun r => PG n r.2 /\ 1 <= r.1 /\ r.1 <= n /\ Up c r.2 r.1 := by
 unfold kas_count
 rw [post_bind]
 refine post_mono (fun m hm => ?_) _ (asc_post O g h0 (n - 1) 1 (Nat.le_refl _))
 obtain ⟨m1, m2, m3, m4⟩ := hm
 split
 ·exact ⟨g, m1, by show m <= n; omega, fun t t1 t2 => m3 t t1 t2⟩
 ·rename_i hne
  have hne' : m ≠ n := fun z => hne (by simp [z])
  have lt := m4 (by omega)
  have lt' : le c (gp p m) (gp p (m - 1)) := O.as lt
  split
  ·rename_i h1
   refine ⟨g.lt h0 0, g.lt h0 (m - 1), ?_⟩
   cases e : c (p.getD 0 0) (p.getD (m - 1) 0) with
   | true => exact ⟨g, m1, by show m <= n; omega, fun t t1 t2 => m3 t t1 t2⟩
   | false =>
    show post c n (if false = true then _ else _) _
    rw [if_neg (by simp)]
    have up : Up c p m := fun t t1 t2 => m3 t t1 t2
    have back : ∀ t, t < m -> le c (gp p t) (gp p 0) /\ le c (gp p 0) (gp p t) := fun t ht => by
     have a1 := up.all O t 0 (by omega)
     have a2 := up.all O (m - 1 - t) t (by omega)
     rw [show 0 + t = t by omega] at a1
     rw [show t + (m - 1 - t) = m - 1 by omega] at a2
     exact ⟨O.tr a2 e, a1⟩
    refine part_post O h0 (g.rev 0 m) (by omega) fun t t1 t2 => ?_
    have e1 := gp_rev (p := p) (i := 0) (j := m) (by rw [g.sz]; omega) (t - 1)
    have e2 := gp_rev (p := p) (i := 0) (j := m) (by rw [g.sz]; omega) t
    rw [if_pos (by omega)] at e1
    rw [e1, e2]
    split
    ·exact O.tr (back _ (by omega)).1 (back _ (by omega)).2
    ·have ht : t = m := by omega
     subst ht
     exact O.tr lt' (O.tr (back (t - 1) (by omega)).1 (back _ (by omega)).2)
  ·have hm1 : m = 1 := by omega
   subst hm1
   exact part_post O h0 g (by omega) fun t t1 t2 => by
    have : t = 1 := by omega
    subst this
    exact lt'
theorem place_post (h0 : 0 < n) {p : Array Nat} {k : Nat} (g : PG n p) : ∀ (f l r : Nat), l <= r -> r <= k -> r - l <= f -> Up c p k -> (∀ t, t < l -> le c (gp p t) (gp p k)) -> (∀ t, r <= t -> t < k -> le c (gp p k) (gp p t)) ->
  post c n (kas_place p k f l r) fun x => x <= k /\ (∀ t, t < x -> le c (gp p t) (gp p k)) /\ ∀ t, x <= t -> t < k -> le c (gp p k) (gp p t)
 | 0, l, r, h1, h2, h3, u, a, b => ⟨by omega, a, fun t t1 t2 => b t (by omega) t2⟩
 | f + 1, l, r, h1, h2, h3, u, a, b => by
  unfold kas_place
  split
  ·exact ⟨by omega, a, fun t t1 t2 => b t (by omega) t2⟩
  ·rename_i hlr
   refine ⟨g.lt h0 k, g.lt h0 _, ?_⟩
   cases e : c (p.getD k 0) (p.getD ((l + r) / 2) 0) with
   | true =>
    show post c n (if true = true then _ else _) _
    rw [if_pos rfl]
    refine place_post h0 g f l ((l + r) / 2) (by omega) (by omega) (by omega) u a fun t t1 t2 => ?_
    have := u.all O (t - (l + r) / 2) ((l + r) / 2) (by omega)
    rw [show (l + r) / 2 + (t - (l + r) / 2) = t by omega] at this
    exact O.tr (O.as e) this
   | false =>
    show post c n (if false = true then _ else _) _
    rw [if_neg (by simp)]
    refine place_post h0 g f ((l + r) / 2 + 1) r (by omega) h2 (by omega) u (fun t t1 => ?_) b
    have := u.all O ((l + r) / 2 - t) t (by omega)
    rw [show t + ((l + r) / 2 - t) = (l + r) / 2 by omega] at this
    exact O.tr this e
theorem bin_post (h0 : 0 < n) : ∀ (f : Nat) (p : Array Nat) (k : Nat), PG n p -> k + f = n -> Up c p k -> post c n (kas_bin f p k) fun q => PG n q /\ Up c q n
 | 0, p, k, g, hk, u => ⟨g, by rw [<- hk]; exact u⟩
 | f + 1, p, k, g, hk, u => by
  unfold kas_bin
  rw [post_bind]
  refine post_mono (fun x hx => ?_) _ (place_post O h0 g k 0 k (by omega) (by omega) (by omega) u (fun t ht => by omega) (fun t t1 t2 => by omega))
  obtain ⟨x1, x2, x3⟩ := hx
  refine bin_post h0 f _ (k + 1) (g.bub _ _) (by omega) fun t t1 t2 => ?_
  have ks : k < p.size := by rw [g.sz]; omega
  rw [gp_bub ks (by omega), gp_bub ks (by omega)]
  rw [show k - (k - x) = x by omega]
  by_cases a1 : t - 1 = x
  ·rw [if_pos a1, if_neg (by omega), if_pos (by omega)]
   exact x3 _ (by omega) (by omega)
  ·rw [if_neg a1]
   by_cases a2 : t = x
   ·rw [if_neg (by omega), if_pos a2]
    exact x2 _ (by omega)
   ·rw [if_neg a2]
    by_cases a3 : x < t
    ·rw [if_pos (by omega), if_pos (by omega)]
     exact u (t - 1) (by omega) (by omega)
    ·rw [if_neg (by omega), if_neg (by omega)]
     exact u t t1 (by omega)
theorem sort_post (h0 : 0 < n) : post c n (kas_sort n) fun q => q.size = n /\ q.toList.Perm (List.range n) /\ (q.toList).Pairwise (le c) := by
 unfold kas_sort
 rw [post_bind]
 have fin : ∀ q, PG n q -> Up c q n -> q.size = n /\ q.toList.Perm (List.range n) /\ (q.toList).Pairwise (le c) := fun q g u => by
  refine ⟨g.sz, g.pm, ?_⟩
  rw [List.pairwise_iff_getElem]
  intro i j hi hj hij
  have hi' : i < q.size := by simpa using hi
  have hj' : j < q.size := by simpa using hj
  have := u.all O (j - i) i (by have := g.sz; omega)
  rw [show i + (j - i) = j by omega, gp_eq, gp_eq, Array.getElem?_eq_getElem hi', Array.getElem?_eq_getElem hj'] at this
  simpa using this
 refine post_mono (fun r hr => ?_) _ (count_post O h0 (p := List.toArray (List.range n)) ⟨by simp, by simp⟩)
 obtain ⟨r1, r2, r3, r4⟩ := hr
 split
 ·rw [show max r.1 1 = r.1 by omega]
  exact post_mono (fun q hq => fin q hq.1 hq.2) _ (bin_post O h0 (n - r.1) r.2 r.1 r1 (by omega) r4)
 ·have : r.1 = n := by omega
  rw [this] at r4
  exact fin _ r1 r4
end
end TW
end
section
namespace TW
open PySem PySem.Spec PyProof.Rows L2
open PySem.W (KasT kas_ask kas_sort kas_item kat_run kat_snds kat_lt KatLex kat_one KatTups kat_kind kat_cons kat_nil kat_yes kat_no)
section
variable {P : Program} {w : World} {A : Around} {E : Value -> Shared -> Prop} {s : Shared}
noncomputable def outOf (vs : List Value) (q : Array Nat) : List Value := q.toList.map fun i => vs.getD i Value.none
end
theorem vals_pick {xs : List V} {us : List Value} (r : Vals xs us) : ∀ (q : List Nat), (∀ i ∈ q, i < xs.length) -> Vals (q.map fun i => xs.getD i .non) (q.map fun i => us.getD i Value.none)
 | [], _ => .nil
 | i :: q, h => by
  have hi := h i List.mem_cons_self
  have e : xs[i]? = some (xs.getD i .non) := by rw [List.getElem?_eq_getElem hi]; simp [hi]
  obtain ⟨u, eu, ru⟩ := r.get e
  have : us.getD i Value.none = u := by simp [eu]
  exact .cons (by show RelV (xs.getD i .non) (us.getD i Value.none); rw [this]; exact ru) (vals_pick r q fun j hj => h j (List.mem_cons_of_mem _ hj))
end TW
end
section
namespace TW
open PySem PySem.Spec PyProof.Rows L2
open PySem.W (KasT kas_ask kas_sort kas_item kat_run kat_snds kat_lt_int kla_obj kla_fn kla_callFunE kla_codeExpr envX)
theorem post_run {α : Type} {c : Nat -> Nat -> Bool} {n : Nat} : ∀ (t : KasT α) {Q : α -> Prop}, post c n t Q -> post c n t fun a => Q a /\ a = runT c t
 | .ret a, Q, p => ⟨p, rfl⟩
 | .ask i j k, Q, p => ⟨p.1, p.2.1, post_run (k (c i j)) p.2.2⟩
theorem post_val {α : Type} {c : Nat -> Nat -> Bool} {n : Nat} : ∀ (t : KasT α) {Q : α -> Prop}, post c n t Q -> Q (runT c t)
 | .ret a, Q, p => p
 | .ask i j k, Q, p => post_val (k (c i j)) p.2.2
theorem key_ord (ks : List Int) : Ord (keyLt ks) := ⟨fun h1 h2 => by
 have h1 := of_decide_eq_false h1
 have h2 := of_decide_eq_false h2
 exact decide_eq_false (by omega), fun h => by
 have h := of_decide_eq_true h
 exact decide_eq_false (by omega)⟩
theorem srtK_ok {ks : List Int} (h : ks.length < 64) : (srtK ks).Perm (List.range ks.length) /\ (srtK ks).Pairwise (le (keyLt ks)) := by
 unfold srtK
 split
 ·rename_i h2
  refine ⟨List.Perm.refl _, ?_⟩
  have : ks.length = 0 \/ ks.length = 1 := by omega
  rcases this with z | z <;> rw [z] <;> simp
 ·have := post_val _ (sort_post (n := ks.length) (key_ord ks) (by omega))
  exact ⟨this.2.1, this.2.2⟩
section
variable {P : Program} {w : World} {A : Around} {E : Value -> Shared -> Prop} {s : Shared}
theorem outK_len {vs : List Value} {ks : List Int} (hl : ks.length = vs.length) (h64 : vs.length < 64) : (outOf vs (srtK ks).toArray).length = vs.length := by
 have := (srtK_ok (ks := ks) (by omega)).1.length_eq
 simp [outOf, this, hl]
theorem ktail {D kS : Addr} {e e1 : Nat} {keys : Array Value} {vs : List Value} {ks : List Int} {st : SortSt} {R : Fin -> Shared -> Prop} (hD : s.heap.get? D = some (seqObj "list" #[] e1)) (hK : s.heap.get? kS = some (seqObj "list" keys e)) (hne : kS ≠ D)
  (hkl : keys.size = vs.length) (hl : ks.length = vs.length) (h64 : vs.length < 64) (hfl : failedOf st = none) (har : (arrOf st).map (·.2) = (outOf vs (srtK ks).toArray).toArray)
  (h : ∀ h' ep, (∀ b o, b ≠ D -> b ≠ kS -> s.heap.get? b = some o -> h'.get? b = some o) -> h'.get? D = some (seqObj "list" (outOf vs (srtK ks).toArray).toArray ep) -> R (.done (.ret .none)) { s with heap := h' }) :
  wpAny (model P w) A (ksk_tail D false e1 (.ref kS) st) R E s := by
 have ol := outK_len hl h64
 have na1 : (s.heap.update kS (Obj.mapSeq fun _ => (#[] : Array Value))).get? D = some (seqObj "list" #[] e1) := by
  rw [Heap.get?_update_ne _ _ _ _ hne.symm]; exact hD
 unfold ksk_tail
 dsimp only
 rw [har]
 refine wpAny_bind (listUpdate_at hK rfl ?_ (by rw [hkl, sizeLine_eq]; omega) (Nat.zero_le _))
 refine wpAny_bind (wpAny_letGo ?_)
 refine wpAny_bind (seqEpoch_at na1 rfl ?_)
 refine wpAny_bind (listUpdate_at na1 rfl ?_ (Nat.zero_le _) (by simp only [Bool.false_eq_true, if_false, List.size_toArray]; rw [ol, sizeLine_eq]; omega))
 rw [hfl]
 simp only [bne_self_eq_false, Bool.false_eq_true, if_false]
 refine wpAny_pure (h _ _ (fun b o h1 h2 e => ?_) (get?_update_seq na1 fun _ => (outOf vs (srtK ks).toArray).toArray))
 rw [Heap.get?_update_ne _ _ _ _ h1, Heap.get?_update_ne _ _ _ _ h2]
 exact e
theorem kend {D kS : Addr} {e e1 : Nat} {keys : Array Value} {vs : List Value} {ks : List Int} {R : Fin -> Shared -> Prop} (hD : s.heap.get? D = some (seqObj "list" #[] e1)) (hK : s.heap.get? kS = some (seqObj "list" keys e)) (hne : kS ≠ D)
  (hk : IntsAre keys.toList ks) (hl : ks.length = vs.length) (h64 : vs.length < 64)
  (h : ∀ h' ep, (∀ b o, b ≠ D -> b ≠ kS -> s.heap.get? b = some o -> h'.get? b = some o) -> h'.get? D = some (seqObj "list" (outOf vs (srtK ks).toArray).toArray ep) -> R (.done (.ret .none)) { s with heap := h' }) :
  wpAny (model P w) A (ksk_end D false vs.toArray e1 (.ref kS) keys) R E s := by
 have hkl : keys.size = vs.length := by
  have h1 := hk.length
  rw [Array.length_toList] at h1
  omega
 have hkt : keys = keys.toList.toArray := (Array.toArray_toList ..).symm
 unfold ksk_end
 dsimp only
 simp only [Bool.false_eq_true, if_false]
 by_cases h2 : vs.toArray.size < 2
 ·rw [if_pos h2, if_pos h2]
  refine wpAny_bind (wpAny_pure ?_)
  rw [StateT.run_pure]
  refine wpAny_bind (wpAny_pure ?_)
  dsimp only
  refine ktail hD hK hne hkl hl h64 rfl ?_ h
  have : (arrOf (SortSt.mk' general' (keys.zip vs.toArray) #[] 7 none)).map (·.2) = (keys.zip vs.toArray).map (·.2) := rfl
  rw [this]
  apply Array.toList_inj.mp
  rw [Array.toList_map, ksk_zip, List.map_snd_zip (Nat.le_of_eq (hkl.symm.trans (Array.length_toList (xs := keys)).symm))]
  have hs : srtK ks = List.range ks.length := by
   unfold srtK
   rw [if_pos (by rw [List.size_toArray] at h2; omega)]
  rw [hs, hl]
  rw [List.size_toArray] at h2
  match vs, h2 with
  | [], _ => rfl
  | [v], _ => rfl
  | _ :: _ :: _, h2 => simp at h2; omega
 ·rw [if_neg h2, if_neg h2]
  rw [List.size_toArray] at h2
  rw [ksk_kind hk (by omega)]
  refine wpAny_bind (wpAny_pure ?_)
  have hkl' : keys.toList.length = vs.length := by rw [Array.length_toList]; exact hkl
  have tree : (kas_sort vs.length).kasWp (kas_ask P w A oneType' keys.toList) (fun q s' => s' = s /\ q.toList = srtK ks) s := by
   refine post_wp (n := vs.length) (c := keyLt ks) (fun i j C hi hj hC => ?_) (fun q hq => ⟨rfl, hq⟩) _ (post_mono (P := fun q => _ /\ q = runT (keyLt ks) (kas_sort vs.length)) (fun q hq => ?_) _ (post_run _ (sort_post (key_ord ks) (by omega))))
   ·obtain ⟨x, hx⟩ : ∃ x, ks[i]? = some x := ⟨_, List.getElem?_eq_getElem (by omega)⟩
    obtain ⟨y, hy⟩ : ∃ y, ks[j]? = some y := ⟨_, List.getElem?_eq_getElem (by omega)⟩
    obtain ⟨t, et⟩ := hk.get i x hx
    obtain ⟨u, eu⟩ := hk.get j y hy
    unfold kas_ask
    have e1 : keys.toList.getD i Value.none = .int x t := by simp [et]
    have e2 : keys.toList.getD j Value.none = .int y u := by simp [eu]
    rw [e1, e2]
    refine kat_lt_int ?_
    have : keyLt ks i j = decide (x < y) := by simp [keyLt, hx, hy]
    rw [<- this]
    exact hC
   ·rw [hq.2]
    unfold srtK
    rw [if_neg (by omega), hl]
  rw [hkt]
  refine wpAny_bind (wpAny_mono (kat_run (Q := fun st' s' => ∃ q : Array Nat, s' = s /\ q.toList = srtK ks /\ arrOf st' = q.map (kas_item (keys.toList.toArray.zip vs.toArray)) /\ failedOf st' = none) hkl' (by omega) h64
   (fun q st' s' b1 b2 b3 b4 => ⟨q, b4.1, b4.2, b2, b3⟩) tree) ?_ fun _ _ e => e)
  rintro ⟨⟨⟩, st'⟩ s' ⟨q, rfl, q1, q3, q4⟩
  dsimp only
  refine ktail hD hK hne hkl hl h64 q4 ?_ h
  rw [kat_snds hkl' q3, q1]
  simp [outOf]
noncomputable def KeyOk (P : Program) (w : World) (A : Around) (f : Value) (s : Shared) (v : Value) (k : Int) : Prop :=
 ∀ h tk, (∀ b o, s.heap.get? b = some o -> h.get? b = some o) -> wpAny (model P w) A (call f [v]) (fun r s2 => ∃ h' tk' t, r = .int k t /\ s2 = { s with heap := h', toks := tk' } /\ ∀ b o, h.get? b = some o -> h'.get? b = some o) (fun _ _ => False) { s with heap := h, toks := tk }
theorem krest {f : Value} {D kS : Addr} {e1 : Nat} {vs : List Value} {ks : List Int} {R : Fin -> Shared -> Prop} (s0 : Shared) (hos : ∃ h tk, s = { s0 with heap := h, toks := tk }) (old : ∀ b o, s0.heap.get? b = some o -> s.heap.get? b = some o /\ b ≠ D /\ b ≠ kS)
  (hD : s.heap.get? D = some (seqObj "list" #[] e1)) (hK : s.heap.get? kS = some (seqObj "list" #[] 0)) (hne : kS ≠ D) (hl : ks.length = vs.length) (h64 : vs.length < 64)
  (turn : ∀ (i : Nat) (v : Value) (k : Int), vs[i]? = some v -> ks[i]? = some k -> KeyOk P w A f s0 v k)
  (h : ∀ h' tk ep, (∀ b o, b ≠ D -> b ≠ kS -> s.heap.get? b = some o -> h'.get? b = some o) -> h'.get? D = some (seqObj "list" (outOf vs (srtK ks).toArray).toArray ep) -> R (.done (.ret .none)) { s with heap := h', toks := tk }) :
  wpAny (model P w) A (ksk_rest D f false vs.toArray e1 (.ref kS)) R E s := by
 obtain ⟨h0, tk0, rfl⟩ := hos
 unfold ksk_rest
 refine wpAny_bind (wpAny_rule ?_)
 first
  | rw [List.forIn_toArray]
  | (rw [<- Array.forIn_toList]; simp only [List.toList_toArray])
  | rw [<- Array.forIn_toList]
 refine wpAny_bind (ksk_fold (fun i s' => ∃ h' tk kA e, s' = { s0 with heap := h', toks := tk } /\ (∀ b o, b ≠ D -> b ≠ kS -> h0.get? b = some o -> h'.get? b = some o) /\ h'.get? D = some (seqObj "list" #[] e1) /\ h'.get? kS = some (seqObj "list" kA e) /\ IntsAre kA.toList (ks.take i)) vs 0 _
  ⟨h0, tk0, #[], 0, rfl, fun b o _ _ e => e, hD, hK, by simpa using IntsAre.nil⟩ ?step ?done)
 case step =>
  rintro j x s' hx ⟨h', tk, kA, e, rfl, kp, hD', hK', hk⟩
  simp only [Nat.zero_add] at hk ⊢
  have hj : j < vs.length := (List.getElem?_eq_some_iff.mp hx).1
  obtain ⟨k, hkj⟩ : ∃ k, ks[j]? = some k := ⟨_, List.getElem?_eq_getElem (by omega)⟩
  have hz : kA.size <= vs.length := by
   have h1 := hk.length
   rw [Array.length_toList, List.length_take] at h1
   omega
  refine wpAny_bind (wpAny_attempt (wpAny_mono (turn j x k hx hkj h' tk fun b o q => kp b o (old b o q).2.1 (old b o q).2.2 (old b o q).1) (fun v s'' he => ?_) fun _ _ hF => hF.elim))
  obtain ⟨g, tk2, t2, rfl, rfl, kp2⟩ := he
  dsimp only
  have ek : ks.take (j + 1) = ks.take j ++ [k] := by rw [List.take_add_one, hkj]; simp
  have ea : (kA.push (Value.int k t2)).toList = kA.toList ++ [Value.int k t2] := by simp
  refine wpAny_bind (listUpdate_at (kp2 _ _ hK') rfl ?_ (by rw [sizeLine_eq]; omega) (Nat.le_trans (Nat.le_of_eq (Array.size_push ..)) (by rw [sizeLine_eq]; omega)))
  refine wpAny_pure ⟨rfl, _, _, kA.push (.int k t2), _, rfl, fun b o h1 h2 q => ?_, ?_, get?_update_seq (kp2 _ _ hK') (·.push (.int k t2)), by rw [ea, ek]; exact ksk_snoc hk⟩
  ·rw [Heap.get?_update_ne _ _ _ _ h2]
   exact kp2 _ _ (kp b o h1 h2 q)
  ·rw [Heap.get?_update_ne _ _ _ _ hne.symm]
   exact kp2 _ _ hD'
 case done =>
  rintro s' ⟨h', tk, kA, e, rfl, kp, hD', hK', hk⟩
  have hk' : IntsAre kA.toList ks := by
   have e3 : ks.take (0 + vs.length) = ks := List.take_of_length_le (by omega)
   rw [e3] at hk
   exact hk
  refine wpAny_bind (listItems_at hK' rfl ?_)
  exact kend hD' hK' hne hk' hl h64 fun h3 ep k3 d3 => h h3 tk ep (fun b o h1 h2 q => k3 b o h1 h2 (kp b o h1 h2 q)) d3
theorem ksorted {f : Addr} {r : Addr} {lo hi : Int} {t u v : Tok} {n : Nat} {ks : List Int} {Q : Value -> Shared -> Prop} (calm : A.handled = none) (hr : IsRange s.heap r lo hi 1 t u v) (sm : Builtin.Range.small lo hi 1 = true) (hn : Builtin.Range.rangeSize lo hi 1 = n)
  (hl : ks.length = n) (h64 : n < 64)
  (turn : ∀ (i : Nat) (k : Int) (t : Tok), ks[i]? = some k -> KeyOk P w A.in1.in1 (.ref f) s (.int (lo + i) t) k)
  (h : ∀ (h1 h' : Heap) (tk ep : Nat) (vs : List Value), (∀ b o, s.heap.get? b = some o -> h1.get? b = some o) -> (∀ b o, h1.get? b = some o -> h'.get? b = some o) -> Vals ((List.range n).map fun (k : Nat) => V.int (lo + (k : Int))) vs -> h'.get? h1.objs.size = some (seqObj "list" (outOf vs (srtK ks).toArray).toArray ep) -> Q (.ref h1.objs.size) { s with heap := h', toks := tk }) :
  wpAny (model P w) A (call (.builtin "sorted") [.ref r] [(Str.ofString "key", .ref f)]) Q E s := by
 refine call_function_entry_kw kind_sorted plain_sorted entry_sorted (ksk_s1 _ _) ?_
 unfold Builtin.«sorted»
 refine wpAny_bind (m := checkCount "sorted" 1 1 _) (wpAny_pure ?_)
 refine wpAny_bind (collect_rng calm hr sm hn (by omega) fun h1 tk1 acc kp1 items => ?_)
 have V1 := vals_rng items
 have lv : acc.toList.length = n := by rw [<- V1.length]; simp
 refine wpAny_bind (wpAny_newList ?_ (by rw [lv, sizeLine_eq]; omega))
 generalize acc.toList = vs at V1 lv
 have hoL : (h1.push (seqObj "list" vs.toArray 0)).get? h1.objs.size = some (seqObj "list" vs.toArray 0) := Heap.get?_push_size _ rfl
 show wpAny _ _ _ _ _ { s with heap := h1.push (seqObj "list" vs.toArray 0), toks := tk1 }
 have lt1 : ∀ b o, s.heap.get? b = some o -> b < h1.objs.size := fun b o e => Heap.lt_size (kp1 b o e)
 refine wpAny_bind (wpAny_holding (wpAny_call_entry_kw slot_list_sort ⟨_, hoL, rfl⟩ entry_list_sort ?body (ksk_l1 _ _)))
 case body =>
  show wpAny (model P w) A.in1.in1 (Builtin.«list.sort» ⟨[.ref h1.objs.size], [(Str.ofString "key", .ref f)]⟩) _ _ _
  rw [ksk_t1]
  unfold ksk_tree
  refine wpAny_bind (listItems_at hoL rfl ?_)
  refine wpAny_bind (listUpdate_at hoL rfl ?_ (by rw [List.size_toArray, lv, sizeLine_eq]; omega) (Nat.zero_le _))
  obtain ⟨e1, ho1⟩ : ∃ e1, ((h1.push (seqObj "list" vs.toArray 0)).update h1.objs.size (Obj.mapSeq fun _ => (#[] : Array Value))).get? h1.objs.size = some (seqObj "list" #[] e1) := ⟨_, get?_update_seq hoL fun _ => #[]⟩
  have kp2 : ∀ b o, h1.get? b = some o -> ((h1.push (seqObj "list" vs.toArray 0)).update h1.objs.size (Obj.mapSeq fun _ => (#[] : Array Value))).get? b = some o := fun b o q => by
   rw [Heap.get?_update_ne _ _ _ _ (Nat.ne_of_lt (Heap.lt_size q))]
   exact Heap.get?_push_of_some _ q
  have z2 : ((h1.push (seqObj "list" vs.toArray 0)).update h1.objs.size (Obj.mapSeq fun _ => (#[] : Array Value))).objs.size = h1.objs.size + 1 := by rw [Heap.size_update, size_push']
  refine wpAny_bind (seqEpoch_at ho1 rfl ?_)
  refine wpAny_bind (wpAny_newTuple ?_ (by show vs.length <= _; rw [lv, sizeLine_eq]; omega))
  refine wpAny_bind (wpAny_newList ?_ (Nat.zero_le _))
  refine wpAny_holding ?_
  generalize hg : (h1.push (seqObj "list" vs.toArray 0)).update h1.objs.size (Obj.mapSeq fun _ => (#[] : Array Value)) = h2 at *
  have hkS : (h2.push (seqObj "tuple" vs.toArray 0)).objs.size = h1.objs.size + 2 := by rw [size_push', z2]
  refine krest (s := { s with heap := (h2.push (seqObj "tuple" vs.toArray 0)).push (seqObj "list" #[] 0), toks := tk1 }) (D := h1.objs.size) (kS := (h2.push (seqObj "tuple" vs.toArray 0)).objs.size) (ks := ks) s ⟨_, _, rfl⟩ (fun b o q => ⟨?_, ?_, ?_⟩) ?_ (Heap.get?_push_size _ rfl) ?_ (by omega) (by omega) (fun i x k hx hk => ?_) fun h' tk ep kp hD => ⟨_, rfl, ?_⟩
  ·exact Heap.get?_push_of_some _ (Heap.get?_push_of_some _ (kp2 _ _ (kp1 _ _ q)))
  ·exact Nat.ne_of_lt (lt1 b o q)
  ·rw [hkS]; exact Nat.ne_of_lt (Nat.lt_of_lt_of_le (lt1 b o q) (by omega))
  ·exact Heap.get?_push_of_some _ (Heap.get?_push_of_some _ ho1)
  ·rw [hkS]; exact Nat.ne_of_gt (Nat.lt_add_of_pos_right (by decide))
  ·have hi : i < n := by rw [<- hl]; exact (List.getElem?_eq_some_iff.mp hk).1
   obtain ⟨y, ey, ry⟩ := V1.get (i := i) (x := V.int (lo + (i : Int))) (by simp [hi])
   obtain ⟨tt, rfl⟩ := ry
   rw [ey] at hx
   cases hx
   exact turn i k tt hk
  ·refine wpAny_pure ⟨_, rfl, h h1 h' tk ep vs kp1 (fun b o q => ?_) V1 hD⟩
   exact kp b o (Nat.ne_of_lt (Heap.lt_size q)) (by rw [hkS]; exact Nat.ne_of_lt (Nat.lt_of_lt_of_le (Heap.lt_size q) (by omega))) (Heap.get?_push_of_some _ (Heap.get?_push_of_some _ (kp2 _ _ q)))
theorem lam_call {f c' cl T a : Addr} {qual : Str} {params : Arguments} {scope : Scope} {pm ctv : Value} {p1 p2 p3 p4 p5 : Pos} {j0 : Nat} {its jts : Array Value} {i : Nat} {k : Int} {tk : Tok} (hd : A.depth < recursionLimit) (hlim : s.heap.NoLimit)
  (ho : s.heap.get? f = some (kla_obj "<lambda>" qual params (.Subscript (.Subscript (.Name "lines" p1) (.Name "number" p2) p3) (.Constant (.int 2) j0 p4) p5) scope [("lines", cl)] pm c' ctv)) (hrec : s.heap.CodeRec (.ref c') qual) (hcell : s.heap.IsCell cl (some (.ref T)))
  (hT : IsTup s.heap T its) (hTs : its.size <= 1000) (hi : its[i]? = some (.ref a)) (ha : IsTup s.heap a jts) (has : jts.size <= 1000) (hk : jts[2]? = some (.int k tk))
  (hbind : ∀ v : Value, bindArgs (kla_fn "<lambda>" qual params (.Subscript (.Subscript (.Name "lines" p1) (.Name "number" p2) p3) (.Constant (.int 2) j0 p4) p5) scope [("lines", cl)] pm (.ref c') ctv) ⟨[v], []⟩ = pure [(("number" : Str), v)])
  (hnm : scope.names = [(("number" : Str), NameKind.local), (("lines" : Str), NameKind.free)]) (hco : scope.isCoroutine = false) (hgen : scope.isGenerator = false) (hkd : scope.kind = .function) (t : Tok) : KeyOk P w A (.ref f) s (.int i t) k := by
 intro h tk0 kp
 refine wpAny_call (kla_callFunE hd (kp _ _ ho) rfl hco hgen rfl (hrec.keeps kp) ?_)
 rw [hbind]
 have nocell : ∀ x ∈ scope.names, x.2 ≠ .cell := fun x hx => by
  rw [hnm] at hx
  rcases List.mem_cons.mp hx with e | e
  ·rw [e]; exact fun z => by cases z
  ·rw [List.mem_singleton.mp e]; exact fun z => by cases z
 refine wpAny_pure (wpAny_newFunctionEnv nocell (fun x hx => by rw [List.mem_singleton.mp hx]; show scope.names.lookup _ = _; rw [hnm]; rfl) (fun h₁ hns hsb => ⟨(hlim.keeps kp).fresh _ hsb, ?_⟩) hkd)
 show codeAny _ _ (.expr _ (envX qual scope h.objs.size f (.ref c') [("lines", cl)])) _ _
 have hk₁ : ∀ b o, h.get? b = some o -> h₁.get? b = some o := fun b o e => hsb.extBut b o (Nat.ne_of_lt (Heap.lt_size e)) (Heap.get?_push_of_some _ e)
 have kp1 : ∀ b o, s.heap.get? b = some o -> h₁.get? b = some o := fun b o e => hk₁ _ _ (kp _ _ e)
 have hT1 : IsTup h₁ T its := let ⟨o, e, r⟩ := hT; ⟨o, kp1 _ _ e, r⟩
 have ha1 : IsTup h₁ a jts := let ⟨o, e, r⟩ := ha; ⟨o, kp1 _ _ e, r⟩
 have kindL : (envX qual scope h.objs.size f (.ref c') [("lines", cl)]).kindOf "lines" = some .free := by show scope.names.lookup ("lines" : Str) = _; rw [hnm]; rfl
 have kindN : (envX qual scope h.objs.size f (.ref c') [("lines", cl)]).kindOf "number" = some .local := by show scope.names.lookup ("number" : Str) = _; rw [hnm]; rfl
 have hiT : i < its.size := (Array.getElem?_eq_some_iff.mp hi).1
 refine kla_codeExpr ?_
 refine Subscript_ (Subscript_ (wpAny_Name (wpAny_loadName_free hkd kindL rfl (hcell.keeps kp1) (wpAny_Name (wpAny_loadName_local hkd kindN hns rfl ?_))) ))
 refine subscriptTail_builtinR (x := .ref a) hT1.typeIs slot_tuple_getitem.lookup (getItem_tuple (j := i) (Q := fun r s' => r = .ref a /\ _) hT1 (by omega) (by omega) (seqIndex_of (by omega) (by omega)) hi ⟨rfl, ?_⟩) rfl
 refine wpAny_Constant_int ?_
 refine subscriptTail_builtinR (x := .int k tk) ha1.typeIs slot_tuple_getitem.lookup (getItem_tuple (j := 2) (Q := fun r s' => r = .int k tk /\ _) ha1 (by omega) (by omega) (seqIndex_of (by omega) (by have := (Array.getElem?_eq_some_iff.mp hk).1; omega)) hk ⟨rfl, ?_⟩) rfl
 exact ⟨h₁, _, tk, rfl, rfl, hk₁⟩
end
end TW
end
section
namespace TW
open PySem PySem.Spec PyProof.Rows L2
open PySem.W (kla_obj kla_fn kla_eval kla_makeFunction kla_makeFunctionHit CodeHd tabObj)
section
variable {X : Cx} {pins : List (Addr × Obj)} {σ : L2.St} {H : Hp} {s : Shared}
theorem lam_make {params : Arguments} {body : Expr} {lscope : Scope} {lpos : Pos} {clos : List (Str × Addr)} {c P : Addr} {E : Value -> Shared -> Prop} {Q : Value -> Shared -> Prop} (I : Inv X pins σ H s) (hP : H P = some (.ext (tabφ P lpos (X.env.qual ++ "<lambda>"))))
  (hcode : X.env.code = .ref c) (C : CodeHd X.base c P) (hB : X.base.BuiltinsAt X.mg P) (hcl : closureFor lscope X.env = pure clos) (hdef : defaultsOf params X.env = ([], []))
  (h : ∀ f c' ctv pm s' H', Inv X pins σ H' s' -> Same H H' -> s'.heap.get? f = some (kla_obj "<lambda>" (X.env.qual ++ "<lambda>") params body lscope clos pm c' ctv) -> s'.heap.CodeRec (.ref c') (X.env.qual ++ "<lambda>") -> (∀ b o, b ≠ P -> s.heap.get? b = some o -> s'.heap.get? b = some o) -> Q (.ref f) s') :
  wpAny (model X.prog X.w) X.A (eval (.Lambda params body lscope lpos) X.env) Q E s := by
 have hg : s.heap.Ns mainGlobals X.mg := I.mod.glob.keeps I.bk
 have hgP : mainGlobals ≠ P := fun z => by
  obtain ⟨o, es, ep, e, _⟩ := I.mod.glob
  have := (I.bs _ _ e).2
  rw [z, hP] at this; cases this
 obtain ⟨bm, ob, b1, b2, b3, b4, b5, b6⟩ := hB
 have hB' : s.heap.BuiltinsAt X.mg P := ⟨bm, ob, b1, b2, b3, b4, I.bk _ _ b5, b6⟩
 have C' := C.keeps I.bk
 obtain ⟨φ, _, _⟩ := I.hok P _ hP
 refine kla_eval hdef ?_
 rcases φ with φ | ⟨c1, φ, own, rec⟩
 ·refine kla_makeFunction (mg := X.mg) (ps := #[]) hcl I.ok.glob hg hcode C' φ trivial rfl hgP hB' fun c' ctv h' tk hx hge hlt hrec htb => ?_
  have kp : ∀ b o, b ≠ P -> s.heap.get? b = some o -> (h'.push (kla_obj "<lambda>" (X.env.qual ++ "<lambda>") params body lscope clos ((X.mg "__name__").getD .none) c' ctv)).get? b = some o := fun b o nb e => Heap.get?_push_of_some _ (hx _ _ nb e)
  have fr : H c' = none := I.hok.fresh hge
  have hP' : (h'.push (kla_obj "<lambda>" (X.env.qual ++ "<lambda>") params body lscope clos ((X.mg "__name__").getD .none) c' ctv)).get? P = some (tabObj #[rawInt lpos.line, rawInt lpos.col, .ref c']) := Heap.get?_push_of_some _ (by simpa using htb)
  have rec' : (h'.push (kla_obj "<lambda>" (X.env.qual ++ "<lambda>") params body lscope clos ((X.mg "__name__").getD .none) c' ctv)).CodeRec (.ref c') (X.env.qual ++ "<lambda>") := hrec.keeps fun b o e => Heap.get?_push_of_some _ e
  have sm : Same H (upd H c' (.own P)) := fun b o e => by rw [upd_ne (ne_of_none e fr)]; exact e
  have nP : ∀ b, H b = none -> b ≠ P := fun b n z => by rw [z, hP] at n; cases n
  refine h _ c' ctv _ _ (upd H c' (.own P)) (I.un ⟨fun b o e n hb _ => kp b o (nP b n) e, fun b o e n hb _ => ⟨o.slots, kp b o (nP b n) e⟩, fun b o e n _ => ?_, fun b o e _ => ?_, fun b xs e => sm _ _ e, fun b o u e => sm _ _ e, fun b ps e => ⟨#[], by rw [sm _ _ e]; simp⟩⟩ fun b o e => ?_) sm (Heap.get?_push_size _ rfl) rec' kp
  ·rw [upd_ne (Nat.ne_of_lt (Nat.lt_of_lt_of_le (Heap.lt_size e) hge))]; exact n
  ·by_cases hb : b = P
   ·rw [hb]; exact ⟨_, hP'⟩
   ·exact ⟨o, kp b o hb e⟩
  ·by_cases hb : b = c'
   ·subst hb
    rw [upd_same] at e
    cases e
    obtain ⟨_, o, _, _, e1, ho, _⟩ := rec'
    cases e1
    exact ⟨o, ho⟩
   ·rw [upd_ne hb] at e
    by_cases hbP : b = P
    ·subst hbP
     rw [hP] at e
     cases e
     exact tab_ok (.inr ⟨c', hP', upd_same, rec'⟩)
    ·refine (I.hok b o e).stay (fun d v hd q => kp d v ?_ q) (fun d q => sm _ _ q) fun d xs q => sm _ _ q
     rcases hd with rfl | hd
     ·exact hbP
     ·intro z
      rw [z, hP] at hd
      cases hd
 ·refine kla_makeFunctionHit (mg := X.mg) (ps := #[rawInt lpos.line, rawInt lpos.col, .ref c1]) (cv := .ref c1) hcl I.ok.glob hg hcode C' φ (by simp [TriplesOk, rawInt]) (by simp [codeAmong, rawInt]) hB' fun ctv h' tk kp _ => ?_
  exact h _ c1 ctv _ _ H (I.kept fun b o e => Heap.get?_push_of_some _ (kp _ _ e)) (Same.refl H) (Heap.get?_push_size _ rfl) (rec.keeps fun b o e => Heap.get?_push_of_some _ (kp _ _ e)) fun b o _ e => Heap.get?_push_of_some _ (kp _ _ e)
end
end TW
end
section
namespace TW
open PySem PySem.Spec PyProof.Rows L2
structure Tab where
 fns : List (Str × Nat)
 gls : List (Str × Const)
noncomputable abbrev Sc := List (Str × NameKind)
noncomputable def visK : NameKind -> Bool
 | .local | .cell | .free => true
 | _ => false
noncomputable def locK : NameKind -> Bool
 | .local | .cell => true
 | _ => false
noncomputable def notDbg (x : Str) : Bool := !(x == ("__debug__" : Str)) && !(x == ("__classdict__" : Str)) && !(x == ("__name__" : Str))
noncomputable def slotIs (sc : Sc) (i : Nat) (x : Str) : Bool := match sc[i]? with
 | some (y, k) => y == x && visK k
 | none => false
noncomputable def slotL (sc : Sc) (i : Nat) (x : Str) : Bool := match sc[i]? with
 | some (y, k) => y == x && locK k
 | none => false
noncomputable def glob (sc : Sc) (x : Str) : Bool := sc.lookup x == some .globalImplicit
noncomputable def cstIs : D -> Const -> Bool
 | .int i, .int j => decide (i = j)
 | .bl a, .bool b => decide (a = b)
 | .non, .none => true
 | .str x, .str y => decide (x = y)
 | _, _ => false
noncomputable def gstIs (T : Tab) (x : Str) (d : D) : Bool := match T.gls.lookup x with
 | some c => cstIs d c
 | none => false
noncomputable def isIf : Expr -> Bool
 | .IfExp .. => true
 | _ => false
noncomputable def isStar : Expr -> Bool
 | .Starred .. => true
 | _ => false
noncomputable def isSlc : Expr -> Bool
 | .Slice .. => true
 | _ => false
noncomputable def isSet : Expr -> Bool
 | .Set .. => true
 | _ => false
noncomputable def isComp : Expr -> Bool
 | .ListComp .. | .SetComp .. | .DictComp .. => true
 | _ => false
noncomputable def isTupE : Expr -> Bool
 | .Tuple .. => true
 | _ => false
noncomputable def tgI : CI -> Expr -> Bool
 | .zp _ _, e => isTupE e
 | .en _, e => isTupE e
 | _, _ => true
noncomputable def b1Name : B1 -> Str
 | .len => "len"
 | .tuple => "tuple"
 | .list => "list"
 | .sorted => "sorted"
 | .sortp => "sorted"
 | .byl => "sorted"
 | .str => "str"
 | .int => "int"
 | .sum => "sum"
 | .all => "all"
 | .any => "any"
 | .min => "min"
 | .max => "max"
noncomputable def b1Sup : B1 -> Bool
 | .len | .tuple | .sorted | .int | .sum | .all => true
 | .byl => false
 | .max => false
 | .min => false
 | .any => false
 | .str => false
 | .sortp => false
 | .list => false
noncomputable def b2Name : B2 -> Str
 | .min => "min"
 | .max => "max"
noncomputable def tyStr : Ty -> Str
 | .int => "int"
 | .bool => "bool"
 | .str => "str"
 | .list => "list"
 | .tuple => "tuple"
 | .dict => "dict"
noncomputable def bltN : List Str := ["len", "tuple", "list", "sorted", "str", "int", "sum", "all", "any", "min", "max", "bool", "dict", "isinstance", "range", "zip", "enumerate", "set"]
noncomputable def CA.len : CA -> Nat
 | .nil => 0
 | .cons _ r => r.len + 1
noncomputable def fnIs (T : Tab) (f : Nat) (x : Str) (n : Nat) : Bool := match T.fns[f]? with
 | some (y, m) => y == x && decide (m = n)
 | none => false
noncomputable def capIs (sc : Sc) : List (Option Nat) -> Sc -> Bool
 | [], [] => true
 | none :: c, _ :: r => capIs sc c r
 | some j :: c, (x, k) :: r => decide (k = .free) && (match sc[j]? with | some (y, _) => y == x | none => false) && capIs sc c r
 | _, _ => false
noncomputable def frees (sc : Sc) : Sc -> Bool
 | [] => true
 | (x, .free) :: r => (sc.lookup x == some .cell || sc.lookup x == some .free) && frees sc r
 | _ :: r => frees sc r
noncomputable def ndS : List Str -> Bool
 | [] => true
 | x :: r => !(r.contains x) && ndS r
noncomputable def blkIs (sc : Sc) (cap : List (Option Nat)) (scope : Scope) : Bool :=
 decide (scope.kind = .function) && ndS (scope.names.map (·.1)) && capIs sc cap scope.names && frees sc scope.names
noncomputable def chkTs (sc : Sc) : List Nat -> List Expr -> Bool
 | [], [] => true
 | i :: l, .Name x _ :: r => slotL sc i x && chkTs sc l r
 | _, _ => false
noncomputable def chkT (sc : Sc) : Tg -> Expr -> Bool
 | .one i, .Name x _ => slotL sc i x
 | .many l, .Tuple es _ _ => chkTs sc l es
 | _, _ => false
noncomputable def ofO {α : Type} : Option α -> (α -> Bool) -> Bool
 | some a, f => f a
 | none, _ => false
theorem ofO_true {α : Type} {f : α -> Bool} : ∀ {o : Option α}, ofO o f = true -> ∃ a, o = some a /\ f a = true
 | some a, h => ⟨a, rfl, h⟩
 | none, h => nomatch h
noncomputable def asName : Expr -> Option Str
 | .Name x _ => some x
 | _ => none
noncomputable def asConst : Expr -> Option Const
 | .Constant c _ _ => some c
 | _ => none
noncomputable def asUn : Expr -> Option (UnaryOp × Expr)
 | .UnaryOp o x _ => some (o, x)
 | _ => none
noncomputable def asBin : Expr -> Option (Expr × Operator × Expr)
 | .BinOp x o y _ => some (x, o, y)
 | _ => none
noncomputable def asCmp : Expr -> Option (Expr × List CmpOp × List Expr)
 | .Compare x os es _ => some (x, os, es)
 | _ => none
noncomputable def asBool : Expr -> Option (BoolOp × List Expr × Pos)
 | .BoolOp o es p => some (o, es, p)
 | _ => none
noncomputable def asIf : Expr -> Option (Expr × Expr × Expr)
 | .IfExp t x y _ => some (t, x, y)
 | _ => none
noncomputable def asTup : Expr -> Option (List Expr)
 | .Tuple es _ _ => some es
 | _ => none
noncomputable def asLst : Expr -> Option (List Expr)
 | .List es _ => some es
 | _ => none
noncomputable def asSub : Expr -> Option (Expr × Expr)
 | .Subscript x y _ => some (x, y)
 | _ => none
noncomputable def asSlc : Expr -> Option (Option Expr × Option Expr × Option Expr)
 | .Slice l h st _ => some (l, h, st)
 | _ => none
noncomputable def asComp : Expr -> Option (Expr × List Comprehension × Scope)
 | .ListComp x gs sc _ => some (x, gs, sc)
 | _ => none
noncomputable def asCall : Expr -> Option (Expr × List Expr × List Keyword)
 | .Call f es ks _ => some (f, es, ks)
 | _ => none
noncomputable def one1 {α : Type} : List α -> Option α
 | [x] => some x
 | _ => none
noncomputable def two2 {α : Type} : List α -> Option (α × α)
 | [x, y] => some (x, y)
 | _ => none
theorem one1_of {α : Type} {l : List α} {x : α} (h : one1 l = some x) : l = [x] := by
 match l with
 | [] => exact no_some h
 | [a] => cases h; rfl
 | _ :: _ :: _ => exact no_some h
theorem two2_of {α : Type} {l : List α} {q : α × α} (h : two2 l = some q) : l = [q.1, q.2] := by
 match l with
 | [] => exact no_some h
 | [a] => exact no_some h
 | [a, b] => cases h; rfl
 | _ :: _ :: _ :: _ => exact no_some h
noncomputable def asFn (e : Expr) : Option (Str × List Expr) := (asCall e).bind fun q => (asName q.1).bind fun x => if q.2.2.isEmpty then some (x, q.2.1) else none
noncomputable def asFn1 (e : Expr) : Option (Str × Expr) := (asFn e).bind fun q => (one1 q.2).map fun y => (q.1, y)
noncomputable def asFn2 (e : Expr) : Option (Str × Expr × Expr) := (asFn e).bind fun q => (two2 q.2).map fun y => (q.1, y)
theorem asName_of {e : Expr} {x : Str} (h : asName e = some x) : ∃ p, e = .Name x p := by
 cases e <;> first | exact no_some h | (cases h; exact ⟨_, rfl⟩)
theorem asCall_of {e : Expr} {q : Expr × List Expr × List Keyword} (h : asCall e = some q) : ∃ p, e = .Call q.1 q.2.1 q.2.2 p := by
 cases e <;> first | exact no_some h | (cases h; exact ⟨_, rfl⟩)
theorem asFn_of {e : Expr} {q : Str × List Expr} (h : asFn e = some q) : ∃ p p', e = .Call (.Name q.1 p) q.2 [] p' := by
 obtain ⟨a, e1, h⟩ := bnd h
 obtain ⟨x, e2, h⟩ := bnd h
 obtain ⟨h3, rfl⟩ := if_some h
 obtain ⟨p', rfl⟩ := asCall_of e1
 obtain ⟨p, e2⟩ := asName_of e2
 rw [e2, List.isEmpty_iff.mp h3]
 exact ⟨p, p', rfl⟩
theorem asFn1_of {e : Expr} {q : Str × Expr} (h : asFn1 e = some q) : ∃ p p', e = .Call (.Name q.1 p) [q.2] [] p' := by
 obtain ⟨a, e1, h⟩ := bnd h
 obtain ⟨y, e2, rfl⟩ := mpd h
 rw [<- one1_of e2]
 exact asFn_of e1
theorem asFn2_of {e : Expr} {q : Str × Expr × Expr} (h : asFn2 e = some q) : ∃ p p', e = .Call (.Name q.1 p) [q.2.1, q.2.2] [] p' := by
 obtain ⟨a, e1, h⟩ := bnd h
 obtain ⟨y, e2, rfl⟩ := mpd h
 rw [<- two2_of e2]
 exact asFn_of e1
theorem asConst_of {e : Expr} {c : Const} (h : asConst e = some c) : ∃ k p, e = .Constant c k p := by
 cases e <;> first | exact no_some h | (cases h; exact ⟨_, _, rfl⟩)
theorem asUn_of {e : Expr} {q : UnaryOp × Expr} (h : asUn e = some q) : ∃ p, e = .UnaryOp q.1 q.2 p := by
 cases e <;> first | exact no_some h | (cases h; exact ⟨_, rfl⟩)
theorem asBin_of {e : Expr} {q : Expr × Operator × Expr} (h : asBin e = some q) : ∃ p, e = .BinOp q.1 q.2.1 q.2.2 p := by
 cases e <;> first | exact no_some h | (cases h; exact ⟨_, rfl⟩)
theorem asCmp_of {e : Expr} {q : Expr × List CmpOp × List Expr} (h : asCmp e = some q) : ∃ p, e = .Compare q.1 q.2.1 q.2.2 p := by
 cases e <;> first | exact no_some h | (cases h; exact ⟨_, rfl⟩)
theorem asBool_of {e : Expr} {q : BoolOp × List Expr × Pos} (h : asBool e = some q) : e = .BoolOp q.1 q.2.1 q.2.2 := by
 cases e <;> first | exact no_some h | (cases h; rfl)
theorem asIf_of {e : Expr} {q : Expr × Expr × Expr} (h : asIf e = some q) : ∃ p, e = .IfExp q.1 q.2.1 q.2.2 p := by
 cases e <;> first | exact no_some h | (cases h; exact ⟨_, rfl⟩)
theorem asTup_of {e : Expr} {q : List Expr} (h : asTup e = some q) : ∃ k p, e = .Tuple q k p := by
 cases e <;> first | exact no_some h | (cases h; exact ⟨_, _, rfl⟩)
theorem asLst_of {e : Expr} {q : List Expr} (h : asLst e = some q) : ∃ p, e = .List q p := by
 cases e <;> first | exact no_some h | (cases h; exact ⟨_, rfl⟩)
theorem asSub_of {e : Expr} {q : Expr × Expr} (h : asSub e = some q) : ∃ p, e = .Subscript q.1 q.2 p := by
 cases e <;> first | exact no_some h | (cases h; exact ⟨_, rfl⟩)
theorem asSlc_of {e : Expr} {q : Option Expr × Option Expr × Option Expr} (h : asSlc e = some q) : ∃ p, e = .Slice q.1 q.2.1 q.2.2 p := by
 cases e <;> first | exact no_some h | (cases h; exact ⟨_, rfl⟩)
theorem asComp_of {e : Expr} {q : Expr × List Comprehension × Scope} (h : asComp e = some q) : ∃ p, e = .ListComp q.1 q.2.1 q.2.2 p := by
 cases e <;> first | exact no_some h | (cases h; exact ⟨_, rfl⟩)
mutual
noncomputable def chk (T : Tab) : C -> Sc -> Expr -> Bool
 | .var i, sc, e => ofO (asName e) fun x => slotIs sc i x && notDbg x
 | .cst d, sc, e => (ofO (asConst e) fun c => cstIs d c) || (ofO (asName e) fun x => glob sc x && notDbg x && gstIs T x d)
 | .neg _, _, _ => false
 | .nt a, sc, e => ofO (asUn e) fun q => decide (q.1 = .Not) && chk T a sc q.2 && !isIf q.2
 | .bin op a b, sc, e => ofO (asBin e) fun q => decide (q.2.1 = op) && chk T a sc q.1 && chk T b sc q.2.2
 | .cmp op a b, sc, e => ofO (asCmp e) fun q => ofO (one1 q.2.2) fun y => decide (q.2.1 = [op]) && !behindInMarks op y && chk T a sc q.1 && chk T b sc y
 | .cmp2 op oq a b c, sc, e => ofO (asCmp e) fun q => ofO (two2 q.2.2) fun y => decide (q.2.1 = [op, oq]) && !lastMarks [op, oq] [y.1, y.2] && chk T a sc q.1 && chk T b sc y.1 && chk T c sc y.2
 | .an a b, sc, e => ofO (asBool e) fun q => decide (q.1 = .And) && (ofO q.2.1.head? fun x => chk T a sc x && !isIf x && (match q.2.1.tail with
  | [] => false
  | y :: r => if r.isEmpty then chk T b sc y && !isIf y else chk T b sc (.BoolOp .And (y :: r) q.2.2)))
 | .orr a b, sc, e => ofO (asBool e) fun q => decide (q.1 = .Or) && (ofO q.2.1.head? fun x => chk T a sc x && !isIf x && (match q.2.1.tail with
  | [] => false
  | y :: r => if r.isEmpty then chk T b sc y && !isIf y else chk T b sc (.BoolOp .Or (y :: r) q.2.2)))
 | .ife c a b, sc, e => ofO (asIf e) fun q => chk T c sc q.1 && !isIf q.1 && chk T a sc q.2.1 && chk T b sc q.2.2
 | .tp l, sc, e => ofO (asTup e) fun es => chkA T l sc es
 | .ls l, sc, e => ofO (asLst e) fun es => chkA T l sc es
 | .ix a b, sc, e => ofO (asSub e) fun q => !isSlc q.2 && chk T a sc q.1 && chk T b sc q.2
 | .sl a lo hi, sc, e => ofO (asSub e) fun q => ofO (asSlc q.2) fun u => u.2.2.isNone && chk T a sc q.1 && chkO T lo sc u.1 && chkO T hi sc u.2.1
 | .rev _, _, _ => false
 | .comp cap tg it cd el, sc, e => ofO (asComp e) fun q => ofO (one1 q.2.1) fun k => decide (k.is_async = 0) && blkIs sc cap q.2.2 && !isSet k.iter && chkT q.2.2.names tg k.target && tgI it k.target && chkI T it sc k.iter && chkC T cd q.2.2.names k.ifs && chk T el q.2.2.names q.1
 | .call f l, sc, e => ofO (asFn e) fun q => !q.2.isEmpty && fnIs T f q.1 l.len && glob sc q.1 && notDbg q.1 && chkA T l sc q.2
 | .b1 f a, sc, e => ofO (asFn1 e) fun q => q.1 == b1Name f && b1Sup f && glob sc q.1 && !isStar q.2 && chk T a sc q.2
 | .b2 f a b, sc, e => ofO (asFn2 e) fun q => q.1 == b2Name f && glob sc q.1 && !isStar q.2.1 && !isStar q.2.2 && chk T a sc q.2.1 && chk T b sc q.2.2
 | .isi a t, sc, e => ofO (asFn2 e) fun q => ofO (asName q.2.2) fun z => q.1 == ("isinstance" : Str) && z == tyStr t && glob sc q.1 && glob sc z && !isStar q.2.1 && chk T a sc q.2.1
 | .rngl a, sc, e => ofO (asFn1 e) fun q => ofO (asFn1 q.2) fun u => q.1 == ("list" : Str) && u.1 == ("range" : Str) && glob sc q.1 && glob sc u.1 && !isStar u.2 && chk T a sc u.2
 | .rngt _, _, _ => false
 | .slen _, _, _ => false
 | .join _ _, _, _ => false
 | .lm _ _ _, _, _ => false
noncomputable def chkA (T : Tab) : CA -> Sc -> List Expr -> Bool
 | .nil, _, es => es.isEmpty
 | .cons a l, sc, es => match es with
  | x :: r => !isStar x && chk T a sc x && chkA T l sc r
  | [] => false
noncomputable def chkO (T : Tab) : CO -> Sc -> Option Expr -> Bool
 | .no, _, e => e.isNone
 | .so a, sc, e => ofO e fun x => chk T a sc x
noncomputable def chkC (T : Tab) : CO -> Sc -> List Expr -> Bool
 | .no, _, es => es.isEmpty
 | .so a, sc, es => ofO (one1 es) fun x => chk T a sc x && !isIf x
noncomputable def chkI (T : Tab) : CI -> Sc -> Expr -> Bool
 | .sq a, sc, e => chk T a sc e
 | .ky _, _, _ => false
 | .r1 a, sc, e => ofO (asFn1 e) fun q => q.1 == ("range" : Str) && glob sc q.1 && !isStar q.2 && chk T a sc q.2
 | .r2 a b, sc, e => ofO (asFn2 e) fun q => q.1 == ("range" : Str) && glob sc q.1 && !isStar q.2.1 && !isStar q.2.2 && chk T a sc q.2.1 && chk T b sc q.2.2
 | .r3 _ _ _, _, _ => false
 | .zp _ _, _, _ => false
 | .en _, _, _ => false
end
structure Good (X : Cx) (T : Tab) (p : Nat -> List D -> Option D) (sc : Sc) : Prop where
 N : X.N = sc.map (·.1)
 nd : (sc.map (·.1)).Nodup
 vis : ∀ x k, sc.lookup x = some k -> visK k = true -> Vis X.env.scope x
 gl : ∀ x, sc.lookup x = some .globalImplicit -> Gl X x
 loc : ∀ x, sc.lookup x = some .local -> X.env.scope.names.lookup x = some .local
 cel : ∀ x, sc.lookup x = some .cell -> X.env.scope.names.lookup x = some .cell /\ X.fn x = true
 out : ∀ x, sc.lookup x = some .cell \/ sc.lookup x = some .free -> X.env.kindOf x = some .cell \/ X.env.kindOf x = some .free
 calm : X.calm = true
 hu : X.A.units + 64 < cLine
 blt : ∀ x, x ∈ bltN -> X.mg x = none
 gls : ∀ x c, T.gls.lookup x = some c -> ∀ d, cstIs d c = true -> ∃ v u, X.mg x = some u /\ RelV v u /\ ∀ G, Rp G d v
 fns : ∀ f x n, T.fns[f]? = some (x, n) -> ∃ k a fd ps, FnOk X.prog X.w X.K X.mg X.base CX0 k a fd ps (spD n (p f)) /\ Room k X.A /\ X.mg x = some (.ref a) /\ PySem.W.keepIn X.K (.ref a) = true /\ Binds X.K fd ps []
theorem ndS_ok : ∀ {l : List Str}, ndS l = true -> l.Nodup
 | [], _ => List.nodup_nil
 | x :: r, h => by
  simp only [ndS, Bool.and_eq_true, Bool.not_eq_true', List.contains_eq_mem, decide_eq_false_iff_not] at h
  exact List.nodup_cons.mpr ⟨h.1, ndS_ok h.2⟩
section
variable {X : Cx} {T : Tab} {p : Nat -> List D -> Option D} {sc : Sc}
theorem Good.slot (g : Good X T p sc) {i : Nat} {x : Str} {k : NameKind} (h : sc[i]? = some (x, k)) : X.N[i]? = some x /\ sc.lookup x = some k := by
 refine ⟨by rw [g.N, List.getElem?_map, h]; rfl, lookup_of_mem g.nd (List.mem_of_getElem? h)⟩
theorem Good.slotIs (g : Good X T p sc) {i : Nat} {x : Str} (h : slotIs sc i x = true) : X.N[i]? = some x /\ Vis X.env.scope x := by
 unfold TW.slotIs at h
 split at h
 ·rename_i y k e
  simp only [Bool.and_eq_true, beq_iff_eq] at h
  obtain ⟨rfl, hk⟩ := h
  obtain ⟨a, b⟩ := g.slot e
  exact ⟨a, g.vis _ _ b hk⟩
 ·cases h
theorem Good.slotL (g : Good X T p sc) {i : Nat} {x : Str} (h : slotL sc i x = true) : X.N[i]? = some x /\ Loc X.env.scope x /\ (X.fn x = true \/ X.env.scope.names.lookup x = some .local) := by
 unfold TW.slotL at h
 split at h
 ·rename_i y k e
  simp only [Bool.and_eq_true, beq_iff_eq] at h
  obtain ⟨rfl, hk⟩ := h
  obtain ⟨a, b⟩ := g.slot e
  refine ⟨a, ?_⟩
  cases k <;> first | (cases hk; done) | skip
  ·exact ⟨.inl (g.loc _ b), .inr (g.loc _ b)⟩
  ·exact ⟨.inr (g.cel _ b).1, .inl (g.cel _ b).2⟩
 ·cases h
theorem Good.nodup (g : Good X T p sc) : X.N.Nodup := by rw [g.N]; exact g.nd
theorem Good.glob (g : Good X T p sc) {x : Str} (h : glob sc x = true) : Gl X x := g.gl x (by simpa [TW.glob] using h)
theorem dbg1 {x : Str} (h : notDbg x = true) : (x == ("__debug__" : Str)) = false /\ (x == ("__classdict__" : Str)) = false /\ x ≠ ("__name__" : Str) := by
 simp only [notDbg, Bool.and_eq_true, Bool.not_eq_true'] at h
 exact ⟨h.1.1, h.1.2, by simpa using h.2⟩
theorem star1 {e : Expr} (h : isStar e = false) (env : Env) (es : List Expr) : starEach (e :: es) env = (false, eval e env) :: starEach es env := by
 cases e <;> first | (cases h; done) | rfl
theorem noset {e : Expr} (h : isSet e = false) (env : Env) (x : Value) : foldedSetIterable e env x = pure x := by
 cases e <;> first | (cases h; done) | rfl
theorem plainIx {e : Expr} (h : isSlc e = false) : PlainIx e := by
 intro o i
 cases e <;> first | (cases h; done) | rfl
theorem noSl {e : Expr} (h : isSlc e = false) : NoSl e := by
 intro ov iv
 cases e <;> first | (cases h; done) | rfl
noncomputable def plainT : Expr -> Bool
 | .UnaryOp .Not _ _ => false
 | .BoolOp .. => false
 | .IfExp .. => false
 | .Compare .. => false
 | _ => true
theorem isTrue_plain {e : Expr} (h : plainT e = true) (env : Env) (whole : Sem Value) : isTrue e env whole = (do let v <- whole; standAt e.pos; holding [v] (truthy v)) := by
 cases e <;> first | (cases h; done) | rfl | skip
 rename_i op _ _
 cases op <;> first | (cases h; done) | rfl
structure Snd (X : Cx) (x : Expr) (f : En -> VT) : Prop where
 e : DE X x (fun ρ => (f ρ).1)
 t : isIf x = false -> DT X x (fun ρ => (f ρ).2)
 w : ∀ op vs pos, x = .BoolOp op vs pos -> DW X x (fun ρ => (f ρ).2)
theorem capIs_len : ∀ {cap : List (Option Nat)} {names : Sc}, capIs sc cap names = true -> cap.length = names.length
 | [], [], _ => rfl
 | none :: c, _ :: r, h => by simp [capIs_len (cap := c) (names := r) (by simpa [capIs] using h)]
 | some j :: c, (x, k) :: r, h => by
  simp only [capIs, Bool.and_eq_true] at h
  simp [capIs_len (cap := c) (names := r) h.2]
 | [], _ :: _, h => by cases h
 | none :: _, [], h => by cases h
 | some _ :: _, [], h => by cases h
theorem capIs_get : ∀ {cap : List (Option Nat)} {names : Sc} {i j : Nat} {x : Str} {k : NameKind}, capIs sc cap names = true -> names[i]? = some (x, k) -> cap[i]? = some (some j) -> k = .free /\ ∃ m, sc[j]? = some (x, m)
 | [], _, _, _, _, _, _, _, e => by simp at e
 | none :: c, _ :: r, i, j, x, k, h, e1, e2 => by
  cases i with
  | zero => simp at e2
  | succ i => exact capIs_get (cap := c) (names := r) (i := i) (by simpa [capIs] using h) (by simpa using e1) (by simpa using e2)
 | some j' :: c, (x', k') :: r, i, j, x, k, h, e1, e2 => by
  simp only [capIs, Bool.and_eq_true, decide_eq_true_eq] at h
  cases i with
  | zero =>
   simp at e1 e2
   obtain ⟨rfl, rfl⟩ := e1
   subst e2
   refine ⟨h.1.1, ?_⟩
   have h2 := h.1.2
   split at h2
   ·rename_i y m e
    have : y = x' := by simpa using h2
    subst this
    exact ⟨m, e⟩
   ·cases h2
  | succ i => exact capIs_get (cap := c) (names := r) (i := i) h.2 (by simpa using e1) (by simpa using e2)
 | none :: _, [], _, _, _, _, _, e, _ => by simp at e
 | some _ :: _, [], _, _, _, _, _, e, _ => by simp at e
theorem frees_get : ∀ {names : Sc} {x : Str}, frees sc names = true -> (x, NameKind.free) ∈ names -> sc.lookup x = some .cell \/ sc.lookup x = some .free
 | [], _, _, h => by cases h
 | (y, k) :: r, x, h, m => by
  rcases List.mem_cons.mp m with e | m
  ·cases e
   simp only [frees, Bool.and_eq_true, Bool.or_eq_true, beq_iff_eq] at h
   exact h.1
  ·refine frees_get (names := r) ?_ m
   cases k <;> simp only [frees, Bool.and_eq_true] at h <;> first | exact h | exact h.2
structure Blk (sc : Sc) (cap : List (Option Nat)) (scope : Scope) : Prop where
 kind : scope.kind = .function
 nd : (scope.names.map (·.1)).Nodup
 cap : capIs sc cap scope.names = true
 fr : frees sc scope.names = true
theorem blk_of {cap : List (Option Nat)} {scope : Scope} (h : blkIs sc cap scope = true) : Blk sc cap scope := by
 simp only [blkIs, Bool.and_eq_true, decide_eq_true_eq] at h
 exact ⟨h.1.1.1, ndS_ok h.1.1.2, h.1.2, h.2⟩
theorem Blk.ok {cap : List (Option Nat)} {scope : Scope} (b : Blk sc cap scope) (g : Good X T p sc) : BlkOk X scope (scope.names.map (·.1)) cap := by
 refine ⟨b.kind, b.nd, by rw [capIs_len b.cap, List.length_map], fun i j x h1 h2 => ?_, fun n hn => g.out n (frees_get b.fr hn)⟩
 rw [List.getElem?_map] at h1
 obtain ⟨⟨y, k⟩, e, rfl⟩ := Option.map_eq_some_iff.mp h1
 obtain ⟨rfl, m, em⟩ := capIs_get b.cap e h2
 exact ⟨lookup_of_mem b.nd (List.mem_of_getElem? e), (g.slot em).1⟩
theorem Blk.inj {cap : List (Option Nat)} {scope : Scope} (b : Blk sc cap scope) : ∀ (i j k : Nat), cap[i]? = some (some k) -> cap[j]? = some (some k) -> i = j := by
 intro i j k h1 h2
 have hl := capIs_len b.cap
 have li : i < scope.names.length := by rw [<- hl]; exact (List.getElem?_eq_some_iff.mp h1).1
 have lj : j < scope.names.length := by rw [<- hl]; exact (List.getElem?_eq_some_iff.mp h2).1
 have ei : scope.names[i]? = some scope.names[i] := by simp [li]
 have ej : scope.names[j]? = some scope.names[j] := by simp [lj]
 obtain ⟨_, m1, e1⟩ := capIs_get (x := scope.names[i].1) (k := scope.names[i].2) b.cap ei h1
 obtain ⟨_, m2, e2⟩ := capIs_get (x := scope.names[j].1) (k := scope.names[j].2) b.cap ej h2
 rw [e1] at e2
 have en : scope.names[i].1 = scope.names[j].1 := (Prod.mk.inj (Option.some.inj e2)).1
 have hi : i < (scope.names.map (·.1)).length := by simpa using li
 have hj : j < (scope.names.map (·.1)).length := by simpa using lj
 have : (scope.names.map (·.1))[i] = (scope.names.map (·.1))[j] := by simpa using en
 exact (List.getElem_inj b.nd).mp this
theorem Blk.good {cap : List (Option Nat)} {scope : Scope} (b : Blk sc cap scope) (g : Good X T p sc) (s : Shared) (H : Hp) (fp : List Addr) : Good (blkX X scope (scope.names.map (·.1)) s H fp) T p scope.names := by
 have kof : ∀ x, (blkX X scope (scope.names.map (·.1)) s H fp).env.scope.names.lookup x = (scope.names.lookup x).map fun k => if (k == .free && X.env.scope.kind == .function && X.env.kindOf x == some .cell) then .cell else k := fun x => relabel_lookup scope X.env x
 refine ⟨rfl, b.nd, fun x k h hk => ?_, fun x h => ?_, fun x h => ?_, fun x h => ?_, fun x h => ?_, g.calm, g.hu, g.blt, g.gls, g.fns⟩
 ·show _ = _ \/ _ = _ \/ _ = _
  rw [kof, h]
  cases k <;> first | (cases hk; done) | skip
  ·exact .inl rfl
  ·exact .inr (.inl rfl)
  ·show some (if _ then _ else _) = _ \/ some (if _ then _ else _) = _ \/ some (if _ then _ else _) = _
   split
   ·exact .inr (.inl rfl)
   ·exact .inr (.inr rfl)
 ·show (blkX X scope (scope.names.map (·.1)) s H fp).env.scope.names.lookup x = _
  rw [kof, h]; rfl
 ·rw [kof, h]; rfl
 ·refine ⟨by rw [kof, h]; rfl, decide_eq_true h⟩
 ·show (blkX X scope (scope.names.map (·.1)) s H fp).env.scope.names.lookup x = _ \/ (blkX X scope (scope.names.map (·.1)) s H fp).env.scope.names.lookup x = _
  rw [kof]
  rcases h with h | h
  ·rw [h]; exact .inl rfl
  ·rw [h]
   show some (if _ then _ else _) = _ \/ some (if _ then _ else _) = _
   split
   ·exact .inl rfl
   ·exact .inr rfl
theorem dgs_ok (g : Good X T p sc) : ∀ {l : List Nat} {es : List Expr}, chkTs sc l es = true -> DGs X es l /\ (assignEach es X.env).length = l.length /\ (assignEach es X.env).findIdx? (·.1) = none
 | [], [], _ => ⟨dgs_nil, rfl, rfl⟩
 | i :: l, e :: r, h => by
  cases e <;> first | (cases h; done) | skip
  have h := Bool.and_eq_true_iff.mp h
  obtain ⟨a, b, c⟩ := g.slotL h.1
  obtain ⟨h1, h2, h3⟩ := dgs_ok g h.2
  refine ⟨dgs_cons g.nodup a b c h1 rfl, by simp [assignEach, h2], ?_⟩
  simp [assignEach, List.findIdx?_cons, h3]
 | [], _ :: _, h => by cases h
 | _ :: _, [], h => by cases h
theorem dg_ok (g : Good X T p sc) {tg : Tg} {e : Expr} (h : chkT sc tg e = true) : DG X e tg := by
 cases tg with
 | one i =>
  cases e <;> first | (cases h; done) | skip
  obtain ⟨a, b, c⟩ := g.slotL (h : slotL sc i _ = true)
  exact dg_name g.nodup a b c
 | many l =>
  cases e <;> first | (cases h; done) | skip
  obtain ⟨h1, h2, h3⟩ := dgs_ok g (h : chkTs sc l _ = true)
  exact dg_tup g.calm h1 h2 h3
theorem evA_len (p : Nat -> List D -> Option D) : ∀ (l : CA) (ρ : En) (ds : List D), evA p l ρ = some ds -> ds.length = l.len
 | .nil, ρ, ds, h => by cases h; rfl
 | .cons a l, ρ, ds, h => by
  obtain ⟨d, _, h⟩ := bnd h
  obtain ⟨q, e, rfl⟩ := mpd h
  simp [CA.len, evA_len p l ρ q e]
theorem cst_ok {d : D} {c : Const} {k : Nat} {pos : Pos} (h : cstIs d c = true) : DE X (.Constant c k pos) (fun _ => some (.fz, d)) := by
 cases d <;> cases c <;> first | (cases h; done) | skip
 ·exact de_non
 ·obtain rfl := of_decide_eq_true h; exact de_bl
 ·obtain rfl := of_decide_eq_true h; exact de_int
 ·obtain rfl := of_decide_eq_true h; exact de_str
theorem cmp_t {a b : C} {op : CmpOp} : (fun ρ => (ev p (.cmp op a b) ρ).2) = fun ρ => (ev p a ρ).1.bind fun x => (ev p b ρ).1.bind fun y => cmpD op x.2 y.2 := by
 funext ρ
 show (((ev p a ρ).1.bind fun x => (ev p b ρ).1.bind fun y => (cmpD op x.2 y.2).map fun b => (Kd.fz, D.bl b)).bind fun x => truD x.2) = _
 cases (ev p a ρ).1 with
 | none => rfl
 | some x =>
  show (((ev p b ρ).1.bind fun y => (cmpD op x.2 y.2).map fun b => (Kd.fz, D.bl b)).bind fun x => truD x.2) = (ev p b ρ).1.bind fun y => cmpD op x.2 y.2
  cases (ev p b ρ).1 with
  | none => rfl
  | some y =>
   show (((cmpD op x.2 y.2).map fun b => (Kd.fz, D.bl b)).bind fun x => truD x.2) = cmpD op x.2 y.2
   cases cmpD op x.2 y.2 <;> rfl
theorem cmp2_t {a b c : C} {op oq : CmpOp} : (fun ρ => (ev p (.cmp2 op oq a b c) ρ).2) = fun ρ => (ev p a ρ).1.bind fun x => (ev p b ρ).1.bind fun y => (cmpD op x.2 y.2).bind fun k =>
   if k then (ev p c ρ).1.bind fun z => cmpD oq y.2 z.2 else some false := by
 funext ρ
 show (((ev p a ρ).1.bind fun x => (ev p b ρ).1.bind fun y => (cmpD op x.2 y.2).bind fun k => if k then (ev p c ρ).1.bind fun z => (cmpD oq y.2 z.2).map fun b => (Kd.fz, D.bl b) else some (Kd.fz, D.bl false)).bind fun x => truD x.2) = _
 cases (ev p a ρ).1 with
 | none => rfl
 | some x =>
  cases (ev p b ρ).1 with
  | none => rfl
  | some y =>
   show (((cmpD op x.2 y.2).bind fun k => if k then (ev p c ρ).1.bind fun z => (cmpD oq y.2 z.2).map fun b => (Kd.fz, D.bl b) else some (Kd.fz, D.bl false)).bind fun x => truD x.2) = (cmpD op x.2 y.2).bind fun k => if k then (ev p c ρ).1.bind fun z => cmpD oq y.2 z.2 else some false
   cases cmpD op x.2 y.2 with
   | none => rfl
   | some k =>
    cases k with
    | false => rfl
    | true =>
     show (((ev p c ρ).1.bind fun z => (cmpD oq y.2 z.2).map fun b => (Kd.fz, D.bl b)).bind fun x => truD x.2) = (ev p c ρ).1.bind fun z => cmpD oq y.2 z.2
     cases (ev p c ρ).1 with
     | none => rfl
     | some z =>
      show (((cmpD oq y.2 z.2).map fun b => (Kd.fz, D.bl b)).bind fun x => truD x.2) = cmpD oq y.2 z.2
      cases cmpD oq y.2 z.2 <;> rfl
theorem tyStr_boot (t : Ty) : bootBuiltins (tyStr t) = some (.type (tyName t)) := by cases t <;> decide +kernel
theorem tyStr_in (t : Ty) : tyStr t ∈ bltN /\ tyStr t ≠ "__name__" /\ (tyStr t == ("__debug__" : Str)) = false := by cases t <;> decide +kernel
theorem b1Name_in (f : B1) : b1Name f ∈ bltN /\ b1Name f ≠ "__name__" /\ (b1Name f == ("__debug__" : Str)) = false := by cases f <;> decide +kernel
theorem b2Name_in (f : B2) : b2Name f ∈ bltN /\ b2Name f ≠ "__name__" /\ (b2Name f == ("__debug__" : Str)) = false := by cases f <;> decide +kernel
theorem de_b1 (g : Good X T p sc) {f : B1} {a : C} {e : Expr} {q pos : Pos} (hs : b1Sup f = true) (hgl : glob sc (b1Name f) = true) (hst : isStar e = false) (he : DE X e (fun ρ => (ev p a ρ).1)) :
  DE X (.Call (.Name (b1Name f) q) [e] [] pos) (fun ρ => (ev p a ρ).1.bind fun x => b1D f x.2) := by
 have st : starEach [e] X.env = [(false, eval e X.env)] := star1 hst _ _
 have gm := g.blt _ (b1Name_in f).1
 have gg := g.glob hgl
 obtain ⟨_, n1, n2⟩ := b1Name_in f
 cases f <;> first | (cases hs; done) | skip
 ·exact de_bB c_len gg gm (by decide +kernel) n1 n2 he st
 ·exact de_bT c_tuple gg gm (by decide +kernel) n1 n2 he st
 ·exact de_bB c_sorted gg gm (by decide +kernel) n1 n2 he st
 ·exact de_bT c_int gg gm (by decide +kernel) n1 n2 he st
 ·exact de_bB (c_sum g.calm) gg gm (by decide +kernel) n1 n2 he st
 ·exact de_bB (c_all g.calm) gg gm (by decide +kernel) n1 n2 he st
theorem de_b2' (g : Good X T p sc) {f : B2} {a b : C} {e e2 : Expr} {q pos : Pos} (hgl : glob sc (b2Name f) = true) (hst : isStar e = false) (hst2 : isStar e2 = false) (he : DE X e (fun ρ => (ev p a ρ).1)) (he2 : DE X e2 (fun ρ => (ev p b ρ).1)) :
  DE X (.Call (.Name (b2Name f) q) [e, e2] [] pos) (fun ρ => (ev p a ρ).1.bind fun x => (ev p b ρ).1.bind fun y => b2D f x.2 y.2) := by
 have st2 : starEach [e2] X.env = [(false, eval e2 X.env)] := star1 hst2 _ _
 have st : starEach [e, e2] X.env = [(false, eval e X.env), (false, eval e2 X.env)] := by rw [star1 hst, st2]
 have gm := g.blt _ (b2Name_in f).1
 have gg := g.glob hgl
 obtain ⟨_, n1, n2⟩ := b2Name_in f
 cases f
 ·exact de_b2 (c_min2 g.calm) (b2_ints .min) gg gm (by decide +kernel) n1 n2 he he2 st st2
 ·exact de_b2 (c_max2 g.calm) (b2_ints .max) gg gm (by decide +kernel) n1 n2 he he2 st st2
end
end TW
end
section
namespace TW
open PySem PySem.Spec PyProof.Rows L2
section
variable {X : Cx} {T : Tab} {p : Nat -> List D -> Option D} {sc : Sc}
theorem Snd.pl {c : C} {e : Expr} (h : DE X e (fun ρ => (ev p c ρ).1)) (hp : plainT e = true) (hc : ∀ ρ, (ev p c ρ).2 = (ev p c ρ).1.bind fun x => truD x.2) : Snd X e (ev p c) := by
 refine ⟨h, fun _ => ?_, fun op vs pos z => by subst z; cases hp⟩
 have : (fun ρ => (ev p c ρ).2) = fun ρ => (ev p c ρ).1.bind fun x => truD x.2 := funext hc
 rw [this]
 exact dt_val h (isTrue_plain hp X.env)
theorem chkA_any : ∀ {es : List Expr} {l : CA} (env : Env) (pos : Pos), chkA T l sc es = true -> (backTo pos (starEach es env)).any (·.1) = false
 | [], l, env, pos, _ => rfl
 | x :: r, l, env, pos, h => by
  cases l with
  | nil => cases h
  | cons a l =>
   have h : (!isStar x && chk T a sc x && chkA T l sc r) = true := h
   simp only [Bool.and_eq_true, Bool.not_eq_true'] at h
   rw [star1 h.1.1]
   have := chkA_any (es := r) (l := l) env pos h.2
   simpa [backTo] using this
end
mutual
theorem snd {T : Tab} {p : Nat -> List D -> Option D} : ∀ (c : C) {X : Cx} {sc : Sc} {e : Expr}, Good X T p sc -> chk T c sc e = true -> Snd X e (ev p c)
 | .var i, X, sc, e, g, h => by
  replace h := ofO_true h
  obtain ⟨x, e1, h⟩ := h
  obtain ⟨_, rfl⟩ := asName_of e1
  simp only [Bool.and_eq_true] at h
  obtain ⟨a, b⟩ := g.slotIs h.1
  obtain ⟨d1, d2, _⟩ := dbg1 h.2
  exact .pl (de_var a b d1 d2 p) rfl fun _ => rfl
 | .cst d, X, sc, e, g, h => by
  replace h := Bool.or_eq_true_iff.mp h
  rcases h with h | h
  ·replace h := ofO_true h
   obtain ⟨c, e1, h⟩ := h
   obtain ⟨_, _, rfl⟩ := asConst_of e1
   exact .pl (cst_ok h) rfl fun _ => rfl
  ·replace h := ofO_true h
   obtain ⟨x, e1, h⟩ := h
   obtain ⟨_, rfl⟩ := asName_of e1
   simp only [Bool.and_eq_true] at h
   obtain ⟨d1, d2, _⟩ := dbg1 h.1.2
   have h3 := h.2
   unfold gstIs at h3
   split at h3
   ·rename_i c ec
    obtain ⟨v, u, hm, rel, hr⟩ := g.gls _ _ ec _ h3
    exact .pl (de_glob (g.glob h.1.1) hm rel d1 hr) rfl fun _ => rfl
   ·cases h3
 | .neg _, X, sc, e, g, h => nomatch h
 | .nt a, X, sc, e, g, h => by
  replace h := ofO_true h
  obtain ⟨⟨o, x⟩, e1, h⟩ := h
  obtain ⟨_, rfl⟩ := asUn_of e1
  simp only [Bool.and_eq_true, decide_eq_true_eq, Bool.not_eq_true'] at h
  obtain ⟨⟨rfl, h⟩, h2⟩ := h
  have s := snd a g h
  exact ⟨de_not s.e, fun _ => dt_not (s.t h2), fun op vs pos z => by cases z⟩
 | .bin op a b, X, sc, e, g, h => by
  replace h := ofO_true h
  obtain ⟨⟨x, o, y⟩, e1, h⟩ := h
  obtain ⟨_, rfl⟩ := asBin_of e1
  simp only [Bool.and_eq_true, decide_eq_true_eq] at h
  obtain ⟨⟨rfl, h1⟩, h2⟩ := h
  exact .pl (de_bin (op_ok _) (snd a g h1).e (snd b g h2).e) rfl fun _ => rfl
 | .cmp op a b, X, sc, e, g, h => by
  replace h := ofO_true h
  obtain ⟨⟨x, os, es⟩, e1, h⟩ := h
  replace h := ofO_true h
  obtain ⟨y, e2, h⟩ := h
  obtain ⟨_, rfl⟩ := asCmp_of e1
  simp only [Bool.and_eq_true, decide_eq_true_eq, Bool.not_eq_true'] at h
  obtain ⟨⟨⟨rfl, hm⟩, h1⟩, h2⟩ := h
  obtain rfl := one1_of e2
  have s1 := snd a g h1
  have s2 := snd b g h2
  refine ⟨de_cmp (cmpD_ok g.hu _) hm s1.e s2.e, fun _ => ?_, fun op vs pos z => by cases z⟩
  rw [cmp_t]
  exact dt_cmp (cmpD_ok g.hu _) hm s1.e s2.e
 | .cmp2 op oq a b c, X, sc, e, g, h => by
  replace h := ofO_true h
  obtain ⟨⟨x, os, es⟩, e1, h⟩ := h
  replace h := ofO_true h
  obtain ⟨y, e2, h⟩ := h
  obtain ⟨_, rfl⟩ := asCmp_of e1
  simp only [Bool.and_eq_true, decide_eq_true_eq, Bool.not_eq_true'] at h
  obtain ⟨⟨⟨⟨rfl, hm⟩, h1⟩, h2⟩, h3⟩ := h
  obtain rfl := two2_of e2
  have s1 := snd a g h1
  have s2 := snd b g h2
  have s3 := snd c g h3
  refine ⟨de_chain (cmpD_ok g.hu _) (cmpD_ok g.hu _) hm s1.e s2.e s3.e, fun _ => ?_, fun op vs pos z => by cases z⟩
  rw [cmp2_t]
  exact dt_chain (cmpD_ok g.hu _) (cmpD_ok g.hu _) hm s1.e s2.e s3.e
 | .an a b, X, sc, e, g, h => by
  replace h := ofO_true h
  obtain ⟨⟨o, es, pos⟩, e1, h⟩ := h
  obtain rfl := asBool_of e1
  simp only [Bool.and_eq_true, decide_eq_true_eq] at h
  obtain ⟨rfl, h⟩ := h
  replace h := ofO_true h
  obtain ⟨x, e2, h⟩ := h
  simp only [Bool.and_eq_true, Bool.not_eq_true'] at h
  obtain ⟨⟨h1, hx⟩, h⟩ := h
  have s1 := snd a g h1
  match es, e2, h with
  | x :: y :: [], rfl, h =>
   have h : (chk T b sc y && !isIf y) = true := h
   simp only [Bool.and_eq_true, Bool.not_eq_true'] at h
   have s2 := snd b g h.1
   have w := dw_and (pos := pos) (s1.t hx) (dw_and1 (s2.t h.2))
   exact ⟨de_and s1.e (de_one s2.e), fun _ => w.dt, fun op vs pos z => by cases z; exact w⟩
  | x :: y :: z :: r, rfl, h =>
   have s2 := snd b g (h : chk T b sc (.BoolOp .And (y :: z :: r) pos) = true)
   have w := dw_and (s1.t hx) (s2.w _ _ _ rfl)
   exact ⟨de_and s1.e s2.e, fun _ => w.dt, fun op vs pos z => by cases z; exact w⟩
 | .orr a b, X, sc, e, g, h => by
  replace h := ofO_true h
  obtain ⟨⟨o, es, pos⟩, e1, h⟩ := h
  obtain rfl := asBool_of e1
  simp only [Bool.and_eq_true, decide_eq_true_eq] at h
  obtain ⟨rfl, h⟩ := h
  replace h := ofO_true h
  obtain ⟨x, e2, h⟩ := h
  simp only [Bool.and_eq_true, Bool.not_eq_true'] at h
  obtain ⟨⟨h1, hx⟩, h⟩ := h
  have s1 := snd a g h1
  match es, e2, h with
  | x :: y :: [], rfl, h =>
   have h : (chk T b sc y && !isIf y) = true := h
   simp only [Bool.and_eq_true, Bool.not_eq_true'] at h
   have s2 := snd b g h.1
   have w := dw_or (pos := pos) (s1.t hx) (dw_or1 (s2.t h.2))
   exact ⟨de_or s1.e (de_one s2.e), fun _ => w.dt, fun op vs pos z => by cases z; exact w⟩
  | x :: y :: z :: r, rfl, h =>
   have s2 := snd b g (h : chk T b sc (.BoolOp .Or (y :: z :: r) pos) = true)
   have w := dw_or (s1.t hx) (s2.w _ _ _ rfl)
   exact ⟨de_or s1.e s2.e, fun _ => w.dt, fun op vs pos z => by cases z; exact w⟩
 | .ife c a b, X, sc, e, g, h => by
  replace h := ofO_true h
  obtain ⟨⟨t, x, y⟩, e1, h⟩ := h
  obtain ⟨_, rfl⟩ := asIf_of e1
  simp only [Bool.and_eq_true, Bool.not_eq_true'] at h
  exact ⟨de_ife ((snd c g h.1.1.1).t h.1.1.2) (snd a g h.1.2).e (snd b g h.2).e, (fun z => by cases z), (fun op vs pos z => by cases z)⟩
 | .tp l, X, sc, e, g, h => by
  replace h := ofO_true h
  obtain ⟨es, e1, h⟩ := h
  obtain ⟨_, _, rfl⟩ := asTup_of e1
  exact .pl (de_tup (sndA l g h)) rfl fun _ => rfl
 | .ls l, X, sc, e, g, h => by
  replace h := ofO_true h
  obtain ⟨es, e1, h⟩ := h
  obtain ⟨_, rfl⟩ := asLst_of e1
  exact .pl (de_lst (sndA l g h)) rfl fun _ => rfl
 | .ix a b, X, sc, e, g, h => by
  replace h := ofO_true h
  obtain ⟨⟨x, y⟩, e1, h⟩ := h
  obtain ⟨_, rfl⟩ := asSub_of e1
  simp only [Bool.and_eq_true, Bool.not_eq_true'] at h
  exact .pl (de_ixk g.hu (plainIx h.1.1) (noSl h.1.1) (snd a g h.1.2).e (snd b g h.2).e) rfl fun _ => rfl
 | .sl a lo hi, X, sc, e, g, h => by
  replace h := ofO_true h
  obtain ⟨⟨x, y⟩, e1, h⟩ := h
  replace h := ofO_true h
  obtain ⟨⟨l, u, t⟩, e2, h⟩ := h
  obtain ⟨_, rfl⟩ := asSub_of e1
  obtain ⟨_, rfl⟩ := asSlc_of e2
  simp only [Bool.and_eq_true, Option.isNone_iff_eq_none] at h
  obtain ⟨⟨⟨rfl, h1⟩, h2⟩, h3⟩ := h
  exact .pl (de_sl (snd a g h1).e (sndO lo g h2) (sndO hi g h3)) rfl fun _ => rfl
 | .rev _, X, sc, e, g, h => nomatch h
 | .comp cap tg it cd el, X, sc, e, g, h => by
  replace h := ofO_true h
  obtain ⟨⟨elt, gs, scope⟩, e1, h⟩ := h
  replace h := ofO_true h
  obtain ⟨⟨target, iter, ifs, isa⟩, e2, h⟩ := h
  obtain ⟨_, rfl⟩ := asComp_of e1
  obtain rfl := one1_of e2
  simp only [Bool.and_eq_true, decide_eq_true_eq, Bool.not_eq_true'] at h
  obtain ⟨⟨⟨⟨⟨⟨⟨rfl, hb⟩, hs⟩, ht⟩, hti⟩, hi⟩, hc⟩, he⟩ := h
  have b := blk_of hb
  exact .pl (de_comp (b.ok g) b.inj g.calm (sndI it g hi _ hti) (fun s H fp => dg_ok (b.good g s H fp) ht) (fun s H fp => sndC cd (b.good g s H fp) hc) (fun s H fp => (snd el (b.good g s H fp) he).e) (noset hs X.env)) rfl fun _ => rfl
 | .call f l, X, sc, e, g, h => by
  replace h := ofO_true h
  obtain ⟨⟨x, es⟩, e1, h⟩ := h
  obtain ⟨_, pos, rfl⟩ := asFn_of e1
  simp only [Bool.and_eq_true] at h
  obtain ⟨⟨⟨⟨h0, h1⟩, h2⟩, h3⟩, h4⟩ := h
  unfold fnIs at h1
  split at h1
  case h_2 => cases h1
  rename_i z m ef
  simp only [Bool.and_eq_true, beq_iff_eq, decide_eq_true_eq] at h1
  obtain ⟨rfl, rfl⟩ := h1
  obtain ⟨k, a, fd, ps, F, hr, hm, hk, hb⟩ := g.fns _ _ _ ef
  obtain ⟨d1, d2, _⟩ := dbg1 h3
  cases es with
  | nil => cases h0
  | cons y ys =>
   cases l with
   | nil => cases h4
   | cons a0 l0 =>
    have h4' : (!isStar y && chk T a0 sc y && chkA T l0 sc ys) = true := h4
    simp only [Bool.and_eq_true, Bool.not_eq_true'] at h4'
    exact .pl (de_call F hr (g.glob h2) hm hk hb (fun ρ ds e => evA_len p _ ρ ds e) (sndA (.cons a0 l0) g h4) d1 (star1 h4'.1.1 _ _) (chkA_any (l := l0) X.env pos h4'.2)) rfl fun _ => rfl
 | .b1 f a, X, sc, e, g, h => by
  replace h := ofO_true h
  obtain ⟨⟨x, y⟩, e1, h⟩ := h
  obtain ⟨_, _, rfl⟩ := asFn1_of e1
  simp only [Bool.and_eq_true, beq_iff_eq, Bool.not_eq_true'] at h
  obtain ⟨⟨⟨⟨rfl, h1⟩, h2⟩, h3⟩, h4⟩ := h
  exact .pl (de_b1 g h1 h2 h3 (snd a g h4).e) rfl fun _ => rfl
 | .b2 f a b, X, sc, e, g, h => by
  replace h := ofO_true h
  obtain ⟨⟨x, y, z⟩, e1, h⟩ := h
  obtain ⟨_, _, rfl⟩ := asFn2_of e1
  simp only [Bool.and_eq_true, beq_iff_eq, Bool.not_eq_true'] at h
  obtain ⟨⟨⟨⟨⟨rfl, h1⟩, h2⟩, h3⟩, h4⟩, h5⟩ := h
  exact .pl (de_b2' g h1 h2 h3 (snd a g h4).e (snd b g h5).e) rfl fun _ => rfl
 | .isi a t, X, sc, e, g, h => by
  replace h := ofO_true h
  obtain ⟨⟨x, y, n⟩, e1, h⟩ := h
  replace h := ofO_true h
  obtain ⟨z, e2, h⟩ := h
  obtain ⟨_, _, rfl⟩ := asFn2_of e1
  obtain ⟨_, rfl⟩ := asName_of e2
  simp only [Bool.and_eq_true, beq_iff_eq, Bool.not_eq_true'] at h
  obtain ⟨⟨⟨⟨⟨rfl, rfl⟩, h1⟩, h2⟩, h3⟩, h4⟩ := h
  obtain ⟨n0, n1, n2⟩ := tyStr_in t
  exact .pl (de_isi (g.glob h1) (g.blt _ (by decide +kernel)) (g.glob h2) (g.blt _ n0) (tyStr_boot t) n1 n2 (snd a g h4).e (by rw [star1 h3]; rfl)) rfl fun _ => rfl
 | .rngl a, X, sc, e, g, h => by
  replace h := ofO_true h
  obtain ⟨⟨x, y⟩, e1, h⟩ := h
  replace h := ofO_true h
  obtain ⟨⟨z, u⟩, e2, h⟩ := h
  obtain ⟨_, _, rfl⟩ := asFn1_of e1
  obtain ⟨_, _, rfl⟩ := asFn1_of e2
  simp only [Bool.and_eq_true, beq_iff_eq, Bool.not_eq_true'] at h
  obtain ⟨⟨⟨⟨⟨rfl, rfl⟩, h1⟩, h2⟩, h3⟩, h4⟩ := h
  exact .pl (de_rngl g.calm (g.glob h1) (g.blt _ (by decide +kernel)) (g.glob h2) (g.blt _ (by decide +kernel)) (snd a g h4).e (star1 h3 _ _)) rfl fun _ => rfl
 | .rngt _, X, sc, e, g, h => nomatch h
 | .slen _, X, sc, e, g, h => nomatch h
 | .join _ _, X, sc, e, g, h => nomatch h
 | .lm _ _ _, X, sc, e, g, h => nomatch h
theorem sndA {T : Tab} {p : Nat -> List D -> Option D} : ∀ (l : CA) {X : Cx} {sc : Sc} {es : List Expr}, Good X T p sc -> chkA T l sc es = true -> DA X es (fun ρ => evA p l ρ)
 | .nil, X, sc, es, g, h => by
  obtain rfl := List.isEmpty_iff.mp h
  exact da_nil
 | .cons a l, X, sc, es, g, h => by
  cases es with
  | nil => cases h
  | cons x r =>
   have h : (!isStar x && chk T a sc x && chkA T l sc r) = true := h
   simp only [Bool.and_eq_true, Bool.not_eq_true'] at h
   exact da_cons (snd a g h.1.2).e (sndA l g h.2) (star1 h.1.1 _ _)
theorem sndO {T : Tab} {p : Nat -> List D -> Option D} : ∀ (o : CO) {X : Cx} {sc : Sc} {e : Option Expr}, Good X T p sc -> chkO T o sc e = true -> DO X e (fun ρ => (evO p o ρ).1)
 | .no, X, sc, e, g, h => by
  obtain rfl := Option.isNone_iff_eq_none.mp h
  exact do_none
 | .so a, X, sc, e, g, h => by
  replace h := ofO_true h
  obtain ⟨x, rfl, h⟩ := h
  exact do_some (snd a g h).e
theorem sndC {T : Tab} {p : Nat -> List D -> Option D} : ∀ (o : CO) {X : Cx} {sc : Sc} {es : List Expr}, Good X T p sc -> chkC T o sc es = true -> DTs X es (fun ρ => (evO p o ρ).2)
 | .no, X, sc, es, g, h => by
  obtain rfl := List.isEmpty_iff.mp h
  exact dts_nil
 | .so a, X, sc, es, g, h => by
  replace h := ofO_true h
  obtain ⟨x, e1, h⟩ := h
  obtain rfl := one1_of e1
  simp only [Bool.and_eq_true, Bool.not_eq_true'] at h
  exact dts_one ((snd a g h.1).t h.2)
theorem sndI {T : Tab} {p : Nat -> List D -> Option D} : ∀ (i : CI) {X : Cx} {sc : Sc} {e : Expr}, Good X T p sc -> chkI T i sc e = true -> ∀ tg, tgI i tg = true -> DI X tg e (fun ρ => evI p i ρ)
 | .sq a, X, sc, e, g, h, tg, _ => di_seq (snd a g h).e
 | .ky _, X, sc, e, g, h, tg, _ => nomatch h
 | .r1 a, X, sc, e, g, h, tg, _ => by
  replace h := ofO_true h
  obtain ⟨⟨x, y⟩, e1, h⟩ := h
  obtain ⟨_, _, rfl⟩ := asFn1_of e1
  simp only [Bool.and_eq_true, beq_iff_eq, Bool.not_eq_true'] at h
  obtain ⟨⟨⟨rfl, h1⟩, h2⟩, h3⟩ := h
  exact di_r1 (g.glob h1) (g.blt _ (by decide +kernel)) (snd a g h3).e (star1 h2 _ _)
 | .r2 a b, X, sc, e, g, h, tg, _ => by
  replace h := ofO_true h
  obtain ⟨⟨x, y, z⟩, e1, h⟩ := h
  obtain ⟨_, _, rfl⟩ := asFn2_of e1
  simp only [Bool.and_eq_true, beq_iff_eq, Bool.not_eq_true'] at h
  obtain ⟨⟨⟨⟨⟨rfl, h1⟩, h2⟩, h3⟩, h4⟩, h5⟩ := h
  exact di_r2 (g.glob h1) (g.blt _ (by decide +kernel)) (snd a g h4).e (snd b g h5).e (by rw [star1 h2, star1 h3]; rfl) (star1 h3 _ _)
 | .r3 _ _ _, X, sc, e, g, h, tg, _ => nomatch h
 | .zp _ _, X, sc, e, g, h, tg, ht => nomatch h
 | .en _, X, sc, e, g, h, tg, ht => nomatch h
end
noncomputable def asAsg : Stmt -> Option (List Expr × Expr)
 | .Assign ts e _ => some (ts, e)
 | _ => none
noncomputable def asExpr : Stmt -> Option Expr
 | .Expr e _ => some e
 | _ => none
noncomputable def asIfS : Stmt -> Option (Expr × List Stmt × List Stmt)
 | .If t a b _ => some (t, a, b)
 | _ => none
noncomputable def asFor : Stmt -> Option (Expr × Expr × List Stmt × List Stmt)
 | .For t i b o _ => some (t, i, b, o)
 | _ => none
noncomputable def asRet : Stmt -> Option (Option Expr)
 | .Return e _ => some e
 | _ => none
noncomputable def asDict : Expr -> Option (List (Option Expr) × List Expr)
 | .Dict ks vs _ => some (ks, vs)
 | _ => none
theorem asDict_of {e : Expr} {q : List (Option Expr) × List Expr} (h : asDict e = some q) : ∃ p, e = .Dict q.1 q.2 p := by
 cases e <;> first | exact no_some h | (cases h; exact ⟨_, rfl⟩)
noncomputable def isPass : Stmt -> Bool
 | .Pass _ => true
 | _ => false
theorem asAsg_of {st : Stmt} {q : List Expr × Expr} (h : asAsg st = some q) : ∃ p, st = .Assign q.1 q.2 p := by
 cases st <;> first | exact no_some h | (cases h; exact ⟨_, rfl⟩)
theorem asExpr_of {st : Stmt} {e : Expr} (h : asExpr st = some e) : ∃ p, st = .Expr e p := by
 cases st <;> first | exact no_some h | (cases h; exact ⟨_, rfl⟩)
theorem asIfS_of {st : Stmt} {q : Expr × List Stmt × List Stmt} (h : asIfS st = some q) : ∃ p, st = .If q.1 q.2.1 q.2.2 p := by
 cases st <;> first | exact no_some h | (cases h; exact ⟨_, rfl⟩)
theorem asFor_of {st : Stmt} {q : Expr × Expr × List Stmt × List Stmt} (h : asFor st = some q) : ∃ p, st = .For q.1 q.2.1 q.2.2.1 q.2.2.2 p := by
 cases st <;> first | exact no_some h | (cases h; exact ⟨_, rfl⟩)
theorem asRet_of {st : Stmt} {q : Option Expr} (h : asRet st = some q) : ∃ p, st = .Return q p := by
 cases st <;> first | exact no_some h | (cases h; exact ⟨_, rfl⟩)
theorem isPass_of {st : Stmt} (h : isPass st = true) : ∃ p, st = .Pass p := by
 cases st <;> first | (cases h; done) | exact ⟨_, rfl⟩
noncomputable def asAttr : Expr -> Option (Expr × Str × Pos)
 | .Attribute e a p => some (e, a, p)
 | _ => none
theorem asAttr_of {e : Expr} {q : Expr × Str × Pos} (h : asAttr e = some q) : e = .Attribute q.1 q.2.1 q.2.2 := by
 cases e <;> first | exact no_some h | (cases h; rfl)
noncomputable def posOf : Expr -> Pos
 | .Call _ _ _ p => p
 | _ => ⟨0, 0, 0, 0⟩
noncomputable def asMeth (st : Stmt) : Option (Str × Str × Expr × Bool) := (asExpr st).bind fun c => (asCall c).bind fun q => (asAttr q.1).bind fun u => (asName u.1).bind fun x => (one1 q.2.1).bind fun e =>
 if q.2.2.isEmpty then some (x, u.2.1, e, u.2.2.endLine == (posOf c).line) else none
theorem asMeth_of {st : Stmt} {q : Str × Str × Expr × Bool} (h : asMeth st = some q) : ∃ p ap cp sp, st = .Expr (.Call (.Attribute (.Name q.1 p) q.2.1 ap) [q.2.2.1] [] cp) sp /\ q.2.2.2 = (ap.endLine == cp.line) := by
 obtain ⟨c, e1, h⟩ := bnd h
 obtain ⟨⟨f, es, ks⟩, e2, h⟩ := bnd h
 obtain ⟨⟨y, a, ap⟩, e3, h⟩ := bnd h
 obtain ⟨x, e4, h⟩ := bnd h
 obtain ⟨e, e5, h⟩ := bnd h
 obtain ⟨h6, rfl⟩ := if_some h
 obtain ⟨sp, rfl⟩ := asExpr_of e1
 obtain ⟨cp, rfl⟩ := asCall_of e2
 obtain rfl := asAttr_of e3
 obtain ⟨p, rfl⟩ := asName_of e4
 obtain rfl := one1_of e5
 obtain rfl := List.isEmpty_iff.mp h6
 exact ⟨p, ap, cp, sp, rfl, rfl⟩
mutual
noncomputable def chkS (T : Tab) : S -> Sc -> Stmt -> Bool
 | .asg _ i c, sc, st => ofO (asAsg st) fun q => ofO (one1 q.1) fun t => ofO (asName t) fun x => slotL sc i x && chk T c sc q.2
 | .asgT _ _, _, _ => false
 | .app i c, sc, st => ofO (asMeth st) fun q => q.2.1 == ("append" : Str) && slotIs sc i q.1 && notDbg q.1 && q.2.2.2 && !isStar q.2.2.1 && chk T c sc q.2.2.1
 | .ext _ _, _, _ => false
 | .rem _ _, _, _ => false
 | .dnew i k v, sc, st => ofO (asAsg st) fun q => ofO (one1 q.1) fun t => ofO (asName t) fun x => ofO (asDict q.2) fun u => ofO (one1 u.1) fun o => ofO o fun ke => ofO (one1 u.2) fun ve => slotL sc i x && chk T k sc ke && chk T v sc ve
 | .dset i k v, sc, st => ofO (asAsg st) fun q => ofO (one1 q.1) fun t => ofO (asSub t) fun u => ofO (asName u.1) fun x => slotIs sc i x && notDbg x && !isComp q.2 && chk T k sc u.2 && chk T v sc q.2
 | .give _, _, _ => false
 | .ifs c a b, sc, st => ofO (asIfS st) fun q => chk T c sc q.1 && !isIf q.1 && chkSS T a sc q.2.1 && chkSS T b sc q.2.2
 | .fr tg it b, sc, st => ofO (asFor st) fun q => q.2.2.2.isEmpty && chkT sc tg q.1 && !isSet q.2.1 && tgI it q.1 && chkI T it sc q.2.1 && chkSS T b sc q.2.2.1
 | .wh _ _, _, _ => false
 | .ret c, sc, st => ofO (asRet st) fun q => ofO q fun e => chk T c sc e
 | .pas, _, st => isPass st
 | .nev, _, _ => true
noncomputable def chkSS (T : Tab) : SS -> Sc -> List Stmt -> Bool
 | .nil, _, sts => sts.isEmpty
 | .cons s l, sc, sts => (match s with
  | .give _ => chkSS T l sc sts
  | _ => false) || (match sts with
  | st :: r => chkS T s sc st && chkSS T l sc r
  | [] => false)
end
section
variable {X : Cx} {T : Tab} {p : Nat -> List D -> Option D} {sc : Sc}
structure GoodS (X : Cx) (T : Tab) (p : Nat -> List D -> Option D) (sc : Sc) : Prop extends Good X T p sc where
 blk : X.env.blockKind = .function
 pas : PassesOwn (model X.prog X.w) X.A X.env X.xe
theorem asg_ok (g : GoodS X T p sc) {i : Nat} {c : C} {x : Str} {e : Expr} {p1 pos : Pos} (hx : slotL sc i x = true) (h : chk T c sc e = true) : DAs X (.Assign [.Name x p1] e pos) i (fun ρ => (ev p c ρ).1) := by
 obtain ⟨a, b, d⟩ := g.slotL hx
 have s := snd c g.toGood h
 by_cases hc : isComp e = true
 ·cases e <;> first | (cases hc; done) | skip
  ·
   rename_i elt gens scope cpos
   by_cases hsw : (X.env.blockKind == .function && X.env.kindOf x == some .local && p1.line == (Expr.ListComp elt gens scope cpos).pos.line && !(scope.names.any fun (n, k) => n == x && (k == .local || k == .cell))) = true
   ·have hk : X.env.kindOf x = some .local := by
     simp only [Bool.and_eq_true, beq_iff_eq] at hsw
     exact hsw.1.1.2
    cases c <;> first | (cases h; done) | skip
    rename_i cap tg it cd el
    replace h := ofO_true h
    obtain ⟨q, e1, h⟩ := h
    cases e1
    replace h := ofO_true h
    obtain ⟨⟨target, iter, ifs, isa⟩, e2, h⟩ := h
    obtain rfl := one1_of e2
    simp only [Bool.and_eq_true, decide_eq_true_eq, Bool.not_eq_true'] at h
    obtain ⟨⟨⟨⟨⟨⟨⟨rfl, hb⟩, hs⟩, ht⟩, hti⟩, hi⟩, hcc⟩, he⟩ := h
    have b := blk_of hb
    refine das_comp (b.ok g.toGood) b.inj g.calm (sndI it g.toGood hi _ hti) (fun s H fp => dg_ok (b.good g.toGood s H fp) ht) (fun s H fp => sndC cd (b.good g.toGood s H fp) hcc) (fun s H fp => (snd el (b.good g.toGood s H fp) he).e) (noset hs X.env) g.nodup a hk ?_
    exact congrArg pure hsw
   ·exact das_set g.nodup a b d s.e (congrArg pure (Bool.eq_false_iff.mpr hsw))
  all_goals (cases c <;> cases h)
 ·exact das_set g.nodup a b d s.e (by cases e <;> first | rfl | exact absurd rfl hc)
end
mutual
theorem sndS {T : Tab} {p : Nat -> List D -> Option D} : ∀ (c : S) {X : Cx} {sc : Sc} {st : Stmt}, GoodS X T p sc -> chkS T c sc st = true -> DS X st (fun ρ => evS p c ρ)
 | .asg o i c, X, sc, st, g, h => by
  replace h := ofO_true h
  obtain ⟨⟨ts, e⟩, e1, h⟩ := h
  replace h := ofO_true h
  obtain ⟨t, e2, h⟩ := h
  replace h := ofO_true h
  obtain ⟨x, e3, h⟩ := h
  obtain ⟨_, rfl⟩ := asAsg_of e1
  obtain rfl := one1_of e2
  obtain ⟨_, rfl⟩ := asName_of e3
  simp only [Bool.and_eq_true] at h
  exact ds_asg o (asg_ok g h.1 h.2)
 | .asgT _ _, X, sc, st, g, h => nomatch h
 | .app i c, X, sc, st, g, h => by
  replace h := ofO_true h
  obtain ⟨⟨x, m, e, k⟩, e1, h⟩ := h
  obtain ⟨p, ap, cp, sp, rfl, ek⟩ := asMeth_of e1
  simp only [Bool.and_eq_true, beq_iff_eq, Bool.not_eq_true'] at h
  obtain ⟨⟨⟨⟨⟨rfl, h1⟩, h2⟩, h3⟩, h4⟩, h5⟩ := h
  obtain ⟨a, b⟩ := g.slotIs h1
  obtain ⟨d1, d2, _⟩ := dbg1 h2
  exact ds_app a b d1 d2 (snd c g.toGood h5).e (star1 h4 _ _) (ek.symm.trans h3)
 | .ext _ _, X, sc, st, g, h => nomatch h
 | .rem _ _, X, sc, st, g, h => nomatch h
 | .dnew i k v, X, sc, st, g, h => by
  replace h := ofO_true h
  obtain ⟨⟨ts, e⟩, e1, h⟩ := h
  replace h := ofO_true h
  obtain ⟨t, e2, h⟩ := h
  replace h := ofO_true h
  obtain ⟨x, e3, h⟩ := h
  replace h := ofO_true h
  obtain ⟨⟨us, ws⟩, e4, h⟩ := h
  replace h := ofO_true h
  obtain ⟨o, e5, h⟩ := h
  replace h := ofO_true h
  obtain ⟨ke, rfl, h⟩ := h
  replace h := ofO_true h
  obtain ⟨ve, e6, h⟩ := h
  obtain ⟨pos, rfl⟩ := asAsg_of e1
  obtain rfl := one1_of e2
  obtain ⟨_, rfl⟩ := asName_of e3
  obtain ⟨_, rfl⟩ := asDict_of e4
  obtain rfl := one1_of e5
  obtain rfl := one1_of e6
  simp only [Bool.and_eq_true] at h
  obtain ⟨a, b, d⟩ := g.slotL h.1.1
  exact ds_dnew g.nodup a b d (snd k g.toGood h.1.2).e (snd v g.toGood h.2).e rfl
 | .dset i k v, X, sc, st, g, h => by
  replace h := ofO_true h
  obtain ⟨⟨ts, e⟩, e1, h⟩ := h
  replace h := ofO_true h
  obtain ⟨t, e2, h⟩ := h
  replace h := ofO_true h
  obtain ⟨⟨u, ke⟩, e3, h⟩ := h
  replace h := ofO_true h
  obtain ⟨x, e4, h⟩ := h
  obtain ⟨pos, rfl⟩ := asAsg_of e1
  obtain rfl := one1_of e2
  obtain ⟨_, rfl⟩ := asSub_of e3
  obtain ⟨_, rfl⟩ := asName_of e4
  simp only [Bool.and_eq_true, Bool.not_eq_true'] at h
  obtain ⟨⟨⟨⟨h1, h2⟩, h3⟩, h4⟩, h5⟩ := h
  obtain ⟨a, b⟩ := g.slotIs h1
  obtain ⟨d1, d2, _⟩ := dbg1 h2
  exact ds_dset g.hu a b d1 d2 (snd k g.toGood h4).e (snd v g.toGood h5).e (by cases e <;> first | rfl | (cases h3; done))
 | .give i, X, sc, st, g, h => nomatch h
 | .ifs c a b, X, sc, st, g, h => by
  replace h := ofO_true h
  obtain ⟨⟨t, u, v⟩, e1, h⟩ := h
  obtain ⟨_, rfl⟩ := asIfS_of e1
  simp only [Bool.and_eq_true, Bool.not_eq_true'] at h
  exact ds_if ((snd c g.toGood h.1.1.1).t h.1.1.2) (sndSS a g h.1.2) (sndSS b g h.2)
 | .fr tg it b, X, sc, st, g, h => by
  replace h := ofO_true h
  obtain ⟨⟨t, i, u, o⟩, e1, h⟩ := h
  obtain ⟨_, rfl⟩ := asFor_of e1
  simp only [Bool.and_eq_true, Bool.not_eq_true'] at h
  obtain ⟨⟨⟨⟨⟨h0, h1⟩, h2⟩, h3⟩, h4⟩, h5⟩ := h
  obtain rfl := List.isEmpty_iff.mp h0
  exact ds_for g.pas g.calm (sndI it g.toGood h4 _ h3) (dg_ok g.toGood h1) (sndSS b g h5) (noset h2 X.env)
 | .wh _ _, X, sc, st, g, h => nomatch h
 | .ret c, X, sc, st, g, h => by
  replace h := ofO_true h
  obtain ⟨q, e1, h⟩ := h
  obtain ⟨_, rfl⟩ := asRet_of e1
  replace h := ofO_true h
  obtain ⟨e, rfl, h⟩ := h
  exact ds_ret (snd c g.toGood h).e
 | .pas, X, sc, st, g, h => by
  obtain ⟨_, rfl⟩ := isPass_of h
  exact ds_pass
 | .nev, X, sc, st, g, h => ds_never
theorem sndSS {T : Tab} {p : Nat -> List D -> Option D} : ∀ (c : SS) {X : Cx} {sc : Sc} {sts : List Stmt}, GoodS X T p sc -> chkSS T c sc sts = true -> DSs X sts (fun ρ => evSS p c ρ)
 | .nil, X, sc, sts, g, h => by
  obtain rfl := List.isEmpty_iff.mp h
  exact dss_nil
 | .cons s l, X, sc, sts, g, h => by
  rcases Bool.or_eq_true_iff.mp h with h | h
  ·cases s <;> first | (cases h; done) | skip
   exact dss_give (sndSS l g h)
  ·cases sts with
   | nil => cases h
   | cons st r =>
    have h := Bool.and_eq_true_iff.mp h
    exact dss_cons (sndS s g h.1) (sndSS l g h.2)
end
structure DefT where
 name : Str
 st : Stmt
 body : SS
noncomputable def DefT.ps (d : DefT) : List Str := (defArgs d.st).args.map (·.arg)
noncomputable def DefT.nm (d : DefT) : Sc := (defScope d.st).names
noncomputable def parIs (sc : Sc) : List Str -> Sc -> Bool
 | [], _ => true
 | x :: r, (y, k) :: q => x == y && locK k && parIs sc r q
 | _, _ => false
noncomputable def noFree : Sc -> Bool
 | [] => true
 | (_, .free) :: _ => false
 | _ :: r => noFree r
noncomputable def scopeIs (ps : List Str) (sc : Scope) : Bool :=
 decide (sc.kind = .function) && !sc.isCoroutine && !sc.isGenerator && ndS (sc.names.map (·.1)) && parIs sc.names ps sc.names && noFree sc.names
theorem parIs_pre {sc : Sc} : ∀ {ps : List Str} {q : Sc}, parIs sc ps q = true -> (q.map (·.1)).take ps.length = ps /\ ∀ x ∈ ps, ∃ k, (x, k) ∈ q /\ locK k = true
 | [], q, _ => ⟨by simp, fun x h => by cases h⟩
 | x :: r, (y, k) :: q, h => by
  simp only [parIs, Bool.and_eq_true, beq_iff_eq] at h
  obtain ⟨⟨rfl, hk⟩, h⟩ := h
  obtain ⟨a, b⟩ := parIs_pre h
  refine ⟨by simp [a], fun z hz => ?_⟩
  rcases List.mem_cons.mp hz with e | hz
  ·subst e; exact ⟨k, List.mem_cons_self, hk⟩
  ·obtain ⟨k', m, hk'⟩ := b z hz
   exact ⟨k', List.mem_cons_of_mem _ m, hk'⟩
 | _ :: _, [], h => by cases h
theorem noFree_ok : ∀ {q : Sc}, noFree q = true -> ∀ y ∈ q, y.2 ≠ NameKind.free
 | [], _, y, h => by cases h
 | (x, k) :: r, h, y, hy => by
  cases k <;> first | (cases h; done) | skip
  all_goals
   rcases List.mem_cons.mp hy with e | hy
   ·subst e; exact fun z => by cases z
   ·exact noFree_ok (q := r) h y hy
theorem scope_ok {ps : List Str} {sc : Scope} (h : scopeIs ps sc = true) : FnScope (sc.names.map (·.1)) ps sc := by
 simp only [scopeIs, Bool.and_eq_true, decide_eq_true_eq, Bool.not_eq_true'] at h
 obtain ⟨⟨⟨⟨⟨h1, h2⟩, h3⟩, h4⟩, h5⟩, h6⟩ := h
 obtain ⟨a, b⟩ := parIs_pre h5
 have nd := ndS_ok h4
 refine ⟨h1, h2, h3, nd, a, fun x hx => ?_, noFree_ok h6⟩
 obtain ⟨k, m, hk⟩ := b x hx
 have := lookup_of_mem nd m
 cases k <;> first | (cases hk; done) | skip
 ·exact .inl this
 ·exact .inr this
noncomputable def DefT.ok (T : Tab) (d : DefT) : Bool := scopeIs d.ps (defScope d.st) && chkSS T d.body (defScope d.st).names (defBody d.st)
noncomputable def DefT.sb (d : DefT) : Nat × SS := (d.nm.length, d.body)
theorem spD_none {P : Program} {w : World} {K : PySem.W.Frag} {mg : Str -> Option Value} {base : Heap} {f : Addr} {fd : FuncData} {ps : List Str} : FnOk P w K mg base CX0 0 f fd ps (spD ps.length fun _ => none) := by
 refine ⟨fun vs H Q E h => ?_, fun A outer s H args us vs Q E hr he hb hv hs => ?_⟩
 ·obtain ⟨G, ds, d, _, r, hl, _⟩ := h
  rw [r.length, hl]
 ·obtain ⟨G, ds, d, _, r, hl, e, _⟩ := hs
  cases e
structure DefAt (K : PySem.W.Frag) (mg : Str -> Option Value) (d : DefT) (a : Addr) (fd : FuncData) : Prop where
 fn : Fun K d.name d.name d.st a fd
 mg : mg d.name = some (.ref a)
 bind : Binds K fd d.ps []
end TW
end
section
namespace TW
open PySem PySem.Spec PyProof.Rows L2
open PySem.W (kla_obj kla_fn CodeHd tabObj)
theorem keysOf_len : ∀ {ds : List D} {ks : List Int}, keysOf ds = some ks -> ks.length = ds.length
 | [], ks, h => by cases h; rfl
 | d :: r, ks, h => by
  obtain ⟨k, _, h⟩ := bnd h
  obtain ⟨q, e, rfl⟩ := mpd h
  simp [keysOf_len e]
theorem keysOf_get : ∀ {ds : List D} {ks : List Int} {i : Nat} {k : Int}, keysOf ds = some ks -> ks[i]? = some k -> ∃ x y r, ds[i]? = some (.tup (x :: y :: .int k :: r))
 | [], ks, i, k, h, e => by cases h; simp at e
 | d :: r, ks, i, k, h, e => by
  obtain ⟨k0, ek, h⟩ := bnd h
  obtain ⟨q, eq, rfl⟩ := mpd h
  cases i with
  | succ i => simpa using keysOf_get (i := i) eq (by simpa using e)
  | zero =>
   simp at e
   subst e
   unfold keyOf at ek
   split at ek
   ·cases ek; exact ⟨_, _, _, rfl⟩
   ·cases ek
theorem rps_nats {G : Hp} : ∀ l : List Nat, Rps G (l.map fun i => D.int (i : Nat)) (l.map fun (i : Nat) => V.int (i : Int))
 | [] => rfl
 | n :: r => ⟨_, _, rfl, rfl, rps_nats r⟩
noncomputable def bylOk (ds : List D) : Bool := ds.all fun d => match d with | .tup x => decide (x.length <= 1000) | _ => false
section
variable {X : Cx}
noncomputable def tByl : TE := fun σ H Q => ∃ G a xs ds ks, σ[0]? = some (some (.ref a)) /\ Same G H /\ Tb G /\ G a = some (.tup xs) /\ Rps G ds xs /\ keysOf ds = some ks /\ ks.length < 64 /\ bylOk ds = true /\ ∀ v H' G', Ext G H G' H' -> Rp G' (.lst ((srtK ks).map fun i => .int (i : Nat))) v -> Q v H'
theorem pe_byl {P c : Addr} {p0 p1 p2 p3 p4 p5 p6 kp q1 q2 q3 q4 q5 lpos : Pos} {j0 : Nat} {params : Arguments} {lscope : Scope} (hN : X.N[0]? = some ("lines" : Str)) (hk : X.env.scope.names.lookup ("lines" : Str) = some NameKind.cell) (hgs : Gl X "sorted") (hms : X.mg "sorted" = none) (hgr : Gl X "range") (hmr : X.mg "range" = none) (hgl : Gl X "len") (hml : X.mg "len" = none)
  (hcalm : X.calm = true) (hdp : X.A.depth < recursionLimit) (htab : tabC = some (P, .ext (tabφ P lpos (X.env.qual ++ "<lambda>")))) (hcode : X.env.code = .ref c) (C : CodeHd X.base c P) (hB : X.base.BuiltinsAt X.mg P) (hdef : defaultsOf params X.env = ([], []))
  (hbind : ∀ (qual : Str) (cl : Addr) (pm : Value) (c' : Addr) (ctv v : Value), bindArgs (kla_fn "<lambda>" qual params (.Subscript (.Subscript (.Name "lines" q1) (.Name "number" q2) q3) (.Constant (.int 2) j0 q4) q5) lscope [("lines", cl)] pm (.ref c') ctv) ⟨[v], []⟩ = pure [(("number" : Str), v)])
  (hnm : lscope.names = [(("number" : Str), NameKind.local), (("lines" : Str), NameKind.free)]) (hco : lscope.isCoroutine = false) (hgen : lscope.isGenerator = false) (hkd : lscope.kind = .function) :
  PE X (.Call (.Name "sorted" p0) [.Call (.Name "range" p1) [.Call (.Name "len" p2) [.Name "lines" p3] [] p4] [] p5] [⟨some "key", .Lambda params (.Subscript (.Subscript (.Name "lines" q1) (.Name "number" q2) q3) (.Constant (.int 2) j0 q4) q5) lscope lpos, kp⟩] p6) tByl := by
 intro pins s σ H Q I h
 obtain ⟨G, a, xs, ds, ks, hσ, gh, tb, ga, rs, ek, h64, hall, k⟩ := h
 have hv : Vis X.env.scope "lines" := .inr (.inl hk)
 have ha := gh _ _ ga
 refine wpAny_Call_Name_kw (ld_blt I hgs hms (show bootBuiltins "sorted" = some (.builtin "sorted") by decide +kernel) ?_ (by decide) (by decide))
 refine callWith_kw ?_
 refine Calls.spliced_cons (Call_ (ld_blt I hgr hmr boot_range (PyProof.Rows.callWith_type1 (thn (pa_cons (pe_callB call_len_seq hgl hml PySem.boot_len (pa_cons (pe_var (i := 0) hN hv (by decide) (by decide)) pa_nil)) pa_nil rfl p5 pins s σ H (fun vs H1 => H1 = H /\ vs = [.int xs.length]) I ⟨_, hσ, a, xs, rfl, .inr (.of ha), rfl, rfl⟩) fun us s1 ⟨vs, H1, I1, rv, e1, e2⟩ => ?_) rfl rfl) (by decide) (by decide)))
 subst e1
 subst e2
 obtain ⟨u, rfl, t, rfl⟩ := vals1 rv
 refine call_range_1 (Calls.spliced_nil ?_)
 have I2 := I1.kept (t' := s1.toks + 1 + 1) (h' := s1.heap.push { cls := .type "range", data := .fields #[.int 0 s1.toks, .int xs.length t, .int 1 (s1.toks + 1)] }) fun b o e => Heap.get?_push_of_some _ e
 have hr2 : IsRange (s1.heap.push { cls := .type "range", data := .fields #[.int 0 s1.toks, .int xs.length t, .int 1 (s1.toks + 1)] }) s1.heap.objs.size 0 xs.length 1 s1.toks t (s1.toks + 1) := IsRange.new ..
 generalize (s1.heap.push { cls := .type "range", data := .fields #[.int 0 s1.toks, .int xs.length t, .int 1 (s1.toks + 1)] }) = h2 at I2 hr2 ⊢
 obtain ⟨cl, hcl⟩ := I2.ok.has "lines" (.inl hk)
 refine kws_cons ?_
 have hP := gh _ _ (tb _ _ htab)
 have hclos : closureFor lscope X.env = pure [(("lines" : Str), cl)] := by
  unfold closureFor
  rw [hnm]
  simp [cellOf, hcl]
 refine lam_make I2 hP hcode C hB hclos hdef fun f c' ctv pm s3 H3 I3 sm3 hf hrec kp3 => ?_
 refine kws_nil ?_
 have lx := rs.length
 have lk := keysOf_len ek
 have hcell : ∃ u, u = Value.ref a /\ s3.heap.IsCell cl (some u) := by
  obtain ⟨m, hn, hl⟩ := I3.loc
  obtain ⟨u, r, l⟩ := hl 0 "lines" _ hN hσ hv
  rcases l with ⟨z, _⟩ | ⟨_, c2, hc2, z⟩
  ·have : X.env.scope.names.lookup ("lines" : Str) = some .local := z
   rw [hk] at this; cases this
  ·rw [hcl] at hc2; cases hc2
   exact ⟨u, r, z⟩
 obtain ⟨_, rfl, hcell⟩ := hcell
 obtain ⟨zz, its, rv3, pl⟩ := I3.hok a _ (sm3 _ _ ha)
 have hits := rv3.length
 have hr3 : IsRange s3.heap s1.heap.objs.size 0 xs.length 1 s1.toks t (s1.toks + 1) := kp3 _ _ (fun z => by
  have := I1.hok.fresh (Nat.le_refl s1.heap.objs.size)
  rw [z, hP] at this; cases this) hr2
 have hsz : Builtin.Range.rangeSize 0 xs.length 1 = (xs.length : Nat) := by rw [rangeSize_one]; split <;> omega
 show wpAny _ _ (call (.builtin "sorted") [.ref s1.heap.objs.size] [(Str.ofString "key", .ref f)]) _ _ _
 refine ksorted (ks := ks) (n := xs.length) (I3.ok.hd hcalm) hr3 (small_one (by omega) (by omega) (by omega) (by omega)) hsz (by omega) (by omega) (fun i kk tt hi => ?_) fun h5 h' tk ep vs kp4 kp5 V4 e4 => ?_
 ·obtain ⟨x, y, r, ed⟩ := keysOf_get ek hi
  obtain ⟨v, ev, b, ys, rfl, gb, ry⟩ := rs.get ed
  obtain ⟨vv, evv, rvv⟩ := rv3.get ev
  cases (show vv = _ from rvv)
  obtain ⟨z4, jts, rv4, pl4⟩ := I3.hok b _ (sm3 _ _ (gh _ _ gb))
  have hlen4 := ry.length
  obtain ⟨y1, _, rfl, _, y2, _, rfl, _, y3, _, rfl, e3, ry⟩ := ry
  cases (show y3 = _ from e3)
  obtain ⟨w, ew, rw'⟩ := rv4.get (i := 2) rfl
  obtain ⟨tw, rfl⟩ := rw'
  have hb : bylOk ds = true := hall
  have hle : (x :: y :: D.int kk :: r).length <= 1000 := by
   have := List.all_eq_true.mp hb _ (List.mem_of_getElem? ed)
   simpa using this
  rw [show ((0 : Int) + (i : Int)) = (i : Int) by omega]
  exact lam_call (A := X.A.in1.in1) (s := s3) hdp I3.nolimit hf hrec hcell pl (by rw [List.size_toArray, <- hits]; omega) (by simpa using evv) pl4 (by rw [List.size_toArray, <- rv4.length, hlen4]; exact hle) (by simpa using ew) (hbind _ _ _ _ _) hnm hco hgen hkd tt
 ·have q1 := (srtK_ok (ks := ks) (by omega)).1
  have inq : ∀ i ∈ srtK ks, i < xs.length := fun i hi => by
   have := q1.mem_iff.mp hi
   simp at this
   omega
  have V5 := vals_pick V4 (srtK ks) (by simpa using inq)
  have eV : (srtK ks).map (fun i => ((List.range xs.length).map fun (k : Nat) => V.int (0 + (k : Int))).getD i .non) = (srtK ks).map fun (i : Nat) => V.int (i : Int) := by
   apply List.map_congr_left
   intro i hi
   have := inq i hi
   simp [this]
  rw [eV] at V5
  have I4 := I3.kept (t' := tk) kp4
  have hf' : H3 h5.objs.size = none := I4.fresh
  have R1 := rps_nats (G := G) (srtK ks)
  have x3 : Ext G H1 G H3 := ⟨Same.refl _, sm3, gh.trans sm3, fun _ _ e => .inl e⟩
  have x5 := Ext.laid x3.gh hf' (.lst ((srtK ks).map fun (i : Nat) => V.int (i : Int)))
  refine ⟨.ref h5.objs.size, _, I4.laid (t' := tk) (h' := h') (o := .lst ((srtK ks).map fun (i : Nat) => V.int (i : Int))) kp5 (Nat.le_refl _) ⟨?_, _, ep, V5, by simpa [seqObj, outOf] using e4⟩, rfl, k _ _ _ (x3.trans x5) ⟨_, _, rfl, .inl upd_same, rps_nats _⟩⟩
  rw [List.length_map, q1.length_eq, List.length_range, sizeLine_eq]; omega
end
theorem byl_fn {P : Program} {w : World} {K : PySem.W.Frag} {mg : Str -> Option Value} {base : Heap} {k : Nat} {d : DefT} {f c Pt : Addr} {oc : Value} {od an : Option Addr} {osl : Array (Option Value)} {kV doc pm ct : Value} {g : List D -> Option D} {p0 p1 p2 p3 p4 p5 p6 p7 kp q1 q2 q3 q4 q5 lpos : Pos} {j0 : Nat} {params : Arguments} {lscope : Scope}
  (lk : K.lookup f = some ⟨oc, od, .func (PySem.W.fnOf d.name d.name (defArgs d.st) (defBody d.st) (defScope d.st) .none kV doc pm an (.ref c) ct), osl⟩) (hcd : PySem.W.codeIn K (.ref c) d.name = true)
  (hs : scopeIs d.ps (defScope d.st) = true) (hps : d.ps.length = 1)
  (hb : defBody d.st = [.Return (some (.Call (.Name "sorted" p0) [.Call (.Name "range" p1) [.Call (.Name "len" p2) [.Name "lines" p3] [] p4] [] p5] [⟨some "key", .Lambda params (.Subscript (.Subscript (.Name "lines" q1) (.Name "number" q2) q3) (.Constant (.int 2) j0 q4) q5) lscope lpos, kp⟩] p6)) p7])
  (hN : ((defScope d.st).names.map (·.1))[0]? = some ("lines" : Str)) (hk : (defScope d.st).names.lookup ("lines" : Str) = some .cell) (hg1 : (defScope d.st).names.lookup ("sorted" : Str) = some .globalImplicit) (hg2 : (defScope d.st).names.lookup ("range" : Str) = some .globalImplicit) (hg3 : (defScope d.st).names.lookup ("len" : Str) = some .globalImplicit)
  (hms : mg "sorted" = none) (hmr : mg "range" = none) (hml : mg "len" = none)
  (htab : tabC = some (Pt, .ext (tabφ Pt lpos (d.name ++ ".<locals>." ++ "<lambda>")))) (C : CodeHd base c Pt) (hB : base.BuiltinsAt mg Pt) (hdef : ∀ env, defaultsOf params env = ([], []))
  (hbind : ∀ (qual : Str) (cl : Addr) (pm : Value) (c' : Addr) (ctv v : Value), bindArgs (kla_fn "<lambda>" qual params (.Subscript (.Subscript (.Name "lines" q1) (.Name "number" q2) q3) (.Constant (.int 2) j0 q4) q5) lscope [("lines", cl)] pm (.ref c') ctv) ⟨[v], []⟩ = pure [(("number" : Str), v)])
  (hnm : lscope.names = [(("number" : Str), NameKind.local), (("lines" : Str), NameKind.free)]) (hco : lscope.isCoroutine = false) (hgen : lscope.isGenerator = false) (hkd : lscope.kind = .function)
  (hg : ∀ ds r, ds.length = 1 -> g ds = some r -> ∃ es ks, ds = [.tup es] /\ keysOf es = some ks /\ ks.length < 64 /\ bylOk es = true /\ r = .lst ((srtK ks).map fun i => .int (i : Nat))) :
  FnOk P w K mg base CX0 (k + 1) f (PySem.W.fnOf d.name d.name (defArgs d.st) (defBody d.st) (defScope d.st) .none kV doc pm an (.ref c) ct) d.ps (spD d.ps.length g) := by
 have S := scope_ok hs
 refine fn_of lk hcd S (fun vs H Q E h => ?_) fun A outer s H vs Q E hr h => ?_
 ·obtain ⟨G, ds, d, _, r, hl, _⟩ := h
  rw [r.length, hl]
 ·obtain ⟨G, ds, r0, ⟨gh, tb⟩, r, hl, e, k'⟩ := h
  rw [hps] at hl
  obtain ⟨es, ks, rfl, ek, h64, hall, rfl⟩ := hg _ _ hl e
  obtain ⟨v, vr, rfl, ⟨a, xs, rfl, ga, rs⟩, e2⟩ := r
  cases (show vr = _ from e2)
  rw [hb]
  refine ⟨_, pss_one (ps_ret (pe_byl (X := cxOf CX0 P w K mg base ((defScope d.st).names.map (fun x : Str × NameKind => x.1)) d.name (defScope d.st) f (.ref c) A outer s H E) hN hk hg1 hms hg2 hmr hg3 hml rfl hr.depth htab rfl C hB (hdef _) hbind hnm hco hgen hkd)), G, a, xs, es, ks, rfl, gh, tb, ga, rs, ek, h64, hall, fun v H' G' x r => k' v H' G' x r⟩
section
open PySem.W (codeHdIn codeHd_of_K)
theorem law_callT {P : Program} {w : World} {K : PySem.W.Frag} {mg mb : Str -> Option Value} {CX : CXT} {k : Nat} {fa a c Pt : Addr} {φ : (Addr -> Prop) -> Heap -> Prop} {fd : FuncData} {x : Str} {sp : Sp} {s₁ : Shared} {vs : List Value} {ns : List Int}
  (KX : K.In s₁.heap) (hns : s₁.heap.Ns mainGlobals mg) (hb : s₁.heap.Ns builtinsNs mb) (hbb : ∀ x : Str, x ≠ "__name__" -> mb x = bootBuiltins x) (hlim : s₁.heap.NoLimit) (hg : s₁.gens = #[])
  (ha : s₁.heap.get? a = some { cls := .type "list", data := .seq vs.toArray }) (hi : IntsAre vs ns) (hl : ns.length <= sizeLine) (hr : Room k callerA)
  (hP : s₁.heap.get? Pt = some (tabObj #[])) (hC : CodeHd s₁.heap c Pt) (hKP : K.lookup Pt = none) (hφ : ∀ H : Hp, H Pt = some (.ext φ) -> ObjOk P w H s₁.heap Pt (.ext φ)) (hφ2 : ∀ (H : Hp) h, ObjOk P w H h Pt (.ext φ) -> ∃ ps, h.get? Pt = some (tabObj ps))
  (hB : s₁.heap.BuiltinsAt mg Pt) (F : ∀ base : Heap, K.In base -> base.Ns mainGlobals mg -> base.BuiltinsAt mg Pt -> FnOk P w K mg base CX k fa fd [x] sp) (hbind : ∀ (s : Shared) (u : Value), BindsTo s fd ⟨[u], []⟩ [(x, u)])
  (hsp : ∀ H : Hp, H Pt = some (.ext φ) -> SqL K H a (ns.map V.int) -> sp [.ref a] H (fun v H' => v = .bl true /\ H' Pt = some (.ext φ)) fun _ _ _ => False)
  (hCX : ∀ H e s', CX [] H s₁ (fun _ _ _ => False) e s' -> False) :
  codeAny (model P w) callerA (.call (.ref fa) ⟨[.ref a], []⟩) (fun r s' => r = .ok (.ret (.bool true)) /\ OldK s₁.heap s'.heap /\ s'.os = s₁.os /\ AllBare s'.gens) s₁ := by
 have rv := vals_ints hi
 have lenV := hi.length
 have aP : a ≠ Pt := fun z => by rw [z, hP] at ha; cases ha
 have core : ∀ H : Hp, H Pt = some (.ext φ) -> (∀ b, b ≠ Pt -> H b = none \/ ∃ o xs, H b = some (.frz o (.lst xs))) -> SqL K H a (ns.map V.int) -> HOk P w H s₁.heap -> (∀ b, H b ≠ none -> b = a \/ b = Pt) -> (H a ≠ none -> K.lookup a = none) ->
   codeAny (model P w) callerA (.call (.ref fa) ⟨[.ref a], []⟩) (fun r s' => r = .ok (.ret (.bool true)) /\ OldK s₁.heap s'.heap /\ s'.os = s₁.os /\ AllBare s'.gens) s₁ := by
  intro H hHP hO hS hok hA hK
  have base_of : ∀ {b : Addr} {o : Obj}, s₁.heap.get? b = some o -> H b = none -> (hidT s₁.heap H).get? b = some o := fun e n => hidT_get e n
  have noA : ∀ {b : Addr} {o : Obj} {es : Array DictEntry} {ep : Nat}, s₁.heap.get? b = some o -> o.data = .dict es ep -> H b = none := fun {b o es ep} e d => by
   cases q : H b with
   | none => rfl
   | some u =>
    rcases hA b (by rw [q]; simp) with e' | e'
    ·subst e'
     rw [ha] at e; cases e
     have d' : Data.seq vs.toArray _ = Data.dict es ep := d
     cases d'
    ·subst e'
     rw [hP] at e; cases e
     cases d
  have nsK : ∀ {b : Addr} {m : Str -> Option Value}, s₁.heap.Ns b m -> (hidT s₁.heap H).Ns b m := fun {b m} ⟨o, es, ep, e, d, r⟩ => ⟨o, es, ep, base_of e (noA e d), d, r⟩
  have hKb : K.In (hidT s₁.heap H) := fun b o e => base_of (KX b o e) (by
   cases q : H b with
   | none => rfl
   | some u =>
    rcases hA b (by rw [q]; simp) with e' | e'
    ·subst e'
     rw [hK (by rw [q]; simp)] at e; cases e
    ·subst e'
     rw [hKP] at e; cases e)
  have hM : Mod K mg (hidT s₁.heap H) := ⟨hKb, nsK hns, ⟨mb, nsK hb, hbb⟩, let ⟨mc, h1, h2⟩ := hlim; ⟨mc, nsK h1, h2⟩⟩
  have e0 : Env0 P w K mg (hidT s₁.heap H) callerA [] s₁ H := ⟨rfl, hM, fun b o e => of_hidT e, Nat.le_of_eq (hidT_size _ _), trivial, fun b hb => absurd (show b ∈ ([] : List Addr) from hb) (by simp), hok, .of_eq hg⟩
  have hBb : (hidT s₁.heap H).BuiltinsAt mg Pt := by
   obtain ⟨bm, ob, b1, b2, b3, b4, b5, b6, b7⟩ := hB
   refine ⟨bm, ob, b1, b2, b3, b4, base_of b5 ?_, b6, b7⟩
   cases q : H bm with
   | none => rfl
   | some u =>
    rcases hA bm (by rw [q]; simp) with e' | e'
    ·rw [e', ha] at b5
     have q6 := Option.some.inj b5
     rw [<- q6] at b6
     exact absurd (show Value.type "list" = Value.type "module" from b6) (by decide)
    ·exact absurd e' b4
  refine codeAny_mono ((F _ hKb (nsK hns) hBb).run callerA [] s₁ H ⟨[.ref a], []⟩ [.ref a] [.ref a] _ _ hr e0 (hbind s₁ (.ref a)) (.cons rfl .nil) (hsp H hHP hS)) fun r s' h => ?_
  cases r with
  | error e => exact (hCX H e s' h).elim
  | ok fl =>
   cases fl with
   | next => exact False.elim h
   | brk => exact False.elim h
   | cont => exact False.elim h
   | ret u =>
    obtain ⟨v, H', os, bare, un, hok', r', q'⟩ := h
    obtain ⟨rfl, hP'⟩ := q'
    obtain rfl : u = Value.bool true := r'
    obtain ⟨ps, hps⟩ := hφ2 H' s'.heap (hok' Pt _ hP')
    have kp : ∀ b o, b ≠ Pt -> s₁.heap.get? b = some o -> s'.heap.get? b = some o := fun b o nb e => by
     cases q : H b with
     | none => exact un.keep b o e q (by intro z; exact absurd (show b ∈ ([] : List Addr) from z) (by simp)) (by simp)
     | some u =>
      rcases hO b nb with z | ⟨ob, xs, z⟩
      ·rw [q] at z; cases z
      ·have z2 := un.frzs b ob _ z
       obtain ⟨e1, _⟩ := hok b _ z
       obtain ⟨e2, _⟩ := hok' b _ z2
       rw [e] at e1; cases e1
       exact e2
    refine ⟨rfl, ⟨fun b o e => ?_, fun b o e => ?_⟩, os, bare⟩
    ·by_cases nb : b = Pt
     ·subst nb
      rw [hP] at e; cases e
      exact .inr (.inl ⟨(hC.tab hP).isCodeTable, rfl, #[], ps, rfl, by rw [Array.empty_append]; exact hps⟩)
     ·exact .inl (kp b o nb e)
    ·by_cases nb : b = Pt
     ·subst nb; exact ⟨_, hps⟩
     ·exact ⟨o, kp b o nb e⟩
 cases hk : K.lookup a with
 | some o =>
  have e := KX a o hk
  rw [ha] at e
  cases e
  refine core (fun b => if b = Pt then some (.ext φ) else none) (if_pos rfl) (fun b nb => .inl (if_neg nb)) (.inr ⟨_, vs.toArray, _, hk, rfl, rfl, rfl, by rw [List.size_toArray, lenV]; exact hl, by simpa using rv⟩) (fun b u z => ?_) (fun b z => ?_) fun z => ?_
  ·by_cases nb : b = Pt
   ·have z' := (if_pos nb).symm.trans z
    cases z'
    subst nb
    exact hφ _ (if_pos rfl)
   ·have z' := (if_neg nb).symm.trans z
    cases z'
  ·by_cases nb : b = Pt
   ·exact .inr nb
   ·exact absurd (if_neg nb) z
  ·exact absurd (if_neg aP) z
 | none =>
  refine core (fun b => if b = Pt then some (.ext φ) else if b = a then some (.frz { cls := .type "list", data := .seq vs.toArray } (.lst (ns.map V.int))) else none) (if_pos rfl) (fun b nb => ?_) (.inl (.inr ⟨{ cls := .type "list", data := .seq vs.toArray }, (if_neg aP).trans (if_pos rfl)⟩)) (fun b u z => ?_) (fun b z => ?_) fun _ => hk
  ·by_cases hb : b = a
   ·exact .inr ⟨_, _, (if_neg nb).trans (if_pos hb)⟩
   ·exact .inl ((if_neg nb).trans (if_neg hb))
  ·by_cases nb : b = Pt
   ·have z' := (if_pos nb).symm.trans z
    cases z'
    subst nb
    exact hφ _ (if_pos rfl)
   ·have z2 := (if_neg nb).symm.trans z
    by_cases hb : b = a
    ·have z' := (if_pos hb).symm.trans z2
     cases z'
     subst hb
     exact ⟨ha, by rw [List.length_map]; exact hl, vs, _, rv, ha⟩
    ·have z' := (if_neg hb).symm.trans z2
     cases z'
  ·by_cases nb : b = Pt
   ·exact .inr nb
   ·by_cases hb : b = a
    ·exact .inl hb
    ·exact absurd ((if_neg nb).trans (if_neg hb)) z
end
end TW
end
section
namespace TW
open PySem PySem.Spec PyProof.Rows L2
theorem len1 {α : Type} : ∀ {us : List α}, us.length = 1 -> ∃ a, us = [a]
 | [a], _ => ⟨a, rfl⟩
theorem len2 {α : Type} {us : List α} (h : us.length = 2) : ∃ a b, us = [a, b] := by
 cases us with
 | nil => cases h
 | cons a r => obtain ⟨b, rfl⟩ := len1 (Nat.succ.inj h); exact ⟨a, b, rfl⟩
theorem len3 {α : Type} {us : List α} (h : us.length = 3) : ∃ a b c, us = [a, b, c] := by
 cases us with
 | nil => cases h
 | cons a r => obtain ⟨b, c, rfl⟩ := len2 (Nat.succ.inj h); exact ⟨a, b, c, rfl⟩
theorem len4 {α : Type} {us : List α} (h : us.length = 4) : ∃ a b c d, us = [a, b, c, d] := by
 cases us with
 | nil => cases h
 | cons a r => obtain ⟨b, c, d, rfl⟩ := len3 (Nat.succ.inj h); exact ⟨a, b, c, d, rfl⟩
theorem cellD_some {K : List (Addr × Obj)} {ds : List D} {d : D} (h : cellD K ds = some d) : ∃ a ns k, ds = [.scr K a ns, .int k] /\ ns.length <= 63 /\ 0 <= k /\ d = .int (ns.getD k.toNat 0) := by
 unfold cellD at h
 split at h
 ·rename_i K' a ns k
  split at h
  ·rename_i hc
   obtain ⟨rfl, h1, h2⟩ := hc
   cases h
   exact ⟨a, ns, k, rfl, h1, h2, rfl⟩
  ·cases h
 ·cases h
theorem cell_ok {P : Program} {w : World} {K : PySem.W.Frag} {mg : Str -> Option Value} {base : Heap} {st : Stmt} {f : Addr} {fd : FuncData} {k j : Nat} {p1 p2 p3 p4 p5 p6 p7 p8 p9 p10 p11 p12 : Pos} (F : Fun K "_law_cell_at" "_law_cell_at" st f fd)
  (hb : defBody st = [.If (.Compare (.Name "_law_k" p1) [.Lt] [.Call (.Name "len" p2) [.Name "_law_script" p3] [] p4] p5) [.Return (some (.Subscript (.Name "_law_script" p6) (.Name "_law_k" p7) p8)) p9] [] p10, .Return (some (.Constant (.int 0) j p11)) p12])
  (S : FnScope ["_law_script", "_law_k", "len"] ["_law_script", "_law_k"] (defScope st)) (hs : (defScope st).names.lookup ("_law_script" : Str) = some .local) (hk : (defScope st).names.lookup ("_law_k" : Str) = some .local) (hl : (defScope st).names.lookup ("len" : Str) = some .globalImplicit) (hm : mg "len" = none) :
  FnOk P w K mg base CX0 (k + 1) f fd ["_law_script", "_law_k"] (spD 2 (cellD K)) := by
 refine F.ok S (fun vs H Q E h => ?_) (fun cdv A outer s H vs Q E hr h => ?_)
 ·obtain ⟨G, ds, d, _, r, hl, _⟩ := h
  rw [r.length, hl]; rfl
 ·obtain ⟨G, ds, d, ⟨gh, _⟩, r, _, e, k'⟩ := h
  obtain ⟨a, ns, i, rfl, h63, h0, rfl⟩ := cellD_some e
  obtain ⟨x, xr, rfl, ⟨rfl, hS⟩, y, yr, rfl, hy, hz⟩ := r
  cases (show y = _ from hy)
  cases (show yr = _ from hz)
  have hS' : SqL K H a (ns.map V.int) := Same.seq gh hS
  rw [hb]
  have v0 : Vis (cxOf CX0 P w K mg base ["_law_script", "_law_k", "len"] "_law_cell_at" (defScope st) f cdv A outer s H E).nox.env.scope "_law_script" := .inl hs
  have v1 : Vis (cxOf CX0 P w K mg base ["_law_script", "_law_k", "len"] "_law_cell_at" (defScope st) f cdv A outer s H E).nox.env.scope "_law_k" := .inl hk
  refine ⟨_, pss_cons (ps_if (pt_cmpR op_lt (pe_var (i := 1) rfl v1 (by decide) (by decide)) (pe_callB call_len_seq hl hm PySem.boot_len (pa_cons (pe_var (i := 0) rfl v0 (by decide) (by decide)) pa_nil)) (nomark _))
   (pss_one (ps_ret (pe_ix ix_list (pe_var (i := 0) rfl v0 (by decide) (by decide)) (pe_var (i := 1) rfl v1 (by decide) (by decide)) (fun _ _ => rfl)))) pss_nil) (pss_one (ps_ret pe_int)), ?_⟩
  refine ⟨_, rfl, _, rfl, a, _, rfl, .inl hS', _, _, rfl, rfl, _, rfl, ?_⟩
  by_cases hlt : i < ((ns.map V.int).length : Int)
  ·rw [decide_eq_true hlt]
   refine iteT ⟨_, rfl, _, rfl, a, _, i, .int (ns.getD i.toNat 0), rfl, rfl, hS', ?_, ?_⟩
   ·have hl2 : i.toNat < ns.length := by rw [List.length_map] at hlt; omega
    unfold L2.atI L2.ixN
    rw [if_pos h0, if_pos hlt]
    show (ns.map V.int)[i.toNat]? = _
    rw [List.getElem?_map, List.getElem?_eq_getElem hl2]
    simp [hl2]
   ·exact k' _ H G (.refl gh) rfl
  ·rw [decide_eq_false hlt]
   refine iteF ?_
   have hl2 : ¬ i.toNat < ns.length := by rw [List.length_map] at hlt; omega
   have e0 : ns.getD i.toNat 0 = 0 := by
    rw [List.getD_eq_getElem?_getD, List.getElem?_eq_none (by omega)]; rfl
   rw [e0] at k'
   exact k' _ H G (.refl gh) rfl
noncomputable def spLaw (K : PySem.W.Frag) : Sp := fun vs H Q _ => ∃ (a : Addr) (ns : List Int), vs = [.ref a] /\ SqL K H a (ns.map V.int) /\ ns.length <= 63 /\ Tb H /\ ∀ H', Tb H' -> Q (.bl true) H'
theorem law_imp {K : PySem.W.Frag} {g : List D -> Option D} (h : ∀ (a : Addr) (ns : List Int), ns.length <= 63 -> g [.scr K a ns] = some (.bl true)) : ∀ vs H Q E, spLaw K vs H Q E -> spD 1 g vs H Q E := by
 rintro vs H Q E ⟨a, ns, rfl, hS, hl, tb, hQ⟩
 exact ⟨H, [.scr K a ns], .bl true, ⟨Same.refl H, tb⟩, ⟨.ref a, [], rfl, ⟨rfl, hS⟩, rfl⟩, rfl, h a ns hl, fun v H' G' x r => by cases (show v = _ from r); exact hQ H' (tb.mono x.hh)⟩
end TW
end
section
namespace TW
open PySem PySem.Spec PyProof.Rows L2
open PySem.W (CodeHd tabObj codeHdIn codeHd_of_K)
theorem walkT {Pt c : Addr} {pos : Pos} {qn : Str} (htab : tabC = some (Pt, .ext (tabφ Pt pos qn))) {l : PySem.W.OpenLaw} {q : Program} {loose : List Str} {XP : (Str -> Option Value) -> Heap -> Prop} {YP : World -> Heap -> Prop} {d : DefRec} {K : Params -> PySem.W.Frag} (hn : l.most = some 63) (hdf : d.params.defaults = [])
  (hY : ∀ (w : World) (h : Heap), YP w h -> (K w.params).In h /\ h.get? Pt = some (tabObj #[])) (hKP : ∀ p, (K p).lookup Pt = none) (hC : ∀ p, codeHdIn (K p) c Pt = true)
  (F : ∀ (w : World) (mg : Str -> Option Value) (fa : Addr) (h : Heap), (K w.params).In h -> h.Ns mainGlobals mg -> mg d.name = some (.ref fa) ->
   ∃ fd : FuncData, (∀ (s : Shared) (u : Value), BindsTo s fd ⟨[u], []⟩ [("_law_script", u)]) /\ ∀ base : Heap, (K w.params).In base -> base.Ns mainGlobals mg -> base.BuiltinsAt mg Pt -> FnOk l.prog w (K w.params) mg base CX0 40 fa fd ["_law_script"] (spLaw (K w.params))) :
  PySem.W.WalkO q loose XP YP l.row.toRowW d [] (fun f vs => PySem.call f vs) := by
 refine Att.attach_call hn hdf fun w s₀ s₁ mg mb fa o pm cd doc a vs ns G Y ho hd hcd hmg hobj hints hlen hg => ?_
 obtain ⟨KX, hP⟩ := hY w _ Y
 obtain ⟨fd, hb, hF⟩ := F w mg fa _ KX G.T.g hmg
 obtain ⟨bm, ob, b1, b2, b3, b4, b5, b6⟩ := G.T.bmain
 have n1 : bm ≠ mainGlobals := fun z => by
  obtain ⟨o, es, ep, e, hd, _⟩ := G.T.g
  rw [<- z, b3] at e; cases e; rw [hd] at b6; cases b6
 have n2 : bm ≠ Pt := fun z => by rw [z, hP] at b3; cases b3; cases b4
 have hB : s₁.heap.BuiltinsAt mg Pt := ⟨bm, ob, b1, b2, n1, n2, b3, b4, b5, b6⟩
 refine law_callT (CX := CX0) (φ := tabφ Pt pos qn) KX G.T.g G.T.b G.T.builtins G.T.nolimit hg hobj hints (Nat.le_trans hlen (by decide)) ⟨rfl, by decide, by decide⟩ hP (codeHd_of_K KX (hC _)) (hKP _) (fun H _ => tab_ok (.inl hP)) (fun H h o => ?_) hB hF hb
  (fun H hHP hS => ⟨a, ns, rfl, hS, hlen, fun P o e => by rw [htab] at e; cases e; exact hHP, fun H' t => ⟨rfl, t _ _ htab⟩⟩) fun H e s' z => z
 obtain ⟨x, _, _⟩ := o
 rcases x with x | ⟨c, x, _⟩ <;> exact ⟨_, x⟩
end TW
end
section
namespace TW
open PySem PySem.Spec PyProof.Rows L2
structure Ra (P : Program) (w : World) (fs : List Addr) (H H' : Hp) (h B : Heap) : Prop where
 keep : ∀ b o, h.get? b = some o -> H b = none -> b ∉ fs -> B.get? b = some o
 there : ∀ b o, h.get? b = some o -> b ∉ fs -> ∃ o', B.get? b = some o'
 free : ∀ b o, h.get? b = some o -> H b = none -> H' b = none
 tups : ∀ b xs, H b = some (.tup xs) -> H' b = some (.tup xs)
 frzs : ∀ b o u, H b = some (.frz o u) -> H' b = some (.frz o u)
 tbls : ∀ b ps, H b = some (.tbl ps) -> ∃ more, H' b = some (.tbl (ps ++ more))
 hok : HOk P w H' B
noncomputable def SlotsAt (fs : List Addr) (h h' : Heap) : Prop := ∀ b o, h.get? b = some o -> b ∈ fs -> ∃ sl, h'.get? b = some { o with slots := sl }
theorem Ra.un {P : Program} {w : World} {fs : List Addr} {H H' : Hp} {h B h' : Heap} (r : Ra P w fs H H' h B) (k : B.StaysIn h') (sl : SlotsAt fs h h') : Un fs [] H H' h h' where
 keep := fun b o e n hb _ => k b o (r.keep b o e n hb)
 slot := fun b o e _ hb _ => sl b o e hb
 free := fun b o e n _ => r.free b o e n
 there := fun b o e _ => by
  by_cases hb : b ∈ fs
  ·obtain ⟨s, q⟩ := sl b o e hb; exact ⟨_, q⟩
  ·obtain ⟨o', q⟩ := r.there b o e hb; exact ⟨o', k b o' q⟩
 tups := r.tups
 frzs := r.frzs
 tbls := r.tbls
noncomputable def CXr (P : Program) (w : World) : CXT := fun outer H s E e s' =>
 ∃ ea C a0 H' B, e = .ref ea /\ s'.os = s.os /\ AllBare s'.gens /\ Heap.FlyingW B outer ea (.ref C) a0 s'.heap /\ Ra P w (frs outer) H H' s.heap B /\ SlotsAt (frs outer) s.heap s'.heap /\ E (.ref C) none H'
section
variable {P : Program} {w : World} {K : PySem.W.Frag} {mg : Str -> Option Value} {base : Heap} {N : List Str} {qual : Str} {scope : Scope} {f : Addr} {cd : Value} {A : Around} {outer : List Env} {s₀ : Shared} {H₀ : Hp} {E : XK}
theorem frs_cons {env : Env} {L : Addr} (h : env.frame = some L) (l : List Env) : frs (env :: l) = L :: frs l := by
 unfold frs
 rw [List.filterMap_cons, h]
theorem leave_made {pins : List (Addr × Obj)} {σ : L2.St} {H : Hp} {s : Shared} {h' : Heap} {e C : Addr} {args : List Value} (I : Inv (cxOf (CXr P w) P w K mg base N qual scope f cd A outer s₀ H₀ E) pins σ H s)
  (hm : Heap.MadeExcOf s.heap h' e (.ref C) args) (hE : E (.ref C) none H) : (cxOf (CXr P w) P w K mg base N qual scope f cd A outer s₀ H₀ E).xe (.ref e) { s with heap := h' } := by
 have efs : frs (envOfC qual scope s₀.heap.objs.size f cd :: outer) = s₀.heap.objs.size :: frs outer := frs_cons rfl outer
 have old : ∀ b o, s₀.heap.get? b = some o -> b ∉ frs outer -> b ∉ frs (envOfC qual scope s₀.heap.objs.size f cd :: outer) := fun b o q hb z => by
  rw [efs] at z
  rcases List.mem_cons.mp z with z | z
  ·exact absurd z (Nat.ne_of_lt (Heap.lt_size q))
  ·exact hb z
 show wpAny (model P w) (A.deeper (envOfC qual scope s₀.heap.objs.size f cd)) (leaving (envOfC qual scope s₀.heap.objs.size f cd) (.ref e)) _ _ _
 refine wpAny_leaves_madeW (base := PySem.W.hideAll s.heap (frs (envOfC qual scope s₀.heap.objs.size f cd :: outer))) (h := s.heap) (outer := outer) I.ok.frames rfl (fun b o q => PySem.W.of_hideAll _ q) (PySem.W.funFrames_hide I.stack fun env he a hf => List.mem_filterMap.mpr ⟨env, he, hf⟩) hm
  fun h2 t fl _ _ up => ?_
 refine ⟨e, C, .ref t, H, _, rfl, I.os, I.bare, fl, ⟨fun b o q n hb => ?_, fun b o q hb => ?_, fun b o q n => I.base.free b o q n (by simp [cxOf]), I.base.tups, I.base.frzs, I.base.tbls, fun a o ha => ?_⟩, fun b o q hb => ?_, hE⟩
 ·exact PySem.W.hideAll_get _ (I.base.keep b o q n hb (by simp [cxOf])) (old b o q hb)
 ·obtain ⟨o', q'⟩ := I.base.there b o q (by simp [cxOf])
  exact ⟨o', PySem.W.hideAll_get _ q' (old b o q hb)⟩
 ·refine (I.hok a o ha).stay (fun b u hb q => PySem.W.hideAll_get _ q fun z => ?_) (fun _ q => q) fun _ _ q => q
  have := I.stkFree b z
  rcases hb with rfl | hb
  ·rw [this] at ha; cases ha
  ·rw [this] at hb; cases hb
 ·obtain ⟨_, o', q', nf⟩ := I.ok.funs.mem hb
  have q' : s₀.heap.get? b = some o' := q'
  rw [q] at q'; cases q'
  obtain ⟨sl, r⟩ := I.base.slot b o q (I.ok.frf b hb) hb (by simp [cxOf])
  obtain ⟨sl2, r2⟩ := up b _ (hm.keeps _ _ r) nf
  exact ⟨sl2, r2⟩
theorem leave_on : Passes (CXr P w) (cxOf (CXr P w) P w K mg base N qual scope f cd A outer s₀ H₀ E) E := by
 rintro pins σ H s e s' I ⟨ea, C, a0, H', B, rfl, os, bare, fl, ra, sl, hE⟩
 have efs : frs (envOfC qual scope s₀.heap.objs.size f cd :: outer) = s₀.heap.objs.size :: frs outer := frs_cons rfl outer
 have old : ∀ b o, s₀.heap.get? b = some o -> b ∉ frs outer -> b ∉ frs (envOfC qual scope s₀.heap.objs.size f cd :: outer) := fun b o q hb z => by
  rw [efs] at z
  rcases List.mem_cons.mp z with z | z
  ·exact absurd z (Nat.ne_of_lt (Heap.lt_size q))
  ·exact hb z
 show wpAny (model P w) (A.deeper (envOfC qual scope s₀.heap.objs.size f cd)) (leaving (envOfC qual scope s₀.heap.objs.size f cd) (.ref ea)) _ _ _
 refine wpAny_leaves_onW (outer := outer) I.ok.frames rfl fl fun h2 fl2 up => ?_
 refine ⟨ea, C, a0, H', B, rfl, os.trans I.os, bare, fl2, ⟨fun b o q n hb => ?_, fun b o q hb => ?_, fun b o q n => ?_, fun b xs q => ra.tups b xs (I.base.tups b xs q), fun b o u q => ra.frzs b o u (I.base.frzs b o u q), fun b ps q => ?_, ra.hok⟩, fun b o q hb => ?_, hE⟩
 ·exact ra.keep b o (I.base.keep b o q n hb (by simp [cxOf])) (I.base.free b o q n (by simp [cxOf])) (old b o q hb)
 ·obtain ⟨o', q'⟩ := I.base.there b o q (by simp [cxOf])
  exact ra.there b o' q' (old b o q hb)
 ·obtain ⟨o', q'⟩ := I.base.there b o q (by simp [cxOf])
  exact ra.free b o' q' (I.base.free b o q n (by simp [cxOf]))
 ·obtain ⟨m1, q1⟩ := I.base.tbls b ps q
  obtain ⟨m2, q2⟩ := ra.tbls b _ q1
  exact ⟨m1 ++ m2, by rw [<- Array.append_assoc]; exact q2⟩
 ·obtain ⟨_, o', q', nf⟩ := I.ok.funs.mem hb
  have q' : s₀.heap.get? b = some o' := q'
  rw [q] at q'; cases q'
  obtain ⟨s1, r⟩ := I.base.slot b o q (I.ok.frf b hb) hb (by simp [cxOf])
  obtain ⟨s2, r2⟩ := sl b _ r (by rw [show frs (cxOf (CXr P w) P w K mg base N qual scope f cd A outer s₀ H₀ E).stack = _ from efs]; exact List.mem_cons_of_mem _ hb)
  obtain ⟨s3, r3⟩ := up b _ r2 nf
  exact ⟨s3, r3⟩
end
theorem exc_obj {K : PySem.W.Frag} {h : Heap} {C : Addr} {bmB : List Value} {newId : String} (X : K.In h) (q : PySem.W.excIn K C bmB newId = true) :
  ∃ bm N nm q bs hdct sn sub ab col dd k0 k1 k2 k3 k5 mN, h.get? C = some (excClassObj nm q C N bs bm hdct sn sub ab col dd k0 k1 k2 k3 k5 newId) /\ h.Ns N mN /\ mN "__init__" = none /\ OwnTail h bmB bm := by
 unfold PySem.W.excIn at q
 split at q
 ·rename_i dd cd sl ho
  split at q
  ·rename_i C' bm k0 k1 k2 k3 n k5 hm hs
   simp only [Bool.and_eq_true, beq_iff_eq, Bool.not_eq_true'] at q
   obtain ⟨⟨⟨⟨⟨rfl, rfl⟩, hdel⟩, ht⟩, hok⟩, hni⟩ := q
   obtain ⟨nm, bs, mro, ns, qn, hd, sn, sub, ab, col, del⟩ := cd
   dsimp only at hm hdel hok hni
   subst hm hdel
   obtain ⟨l⟩ := sl
   have hs : l = _ := hs
   subst hs
   exact ⟨bm, ns, nm, qn, bs, hd, sn, sub, ab, col, dd, k0, k1, k2, k3, k5, _, X _ _ ho, .of_isNs (PySem.W.isNs_of_in X hok), PySem.W.nsMap_none_of_in X hok hni, PySem.W.tail_of_in X ht⟩
  ·cases q
 ·cases q
noncomputable def bmV : List Value := [.type "ValueError", .type "Exception", .type "BaseException", .type "object"]
section
variable {P : Program} {w : World} {K : PySem.W.Frag} {mg : Str -> Option Value} {base : Heap} {N : List Str} {qual : Str} {scope : Scope} {f : Addr} {cd : Value} {A : Around} {outer : List Env} {s₀ : Shared} {H₀ : Hp} {E : XK}
theorem ps_raise {x m : Str} {C : Addr} {j : Nat} {np cp cpos pos : Pos} (hg : Gl (cxOf (CXr P w) P w K mg base N qual scope f cd A outer s₀ H₀ E) x) (hm : mg x = some (.ref C)) (hc : PySem.W.excIn K C bmV "ValueError.__new__" = true) (hd : (x == ("__debug__" : Str)) = false)
  (hh : A.handled = none) : PS (cxOf (CXr P w) P w K mg base N qual scope f cd A outer s₀ H₀ E) (.Raise (some (.Call (.Name x np) [.Constant (.str m) j cp] [] cpos)) none pos) (fun _ _ H => E (.ref C) none H) := by
 intro pins s σ H D I hE
 obtain ⟨tl, NN, nm, q, bs, hdct, sn, sub, ab, col, dd, k0, k1, k2, k3, k5, mN, hC, hN, hni, T⟩ := exc_obj I.ok.mod.kin hc
 refine wpAny_Raise_call_subU (C := C) (nm := nm) (q := q) (N := NN) (bs := bs) (bm := tl) (hdct := hdct) (sn := sn) (sub := sub) (ab := ab) (col := col) (dd := dd) (k0 := k0) (k1 := k1) (k2 := k2) (k3 := k3) (k5 := k5)
  F.excBase_ValueError (by decide) F.excBase_ValueError (mN := mN) (T.hasType (by decide)) (show (A.deeper _).handled = none from hh) rfl hni (ld_glob I hg hm ⟨rfl, ?_⟩ hd)
 have pa : PA (cxOf (CXr P w) P w K mg base N qual scope f cd A outer s₀ H₀ E) [.Constant (.str m) j cp] _ := pa_cons pe_str pa_nil
 exact Calls.evalArgs_plain (thn (pa cpos pins s σ H (fun vs H1 => vs.length = 1 /\ E (.ref C) none H1) I ⟨rfl, hE⟩) fun us s1 ⟨vs, H1, I1, r, q0, q1⟩ =>
  ⟨rfl, by show us.length <= sizeLine; rw [<- r.length, q0, sizeLine_eq]; omega, I1.bk _ _ hC, hN.keeps I1.bk, T.keeps I1.bk, fun h' e hm => leave_made I1 hm q1⟩)
end
end TW
end
section
namespace TW
open PySem PySem.Spec PyProof.Rows L2
section
open PySem.W PySem.Calls Builtin Builtin.ObjectAttr
variable {prog : Program} {w : World} {A : Around} {E : Value -> Shared -> Prop} {s : Shared} {K : PySem.W.Frag} {x C : Addr}
theorem look_data {M : Model} {h : Heap} {name : Str} {a g : Value} (X : K.In h) (ha : findIn K (.ref C) name = some (some a)) (hg : specialIn K a "__get__" = some (some g)) (ht : takesIn K a = some true) :
  Looks M h (find (.ref x) (.ref C) name) (.bind g a) := by
 have L1 := looks_findIn (M := M) X ha
 have L2 : Looks M h (getOf (some a)) (some g) := looks_specialIn X hg
 have L3 := looks_takesIn (M := M) X ht
 exact L1.andThen (L2.andThen ((show Looks M h (dataDescriptor? (some a) (some g)) (some (g, a)) from L3.andThen .now).andThen (Looks.tag .now)))
structure ExC (K : PySem.W.Frag) (C : Addr) : Prop where
 get : findIn K (.ref C) "__getattribute__" = some (some (.builtin "BaseException.__getattribute__"))
 hook : findIn K (.ref C) "__getattr__" = some none
 cls : findIn K (.ref C) "__class__" = some (some (.builtin "object.__class__"))
 gs : specialIn K (.builtin "object.__class__") "__get__" = some (some (.builtin "getset_descriptor.__get__"))
 tk : takesIn K (.builtin "object.__class__") = some true
 mro : mroIn K C (.type "object") = some true
 mrb : mroIn K C (.type "BaseException") = some true
theorem exc_class {Q : Option Value -> Shared -> Prop} (c : ExC K C) (X : K.In s.heap) (LT : ∀ M, Looks M s.heap (typeOf (.ref x)) (.ref C)) (h : Q (some (.ref C)) { s with toks := s.toks + 1 }) : wpAny (model prog w) A (getAttr? (.ref x) "__class__") Q E s := by
 obtain ⟨hh, g, d, t, os⟩ := s
 have L0 := LT (model prog w)
 have L1 := looks_findIn (M := model prog w) X c.get
 have L2 := looks_findIn (M := model prog w) X c.hook
 have L3 := look_data (M := model prog w) (x := x) X c.cls c.gs c.tk
 have L4 := looks_mroIn (M := model prog w) X c.mro
 have L5 := looks_mroIn (M := model prog w) X c.mrb
 have f3 := F.attr_ValueError.ga.bind (.ref x)
 have hx2 : (Value.builtin "BaseException.__getattribute__" == Value.builtin "object.__getattribute__") = false := by decide +kernel
 have hx1 : (onTheHeap (Value.ref C) && Value.builtin "BaseException.__getattribute__" == Value.builtin "object.__getattribute__") = false := by rw [hx2]; rfl
 unfold getAttr? getAttrBy? getAttrBy
 refine wpAny_bind (wpAny_mkText (wpAny_bind (wpAny_attempt (wpAny_holding (wpAny_bind (L0.at (wpAny_bind (L1.at ?_))))))))
 dsimp only
 rw [hx1, if_neg Bool.false_ne_true]
 unfold getAttrByItsOwn hookBefore callGetattribute boundAndCalled
 refine wpAny_bind (L2.at ?_)
 refine wpAny_bind (wpAny_attempt (wpAny_holding ?_))
 show wpAny _ _ (do let (g, first) <- bindSpecial _ _; call g (first ++ [_])) _ _ _
 rw [f3]
 refine wpAny_bind (wpAny_pure (wpAny_call ?_))
 refine codeAny_call_builtin F.attr_ValueError.ga.plain F.entry_bexc_ga ?_
 have hk : builtinKind "BaseException.__getattribute__" = some .slot := by decide +kernel
 have hsplit : splitId "BaseException.__getattribute__" = some ("BaseException", "__getattribute__") := by decide +kernel
 have ha := F.args_bexc_ga (.ref x) (.str "__class__" t)
 show wpAny _ _ (checkBuiltinCall "BaseException.__getattribute__" ⟨[.ref x, .str "__class__" t], []⟩) _ _ _
 simp only [checkBuiltinCall, hk, hsplit]
 refine wpAny_bind (wpAny_bind (L0.at (L5.at ?_)))
 simp only [Bool.not_true, Bool.false_eq_true, if_false]
 refine wpAny_of_eq (a := ()) ha ?_
 show wpAny _ _ (Builtin.«object.__getattribute__» ⟨[.ref x, .str "__class__" t], []⟩) _ _ _
 unfold Builtin.«object.__getattribute__»
 refine wpAny_bind (wpAny_pure ?_)
 refine wpAny_bind (wpAny_pure ?_)
 refine wpAny_bind (L0.at (wpAny_bind (L3.at ?_)))
 show wpAny _ _ (bindTo (.builtin "getset_descriptor.__get__") (.builtin "object.__class__") (.ref x) (.ref C)) _ _ _
 unfold bindTo
 show wpAny _ _ (do ret (<- holding [.builtin "object.__class__"] (call (.builtin "getset_descriptor.__get__") [.builtin "object.__class__", .ref x, .ref C]))) _ _ _
 refine wpAny_bind (wpAny_holding (wpAny_call ?_))
 refine codeAny_call_builtin KF.slot_gs.plain KF.entry_gs (KF.slot_gs.check _ _ _ _ _ _ _ _ KF.type_class (KF.args_gs _ _ _) ?_)
 unfold Builtin.«getset_descriptor.__get__» Builtin.Getset_descriptor.descrGet
 rw [dga_obj]
 refine wpAny_bind (wpAny_pure ?_)
 unfold Builtin.Getset_descriptor.descrGetter Builtin.Getset_descriptor.descrCheckInstance Builtin.Getset_descriptor.descrNameAndClass isInstance
 simp only [KF.owner_class]
 repeat lk
 refine ⟨Code.quiet_builtin _ (by decide +kernel), codeAny_builtin KF.entry_class ?_⟩
 unfold Builtin.«object.__class__» shownTypeOf
 repeat lk
 exact h
end
theorem kitx_exc {K : PySem.W.Frag} {x C : Addr} (c : ExC K C) : PySem.W.KitX K (.ref x) (.ref C) (fun h => ∃ o, h.get? x = some o /\ o.cls = .ref C) where
 ty := fun M h _ ⟨o, e, hc⟩ => hc ▸ (PySem.W.Looks.ld e).andThen .now
 it := fun M h X _ => by
  obtain ⟨cd, a, _⟩ := Option.bind_eq_some_iff.mp c.mro
  unfold PySem.W.clsIn at a
  split at a
  ·rename_i c' d' cd' sl' ho
   intro A' Q' E' s' k q
   unfold isType loadHead
   exact wpAny_bind (wpAny_loadPart (k _ _ (X _ _ ho)) (wpAny_pure q))
  ·cases a
 ne := fun h tp dd its n sl X htp => by
  obtain ⟨cd, a, _⟩ := Option.bind_eq_some_iff.mp c.mro
  refine Bool.eq_false_iff.mpr fun q => ?_
  have e : C = tp := Value.ref.inj (beq_iff_eq.mp q)
  subst e
  unfold PySem.W.clsIn at a
  split at a
  ·rename_i c' d' cd' sl' ho
   have z := (X _ _ ho).symm.trans htp
   cases z
  ·cases a
 ca := fun X ⟨o, e, hc⟩ k => exc_class c X (fun M => hc ▸ (PySem.W.Looks.ld e).andThen .now) k
theorem ObjOk.thereO {P : Program} {w : World} {H : Hp} {h : Heap} {a : Addr} {o : HO} (x : ObjOk P w H h a o) : ∃ u, h.get? a = some u := by
 cases o with
 | lst xs => obtain ⟨_, _, _, _, e⟩ := x; exact ⟨_, e⟩
 | tup xs => obtain ⟨_, _, _, o, e, _⟩ := x; exact ⟨_, e⟩
 | dK kvs => obtain ⟨_, _, _, _, o, _, _, e, _⟩ := x; exact ⟨_, e⟩
 | dT kvs => obtain ⟨_, _, _, _, o, _, _, e, _⟩ := x; exact ⟨_, e⟩
 | set S n => obtain ⟨o, _, _, _, e, _⟩ := x; exact ⟨_, e⟩
 | ins C dx fs => obtain ⟨_, _, _, e, _⟩ := x; exact ⟨_, e⟩
 | own y => exact x
 | xd fs => obtain ⟨_, ⟨_, _, _, e, _⟩, _⟩ := x; exact ⟨_, e⟩
 | rng lo hi => obtain ⟨_, _, _, e⟩ := x; exact ⟨_, e⟩
 | frz ob u => obtain ⟨e, _⟩ := x; exact ⟨_, e⟩
 | tbl ps => exact ⟨_, (show h.get? a = some _ from x)⟩
 | met f y => exact ⟨_, (show h.get? a = some _ from x)⟩
 | ext φ => obtain ⟨_, e, _⟩ := x; exact e
noncomputable abbrev exX (X : Cx) (ea : Addr) (oe : Obj) : Cx := { X with A := X.A.mark (some (.ref ea)), calm := false, pn := (ea, oe) :: X.pn, xe := fun _ _ => False }
theorem Inv.toEx {X : Cx} {pins : List (Addr × Obj)} {σ : L2.St} {H : Hp} {s : Shared} {ea : Addr} {oe : Obj} (I : Inv X pins σ H s) (h1 : s.heap.get? ea = some oe) (h2 : H ea = none) (h3 : ea ≠ X.env.locals) (h4 : ea ∉ X.fs) (h5 : ∀ v, oe.data ≠ .cell v) :
  Inv (exX X ea oe) pins σ H s :=
 ⟨⟨I.ok.mod, I.ok.kind, I.ok.glob, I.ok.blt, I.ok.above, I.ok.inj, I.ok.has, I.ok.cab, (fun z => nomatch z), I.ok.frames, I.ok.stk, I.ok.exf, I.ok.bs, I.ok.bsz, I.ok.noex, I.ok.exfs, I.ok.funs, I.ok.frf⟩,
  I.os, I.bare, I.base, I.loc, I.cell, I.free, I.freeC, fun p hp => by
   rcases List.mem_cons.mp (show p ∈ (ea, oe) :: (X.pn ++ pins) from hp) with rfl | hp
   ·exact ⟨h1, h2, h3, h4, h5⟩
   ·exact I.pin p hp, I.hok, I.len⟩
theorem Inv.unEx {X : Cx} {pins : List (Addr × Obj)} {σ : L2.St} {H : Hp} {s : Shared} {ea : Addr} {oe : Obj} (ok : X.Ok) (I : Inv (exX X ea oe) pins σ H s) : Inv X pins σ H s :=
 ⟨ok, I.os, I.bare, I.base, I.loc, I.cell, I.free, I.freeC, fun p hp => I.pin p (List.mem_cons_of_mem _ hp), I.hok, I.len⟩
section
variable {X : Cx} {pins : List (Addr × Obj)} {σ : L2.St} {H : Hp} {s : Shared} {E' : XK} {e : Value} {s' : Shared} {x : Str} {D : Addr} {b0 : Stmt} {suite : List Stmt} {np hpos : Pos} {Q : Flow -> Shared -> Prop}
theorem landed (I : Inv X pins σ H s) (hst : X.stack = X.env :: X.outer) (hf : X.env.frame = some X.env.locals) {ea C : Addr} {a0 : Value} {H' : Hp} {B : Heap} (os : s'.os = s.os) (bare : AllBare s'.gens) (ra : Ra X.prog X.w (frs X.stack) H H' s.heap B) (sl : SlotsAt (frs X.stack) s.heap s'.heap)
  {h6 : Heap} (fl : Heap.FlyingW B X.stack ea (.ref C) a0 h6) (up : s'.heap.UpToSlots h6) : ∃ oe, oe.cls = .ref C /\ Inv (exX X ea oe) pins σ H' { s' with heap := h6 } := by
 obtain ⟨oe, vs, he, hc, hd, _⟩ := fl.first
 have sl6 : SlotsAt (frs X.stack) s.heap h6 := fun b o q hb => by
  obtain ⟨_, o', q', nf⟩ := I.stack.mem hb
  rw [q] at q'; cases q'
  obtain ⟨s1, r1⟩ := sl b o q hb
  obtain ⟨s2, r2⟩ := up b _ r1 nf
  exact ⟨s2, r2⟩
 have I6 : Inv X pins σ H' { s' with heap := h6 } := I.call' (s' := { s' with heap := h6 }) (ch := []) os (ra.un fl.1 sl6) (ra.hok.kept fl.1) bare (fun b z => absurd z (by simp))
 refine ⟨oe, hc, Inv.toEx I6 he ?_ ?_ ?_ fun v z => by rw [hd] at z; cases z⟩
 ·cases q : H' ea with
  | none => rfl
  | some u =>
   obtain ⟨o', q'⟩ := ObjOk.thereO (ra.hok ea u q)
   rw [fl.2.1] at q'; cases q'
 ·intro z
  have hb : ea ∈ X.stack.filterMap (·.frame) := by
   rw [hst, List.filterMap_cons, hf, z]; exact List.mem_cons_self
  obtain ⟨_, o', q', nf⟩ := fl.2.2.1.mem hb
  rw [he] at q'; cases q'
  exact nf vs hd
 ·intro z
  have hb : ea ∈ X.stack.filterMap (·.frame) := by
   rw [hst]
   have : frs X.outer ⊆ frs (X.env :: X.outer) := fun b hb => by rw [frs_cons hf]; exact List.mem_cons_of_mem _ hb
   exact this z
  obtain ⟨_, o', q', nf⟩ := fl.2.2.1.mem hb
  rw [he] at q'; cases q'
  exact nf vs hd
theorem caughtN {n : Str} (I : Inv X pins σ H s) (hst : X.stack = X.env :: X.outer) (hf : X.env.frame = some X.env.locals) (cx : CXr X.prog X.w X.stack H s E' e s') (hg : Gl X x) (hm : X.mg x = some (.ref D)) (hdb : (x == ("__debug__" : Str)) = false)
  (hmt : ∀ C dx H', E' C dx H' -> PySem.W.exmOne X.K C (.ref D) = some true)
  (k : ∀ ea C oe H' s6, E' (.ref C) none H' -> oe.cls = .ref C -> Inv (exX X ea oe) pins σ H' s6 -> wpAny (model X.prog X.w) (X.A.mark (some (.ref ea))) (storeName X.env n (.ref ea)) (fun _ s7 => wpAny (model X.prog X.w) (X.A.mark (some (.ref ea))) (execs (b0 :: suite) X.env)
   (fun f s8 => wpAny (model X.prog X.w) X.A (do bindName X.env n .none; unbindBehindTheSuite X.env n hpos) (fun _ s9 => Q f s9) X.xe s8) (fun _ _ => False) s7) (fun _ _ => False) s6) :
  wpAny (model X.prog X.w) X.A (noteFrame e X.env) (fun _ s2 => wpAny (model X.prog X.w) X.A (setFlight e none) (fun _ s3 => wpAny (model X.prog X.w) X.A (handleBy e X.env [.ExceptHandler (some (.Name x np)) (some n) (b0 :: suite) hpos]) Q X.xe s3) X.xe s2) X.xe s' := by
 obtain ⟨ea, C, a0, H', B, rfl, os, bare, fl, ra, sl, hE⟩ := cx
 refine wpAny_looks_onW (outer := X.outer) (by rw [<- hst]; exact I.ok.frames) hf (by rw [<- hst]; exact fl) fun h4 hh4 up4 => ?_
 refine wpAny_landsW hh4 fun h5 fl5 up5 => ?_
 have fl5' : Heap.FlyingW B X.stack ea (.ref C) a0 h5 := by rw [hst]; exact fl5
 obtain ⟨oe, hc, I5⟩ := landed I hst hf os bare ra sl fl5' (up4.trans up5)
 refine wpAny_handleBy_cons (codeAny_handlers_test (ld_glob I5 hg hm ?_ hdb)) (by intro q; cases q)
 obtain ⟨ob, vs, he, hc', hd, _⟩ := fl5.first
 refine (PySem.W.exm_one (M := model X.prog X.w) (h := h5) I5.kIn (hc' ▸ (PySem.W.Looks.ld he).andThen .now) (hmt _ _ _ hE)).here ?_
 refine codeAny_handlers_suite_as ?_
 refine lands_againW fl5 fun h6 fl6 up6 => ?_
 have fl6' : Heap.FlyingW B X.stack ea (.ref C) a0 h6 := by rw [hst]; exact fl6
 obtain ⟨o6, hc6, I6⟩ := landed I hst hf os bare ra sl fl6' ((up4.trans up5).trans up6)
 exact wpAny_mono (k ea C o6 H' _ hE hc6 I6) (fun _ _ q => wpAny_mono q (fun _ _ r => r) fun _ _ z => z.elim) fun _ _ z => z.elim
end
end TW
end
section
namespace TW
open PySem PySem.Spec PyProof.Rows L2
noncomputable def spX (C : Addr) (n : Nat) (g : List D -> Option D) : Sp := fun vs H _ E => ∃ G ds, (Same G H /\ Tb G) /\ Rps G ds vs /\ ds.length = n /\ g ds = some (.bl true) /\ ∀ H' G', Ext G H G' H' -> E (.ref C) none H'
theorem good_cx {CX : CXT} {P : Program} {w : World} {K : PySem.W.Frag} {mg : Str -> Option Value} {base : Heap} {ps : List Str} {qual : Str} {scope : Scope} {f : Addr} {cdv : Value} {A : Around} {outer : List Env} {s : Shared} {H : Hp} {E : XK} {T : Tab} {p : Nat -> List D -> Option D} {k : Nat}
  (S : FnScope (scope.names.map (·.1)) ps scope) (hr : Room k (A.deeper (envOfC qual scope s.heap.objs.size f cdv))) (blt : ∀ x, x ∈ bltN -> mg x = none) (gls : ∀ x c, T.gls.lookup x = some c -> ∀ d, cstIs d c = true -> ∃ v u, mg x = some u /\ RelV v u /\ ∀ G, Rp G d v)
  (fns : ∀ f x n, T.fns[f]? = some (x, n) -> ∃ a fd ps, FnOk P w K mg base CX0 k a fd ps (spD n (p f)) /\ mg x = some (.ref a) /\ PySem.W.keepIn K (.ref a) = true /\ Binds K fd ps []) :
  Good (cxOf CX P w K mg base (scope.names.map (·.1)) qual scope f cdv A outer s H E) T p scope.names := by
 refine ⟨rfl, S.nd, fun x k h hk => ?_, fun x h => h, fun x h => h, fun x h => ⟨h, rfl⟩, fun x h => h, rfl, hr.units, blt, gls, fun f x n hf => ?_⟩
 ·show scope.names.lookup x = _ \/ scope.names.lookup x = _ \/ scope.names.lookup x = _
  rw [h]
  cases k <;> first | (cases hk; done) | exact .inl rfl | exact .inr (.inl rfl) | exact .inr (.inr rfl)
 ·obtain ⟨a, fd, ps, h1, h2, h3, h4⟩ := fns f x n hf
  exact ⟨k, a, fd, ps, h1, hr, h2, h3, h4⟩
end TW
end
section
namespace TW
open PySem PySem.Spec PyProof.Rows L2
noncomputable abbrev wishP (X : Cx) (pins : List (Addr × Obj)) (E : Value -> Shared -> Prop) : Cx := { X with pn := X.pn ++ pins, xe := E }
section
variable {X : Cx} {pins pins' : List (Addr × Obj)} {σ : L2.St} {H : Hp} {s : Shared} {E : Value -> Shared -> Prop}
theorem Inv.toP (I : Inv X pins σ H s) (E : Value -> Shared -> Prop) : Inv (wishP X pins E) [] σ H s :=
 ⟨⟨I.ok.mod, I.ok.kind, I.ok.glob, I.ok.blt, I.ok.above, I.ok.inj, I.ok.has, I.ok.cab, I.ok.hd, I.ok.frames, I.ok.stk, I.ok.exf, I.ok.bs, I.ok.bsz, I.ok.noex, I.ok.exfs, I.ok.funs, I.ok.frf⟩,
  I.os, I.bare, I.base, I.loc, I.cell, I.free, I.freeC, fun p hp => I.pin p (by simpa using hp), I.hok, I.len⟩
theorem Inv.unP (I : Inv (wishP X pins E) pins' σ H s) : Inv X pins σ H s :=
 ⟨⟨I.ok.mod, I.ok.kind, I.ok.glob, I.ok.blt, I.ok.above, I.ok.inj, I.ok.has, I.ok.cab, I.ok.hd, I.ok.frames, I.ok.stk, I.ok.exf, I.ok.bs, I.ok.bsz, I.ok.noex, I.ok.exfs, I.ok.funs, I.ok.frf⟩,
  I.os, I.bare, I.base, I.loc, I.cell, I.free, I.freeC, fun p hp => I.pin p (List.mem_append_left _ hp), I.hok, I.len⟩
end
theorem pe_isx {X : Cx} {ea C : Addr} {oe : Obj} {e c : Str} {i : Nat} {b : Bool} {u : Value} {v : V} {p1 p2 p3 pos : Pos} (hp : (ea, oe) ∈ X.pn) (hc : oe.cls = .ref C) (ex : ExC X.K C) (hN : X.N[i]? = some e) (hv : Vis X.env.scope e) (hd : (e == ("__debug__" : Str)) = false) (hcd : (e == ("__classdict__" : Str)) = false)
  (hgi : Gl X "isinstance") (hmi : X.mg "isinstance" = none) (pc : PE X (.Name c p3) (tC v)) (rv : ∀ u', RelV v u' -> u' = u) (hk : PySem.W.kitOne X.K (.ref C) u = some b) :
  PE X (.Call (.Name "isinstance" p1) [.Name e p2, .Name c p3] [] pos) (fun σ H Q => σ[i]? = some (some (.ref ea)) /\ Q (.bl b) H) := by
 have cr : CallR X (.builtin "isinstance") (fun xs H Q => xs = [.ref ea, v] /\ Q (.bl b) H) := by
  rintro pins s σ H xs us Q I r ⟨rfl, q⟩
  obtain ⟨y1, l1, rfl, r1, r2⟩ : ∃ y1 l1, us = y1 :: l1 /\ RelV (.ref ea) y1 /\ Vals [v] l1 := by cases r with | cons a b => exact ⟨_, _, rfl, a, b⟩
  obtain ⟨y2, rfl, r3⟩ : ∃ y2, l1 = [y2] /\ RelV v y2 := by cases r2 with | cons a b => cases b; exact ⟨_, rfl, a⟩
  cases (show y1 = .ref ea from r1)
  cases rv y2 r3
  exact PySem.W.kia_one (kitx_exc ex) I.kIn ⟨oe, (I.pin _ (List.mem_append_left _ hp)).1, hc⟩ hk (fun z => nomatch z) fun tk => ⟨.bl b, H, I.tok tk, rfl, q⟩
 refine pe_imp (pe_callB cr hgi hmi boot_isinstance (pa_cons (pe_var hN hv hd hcd) (pa_cons pc pa_nil))) ?_
 rintro σ H Q ⟨h1, h2⟩
 exact ⟨_, h1, rfl, h2⟩
theorem name_goes {X : Cx} {pins : List (Addr × Obj)} {σ : L2.St} {H : Hp} {s : Shared} {n : Str} {pos : Pos} {Q : Unit -> Shared -> Prop} {E : Value -> Shared -> Prop} {A : Around} (I : Inv X pins σ H s) (hl : X.env.kindOf n = some .local)
  (h : ∀ s', Inv X pins (List.replicate X.N.length none) H s' -> Q () s') : wpAny (model X.prog X.w) A (do bindName X.env n .none; unbindBehindTheSuite X.env n pos) Q E s := by
 obtain ⟨m, hn, _⟩ := id I.loc
 refine wpAny_nameGoes hl hn (by rw [I.ok.kind]; rfl) fun h' m' hn' hs => h _ ?_
 have neL : ∀ b o, X.s₀.heap.get? b = some o -> b ≠ X.env.locals := fun b o e => Nat.ne_of_lt (Nat.lt_of_lt_of_le (Heap.lt_size e) I.ok.above)
 have cne : ∀ y c, X.env.cells.lookup y = some c -> c ≠ X.env.locals := fun y c e => I.cne y c e
 refine ⟨I.ok, I.os, I.bare, ⟨fun b o e n hb hx => (hs.2 b (neL b o e)).trans (I.base.keep b o e n hb hx), fun b o e n hb hx => ?_, I.base.free, fun b o e hx => ?_, I.base.tups, I.base.frzs, I.base.tbls⟩, ⟨m', hn', fun i x v e1 e2 _ => ?_⟩, fun y c e => ?_, I.free, I.freeC, fun p hp => ?_, fun a o ha => ?_, List.length_replicate⟩
 ·obtain ⟨sl, e1⟩ := I.base.slot b o e n hb hx
  exact ⟨sl, (hs.2 b (neL b o e)).trans e1⟩
 ·obtain ⟨o', e1⟩ := I.base.there b o e hx
  exact ⟨o', (hs.2 b (neL b o e)).trans e1⟩
 ·rw [List.getElem?_replicate] at e2
  split at e2 <;> cases e2
 ·obtain ⟨w', z⟩ := I.cell y c e
  exact ⟨w', z.sameBut hs (cne y c e)⟩
 ·obtain ⟨e, n, ne, nf, d⟩ := I.pin p hp
  exact ⟨(hs.2 p.1 ne).trans e, n, ne, nf, d⟩
 ·refine (I.hok a o ha).stay (fun b u hb q => (hs.2 b fun z => ?_).trans q) (fun _ q => q) fun _ _ q => q
  have nf := I.free
  rw [<- z] at nf
  rcases hb with rfl | hb
  ·rw [ha] at nf; cases nf
  ·rw [hb] at nf; cases nf
section
variable {P : Program} {w : World} {K : PySem.W.Frag} {mg : Str -> Option Value} {base : Heap} {k : Nat} {d : DefT} {f f2 : Addr} {fd fd2 : FuncData} {ps2 : List Str} {g g2 : List D -> Option D}
noncomputable def tryE (X : Cx) (hs : List ExceptHandler) (Q : Flow -> Shared -> Prop) : Value -> Shared -> Prop := fun e s₁ => wpAny (model X.prog X.w) X.A (noteFrame e X.env) (fun _ s₂ => wpAny (model X.prog X.w) X.A (setFlight e none) (fun _ s₃ => wpAny (model X.prog X.w) X.A (handleBy e X.env hs) Q X.xe s₃) X.xe s₂) X.xe s₁
end
end TW
end
section
namespace UF
noncomputable def gt (f : List Nat) (u : Nat) : Nat := f.getD u 0
noncomputable def mrg (f : List Nat) (x y : Nat) : List Nat := f.map fun z => if z = x \/ z = y then min x y else z
noncomputable def step (f : List Nat) (l : Nat × Nat) : List Nat := mrg f (gt f l.1) (gt f l.2)
noncomputable def lstep (g : List Nat) (l : Nat × Nat) : List Nat := g.map fun z => if z = gt g l.2 then gt g l.1 else z
structure Ok (m : Nat) (f : List Nat) : Prop where
 len : f.length = m
 le : ∀ u, u < m -> gt f u <= u
 rt : ∀ u, u < m -> gt f (gt f u) = gt f u
theorem gt_map (h : Nat -> Nat) : ∀ (l : List Nat) (u : Nat), u < l.length -> gt (l.map h) u = h (gt l u)
 | [], u, hu => by simp at hu
 | x :: r, 0, _ => rfl
 | x :: r, u + 1, hu => gt_map h r u (by simpa using hu)
theorem getD_range {m u : Nat} (h : u < m) : gt (List.range m) u = u := by simp [gt, List.getD_eq_getElem?_getD, h]
theorem ok_range (m : Nat) : Ok m (List.range m) := ⟨by simp, fun u h => by rw [getD_range h]; exact Nat.le_refl _, fun u h => by rw [getD_range h, getD_range h]⟩
theorem mrg_get {m : Nat} {f : List Nat} (h : Ok m f) (x y : Nat) {u : Nat} (hu : u < m) : gt (mrg f x y) u = if gt f u = x \/ gt f u = y then min x y else gt f u := by
 unfold mrg
 rw [gt_map _ f u (by rw [h.len]; exact hu)]
theorem Ok.lt {m : Nat} {f : List Nat} (h : Ok m f) {u : Nat} (hu : u < m) : gt f u < m := Nat.lt_of_le_of_lt (h.le u hu) hu
theorem ok_step {m : Nat} {f : List Nat} (h : Ok m f) {l : Nat × Nat} (h1 : l.1 < m) (h2 : l.2 < m) : Ok m (step f l) := by
 have x1 := h.le _ h1
 have x2 := h.le _ h2
 have r1 := h.rt _ h1
 have r2 := h.rt _ h2
 have l1 := h.lt h1
 have l2 := h.lt h2
 unfold step
 generalize hx : gt f l.1 = x at *
 generalize hy : gt f l.2 = y at *
 have hm : gt f (min x y) = min x y := by
  rcases Nat.le_total x y with z | z
  ·rw [Nat.min_eq_left z]; exact r1
  ·rw [Nat.min_eq_right z]; exact r2
 have lm : min x y < m := by omega
 refine ⟨by simp [mrg, h.len], fun u hu => ?_, fun u hu => ?_⟩
 ·rw [mrg_get h x y hu]
  have := h.le u hu
  split <;> omega
 ·rw [mrg_get h x y hu]
  split
  ·rename_i hc
   rw [mrg_get h x y lm, hm]
   rcases Nat.le_total x y with z | z
   ·simp [Nat.min_eq_left z]
   ·simp [Nat.min_eq_right z]
  ·rename_i hc
   rw [mrg_get h x y (h.lt hu), h.rt u hu, if_neg hc]
noncomputable def roots (m : Nat) (f : List Nat) : List Nat := (List.range m).filter fun u => decide (gt f u = u)
noncomputable def cnt (m : Nat) (f : List Nat) : Nat := (roots m f).length
theorem cnt_range (m : Nat) : cnt m (List.range m) = m := by
 unfold cnt roots
 rw [List.filter_eq_self.mpr]
 ·simp
 ·intro u hu
  rw [getD_range (by simpa using hu)]; simp
theorem step_same {m : Nat} {f : List Nat} (h : Ok m f) {l : Nat × Nat} (e : gt f l.1 = gt f l.2) : step f l = f := by
 unfold step mrg
 rw [e]
 have : (fun z => if z = gt f l.2 \/ z = gt f l.2 then min (gt f l.2) (gt f l.2) else z) = id := by
  funext z
  simp only [or_self, Nat.min_self, id]
  split
  ·rename_i h; exact h.symm
  ·rfl
 rw [this, List.map_id]
theorem filter_but {m y : Nat} (p : Nat -> Bool) (hy : y < m) (py : p y = true) : ((List.range m).filter fun u => p u && decide (u ≠ y)).length + 1 = ((List.range m).filter p).length := by
 induction m with
 | zero => cases hy
 | succ m ih =>
  rw [List.range_succ, List.filter_append, List.filter_append, List.length_append, List.length_append]
  by_cases e : y = m
  ·subst e
   have : ((List.range y).filter fun u => p u && decide (u ≠ y)) = (List.range y).filter p := by
    apply List.filter_congr
    intro u hu
    have : u < y := by simpa using hu
    simp [Nat.ne_of_lt this]
   rw [this]
   simp [py]
  ·have := ih (by omega)
   have h2 : (List.filter (fun u => p u && decide (u ≠ y)) [m]) = List.filter p [m] := by
    apply List.filter_congr
    intro u hu
    have : u = m := by simpa using hu
    subst this
    simp [Ne.symm e]
   rw [h2]
   omega
theorem cnt_step {m : Nat} {f : List Nat} (h : Ok m f) {l : Nat × Nat} (h1 : l.1 < m) (h2 : l.2 < m) (ne : gt f l.1 ≠ gt f l.2) : cnt m (step f l) + 1 = cnt m f := by
 have r1 := h.rt _ h1
 have r2 := h.rt _ h2
 have l1 := h.lt h1
 have l2 := h.lt h2
 unfold step cnt roots
 generalize hx : gt f l.1 = x at *
 generalize hy : gt f l.2 = y at *
 have hM : max x y < m := by omega
 have rM : gt f (max x y) = max x y := by
  rcases Nat.le_total x y with z | z
  ·rw [Nat.max_eq_right z]; exact r2
  ·rw [Nat.max_eq_left z]; exact r1
 rw [<- filter_but (fun u => decide (gt f u = u)) hM (by simpa using rM)]
 congr 1
 congr 1
 apply List.filter_congr
 intro u hu
 have hu' : u < m := by simpa using hu
 rw [mrg_get h x y hu', <- Bool.decide_and]
 congr 1
 apply propext
 have le := h.le u hu'
 have rt := h.rt u hu'
 split
 ·rename_i hc
  constructor
  ·intro e
   rcases Nat.le_total x y with z | z
   ·rw [Nat.min_eq_left z] at e; subst e; exact ⟨r1, by omega⟩
   ·rw [Nat.min_eq_right z] at e; subst e; exact ⟨r2, by omega⟩
  ·rintro ⟨e, n⟩
   rw [e] at hc
   omega
 ·rename_i hc
  constructor
  ·intro e
   refine ⟨e, fun z => ?_⟩
   rw [e] at hc
   omega
  ·exact fun z => z.1
structure Ker (m : Nat) (f g : List Nat) : Prop where
 len : g.length = m
 iff : ∀ u v, u < m -> v < m -> (gt f u = gt f v ↔ gt g u = gt g v)
theorem ker_range (m : Nat) : Ker m (List.range m) (List.range m) := ⟨by simp, fun _ _ _ _ => Iff.rfl⟩
theorem ker_step {m : Nat} {f g : List Nat} (h : Ok m f) (k : Ker m f g) {l : Nat × Nat} (h1 : l.1 < m) (h2 : l.2 < m) : Ker m (step f l) (lstep g l) := by
 refine ⟨by simp [lstep, k.len], fun u v hu hv => ?_⟩
 unfold step lstep
 rw [mrg_get h _ _ hu, mrg_get h _ _ hv, gt_map _ g u (by rw [k.len]; exact hu), gt_map _ g v (by rw [k.len]; exact hv)]
 have a1 := k.iff u l.1 hu h1
 have a2 := k.iff u l.2 hu h2
 have b1 := k.iff v l.1 hv h1
 have b2 := k.iff v l.2 hv h2
 have c := k.iff u v hu hv
 have d := k.iff l.1 l.2 h1 h2
 generalize gt f u = fu at *
 generalize gt f v = fv at *
 generalize gt f l.1 = x at *
 generalize gt f l.2 = y at *
 generalize gt g u = gu at *
 generalize gt g v = gv at *
 generalize gt g l.1 = p at *
 generalize gt g l.2 = q at *
 have hM : min x y = x \/ min x y = y := by omega
 generalize min x y = M at *
 by_cases e2 : fu = y
 ·rw [if_pos (Or.inr e2), if_pos (a2.mp e2)]
  by_cases e4 : fv = y
  ·rw [if_pos (Or.inr e4), if_pos (b2.mp e4)]; simp
  ·rw [if_neg (fun z => e4 (b2.mpr z))]
   by_cases e3 : fv = x
   ·rw [if_pos (Or.inl e3)]; exact iff_of_true rfl (b1.mp e3).symm
   ·rw [if_neg (by rintro (z | z); exact e3 z; exact e4 z)]; exact iff_of_false (by omega) (fun z => e3 (b1.mpr z.symm))
 ·rw [if_neg (fun z => e2 (a2.mpr z))]
  by_cases e4 : fv = y
  ·rw [if_pos (Or.inr e4), if_pos (b2.mp e4)]
   by_cases e1 : fu = x
   ·rw [if_pos (Or.inl e1)]; exact iff_of_true rfl (a1.mp e1)
   ·rw [if_neg (by rintro (z | z); exact e1 z; exact e2 z)]; exact iff_of_false (by omega) (fun z => e1 (a1.mpr z))
  ·rw [if_neg (fun z => e4 (b2.mpr z))]
   by_cases e1 : fu = x <;> by_cases e3 : fv = x
   ·rw [if_pos (Or.inl e1), if_pos (Or.inl e3)]; exact iff_of_true rfl (c.mp (e1.trans e3.symm))
   ·rw [if_pos (Or.inl e1), if_neg (by rintro (z | z); exact e3 z; exact e4 z)]; exact iff_of_false (by omega) (fun z => e3 ((c.mpr z).symm.trans e1))
   ·rw [if_neg (by rintro (z | z); exact e1 z; exact e2 z), if_pos (Or.inl e3)]; exact iff_of_false (by omega) (fun z => e1 ((c.mpr z).trans e3))
   ·rw [if_neg (by rintro (z | z); exact e1 z; exact e2 z), if_neg (by rintro (z | z); exact e3 z; exact e4 z)]; exact c
noncomputable def cls (m : Nat) (f : List Nat) (v : Nat) : List Nat := (List.range m).filter fun u => decide (gt f u = gt f v)
theorem cls_ker {m : Nat} {f g : List Nat} (k : Ker m f g) {v : Nat} (hv : v < m) : cls m g v = cls m f v := by
 apply List.filter_congr
 intro u hu
 have hu' : u < m := by simpa using hu
 congr 1
 exact propext (k.iff u v hu' hv).symm
theorem cls_found {m : Nat} {f : List Nat} (h : Ok m f) : ∀ n, n <= m -> (List.range n).foldl (fun fd v => if cls m f v ∈ fd then fd else fd ++ [cls m f v]) [] = ((List.range n).filter fun u => decide (gt f u = u)).map (cls m f) := by
 intro n
 induction n with
 | zero => intro _; rfl
 | succ n ih =>
  intro hn
  have hn' : n < m := by omega
  rw [List.range_succ, List.foldl_append, ih (by omega), List.filter_append, List.map_append]
  show (if _ then _ else _) = _
  by_cases e : gt f n = n
  ·rw [if_neg]
   ·congr 1
    simp [e]
   ·intro hm
    obtain ⟨r, hr, er⟩ := List.mem_map.mp hm
    obtain ⟨hr1, hr2⟩ := List.mem_filter.mp hr
    have hr1' : r < n := by simpa using hr1
    have hr2' : gt f r = r := by simpa using hr2
    have : n ∈ cls m f n := List.mem_filter.mpr ⟨by simpa using hn', by simp⟩
    rw [<- er] at this
    have := (List.mem_filter.mp this).2
    have : gt f n = gt f r := by simpa using this
    omega
  ·rw [if_pos]
   ·have : List.filter (fun u => decide (gt f u = u)) [n] = [] := by simp [e]
    rw [this]; simp
   ·refine List.mem_map.mpr ⟨gt f n, List.mem_filter.mpr ⟨?_, ?_⟩, ?_⟩
    ·have := h.le n hn'
     simp; omega
    ·simpa using h.rt n hn'
    ·unfold cls
     rw [h.rt n hn']
noncomputable def run (m : Nat) (ls : List (Nat × Nat)) : List Nat := ls.foldl step (List.range m)
noncomputable def lrun (m : Nat) (ls : List (Nat × Nat)) : List Nat := ls.foldl lstep (List.range m)
noncomputable def In (m : Nat) (ls : List (Nat × Nat)) : Prop := ∀ l ∈ ls, l.1 < m /\ l.2 < m
theorem run_all {m : Nat} : ∀ (ls : List (Nat × Nat)) (f g : List Nat), In m ls -> Ok m f -> Ker m f g -> Ok m (ls.foldl step f) /\ Ker m (ls.foldl step f) (ls.foldl lstep g)
 | [], f, g, _, h, k => ⟨h, k⟩
 | l :: r, f, g, i, h, k => by
  obtain ⟨h1, h2⟩ := i l List.mem_cons_self
  exact run_all r _ _ (fun x hx => i x (List.mem_cons_of_mem _ hx)) (ok_step h h1 h2) (ker_step h k h1 h2)
theorem run_ok {m : Nat} {ls : List (Nat × Nat)} (i : In m ls) : Ok m (run m ls) := (run_all ls _ _ i (ok_range m) (ker_range m)).1
theorem run_ker {m : Nat} {ls : List (Nat × Nat)} (i : In m ls) : Ker m (run m ls) (lrun m ls) := (run_all ls _ _ i (ok_range m) (ker_range m)).2
noncomputable def groups (m : Nat) (ls : List (Nat × Nat)) : List (List Nat) := (roots m (run m ls)).map (cls m (run m ls))
theorem groups_len (m : Nat) (ls : List (Nat × Nat)) : (groups m ls).length = cnt m (run m ls) := by simp [groups, cnt]
theorem law_groups {m : Nat} {ls : List (Nat × Nat)} (i : In m ls) : (List.range m).foldl (fun fd v => if cls m (lrun m ls) v ∈ fd then fd else fd ++ [cls m (lrun m ls) v]) [] = groups m ls := by
 have k := run_ker i
 have : ∀ (l : List Nat) (fd : List (List Nat)), (∀ v ∈ l, v < m) -> l.foldl (fun fd v => if cls m (lrun m ls) v ∈ fd then fd else fd ++ [cls m (lrun m ls) v]) fd = l.foldl (fun fd v => if cls m (run m ls) v ∈ fd then fd else fd ++ [cls m (run m ls) v]) fd := by
  intro l
  induction l with
  | nil => intro _ _; rfl
  | cons v r ih =>
   intro fd hl
   rw [List.foldl_cons, List.foldl_cons, cls_ker k (hl v List.mem_cons_self)]
   exact ih _ fun x hx => hl x (List.mem_cons_of_mem _ hx)
 rw [this _ _ fun v hv => by simpa using hv, cls_found (run_ok i) m (Nat.le_refl _)]
 rfl
noncomputable def acyc (f : List Nat) : List (Nat × Nat) -> Bool
 | [] => true
 | l :: r => decide (gt f l.1 ≠ gt f l.2) && acyc (step f l) r
theorem cnt_run {m : Nat} : ∀ (ls : List (Nat × Nat)) (f : List Nat), In m ls -> Ok m f -> cnt m (ls.foldl step f) + ls.length ≥ cnt m f /\ (acyc f ls = true ↔ cnt m (ls.foldl step f) + ls.length = cnt m f)
 | [], f, _, _ => ⟨Nat.le_refl _, by simp [acyc]⟩
 | l :: r, f, i, h => by
  obtain ⟨h1, h2⟩ := i l List.mem_cons_self
  have i' : In m r := fun x hx => i x (List.mem_cons_of_mem _ hx)
  obtain ⟨a, b⟩ := cnt_run r (step f l) i' (ok_step h h1 h2)
  rw [List.foldl_cons, List.length_cons]
  by_cases e : gt f l.1 = gt f l.2
  ·rw [step_same h e] at a b ⊢
   refine ⟨by omega, ?_⟩
   constructor
   ·intro z; simp only [acyc, Bool.and_eq_true, decide_eq_true_eq] at z; exact absurd e z.1
   ·intro z; omega
  ·have c := cnt_step h h1 h2 e
   refine ⟨by omega, ?_⟩
   simp only [acyc, Bool.and_eq_true, decide_eq_true_eq]
   constructor
   ·intro z; have := b.mp z.2; omega
   ·intro z; exact ⟨e, b.mpr (by omega)⟩
end UF
end
section
namespace UF
noncomputable def CB (n : Nat) : Nat -> Nat -> List (List Nat)
 | 0, _ => [[]]
 | k + 1, s => (List.range' s (n - s)).flatMap fun i => (CB n k (i + 1)).map (i :: ·)
noncomputable def ends (ls : List (Nat × Nat)) (c : List Nat) : List (Nat × Nat) := c.map fun i => ls.getD i (0, 0)
theorem acyc_append (l : Nat × Nat) : ∀ (a : List (Nat × Nat)) (f : List Nat), acyc f (a ++ [l]) = (acyc f a && decide (gt (a.foldl step f) l.1 ≠ gt (a.foldl step f) l.2))
 | [], f => by
  show (decide _ && true) = (true && decide _)
  rw [Bool.and_true, Bool.true_and]
  rfl
 | x :: r, f => by
  rw [List.cons_append]
  show (_ && _) = ((_ && _) && _)
  rw [acyc_append l r (step f x), Bool.and_assoc]
  rfl
theorem ends_in {m : Nat} {ls : List (Nat × Nat)} (hi : In m ls) {c : List Nat} (hc : ∀ i ∈ c, i < ls.length) : In m (ends ls c) := by
 intro l hl
 obtain ⟨i, h1, rfl⟩ := List.mem_map.mp hl
 refine hi _ ?_
 have := hc i h1
 rw [List.getD_eq_getElem?_getD, List.getElem?_eq_getElem this]
 exact List.getElem_mem this
end UF
end
section
namespace TW
open PySem
@[simp] theorem ev_var (p : Nat -> List D -> Option D) {i} (r : En) : ev p (.var i) r = vt (match r[i]? with
  | some (some (.val d)) => some (.fz, d)
  | some (some (.own ds)) => some (.bo, .lst ds)
  | some (some (.ownd ks ds)) => some (.bo, .dct ks ds)
  | _ => none) := rfl
@[simp] theorem ev_cst (p : Nat -> List D -> Option D) {d} (r : En) : ev p (.cst d) r = vt (some (.fz, d)) := rfl
@[simp] theorem ev_neg (p : Nat -> List D -> Option D) {a} (r : En) : ev p (.neg a) r = vt ((ev p a r).1.bind fun x => match x.2 with | .int i => some (.fz, .int (-i)) | _ => none) := rfl
@[simp] theorem ev_nt (p : Nat -> List D -> Option D) {a} (r : En) : ev p (.nt a) r = ((ev p a r).1.bind fun x => match x.2 with | .bl b => some (.fz, .bl (!b)) | _ => none, (ev p a r).2.map fun k => !k) := rfl
@[simp] theorem ev_bin (p : Nat -> List D -> Option D) {op a b} (r : En) : ev p (.bin op a b) r = vt ((ev p a r).1.bind fun x => (ev p b r).1.bind fun y => opD op x.2 y.2) := rfl
@[simp] theorem ev_cmp (p : Nat -> List D -> Option D) {op a b} (r : En) : ev p (.cmp op a b) r = vt ((ev p a r).1.bind fun x => (ev p b r).1.bind fun y => (cmpD op x.2 y.2).map fun b => (.fz, .bl b)) := rfl
@[simp] theorem ev_cmp2 (p : Nat -> List D -> Option D) {op oq a b c} (r : En) : ev p (.cmp2 op oq a b c) r = vt ((ev p a r).1.bind fun x => (ev p b r).1.bind fun y => (cmpD op x.2 y.2).bind fun k =>
   if k then (ev p c r).1.bind fun z => (cmpD oq y.2 z.2).map fun b => (.fz, .bl b) else some (.fz, .bl false)) := rfl
@[simp] theorem ev_an (p : Nat -> List D -> Option D) {a b} (r : En) : ev p (.an a b) r = ((ev p a r).1.bind fun x => match x.2 with | .bl true => (ev p b r).1 | .bl false => some (.fz, .bl false) | _ => none,
   (ev p a r).2.bind fun k => if k then (ev p b r).2 else some false) := rfl
@[simp] theorem ev_orr (p : Nat -> List D -> Option D) {a b} (r : En) : ev p (.orr a b) r = ((ev p a r).1.bind fun x => match x.2 with | .bl true => some (.fz, .bl true) | .bl false => (ev p b r).1 | _ => none,
   (ev p a r).2.bind fun k => if k then some true else (ev p b r).2) := rfl
@[simp] theorem ev_ife (p : Nat -> List D -> Option D) {c a b} (r : En) : ev p (.ife c a b) r = vt ((ev p c r).2.bind fun k => if k then (ev p a r).1 else (ev p b r).1) := rfl
@[simp] theorem ev_tp (p : Nat -> List D -> Option D) {l} (r : En) : ev p (.tp l) r = vt ((evA p l r).bind fun ds => if ds.length <= lim then some (.fz, .tup ds) else none) := rfl
@[simp] theorem ev_ls (p : Nat -> List D -> Option D) {l} (r : En) : ev p (.ls l) r = vt ((evA p l r).bind fun ds => if ds.length <= lim then some (.fr, .lst ds) else none) := rfl
@[simp] theorem ev_ix (p : Nat -> List D -> Option D) {a b} (r : En) : ev p (.ix a b) r = vt ((ev p a r).1.bind fun x => (ev p b r).1.bind fun y => match y.2 with
  | .int i => (match x.2 with
   | .dct ks ds => (atK ks ds i).map fun d => (.fz, d)
   | z => (seqOf z).bind fun ds => (atI ds i).map fun d => (.fz, d))
  | _ => none) := rfl
@[simp] theorem ev_sl (p : Nat -> List D -> Option D) {a lo hi} (r : En) : ev p (.sl a lo hi) r = vt ((ev p a r).1.bind fun x => (evO p lo r).1.bind fun l => (evO p hi r).1.bind fun h => match x.2 with
  | .tup ds => some (.fz, .tup (cut ds l h))
  | .lst ds => some (.fr, .lst (cut ds l h))
  | _ => none) := rfl
@[simp] theorem ev_rev (p : Nat -> List D -> Option D) {a} (r : En) : ev p (.rev a) r = vt ((ev p a r).1.bind fun x => match x.2 with
  | .tup ds => some (.fz, .tup ds.reverse)
  | .lst ds => some (.fr, .lst ds.reverse)
  | _ => none) := rfl
theorem ev_comp (p : Nat -> List D -> Option D) {cap tg it cd e} (r : En) : ev p (.comp cap tg it cd e) r = vt ((evI p it r).bind fun ds => if ds.2.length <= lim /\ freeT cap tg = true then
   (compGo (fun d => (bindT tg d (capt r cap)).bind fun q => (evO p cd q).2.bind fun k => if k then ((ev p e q).1.bind frz).map some else some none) ds.2).map fun l => (.fr, .lst l)
  else none) := rfl
@[simp] theorem ev_call (p : Nat -> List D -> Option D) {f l} (r : En) : ev p (.call f l) r = vt ((evA p l r).bind fun ds => (p f ds).map fun d => (.fz, d)) := rfl
@[simp] theorem ev_b1 (p : Nat -> List D -> Option D) {f a} (r : En) : ev p (.b1 f a) r = vt ((ev p a r).1.bind fun x => b1D f x.2) := rfl
@[simp] theorem ev_b2 (p : Nat -> List D -> Option D) {f a b} (r : En) : ev p (.b2 f a b) r = vt ((ev p a r).1.bind fun x => (ev p b r).1.bind fun y => b2D f x.2 y.2) := rfl
@[simp] theorem ev_lm (p : Nat -> List D -> Option D) {f a b} (r : En) : ev p (.lm f a b) r = vt ((ev p a r).1.bind fun x => (ev p b r).1.bind fun y => lmD f x.2 y.2) := rfl
@[simp] theorem ev_isi (p : Nat -> List D -> Option D) {a t} (r : En) : ev p (.isi a t) r = vt ((ev p a r).1.bind fun x => isiD t x.2) := rfl
@[simp] theorem ev_rngl (p : Nat -> List D -> Option D) {a} (r : En) : ev p (.rngl a) r = vt ((ev p a r).1.bind fun x => match x.2 with
  | .int i => if rngOk i && decide (i.natAbs <= lim) then some (.fr, .lst (rngD 0 i.toNat)) else none
  | _ => none) := rfl
@[simp] theorem ev_rngt (p : Nat -> List D -> Option D) {a} (r : En) : ev p (.rngt a) r = vt ((ev p a r).1.bind fun x => match x.2 with
  | .int i => if rngOk i && decide (i.natAbs <= lim) then some (.fz, .tup (rngD 0 i.toNat)) else none
  | _ => none) := rfl
@[simp] theorem ev_slen (p : Nat -> List D -> Option D) {a} (r : En) : ev p (.slen a) r = vt ((ev p a r).1.bind fun x => match x.2 with
  | .tup ds => (intsOf ds).bind fun l => if l.length <= 1000 then some (.fz, .int (ddp l).length) else none
  | _ => none) := rfl
@[simp] theorem ev_join (p : Nat -> List D -> Option D) {sep a} (r : En) : ev p (.join sep a) r = vt ((ev p a r).1.bind fun x => match x.2 with
  | .lst ds => (strsOf ds).bind fun l => if jlen sep l <= lim then some (.fz, .str (joinS sep l)) else none
  | _ => none) := rfl
@[simp] theorem evA_nil (p : Nat -> List D -> Option D) (r : En) : evA p .nil r = some [] := rfl
@[simp] theorem evA_cons (p : Nat -> List D -> Option D) {a l} (r : En) : evA p (.cons a l) r = ((ev p a r).1.bind frz).bind fun d => (evA p l r).map fun q => d :: q := rfl
@[simp] theorem evO_no (p : Nat -> List D -> Option D) (r : En) : evO p .no r = (some none, some true) := rfl
@[simp] theorem evO_so (p : Nat -> List D -> Option D) {a} (r : En) : evO p (.so a) r = ((ev p a r).1.bind fun x => match x.2 with | .int i => some (some i) | _ => none, (ev p a r).2) := rfl
@[simp] theorem evI_sq (p : Nat -> List D -> Option D) {a} (r : En) : evI p (.sq a) r = (ev p a r).1.bind fun x => (seqOf x.2).map fun u => (nfr x.1, u) := rfl
@[simp] theorem evI_r1 (p : Nat -> List D -> Option D) {a} (r : En) : evI p (.r1 a) r = (ev p a r).1.bind fun x => match x.2 with | .int i => if rngOk i then some (.fz, rngD 0 i.toNat) else none | _ => none := rfl
@[simp] theorem evI_r2 (p : Nat -> List D -> Option D) {a b} (r : En) : evI p (.r2 a b) r = (ev p a r).1.bind fun x => (ev p b r).1.bind fun y => match x.2, y.2 with
  | .int i, .int j => if rngOk i && rngOk j then some (.fz, rngD i (j - i).toNat) else none
  | _, _ => none := rfl
@[simp] theorem evI_zp (p : Nat -> List D -> Option D) {a b} (r : En) : evI p (.zp a b) r = (ev p a r).1.bind fun x => (ev p b r).1.bind fun y => match x.2, y.2 with | .tup u, .tup v => some (.fz, zipD u v) | _, _ => none := rfl
@[simp] theorem evI_en (p : Nat -> List D -> Option D) {a} (r : En) : evI p (.en a) r = (ev p a r).1.bind fun x => match x.2 with | .tup u => some (.fz, zipD (rngD 0 u.length) u) | _ => none := rfl
@[simp] theorem evS_asg (p : Nat -> List D -> Option D) {o i c} (r : En) : evS p (.asg o i c) r = (ev p c r).1.bind fun x => match o, x with
  | true, (.fr, .lst ds) => some (.nx (r.set i (some (.own ds))))
  | _, x => (frz x).map fun d => .nx (r.set i (some (.val d))) := rfl
@[simp] theorem evS_asgT (p : Nat -> List D -> Option D) {l c} (r : En) : evS p (.asgT l c) r = ((ev p c r).1.bind frz).bind fun d => (bindT (.many l) d r).map Fl.nx := rfl
@[simp] theorem evS_app (p : Nat -> List D -> Option D) {i c} (r : En) : evS p (.app i c) r = ((ev p c r).1.bind frz).bind fun d => match r[i]? with
  | some (some (.own ds)) => if ds.length < lim then some (.nx (r.set i (some (.own (ds ++ [d]))))) else none
  | _ => none := rfl
@[simp] theorem evS_ext (p : Nat -> List D -> Option D) {i c} (r : En) : evS p (.ext i c) r = (ev p c r).1.bind fun x => match x.2, r[i]? with
  | .lst es, some (some (.own ds)) => if ds.length + es.length <= lim then some (.nx (r.set i (some (.own (ds ++ es))))) else none
  | _, _ => none := rfl
@[simp] theorem evS_give (p : Nat -> List D -> Option D) {i} (r : En) : evS p (.give i) r = match r[i]? with
  | some (some (.own ds)) => some (.nx (r.set i (some (.val (.lst ds)))))
  | some (some (.ownd ks ds)) => some (.nx (r.set i (some (.val (.dct ks ds)))))
  | _ => none := rfl
@[simp] theorem evS_dnew (p : Nat -> List D -> Option D) {i k v} (r : En) : evS p (.dnew i k v) r = (ev p k r).1.bind fun x => ((ev p v r).1.bind frz).bind fun d => match x.2 with
  | .int a => some (.nx (r.set i (some (.ownd [a] [d]))))
  | _ => none := rfl
@[simp] theorem evS_dset (p : Nat -> List D -> Option D) {i k v} (r : En) : evS p (.dset i k v) r = (ev p k r).1.bind fun x => ((ev p v r).1.bind frz).bind fun d => match x.2, r[i]? with
  | .int a, some (some (.ownd ks ds)) => if ks.length < lim /\ a ∉ ks then some (.nx (r.set i (some (.ownd (ks ++ [a]) (ds ++ [d]))))) else none
  | _, _ => none := rfl
@[simp] theorem evI_ky (p : Nat -> List D -> Option D) {a} (r : En) : evI p (.ky a) r = (ev p a r).1.bind fun x => match x with | (.fz, .dct ks _) => some (.fz, ks.map D.int) | _ => none := rfl
@[simp] theorem evS_ifs (p : Nat -> List D -> Option D) {c a b} (r : En) : evS p (.ifs c a b) r = (ev p c r).2.bind fun k => if k then evSS p a r else evSS p b r := rfl
theorem evS_fr (p : Nat -> List D -> Option D) {tg it b} (r : En) : evS p (.fr tg it b) r = (evI p it r).bind fun ds => match ds.1 with
  | .bo => none
  | _ => loopF tg (fun q => evSS p b q) ds.2 r := rfl
@[simp] theorem evS_wh (p : Nat -> List D -> Option D) {c b} (r : En) : evS p (.wh c b) r = loopW (fun q => (ev p c q).2) (fun q => evSS p b q) fuel r := rfl
@[simp] theorem evS_ret (p : Nat -> List D -> Option D) {c} (r : En) : evS p (.ret c) r = ((ev p c r).1.bind frz).map Fl.rt := rfl
@[simp] theorem evS_pas (p : Nat -> List D -> Option D) (r : En) : evS p .pas r = some (.nx r) := rfl
@[simp] theorem evS_nev (p : Nat -> List D -> Option D) (r : En) : evS p .nev r = none := rfl
@[simp] theorem evSS_nil (p : Nat -> List D -> Option D) (r : En) : evSS p .nil r = some (.nx r) := rfl
@[simp] theorem evSS_cons (p : Nat -> List D -> Option D) {s l} (r : En) : evSS p (.cons s l) r = (evS p s r).bind fun o => match o with
  | .nx q => evSS p l q
  | x => some x := rfl
@[simp] theorem vt_1 (v : Option (Kd × D)) : (vt v).1 = v := rfl
@[simp] theorem vt_2 (v : Option (Kd × D)) : (vt v).2 = v.bind fun x => truD x.2 := rfl
@[simp] theorem frz_fz (d : D) : frz (.fz, d) = some d := rfl
@[simp] theorem frz_fr (d : D) : frz (.fr, d) = some d := rfl
@[simp] theorem left_rt (d : D) : left (some (.rt d)) = some d := rfl
@[simp] theorem block_nil : block [] = .nil := rfl
@[simp] theorem block_cons (s : S) (l : List S) : block (s :: l) = .cons s (block l) := rfl
@[simp] theorem slice_nil : slice [] = .nil := rfl
@[simp] theorem slice_cons (s : C) (l : List C) : slice (s :: l) = .cons s (slice l) := rfl
@[simp] theorem capt_nil (r : En) : capt r [] = [] := rfl
@[simp] theorem capt_none (r : En) (l : List (Option Nat)) : capt r (none :: l) = none :: capt r l := rfl
@[simp] theorem capt_some (r : En) (i : Nat) (l : List (Option Nat)) : capt r (some i :: l) = (r[i]?).join :: capt r l := rfl
@[simp] theorem freeT_one (cap : List (Option Nat)) (i : Nat) : freeT cap (.one i) = free1 cap i := rfl
@[simp] theorem freeT_many (cap : List (Option Nat)) (l : List Nat) : freeT cap (.many l) = l.all (free1 cap) := rfl
@[simp] theorem bindT_one (i : Nat) (d : D) (r : En) : bindT (.one i) d r = some (r.set i (some (.val d))) := rfl
@[simp] theorem bindT_many (l : List Nat) (ds : List D) (r : En) : bindT (.many l) (.tup ds) r = setAll l ds r := rfl
@[simp] theorem setAll_nil (r : En) : setAll [] [] r = some r := rfl
@[simp] theorem setAll_cons (i : Nat) (l : List Nat) (d : D) (ds : List D) (r : En) : setAll (i :: l) (d :: ds) r = setAll l ds (r.set i (some (.val d))) := rfl
@[simp] theorem nfr_fz : nfr .fz = .fz := rfl
@[simp] theorem nfr_fr : nfr .fr = .fz := rfl
@[simp] theorem nfr_bo : nfr .bo = .bo := rfl
@[simp] theorem lim_eq : lim = 65536 := rfl
noncomputable abbrev dn (n : Nat) : D := .int (n : Int)
@[simp] theorem opD_add_i (a b : Int) : opD .Add (.int a) (.int b) = some (.fz, .int (a + b)) := rfl
@[simp] theorem opD_sub_i (a b : Int) : opD .Sub (.int a) (.int b) = some (.fz, .int (a - b)) := rfl
theorem opD_mul_l {a b : Int} (h1 : -18446744073709551616 < a) (h2 : a < 18446744073709551616) : opD .Mult (.int a) (.int b) = some (.fz, .int (a * b)) := if_pos (.inl (by omega))
theorem opD_mul_r {a b : Int} (h1 : -18446744073709551616 < b) (h2 : b < 18446744073709551616) : opD .Mult (.int a) (.int b) = some (.fz, .int (a * b)) := if_pos (.inr (by omega))
theorem opD_div {a b : Int} (h1 : 0 < b) (h2 : b < 1073741824) : opD .FloorDiv (.int a) (.int b) = some (.fz, .int (a / b)) := if_pos ⟨h1, by omega⟩
theorem opD_mod {a b : Int} (h1 : 0 < b) : opD .Mod (.int a) (.int b) = some (.fz, .int (a % b)) := if_pos h1
theorem opD_add_t {a b : List D} (h : a.length + b.length <= 65536) : opD .Add (.tup a) (.tup b) = some (.fz, .tup (a ++ b)) := if_pos h
theorem opD_add_l {a b : List D} (h : a.length + b.length <= 65536) : opD .Add (.lst a) (.lst b) = some (.fr, .lst (a ++ b)) := if_pos h
@[simp] theorem cmp_lt (a b : Int) : cmpD .Lt (.int a) (.int b) = some (decide (a < b)) := rfl
@[simp] theorem cmp_le (a b : Int) : cmpD .LtE (.int a) (.int b) = some (decide (a <= b)) := rfl
@[simp] theorem cmp_gt (a b : Int) : cmpD .Gt (.int a) (.int b) = some (decide (b < a)) := rfl
@[simp] theorem cmp_ge (a b : Int) : cmpD .GtE (.int a) (.int b) = some (decide (b <= a)) := rfl
@[simp] theorem cmp_eq (a b : Int) : cmpD .Eq (.int a) (.int b) = some (decide (a = b)) := by
 show some (a == b) = _
 congr 1
@[simp] theorem cmp_ne (a b : Int) : cmpD .NotEq (.int a) (.int b) = some (!decide (a = b)) := by
 show some (!(a == b)) = _
 congr 1
@[simp] theorem b1_len_t (ds : List D) : b1D .len (.tup ds) = some (.fz, .int ds.length) := rfl
@[simp] theorem b1_len_l (ds : List D) : b1D .len (.lst ds) = some (.fz, .int ds.length) := rfl
@[simp] theorem b1_tuple_l (ds : List D) : b1D .tuple (.lst ds) = some (.fz, .tup ds) := rfl
@[simp] theorem b1_tuple_t (ds : List D) : b1D .tuple (.tup ds) = some (.fz, .tup ds) := rfl
@[simp] theorem b1_list_l (ds : List D) : b1D .list (.lst ds) = some (.fr, .lst ds) := rfl
@[simp] theorem b1_list_t (ds : List D) : b1D .list (.tup ds) = some (.fr, .lst ds) := rfl
@[simp] theorem b1_int_b (b : Bool) : b1D .int (.bl b) = some (.fz, .int (if b then 1 else 0)) := rfl
@[simp] theorem b2_min (a b : Int) : b2D .min (.int a) (.int b) = some (.fz, .int (if b < a then b else a)) := rfl
@[simp] theorem b2_max (a b : Int) : b2D .max (.int a) (.int b) = some (.fz, .int (if b > a then b else a)) := rfl
@[simp] theorem seq_t (ds : List D) : seqOf (.tup ds) = some ds := rfl
@[simp] theorem seq_l (ds : List D) : seqOf (.lst ds) = some ds := rfl
@[simp] theorem tru_b (b : Bool) : truD (.bl b) = some b := rfl
@[simp] theorem tru_t (ds : List D) : truD (.tup ds) = some (!ds.isEmpty) := rfl
@[simp] theorem isi_int_i (i : Int) : isiD .int (.int i) = some (.fz, .bl true) := rfl
@[simp] theorem isi_bool_i (i : Int) : isiD .bool (.int i) = some (.fz, .bl false) := rfl
@[simp] theorem isi_tuple_t (ds : List D) : isiD .tuple (.tup ds) = some (.fz, .bl true) := rfl
theorem atI_nat {α : Type} (xs : List α) (n : Nat) : atI xs (n : Int) = xs[n]? := by
 unfold atI ixN
 rw [if_pos (Int.natCast_nonneg n)]
 by_cases h : (n : Int) < (xs.length : Int)
 ·rw [if_pos h]; simp
 ·rw [if_neg h]
  have : xs.length <= n := by omega
  simp [List.getElem?_eq_none this]
@[simp] theorem atI_lit {α : Type} (xs : List α) (n : Nat) [OfNat Int n] (h : (OfNat.ofNat n : Int) = (n : Int)) : atI xs (OfNat.ofNat n : Int) = xs[n]? := by rw [h, atI_nat]
@[simp] theorem atI_0 {α : Type} (xs : List α) : atI xs 0 = xs[0]? := atI_nat xs 0
@[simp] theorem atI_1 {α : Type} (xs : List α) : atI xs 1 = xs[1]? := atI_nat xs 1
@[simp] theorem atI_2 {α : Type} (xs : List α) : atI xs 2 = xs[2]? := atI_nat xs 2
theorem compGo_emb {β : Type} {f : D -> Option (Option D)} {em : β -> D} {g : β -> Option D} : ∀ {xs : List β}, (∀ x ∈ xs, f (em x) = some (g x)) -> compGo f (xs.map em) = some (xs.filterMap g)
 | [], _ => rfl
 | d :: r, h => by
  rw [List.map_cons]
  unfold compGo
  rw [h d List.mem_cons_self, compGo_emb fun x hx => h x (List.mem_cons_of_mem _ hx)]
  cases e : g d with
  | none => rw [List.filterMap_cons_none e]; rfl
  | some y => rw [List.filterMap_cons_some e]; rfl
theorem loopF_fold {tg : Tg} {f : En -> Option Fl} {α β : Type} {em : β -> D} (R : α -> En -> Prop) (st : α -> β -> α) : ∀ (xs : List β) (s : α) (r : En), (∀ s b r, b ∈ xs -> R s r -> ∃ q r', bindT tg (em b) r = some q /\ f q = some (.nx r') /\ R (st s b) r') -> R s r ->
  ∃ r', loopF tg f (xs.map em) r = some (.nx r') /\ R (xs.foldl st s) r'
 | [], s, r, _, h => ⟨r, rfl, h⟩
 | b :: xs, s, r, hs, h => by
  obtain ⟨q, r', e1, e2, h'⟩ := hs s b r List.mem_cons_self h
  obtain ⟨r2, e3, h2⟩ := loopF_fold R st xs (st s b) r' (fun s b r hb => hs s b r (List.mem_cons_of_mem _ hb)) h'
  refine ⟨r2, ?_, h2⟩
  rw [List.map_cons]
  unfold loopF
  rw [e1]
  show ((f q).bind _) = _
  rw [e2]
  exact e3
theorem loopF_foldi {tg : Tg} {f : En -> Option Fl} {α β : Type} {em : β -> D} (R : Nat -> α -> En -> Prop) (st : α -> β -> α) : ∀ (xs : List β) (n : Nat) (s : α) (r : En), (∀ i s b r, xs[i]? = some b -> R (n + i) s r -> ∃ q r', bindT tg (em b) r = some q /\ f q = some (.nx r') /\ R (n + i + 1) (st s b) r') -> R n s r ->
  ∃ r', loopF tg f (xs.map em) r = some (.nx r') /\ R (n + xs.length) (xs.foldl st s) r'
 | [], n, s, r, _, h => ⟨r, rfl, h⟩
 | b :: xs, n, s, r, hs, h => by
  obtain ⟨q, r', e1, e2, h'⟩ := hs 0 s b r rfl h
  obtain ⟨r2, e3, h2⟩ := loopF_foldi R st xs (n + 1) (st s b) r' (fun i s b r hb hr => by
   have e : n + 1 + i = n + (i + 1) := by omega
   rw [e] at hr ⊢
   exact hs (i + 1) s b r hb hr) h'
  refine ⟨r2, ?_, ?_⟩
  ·rw [List.map_cons]
   unfold loopF
   rw [e1]
   show ((f q).bind _) = _
   rw [e2]
   exact e3
  ·have e : n + (b :: xs).length = n + 1 + xs.length := by simp; omega
   rw [e]; exact h2
theorem rngD_0 (n : Nat) : rngD 0 n = (List.range n).map dn := by
 unfold rngD
 apply List.map_congr_left
 intro k _
 show D.int (0 + (k : Int)) = _
 rw [Int.zero_add]
theorem rngD_nat (a n : Nat) : rngD (a : Int) n = (List.range' a n).map dn := by
 unfold rngD
 rw [List.range'_eq_map_range, List.map_map]
 apply List.map_congr_left
 intro k _
 show D.int ((a : Int) + (k : Int)) = D.int ((a + k : Nat) : Int)
 rw [Int.natCast_add]
theorem rngOk_nat {n : Nat} (h : n <= 100000) : rngOk (n : Int) = true := by
 unfold rngOk
 exact decide_eq_true (by omega)
mutual
theorem eqD_refl : ∀ d : D, eqD d d = true
 | .non => rfl
 | .bl b => by show (b == b) = true; simp
 | .int i => by show (i == i) = true; simp
 | .str x => by show decide (x = x) = true; simp
 | .tup ds => eqDs_refl ds
 | .lst ds => eqDs_refl ds
 | .scr _ _ _ => rfl
 | .dct _ _ => rfl
theorem eqDs_refl : ∀ ds : List D, eqDs ds ds = true
 | [] => rfl
 | d :: ds => by simp [eqDs, eqD_refl d, eqDs_refl ds]
end
theorem okDs_of {n : Nat} : ∀ {ds : List D}, (∀ d ∈ ds, okD n d = true) -> okDs n ds = true
 | [], _ => rfl
 | d :: ds, h => by simp [okDs, h d List.mem_cons_self, okDs_of fun x hx => h x (List.mem_cons_of_mem _ hx)]
theorem eqO_refl {d : D} (h : okD 40 d = true) : eqO d d = some true := by
 unfold eqO
 split
 ·simp
 ·rw [h]; simp [eqD_refl]
theorem cmpne_refl {d : D} (h : okD 40 d = true) : cmpD .NotEq d d = some false := by
 show (eqO d d).map _ = _
 rw [eqO_refl h]; rfl
end TW
end
section
namespace TW
open PySem PySem.Spec PyProof.Rows L2
theorem byl_hg {K : PySem.W.Frag} {bs : List (Nat × SS)} {k i m : Nat} (h1 : bs[i]? = some (m + 1, block [.ret (.b1 .byl (.var 0))])) (hi : i ≠ 0) : ∀ ds r, ds.length = 1 -> pf K bs (k + 1) i ds = some r -> ∃ es ks, ds = [.tup es] /\ keysOf es = some ks /\ ks.length < 64 /\ bylOk es = true /\ r = .lst ((srtK ks).map fun i => .int (i : Nat)) := by
 intro ds r hl h
 match ds, hl with
 | [a], _ =>
  have e : pf K bs (k + 1) i [a] = runF (pf K bs k) (m + 1) (block [.ret (.b1 .byl (.var 0))]) [a] := by
   show (if i = 0 then cellD K [a] else match bs[i]? with | some b => runF (pf K bs k) b.1 b.2 [a] | none => none) = _
   rw [if_neg hi, h1]
  rw [e] at h
  change left (evSS (pf K bs k) (.cons (.ret (.b1 .byl (.var 0))) .nil) (some (.val a) :: List.replicate m none)) = some r at h
  cases a with
  | tup es =>
   cases q : keysOf es with
   | none =>
    exfalso
    have hb : b1D .byl (.tup es) = none := by
     show ((keysOf es).bind fun ks => if ks.length < 64 /\ bylOk es = true then some (Kd.fr, D.lst ((srtK ks).map fun i => .int (i : Nat))) else none) = _
     rw [q]; rfl
    have : (ev (pf K bs k) (.b1 .byl (.var 0)) (some (.val (.tup es)) :: List.replicate m none)).1 = none := hb
    rw [evSS_cons, evS_ret, this] at h
    cases h
   | some ks =>
    by_cases c : ks.length < 64 /\ bylOk es = true
    ·have hb : b1D .byl (.tup es) = some (.fr, .lst ((srtK ks).map fun i => .int (i : Nat))) := by
      show ((keysOf es).bind fun ks => if ks.length < 64 /\ bylOk es = true then some (Kd.fr, D.lst ((srtK ks).map fun i => .int (i : Nat))) else none) = _
      rw [q]
      exact if_pos c
     have : (ev (pf K bs k) (.b1 .byl (.var 0)) (some (.val (.tup es)) :: List.replicate m none)).1 = some (.fr, .lst ((srtK ks).map fun i => .int (i : Nat))) := hb
     rw [evSS_cons, evS_ret, this] at h
     cases h
     exact ⟨es, ks, rfl, q, c.1, c.2, rfl⟩
    ·exfalso
     have hb : b1D .byl (.tup es) = none := by
      show ((keysOf es).bind fun ks => if ks.length < 64 /\ bylOk es = true then some (Kd.fr, D.lst ((srtK ks).map fun i => .int (i : Nat))) else none) = _
      rw [q]
      exact if_neg c
     have : (ev (pf K bs k) (.b1 .byl (.var 0)) (some (.val (.tup es)) :: List.replicate m none)).1 = none := hb
     rw [evSS_cons, evS_ret, this] at h
     cases h
  | non => cases h
  | bl _ => cases h
  | int _ => cases h
  | str _ => cases h
  | lst _ => cases h
  | scr _ _ _ => cases h
  | dct _ _ => cases h
end TW
end
section
namespace TW
open PySem PySem.Spec PyProof.Rows L2
section
variable {P : Program} {w : World} {K : PySem.W.Frag} {mg : Str -> Option Value} {base : Heap} {T : Tab} {ds : List DefT} {ex : List (Nat × SS)} {ad : Nat -> Addr} {fd : Nat -> FuncData}
theorem fns_of {k : Nat} (hT : T.fns = ds.map fun d => (d.name, d.ps.length)) (hF : ∀ i d, ds[i]? = some d -> DefAt K mg d (ad i) (fd i))
  (ih : ∀ j d', ds[j]? = some d' -> FnOk P w K mg base CX0 k (ad j) (fd j) d'.ps (spD d'.ps.length (pf K (ds.map DefT.sb ++ ex) k j))) :
  ∀ f x n, T.fns[f]? = some (x, n) -> ∃ a fd ps, FnOk P w K mg base CX0 k a fd ps (spD n (pf K (ds.map DefT.sb ++ ex) k f)) /\ mg x = some (.ref a) /\ PySem.W.keepIn K (.ref a) = true /\ Binds K fd ps [] := fun f x n hf => by
 rw [hT, List.getElem?_map] at hf
 obtain ⟨d', ed, e'⟩ := Option.map_eq_some_iff.mp hf
 cases e'
 have D' := hF f d' ed
 exact ⟨ad f, fd f, d'.ps, ih f d' ed, D'.mg, D'.fn.kp, D'.bind⟩
theorem prog_okS {sp : Nat -> Bool} (hT : T.fns = ds.map fun d => (d.name, d.ps.length)) (hF : ∀ i d, ds[i]? = some d -> DefAt K mg d (ad i) (fd i)) (hok : ∀ i d, ds[i]? = some d -> i ≠ 0 -> sp i = false -> d.ok T = true)
  (h0 : ∀ k d, ds[0]? = some d -> FnOk P w K mg base CX0 (k + 1) (ad 0) (fd 0) d.ps (spD d.ps.length (cellD K)))
  (blt : ∀ x, x ∈ bltN -> mg x = none) (gls : ∀ x c, T.gls.lookup x = some c -> ∀ d, cstIs d c = true -> ∃ v u, mg x = some u /\ RelV v u /\ ∀ G, Rp G d v)
  (hsp : ∀ k i d, ds[i]? = some d -> i ≠ 0 -> sp i = true -> (∀ k', k' <= k -> ∀ j d', ds[j]? = some d' -> FnOk P w K mg base CX0 k' (ad j) (fd j) d'.ps (spD d'.ps.length (pf K (ds.map DefT.sb ++ ex) k' j))) ->
   FnOk P w K mg base CX0 (k + 1) (ad i) (fd i) d.ps (spD d.ps.length (pf K (ds.map DefT.sb ++ ex) (k + 1) i))) :
  ∀ k k', k' <= k -> ∀ i d, ds[i]? = some d -> FnOk P w K mg base CX0 k' (ad i) (fd i) d.ps (spD d.ps.length (pf K (ds.map DefT.sb ++ ex) k' i)) := by
 intro k
 induction k with
 | zero =>
  intro k' hk i d _
  obtain rfl : k' = 0 := by omega
  exact spD_none
 | succ k ih =>
  intro k' hk i d hd
  by_cases hk' : k' <= k
  ·exact ih k' hk' i d hd
  ·obtain rfl : k' = k + 1 := by omega
   by_cases hi : i = 0
   ·subst hi
    have e : pf K (ds.map DefT.sb ++ ex) (k + 1) 0 = cellD K := by funext args; simp [pf]
    rw [e]
    exact h0 k d hd
   ·cases hs : sp i with
    | true => exact hsp k i d hd hi hs ih
    | false =>
     have D := hF i d hd
     have ok := hok i d hd hi hs
     simp only [DefT.ok, Bool.and_eq_true] at ok
     have S := scope_ok ok.1
     have lt : i < ds.length := (List.getElem?_eq_some_iff.mp hd).1
     have e : pf K (ds.map DefT.sb ++ ex) (k + 1) i = fun args => left (evSS (pf K (ds.map DefT.sb ++ ex) k) d.body (enter ((defScope d.st).names.map (·.1)).length args)) := by
      funext args
      simp only [pf, hi, if_false]
      rw [List.getElem?_append_left (by simpa using lt)]
      simp only [List.getElem?_map, hd, Option.map_some, DefT.sb, runF, DefT.nm, List.length_map]
     rw [e]
     refine fnD (g := fun ρ => evSS (pf K (ds.map DefT.sb ++ ex) k) d.body ρ) D.fn S fun cdv A outer s H E hr => ?_
     refine sndSS d.body (T := T) (sc := (defScope d.st).names) ?_ ok.2
     have g := good_cx (CX := CX0) (P := P) (w := w) (K := K) (base := base) (qual := d.name) (f := ad i) (cdv := cdv) (A := A) (outer := outer) (s := s) (H := H) (E := E) (T := T) (p := pf K (ds.map DefT.sb ++ ex) k) S hr blt gls (fns_of hT hF (ih k (Nat.le_refl _)))
     refine ⟨⟨g.N, g.nd, g.vis, g.gl, g.loc, g.cel, g.out, g.calm, g.hu, g.blt, g.gls, g.fns⟩, ?_, PassesOwn.never⟩
     show (if (defScope d.st).kind.isAnnotationScope then ScopeKind.function else (defScope d.st).kind) = .function
     rw [S.kind]; rfl
noncomputable def hoB (n : Nat) : SS := block [.ret (.call n (slice [.var 0]))]
theorem ho_eq {p : Nat -> List D -> Option D} {n m : Nat} {a : D} : runF p (m + 1) (hoB n) [a] = p n [a] := by
 show left (evSS p (.cons (.ret (.call n (slice [.var 0]))) .nil) (some (.val a) :: List.replicate m none)) = _
 rw [evSS_cons]
 cases e : p n [a] with
 | none => simp [e]; rfl
 | some r => simp [e]
theorem spX_none {C : Addr} {n : Nat} {f : Addr} {fd : FuncData} {ps : List Str} (hp : ps.length = n) : FnOk P w K mg base (CXr P w) 0 f fd ps (spX C n fun _ => none) := by
 refine ⟨fun vs H Q E h => ?_, fun A outer s H args us vs Q E hr he hb hv hs => ?_⟩
 ·obtain ⟨G, ds, _, r, hl, _⟩ := h
  rw [r.length, hl, hp]
 ·obtain ⟨G, ds, _, r, hl, e, _⟩ := hs
  cases e
end
end TW
end
section
namespace TW
open PySem PySem.Spec PyProof.Rows L2
theorem PS.nox {X : Cx} {st : Stmt} {t : TS} (h : PS X.nox st t) : PS X st t := fun pins s σ H D I hw =>
 wpAny_mono (h pins s σ H D (I.wish _) hw) (fun _ _ q => q.unwish) fun _ _ z => False.elim z
section
variable {p : Nat -> List D -> Option D}
noncomputable def NoR (p : Nat -> List D -> Option D) (s : S) : Prop := ∀ ρ d, evS p s ρ ≠ some (.rt d)
noncomputable def NoRs (p : Nat -> List D -> Option D) (l : SS) : Prop := ∀ ρ d, evSS p l ρ ≠ some (.rt d)
theorem nr_asg {i : Nat} {c : C} : NoR p (.asg false i c) := fun ρ d h => by
 obtain ⟨x, _, h⟩ := bnd (show ((ev p c ρ).1.bind fun x => (frz x).map fun d => Fl.nx (ρ.set i (some (.val d)))) = some (.rt d) from h)
 obtain ⟨_, _, h⟩ := mpd h
 cases h
theorem nr_nil : NoRs p .nil := fun ρ d h => by cases h
theorem nr_cons {s : S} {l : SS} (h1 : NoR p s) (h2 : NoRs p l) : NoRs p (.cons s l) := fun ρ d h => by
 cases e : evS p s ρ with
 | none => rw [evSS_cons, e] at h; cases h
 | some f =>
  cases f with
  | nx q => rw [evSS_cons, e] at h; exact h2 q d h
  | rt d' => exact h1 ρ d' e
  | bk q => rw [evSS_cons, e] at h; cases h
  | ct q => rw [evSS_cons, e] at h; cases h
theorem nr_ifs {c : C} {a b : SS} (h1 : NoRs p a) (h2 : NoRs p b) : NoR p (.ifs c a b) := fun ρ d h => by
 cases e : (ev p c ρ).2 with
 | none => rw [evS_ifs, e] at h; cases h
 | some k =>
  cases k with
  | true => rw [evS_ifs, e] at h; exact h1 ρ d h
  | false => rw [evS_ifs, e] at h; exact h2 ρ d h
theorem nr_loop {tg : Tg} {f : En -> Option Fl} (hf : ∀ q d, f q ≠ some (.rt d)) : ∀ (ds : List D) (r : En) (d : D), loopF tg f ds r ≠ some (.rt d)
 | [], r, d, h => by cases h
 | x :: ds, r, d, h => by
  unfold loopF at h
  obtain ⟨q, _, h⟩ := bnd h
  obtain ⟨o, eo, h⟩ := bnd h
  cases o with
  | nx q' => exact nr_loop hf ds q' d h
  | ct q' => exact nr_loop hf ds q' d h
  | bk q' => cases h
  | rt d' => exact hf q d' eo
theorem nr_fr {tg : Tg} {it : CI} {b : SS} (h1 : NoRs p b) : NoR p (.fr tg it b) := fun ρ d h => by
 rw [evS_fr] at h
 cases e : evI p it ρ with
 | none => rw [e] at h; cases h
 | some x =>
  rw [e] at h
  obtain ⟨k, ds⟩ := x
  cases k with
  | bo => cases h
  | fz => exact nr_loop (fun q d => h1 q d) ds ρ d h
  | fr => exact nr_loop (fun q d => h1 q d) ds ρ d h
theorem rz2_test {n : Nat} {s1 s2 : S} {c : C} {ds : List D} (n1 : NoR p s1) (n2 : NoR p s2) (hv : ∀ ρ, (ev p c ρ).2 = (ev p c ρ).1.bind fun x => truD x.2) (h : runF p n (block [s1, s2, .ret c]) ds = some (.bl true)) :
  ∃ ρ1 ρ2, evS p s1 (enter n ds) = some (.nx ρ1) /\ evS p s2 ρ1 = some (.nx ρ2) /\ (ev p c ρ2).2 = some true := by
 change left (evSS p (.cons s1 (.cons s2 (.cons (.ret c) .nil))) (enter n ds)) = _ at h
 rw [evSS_cons] at h
 cases e1 : evS p s1 (enter n ds) with
 | none => rw [e1] at h; cases h
 | some f =>
  rw [e1] at h
  cases f with
  | rt d => exact absurd e1 (n1 _ d)
  | bk q => cases h
  | ct q => cases h
  | nx ρ1 =>
   change left (evSS p (.cons s2 (.cons (.ret c) .nil)) ρ1) = _ at h
   rw [evSS_cons] at h
   cases e2 : evS p s2 ρ1 with
   | none => rw [e2] at h; cases h
   | some f =>
    rw [e2] at h
    cases f with
    | rt d => exact absurd e2 (n2 _ d)
    | bk q => cases h
    | ct q => cases h
    | nx ρ2 =>
     change left (evSS p (.cons (.ret c) .nil) ρ2) = _ at h
     rw [evSS_cons, evS_ret] at h
     refine ⟨ρ1, ρ2, rfl, e2, ?_⟩
     rw [hv]
     cases e3 : (ev p c ρ2).1 with
     | none => rw [e3] at h; cases h
     | some y =>
      obtain ⟨k, z⟩ := y
      rw [e3] at h
      cases k <;> cases h <;> rfl
end
section
variable {P : Program} {w : World} {K : PySem.W.Frag} {mg : Str -> Option Value} {base : Heap} {T : Tab} {p : Nat -> List D -> Option D} {k : Nat} {d : DefT} {f f2 : Addr} {fd fd2 : FuncData} {ps2 : List Str} {g : List D -> Option D}
theorem goodS_nox {CX : CXT} {qual : Str} {cdv : Value} {A : Around} {outer : List Env} {s : Shared} {H : Hp} {E : XK} {sc : Scope} (S : FnScope (sc.names.map (·.1)) d.ps sc)
  (g : Good (cxOf CX P w K mg base (sc.names.map (·.1)) qual sc f cdv A outer s H E) T p sc.names) : GoodS (cxOf CX P w K mg base (sc.names.map (·.1)) qual sc f cdv A outer s H E).nox T p sc.names := by
 refine ⟨⟨g.N, g.nd, g.vis, g.gl, g.loc, g.cel, g.out, g.calm, g.hu, g.blt, g.gls, g.fns⟩, ?_, PassesOwn.never⟩
 show (if sc.kind.isAnnotationScope then ScopeKind.function else sc.kind) = .function
 rw [S.kind]; rfl
theorem raise_fn2 {x m : Str} {C : Addr} {j : Nat} {np cp cpos rpos ipos : Pos} {test : Expr} {st1 st2 : Stmt} {rest : List Stmt} {s1 s2 : S} {c : TW.C} (D : DefAt K mg d f fd) (hs : scopeIs d.ps (defScope d.st) = true)
  (hb : defBody d.st = st1 :: st2 :: .If test [.Raise (some (.Call (.Name x np) [.Constant (.str m) j cp] [] cpos)) none rpos] [] ipos :: rest)
  (h1 : chkS T s1 (defScope d.st).names st1 = true) (h2 : chkS T s2 (defScope d.st).names st2 = true) (hc : chk T c (defScope d.st).names test = true) (hni : isIf test = false) (n1 : NoR p s1) (n2 : NoR p s2) (hv : ∀ ρ, (ev p c ρ).2 = (ev p c ρ).1.bind fun x => truD x.2)
  (hx : (defScope d.st).names.lookup x = some .globalImplicit) (hmx : mg x = some (.ref C)) (he : PySem.W.excIn K C bmV "ValueError.__new__" = true) (hdb : (x == ("__debug__" : Str)) = false)
  (blt : ∀ x, x ∈ bltN -> mg x = none) (gls : ∀ x c, T.gls.lookup x = some c -> ∀ d, cstIs d c = true -> ∃ v u, mg x = some u /\ RelV v u /\ ∀ G, Rp G d v)
  (fns : ∀ f x n, T.fns[f]? = some (x, n) -> ∃ a fd ps, FnOk P w K mg base CX0 k a fd ps (spD n (p f)) /\ mg x = some (.ref a) /\ PySem.W.keepIn K (.ref a) = true /\ Binds K fd ps []) :
  FnOk P w K mg base (CXr P w) (k + 1) f fd d.ps (spX C d.ps.length (runF p (defScope d.st).names.length (block [s1, s2, .ret c]))) := by
 have S := scope_ok hs
 obtain ⟨oc, od, kV, doc, pm, an, cdv, ct, osl, rfl, lk, hcd⟩ := D.fn.ex
 refine fn_of lk hcd S (fun vs H Q E h => ?_) fun A outer s H vs Q E hr h => ?_
 ·obtain ⟨G, ds, _, r, hl, _⟩ := h
  rw [r.length, hl]
 ·obtain ⟨G, ds, gh, r, hl, e, hE⟩ := h
  have s0 := enter_ok (N := (defScope d.st).names.map (·.1)) gh.1 gh.2 r
  rw [List.length_map] at s0
  have g := good_cx (CX := CXr P w) (P := P) (w := w) (K := K) (base := base) (qual := d.name) (f := f) (cdv := cdv) (A := A) (outer := outer) (s := s) (H := H) (E := E) (T := T) (p := p) S hr blt gls fns
  have gS := goodS_nox (d := d) S g
  obtain ⟨ρ1, ρ2, e1, e2, e3⟩ := rz2_test n1 n2 hv e
  have p1 := PS.nox (sndS s1 gS h1 _ _ e1)
  have p2 := PS.nox (sndS s2 gS h2 _ _ e2)
  have t := (snd c g hc).t hni _ _ e3
  rw [hb]
  refine ⟨_, pss_cons p1 (pss_cons p2 (pss_cons (ps_if t (pss_one (ps_raise hx hmx he hdb (hr.hd))) pss_nil) pss_never)), G, H, G, s0, fun σ1 H1 G1 k1 => ⟨G, H, G1, k1, fun σ2 H2 G2 k2 => ⟨G2, k2.sr, fun H' G' x => ?_⟩⟩⟩
  exact iteT (hE H' G' (k2.ext.trans x))
theorem pass_fn {t y a : Str} {C : Addr} {tp yp ap cp ep : Pos} {rest : List Stmt} (D : DefAt K mg d f fd) (hs : scopeIs d.ps (defScope d.st) = true) (hps : d.ps.length = 1) (hN0 : ((defScope d.st).names.map (·.1))[0]? = some a) (hN1 : ((defScope d.st).names.map (·.1))[1]? = some t)
  (hb : defBody d.st = .Assign [.Name t tp] (.Call (.Name y yp) [.Name a ap] [] cp) ep :: rest) (hgy : (defScope d.st).names.lookup y = some .globalImplicit) (hva : Vis (defScope d.st) a) (hvt : Loc (defScope d.st) t)
  (hya : (a == ("__debug__" : Str)) = false) (hya2 : (a == ("__classdict__" : Str)) = false) (hyd : (y == ("__debug__" : Str)) = false)
  (F2 : FnOk P w K mg base (CXr P w) k f2 fd2 ps2 (spX C 1 g)) (hm2 : mg y = some (.ref f2)) (hk2 : PySem.W.keepIn K (.ref f2) = true) (hb2 : Binds K fd2 ps2 []) :
  FnOk P w K mg base (CXr P w) (k + 1) f fd d.ps (spX C 1 g) := by
 have S := scope_ok hs
 obtain ⟨oc, od, kV, doc, pm, an, cdv, ct, osl, rfl, lk, hcd⟩ := D.fn.ex
 refine fn_of lk hcd S (fun vs H Q E h => ?_) fun A outer s H vs Q E hr h => ?_
 ·obtain ⟨G, ds, _, r, hl, _⟩ := h
  rw [r.length, hl, hps]
 ·obtain ⟨G, ds, gh, r, hl, e, hE⟩ := h
  obtain ⟨v, rfl⟩ : ∃ v, vs = [v] := by
   have := r.length
   rw [hl] at this
   match vs, this with
   | [v], _ => exact ⟨v, rfl⟩
  rw [hb]
  refine ⟨_, pss_cons (ps_set (X := cxOf (CXr P w) P w K mg base ((defScope d.st).names.map (fun x : Str × NameKind => x.1)) d.name (defScope d.st) f cdv A outer s H E) (i := 1) S.nd hN1 hvt (pe_call (CX := CXr P w) (E := E) (sp := spX C 1 g) F2 hr hgy hm2 hk2 hb2 .nil leave_on (pa_cons (pe_var (i := 0) hN0 hva hya hya2) pa_nil) hyd) rfl (.inl rfl)) pss_never, v, rfl, G, ds, gh, r, hl, e, hE⟩
end
end TW
end
section
namespace TW
open PySem PySem.Spec PyProof.Rows L2
section
variable {P : Program} {w : World} {K : PySem.W.Frag} {mg : Str -> Option Value} {base : Heap} {T : Tab} {p : Nat -> List D -> Option D} {k : Nat} {d : DefT} {f f2 f3 : Addr} {fd fd2 fd3 : FuncData} {ps2 ps3 : List Str} {g gX gY : List D -> Option D}
theorem noSame (H : Hp) : Same (fun _ => none) H := fun b o z => by cases (show (none : Option HO) = some o from z)
theorem try_calm {X : Cx} {stI : Stmt} {h0 : ExceptHandler} {tp : Pos} (sI : S) {sc : Sc} {ρ0 ρ1 : En} (gd : Good X T p sc) (hk : X.env.blockKind = .function) (h : chkS T sI sc stI = true) (e : evS p sI ρ0 = some (.nx ρ1)) : PS X (.Try [stI] [h0] [] [] tp) (tS ρ0 (.nx ρ1)) := by
 intro pins s σ H D' I ht
 refine wpAny_Try_except ?_
 have gS : GoodS (wishP X pins (tryE X [h0] (SP X pins D'))).nox T p sc := ⟨⟨gd.N, gd.nd, gd.vis, gd.gl, gd.loc, gd.cel, gd.out, gd.calm, gd.hu, gd.blt, gd.gls, gd.fns⟩, hk, PassesOwn.never⟩
 have pI : PSs (wishP X pins (tryE X [h0] (SP X pins D'))) [stI] _ := pss_one (PS.nox (sndS sI gS h _ _ e))
 refine wpAny_mono (pI [] s σ H ⟨D'.nx, fun _ _ => False, fun _ _ => False, fun _ _ => False⟩ (Inv.toP I _) ht) (fun fl s2 h2 => ?_) fun _ _ z => z
 cases fl with
 | next =>
  obtain ⟨σ', H', I', q⟩ := h2
  exact wpAny_execs_nil ⟨σ', H', Inv.unP I', q⟩
 | brk => obtain ⟨_, _, _, z⟩ := h2; exact z.elim
 | cont => obtain ⟨_, _, _, z⟩ := h2; exact z.elim
 | ret u => obtain ⟨_, _, _, _, _, z⟩ := h2; exact z.elim
theorem told_fn {a b fo n gd x x1 x3 x4 y1 y2 : Str} {C D D1 D3 D4 : Addr} {bp0 o1 v1 a1 k1 r1 o2 v2 a2 k2 r2 ip np hp rp tp gp asp i1 e1 q1 c1 i2 e2 q2 c2 bp1 gp2 i3 e3 q3 c3 n3 i4 e4 q4 c4 n4 bp2 z1 z2 lp zp cp2 sp2 : Pos} {j1 j2 : Nat} {stR : Stmt} {sI sR : S}
  (Df : DefAt K mg d f fd) (hs : scopeIs d.ps (defScope d.st) = true) (hps : d.ps.length = 2)
  (hN0 : ((defScope d.st).names.map (·.1))[0]? = some a) (hN1 : ((defScope d.st).names.map (·.1))[1]? = some b) (hN2 : ((defScope d.st).names.map (·.1))[2]? = some fo) (hN3 : ((defScope d.st).names.map (·.1))[3]? = some n) (hN4 : ((defScope d.st).names.map (·.1))[4]? = some gd)
  (hb : defBody d.st = [.Try [.If (.Name b bp0) [.Assign [.Name fo o1] (.Call (.Name y1 v1) [.Name a a1] [] k1) r1] [.Assign [.Name fo o2] (.Call (.Name y2 v2) [.Name a a2] [] k2) r2] ip]
   [.ExceptHandler (some (.Name x np)) (some n) [.Assign [.Name gd gp] (.BoolOp .And [.Call (.Name "isinstance" i1) [.Name n e1, .Name x1 q1] [] c1, .Call (.Name "isinstance" i2) [.Name n e2, .Name "ValueError" q2] [] c2] bp1) asp,
   .Return (some (.Subscript (.List [.Constant (.int 0) j1 z1, .Constant .none j2 z2] lp) (.Call (.Name "int" zp) [.BoolOp .And [.Name gd gp2, .UnaryOp .Not (.Call (.Name "isinstance" i3) [.Name n e3, .Name x3 q3] [] c3) n3, .UnaryOp .Not (.Call (.Name "isinstance" i4) [.Name n e4, .Name x4 q4] [] c4) n4] bp2] [] cp2) sp2)) rp] hp] [] [] tp, stR])
  (hI : chkS T sI (defScope d.st).names (.If (.Name b bp0) [.Assign [.Name fo o1] (.Call (.Name y1 v1) [.Name a a1] [] k1) r1] [.Assign [.Name fo o2] (.Call (.Name y2 v2) [.Name a a2] [] k2) r2] ip) = true) (hR : chkS T sR (defScope d.st).names stR = true)
  (gl : ∀ z ∈ [y1, y2, x, x1, x3, x4, "isinstance", "ValueError", "int"], (defScope d.st).names.lookup z = some .globalImplicit) (lo : ∀ z ∈ [a, b, fo, n, gd], (defScope d.st).names.lookup z = some .local)
  (hdb : ∀ z ∈ [a, b, fo, n, gd, y1, y2, x, x1, x3, x4], (z == ("__debug__" : Str)) = false /\ (z == ("__classdict__" : Str)) = false)
  (hmx : mg x = some (.ref D)) (hmt : PySem.W.exmOne K (.ref C) (.ref D) = some true) (hmv : mg "ValueError" = none)
  (hm1 : mg x1 = some (.ref D1)) (hk1 : PySem.W.kitOne K (.ref C) (.ref D1) = some true) (hkv : PySem.W.kitOne K (.ref C) (.type "ValueError") = some true)
  (hm3 : mg x3 = some (.ref D3)) (hk3 : PySem.W.kitOne K (.ref C) (.ref D3) = some false) (hm4 : mg x4 = some (.ref D4)) (hk4 : PySem.W.kitOne K (.ref C) (.ref D4) = some false) (ex : ExC K C)
  (F2 : FnOk P w K mg base (CXr P w) k f2 fd2 ps2 (spX C 1 gX)) (hm2 : mg y1 = some (.ref f2)) (hk2 : PySem.W.keepIn K (.ref f2) = true) (hb2 : Binds K fd2 ps2 [])
  (F3 : FnOk P w K mg base (CXr P w) k f3 fd3 ps3 (spX C 1 gY)) (hm5 : mg y2 = some (.ref f3)) (hk5 : PySem.W.keepIn K (.ref f3) = true) (hb5 : Binds K fd3 ps3 [])
  (blt : ∀ x, x ∈ bltN -> mg x = none) (gls : ∀ x c, T.gls.lookup x = some c -> ∀ d, cstIs d c = true -> ∃ v u, mg x = some u /\ RelV v u /\ ∀ G, Rp G d v)
  (fns : ∀ f x n, T.fns[f]? = some (x, n) -> ∃ a fd ps, FnOk P w K mg base CX0 k a fd ps (spD n (p f)) /\ mg x = some (.ref a) /\ PySem.W.keepIn K (.ref a) = true /\ Binds K fd ps [])
  (hg : ∀ ds r0, ds.length = 2 -> g ds = some r0 -> ∃ d1 d2 bb, ds = [d1, d2] /\ truD d2 = some bb /\ ((r0 = .non /\ (bb = true -> gX [d1] = some (.bl true)) /\ (bb = false -> gY [d1] = some (.bl true))) \/ ∃ ρ1, evS p sI (enter (defScope d.st).names.length [d1, d2]) = some (.nx ρ1) /\ evS p sR ρ1 = some (.rt r0))) :
  FnOk P w K mg base CX0 (k + 1) f fd d.ps (spD d.ps.length g) := by
 have S := scope_ok hs
 have hmi : mg "isinstance" = none := blt _ (by decide +kernel)
 have hmn : mg "int" = none := blt _ (by decide +kernel)
 refine Df.fn.ok S (fun vs H Q E h => ?_) (fun cdv A outer s H vs Q E hr h => ?_)
 ·obtain ⟨G, ds, d, _, r, hl, _⟩ := h
  rw [r.length, hl]
 ·obtain ⟨G, ds, r0, gh, r, hl, e, k'⟩ := h
  rw [hps] at hl
  obtain ⟨d1, d2, bb, rfl, tb2, hc⟩ := hg _ _ hl e
  rw [hb]
  rcases hc with ⟨rfl, eX, eY⟩ | ⟨ρ1, eI, eR⟩
  ·obtain ⟨w1, _, rfl, rd1, w2, _, rfl, rd2, en⟩ := r
   cases (show _ = [] from en)
   refine ⟨_, pss_cons (t := fun D' σ H1 => ∃ u1 u2 G, σ[0]? = some (some u1) /\ σ[1]? = some (some u2) /\ (Same G H1 /\ Tb G) /\ Rp G d1 u1 /\ Rp G d2 u2 /\ ∀ H' G', Ext G H1 G' H' -> D'.rt .non H') ?_ pss_never, w1, w2, G, rfl, rfl, gh, rd1, rd2, fun H' G' x => k' _ H' G' x rfl⟩
   rintro pins s1 σ H1 D' I ⟨u1, u2, G1, hv1, hv2, gh1, rr1, rr2, qq⟩
   refine wpAny_Try_except ?_
   let X := (cxOf CX0 P w K mg base ((defScope d.st).names.map (fun x : Str × NameKind => x.1)) d.name (defScope d.st) f cdv A outer s H E).nox
   have hx : ∀ pins' σ' H' s' e s'', Inv (wishP X pins (tryE X [.ExceptHandler (some (.Name x np)) (some n) [.Assign [.Name gd gp] (.BoolOp .And [.Call (.Name "isinstance" i1) [.Name n e1, .Name x1 q1] [] c1, .Call (.Name "isinstance" i2) [.Name n e2, .Name "ValueError" q2] [] c2] bp1) asp,
     .Return (some (.Subscript (.List [.Constant (.int 0) j1 z1, .Constant .none j2 z2] lp) (.Call (.Name "int" zp) [.BoolOp .And [.Name gd gp2, .UnaryOp .Not (.Call (.Name "isinstance" i3) [.Name n e3, .Name x3 q3] [] c3) n3, .UnaryOp .Not (.Call (.Name "isinstance" i4) [.Name n e4, .Name x4 q4] [] c4) n4] bp2] [] cp2) sp2)) rp] hp] (SP X pins D'))) pins' σ' H' s' ->
     CXr P w X.stack H' s' (fun C' _ H2 => C' = .ref C /\ ∃ G2, Ext G1 H1 G2 H2) e s'' -> tryE X [.ExceptHandler (some (.Name x np)) (some n) [.Assign [.Name gd gp] (.BoolOp .And [.Call (.Name "isinstance" i1) [.Name n e1, .Name x1 q1] [] c1, .Call (.Name "isinstance" i2) [.Name n e2, .Name "ValueError" q2] [] c2] bp1) asp,
     .Return (some (.Subscript (.List [.Constant (.int 0) j1 z1, .Constant .none j2 z2] lp) (.Call (.Name "int" zp) [.BoolOp .And [.Name gd gp2, .UnaryOp .Not (.Call (.Name "isinstance" i3) [.Name n e3, .Name x3 q3] [] c3) n3, .UnaryOp .Not (.Call (.Name "isinstance" i4) [.Name n e4, .Name x4 q4] [] c4) n4] bp2] [] cp2) sp2)) rp] hp] (SP X pins D') e s'' := by
    intro pins' σ' H' s' e s'' I' cx
    refine caughtN (X := X) (Inv.unP I') rfl rfl cx (gl x (by simp)) hmx (hdb x (by simp)).1 (fun C' dx H2 hE => by rw [hE.1]; exact hmt) fun ea C' oe H2 s6 hE hc I6 => ?_
    rw [hE.1] at hc
    obtain ⟨G2, xx2⟩ := hE.2
    refine store_ok (X := exX X ea oe) (v := .ref ea) I6 S.nd hN3 (.inl (lo n (by simp))) rfl (fun s7 I7 => ?_) (.inr (lo n (by simp)))
    have hpn : (ea, oe) ∈ (exX X ea oe).pn := List.mem_cons_self
    have p1 : PE (exX X ea oe) (.Call (.Name "isinstance" i1) [.Name n e1, .Name x1 q1] [] c1) _ :=
     pe_isx (i := 3) (b := true) (u := .ref D1) (v := .ref D1) hpn hc ex hN3 (.inl (lo n (by simp))) (hdb n (by simp)).1 (hdb n (by simp)).2 (gl _ (by simp)) hmi (pe_glob (gl x1 (by simp)) hm1 rfl (hdb x1 (by simp)).1) (fun _ z => z) hk1
    have p2 : PE (exX X ea oe) (.Call (.Name "isinstance" i2) [.Name n e2, .Name "ValueError" q2] [] c2) _ :=
     pe_isx (i := 3) (b := true) (u := .type "ValueError") (v := .ty "ValueError") hpn hc ex hN3 (.inl (lo n (by simp))) (hdb n (by simp)).1 (hdb n (by simp)).2 (gl _ (by simp)) hmi (pe_bltn (gl _ (by simp)) hmv (by rfl) rfl) (fun _ z => z) hkv
    have p3 : PE (exX X ea oe) (.Call (.Name "isinstance" i3) [.Name n e3, .Name x3 q3] [] c3) _ :=
     pe_isx (i := 3) (b := false) (u := .ref D3) (v := .ref D3) hpn hc ex hN3 (.inl (lo n (by simp))) (hdb n (by simp)).1 (hdb n (by simp)).2 (gl _ (by simp)) hmi (pe_glob (gl x3 (by simp)) hm3 rfl (hdb x3 (by simp)).1) (fun _ z => z) hk3
    have p4 : PE (exX X ea oe) (.Call (.Name "isinstance" i4) [.Name n e4, .Name x4 q4] [] c4) _ :=
     pe_isx (i := 3) (b := false) (u := .ref D4) (v := .ref D4) hpn hc ex hN3 (.inl (lo n (by simp))) (hdb n (by simp)).1 (hdb n (by simp)).2 (gl _ (by simp)) hmi (pe_glob (gl x4 (by simp)) hm4 rfl (hdb x4 (by simp)).1) (fun _ z => z) hk4
    have pg : PE (exX X ea oe) (.Name gd gp2) _ := pe_var (i := 4) hN4 (.inl (lo gd (by simp))) (hdb gd (by simp)).1 (hdb gd (by simp)).2
    have pI : PE (exX X ea oe) (.Call (.Name "int" zp) [.BoolOp .And [.Name gd gp2, .UnaryOp .Not (.Call (.Name "isinstance" i3) [.Name n e3, .Name x3 q3] [] c3) n3, .UnaryOp .Not (.Call (.Name "isinstance" i4) [.Name n e4, .Name x4 q4] [] c4) n4] bp2] [] cp2) _ :=
     pe_callTy (c_int (.bl true) (.fz, .int 1) rfl) (gl "int" (by simp)) hmn boot_int (pa_cons (pe_and (pos := bp2) pg (pe_and (pe_not (pos := n3) p3) (pe_one (pe_not (pos := n4) p4)))) pa_nil)
    have su := pss_cons (ps_set (i := 4) (pos := asp) (pos' := gp) S.nd hN4 (.inl (lo gd (by simp))) (pe_and (pos := bp1) p1 (pe_one p2)) rfl (.inr (lo gd (by simp)))) (pss_one (ps_ret (pos := rp) (pe_ix (pos := sp2) ix_list (pe_lst (pos := lp) (pa_cons (pe_int (i := 0) (j := j1) (pos := z1)) (pa_cons (pe_non (j := j2) (pos := z2)) pa_nil))) pI (fun _ _ => rfl))))
    have hl1 : 3 < σ'.length := by
     rw [I6.len]
     exact (List.getElem?_eq_some_iff.mp hN3).1
    have hl2 : 4 < σ'.length := by
     rw [I6.len]
     exact (List.getElem?_eq_some_iff.mp hN4).1
    have g1 : (σ'.set 3 (some (V.ref ea)))[3]? = some (some (V.ref ea)) := List.getElem?_set_self hl1
    have g2 : ((σ'.set 3 (some (V.ref ea))).set 4 (some (V.bl true)))[3]? = some (some (V.ref ea)) := by rw [List.getElem?_set_ne (by decide)]; exact g1
    have g3 : ((σ'.set 3 (some (V.ref ea))).set 4 (some (V.bl true)))[4]? = some (some (V.bl true)) := List.getElem?_set_self (by simpa using hl2)
    refine wpAny_mono (su pins s7 _ H2 ⟨fun _ _ => False, fun v H3 => v = .non /\ D'.rt .non H3, fun _ _ => False, fun _ _ => False⟩ I7 ?_) (fun fl s8 h8 => ?_) fun _ _ z => z
    ·refine ⟨g1, true, rfl, iteT ⟨g1, by decide, fun pl hpl => ?_⟩⟩
     refine ⟨_, g3, true, rfl, iteT ⟨g2, false, rfl, true, rfl, iteT ⟨g2, false, rfl, .bl true, rfl, fun _ => none, noSame _, rfl, fun w3 H3 G3 x3 rr => ?_⟩⟩⟩
     cases (show w3 = _ from rr)
     have y2 := Ext.grown xx2.gh hpl (.lst [.int 0, .non])
     refine ⟨pl, [.int 0, .non], 1, .non, rfl, rfl, .inl (.inl (x3.hh _ _ upd_same)), rfl, rfl, qq H3 G2 (xx2.trans (y2.trans ⟨Same.refl _, x3.hh, y2.gh.trans x3.hh, fun _ _ z => .inl z⟩))⟩
    ·cases fl with
     | next => obtain ⟨_, _, _, z⟩ := h8; exact z.elim
     | brk => obtain ⟨_, _, _, z⟩ := h8; exact z.elim
     | cont => obtain ⟨_, _, _, z⟩ := h8; exact z.elim
     | ret u =>
      obtain ⟨v, σ8, H8, I8, r8, rfl, q8⟩ := h8
      exact name_goes (Inv.unEx I.ok I8) (lo n (by simp)) fun s9 I9 => ⟨.non, _, H8, I9, r8, q8⟩
   have body : PSs (wishP X pins (tryE X [.ExceptHandler (some (.Name x np)) (some n) [.Assign [.Name gd gp] (.BoolOp .And [.Call (.Name "isinstance" i1) [.Name n e1, .Name x1 q1] [] c1, .Call (.Name "isinstance" i2) [.Name n e2, .Name "ValueError" q2] [] c2] bp1) asp,
     .Return (some (.Subscript (.List [.Constant (.int 0) j1 z1, .Constant .none j2 z2] lp) (.Call (.Name "int" zp) [.BoolOp .And [.Name gd gp2, .UnaryOp .Not (.Call (.Name "isinstance" i3) [.Name n e3, .Name x3 q3] [] c3) n3, .UnaryOp .Not (.Call (.Name "isinstance" i4) [.Name n e4, .Name x4 q4] [] c4) n4] bp2] [] cp2) sp2)) rp] hp] (SP X pins D')))
     [.If (.Name b bp0) [.Assign [.Name fo o1] (.Call (.Name y1 v1) [.Name a a1] [] k1) r1] [.Assign [.Name fo o2] (.Call (.Name y2 v2) [.Name a a2] [] k2) r2] ip] _ :=
    pss_one (ps_if (pt_truth (pe_var (i := 1) hN1 (.inl (lo b (by simp))) (hdb b (by simp)).1 (hdb b (by simp)).2) (fun _ => rfl))
     (pss_one (ps_set (i := 2) S.nd hN2 (.inl (lo fo (by simp))) (pe_call (CX := CXr P w) (E := fun C' _ H2 => C' = .ref C /\ ∃ G2, Ext G1 H1 G2 H2) (sp := spX C 1 gX) F2 hr (gl y1 (by simp)) hm2 hk2 hb2 .nil hx (pa_cons (pe_var (i := 0) hN0 (.inl (lo a (by simp))) (hdb a (by simp)).1 (hdb a (by simp)).2) pa_nil) (hdb y1 (by simp)).1) rfl (.inr (lo fo (by simp)))))
     (pss_one (ps_set (i := 2) S.nd hN2 (.inl (lo fo (by simp))) (pe_call (CX := CXr P w) (E := fun C' _ H2 => C' = .ref C /\ ∃ G2, Ext G1 H1 G2 H2) (sp := spX C 1 gY) F3 hr (gl y2 (by simp)) hm5 hk5 hb5 .nil hx (pa_cons (pe_var (i := 0) hN0 (.inl (lo a (by simp))) (hdb a (by simp)).1 (hdb a (by simp)).2) pa_nil) (hdb y2 (by simp)).1) rfl (.inr (lo fo (by simp))))))
   refine wpAny_mono (body [] s1 σ H1 ⟨fun _ _ => False, fun _ _ => False, fun _ _ => False, fun _ _ => False⟩ (Inv.toP I _) ⟨u2, hv2, bb, tru_of _ (Rb.of gh1.1 rr2) gh1.1 tb2, ?_⟩) (fun fl s2 h2 => ?_) fun _ _ z => z
   ·cases bb with
    | true => exact iteT ⟨u1, hv1, G1, [d1], gh1, ⟨u1, [], rfl, rr1, rfl⟩, rfl, eX rfl, fun H' G' x => ⟨rfl, G', x⟩⟩
    | false => exact iteF ⟨u1, hv1, G1, [d1], gh1, ⟨u1, [], rfl, rr1, rfl⟩, rfl, eY rfl, fun H' G' x => ⟨rfl, G', x⟩⟩
   ·cases fl with
    | next => obtain ⟨_, _, _, z⟩ := h2; exact z.elim
    | brk => obtain ⟨_, _, _, z⟩ := h2; exact z.elim
    | cont => obtain ⟨_, _, _, z⟩ := h2; exact z.elim
    | ret u => obtain ⟨_, _, _, _, _, z⟩ := h2; exact z.elim
  ·have s0 := enter_ok (N := (defScope d.st).names.map (·.1)) gh.1 gh.2 r
   rw [List.length_map] at s0
   have g0 := good_cx (CX := CX0) (P := P) (w := w) (K := K) (base := base) (qual := d.name) (f := f) (cdv := cdv) (A := A) (outer := outer) (s := s) (H := H) (E := E) (T := T) (p := p) S hr blt gls fns
   have gS := goodS_nox (d := d) S g0
   exact ⟨_, pss_cons (try_calm sI gS.toGood gS.blk hI eI) (pss_one (sndS sR gS hR _ _ eR)), G, H, G, s0, fun σ1 H1 G1 k1 => ⟨G, H, G1, k1, fun v H' G' x rr => k' v H' G' x rr⟩⟩
end
end TW
end
section
namespace TW
open PySem PySem.Spec PyProof.Rows L2
noncomputable def tolI (l o : Nat) : S := .ifs (.var 1) (block [.asg false 2 (.call l (slice [(.var 0)]))]) (block [.asg false 2 (.call o (slice [(.var 0)]))])
noncomputable def tolR : S := .ret (.ix (.ls (slice [(.var 2), (.cst (.int 0))])) (.b1 .int (.cmp .Is (.var 2) (.cst .non))))
noncomputable def toldB (r q l o : Nat) : SS := block [.ifs (.var 1) (block [.ifs (.call r (slice [(.var 0)])) (block [.ret (.cst .non)]) (block []), .asg false 2 (.call l (slice [(.var 0)]))]) (block [.ifs (.call q (slice [(.var 0)])) (block [.ret (.cst .non)]) (block []), .asg false 2 (.call o (slice [(.var 0)]))]), tolR]
theorem told_side {p : Nat -> List D -> Option D} {r l : Nat} {d1 d2 r0 : D} {m : Nat} {b : Bool} (h : left ((evSS p (block [.ifs (.call r (slice [(.var 0)])) (block [.ret (.cst .non)]) (block []), .asg false 2 (.call l (slice [(.var 0)]))]) (enter (m + 3) [d1, d2])).bind fun o => match o with
   | .nx q => evSS p (.cons tolR .nil) q
   | x => some x) = some r0) : (r0 = .non /\ ∃ x, p r [d1] = some x /\ truD x = some true) \/ ∃ ρ1, evSS p (block [.asg false 2 (.call l (slice [(.var 0)]))]) (enter (m + 3) [d1, d2]) = some (.nx ρ1) /\ evS p tolR ρ1 = some (.rt r0) := by
 have e0 : (ev p (.call r (slice [(.var 0)])) (enter (m + 3) [d1, d2])).2 = ((p r [d1]).map fun d => (Kd.fz, d)).bind fun x => truD x.2 := rfl
 change left ((evSS p (.cons (.ifs (.call r (slice [(.var 0)])) (block [.ret (.cst .non)]) (block [])) (.cons (.asg false 2 (.call l (slice [(.var 0)]))) .nil)) (enter (m + 3) [d1, d2])).bind _) = some r0 at h
 rw [evSS_cons, evS_ifs, e0] at h
 cases e1 : p r [d1] with
 | none => rw [e1] at h; cases h
 | some x =>
  rw [e1] at h
  change left ((((truD x).bind _).bind _).bind _) = _ at h
  cases e2 : truD x with
  | none => rw [e2] at h; cases h
  | some k =>
   rw [e2] at h
   cases k with
   | true => cases h; exact .inl ⟨rfl, x, rfl, e2⟩
   | false =>
    change left ((evSS p (.cons (.asg false 2 (.call l (slice [(.var 0)]))) .nil) (enter (m + 3) [d1, d2])).bind _) = _ at h
    cases e3 : evSS p (.cons (.asg false 2 (.call l (slice [(.var 0)]))) .nil) (enter (m + 3) [d1, d2]) with
    | none => rw [e3] at h; cases h
    | some f =>
     rw [e3] at h
     have nr := nr_cons (p := p) (nr_asg (i := 2) (c := .call l (slice [(.var 0)]))) nr_nil
     cases f with
     | rt d => exact absurd e3 (nr _ d)
     | bk q => cases h
     | ct q => cases h
     | nx ρ1 =>
      change left (evSS p (.cons tolR .nil) ρ1) = _ at h
      rw [evSS_cons] at h
      refine .inr ⟨ρ1, e3, ?_⟩
      unfold tolR at h ⊢
      rw [evS_ret] at h ⊢
      cases e4 : ((ev p (.ix (.ls (slice [(.var 2), (.cst (.int 0))])) (.b1 .int (.cmp .Is (.var 2) (.cst .non)))) ρ1).1.bind frz) with
      | none => rw [e4] at h; cases h
      | some y => rw [e4] at h; cases h; rfl
theorem told_hg {p : Nat -> List D -> Option D} {r q l o m : Nat} : ∀ ds r0, ds.length = 2 -> runF p (m + 3) (toldB r q l o) ds = some r0 -> ∃ d1 d2 bb, ds = [d1, d2] /\ truD d2 = some bb /\ ((r0 = .non /\ (bb = true -> ∃ x, p r [d1] = some x /\ truD x = some true) /\ (bb = false -> ∃ x, p q [d1] = some x /\ truD x = some true)) \/
  ∃ ρ1, evS p (tolI l o) (enter (m + 3) [d1, d2]) = some (.nx ρ1) /\ evS p tolR ρ1 = some (.rt r0)) := by
 intro ds r0 hl h
 match ds, hl with
 | [d1, d2], _ =>
  have e0 : (ev p (.var 1) (enter (m + 3) [d1, d2])).2 = truD d2 := rfl
  change left (evSS p (.cons (.ifs (.var 1) _ _) (.cons tolR .nil)) (enter (m + 3) [d1, d2])) = some r0 at h
  rw [evSS_cons, evS_ifs, e0] at h
  cases e1 : truD d2 with
  | none => rw [e1] at h; cases h
  | some bb =>
   rw [e1] at h
   refine ⟨d1, d2, bb, rfl, e1, ?_⟩
   have eI : ∀ ρ, evS p (tolI l o) (enter (m + 3) [d1, d2]) = some ρ ↔ (if bb = true then evSS p (block [.asg false 2 (.call l (slice [(.var 0)]))]) (enter (m + 3) [d1, d2]) else evSS p (block [.asg false 2 (.call o (slice [(.var 0)]))]) (enter (m + 3) [d1, d2])) = some ρ := fun ρ => by
    unfold tolI
    rw [evS_ifs, e0, e1]
    rfl
   cases bb with
   | true =>
    rcases told_side (b := true) h with ⟨h1, h2⟩ | ⟨ρ1, h1, h2⟩
    ·exact .inl ⟨h1, fun _ => h2, fun z => absurd z (by decide)⟩
    ·exact .inr ⟨ρ1, (eI _).mpr h1, h2⟩
   | false =>
    rcases told_side (b := true) h with ⟨h1, h2⟩ | ⟨ρ1, h1, h2⟩
    ·exact .inl ⟨h1, fun z => absurd z (by decide), fun _ => h2⟩
    ·exact .inr ⟨ρ1, (eI _).mpr h1, h2⟩
theorem rz2_bl {p : Nat -> List D -> Option D} {n : Nat} {s1 s2 : S} {op : CmpOp} {a b : C} {ds : List D} {x : D} (n1 : NoR p s1) (n2 : NoR p s2) (h : runF p n (block [s1, s2, .ret (.cmp op a b)]) ds = some x) (ht : truD x = some true) : x = .bl true := by
 change left (evSS p (.cons s1 (.cons s2 (.cons (.ret (.cmp op a b)) .nil))) (enter n ds)) = _ at h
 rw [evSS_cons] at h
 cases e1 : evS p s1 (enter n ds) with
 | none => rw [e1] at h; cases h
 | some f =>
  rw [e1] at h
  cases f with
  | rt d => exact absurd e1 (n1 _ d)
  | bk q => cases h
  | ct q => cases h
  | nx ρ1 =>
   change left (evSS p (.cons s2 (.cons (.ret (.cmp op a b)) .nil)) ρ1) = _ at h
   rw [evSS_cons] at h
   cases e2 : evS p s2 ρ1 with
   | none => rw [e2] at h; cases h
   | some f =>
    rw [e2] at h
    cases f with
    | rt d => exact absurd e2 (n2 _ d)
    | bk q => cases h
    | ct q => cases h
    | nx ρ2 =>
     change left (evSS p (.cons (.ret (.cmp op a b)) .nil) ρ2) = _ at h
     rw [evSS_cons, evS_ret, ev_cmp] at h
     cases e3 : (ev p a ρ2).1 with
     | none => rw [e3] at h; cases h
     | some y =>
      cases e4 : (ev p b ρ2).1 with
      | none => rw [e3, e4] at h; cases h
      | some z =>
       rw [e3, e4] at h
       change left ((((((cmpD op y.2 z.2).map fun b => (Kd.fz, D.bl b))).bind frz).map Fl.rt).bind _) = _ at h
       cases e5 : cmpD op y.2 z.2 with
       | none => rw [e5] at h; cases h
       | some k =>
        rw [e5] at h
        cases h
        cases ht
        rfl
section
variable {P : Program} {w : World} {K : PySem.W.Frag} {mg : Str -> Option Value} {base : Heap} {T : Tab} {k : Nat} {d d' : DefT} {f f2 : Addr} {fd fd2 : FuncData} {bs : List (Nat × SS)}
theorem raise_all2 {n : Nat} {x m : Str} {C : Addr} {j : Nat} {np cp cpos rpos ipos : Pos} {test : Expr} {st1 st2 : Stmt} {rest : List Stmt} {s1 s2 : S} {c : TW.C} (hbs : bs[n]? = some ((defScope d.st).names.length, block [s1, s2, .ret c])) (hn : n ≠ 0) (D : DefAt K mg d f fd) (hs : scopeIs d.ps (defScope d.st) = true)
  (hb : defBody d.st = st1 :: st2 :: .If test [.Raise (some (.Call (.Name x np) [.Constant (.str m) j cp] [] cpos)) none rpos] [] ipos :: rest)
  (h1 : chkS T s1 (defScope d.st).names st1 = true) (h2 : chkS T s2 (defScope d.st).names st2 = true) (hc : chk T c (defScope d.st).names test = true) (hni : isIf test = false) (n1 : ∀ p, NoR p s1) (n2 : ∀ p, NoR p s2) (hv : ∀ p ρ, (ev p c ρ).2 = (ev p c ρ).1.bind fun x => truD x.2)
  (hx : (defScope d.st).names.lookup x = some .globalImplicit) (hmx : mg x = some (.ref C)) (he : PySem.W.excIn K C bmV "ValueError.__new__" = true) (hdb : (x == ("__debug__" : Str)) = false)
  (blt : ∀ x, x ∈ bltN -> mg x = none) (gls : ∀ x c, T.gls.lookup x = some c -> ∀ d, cstIs d c = true -> ∃ v u, mg x = some u /\ RelV v u /\ ∀ G, Rp G d v)
  (fns : ∀ k', k' < k -> ∀ f x nn, T.fns[f]? = some (x, nn) -> ∃ a fd ps, FnOk P w K mg base CX0 k' a fd ps (spD nn (pf K bs k' f)) /\ mg x = some (.ref a) /\ PySem.W.keepIn K (.ref a) = true /\ Binds K fd ps []) :
  FnOk P w K mg base (CXr P w) k f fd d.ps (spX C d.ps.length (pf K bs k n)) := by
 cases k with
 | zero =>
  have e : pf K bs 0 n = fun _ => none := rfl
  rw [e]
  exact spX_none rfl
 | succ k =>
  have e : pf K bs (k + 1) n = runF (pf K bs k) (defScope d.st).names.length (block [s1, s2, .ret c]) := by
   funext args
   show (if n = 0 then cellD K args else match bs[n]? with | some b => runF (pf K bs k) b.1 b.2 args | none => none) = _
   rw [if_neg hn, hbs]
  rw [e]
  exact raise_fn2 D hs hb h1 h2 hc hni (n1 _) (n2 _) (hv _) hx hmx he hdb blt gls (fns k (Nat.lt_succ_self k))
theorem pass_all {n n0 m : Nat} {t y a : Str} {C : Addr} {tp yp ap cp ep : Pos} {rest : List Stmt} (hbs : bs[n]? = some (m + 1, block [.ret (.call n0 (slice [(.var 0)]))])) (hn : n ≠ 0) (D : DefAt K mg d f fd) (hs : scopeIs d.ps (defScope d.st) = true) (hps : d.ps.length = 1) (hN0 : ((defScope d.st).names.map (·.1))[0]? = some a) (hN1 : ((defScope d.st).names.map (·.1))[1]? = some t)
  (hb : defBody d.st = .Assign [.Name t tp] (.Call (.Name y yp) [.Name a ap] [] cp) ep :: rest) (hgy : (defScope d.st).names.lookup y = some .globalImplicit) (hva : Vis (defScope d.st) a) (hvt : Loc (defScope d.st) t)
  (hya : (a == ("__debug__" : Str)) = false) (hya2 : (a == ("__classdict__" : Str)) = false) (hyd : (y == ("__debug__" : Str)) = false)
  (F2 : ∀ k', k' < k -> FnOk P w K mg base (CXr P w) k' f2 fd2 d'.ps (spX C 1 (pf K bs k' n0))) (hm2 : mg y = some (.ref f2)) (hk2 : PySem.W.keepIn K (.ref f2) = true) (hb2 : Binds K fd2 d'.ps []) :
  FnOk P w K mg base (CXr P w) k f fd d.ps (spX C 1 (pf K bs k n)) := by
 cases k with
 | zero =>
  have e : pf K bs 0 n = fun _ => none := rfl
  rw [e]
  exact spX_none hps
 | succ k =>
  refine (pass_fn D hs hps hN0 hN1 hb hgy hva hvt hya hya2 hyd (F2 k (Nat.lt_succ_self k)) hm2 hk2 hb2).imp ?_
  rintro vs H Q E ⟨G, ds, gh, r, hl, e, q⟩
  refine ⟨G, ds, gh, r, hl, ?_, q⟩
  match ds, hl with
  | [a1], _ =>
   have e2 : pf K bs (k + 1) n [a1] = pf K bs k n0 [a1] := by
    show (if n = 0 then cellD K [a1] else match bs[n]? with | some b => runF (pf K bs k) b.1 b.2 [a1] | none => none) = _
    rw [if_neg hn, hbs]
    exact ho_eq
   rw [<- e2]
   exact e
end
theorem told_g {K : PySem.W.Frag} {bs : List (Nat × SS)} {k i r q l o m n m2 : Nat} {s1 s2 : S} {op : CmpOp} {a b : C} (h1 : bs[i]? = some (m + 3, toldB r q l o)) (hi : i ≠ 0) (hr : bs[r]? = some (n, block [s1, s2, .ret (.cmp op a b)])) (hr0 : r ≠ 0) (hq : bs[q]? = some (m2 + 1, block [.ret (.call r (slice [(.var 0)]))])) (hq0 : q ≠ 0) (n1 : ∀ p, NoR p s1) (n2 : ∀ p, NoR p s2) :
  ∀ ds r0, ds.length = 2 -> pf K bs (k + 1) i ds = some r0 -> ∃ d1 d2 bb, ds = [d1, d2] /\ truD d2 = some bb /\ ((r0 = .non /\ (bb = true -> pf K bs k r [d1] = some (.bl true)) /\ (bb = false -> pf K bs k q [d1] = some (.bl true))) \/
   ∃ ρ1, evS (pf K bs k) (tolI l o) (enter (m + 3) [d1, d2]) = some (.nx ρ1) /\ evS (pf K bs k) tolR ρ1 = some (.rt r0)) := by
 intro ds r0 hl h
 have e : pf K bs (k + 1) i ds = runF (pf K bs k) (m + 3) (toldB r q l o) ds := by
  show (if i = 0 then cellD K ds else match bs[i]? with | some b => runF (pf K bs k) b.1 b.2 ds | none => none) = _
  rw [if_neg hi, h1]
 rw [e] at h
 have one : ∀ k d x, pf K bs k r [d] = some x -> truD x = some true -> x = .bl true := fun k d x hx ht => by
  cases k with
  | zero => cases hx
  | succ k =>
   have e2 : pf K bs (k + 1) r [d] = runF (pf K bs k) n (block [s1, s2, .ret (.cmp op a b)]) [d] := by
    show (if r = 0 then cellD K [d] else match bs[r]? with | some b => runF (pf K bs k) b.1 b.2 [d] | none => none) = _
    rw [if_neg hr0, hr]
   rw [e2] at hx
   exact rz2_bl (n1 _) (n2 _) hx ht
 have two : ∀ k d x, pf K bs k q [d] = some x -> truD x = some true -> x = .bl true := fun k d x hx ht => by
  cases k with
  | zero => cases hx
  | succ k =>
   have e2 : pf K bs (k + 1) q [d] = pf K bs k r [d] := by
    show (if q = 0 then cellD K [d] else match bs[q]? with | some b => runF (pf K bs k) b.1 b.2 [d] | none => none) = _
    rw [if_neg hq0, hq]
    exact ho_eq
   rw [e2] at hx
   exact one k d x hx ht
 obtain ⟨d1, d2, bb, e1, e2, c⟩ := told_hg ds r0 hl h
 refine ⟨d1, d2, bb, e1, e2, ?_⟩
 rcases c with ⟨z1, z2, z3⟩ | z
 ·refine .inl ⟨z1, fun hb => ?_, fun hb => ?_⟩
  ·obtain ⟨x, y1, y2⟩ := z2 hb
   rw [y1, one _ _ _ y1 y2]
  ·obtain ⟨x, y1, y2⟩ := z3 hb
   rw [y1, two _ _ _ y1 y2]
 ·exact .inr z
end TW
end
section
namespace TW
open PySem UF
theorem evSS_nx {p : Nat -> List D -> Option D} {s : S} {l : SS} {r r' : En} (h : evS p s r = some (.nx r')) : evSS p (.cons s l) r = evSS p l r' := by rw [evSS_cons, h]; rfl
theorem evSS_rt {p : Nat -> List D -> Option D} {s : S} {l : SS} {r : En} {d : D} (h : evS p s r = some (.rt d)) : evSS p (.cons s l) r = some (.rt d) := by rw [evSS_cons, h]; rfl
theorem for_fold {p : Nat -> List D -> Option D} {tg : Tg} {it : CI} {b : SS} {α β : Type} {em : β -> D} {k : Kd} (R : α -> En -> Prop) (st : α -> β -> α) {xs : List β} {s : α} {r : En} (hi : evI p it r = some (k, xs.map em)) (hk : k ≠ .bo) (h0 : R s r)
  (hs : ∀ s x r, x ∈ xs -> R s r -> ∃ q r', bindT tg (em x) r = some q /\ evSS p b q = some (.nx r') /\ R (st s x) r') : ∃ r', evS p (.fr tg it b) r = some (.nx r') /\ R (xs.foldl st s) r' := by
 obtain ⟨r', e, h⟩ := loopF_fold (tg := tg) (f := fun q => evSS p b q) R st xs s r hs h0
 refine ⟨r', ?_, h⟩
 rw [evS_fr, hi]
 cases k with
 | bo => exact absurd rfl hk
 | fz => exact e
 | fr => exact e
theorem for_foldi {p : Nat -> List D -> Option D} {tg : Tg} {it : CI} {b : SS} {α β : Type} {em : β -> D} {k : Kd} (R : Nat -> α -> En -> Prop) (st : α -> β -> α) {xs : List β} {s : α} {r : En} (hi : evI p it r = some (k, xs.map em)) (hk : k ≠ .bo) (h0 : R 0 s r)
  (hs : ∀ i s x r, xs[i]? = some x -> R i s r -> ∃ q r', bindT tg (em x) r = some q /\ evSS p b q = some (.nx r') /\ R (i + 1) (st s x) r') : ∃ r', evS p (.fr tg it b) r = some (.nx r') /\ R xs.length (xs.foldl st s) r' := by
 obtain ⟨r', e, h⟩ := loopF_foldi (tg := tg) (f := fun q => evSS p b q) R st xs 0 s r (by simpa using hs) h0
 refine ⟨r', ?_, by simpa using h⟩
 rw [evS_fr, hi]
 cases k with
 | bo => exact absurd rfl hk
 | fz => exact e
 | fr => exact e
theorem comp_ev {p : Nat -> List D -> Option D} {cap : List (Option Nat)} {tg : Tg} {it : CI} {cd : CO} {e : C} {r : En} {β : Type} {em : β -> D} {g : β -> Option D} {xs : List β} {k : Kd} (hi : evI p it r = some (k, xs.map em)) (hl : xs.length <= 65536) (hf : freeT cap tg = true)
  (h : ∀ x ∈ xs, ((bindT tg (em x) (capt r cap)).bind fun q => (evO p cd q).2.bind fun k => if k = true then ((ev p e q).1.bind frz).map some else some none) = some (g x)) : (ev p (.comp cap tg it cd e) r).1 = some (.fr, .lst (xs.filterMap g)) := by
 rw [ev_comp, hi]
 show (if (xs.map em).length <= lim /\ freeT cap tg = true then _ else none) = _
 rw [if_pos ⟨by simpa using hl, hf⟩]
 dsimp only
 rw [compGo_emb h]
 rfl
theorem comp_map {p : Nat -> List D -> Option D} {cap : List (Option Nat)} {tg : Tg} {it : CI} {cd : CO} {e : C} {r : En} {β γ : Type} {em : β -> D} {en : γ -> D} {g : β -> γ} {xs : List β} {k : Kd} (hi : evI p it r = some (k, xs.map em)) (hl : xs.length <= 65536) (hf : freeT cap tg = true)
  (h : ∀ x ∈ xs, ((bindT tg (em x) (capt r cap)).bind fun q => (evO p cd q).2.bind fun k => if k = true then ((ev p e q).1.bind frz).map some else some none) = some (some (en (g x)))) : (ev p (.comp cap tg it cd e) r).1 = some (.fr, .lst ((xs.map g).map en)) := by
 rw [comp_ev (g := fun x => some (en (g x))) hi hl hf h, List.map_map]
 congr 3
 clear h hi hl
 induction xs with
 | nil => rfl
 | cons x r ih => simpa using ih
theorem comp_filter {p : Nat -> List D -> Option D} {cap : List (Option Nat)} {tg : Tg} {it : CI} {cd : CO} {e : C} {r : En} {β : Type} {em : β -> D} {c : β -> Bool} {xs : List β} {k : Kd} (hi : evI p it r = some (k, xs.map em)) (hl : xs.length <= 65536) (hf : freeT cap tg = true)
  (h : ∀ x ∈ xs, ((bindT tg (em x) (capt r cap)).bind fun q => (evO p cd q).2.bind fun k => if k = true then ((ev p e q).1.bind frz).map some else some none) = some (if c x = true then some (em x) else none)) : (ev p (.comp cap tg it cd e) r).1 = some (.fr, .lst ((xs.filter c).map em)) := by
 rw [comp_ev hi hl hf h]
 congr 3
 clear h hi hl
 induction xs with
 | nil => rfl
 | cons x r ih => cases e : c x <;> simp [e, ih]
theorem asg_fr {p : Nat -> List D -> Option D} {i : Nat} {c : C} {r : En} {d : D} (h : (ev p c r).1 = some (.fr, d)) : evS p (.asg false i c) r = some (.nx (r.set i (some (.val d)))) := by rw [evS_asg, h]; rfl
theorem asg_fz {p : Nat -> List D -> Option D} {i : Nat} {c : C} {r : En} {d : D} (h : (ev p c r).1 = some (.fz, d)) : evS p (.asg false i c) r = some (.nx (r.set i (some (.val d)))) := by rw [evS_asg, h]; rfl
theorem ret_fr {p : Nat -> List D -> Option D} {c : C} {r : En} {d : D} (h : (ev p c r).1 = some (.fr, d)) : evS p (.ret c) r = some (.rt d) := by rw [evS_ret, h]; rfl
theorem ret_fz {p : Nat -> List D -> Option D} {c : C} {r : En} {d : D} (h : (ev p c r).1 = some (.fz, d)) : evS p (.ret c) r = some (.rt d) := by rw [evS_ret, h]; rfl
theorem getm {g : List Nat} {b : Nat} (h : b < g.length) : (g.map dn)[b]? = some (dn (gt g b)) := by
 rw [List.getElem?_map, List.getElem?_eq_getElem h]
 simp [gt, h]
noncomputable def Bdt : SS := (block [.asg false 3 (.b2 .min (.var 1) (.var 2)), .ret (.comp [none, none, some 3, some 1, some 2] (.one 1) (.sq (.var 0)) .no (.ife (.cmp .In (.var 1) (.tp (slice [(.var 3), (.var 4)]))) (.var 2) (.var 1)))])
theorem in2 (z x y : Nat) : cmpD .In (dn z) (.tup [.int x, .int y]) = some (decide (z = x \/ z = y)) := by
 show some (inD (dn z) [dn x, dn y]) = _
 congr 1
 show (((x : Int) == (z : Int)) || (((y : Int) == (z : Int)) || false)) = _
 by_cases h1 : z = x <;> by_cases h2 : z = y <;> simp [h1, h2] <;> omega
theorem dt_ev (p : Nat -> List D -> Option D) {f : List Nat} (x y : Nat) (hf : f.length <= 65536) : runF p 5 Bdt [.lst (f.map dn), .int x, .int y] = some (.lst ((mrg f x y).map dn)) := by
 have hm : (if y < x then (y : Int) else (x : Int)) = ((min x y : Nat) : Int) := by split <;> omega
 have s1 : evS p (.asg false 3 (.b2 .min (.var 1) (.var 2))) [some (.val (.lst (f.map dn))), some (.val (dn x)), some (.val (dn y)), none, none] = some (.nx [some (.val (.lst (f.map dn))), some (.val (dn x)), some (.val (dn y)), some (.val (dn (min x y))), none]) := by
  simp [hm]
 show left (evSS p (.cons _ (.cons _ .nil)) [some (.val (.lst (f.map dn))), some (.val (dn x)), some (.val (dn y)), none, none]) = _
 rw [evSS_nx s1, evSS_rt (ret_fr (comp_map (em := dn) (en := dn) (g := fun z => if z = x \/ z = y then min x y else z) (xs := f) (k := .fz) (by simp) hf rfl ?_))]
 ·rfl
 ·intro z _
  simp [in2]
  by_cases h : z = x \/ z = y <;> simp [h]
noncomputable def drawn (n j : Int) : Int := ((n + 104729 * j + 17) * 69621 % 2147483647 * ((n + 104729 * j + 17) * 69621 % 2147483647) + 3 * ((n + 104729 * j + 17) * 69621 % 2147483647) + j) % 2147483629
noncomputable def Bdrawn : SS := (block [.asg false 2 (.bin .Mod (.bin .Mult (.bin .Add (.bin .Add (.var 0) (.bin .Mult (.cst (.int 104729)) (.var 1))) (.cst (.int 17))) (.cst (.int 69621))) (.cst (.int 2147483647))), .ret (.bin .Mod (.bin .Add (.bin .Add (.bin .Mult (.var 2) (.var 2)) (.bin .Mult (.cst (.int 3)) (.var 2))) (.var 1)) (.cst (.int 2147483629)))])
theorem drawn_ev (p : Nat -> List D -> Option D) (n j : Int) : runF p 3 Bdrawn [.int n, .int j] = some (.int (drawn n j)) := by
 have h1 : 0 <= (n + 104729 * j + 17) * 69621 % 2147483647 := Int.emod_nonneg _ (by decide)
 have h2 : (n + 104729 * j + 17) * 69621 % 2147483647 < 2147483647 := Int.emod_lt_of_pos _ (by decide)
 simp (disch := first | omega | simp) [runF, Bdrawn, enter, opD_mul_l, opD_mul_r, opD_mod, drawn]
theorem drawn_nonneg (n j : Int) : 0 <= drawn n j /\ drawn n j < 2147483629 := ⟨Int.emod_nonneg _ (by decide), Int.emod_lt_of_pos _ (by decide)⟩
noncomputable def mixV (v k : Int) : Int := ((v + 7919 * k + 1) * 48271 % 2147483647 * ((v + 7919 * k + 1) * 48271 % 2147483647) + 7 * ((v + 7919 * k + 1) * 48271 % 2147483647) + k) % 2147483629
noncomputable def Bmixed (i0 : Nat) : SS := (block [.asg false 2 (.bin .Mod (.bin .Mult (.bin .Add (.bin .Add (.call i0 (slice [(.var 0), (.var 1)])) (.bin .Mult (.cst (.int 7919)) (.var 1))) (.cst (.int 1))) (.cst (.int 48271))) (.cst (.int 2147483647))), .ret (.bin .Mod (.bin .Add (.bin .Add (.bin .Mult (.var 2) (.var 2)) (.bin .Mult (.cst (.int 7)) (.var 2))) (.var 1)) (.cst (.int 2147483629)))])
theorem mixed_ev (p : Nat -> List D -> Option D) {i0 : Nat} {s : D} {k v : Int} (h : p i0 [s, .int k] = some (.int v)) : runF p 4 (Bmixed i0) [s, .int k] = some (.int (mixV v k)) := by
 have h1 : 0 <= (v + 7919 * k + 1) * 48271 % 2147483647 := Int.emod_nonneg _ (by decide)
 have h2 : (v + 7919 * k + 1) * 48271 % 2147483647 < 2147483647 := Int.emod_lt_of_pos _ (by decide)
 simp (disch := first | omega | simp) [runF, Bmixed, enter, opD_mul_l, opD_mul_r, opD_mod, mixV, h]
theorem mixV_nonneg (n j : Int) : 0 <= mixV n j /\ mixV n j < 2147483629 := ⟨Int.emod_nonneg _ (by decide), Int.emod_lt_of_pos _ (by decide)⟩
noncomputable def Bnumber : SS := (block [.ret (.an (.isi (.var 0) .int) (.an (.nt (.isi (.var 0) .bool)) (.cmp2 .LtE .LtE (.var 1) (.var 0) (.var 2))))])
theorem number_ev (p : Nat -> List D -> Option D) (x lo hi : Int) : runF p 6 Bnumber [.int x, .int lo, .int hi] = some (.bl (decide (lo <= x /\ x <= hi))) := by
 simp [runF, Bnumber, enter]
 by_cases h : lo <= x <;> simp [h]
noncomputable def Bgr1 : SS := block [.asg false 5 (.ix (.var 2) (.var 4)), .asg false 2 (.comp [none, none, none, some 2, some 5, some 3] (.one 1) (.sq (.var 2)) .no (.ix (.ls (slice [(.var 1), (.ix (.var 3) (.var 5))])) (.b1 .int (.cmp .Eq (.var 1) (.var 4)))))]
noncomputable def Bgr2 : SS := block [.asg false 8 (.comp [none, none, some 2, some 7] (.one 1) (.r1 (.var 0)) (.so (.cmp .Eq (.ix (.var 2) (.var 1)) (.ix (.var 2) (.var 3)))) (.var 1)), .ifs (.cmp .NotIn (.var 8) (.var 6)) (block [.app 6 (.var 8)]) (block [])]
noncomputable def Bgroups : SS := block [.asg false 2 (.rngl (.var 0)), .fr (.many [3, 4]) (.sq (.var 1)) Bgr1, .asg true 6 (.ls (slice [])), .fr (.one 7) (.r1 (.var 0)) Bgr2, .ret (.b1 .tuple (.comp [none, none, none] (.one 1) (.sq (.var 6)) .no (.b1 .tuple (.var 1))))]
noncomputable def pairD (l : Nat × Nat) : D := .tup [dn l.1, dn l.2]
noncomputable def natsD (g : List Nat) : D := .lst (g.map dn)
noncomputable def tupD (g : List Nat) : D := .tup (g.map dn)
theorem notin_list {c : List Nat} {fd : List (List Nat)} : cmpD .NotIn (.lst (c.map dn)) (.lst (fd.map fun g => .lst (g.map dn))) = some (!decide (c ∈ fd)) := by
 have okc : ∀ (n : Nat) (c : List Nat), okD (n + 1) (.lst (c.map dn)) = true := fun n c => by
  show okDs n (c.map dn) = true
  refine okDs_of fun d hd => ?_
  obtain ⟨x, _, rfl⟩ := List.mem_map.mp hd
  cases n <;> rfl
 have h1 : okD 40 (.lst (c.map dn)) = true := okc 39 c
 have h2 : okDs 40 (fd.map fun g => D.lst (g.map dn)) = true := okDs_of fun d hd => by
  obtain ⟨x, _, rfl⟩ := List.mem_map.mp hd
  exact okc 39 x
 have eqc : ∀ a b : List Nat, eqDs (a.map dn) (b.map dn) = decide (a = b) := by
  intro a
  induction a with
  | nil => intro b; cases b <;> simp [eqDs]
  | cons x r ih =>
   intro b
   cases b with
   | nil => simp [eqDs]
   | cons y q =>
    show (((x : Int) == (y : Int)) && eqDs (r.map dn) (q.map dn)) = _
    rw [ih q]
    by_cases h : x = y <;> by_cases h' : r = q <;> simp [h, h'] <;> omega
 show ((seqOf (.lst (fd.map fun g => D.lst (g.map dn)))).bind fun ds => if okD 40 (.lst (c.map dn)) && okDs 40 ds then some (!inD (.lst (c.map dn)) ds) else none) = _
 rw [seq_l]
 show (if okD 40 (.lst (c.map dn)) && okDs 40 (fd.map fun g => D.lst (g.map dn)) then some (!inD (.lst (c.map dn)) (fd.map fun g => D.lst (g.map dn))) else none) = _
 rw [h1, h2]
 show some (!inD _ _) = _
 congr 2
 induction fd with
 | nil => rfl
 | cons x r ih =>
  have ih' := ih (okDs_of fun d hd => by
   obtain ⟨x, _, rfl⟩ := List.mem_map.mp hd
   exact okc 39 x)
  show (eqD (.lst (x.map dn)) (.lst (c.map dn)) || inD (.lst (c.map dn)) (r.map fun g => D.lst (g.map dn))) = _
  rw [ih']
  show (eqDs (x.map dn) (c.map dn) || _) = _
  rw [eqc]
  by_cases h : c = x
  ·subst h; simp
  ·simp [h, Ne.symm h]
theorem gr1_ev (p : Nat -> List D -> Option D) {m : Nat} {s : D} {g : List Nat} {a b : Nat} {x5 : Option Sl} (hg : g.length <= 65536) (ha : a < g.length) (hb : b < g.length) :
  evSS p Bgr1 [some (.val (dn m)), some (.val s), some (.val (natsD g)), some (.val (dn a)), some (.val (dn b)), x5, none, none, none, none, none, none] =
   some (.nx [some (.val (dn m)), some (.val s), some (.val (natsD (lstep g (a, b)))), some (.val (dn a)), some (.val (dn b)), some (.val (dn (gt g b))), none, none, none, none, none, none]) := by
 have s1 : evS p (.asg false 5 (.ix (.var 2) (.var 4))) [some (.val (dn m)), some (.val s), some (.val (natsD g)), some (.val (dn a)), some (.val (dn b)), x5, none, none, none, none, none, none] = some (.nx [some (.val (dn m)), some (.val s), some (.val (natsD g)), some (.val (dn a)), some (.val (dn b)), some (.val (dn (gt g b))), none, none, none, none, none, none]) := by
  simp [natsD, atI_nat, getm hb]
 show evSS p (.cons _ (.cons _ .nil)) _ = _
 rw [evSS_nx s1, evSS_nx (asg_fr (comp_map (em := dn) (en := dn) (g := fun z => if z = gt g b then gt g a else z) (xs := g) (k := .fz) (by simp [natsD]) hg rfl ?_))]
 ·rfl
 ·intro z _
  by_cases h : z = gt g b
  ·simp [natsD, atI_nat, getm ha, h]
  ·have : ¬ ((z : Int) = ((gt g b : Nat) : Int)) := by omega
   simp [natsD, atI_nat, getm ha, h, this]
theorem gr2_ev (p : Nat -> List D -> Option D) {m : Nat} {s : D} {g : List Nat} {v : Nat} {fd : List (List Nat)} {x3 x4 x5 x8 : Option Sl} (hg : g.length = m) (hm : m <= 65536) (hv : v < m) (hf : fd.length < 65536) :
  evSS p Bgr2 [some (.val (dn m)), some (.val s), some (.val (natsD g)), x3, x4, x5, some (.own (fd.map natsD)), some (.val (dn v)), x8, none, none, none] =
   some (.nx [some (.val (dn m)), some (.val s), some (.val (natsD g)), x3, x4, x5, some (.own ((if cls m g v ∈ fd then fd else fd ++ [cls m g v]).map natsD)), some (.val (dn v)), some (.val (natsD (cls m g v))), none, none, none]) := by
 show evSS p (.cons _ (.cons _ .nil)) _ = _
 rw [evSS_nx (asg_fr (comp_filter (em := dn) (c := fun u => decide (gt g u = gt g v)) (xs := List.range m) (k := .fz) (by simp [rngOk_nat (show m <= 100000 by omega), rngD_0]) (by simpa using hm) rfl ?_))]
 ·have e : D.lst (((List.range m).filter fun u => decide (gt g u = gt g v)).map dn) = natsD (cls m g v) := rfl
  rw [e]
  have n := notin_list (c := cls m g v) (fd := fd)
  have n' : cmpD .NotIn (natsD (cls m g v)) (.lst (fd.map natsD)) = some (!decide (cls m g v ∈ fd)) := n
  by_cases h : cls m g v ∈ fd
  ·simp [n', h]
  ·simp [n', h, hf]
 ·intro u hu
  have hu' : u < g.length := by rw [hg]; simpa using hu
  have hv' : v < g.length := by rw [hg]; exact hv
  by_cases h : gt g u = gt g v
  ·simp [natsD, atI_nat, getm hu', getm hv', h]
  ·have : ¬ (((gt g u : Nat) : Int) = ((gt g v : Nat) : Int)) := by omega
   simp [natsD, atI_nat, getm hu', getm hv', h, this]
theorem groups_ev (p : Nat -> List D -> Option D) {m : Nat} {ls : List (Nat × Nat)} {s : D} (hs : seqOf s = some (ls.map pairD)) (hi : In m ls) (hm : m <= 100) : runF p 12 Bgroups [dn m, s] = some (.tup ((groups m ls).map tupD)) := by
 have r0 : evS p (.asg false 2 (.rngl (.var 0))) [some (.val (dn m)), some (.val s), none, none, none, none, none, none, none, none, none, none] = some (.nx [some (.val (dn m)), some (.val s), some (.val (natsD (List.range m))), none, none, none, none, none, none, none, none, none]) := by
  have h1 : rngOk (m : Int) = true := rngOk_nat (by omega)
  have h2 : m <= 65536 := by omega
  simp [h1, h2, rngD_0, natsD]
 obtain ⟨r1, e1, x3, x4, x5, rfl, hl1⟩ := for_fold (p := p) (tg := .many [3, 4]) (it := .sq (.var 1)) (b := Bgr1) (em := pairD) (k := .fz) (xs := ls) (s := List.range m)
  (r := [some (.val (dn m)), some (.val s), some (.val (natsD (List.range m))), none, none, none, none, none, none, none, none, none])
  (fun (g : List Nat) r => ∃ x3 x4 x5, r = [some (.val (dn m)), some (.val s), some (.val (natsD g)), x3, x4, x5, none, none, none, none, none, none] /\ g.length = m) lstep (by simp [hs]) (by decide) ⟨none, none, none, rfl, by simp⟩ (by
   rintro g ⟨a, b⟩ r hx ⟨x3, x4, x5, rfl, hg⟩
   obtain ⟨ha, hb⟩ := hi _ hx
   exact ⟨_, _, rfl, gr1_ev p (by omega) (by rw [hg]; exact ha) (by rw [hg]; exact hb), _, _, _, rfl, by simp [lstep, hg]⟩)
 have e2 : evS p (.asg true 6 (.ls (slice []))) [some (.val (dn m)), some (.val s), some (.val (natsD (lrun m ls))), x3, x4, x5, none, none, none, none, none, none] = some (.nx [some (.val (dn m)), some (.val s), some (.val (natsD (lrun m ls))), x3, x4, x5, some (.own (([] : List (List Nat)).map natsD)), none, none, none, none, none]) := by
  simp
 obtain ⟨r2, e3, x7, x8, rfl, hl2⟩ := for_foldi (p := p) (tg := .one 7) (it := .r1 (.var 0)) (b := Bgr2) (em := dn) (k := .fz) (xs := List.range m) (s := ([] : List (List Nat)))
  (r := [some (.val (dn m)), some (.val s), some (.val (natsD (lrun m ls))), x3, x4, x5, some (.own (([] : List (List Nat)).map natsD)), none, none, none, none, none])
  (fun i (fd : List (List Nat)) r => ∃ x7 x8, r = [some (.val (dn m)), some (.val s), some (.val (natsD (lrun m ls))), x3, x4, x5, some (.own (fd.map natsD)), x7, x8, none, none, none] /\ fd.length <= i) (fun fd v => if cls m (lrun m ls) v ∈ fd then fd else fd ++ [cls m (lrun m ls) v])
  (by simp [rngOk_nat (show m <= 100000 by omega), rngD_0]) (by decide) ⟨none, none, rfl, Nat.le_refl _⟩ (by
   rintro i fd v r hx ⟨x7, x8, rfl, hf⟩
   have hv : v < m := by simpa using List.mem_of_getElem? hx
   have hil : i < m := by simpa using (List.getElem?_eq_some_iff.mp hx).1
   refine ⟨_, _, rfl, gr2_ev p hl1 (by omega) hv (by omega), _, _, rfl, ?_⟩
   split
   ·omega
   ·simp; omega)
 show left (evSS p (.cons _ (.cons _ (.cons _ (.cons _ (.cons _ .nil))))) [some (.val (dn m)), some (.val s), none, none, none, none, none, none, none, none, none, none]) = _
 rw [evSS_nx r0, evSS_nx e1]
 show left (evSS p _ [some (.val (dn m)), some (.val s), some (.val (natsD (lrun m ls))), x3, x4, x5, none, none, none, none, none, none]) = _
 rw [evSS_nx e2, evSS_nx e3, law_groups hi]
 rw [law_groups hi] at hl2
 have hg : (groups m ls).length <= 65536 := by
  have : (groups m ls).length <= (List.range m).length := hl2
  simp at this; omega
 have c : (ev p (.comp [none, none, none] (.one 1) (.sq (.var 6)) .no (.b1 .tuple (.var 1))) [some (.val (dn m)), some (.val s), some (.val (natsD (lrun m ls))), x3, x4, x5, some (.own ((groups m ls).map natsD)), x7, x8, none, none, none]).1 = some (.fr, .lst (((groups m ls).map id).map tupD)) :=
  comp_map (em := natsD) (en := tupD) (g := id) (xs := groups m ls) (k := .bo) (by simp) hg rfl (fun g _ => by simp [natsD, tupD])
 rw [evSS_rt (ret_fz (d := .tup ((groups m ls).map tupD)) (by simp [c]))]
 rfl
end TW
end
section
namespace TW
open PySem UF
noncomputable def lineD (l : Nat × Nat × Nat) : D := .tup [dn l.1, dn l.2.1, dn l.2.2]
noncomputable def lOk (m : Nat) (l : Nat × Nat × Nat) : Prop := l.1 < l.2.1 /\ l.2.1 < m /\ l.2.2 <= 1000
noncomputable def groundD (m : Nat) (ls : List (Nat × Nat × Nat)) : D := .tup [dn m, .tup (ls.map lineD)]
theorem cut_from {α : Type} (xs : List α) (v : Nat) : cut xs (some (v : Int)) none = xs.drop v := by
 have h : (min (v : Int) (xs.length : Int)).toNat = min v xs.length := by omega
 simp only [cut, sIx, if_neg (show ¬ (v : Int) < 0 by omega), h]
 rw [List.take_of_length_le (by simp)]
 by_cases hv : v <= xs.length
 ·rw [Nat.min_eq_left hv]
 ·rw [Nat.min_eq_right (by omega), List.drop_length, List.drop_eq_nil_of_le (by omega)]
theorem cut_to {α : Type} (xs : List α) (v : Nat) : cut xs none (some (v : Int)) = xs.take v := by
 have h : (min (v : Int) (xs.length : Int)).toNat = min v xs.length := by omega
 simp only [cut, sIx, if_neg (show ¬ (v : Int) < 0 by omega), h, List.drop_zero, Nat.sub_zero]
 by_cases hv : v <= xs.length
 ·rw [Nat.min_eq_left hv]
 ·rw [Nat.min_eq_right (by omega), List.take_length, List.take_of_length_le (by omega)]
noncomputable def BG1 (iD : Nat) : SS := (block [.asg false 7 (.call iD (slice [(.var 0), (.var 6)])), .ifs (.orr (.cmp .Gt (.bin .Mod (.bin .FloorDiv (.var 0) (.cst (.int 32))) (.cst (.int 3))) (.cst (.int 0))) (.cmp .Gt (.bin .Mod (.var 7) (.cst (.int 4))) (.cst (.int 0)))) (block [.app 4 (.tp (slice [(.bin .Mod (.bin .FloorDiv (.var 7) (.cst (.int 4))) (.var 6)), (.var 6), (.bin .Mod (.bin .FloorDiv (.var 7) (.cst (.int 64))) (.var 5))]))]) (block [])])
noncomputable def BG2 (iD : Nat) : SS := (block [.asg false 7 (.call iD (slice [(.var 0), (.bin .Add (.cst (.int 20)) (.var 8))])), .ifs (.an (.cmp .Gt (.var 3) (.cst (.int 1))) (.cmp .Lt (.b1 .len (.var 4)) (.var 2))) (block [.asg false 9 (.bin .Mod (.var 7) (.var 3)), .asg false 10 (.bin .Mod (.bin .Add (.bin .Add (.var 9) (.cst (.int 1))) (.bin .Mod (.bin .FloorDiv (.var 7) (.cst (.int 8))) (.bin .Sub (.var 3) (.cst (.int 1))))) (.var 3)), .app 4 (.tp (slice [(.b2 .min (.var 9) (.var 10)), (.b2 .max (.var 9) (.var 10)), (.bin .Mod (.bin .FloorDiv (.var 7) (.cst (.int 64))) (.var 5))]))]) (block [])])
noncomputable def Bground (iD : Nat) : SS := (block [.asg false 3 (.bin .Add (.cst (.int 1)) (.bin .Mod (.var 0) (.var 1))), .asg true 4 (.ls (slice [])), .asg false 5 (.ix (.tp (slice [(.cst (.int 1)), (.cst (.int 3)), (.cst (.int 10)), (.cst (.int 1001))])) (.bin .Mod (.bin .FloorDiv (.var 0) (.cst (.int 8))) (.cst (.int 4)))), .fr (.one 6) (.r2 (.cst (.int 1)) (.var 3)) (BG1 iD), .fr (.one 8) (.r1 (.bin .Mod (.bin .FloorDiv (.var 0) (.cst (.int 96))) (.bin .Add (.var 2) (.cst (.int 1))))) (BG2 iD), .asg false 11 (.bin .Mod (.bin .FloorDiv (.var 0) (.cst (.int 2000))) (.cst (.int 13))), .ret (.tp (slice [(.var 3), (.b1 .tuple (.bin .Add (.sl (.var 4) (.so (.var 11)) .no) (.sl (.var 4) .no (.so (.var 11)))))]))])
section
variable (p : Nat -> List D -> Option D) {iD : Nat} (hD : ∀ n j : Int, p iD [.int n, .int j] = some (.int (drawn n j)))
noncomputable def gEn (n : Int) (most L m : Nat) (h : Int) (ls : List (Nat × Nat × Nat)) (x6 x7 x8 x9 x10 : Option Sl) : En :=
 [some (.val (.int n)), some (.val (dn most)), some (.val (dn L)), some (.val (dn m)), some (.own (ls.map lineD)), some (.val (.int h)), x6, x7, x8, x9, x10, none, none, none, none, none, none, none]
include hD
theorem bg1_ev {n : Int} {most L m : Nat} {h : Int} {ls : List (Nat × Nat × Nat)} {x7 x8 x9 x10 : Option Sl} {s : Nat} (hh : 0 < h /\ h <= 1001) (hs : 0 < s) (hsm : s < m) (hm : m <= 7) (hl : ls.length < 65536) :
  ∃ ls' x7', evSS p (BG1 iD) (gEn n most L m h ls (some (.val (dn s))) x7 x8 x9 x10) = some (.nx (gEn n most L m h ls' (some (.val (dn s))) x7' x8 x9 x10)) /\ ls'.length <= ls.length + 1 /\ ((∀ l ∈ ls, lOk m l) -> ∀ l ∈ ls', lOk m l) := by
 obtain ⟨d1, d2⟩ := drawn_nonneg n s
 have e1 : evS p (.asg false 7 (.call iD (slice [(.var 0), (.var 6)]))) (gEn n most L m h ls (some (.val (dn s))) x7 x8 x9 x10) = some (.nx (gEn n most L m h ls (some (.val (dn s))) (some (.val (.int (drawn n s)))) x8 x9 x10)) := by
  simp [gEn, hD]
 generalize drawn n s = d at *
 show ∃ ls' x7', evSS p (.cons _ (.cons _ .nil)) _ = _ /\ _
 rw [evSS_nx e1]
 have a1 : ∃ a : Nat, d / 4 % (s : Int) = a /\ a < s := ⟨(d / 4 % (s : Int)).toNat, by
  have := Int.emod_nonneg (d / 4) (show (s : Int) ≠ 0 by omega)
  omega, by
  have := Int.emod_nonneg (d / 4) (show (s : Int) ≠ 0 by omega)
  have := Int.emod_lt_of_pos (d / 4) (show (0 : Int) < s by omega)
  omega⟩
 have a2 : ∃ a : Nat, d / 64 % h = a /\ a <= 1000 := ⟨(d / 64 % h).toNat, by
  have := Int.emod_nonneg (d / 64) (show h ≠ 0 by omega)
  omega, by
  have := Int.emod_nonneg (d / 64) (show h ≠ 0 by omega)
  have := Int.emod_lt_of_pos (d / 64) (show 0 < h by omega)
  omega⟩
 obtain ⟨a, ea, ha⟩ := a1
 obtain ⟨b, eb, hb⟩ := a2
 have hs' : (0 : Int) < s := by omega
 have hh0 := hh.1
 have main : ∀ c : Bool, (evS p (.ifs (.orr (.cmp .Gt (.bin .Mod (.bin .FloorDiv (.var 0) (.cst (.int 32))) (.cst (.int 3))) (.cst (.int 0))) (.cmp .Gt (.bin .Mod (.var 7) (.cst (.int 4))) (.cst (.int 0)))) (block [.app 4 (.tp (slice [(.bin .Mod (.bin .FloorDiv (.var 7) (.cst (.int 4))) (.var 6)), (.var 6), (.bin .Mod (.bin .FloorDiv (.var 7) (.cst (.int 64))) (.var 5))]))]) (block [])) (gEn n most L m h ls (some (.val (dn s))) (some (.val (.int d))) x8 x9 x10) =
   some (.nx (gEn n most L m h (if (decide (0 < n / 32 % 3) || decide (0 < d % 4)) = true then ls ++ [(a, s, b)] else ls) (some (.val (dn s))) (some (.val (.int d))) x8 x9 x10))) := fun _ => by
  by_cases c1 : 0 < n / 32 % 3
  ·simp (disch := first | omega | simp) [gEn, opD_div, opD_mod, c1, ea, eb, hl, lineD]
  ·by_cases c2 : 0 < d % 4
   ·simp (disch := first | omega | simp) [gEn, opD_div, opD_mod, c1, c2, ea, eb, hl, lineD]
   ·simp (disch := first | omega | simp) [gEn, opD_div, opD_mod, c1, c2]
 rw [evSS_nx (main true)]
 refine ⟨_, _, rfl, ?_, ?_⟩
 ·split <;> simp
 ·intro ho l hx
  split at hx
  ·rcases List.mem_append.mp hx with hx | hx
   ·exact ho l hx
   ·have : l = (a, s, b) := by simpa using hx
    subst this
    exact ⟨ha, hsm, hb⟩
  ·exact ho l hx
theorem bg2_ev {n : Int} {most L m : Nat} {h : Int} {ls : List (Nat × Nat × Nat)} {x6 x7 x9 x10 : Option Sl} {s : Nat} (hh : 0 < h /\ h <= 1001) (hm0 : 0 < m) (hm : m <= 7) (hl : ls.length < 65536) :
  ∃ ls' x7' x9' x10', evSS p (BG2 iD) (gEn n most L m h ls x6 x7 (some (.val (dn s))) x9 x10) = some (.nx (gEn n most L m h ls' x6 x7' (some (.val (dn s))) x9' x10')) /\ (ls'.length = ls.length \/ ls'.length <= L) /\ ((∀ l ∈ ls, lOk m l) -> ∀ l ∈ ls', lOk m l) := by
 obtain ⟨d1, d2⟩ := drawn_nonneg n (20 + s)
 have e1 : evS p (.asg false 7 (.call iD (slice [(.var 0), (.bin .Add (.cst (.int 20)) (.var 8))]))) (gEn n most L m h ls x6 x7 (some (.val (dn s))) x9 x10) = some (.nx (gEn n most L m h ls x6 (some (.val (.int (drawn n (20 + s))))) (some (.val (dn s))) x9 x10)) := by
  simp [gEn, hD]
 generalize drawn n (20 + s) = d at *
 show ∃ ls' x7' x9' x10', evSS p (.cons _ (.cons _ .nil)) _ = _ /\ _
 rw [evSS_nx e1]
 by_cases c1 : 1 < m
 ·by_cases c2 : ls.length < L
  ·have q1 := Int.emod_nonneg d (show (m : Int) ≠ 0 by omega)
   have q2 := Int.emod_lt_of_pos d (show (0 : Int) < m by omega)
   have q3 := Int.emod_nonneg (d / 8) (show (m : Int) - 1 ≠ 0 by omega)
   have q4 := Int.emod_lt_of_pos (d / 8) (show (0 : Int) < (m : Int) - 1 by omega)
   have q5 := Int.emod_nonneg (d / 64) (show h ≠ 0 by omega)
   have q6 := Int.emod_lt_of_pos (d / 64) (show 0 < h by omega)
   obtain ⟨b, eb, hb⟩ : ∃ a : Nat, d / 64 % h = a /\ a <= 1000 := ⟨(d / 64 % h).toNat, by omega, by omega⟩
   obtain ⟨u, eu, hu⟩ : ∃ a : Nat, d % (m : Int) = a /\ a < m := ⟨(d % (m : Int)).toNat, by omega, by omega⟩
   obtain ⟨w, ew, hw⟩ : ∃ a : Nat, d / 8 % ((m : Int) - 1) = a /\ a < m - 1 := ⟨(d / 8 % ((m : Int) - 1)).toNat, by omega, by omega⟩
   obtain ⟨v, ev', hv, huv⟩ : ∃ v : Nat, ((u : Int) + 1 + w) % (m : Int) = v /\ v < m /\ u ≠ v := by
    by_cases hz : u + 1 + w < m
    ·exact ⟨u + 1 + w, by rw [Int.emod_eq_of_lt (by omega) (by omega)]; omega, hz, by omega⟩
    ·refine ⟨u + 1 + w - m, ?_, by omega, by omega⟩
     have : ((u : Int) + 1 + w) = ((u + 1 + w - m : Nat) : Int) + m := by omega
     rw [this, Int.add_emod_right, Int.emod_eq_of_lt (by omega) (by omega)]
   have hh0 := hh.1
   have hm1 : (0 : Int) < m := by omega
   have hm2 : (0 : Int) < (m : Int) - 1 := by omega
   have c1' : (1 : Int) < m := by omega
   have c2' : (ls.length : Int) < L := by omega
   have mn : (if (v : Int) < u then (v : Int) else u) = ((min u v : Nat) : Int) := by split <;> omega
   have mx : (if (u : Int) < v then (v : Int) else u) = ((max u v : Nat) : Int) := by split <;> omega
   have mn' : (if v < u then (v : Int) else u) = ((min u v : Nat) : Int) := by split <;> omega
   have mx' : (if u < v then (v : Int) else u) = ((max u v : Nat) : Int) := by split <;> omega
   refine ⟨ls ++ [(min u v, max u v, b)], some (.val (.int d)), some (.val (dn u)), some (.val (dn v)), ?_, .inr (by simp; omega), ?_⟩
   ·simp (disch := first | omega | simp) [gEn, opD_div, opD_mod, c1, c2, c1', eb, eu, ew, ev', hl, lineD, mn', mx']
   ·intro ho l hx
    rcases List.mem_append.mp hx with hx | hx
    ·exact ho l hx
    ·have : l = (min u v, max u v, b) := by simpa using hx
     subst this
     exact ⟨by show min u v < max u v; omega, by show max u v < m; omega, hb⟩
  ·refine ⟨ls, some (.val (.int d)), x9, x10, ?_, .inl rfl, fun z => z⟩
   have c2' : ¬ (ls.length : Int) < L := by omega
   simp [gEn, c1, c2, (show (1 : Int) < m by omega)]
 ·refine ⟨ls, some (.val (.int d)), x9, x10, ?_, .inl rfl, fun z => z⟩
  have c1' : ¬ (1 : Int) < m := by omega
  simp [gEn, c1, c1']
theorem ground_ev {n : Int} {L : Nat} (hn : 0 <= n) (hL : L <= 1000) : ∃ m ls, runF p 18 (Bground iD) [.int n, .int 7, .int L] = some (groundD m ls) /\ 0 < m /\ m <= 7 /\ ls.length <= max 6 L /\ ∀ l ∈ ls, lOk m l := by
 have q1 := Int.emod_nonneg n (show (7 : Int) ≠ 0 by decide)
 have q2 := Int.emod_lt_of_pos n (show (0 : Int) < 7 by decide)
 obtain ⟨m, em, hm0, hm⟩ : ∃ m : Nat, 1 + n % 7 = m /\ 0 < m /\ m <= 7 := ⟨(1 + n % 7).toNat, by omega, by omega, by omega⟩
 have q3 := Int.emod_nonneg (n / 8) (show (4 : Int) ≠ 0 by decide)
 have q4 := Int.emod_lt_of_pos (n / 8) (show (0 : Int) < 4 by decide)
 obtain ⟨h, eh, hh⟩ : ∃ h : Int, atI [D.int 1, D.int 3, D.int 10, D.int 1001] (n / 8 % 4) = some (D.int h) /\ (0 < h /\ h <= 1001) := by
  have : n / 8 % 4 = 0 \/ n / 8 % 4 = 1 \/ n / 8 % 4 = 2 \/ n / 8 % 4 = 3 := by omega
  rcases this with e | e | e | e <;> rw [e]
  ·exact ⟨1, rfl, by decide⟩
  ·exact ⟨3, rfl, by decide⟩
  ·exact ⟨10, rfl, by decide⟩
  ·exact ⟨1001, rfl, by decide⟩
 have e1 : evS p (.asg false 3 (.bin .Add (.cst (.int 1)) (.bin .Mod (.var 0) (.var 1)))) [some (.val (.int n)), some (.val (dn 7)), some (.val (dn L)), none, none, none, none, none, none, none, none, none, none, none, none, none, none, none] = some (.nx [some (.val (.int n)), some (.val (dn 7)), some (.val (dn L)), some (.val (dn m)), none, none, none, none, none, none, none, none, none, none, none, none, none, none]) := by
  simp (disch := first | omega | simp) [opD_mod, em]
 have e2 : evS p (.asg true 4 (.ls (slice []))) [some (.val (.int n)), some (.val (dn 7)), some (.val (dn L)), some (.val (dn m)), none, none, none, none, none, none, none, none, none, none, none, none, none, none] = some (.nx [some (.val (.int n)), some (.val (dn 7)), some (.val (dn L)), some (.val (dn m)), some (.own []), none, none, none, none, none, none, none, none, none, none, none, none, none]) := by
  simp
 have e3 : evS p (.asg false 5 (.ix (.tp (slice [(.cst (.int 1)), (.cst (.int 3)), (.cst (.int 10)), (.cst (.int 1001))])) (.bin .Mod (.bin .FloorDiv (.var 0) (.cst (.int 8))) (.cst (.int 4))))) [some (.val (.int n)), some (.val (dn 7)), some (.val (dn L)), some (.val (dn m)), some (.own []), none, none, none, none, none, none, none, none, none, none, none, none, none] = some (.nx (gEn n 7 L m h [] none none none none none)) := by
  simp (disch := first | omega | simp) [opD_mod, opD_div, eh, gEn]
 obtain ⟨r1, e4, ls1, y6, y7, rfl, hl1, ho1⟩ := for_foldi (p := p) (tg := .one 6) (it := .r2 (.cst (.int 1)) (.var 3)) (b := BG1 iD) (em := dn) (k := .fz) (xs := List.range' 1 (m - 1)) (s := ()) (r := gEn n 7 L m h [] none none none none none)
  (fun i _ r => ∃ ls x6 x7, r = gEn n 7 L m h ls x6 x7 none none none /\ ls.length <= i /\ ∀ l ∈ ls, lOk m l) (fun _ _ => ())
  (by
   have e : ((m : Int) - 1).toNat = m - 1 := by omega
   have := rngD_nat 1 (m - 1)
   simp [gEn, rngOk_nat (show m <= 100000 by omega), rngOk_nat (show 1 <= 100000 by omega), e]
   exact ⟨rfl, this⟩) (by decide) ⟨[], none, none, rfl, Nat.le_refl _, by simp⟩ (by
   rintro i _ s r hx ⟨ls, x6, x7, rfl, hl, ho⟩
   have hs : 1 <= s /\ s < m := by
    have := List.mem_range'.mp (List.mem_of_getElem? hx)
    obtain ⟨j, hj, rfl⟩ := this
    omega
   have hi : i < m - 1 := by simpa using (List.getElem?_eq_some_iff.mp hx).1
   obtain ⟨ls', x7', e, hl', ho'⟩ := bg1_ev p hD (n := n) (most := 7) (L := L) (m := m) (h := h) (ls := ls) (x7 := x7) (x8 := none) (x9 := none) (x10 := none) (s := s) hh (by omega) hs.2 hm (by omega)
   exact ⟨_, _, rfl, e, ls', _, _, rfl, by omega, ho' ho⟩)
 simp only [List.length_range'] at hl1
 obtain ⟨q5, q6⟩ : 0 <= n / 96 % ((L : Int) + 1) /\ n / 96 % ((L : Int) + 1) < (L : Int) + 1 := ⟨Int.emod_nonneg _ (by omega), Int.emod_lt_of_pos _ (by omega)⟩
 obtain ⟨t, et, ht⟩ : ∃ t : Nat, n / 96 % ((L : Int) + 1) = t /\ t <= L := ⟨(n / 96 % ((L : Int) + 1)).toNat, by omega, by omega⟩
 obtain ⟨r2, e5, ls2, z6, z7, z8, z9, z10, rfl, hl2, ho2⟩ := for_fold (p := p) (tg := .one 8) (it := .r1 (.bin .Mod (.bin .FloorDiv (.var 0) (.cst (.int 96))) (.bin .Add (.var 2) (.cst (.int 1))))) (b := BG2 iD) (em := dn) (k := .fz) (xs := List.range t) (s := ()) (r := gEn n 7 L m h ls1 y6 y7 none none none)
  (fun _ r => ∃ ls x6 x7 x8 x9 x10, r = gEn n 7 L m h ls x6 x7 x8 x9 x10 /\ ls.length <= max 6 L /\ ∀ l ∈ ls, lOk m l) (fun _ _ => ())
  (by simp (disch := first | omega | simp) [gEn, opD_div, opD_mod, et, rngOk_nat (show t <= 100000 by omega), rngD_0]) (by decide) ⟨ls1, _, _, _, _, _, rfl, by omega, ho1⟩ (by
   rintro _ s r hx ⟨ls, x6, x7, x8, x9, x10, rfl, hl, ho⟩
   obtain ⟨ls', x7', x9', x10', e, hl', ho'⟩ := bg2_ev p hD (n := n) (most := 7) (L := L) (m := m) (h := h) (ls := ls) (x6 := x6) (x7 := x7) (x9 := x9) (x10 := x10) (s := s) hh hm0 hm (by omega)
   exact ⟨_, _, rfl, e, ls', _, _, _, _, _, rfl, by omega, ho' ho⟩)
 obtain ⟨q7, q8⟩ : 0 <= n / 2000 % 13 /\ n / 2000 % 13 < 13 := ⟨Int.emod_nonneg _ (by decide), Int.emod_lt_of_pos _ (by decide)⟩
 obtain ⟨b, eb⟩ : ∃ b : Nat, n / 2000 % 13 = b := ⟨(n / 2000 % 13).toNat, by omega⟩
 refine ⟨m, ls2.drop b ++ ls2.take b, ?_, hm0, hm, ?_, ?_⟩
 ·show left (evSS p (.cons _ (.cons _ (.cons _ (.cons _ (.cons _ (.cons _ (.cons _ .nil))))))) [some (.val (.int n)), some (.val (dn 7)), some (.val (dn L)), none, none, none, none, none, none, none, none, none, none, none, none, none, none, none]) = _
  rw [evSS_nx e1, evSS_nx e2, evSS_nx e3, evSS_nx e4, evSS_nx e5]
  have hk : opD .Add (.lst ((ls2.map lineD).drop b)) (.lst ((ls2.map lineD).take b)) = some (.fr, .lst ((ls2.map lineD).drop b ++ (ls2.map lineD).take b)) := opD_add_l (by simp; omega)
  have e6 : evS p (.asg false 11 (.bin .Mod (.bin .FloorDiv (.var 0) (.cst (.int 2000))) (.cst (.int 13)))) (gEn n 7 L m h ls2 z6 z7 z8 z9 z10) = some (.nx ((gEn n 7 L m h ls2 z6 z7 z8 z9 z10).set 11 (some (.val (dn b))))) := by
   simp (disch := first | omega | simp) [gEn, opD_div, opD_mod, eb]
  rw [evSS_nx e6]
  simp [gEn, cut_from, cut_to, hk, groundD]
 ·simp; omega
 ·intro l hx
  rcases List.mem_append.mp hx with hx | hx
  ·exact ho2 l (List.mem_of_mem_drop hx)
  ·exact ho2 l (List.mem_of_mem_take hx)
end
end TW
end
section
namespace TW
open PySem UF
theorem bin_ev {p : Nat -> List D -> Option D} {a b : C} {op : Operator} {r : En} {x y z : Kd × D} (ha : (ev p a r).1 = some x) (hb : (ev p b r).1 = some y) (h : opD op x.2 y.2 = some z) : (ev p (.bin op a b) r).1 = some z := by
 rw [ev_bin, vt_1, ha]
 show ((ev p b r).1.bind fun y => opD op x.2 y.2) = _
 rw [hb]
 exact h
noncomputable def prs (ls : List (Nat × Nat × Nat)) : List (Nat × Nat) := ls.map fun l => (l.1, l.2.1)
theorem prs_get {ls : List (Nat × Nat × Nat)} {j : Nat} (h : j < ls.length) : (ls.map lineD)[j]? = some (.tup [dn ((prs ls).getD j (0, 0)).1, dn ((prs ls).getD j (0, 0)).2, dn (ls[j]).2.2]) := by
 rw [List.getElem?_map, List.getElem?_eq_getElem h]
 simp [prs, lineD, h]
end TW
end
section
namespace TW
open PySem UF
theorem prs_in {m : Nat} {ls : List (Nat × Nat × Nat)} (hi : ∀ l ∈ ls, lOk m l) : In m (prs ls) := by
 intro l hl
 obtain ⟨x, hx, rfl⟩ := List.mem_map.mp hl
 obtain ⟨a, b, _⟩ := hi x hx
 exact ⟨Nat.lt_trans a b, b⟩
theorem cut2 (a b c : D) : cut [a, b, c] none (some 2) = [a, b] := rfl
theorem cends_ev (p : Nat -> List D -> Option D) {r : En} {m : Nat} {ls : List (Nat × Nat × Nat)} {c : List Nat} {j k : Nat} {d : D} (hd : seqOf d = some (c.map dn)) (hj : r[j]? = some (some (.val d))) (hk : r[k]? = some (some (.val (groundD m ls)))) (hc : ∀ i ∈ c, i < ls.length) (hl : c.length <= 1000) :
  (ev p (.comp [none, none, some k] (.one 1) (.sq (.var j)) .no (.sl (.ix (.ix (.var 2) (.cst (.int 1))) (.var 1)) .no (.so (.cst (.int 2))))) r).1 = some (.fr, .lst ((ends (prs ls) c).map pairD)) := by
 refine comp_map (em := dn) (en := pairD) (g := fun i => (prs ls).getD i (0, 0)) (xs := c) (k := .fz) (by simp [hj, hd]) (by omega) rfl ?_
 intro i hx
 have hg := prs_get (hc i hx)
 simp [hk, groundD, atI_nat, hg, cut2, pairD]
end TW
end
section
namespace TW
open PySem UF
noncomputable def oneG (m : Nat) (ls : List (Nat × Nat)) (c : List Nat) : Bool := decide ((groups m (ends ls c)).length = 1)
noncomputable def Bistree (iN iGr : Nat) : SS := (block [.ifs (.orr (.nt (.isi (.var 0) .tuple)) (.cmp .NotEq (.b1 .len (.var 0)) (.bin .Sub (.ix (.var 1) (.cst (.int 0))) (.cst (.int 1))))) (block [.ret (.cst (.bl false))]) (block []), .ifs (.cmp .NotEq (.comp [none, none, none, none, some 1] (.one 1) (.sq (.var 0)) (.so (.nt (.call iN (slice [(.var 1), (.cst (.int 0)), (.bin .Sub (.b1 .len (.ix (.var 4) (.cst (.int 1)))) (.cst (.int 1)))])))) (.var 1)) (.ls (slice []))) (block [.ret (.cst (.bl false))]) (block []), .ifs (.cmp .NotEq (.comp [none, none, some 0] (.one 1) (.r2 (.cst (.int 1)) (.b1 .len (.var 0))) (.so (.cmp .GtE (.ix (.var 2) (.bin .Sub (.var 1) (.cst (.int 1)))) (.ix (.var 2) (.var 1)))) (.var 1)) (.ls (slice []))) (block [.ret (.cst (.bl false))]) (block []), .ret (.cmp .Eq (.b1 .len (.call iGr (slice [(.ix (.var 1) (.cst (.int 0))), (.comp [none, none, some 1] (.one 1) (.sq (.var 0)) .no (.sl (.ix (.ix (.var 2) (.cst (.int 1))) (.var 1)) .no (.so (.cst (.int 2)))))]))) (.cst (.int 1)))])
noncomputable def rising (c : List Nat) : Bool := ((List.range' 1 (c.length - 1)).filter fun k => decide (gt c k <= gt c (k - 1))).isEmpty
theorem rising_iff (c : List Nat) : rising c = true ↔ c.Pairwise (· < ·) := by
 unfold rising
 rw [List.isEmpty_iff, List.filter_eq_nil_iff, List.pairwise_iff_getElem]
 constructor
 ·intro h
  have st : ∀ k, 1 <= k -> k < c.length -> gt c (k - 1) < gt c k := fun k h1 h2 => by
   have := h k (List.mem_range'.mpr ⟨k - 1, by omega, by omega⟩)
   simpa using this
  intro i j hi hj hij
  have g : ∀ d i, (h2 : i + d + 1 < c.length) -> gt c i < gt c (i + d + 1) := by
   intro d
   induction d with
   | zero => intro i h2; have := st (i + 1) (by omega) (by omega); simpa using this
   | succ d ih =>
    intro i h2
    have a := ih i (by omega)
    have b := st (i + (d + 1) + 1) (by omega) (by omega)
    have : i + (d + 1) + 1 - 1 = i + d + 1 := by omega
    rw [this] at b
    omega
  have := g (j - i - 1) i (by omega)
  have e : i + (j - i - 1) + 1 = j := by omega
  rw [e] at this
  simpa [gt, hi, hj] using this
 ·intro h k hk
  obtain ⟨q, hq, rfl⟩ := List.mem_range'.mp hk
  have := h q (1 + q) (by omega) (by omega) (by omega)
  have h1 : q < c.length := by omega
  have h2 : 1 + q < c.length := by omega
  simp [gt, h1, h2]
  have e : 1 + 1 * q - 1 = q := by omega
  omega
theorem ne_nil_D (l : List Nat) : cmpD .NotEq (.lst (l.map dn)) (.lst []) = some (!l.isEmpty) := by
 have ok : okD 40 (.lst (l.map dn)) = true := by
  show okDs 39 (l.map dn) = true
  exact okDs_of fun d hd => by obtain ⟨x, _, rfl⟩ := List.mem_map.mp hd; rfl
 show (eqO (.lst (l.map dn)) (.lst [])).map _ = _
 have : eqO (.lst (l.map dn)) (.lst []) = some (eqD (.lst (l.map dn)) (.lst [])) := by
  show (if okD 40 (.lst (l.map dn)) && okD 40 (.lst []) then some _ else none) = _
  rw [ok]; rfl
 rw [this]
 cases l <;> rfl
theorem istree_ev (p : Nat -> List D -> Option D) {iN iGr m : Nat} {ls : List (Nat × Nat × Nat)} {c : List Nat} (hm0 : 0 < m) (hm : m <= 100) (hL : ls.length <= 1000) (hi : ∀ l ∈ ls, lOk m l) (hc : ∀ i ∈ c, i < ls.length) (hcl : c.length <= 1000)
  (hN : ∀ x lo hi : Int, p iN [.int x, .int lo, .int hi] = some (.bl (decide (lo <= x /\ x <= hi))))
  (hGr : ∀ q : List (Nat × Nat), In m q -> p iGr [dn m, .lst (q.map pairD)] = some (.tup ((groups m q).map tupD))) :
  runF p 7 (Bistree iN iGr) [tupD c, groundD m ls] = some (.bl (decide (c.length + 1 = m) && (rising c && oneG m (prs ls) c))) := by
 show left (evSS p (.cons _ (.cons _ (.cons _ (.cons _ .nil)))) [some (.val (tupD c)), some (.val (groundD m ls)), none, none, none, none, none]) = _
 by_cases h1 : c.length + 1 = m
 ·have h1' : (c.length : Int) = (m : Int) - 1 := by omega
  have e1 : evS p (.ifs (.orr (.nt (.isi (.var 0) .tuple)) (.cmp .NotEq (.b1 .len (.var 0)) (.bin .Sub (.ix (.var 1) (.cst (.int 0))) (.cst (.int 1))))) (block [.ret (.cst (.bl false))]) (block [])) [some (.val (tupD c)), some (.val (groundD m ls)), none, none, none, none, none] = some (.nx [some (.val (tupD c)), some (.val (groundD m ls)), none, none, none, none, none]) := by
   simp [tupD, groundD, h1']
  have c2 : (ev p (.comp [none, none, none, none, some 1] (.one 1) (.sq (.var 0)) (.so (.nt (.call iN (slice [(.var 1), (.cst (.int 0)), (.bin .Sub (.b1 .len (.ix (.var 4) (.cst (.int 1)))) (.cst (.int 1)))])))) (.var 1)) [some (.val (tupD c)), some (.val (groundD m ls)), none, none, none, none, none]).1 = some (.fr, .lst ((c.filter fun _ => false).map dn)) := by
   refine comp_filter (em := dn) (c := fun _ => false) (xs := c) (k := .fz) (by simp [tupD]) (by omega) rfl ?_
   intro i hx
   have := hc i hx
   have q : (0 : Int) <= i /\ (i : Int) <= (ls.length : Int) - 1 := by omega
   simp [groundD, hN, q]
  have e2 : evS p (.ifs (.cmp .NotEq (.comp [none, none, none, none, some 1] (.one 1) (.sq (.var 0)) (.so (.nt (.call iN (slice [(.var 1), (.cst (.int 0)), (.bin .Sub (.b1 .len (.ix (.var 4) (.cst (.int 1)))) (.cst (.int 1)))])))) (.var 1)) (.ls (slice []))) (block [.ret (.cst (.bl false))]) (block [])) [some (.val (tupD c)), some (.val (groundD m ls)), none, none, none, none, none] = some (.nx [some (.val (tupD c)), some (.val (groundD m ls)), none, none, none, none, none]) := by
   have f : (c.filter fun _ => false) = [] := by simp
   rw [f] at c2
   have n := ne_nil_D []
   simp only [List.map_nil, slice_cons, slice_nil] at n c2
   simp [c2, n]
  have c3 : (ev p (.comp [none, none, some 0] (.one 1) (.r2 (.cst (.int 1)) (.b1 .len (.var 0))) (.so (.cmp .GtE (.ix (.var 2) (.bin .Sub (.var 1) (.cst (.int 1)))) (.ix (.var 2) (.var 1)))) (.var 1)) [some (.val (tupD c)), some (.val (groundD m ls)), none, none, none, none, none]).1 = some (.fr, .lst (((List.range' 1 (c.length - 1)).filter fun k => decide (gt c k <= gt c (k - 1))).map dn)) := by
   refine comp_filter (em := dn) (c := fun k => decide (gt c k <= gt c (k - 1))) (xs := List.range' 1 (c.length - 1)) (k := .fz) ?_ (by simp; omega) rfl ?_
   ·have e : ((c.length : Int) - 1).toNat = c.length - 1 := by omega
    have := rngD_nat 1 (c.length - 1)
    simp [tupD, rngOk_nat (show c.length <= 100000 by omega), rngOk_nat (show 1 <= 100000 by omega), e]
    exact ⟨rfl, this⟩
   ·intro k hk
    obtain ⟨q, hq, rfl⟩ := List.mem_range'.mp hk
    have e : ((1 + 1 * q : Nat) : Int) - 1 = ((1 + 1 * q - 1 : Nat) : Int) := by omega
    have g1 := getm (g := c) (b := 1 + 1 * q) (by omega)
    have g2 := getm (g := c) (b := 1 + 1 * q - 1) (by omega)
    have e0 : dn (1 + 1 * q) = D.int ((1 + 1 * q : Nat) : Int) := rfl
    generalize 1 + 1 * q = k at *
    by_cases h : gt c k <= gt c (k - 1)
    ·have h' : ((gt c k : Nat) : Int) <= ((gt c (k - 1) : Nat) : Int) := by omega
     simp [tupD, e, atI_nat, g1, g2, h, h']
    ·have h' : ¬ ((gt c k : Nat) : Int) <= ((gt c (k - 1) : Nat) : Int) := by omega
     simp [tupD, e, atI_nat, g1, g2, h, h']
  have n3 := ne_nil_D ((List.range' 1 (c.length - 1)).filter fun k => decide (gt c k <= gt c (k - 1)))
  have hr : rising c = ((List.range' 1 (c.length - 1)).filter fun k => decide (gt c k <= gt c (k - 1))).isEmpty := rfl
  rw [<- hr] at n3
  rw [evSS_nx e1, evSS_nx e2]
  by_cases h3 : rising c = true
  ·have e3 : evS p (.ifs (.cmp .NotEq (.comp [none, none, some 0] (.one 1) (.r2 (.cst (.int 1)) (.b1 .len (.var 0))) (.so (.cmp .GtE (.ix (.var 2) (.bin .Sub (.var 1) (.cst (.int 1)))) (.ix (.var 2) (.var 1)))) (.var 1)) (.ls (slice []))) (block [.ret (.cst (.bl false))]) (block [])) [some (.val (tupD c)), some (.val (groundD m ls)), none, none, none, none, none] = some (.nx [some (.val (tupD c)), some (.val (groundD m ls)), none, none, none, none, none]) := by
    rw [h3] at n3
    simp [c3, n3]
   have ce := cends_ev p (r := [some (.val (tupD c)), some (.val (groundD m ls)), none, none, none, none, none]) (m := m) (ls := ls) (c := c) (j := 0) (k := 1) (d := tupD c) rfl rfl rfl hc (by omega)
   have g := hGr _ (ends_in (prs_in hi) (by simpa [prs] using hc))
   rw [evSS_nx e3]
   have e0 : atI [dn m, D.tup (ls.map lineD)] 0 = some (dn m) := rfl
   simp only [groundD] at ce
   by_cases h : (groups m (ends (prs ls) c)).length = 1
   ·simp [groundD, ce, g, h, h1, h3, oneG]
   ·have h' : ¬ ((groups m (ends (prs ls) c)).length : Int) = 1 := by omega
    simp [groundD, ce, g, h, h', h1, h3, oneG]
  ·have h3' : rising c = false := by simpa using h3
   rw [h3'] at n3
   rw [evSS_rt (d := .bl false) (by simp [c3, n3])]
   simp [h3']
 ·have h1' : ¬ (c.length : Int) = (m : Int) - 1 := by omega
  rw [evSS_rt (d := .bl false) (by simp [tupD, groundD, h1'])]
  simp [h1]
end TW
end
section
namespace UF
inductive J (ls : List (Nat × Nat)) : Nat -> Nat -> Prop where
 | refl (u : Nat) : J ls u u
 | line {a b : Nat} : (a, b) ∈ ls -> J ls a b
 | symm {u v : Nat} : J ls u v -> J ls v u
 | trans {u v w : Nat} : J ls u v -> J ls v w -> J ls u w
theorem J.le {ls ks : List (Nat × Nat)} (h : ∀ a b, (a, b) ∈ ls -> J ks a b) {u v : Nat} (j : J ls u v) : J ks u v := by
 induction j with
 | refl u => exact .refl u
 | line m => exact h _ _ m
 | symm _ ih => exact ih.symm
 | trans _ _ i1 i2 => exact i1.trans i2
theorem J.mono {ls ks : List (Nat × Nat)} (h : ∀ l ∈ ls, l ∈ ks) {u v : Nat} (j : J ls u v) : J ks u v := j.le fun a b m => .line (h _ m)
theorem J.lt {m : Nat} {ls : List (Nat × Nat)} (hi : In m ls) {u v : Nat} (j : J ls u v) : u < m ↔ v < m := by
 induction j with
 | refl u => exact Iff.rfl
 | line mm => have := hi _ mm; exact ⟨fun _ => this.2, fun _ => this.1⟩
 | symm _ ih => exact ih.symm
 | trans _ _ i1 i2 => exact i1.trans i2
theorem step_J {m : Nat} {f : List Nat} {ps : List (Nat × Nat)} (h : Ok m f) (hi : In m ps) (hf : ∀ u v, u < m -> v < m -> (gt f u = gt f v ↔ J ps u v)) {l : Nat × Nat} (h1 : l.1 < m) (h2 : l.2 < m) :
  ∀ u v, u < m -> v < m -> (gt (step f l) u = gt (step f l) v ↔ J (ps ++ [l]) u v) := by
 have hi' : In m (ps ++ [l]) := fun x hx => by
  rcases List.mem_append.mp hx with hx | hx
  ·exact hi x hx
  ·have : x = l := by simpa using hx
   subst this; exact ⟨h1, h2⟩
 have mo : ∀ {u v : Nat}, J ps u v -> J (ps ++ [l]) u v := fun j => j.mono fun x hx => List.mem_append_left _ hx
 have ll : J (ps ++ [l]) l.1 l.2 := .line (by simp)
 have key : ∀ u v, u < m -> v < m -> (gt (step f l) u = gt (step f l) v ↔ (gt f u = gt f v \/ ((gt f u = gt f l.1 \/ gt f u = gt f l.2) /\ (gt f v = gt f l.1 \/ gt f v = gt f l.2)))) := by
  intro u v hu hv
  unfold step
  rw [mrg_get h _ _ hu, mrg_get h _ _ hv]
  have hM : min (gt f l.1) (gt f l.2) = gt f l.1 \/ min (gt f l.1) (gt f l.2) = gt f l.2 := by omega
  generalize gt f l.1 = x at *
  generalize gt f l.2 = y at *
  generalize min x y = M at *
  generalize gt f u = a at *
  generalize gt f v = b at *
  by_cases c1 : a = x \/ a = y <;> by_cases c2 : b = x \/ b = y
  ·rw [if_pos c1, if_pos c2]; exact iff_of_true rfl (.inr ⟨c1, c2⟩)
  ·rw [if_pos c1, if_neg c2]
   refine iff_of_false (fun z => c2 ?_) ?_
   ·rcases hM with e | e
    ·exact .inl (z.symm.trans e)
    ·exact .inr (z.symm.trans e)
   ·rintro (z | ⟨_, z⟩)
    ·rw [z] at c1; exact c2 c1
    ·exact c2 z
  ·rw [if_neg c1, if_pos c2]
   refine iff_of_false (fun z => c1 ?_) ?_
   ·rcases hM with e | e
    ·exact .inl (z.trans e)
    ·exact .inr (z.trans e)
   ·rintro (z | ⟨z, _⟩)
    ·rw [<- z] at c2; exact c1 c2
    ·exact c1 z
  ·rw [if_neg c1, if_neg c2]
   constructor
   ·exact .inl
   ·rintro (z | ⟨z, _⟩)
    ·exact z
    ·exact absurd z c1
 intro u v hu hv
 constructor
 ·intro e
  rcases (key u v hu hv).mp e with z | ⟨z1, z2⟩
  ·exact mo ((hf u v hu hv).mp z)
  ·have a : J (ps ++ [l]) u l.1 := by
    rcases z1 with z | z
    ·exact mo ((hf u _ hu h1).mp z)
    ·exact (mo ((hf u _ hu h2).mp z)).trans ll.symm
   have b : J (ps ++ [l]) v l.1 := by
    rcases z2 with z | z
    ·exact mo ((hf v _ hv h1).mp z)
    ·exact (mo ((hf v _ hv h2).mp z)).trans ll.symm
   exact a.trans b.symm
 ·intro j
  have gen : ∀ {u v : Nat}, J (ps ++ [l]) u v -> u < m -> v < m -> gt (step f l) u = gt (step f l) v := by
   intro u v j
   induction j with
   | refl u => intro _ _; rfl
   | @line a b mm =>
    intro ha hb
    rcases List.mem_append.mp mm with mm | mm
    ·exact (key a b ha hb).mpr (.inl ((hf a b ha hb).mpr (.line mm)))
    ·have : (a, b) = l := by simpa using mm
     subst this
     exact (key a b ha hb).mpr (.inr ⟨.inl rfl, .inr rfl⟩)
   | symm _ ih => intro ha hb; exact (ih hb ha).symm
   | trans j1 _ i1 i2 =>
    intro ha hb
    have hw := (j1.lt hi').mp ha
    exact (i1 ha hw).trans (i2 hw hb)
  exact gen j hu hv
theorem foldl_J {m : Nat} : ∀ (ls : List (Nat × Nat)) (ps : List (Nat × Nat)) (f : List Nat), In m (ps ++ ls) -> Ok m f -> (∀ u v, u < m -> v < m -> (gt f u = gt f v ↔ J ps u v)) ->
  ∀ u v, u < m -> v < m -> (gt (ls.foldl step f) u = gt (ls.foldl step f) v ↔ J (ps ++ ls) u v)
 | [], ps, f, _, _, hf => by simpa using hf
 | l :: r, ps, f, hi, h, hf => by
  obtain ⟨h1, h2⟩ := hi l (by simp)
  have e : ps ++ l :: r = (ps ++ [l]) ++ r := by simp
  rw [List.foldl_cons, e]
  exact foldl_J r (ps ++ [l]) (step f l) (by rw [<- e]; exact hi) (ok_step h h1 h2) (step_J h (fun x hx => hi x (List.mem_append_left _ hx)) hf h1 h2)
theorem run_J {m : Nat} {ls : List (Nat × Nat)} (hi : In m ls) : ∀ u v, u < m -> v < m -> (gt (run m ls) u = gt (run m ls) v ↔ J ls u v) := by
 have := foldl_J ls [] (List.range m) (by simpa using hi) (ok_range m) (fun u v hu hv => by
  rw [getD_range hu, getD_range hv]
  constructor
  ·intro e; subst e; exact .refl _
  ·intro j
   have : ∀ {u v : Nat}, J [] u v -> u = v := by
    intro u v j
    induction j with
    | refl _ => rfl
    | line mm => cases mm
    | symm _ ih => exact ih.symm
    | trans _ _ a b => exact a.trans b
   exact this j)
 simpa [run] using this
noncomputable def Sp (m : Nat) (ls : List (Nat × Nat)) : Prop := ∀ u, u < m -> J ls 0 u
theorem one_iff {m : Nat} {ls : List (Nat × Nat)} (hi : In m ls) (hm : 0 < m) : (groups m ls).length = 1 ↔ Sp m ls := by
 have ok := run_ok hi
 have f0 : gt (run m ls) 0 = 0 := by have := ok.le 0 hm; omega
 rw [groups_len]
 constructor
 ·intro h u hu
  refine (run_J hi 0 u hm hu).mp ?_
  unfold cnt at h
  obtain ⟨r, hr⟩ := List.length_eq_one_iff.mp h
  have m0 : 0 ∈ roots m (run m ls) := List.mem_filter.mpr ⟨by simpa using hm, by simpa using f0⟩
  have mu : gt (run m ls) u ∈ roots m (run m ls) := List.mem_filter.mpr ⟨by simpa using ok.lt hu, by simpa using ok.rt u hu⟩
  rw [hr] at m0 mu
  have a : 0 = r := by simpa using m0
  have b : gt (run m ls) u = r := by simpa using mu
  rw [f0, b, a]
 ·intro h
  have : roots m (run m ls) = [0] := by
   unfold roots
   have e : (List.range m).filter (fun u => decide (gt (run m ls) u = u)) = (List.range m).filter fun u => decide (u = 0) := by
    apply List.filter_congr
    intro u hu
    have hu' : u < m := by simpa using hu
    have q := (run_J hi 0 u hm hu').mpr (h u hu')
    rw [<- q, f0]
    congr 1
    exact propext eq_comm
   rw [e]
   obtain ⟨n, rfl⟩ : ∃ n, m = n + 1 := ⟨m - 1, by omega⟩
   rw [List.range_succ_eq_map, List.filter_cons_of_pos (by simp)]
   simp
  unfold cnt
  rw [this]; rfl
theorem cnt_congr {m : Nat} {ls ks : List (Nat × Nat)} (hi : In m ls) (hk : In m ks) (h : ∀ u v, u < m -> v < m -> (J ls u v ↔ J ks u v)) : cnt m (run m ls) = cnt m (run m ks) := by
 have o1 := run_ok hi
 have o2 := run_ok hk
 unfold cnt roots
 congr 1
 apply List.filter_congr
 intro u hu
 have hu' : u < m := by simpa using hu
 congr 1
 apply propext
 have half : ∀ {f g : List Nat}, Ok m f -> Ok m g -> (∀ u v, u < m -> v < m -> (gt f u = gt f v ↔ gt g u = gt g v)) -> gt f u = u -> gt g u = u := by
  intro f g of og hfg e
  have l1 := og.le u hu'
  have l2 := og.lt hu'
  have r := og.rt u hu'
  have q : gt f (gt g u) = gt f u := (hfg _ _ l2 hu').mpr r
  rw [e] at q
  have := of.le _ l2
  omega
 have e1 : ∀ u v, u < m -> v < m -> (gt (run m ls) u = gt (run m ls) v ↔ gt (run m ks) u = gt (run m ks) v) := fun u v hu hv => (run_J hi u v hu hv).trans ((h u v hu hv).trans (run_J hk u v hu hv).symm)
 exact ⟨half o1 o2 e1, half o2 o1 fun u v hu hv => (e1 u v hu hv).symm⟩
noncomputable def Ac (m : Nat) (ls : List (Nat × Nat)) : Prop := acyc (List.range m) ls = true
theorem ac_iff {m : Nat} {ls : List (Nat × Nat)} (hi : In m ls) : Ac m ls ↔ cnt m (run m ls) + ls.length = m := by
 have := (cnt_run ls (List.range m) hi (ok_range m)).2
 rw [cnt_range] at this
 exact this
theorem cnt_ge {m : Nat} {ls : List (Nat × Nat)} (hi : In m ls) : m <= cnt m (run m ls) + ls.length := by
 have := (cnt_run ls (List.range m) hi (ok_range m)).1
 rw [cnt_range] at this
 exact this
theorem acyc_pre : ∀ (a b : List (Nat × Nat)) (f : List Nat), acyc f (a ++ b) = true -> acyc f a = true
 | [], _, _, _ => rfl
 | x :: r, b, f, h => by
  rw [List.cons_append] at h
  simp only [acyc, Bool.and_eq_true] at h ⊢
  exact ⟨h.1, acyc_pre r b _ h.2⟩
theorem nodup_len {l r : List Nat} (hn : l.Nodup) (h : ∀ x ∈ l, x ∈ r) : l.length <= r.length := by
 induction l generalizing r with
 | nil => simp
 | cons x l ih =>
  obtain ⟨hx, hn⟩ := List.nodup_cons.mp hn
  have hr := h x List.mem_cons_self
  have := ih (r := r.erase x) hn fun y hy => by
   have ne : y ≠ x := fun e => by subst e; exact hx hy
   exact (List.mem_erase_of_ne ne).mpr (h y (List.mem_cons_of_mem _ hy))
  rw [List.length_erase_of_mem hr] at this
  have : 0 < r.length := List.length_pos_of_mem hr
  simp only [List.length_cons]
  omega
section
variable {m : Nat} {ls : List (Nat × Nat)}
noncomputable def Nm (ls : List (Nat × Nat)) (c : List Nat) : Prop := ∀ i ∈ c, i < ls.length
theorem ends_len (c : List Nat) : (ends ls c).length = c.length := by simp [ends]
theorem ends_app (a b : List Nat) : ends ls (a ++ b) = ends ls a ++ ends ls b := by simp [ends]
theorem ends_mem {c : List Nat} {i : Nat} (h : i ∈ c) : ls.getD i (0, 0) ∈ ends ls c := List.mem_map.mpr ⟨i, h, rfl⟩
theorem J.sub {c d : List Nat} (h : ∀ i ∈ c, i ∈ d) {u v : Nat} (j : J (ends ls c) u v) : J (ends ls d) u v := j.mono fun l hl => by
 obtain ⟨i, hi, rfl⟩ := List.mem_map.mp hl
 exact ends_mem (h i hi)
theorem ac_sub (hi : In m ls) {c a : List Nat} (hc : Nm ls c) (ac : Ac m (ends ls c)) (hn : a.Nodup) (hs : ∀ i ∈ a, i ∈ c) : Ac m (ends ls a) := by
 have ha : Nm ls a := fun i h => hc i (hs i h)
 have hr : Nm ls (c.filter fun i => !decide (i ∈ a)) := fun i h => hc i (List.mem_filter.mp h).1
 have i1 := ends_in hi hc
 have i2 : In m (ends ls (a ++ c.filter fun i => !decide (i ∈ a))) := ends_in hi fun i h => by
  rcases List.mem_append.mp h with h | h
  ·exact ha i h
  ·exact hr i h
 have e : cnt m (run m (ends ls (a ++ c.filter fun i => !decide (i ∈ a)))) = cnt m (run m (ends ls c)) := cnt_congr i2 i1 fun u v hu hv => by
  constructor
  ·exact J.sub fun i h => by
    rcases List.mem_append.mp h with h | h
    ·exact hs i h
    ·exact (List.mem_filter.mp h).1
  ·exact J.sub fun i h => by
    by_cases q : i ∈ a
    ·exact List.mem_append_left _ q
    ·exact List.mem_append_right _ (List.mem_filter.mpr ⟨h, by simpa using q⟩)
 have l1 : a.length <= (c.filter fun i => decide (i ∈ a)).length := nodup_len hn fun x hx => List.mem_filter.mpr ⟨hs x hx, by simpa using hx⟩
 have l2 : (c.filter fun i => decide (i ∈ a)).length + (c.filter fun i => !decide (i ∈ a)).length = c.length := by
  have : ∀ l : List Nat, (l.filter fun i => decide (i ∈ a)).length + (l.filter fun i => !decide (i ∈ a)).length = l.length := by
   intro l
   induction l with
   | nil => rfl
   | cons x l ih => by_cases q : x ∈ a <;> simp [q] <;> omega
  exact this c
 have q1 := (ac_iff i1).mp ac
 have q2 := cnt_ge i2
 rw [ends_len] at q1 q2
 rw [List.length_append] at q2
 have : Ac m (ends ls (a ++ c.filter fun i => !decide (i ∈ a))) := (ac_iff i2).mpr (by rw [ends_len, List.length_append]; omega)
 unfold Ac at this ⊢
 rw [ends_app] at this
 exact acyc_pre _ _ _ this
noncomputable def gext (m : Nat) (ls : List (Nat × Nat)) (a : List Nat) : List Nat -> List Nat
 | [] => a
 | t :: r => if gt (run m (ends ls a)) (ls.getD t (0, 0)).1 = gt (run m (ends ls a)) (ls.getD t (0, 0)).2 then gext m ls a r else gext m ls (a ++ [t]) r
theorem gext_pre : ∀ (r a : List Nat), ∃ r', gext m ls a r = a ++ r' /\ r'.Sublist r
 | [], a => ⟨[], by simp [gext], List.Sublist.refl _⟩
 | t :: r, a => by
  unfold gext
  split
  ·obtain ⟨r', e, s⟩ := gext_pre r a
   exact ⟨r', e, s.cons t⟩
  ·obtain ⟨r', e, s⟩ := gext_pre r (a ++ [t])
   exact ⟨t :: r', by rw [e]; simp, s.cons₂ t⟩
theorem gext_ac : ∀ (r a : List Nat), Ac m (ends ls a) -> Ac m (ends ls (gext m ls a r))
 | [], a, h => h
 | t :: r, a, h => by
  unfold gext
  split
  ·exact gext_ac r a h
  ·rename_i ne
   refine gext_ac r (a ++ [t]) ?_
   have e : ends ls (a ++ [t]) = ends ls a ++ [ls.getD t (0, 0)] := by simp [ends]
   unfold Ac at h ⊢
   rw [e, acyc_append, h, Bool.true_and]
   exact decide_eq_true ne
theorem gext_J (hi : In m ls) : ∀ (r a : List Nat), Nm ls a -> Nm ls r -> ∀ t ∈ r, J (ends ls (gext m ls a r)) (ls.getD t (0, 0)).1 (ls.getD t (0, 0)).2
 | [], a, _, _, t, ht => by cases ht
 | x :: r, a, ha, hr, t, ht => by
  have hx := hr x List.mem_cons_self
  have hr' : Nm ls r := fun i h => hr i (List.mem_cons_of_mem _ h)
  have hl : (ls.getD x (0, 0)).1 < m /\ (ls.getD x (0, 0)).2 < m := by
   have : ls.getD x (0, 0) ∈ ls := by
    rw [List.getD_eq_getElem?_getD, List.getElem?_eq_getElem hx]
    exact List.getElem_mem hx
   exact hi _ this
  unfold gext
  split
  ·rename_i e
   rcases List.mem_cons.mp ht with q | ht
   ·subst q
    have j := (run_J (ends_in hi ha) _ _ hl.1 hl.2).mp e
    obtain ⟨r', e', _⟩ := gext_pre (m := m) (ls := ls) r a
    rw [e']
    exact j.sub fun i h => List.mem_append_left _ h
   ·exact gext_J hi r a ha hr' t ht
  ·have ha' : Nm ls (a ++ [x]) := fun i h => by
    rcases List.mem_append.mp h with h | h
    ·exact ha i h
    ·have : i = x := by simpa using h
     subst this; exact hx
   rcases List.mem_cons.mp ht with q | ht
   ·subst q
    obtain ⟨r', e', _⟩ := gext_pre (m := m) (ls := ls) r (a ++ [t])
    rw [e']
    have : J (ends ls (a ++ [t])) (ls.getD t (0, 0)).1 (ls.getD t (0, 0)).2 := .line (by simpa [ends] using List.mem_append_right (ends ls a) (List.mem_singleton.mpr rfl))
    exact this.sub fun i h => List.mem_append_left _ h
   ·exact gext_J hi r (a ++ [x]) ha' hr' t ht
theorem sp_len (hi : In m ls) (hm : 0 < m) {c : List Nat} (hc : Nm ls c) (ac : Ac m (ends ls c)) (sp : Sp m (ends ls c)) : c.length + 1 = m := by
 have i1 := ends_in hi hc
 have q := (ac_iff i1).mp ac
 have o := (one_iff i1 hm).mpr sp
 rw [groups_len] at o
 rw [ends_len] at q
 omega
theorem sp_ac (hi : In m ls) (hm : 0 < m) {c : List Nat} (hc : Nm ls c) (hl : c.length + 1 = m) (sp : Sp m (ends ls c)) : Ac m (ends ls c) := by
 have i1 := ends_in hi hc
 have o := (one_iff i1 hm).mpr sp
 rw [groups_len] at o
 exact (ac_iff i1).mpr (by rw [ends_len]; omega)
theorem exchange (hi : In m ls) (hm : 0 < m) {T Z : List Nat} {e : Nat} (hT : Nm ls T) (hZ : Nm ls Z) (nT : T.Nodup) (lT : T.length + 1 = m) (sT : Sp m (ends ls T)) (aZ : Ac m (ends ls Z)) (he : e ∈ Z) (hne : e ∉ T) :
  ∃ out, out ∈ T /\ out ∉ Z /\ Sp m (ends ls (T.filter (fun i => decide (i ≠ out)) ++ [e])) := by
 have nA : (e :: T.filter fun i => decide (i ∈ Z)).Nodup := List.nodup_cons.mpr ⟨fun h => hne (List.mem_filter.mp h).1, nT.sublist List.filter_sublist⟩
 have sA : ∀ i ∈ (e :: T.filter fun i => decide (i ∈ Z)), i ∈ Z := fun i h => by
  rcases List.mem_cons.mp h with q | h
  ·subst q; exact he
  ·simpa using (List.mem_filter.mp h).2
 have acA := ac_sub hi hZ aZ nA sA
 have hA : Nm ls (e :: T.filter fun i => decide (i ∈ Z)) := fun i h => hZ i (sA i h)
 have hU : Nm ls (T.filter fun i => !decide (i ∈ Z)) := fun i h => hT i (List.mem_filter.mp h).1
 obtain ⟨U', eB, sU⟩ := gext_pre (m := m) (ls := ls) (T.filter fun i => !decide (i ∈ Z)) (e :: T.filter fun i => decide (i ∈ Z))
 have acB := gext_ac (m := m) (ls := ls) (T.filter fun i => !decide (i ∈ Z)) (e :: T.filter fun i => decide (i ∈ Z)) acA
 have jB := gext_J hi (T.filter fun i => !decide (i ∈ Z)) (e :: T.filter fun i => decide (i ∈ Z)) hA hU
 rw [eB] at acB jB
 have hB : Nm ls ((e :: T.filter fun i => decide (i ∈ Z)) ++ U') := fun i h => by
  rcases List.mem_append.mp h with h | h
  ·exact hA i h
  ·exact hU i (sU.subset h)
 have sB : Sp m (ends ls ((e :: T.filter fun i => decide (i ∈ Z)) ++ U')) := fun u hu => (sT u hu).le fun a b hab => by
  obtain ⟨i, hiT, hab'⟩ := List.mem_map.mp hab
  by_cases q : i ∈ Z
  ·refine .line ?_
   rw [<- hab']
   exact ends_mem (List.mem_append_left _ (List.mem_cons_of_mem _ (List.mem_filter.mpr ⟨hiT, by simpa using q⟩)))
  ·have := jB i (List.mem_filter.mpr ⟨hiT, by simpa using q⟩)
   rw [hab'] at this
   exact this
 have lB := sp_len hi hm hB acB sB
 have lT2 : (T.filter fun i => decide (i ∈ Z)).length + (T.filter fun i => !decide (i ∈ Z)).length = T.length := by
  have : ∀ l : List Nat, (l.filter fun i => decide (i ∈ Z)).length + (l.filter fun i => !decide (i ∈ Z)).length = l.length := by
   intro l
   induction l with
   | nil => rfl
   | cons x l ih => by_cases q : x ∈ Z <;> simp [q] <;> omega
  exact this T
 have ex : ∃ out, out ∈ T.filter (fun i => !decide (i ∈ Z)) /\ out ∉ U' := by
  refine Classical.byContradiction fun no => ?_
  have : (T.filter fun i => !decide (i ∈ Z)).length <= U'.length := nodup_len (nT.sublist List.filter_sublist) fun x hx => Classical.byContradiction fun hx' => no ⟨x, hx, hx'⟩
  simp only [List.length_append, List.length_cons] at lB
  omega
 obtain ⟨out, ho1, ho2⟩ := ex
 obtain ⟨hoT, hoZ⟩ := List.mem_filter.mp ho1
 have hoZ' : out ∉ Z := by simpa using hoZ
 refine ⟨out, hoT, hoZ', fun u hu => (sB u hu).sub fun i h => ?_⟩
 rcases List.mem_append.mp h with h | h
 ·rcases List.mem_cons.mp h with q | h
  ·subst q; simp
  ·obtain ⟨a, b⟩ := List.mem_filter.mp h
   refine List.mem_append_left _ (List.mem_filter.mpr ⟨a, ?_⟩)
   have : i ≠ out := fun q => by subst q; exact hoZ' (by simpa using b)
   simpa using this
 ·have a := (List.mem_filter.mp (sU.subset h)).1
  refine List.mem_append_left _ (List.mem_filter.mpr ⟨a, ?_⟩)
  have : i ≠ out := fun q => by subst q; exact ho2 h
  simpa using this
end
end UF
end
section
namespace TW
open PySem (Addr Obj Operator CmpOp)
open UF
noncomputable def insN (i : Nat) : List Nat -> List Nat
 | [] => [i]
 | x :: r => if i < x then i :: x :: r else x :: insN i r
noncomputable def srtN (l : List Nat) : List Nat := l.foldr insN []
theorem ins_cast (i : Nat) : ∀ l : List Nat, insI (i : Int) (l.map fun x : Nat => (x : Int)) = (insN i l).map fun x : Nat => (x : Int)
 | [] => rfl
 | x :: r => by
  by_cases h : i < x
  ·have h' : (i : Int) < (x : Int) := by omega
   simp [insI, insN, h]
  ·have h' : ¬ (i : Int) < (x : Int) := by omega
   simp [insI, insN, h, ins_cast i r]
theorem srt_cast : ∀ l : List Nat, srtI (l.map fun x : Nat => (x : Int)) = (srtN l).map fun x : Nat => (x : Int)
 | [] => rfl
 | x :: r => by
  show insI (x : Int) (srtI (r.map fun x : Nat => (x : Int))) = _
  rw [srt_cast r, ins_cast]
  rfl
theorem ints_dn : ∀ l : List Nat, intsOf (l.map dn) = some (l.map fun x : Nat => (x : Int))
 | [] => rfl
 | x :: r => by simp [intsOf, ints_dn r]
theorem sorted_dn (l : List Nat) (h : l.length < 64) : b1D .sorted (.lst (l.map dn)) = some (.fr, .lst ((srtN l).map dn)) := by
 show ((intsOf (l.map dn)).bind fun l => if l.length < 64 then some (Kd.fr, D.lst ((srtI l).map D.int)) else none) = _
 rw [ints_dn]
 show (if (l.map fun x : Nat => (x : Int)).length < 64 then _ else none) = _
 rw [if_pos (by simpa using h), srt_cast, List.map_map]
 rfl
theorem insN_perm (i : Nat) : ∀ l : List Nat, (insN i l).Perm (i :: l)
 | [] => List.Perm.refl _
 | x :: r => by
  unfold insN
  split
  ·exact List.Perm.refl _
  ·exact ((insN_perm i r).cons x).trans (List.Perm.swap i x r)
theorem srtN_perm : ∀ l : List Nat, (srtN l).Perm l
 | [] => List.Perm.refl _
 | x :: r => (insN_perm x _).trans ((srtN_perm r).cons x)
theorem insN_le (i : Nat) : ∀ l : List Nat, l.Pairwise (· <= ·) -> (insN i l).Pairwise (· <= ·)
 | [], _ => by simp [insN]
 | x :: r, h => by
  obtain ⟨h1, h2⟩ := List.pairwise_cons.mp h
  unfold insN
  split
  ·rename_i hl
   refine List.pairwise_cons.mpr ⟨fun y hy => ?_, h⟩
   rcases List.mem_cons.mp hy with e | hy
   ·subst e; omega
   ·have := h1 y hy; omega
  ·rename_i hl
   refine List.pairwise_cons.mpr ⟨fun y hy => ?_, insN_le i r h2⟩
   rcases List.mem_cons.mp ((insN_perm i r).mem_iff.mp hy) with e | hy
   ·subst e; omega
   ·exact h1 y hy
theorem srtN_le : ∀ l : List Nat, (srtN l).Pairwise (· <= ·)
 | [] => List.Pairwise.nil
 | x :: r => insN_le x _ (srtN_le r)
theorem srtN_lt {l : List Nat} (h : l.Nodup) : (srtN l).Pairwise (· < ·) := by
 have a := srtN_le l
 have b : (srtN l).Pairwise (· ≠ ·) := (srtN_perm l).nodup_iff.mpr h
 exact (a.and b).imp fun ⟨x, y⟩ => by omega
theorem srtN_mem {l : List Nat} {x : Nat} : x ∈ srtN l ↔ x ∈ l := (srtN_perm l).mem_iff
theorem srtN_len (l : List Nat) : (srtN l).length = l.length := (srtN_perm l).length_eq
theorem rising_ext {a b : List Nat} (ha : a.Pairwise (· < ·)) (hb : b.Pairwise (· < ·)) (h : ∀ x, x ∈ a ↔ x ∈ b) : a = b := by
 induction a generalizing b with
 | nil =>
  cases b with
  | nil => rfl
  | cons y b => exact absurd ((h y).mpr List.mem_cons_self) (by simp)
 | cons x a ih =>
  cases b with
  | nil => exact absurd ((h x).mp List.mem_cons_self) (by simp)
  | cons y b =>
   obtain ⟨a1, a2⟩ := List.pairwise_cons.mp ha
   obtain ⟨b1, b2⟩ := List.pairwise_cons.mp hb
   have e : x = y := by
    have p := (h x).mp List.mem_cons_self
    have q := (h y).mpr List.mem_cons_self
    rcases List.mem_cons.mp p with p | p
    ·exact p
    ·rcases List.mem_cons.mp q with q | q
     ·exact q.symm
     ·have := b1 x p; have := a1 y q; omega
   subst e
   rw [ih a2 b2 fun z => ?_]
   constructor
   ·intro hz
    have := a1 z hz
    rcases List.mem_cons.mp ((h z).mp (List.mem_cons_of_mem _ hz)) with q | q
    ·omega
    ·exact q
   ·intro hz
    have := b1 z hz
    rcases List.mem_cons.mp ((h z).mpr (List.mem_cons_of_mem _ hz)) with q | q
    ·omega
    ·exact q
noncomputable def exch (T : List Nat) (out e : Nat) : List Nat := srtN (T.filter (fun i => decide (i ≠ out)) ++ [e])
noncomputable def Bexch : SS := (block [.ret (.b1 .tuple (.b1 .sorted (.bin .Add (.comp [none, none, some 1] (.one 1) (.sq (.var 0)) (.so (.cmp .NotEq (.var 1) (.var 2))) (.var 1)) (.ls (slice [(.var 2)])))))])
theorem exch_ev (p : Nat -> List D -> Option D) {T : List Nat} (out e : Nat) (hT : T.length <= 60) : runF p 5 Bexch [tupD T, dn out, dn e] = some (tupD (exch T out e)) := by
 have c : (ev p (.comp [none, none, some 1] (.one 1) (.sq (.var 0)) (.so (.cmp .NotEq (.var 1) (.var 2))) (.var 1)) [some (.val (tupD T)), some (.val (dn out)), some (.val (dn e)), none, none]).1 = some (.fr, .lst ((T.filter fun i => decide (i ≠ out)).map dn)) := by
  refine comp_filter (em := dn) (c := fun i => decide (i ≠ out)) (xs := T) (k := .fz) (by simp [tupD]) (by omega) rfl ?_
  intro i _
  by_cases h : i = out
  ·subst h; simp
  ·have h' : ¬ (i : Int) = (out : Int) := by omega
   simp [h, h']
 have hl : (T.filter fun i => decide (i ≠ out)).length <= 60 := Nat.le_trans (List.length_filter_le _ _) hT
 have ad : opD .Add (.lst ((T.filter fun i => decide (i ≠ out)).map dn)) (.lst [dn e]) = some (.fr, .lst ((T.filter fun i => decide (i ≠ out)).map dn ++ [dn e])) := opD_add_l (by rw [List.length_map]; simp only [List.length_cons, List.length_nil]; omega)
 have so := sorted_dn (T.filter (fun i => decide (i ≠ out)) ++ [e]) (by rw [List.length_append]; simp only [List.length_cons, List.length_nil]; omega)
 rw [List.map_append] at so
 show left (evSS p (.cons _ .nil) [some (.val (tupD T)), some (.val (dn out)), some (.val (dn e)), none, none]) = _
 rw [evSS_rt (ret_fz (d := tupD (exch T out e)) ?_)]
 ·rfl
 ·have b := bin_ev (p := p) (op := .Add) (b := .ls (slice [(.var 2)])) (x := (.fr, .lst ((T.filter fun i => decide (i ≠ out)).map dn))) (y := (.fr, .lst [dn e])) c (by simp) ad
  rw [ev_b1, vt_1, ev_b1, vt_1, b]
  show ((b1D .sorted (.lst ((T.filter fun i => decide (i ≠ out)).map dn ++ [dn e]))).bind fun x => b1D .tuple x.2) = _
  simp only [List.map_cons, List.map_nil] at so
  rw [so]
  rfl
noncomputable def Bgof : SS := (block [.ret (.b1 .tuple (.comp [none, none, some 1, some 0] (.one 1) (.r1 (.b1 .len (.var 0))) (.so (.cmp .Eq (.ix (.var 3) (.var 1)) (.var 2))) (.var 1)))])
theorem gof_ev (p : Nat -> List D -> Option D) {f : List Nat} (r : Nat) (hf : f.length <= 1000) : runF p 5 Bgof [natsD f, dn r] = some (tupD ((List.range f.length).filter fun u => decide (gt f u = r))) := by
 have c : (ev p (.comp [none, none, some 1, some 0] (.one 1) (.r1 (.b1 .len (.var 0))) (.so (.cmp .Eq (.ix (.var 3) (.var 1)) (.var 2))) (.var 1)) [some (.val (natsD f)), some (.val (dn r)), none, none, none]).1 = some (.fr, .lst (((List.range f.length).filter fun u => decide (gt f u = r)).map dn)) := by
  refine comp_filter (em := dn) (c := fun u => decide (gt f u = r)) (xs := List.range f.length) (k := .fz) (by simp [natsD, rngOk_nat (show f.length <= 100000 by omega), rngD_0]) (by simp; omega) rfl ?_
  intro u hu
  have hu' : u < f.length := by simpa using hu
  by_cases h : gt f u = r
  ·simp [natsD, atI_nat, getm hu', h]
  ·have h' : ¬ ((gt f u : Nat) : Int) = (r : Int) := by omega
   simp [natsD, atI_nat, getm hu', h, h']
 show left (evSS p (.cons _ .nil) [some (.val (natsD f)), some (.val (dn r)), none, none, none]) = _
 rw [evSS_rt (ret_fz (d := tupD ((List.range f.length).filter fun u => decide (gt f u = r))) (by simp [c, tupD]))]
 rfl
noncomputable def Bgp1 (iT : Nat) : SS := (block [.asg false 2 (.call iT (slice [(.var 2), (.ix (.var 2) (.ix (.var 3) (.cst (.int 0)))), (.ix (.var 2) (.ix (.var 3) (.cst (.int 1))))]))])
noncomputable def Bgp (iT iO : Nat) : SS := (block [.asg false 2 (.rngl (.var 0)), .fr (.one 3) (.sq (.var 1)) (Bgp1 iT), .ret (.b1 .tuple (.comp [none, none, none, some 2] (.one 1) (.r1 (.var 0)) (.so (.cmp .Eq (.ix (.var 3) (.var 1)) (.var 1))) (.call iO (slice [(.var 3), (.var 1)]))))])
theorem gp_ev (p : Nat -> List D -> Option D) {iT iO m : Nat} {β : Type} {em : β -> D} {pr : β -> Nat × Nat} {xs : List β} {s : D} (hs : seqOf s = some (xs.map em)) (hem : ∀ x, ∃ rest, em x = .tup (dn (pr x).1 :: dn (pr x).2 :: rest)) (hi : In m (xs.map pr)) (hm : m <= 100)
  (hT : ∀ (f : List Nat) (x y : Nat), f.length = m -> p iT [natsD f, dn x, dn y] = some (natsD (mrg f x y)))
  (hO : ∀ (f : List Nat) (r : Nat), f.length = m -> p iO [natsD f, dn r] = some (tupD ((List.range f.length).filter fun u => decide (gt f u = r)))) :
  runF p 8 (Bgp iT iO) [dn m, s] = some (.tup ((groups m (xs.map pr)).map tupD)) := by
 have e0 : evS p (.asg false 2 (.rngl (.var 0))) [some (.val (dn m)), some (.val s), none, none, none, none, none, none] = some (.nx [some (.val (dn m)), some (.val s), some (.val (natsD (List.range m))), none, none, none, none, none]) := by
  have h2 : m <= 65536 := by omega
  simp [rngOk_nat (show m <= 100000 by omega), h2, rngD_0, natsD]
 obtain ⟨r1, e1, x3, rfl, hl⟩ := for_fold (p := p) (tg := .one 3) (it := .sq (.var 1)) (b := Bgp1 iT) (em := em) (k := .fz) (xs := xs) (s := List.range m) (r := [some (.val (dn m)), some (.val s), some (.val (natsD (List.range m))), none, none, none, none, none])
  (fun (f : List Nat) r => ∃ x3, r = [some (.val (dn m)), some (.val s), some (.val (natsD f)), x3, none, none, none, none] /\ f.length = m) (fun f x => step f (pr x)) (by simp [hs]) (by decide) ⟨none, rfl, by simp⟩ (by
   rintro f x r hx ⟨x3, rfl, hf⟩
   obtain ⟨h1, h2⟩ := hi _ (List.mem_map.mpr ⟨x, hx, rfl⟩)
   obtain ⟨rest, he⟩ := hem x
   have g1 := getm (g := f) (b := (pr x).1) (by omega)
   have g2 := getm (g := f) (b := (pr x).2) (by omega)
   have ht := hT f (gt f (pr x).1) (gt f (pr x).2) hf
   refine ⟨_, _, rfl, ?_, some (.val (em x)), rfl, by simp [step, mrg, hf]⟩
   show evSS p (.cons _ .nil) [some (.val (dn m)), some (.val s), some (.val (natsD f)), some (.val (em x)), none, none, none, none] = _
   rw [he]
   simp only [natsD] at ht
   simp [natsD, atI_nat, g1, g2, ht, step])
 have fm : xs.foldl (fun f x => step f (pr x)) (List.range m) = run m (xs.map pr) := by
  unfold run
  rw [List.foldl_map]
 rw [fm] at e1 hl
 have ok := run_ok hi
 generalize hF : run m (xs.map pr) = f at *
 have c : (ev p (.comp [none, none, none, some 2] (.one 1) (.r1 (.var 0)) (.so (.cmp .Eq (.ix (.var 3) (.var 1)) (.var 1))) (.call iO (slice [(.var 3), (.var 1)]))) [some (.val (dn m)), some (.val s), some (.val (natsD f)), x3, none, none, none, none]).1 =
   some (.fr, .lst ((List.range m).filterMap fun u => if gt f u = u then some (tupD (cls m f u)) else none)) := by
  refine comp_ev (em := dn) (g := fun u => if gt f u = u then some (tupD (cls m f u)) else none) (xs := List.range m) (k := .fz) (by simp [rngOk_nat (show m <= 100000 by omega), rngD_0]) (by simp; omega) rfl ?_
  intro u hu
  have hu' : u < f.length := by rw [hl]; simpa using hu
  by_cases h : gt f u = u
  ·have ho := hO f u hl
   have ec : ((List.range f.length).filter fun v => decide (gt f v = u)) = cls m f u := by
    unfold cls
    rw [hl, h]
   rw [ec] at ho
   simp only [natsD] at ho
   simp [natsD, atI_nat, getm hu', h, ho]
  ·have h' : ¬ ((gt f u : Nat) : Int) = (u : Int) := by omega
   simp [natsD, atI_nat, getm hu', h, h']
 have ef : ((List.range m).filterMap fun u => if gt f u = u then some (tupD (cls m f u)) else none) = (groups m (xs.map pr)).map tupD := by
  unfold groups roots
  rw [hF, List.map_map]
  generalize List.range m = l
  induction l with
  | nil => rfl
  | cons u l ih => by_cases h : gt f u = u <;> simp [h, ih]
 rw [ef] at c
 show left (evSS p (.cons _ (.cons _ (.cons _ .nil))) [some (.val (dn m)), some (.val s), none, none, none, none, none, none]) = _
 rw [evSS_nx e0, evSS_nx e1]
 simp only [slice_cons, slice_nil] at c
 simp [c]
noncomputable def Bjoined (iG : Nat) : SS := (block [.asg false 2 (.ix (.var 0) (.cst (.int 1))), .ret (.call iG (slice [(.ix (.var 0) (.cst (.int 0))), (.comp [none, none, some 2] (.one 1) (.sq (.var 1)) .no (.ix (.var 2) (.var 1)))]))])
theorem joined_ev (p : Nat -> List D -> Option D) {iG m : Nat} {ls : List (Nat × Nat × Nat)} {c : List Nat} (hc : ∀ i ∈ c, i < ls.length) (hl : c.length <= 1000)
  (hG : ∀ q : List (Nat × Nat × Nat), (∀ x ∈ q, x ∈ ls) -> p iG [dn m, .lst (q.map lineD)] = some (.tup ((groups m (prs q)).map tupD))) :
  runF p 4 (Bjoined iG) [groundD m ls, tupD c] = some (.tup ((groups m (ends (prs ls) c)).map tupD)) := by
 have e1 : evS p (.asg false 2 (.ix (.var 0) (.cst (.int 1)))) [some (.val (groundD m ls)), some (.val (tupD c)), none, none] = some (.nx [some (.val (groundD m ls)), some (.val (tupD c)), some (.val (.tup (ls.map lineD))), none]) := by
  simp [groundD]
 have cc : (ev p (.comp [none, none, some 2] (.one 1) (.sq (.var 1)) .no (.ix (.var 2) (.var 1))) [some (.val (groundD m ls)), some (.val (tupD c)), some (.val (.tup (ls.map lineD))), none]).1 = some (.fr, .lst ((c.map fun i => ls.getD i (0, 0, 0)).map lineD)) := by
  refine comp_map (em := dn) (en := lineD) (g := fun i => ls.getD i (0, 0, 0)) (xs := c) (k := .fz) (by simp [tupD]) (by omega) rfl ?_
  intro i hx
  have := hc i hx
  simp [atI_nat, this]
 have g := hG (c.map fun i => ls.getD i (0, 0, 0)) (fun x hx => by
  obtain ⟨i, h1, rfl⟩ := List.mem_map.mp hx
  have := hc i h1
  rw [List.getD_eq_getElem?_getD, List.getElem?_eq_getElem this]
  exact List.getElem_mem this)
 have ee : prs (c.map fun i => ls.getD i (0, 0, 0)) = ends (prs ls) c := by
  unfold prs ends
  rw [List.map_map]
  apply List.map_congr_left
  intro i hx
  have := hc i hx
  simp [this]
 rw [ee] at g
 show left (evSS p (.cons _ (.cons _ .nil)) [some (.val (groundD m ls)), some (.val (tupD c)), none, none]) = _
 rw [evSS_nx e1]
 simp only [groundD, List.map_map, List.getD_eq_getElem?_getD] at cc g
 simp [cc, g, groundD]
end TW
end
section
namespace TW
open PySem (Addr Obj Operator CmpOp)
open UF
structure Tr (m : Nat) (ls : List (Nat × Nat)) (T : List Nat) : Prop where
 ris : T.Pairwise (· < ·)
 nm : Nm ls T
 len : T.length + 1 = m
 sp : Sp m (ends ls T)
theorem Tr.nd {m : Nat} {ls : List (Nat × Nat)} {T : List Nat} (h : Tr m ls T) : T.Nodup := h.ris.imp fun h => Nat.ne_of_lt h
theorem oneG_iff {m : Nat} {ls : List (Nat × Nat)} (hi : In m ls) (hm : 0 < m) {c : List Nat} (hc : Nm ls c) : oneG m ls c = true ↔ Sp m (ends ls c) := by
 unfold oneG
 rw [decide_eq_true_eq]
 exact one_iff (ends_in hi hc) hm
theorem filter_ne_len {T : List Nat} (h : T.Nodup) {o : Nat} (ho : o ∈ T) : (T.filter fun i => decide (i ≠ o)).length + 1 = T.length := by
 induction T with
 | nil => cases ho
 | cons x T ih =>
  obtain ⟨h1, h2⟩ := List.nodup_cons.mp h
  by_cases e : x = o
  ·subst e
   rw [List.filter_cons_of_neg (by simp), List.filter_eq_self.mpr]
   ·rfl
   ·intro y hy
    have : y ≠ x := fun q => by subst q; exact h1 hy
    simpa using this
  ·rw [List.filter_cons_of_pos (by simpa using e), List.length_cons, List.length_cons, ih h2 ((List.mem_cons.mp ho).resolve_left fun q => e q.symm)]
theorem exch_mem {T : List Nat} {o e x : Nat} : x ∈ exch T o e ↔ (x ∈ T /\ x ≠ o) \/ x = e := by
 unfold exch
 rw [srtN_mem, List.mem_append, List.mem_filter]
 simp
theorem exch_tr {m : Nat} {ls : List (Nat × Nat)} (hi : In m ls) (hm : 0 < m) {T : List Nat} {o e : Nat} (h : Tr m ls T) (ho : o ∈ T) (he : e ∉ T) (hl : e < ls.length) (g : oneG m ls (exch T o e) = true) : Tr m ls (exch T o e) := by
 have nm : Nm ls (exch T o e) := fun i hx => by
  rcases exch_mem.mp hx with ⟨q, _⟩ | q
  ·exact h.nm i q
  ·subst q; exact hl
 refine ⟨srtN_lt ?_, nm, ?_, (oneG_iff hi hm nm).mp g⟩
 ·refine List.nodup_append.mpr ⟨h.nd.sublist List.filter_sublist, by simp, fun a ha b hb q => ?_⟩
  have : b = e := by simpa using hb
  subst this; subst q
  exact he (List.mem_filter.mp ha).1
 ·unfold exch
  rw [srtN_len, List.length_append]
  have := filter_ne_len h.nd ho
  simp only [List.length_cons, List.length_nil]
  have := h.len
  omega
noncomputable def outs (m : Nat) (ls : List (Nat × Nat)) (Z T : List Nat) (e : Nat) : List Nat := (T.filter fun o => oneG m ls (exch T o e)).filter fun o => !decide (o ∈ Z)
noncomputable def pickO (m : Nat) (ls : List (Nat × Nat)) (Z T : List Nat) (e : Nat) : Nat := (outs m ls Z T e).headD 0
theorem pick_ok {m : Nat} {ls : List (Nat × Nat)} (hi : In m ls) (hm : 0 < m) {T Z : List Nat} {e : Nat} (hT : Tr m ls T) (hZ : Tr m ls Z) (he : e ∈ Z) (hne : e ∉ T) :
  ∃ r, outs m ls Z T e = pickO m ls Z T e :: r /\ pickO m ls Z T e ∈ T /\ pickO m ls Z T e ∉ Z /\ oneG m ls (exch T (pickO m ls Z T e) e) = true := by
 obtain ⟨o, h1, h2, h3⟩ := exchange hi hm hT.nm hZ.nm hT.nd hT.len hT.sp (sp_ac hi hm hZ.nm hZ.len hZ.sp) he hne
 have nm : Nm ls (exch T o e) := fun i hx => by
  rcases exch_mem.mp hx with ⟨q, _⟩ | q
  ·exact hT.nm i q
  ·subst q; exact hZ.nm i he
 have g : oneG m ls (exch T o e) = true := (oneG_iff hi hm nm).mpr fun u hu => (h3 u hu).sub fun i hx => by
  rw [exch_mem]
  rcases List.mem_append.mp hx with hx | hx
  ·obtain ⟨a, b⟩ := List.mem_filter.mp hx
   exact .inl ⟨a, by simpa using b⟩
  ·exact .inr (by simpa using hx)
 have mo : o ∈ outs m ls Z T e := List.mem_filter.mpr ⟨List.mem_filter.mpr ⟨h1, g⟩, by simpa using h2⟩
 unfold pickO
 cases h : outs m ls Z T e with
 | nil => rw [h] at mo; cases mo
 | cons x r =>
  have hx : x ∈ outs m ls Z T e := by rw [h]; exact List.mem_cons_self
  obtain ⟨a, b⟩ := List.mem_filter.mp hx
  obtain ⟨a, c⟩ := List.mem_filter.mp a
  exact ⟨r, rfl, a, by simpa using b, c⟩
theorem perm_filter_len {a b : List Nat} (h : a.Perm b) (p : Nat -> Bool) : (a.filter p).length = (b.filter p).length := (h.filter p).length_eq
theorem exch_out_len {T Z : List Nat} {o e : Nat} (h : T.Nodup) (ho : o ∈ T) (hoZ : o ∉ Z) (he : e ∈ Z) : ((exch T o e).filter fun i => !decide (i ∈ Z)).length + 1 = (T.filter fun i => !decide (i ∈ Z)).length := by
 unfold exch
 rw [perm_filter_len (srtN_perm _), List.filter_append, List.length_append, List.filter_cons_of_neg (by simpa using he), List.filter_filter]
 have e1 : (T.filter fun a => (!decide (a ∈ Z)) && decide (a ≠ o)) = (T.filter fun i => !decide (i ∈ Z)).filter fun i => decide (i ≠ o) := by
  rw [List.filter_filter]
  apply List.filter_congr
  intro x _
  exact Bool.and_comm _ _
 rw [e1]
 have := filter_ne_len (h.sublist (List.filter_sublist (p := fun i => !decide (i ∈ Z)))) (o := o) (List.mem_filter.mpr ⟨ho, by simpa using hoZ⟩)
 simpa using this
theorem inD_dn (x : Nat) : ∀ l : List Nat, inD (dn x) (l.map dn) = decide (x ∈ l)
 | [] => rfl
 | y :: r => by
  show (eqD (dn y) (dn x) || inD (dn x) (r.map dn)) = _
  rw [inD_dn x r]
  show ((((y : Nat) : Int) == ((x : Nat) : Int)) || _) = _
  by_cases h : x = y
  ·subst h; simp
  ·have h' : ¬ ((y : Int) = (x : Int)) := by omega
   simp [h, h']
theorem ok_nats (n : Nat) (l : List Nat) : okDs n (l.map dn) = true := okDs_of fun d hd => by
 obtain ⟨x, _, rfl⟩ := List.mem_map.mp hd
 cases n <;> rfl
theorem notin_tup (x : Nat) (l : List Nat) : cmpD .NotIn (dn x) (tupD l) = some (!decide (x ∈ l)) := by
 show (if okD 40 (dn x) && okDs 40 (l.map dn) then some (!inD (dn x) (l.map dn)) else none) = _
 rw [ok_nats, inD_dn]; rfl
end TW
end
section
namespace TW
open PySem (Addr Obj Operator CmpOp)
open UF
noncomputable def gst (m : Nat) (ls : List (Nat × Nat)) (a : List Nat) (t : Nat) : List Nat := if gt (run m (ends ls a)) (ls.getD t (0, 0)).1 = gt (run m (ends ls a)) (ls.getD t (0, 0)).2 then a else a ++ [t]
theorem gext_fold (m : Nat) (ls : List (Nat × Nat)) : ∀ (r a : List Nat), gext m ls a r = r.foldl (gst m ls) a
 | [], a => rfl
 | t :: r, a => by
  unfold gext
  rw [List.foldl_cons]
  unfold gst
  split
  ·rename_i h; rw [gext_fold m ls r a]; rfl
  ·rename_i h; rw [gext_fold m ls r (a ++ [t])]; rfl
theorem line_in {m : Nat} {ls : List (Nat × Nat)} (hi : In m ls) {t : Nat} (ht : t < ls.length) : (ls.getD t (0, 0)).1 < m /\ (ls.getD t (0, 0)).2 < m := by
 refine hi _ ?_
 rw [List.getD_eq_getElem?_getD, List.getElem?_eq_getElem ht]
 exact List.getElem_mem ht
theorem run_snoc (m : Nat) (ls : List (Nat × Nat)) (a : List Nat) (t : Nat) : run m (ends ls (a ++ [t])) = step (run m (ends ls a)) (ls.getD t (0, 0)) := by
 unfold run ends
 rw [List.map_append, List.foldl_append]
 rfl
theorem gcond {m : Nat} {ls : List (Nat × Nat)} (hi : In m ls) {a : List Nat} {t : Nat} (ha : Nm ls a) (ht : t < ls.length) :
  (groups m (ends ls (a ++ [t]))).length < (groups m (ends ls a)).length ↔ ¬ gt (run m (ends ls a)) (ls.getD t (0, 0)).1 = gt (run m (ends ls a)) (ls.getD t (0, 0)).2 := by
 rw [groups_len, groups_len, run_snoc]
 have ok := run_ok (ends_in hi ha)
 obtain ⟨h1, h2⟩ := line_in hi ht
 by_cases e : gt (run m (ends ls a)) (ls.getD t (0, 0)).1 = gt (run m (ends ls a)) (ls.getD t (0, 0)).2
 ·rw [step_same ok e]
  exact iff_of_false (Nat.lt_irrefl _) fun z => z e
 ·have := cnt_step ok h1 h2 e
  exact iff_of_true (by omega) e
noncomputable def Cen (k : Nat) (it : CI) : C := .comp [none, none, some k] (.one 1) it .no (.sl (.ix (.ix (.var 2) (.cst (.int 1))) (.var 1)) .no (.so (.cst (.int 2))))
theorem cen_ev (p : Nat -> List D -> Option D) {r : En} {m k : Nat} {it : CI} {kd : Kd} {ls : List (Nat × Nat × Nat)} {c : List Nat} (hI : evI p it r = some (kd, c.map dn)) (hk : r[k]? = some (some (.val (groundD m ls)))) (hc : ∀ i ∈ c, i < ls.length) (hl : c.length <= 1000) :
  (ev p (Cen k it) r).1 = some (.fr, .lst ((ends (prs ls) c).map pairD)) := by
 refine comp_map (em := dn) (en := pairD) (g := fun i => (prs ls).getD i (0, 0)) (xs := c) (k := kd) hI (by omega) rfl ?_
 intro i hx
 have hg := prs_get (hc i hx)
 simp [hk, groundD, atI_nat, hg, cut2, pairD]
noncomputable def Blt1 (iD : Nat) : SS := (block [.asg false 4 (.bin .Mod (.call iD (slice [(.var 1), (.var 3)])) (.bin .Add (.var 3) (.cst (.int 1)))), .asg false 2 (.bin .Add (.bin .Add (.sl (.var 2) .no (.so (.var 4))) (.ls (slice [(.var 3)]))) (.sl (.var 2) (.so (.var 4)) .no))])
noncomputable def Blt2 (iGr : Nat) : SS := (block [.asg false 6 (.b1 .len (.call iGr (slice [(.ix (.var 0) (.cst (.int 0))), Cen 0 (.sq (.var 5))]))), .ifs (.cmp .Lt (.b1 .len (.call iGr (slice [(.ix (.var 0) (.cst (.int 0))), Cen 0 (.sq (.bin .Add (.var 5) (.ls (slice [(.var 3)]))))]))) (.var 6)) (block [.app 5 (.var 3)]) (block [])])
noncomputable def Bltree (iD iGr : Nat) : SS := (block [.asg false 2 (.ls (slice [])), .fr (.one 3) (.r1 (.b1 .len (.ix (.var 0) (.cst (.int 1))))) (Blt1 iD), .asg true 5 (.ls (slice [])), .fr (.one 3) (.sq (.var 2)) (Blt2 iGr), .ret (.b1 .tuple (.b1 .sorted (.var 5)))])
theorem ltree_ev (p : Nat -> List D -> Option D) {iD iGr m : Nat} {ls : List (Nat × Nat × Nat)} {n : Int} (hm : m <= 100) (hL : ls.length <= 60) (hi : ∀ l ∈ ls, lOk m l) (hD : ∀ n j : Int, p iD [.int n, .int j] = some (.int (drawn n j)))
  (hGr : ∀ q : List (Nat × Nat), In m q -> p iGr [dn m, .lst (q.map pairD)] = some (.tup ((groups m q).map tupD))) :
  ∃ c, runF p 13 (Bltree iD iGr) [groundD m ls, .int n] = some (tupD c) /\ c.Pairwise (· < ·) /\ Nm (prs ls) c /\ Ac m (ends (prs ls) c) /\ ∀ t, t < (prs ls).length -> J (ends (prs ls) c) ((prs ls).getD t (0, 0)).1 ((prs ls).getD t (0, 0)).2 := by
 have hp : (prs ls).length = ls.length := by simp [prs]
 have hin := prs_in hi
 have e1 : evS p (.asg false 2 (.ls (slice []))) [some (.val (groundD m ls)), some (.val (.int n)), none, none, none, none, none, none, none, none, none, none, none] = some (.nx [some (.val (groundD m ls)), some (.val (.int n)), some (.val (natsD [])), none, none, none, none, none, none, none, none, none, none]) := by
  simp [natsD]
 obtain ⟨r1, e2, ord, x3, x4, rfl, hord⟩ := for_foldi (p := p) (tg := .one 3) (it := .r1 (.b1 .len (.ix (.var 0) (.cst (.int 1))))) (b := Blt1 iD) (em := dn) (k := .fz) (xs := List.range ls.length) (s := ()) (r := [some (.val (groundD m ls)), some (.val (.int n)), some (.val (natsD [])), none, none, none, none, none, none, none, none, none, none])
  (fun i _ r => ∃ ord x3 x4, r = [some (.val (groundD m ls)), some (.val (.int n)), some (.val (natsD ord)), x3, x4, none, none, none, none, none, none, none, none] /\ ord.Perm (List.range i)) (fun _ _ => ())
  (by simp [groundD, rngOk_nat (show ls.length <= 100000 by omega), rngD_0]) (by decide) ⟨[], none, none, rfl, List.Perm.refl _⟩ (by
   rintro i _ v r hx ⟨ord, x3, x4, rfl, ho⟩
   obtain ⟨hi1, hv⟩ := List.getElem?_eq_some_iff.mp hx
   have hv' : v = i := by simpa using hv.symm
   subst hv'
   have hv2 : v < ls.length := by simpa using hi1
   have ol : ord.length = v := by simpa using ho.length_eq
   have q1 := Int.emod_nonneg (drawn n v) (show (v : Int) + 1 ≠ 0 by omega)
   have q2 := Int.emod_lt_of_pos (drawn n v) (show (0 : Int) < (v : Int) + 1 by omega)
   obtain ⟨a, ea, ha⟩ : ∃ a : Nat, drawn n v % ((v : Int) + 1) = a /\ a <= v := ⟨(drawn n v % ((v : Int) + 1)).toNat, by omega, by omega⟩
   refine ⟨_, _, rfl, ?_, ord.take a ++ [v] ++ ord.drop a, some (.val (dn v)), some (.val (dn a)), rfl, ?_⟩
   ·have s1 : evS p (.asg false 4 (.bin .Mod (.call iD (slice [(.var 1), (.var 3)])) (.bin .Add (.var 3) (.cst (.int 1))))) [some (.val (groundD m ls)), some (.val (.int n)), some (.val (natsD ord)), some (.val (dn v)), x4, none, none, none, none, none, none, none, none] = some (.nx [some (.val (groundD m ls)), some (.val (.int n)), some (.val (natsD ord)), some (.val (dn v)), some (.val (dn a)), none, none, none, none, none, none, none, none]) := by
     simp (disch := first | omega | simp) [hD, opD_mod, ea]
    show evSS p (.cons _ (.cons _ .nil)) [some (.val (groundD m ls)), some (.val (.int n)), some (.val (natsD ord)), some (.val (dn v)), x4, none, none, none, none, none, none, none, none] = _
    rw [evSS_nx s1]
    have a1 : opD .Add (.lst ((ord.map dn).take a)) (.lst [dn v]) = some (.fr, .lst ((ord.map dn).take a ++ [dn v])) := opD_add_l (by simp; omega)
    have a2 : opD .Add (.lst ((ord.map dn).take a ++ [dn v])) (.lst ((ord.map dn).drop a)) = some (.fr, .lst ((ord.map dn).take a ++ [dn v] ++ (ord.map dn).drop a)) := opD_add_l (by simp; omega)
    simp only [List.append_assoc] at a2
    simp [natsD, cut_to, cut_from, a1, a2, List.map_take, List.map_drop]
   ·have : (ord.take a ++ [v] ++ ord.drop a).Perm (v :: ord) := by
     have h1 : (ord.take a ++ [v] ++ ord.drop a).Perm (v :: (ord.take a ++ ord.drop a)) := by
      rw [List.append_assoc]
      exact List.perm_middle
     rwa [List.take_append_drop] at h1
    rw [List.range_succ]
    exact this.trans ((ho.cons v).trans (List.perm_append_comm (l₁ := [v]) (l₂ := List.range v))))
 rw [List.length_range] at hord
 have hordm : ∀ x, x ∈ ord ↔ x < ls.length := fun x => by rw [hord.mem_iff]; simp
 have hordn : ord.Nodup := hord.nodup_iff.mpr List.nodup_range
 have hordl : ord.length = ls.length := by simpa using hord.length_eq
 have e3 : evS p (.asg true 5 (.ls (slice []))) [some (.val (groundD m ls)), some (.val (.int n)), some (.val (natsD ord)), x3, x4, none, none, none, none, none, none, none, none] = some (.nx [some (.val (groundD m ls)), some (.val (.int n)), some (.val (natsD ord)), x3, x4, some (.own (([] : List Nat).map dn)), none, none, none, none, none, none, none]) := by simp
 obtain ⟨r2, e4, y3, y6, rfl, ha1, ha2⟩ := for_foldi (p := p) (tg := .one 3) (it := .sq (.var 2)) (b := Blt2 iGr) (em := dn) (k := .fz) (xs := ord) (s := ([] : List Nat)) (r := [some (.val (groundD m ls)), some (.val (.int n)), some (.val (natsD ord)), x3, x4, some (.own (([] : List Nat).map dn)), none, none, none, none, none, none, none])
  (fun i a r => ∃ y3 y6, r = [some (.val (groundD m ls)), some (.val (.int n)), some (.val (natsD ord)), y3, x4, some (.own (a.map dn)), y6, none, none, none, none, none, none] /\ Nm (prs ls) a /\ a.length <= i) (gst m (prs ls))
  (by simp [natsD]) (by decide) ⟨x3, none, rfl, (fun i h => by cases h), Nat.le_refl _⟩ (by
   rintro i a t r hx ⟨y3, y6, rfl, hn, hl⟩
   have ht : t < (prs ls).length := by rw [hp]; exact (hordm t).mp (List.mem_of_getElem? hx)
   have hil : i < ls.length := by rw [<- hordl]; exact (List.getElem?_eq_some_iff.mp hx).1
   have hn' : Nm (prs ls) (a ++ [t]) := fun j hj => by
    rcases List.mem_append.mp hj with hj | hj
    ·exact hn j hj
    ·have : j = t := by simpa using hj
     subst this; exact ht
   have hna : ∀ j ∈ a, j < ls.length := fun j hj => by rw [<- hp]; exact hn j hj
   have hnb : ∀ j ∈ a ++ [t], j < ls.length := fun j hj => by rw [<- hp]; exact hn' j hj
   have c1 := cen_ev p (r := [some (.val (groundD m ls)), some (.val (.int n)), some (.val (natsD ord)), some (.val (dn t)), x4, some (.own (a.map dn)), y6, none, none, none, none, none, none]) (k := 0) (it := .sq (.var 5)) (kd := .bo) (c := a) (by simp) rfl hna (by omega)
   have g1 := hGr _ (ends_in hin hn)
   have s1 : evS p (.asg false 6 (.b1 .len (.call iGr (slice [(.ix (.var 0) (.cst (.int 0))), Cen 0 (.sq (.var 5))])))) [some (.val (groundD m ls)), some (.val (.int n)), some (.val (natsD ord)), some (.val (dn t)), x4, some (.own (a.map dn)), y6, none, none, none, none, none, none] =
     some (.nx [some (.val (groundD m ls)), some (.val (.int n)), some (.val (natsD ord)), some (.val (dn t)), x4, some (.own (a.map dn)), some (.val (dn (groups m (ends (prs ls) a)).length)), none, none, none, none, none, none]) := by
    simp only [groundD] at c1
    simp [groundD, c1, g1]
   have ad : opD .Add (.lst (a.map dn)) (.lst [dn t]) = some (.fr, .lst (a.map dn ++ [dn t])) := opD_add_l (by simp; omega)
   have c2 := cen_ev p (r := [some (.val (groundD m ls)), some (.val (.int n)), some (.val (natsD ord)), some (.val (dn t)), x4, some (.own (a.map dn)), some (.val (dn (groups m (ends (prs ls) a)).length)), none, none, none, none, none, none]) (k := 0) (it := .sq (.bin .Add (.var 5) (.ls (slice [(.var 3)])))) (kd := .fz) (c := a ++ [t]) (by simp [ad]) rfl hnb (by simp; omega)
   have g2 := hGr _ (ends_in hin hn')
   have gc := gcond hin hn ht
   by_cases q : gt (run m (ends (prs ls) a)) ((prs ls).getD t (0, 0)).1 = gt (run m (ends (prs ls) a)) ((prs ls).getD t (0, 0)).2
   ·have es : gst m (prs ls) a t = a := if_pos q
    have hlt : ¬ (groups m (ends (prs ls) (a ++ [t]))).length < (groups m (ends (prs ls) a)).length := fun z => (gc.mp z) q
    rw [es]
    refine ⟨_, _, rfl, ?_, some (.val (dn t)), some (.val (dn (groups m (ends (prs ls) a)).length)), rfl, hn, by omega⟩
    show evSS p (.cons _ (.cons _ .nil)) [some (.val (groundD m ls)), some (.val (.int n)), some (.val (natsD ord)), some (.val (dn t)), x4, some (.own (a.map dn)), y6, none, none, none, none, none, none] = _
    rw [evSS_nx s1]
    simp only [groundD, slice_cons, slice_nil] at c2
    have hlt' : ¬ ((groups m (ends (prs ls) (a ++ [t]))).length : Int) < ((groups m (ends (prs ls) a)).length : Int) := by omega
    simp [groundD, c2, g2, hlt]
   ·have es : gst m (prs ls) a t = a ++ [t] := if_neg q
    have hlt := gc.mpr q
    rw [es]
    refine ⟨_, _, rfl, ?_, some (.val (dn t)), some (.val (dn (groups m (ends (prs ls) a)).length)), rfl, hn', by simp; omega⟩
    show evSS p (.cons _ (.cons _ .nil)) [some (.val (groundD m ls)), some (.val (.int n)), some (.val (natsD ord)), some (.val (dn t)), x4, some (.own (a.map dn)), y6, none, none, none, none, none, none] = _
    rw [evSS_nx s1]
    simp only [groundD, slice_cons, slice_nil] at c2
    have hal : a.length < 65536 := by omega
    simp [groundD, c2, g2, hlt, hal])
 rw [<- gext_fold] at ha1 ha2 e4
 have sub : (gext m (prs ls) [] ord).Sublist ord := by
  obtain ⟨r', e, s⟩ := gext_pre (m := m) (ls := prs ls) ord []
  rw [e, List.nil_append]; exact s
 have nd : (gext m (prs ls) [] ord).Nodup := hordn.sublist sub
 have ac := gext_ac (m := m) (ls := prs ls) ord [] rfl
 have jj := gext_J hin ord [] (fun i h => by cases h) (fun i h => by rw [hp]; exact (hordm i).mp h)
 generalize gext m (prs ls) [] ord = c at *
 refine ⟨srtN c, ?_, srtN_lt nd, fun i h => ha1 i (srtN_mem.mp h), ac_sub hin ha1 ac ((srtN_perm c).nodup_iff.mpr nd) fun i h => srtN_mem.mp h, fun t ht => ?_⟩
 ·have so := sorted_dn c (by omega)
  show left (evSS p (.cons _ (.cons _ (.cons _ (.cons _ (.cons _ .nil))))) [some (.val (groundD m ls)), some (.val (.int n)), none, none, none, none, none, none, none, none, none, none, none]) = _
  rw [evSS_nx e1, evSS_nx e2, evSS_nx e3, evSS_nx e4]
  simp [so, tupD]
 ·exact (jj t ((hordm t).mpr (by rw [<- hp]; exact ht))).sub fun i h => srtN_mem.mpr h
end TW
end
section
namespace TW
open PySem (Addr Obj Operator CmpOp)
open UF
theorem prs_getD (ls : List (Nat × Nat × Nat)) {i : Nat} (h : i < ls.length) : (prs ls).getD i (0, 0) = ((ls.getD i (0, 0, 0)).1, (ls.getD i (0, 0, 0)).2.1) := by
 simp [prs, h]
theorem lmem {ls : List (Nat × Nat × Nat)} {i : Nat} (h : i < ls.length) : ls.getD i (0, 0, 0) ∈ ls := by
 rw [List.getD_eq_getElem?_getD, List.getElem?_eq_getElem h]
 exact List.getElem_mem h
end TW
end
section
namespace TW
open PySem (Addr Obj Operator CmpOp)
open UF
theorem bools_map {α : Type} (f : α -> Bool) : ∀ l : List α, boolsOf (l.map fun x => .bl (f x)) = some (l.map f)
 | [] => rfl
 | x :: r => by simp [boolsOf, bools_map f r]
theorem all_map {α : Type} (f : α -> Bool) (l : List α) : b1D .all (.lst (l.map fun x => .bl (f x))) = some (.fz, .bl (l.all f)) := by
 show (boolsOf _).map _ = _
 rw [bools_map]
 simp [List.all_map]
end TW
end
section
namespace TW
open PySem (Addr Obj Operator CmpOp)
open UF
theorem ifs_no {p : Nat -> List D -> Option D} {c : C} {a : SS} {r : En} (h : (ev p c r).2 = some false) : evS p (.ifs c a (block [])) r = some (.nx r) := by
 rw [evS_ifs, h]
 rfl
theorem ifs_yes {p : Nat -> List D -> Option D} {c : C} {a b : SS} {r : En} (h : (ev p c r).2 = some true) : evS p (.ifs c a b) r = evSS p a r := by
 rw [evS_ifs, h]
 rfl
end TW
end
section
namespace TW
open PySem (Addr Obj Operator CmpOp)
open UF
noncomputable def mkp (a b : Nat) : Nat × Nat := (min a b, max a b)
end TW
end
section
namespace TW
open UF
noncomputable abbrev Pa := Nat × Nat
inductive Gr : List Nat -> List Pa -> Prop
 | one (x : Nat) : Gr [x] []
 | add {L : List Nat} {P : List Pa} {x y : Nat} : Gr L P -> y ∈ L -> x ∉ L -> Gr (x :: L) (mkp x y :: P)
 | perm {L L' : List Nat} {P P' : List Pa} : Gr L P -> L.Perm L' -> P.Perm P' -> Gr L' P'
theorem Gr.nodup {L : List Nat} {P : List Pa} (g : Gr L P) : L.Nodup := by
 induction g with
 | one x => simp
 | add g hy hx ih => exact List.nodup_cons.mpr ⟨hx, ih⟩
 | perm g hl hp ih => exact hl.nodup_iff.mp ih
theorem Gr.len {L : List Nat} {P : List Pa} (g : Gr L P) : P.length + 1 = L.length := by
 induction g with
 | one x => rfl
 | add g hy hx ih => simp [ih]
 | perm g hl hp ih => rw [<- hl.length_eq, <- hp.length_eq, ih]
theorem Gr.within {L : List Nat} {P : List Pa} (g : Gr L P) : ∀ q ∈ P, q.1 ∈ L /\ q.2 ∈ L /\ q.1 < q.2 := by
 induction g with
 | one x => intro q h; cases h
 | @add L P x y g hy hx ih =>
  intro q h
  rcases List.mem_cons.mp h with rfl | h
  ·have ne : x ≠ y := fun e => hx (e ▸ hy)
   simp only [mkp]
   by_cases hlt : x < y
   ·rw [Nat.min_eq_left (by omega), Nat.max_eq_right (by omega)]
    exact ⟨List.mem_cons_self, List.mem_cons_of_mem _ hy, hlt⟩
   ·rw [Nat.min_eq_right (by omega), Nat.max_eq_left (by omega)]
    exact ⟨List.mem_cons_of_mem _ hy, List.mem_cons_self, by omega⟩
  ·obtain ⟨a, b, c⟩ := ih q h
   exact ⟨List.mem_cons_of_mem _ a, List.mem_cons_of_mem _ b, c⟩
 | perm g hl hp ih =>
  intro q h
  obtain ⟨a, b, c⟩ := ih q (hp.mem_iff.mpr h)
  exact ⟨hl.mem_iff.mp a, hl.mem_iff.mp b, c⟩
end TW
end
section
namespace TW
open UF
theorem J.side {T : List Pa} {L : List Nat} (h : ∀ q ∈ T, q.1 ∈ L ↔ q.2 ∈ L) {u v : Nat} (j : J T u v) : u ∈ L ↔ v ∈ L := by
 induction j with
 | refl u => exact Iff.rfl
 | line m => exact h _ m
 | symm _ ih => exact ih.symm
 | trans _ _ i1 i2 => exact i1.trans i2
theorem gr_of {m : Nat} {T : List Pa} (h : ∀ q ∈ T, q.1 < q.2 /\ q.2 < m) (hl : T.length + 1 = m) (sp : Sp m T) : Gr (List.range m) T := by
 have main : ∀ k, k < m -> ∃ (L : List Nat) (P R : List Pa), L.length = k + 1 /\ (∀ x ∈ L, x < m) /\ 0 ∈ L /\ Gr L P /\ T.Perm (P ++ R) := by
  intro k
  induction k with
  | zero => intro hk; exact ⟨[0], [], T, rfl, by simpa using hk, by simp, .one 0, List.Perm.refl _⟩
  | succ k ih =>
   intro hk
   obtain ⟨L, P, R, h1, h2, h3, g, hp⟩ := ih (by omega)
   have hx : ∃ x, x < m /\ x ∉ L := Classical.byContradiction fun no => by
    have : ∀ x ∈ List.range m, x ∈ L := fun x hx => Classical.byContradiction fun hn => no ⟨x, List.mem_range.mp hx, hn⟩
    have := nodup_len List.nodup_range this
    simp at this
    omega
   obtain ⟨x, hx, hxL⟩ := hx
   have hq : ∃ q ∈ T, ¬ (q.1 ∈ L ↔ q.2 ∈ L) := Classical.byContradiction fun no => by
    have : ∀ q ∈ T, q.1 ∈ L ↔ q.2 ∈ L := fun q hq => Classical.byContradiction fun hn => no ⟨q, hq, hn⟩
    exact hxL ((J.side this (sp x hx)).mp h3)
   obtain ⟨q, hqT, hc⟩ := hq
   have hqP : q ∉ P := fun hm => hc ⟨fun _ => (g.within q hm).2.1, fun _ => (g.within q hm).1⟩
   have hqR : q ∈ R := (List.mem_append.mp (hp.mem_iff.mp hqT)).resolve_left hqP
   obtain ⟨lt, ltm⟩ := h q hqT
   have hp' : T.Perm ((q :: P) ++ R.erase q) := hp.trans (((List.perm_cons_erase hqR).append_left P).trans List.perm_middle)
   by_cases h1L : q.1 ∈ L
   ·have h2L : q.2 ∉ L := fun z => hc ⟨fun _ => z, fun _ => h1L⟩
    have eq : q = mkp q.2 q.1 := by simp [mkp, Nat.min_eq_right (Nat.le_of_lt lt), Nat.max_eq_left (Nat.le_of_lt lt)]
    refine ⟨q.2 :: L, q :: P, R.erase q, by simp [h1], fun y hy => ?_, List.mem_cons_of_mem _ h3, ?_, hp'⟩
    ·rcases List.mem_cons.mp hy with rfl | hy
     ·exact ltm
     ·exact h2 y hy
    ·rw [show q :: P = mkp q.2 q.1 :: P by rw [<- eq]]
     exact .add g h1L h2L
   ·have h2L : q.2 ∈ L := Classical.byContradiction fun z => hc ⟨fun w => absurd w h1L, fun w => absurd w z⟩
    have eq : q = mkp q.1 q.2 := by simp [mkp, Nat.min_eq_left (Nat.le_of_lt lt), Nat.max_eq_right (Nat.le_of_lt lt)]
    refine ⟨q.1 :: L, q :: P, R.erase q, by simp [h1], fun y hy => ?_, List.mem_cons_of_mem _ h3, ?_, hp'⟩
    ·rcases List.mem_cons.mp hy with rfl | hy
     ·omega
     ·exact h2 y hy
    ·rw [show q :: P = mkp q.1 q.2 :: P by rw [<- eq]]
     exact .add g h2L h1L
 obtain ⟨L, P, R, h1, h2, h3, g, hp⟩ := main (m - 1) (by omega)
 have hR : R = [] := by
  have a := hp.length_eq
  have b := g.len
  simp at a
  exact List.length_eq_zero_iff.mp (by omega)
 subst hR
 rw [List.append_nil] at hp
 refine .perm g ?_ hp.symm
 refine (List.perm_ext_iff_of_nodup g.nodup List.nodup_range).mpr fun x => ⟨fun hx => List.mem_range.mpr (h2 x hx), fun hx => Classical.byContradiction fun hn => ?_⟩
 have hnd : (x :: L).Nodup := List.nodup_cons.mpr ⟨hn, g.nodup⟩
 have := nodup_len (r := List.range m) hnd fun y hy => by
  rcases List.mem_cons.mp hy with rfl | hy
  ·exact hx
  ·exact List.mem_range.mpr (h2 y hy)
 simp at this
 omega
end TW
end
section
namespace TW
noncomputable def dlt (par : Nat -> Nat) : Nat -> Nat -> Nat -> Nat
 | 0, _, _ => 0
 | f + 1, i, j => if i = j then 0 else if i < j then 1 + dlt par f i (par j) else 1 + dlt par f (par i) j
noncomputable def parL (ps : List Nat) (k : Nat) : Nat := ps.getD (k - 1) 0
end TW
end
section
namespace TW
open UF
noncomputable def Ed (T : List Pa) (x y : Nat) : Prop := (x, y) ∈ T \/ (y, x) ∈ T
structure TL (m : Nat) (T : List Pa) (s : Nat) (L : Nat -> Nat) : Prop where
 s0 : L s = 0
 slt : s < m
 inn : ∀ q ∈ T, q.1 < m /\ q.2 < m
 edge : ∀ x y, Ed T x y -> L y = L x + 1 \/ L x = L y + 1
 uniq : ∀ x y y', Ed T x y -> Ed T x y' -> L y + 1 = L x -> L y' + 1 = L x -> y = y'
 ex : ∀ x, x < m -> x ≠ s -> ∃ y, Ed T x y /\ L y + 1 = L x
 le : ∀ x, x < m -> L x + 1 <= m
structure KI (m : Nat) (T : List Pa) (s : Nat) (L : Nat -> Nat) (ks : List Nat) : Prop where
 st : s ∈ ks
 nd : ks.Nodup
 cl : ∀ x ∈ ks, ∀ y, Ed T x y -> L y + 1 = L x -> y ∈ ks
 lt : ∀ x ∈ ks, x < m
noncomputable def stepK (ks : List Nat) (q : Pa) : List Nat := if q.1 ∈ ks /\ q.2 ∉ ks then ks ++ [q.2] else if q.2 ∈ ks /\ q.1 ∉ ks then ks ++ [q.1] else ks
section
variable {m : Nat} {T : List Pa} {s : Nat} {L : Nat -> Nat}
theorem Ed.symm {x y : Nat} (h : Ed T x y) : Ed T y x := Or.symm h
theorem ki_add (h : TL m T s L) {ks : List Nat} (k : KI m T s L ks) {a b : Nat} (e : Ed T a b) (ha : a ∈ ks) (hb : b ∉ ks) (hm : b < m) : L b = L a + 1 /\ KI m T s L (ks ++ [b]) := by
 have hL : L b = L a + 1 := by
  rcases h.edge a b e with q | q
  ·exact q
  ·exact absurd (k.cl a ha b e q.symm) hb
 refine ⟨hL, List.mem_append_left _ k.st, ?_, fun x hx y ey hy => ?_, fun x hx => ?_⟩
 ·refine List.nodup_append.mpr ⟨k.nd, by simp, fun x hx y hy z => ?_⟩
  rw [List.mem_singleton.mp hy] at z
  exact hb (z ▸ hx)
 ·rcases List.mem_append.mp hx with hx | hx
  ·exact List.mem_append_left _ (k.cl x hx y ey hy)
  ·rw [List.mem_singleton.mp hx] at ey hy
   have := h.uniq b y a ey e.symm hy (by omega)
   rw [this]
   exact List.mem_append_left _ ha
 ·rcases List.mem_append.mp hx with hx | hx
  ·exact k.lt x hx
  ·rw [List.mem_singleton.mp hx]; exact hm
theorem ki_step (h : TL m T s L) {ks : List Nat} (k : KI m T s L ks) {q : Pa} (hq : q ∈ T) : KI m T s L (stepK ks q) := by
 unfold stepK
 split
 ·rename_i c
  exact (ki_add h k (a := q.1) (b := q.2) (.inl hq) c.1 c.2 (h.inn q hq).2).2
 ·split
  ·rename_i c
   exact (ki_add h k (a := q.2) (b := q.1) (.inr hq) c.1 c.2 (h.inn q hq).1).2
  ·exact k
theorem step_sub {ks : List Nat} {q : Pa} {x : Nat} (hx : x ∈ ks) : x ∈ stepK ks q := by
 unfold stepK
 split
 ·exact List.mem_append_left _ hx
 ·split
  ·exact List.mem_append_left _ hx
  ·exact hx
theorem fold_sub : ∀ (l : List Pa) {ks : List Nat} {x : Nat}, x ∈ ks -> x ∈ l.foldl stepK ks
 | [], _, _, h => h
 | q :: l, _, _, h => fold_sub l (step_sub h)
theorem fold_ki (h : TL m T s L) : ∀ (l : List Pa) {ks : List Nat}, (∀ q ∈ l, q ∈ T) -> KI m T s L ks -> KI m T s L (l.foldl stepK ks)
 | [], _, _, k => k
 | q :: l, _, hl, k => fold_ki h l (fun q hq => hl q (List.mem_cons_of_mem _ hq)) (ki_step h k (hl q List.mem_cons_self))
theorem fold_get : ∀ (l : List Pa) {ks : List Nat} {x y : Nat}, Ed l x y -> y ∈ ks -> x ∈ l.foldl stepK ks
 | [], _, _, _, e, _ => by rcases e with e | e <;> cases e
 | q :: l, ks, x, y, e, hy => by
  have cases' : (q = (x, y) \/ q = (y, x)) \/ Ed l x y := by
   rcases e with e | e
   ·rcases List.mem_cons.mp e with e | e
    ·exact .inl (.inl e.symm)
    ·exact .inr (.inl e)
   ·rcases List.mem_cons.mp e with e | e
    ·exact .inl (.inr e.symm)
    ·exact .inr (.inr e)
  rcases cases' with e | e
  ·refine fold_sub l ?_
   unfold stepK
   by_cases hx : x ∈ ks
   ·exact step_sub (q := q) hx
   ·rcases e with rfl | rfl
    ·rw [if_neg (fun z => hx z.1), if_pos ⟨hy, hx⟩]
     exact List.mem_append_right _ (List.mem_singleton.mpr rfl)
    ·rw [if_pos ⟨hy, hx⟩]
     exact List.mem_append_right _ (List.mem_singleton.mpr rfl)
  ·exact fold_get l e (step_sub hy)
noncomputable def rnd (T : List Pa) : Nat -> List Nat -> List Nat
 | 0, ks => ks
 | n + 1, ks => rnd T n (T.foldl stepK ks)
theorem rnd_succ (T : List Pa) : ∀ (n : Nat) (ks : List Nat), rnd T (n + 1) ks = T.foldl stepK (rnd T n ks)
 | 0, ks => rfl
 | n + 1, ks => by
  show rnd T (n + 1) (T.foldl stepK ks) = _
  rw [rnd_succ T n]
  rfl
theorem rnd_ki (h : TL m T s L) (n : Nat) : KI m T s L (rnd T n [s]) := by
 induction n with
 | zero =>
  refine ⟨by simp [rnd], by simp [rnd], fun x hx y _ e => ?_, fun x hx => ?_⟩
  ·rw [List.mem_singleton.mp hx, h.s0] at e; omega
  ·rw [List.mem_singleton.mp hx]; exact h.slt
 | succ n ih => rw [rnd_succ]; exact fold_ki h T (fun _ h => h) ih
theorem rnd_all (h : TL m T s L) (n : Nat) : ∀ x, x < m -> L x <= n -> x ∈ rnd T n [s] := by
 induction n with
 | zero =>
  intro x hx hL
  by_cases e : x = s
  ·rw [e]; simp [rnd]
  ·obtain ⟨y, _, hy⟩ := h.ex x hx e
   omega
 | succ n ih =>
  intro x hx hL
  rw [rnd_succ]
  by_cases hle : L x <= n
  ·exact fold_sub T (ih x hx hle)
  ·by_cases e : x = s
   ·rw [e]; exact fold_sub T (rnd_ki h n).st
   ·obtain ⟨y, ey, hy⟩ := h.ex x hx e
    have hym : y < m := by
     rcases ey with q | q
     ·exact (h.inn _ q).2
     ·exact (h.inn _ q).1
    exact fold_get T ey (ih y hym (by omega))
theorem rnd_perm (h : TL m T s L) {n : Nat} (hn : m <= n + 1) : (rnd T n [s]).Perm (List.range m) := by
 have k := rnd_ki h n
 refine (List.perm_ext_iff_of_nodup k.nd List.nodup_range).mpr fun x => ⟨fun hx => List.mem_range.mpr (k.lt x hx), fun hx => ?_⟩
 have hx := List.mem_range.mp hx
 have := h.le x hx
 exact rnd_all h n x hx (by omega)
end
section
variable {par : Nat -> Nat} (hp : ∀ k, 1 <= k -> par k < k)
include hp
theorem dlt_fuel : ∀ (f g i j : Nat), i + j <= f -> i + j <= g -> dlt par f i j = dlt par g i j
 | 0, g, i, j, h1, _ => by
  have hi : i = 0 := by omega
  have hj : j = 0 := by omega
  subst hi; subst hj
  cases g with
  | zero => rfl
  | succ g => simp [dlt]
 | f + 1, 0, i, j, _, h2 => by
  have hi : i = 0 := by omega
  have hj : j = 0 := by omega
  subst hi; subst hj
  simp [dlt]
 | f + 1, g + 1, i, j, h1, h2 => by
  unfold dlt
  by_cases e : i = j
  ·rw [if_pos e, if_pos e]
  ·rw [if_neg e, if_neg e]
   by_cases l : i < j
   ·rw [if_pos l, if_pos l, dlt_fuel f g i (par j) (by have := hp j (by omega); omega) (by have := hp j (by omega); omega)]
   ·rw [if_neg l, if_neg l, dlt_fuel f g (par i) j (by have := hp i (by omega); omega) (by have := hp i (by omega); omega)]
noncomputable def dst (_ : ∀ k, 1 <= k -> par k < k) (i j : Nat) : Nat := dlt par (i + j) i j
theorem dst_self (i : Nat) : dst hp i i = 0 := by
 unfold dst
 cases h : i + i with
 | zero => rfl
 | succ n => simp [dlt]
theorem dst_lt {i j : Nat} (h : i < j) : dst hp i j = 1 + dst hp i (par j) := by
 have := hp j (by omega)
 unfold dst
 obtain ⟨n, hn⟩ : ∃ n, i + j = n + 1 := ⟨i + j - 1, by omega⟩
 rw [hn]
 show (if i = j then 0 else if i < j then 1 + dlt par n i (par j) else 1 + dlt par n (par i) j) = _
 rw [if_neg (by omega), if_pos h, dlt_fuel hp n (i + par j) i (par j) (by omega) (Nat.le_refl _)]
theorem dst_gt {i j : Nat} (h : j < i) : dst hp i j = 1 + dst hp (par i) j := by
 have := hp i (by omega)
 unfold dst
 obtain ⟨n, hn⟩ : ∃ n, i + j = n + 1 := ⟨i + j - 1, by omega⟩
 rw [hn]
 show (if i = j then 0 else if i < j then 1 + dlt par n i (par j) else 1 + dlt par n (par i) j) = _
 rw [if_neg (by omega), if_neg (by omega), dlt_fuel hp n (par i + j) (par i) j (by omega) (Nat.le_refl _)]
theorem dst_pos {i j : Nat} (h : i ≠ j) : 0 < dst hp i j := by
 rcases Nat.lt_or_gt_of_ne h with l | l
 ·rw [dst_lt hp l]; omega
 ·rw [dst_gt hp l]; omega
theorem dst_le : ∀ (n i j : Nat), i + j <= n -> dst hp i j <= max i j
 | 0, i, j, h => by
  have hi : i = 0 := by omega
  have hj : j = 0 := by omega
  subst hi; subst hj; rw [dst_self]; omega
 | n + 1, i, j, h => by
  rcases Nat.lt_trichotomy i j with l | e | l
  ·have := hp j (by omega)
   have := dst_le n i (par j) (by omega)
   rw [dst_lt hp l]; omega
  ·rw [e, dst_self]; omega
  ·have := hp i (by omega)
   have := dst_le n (par i) j (by omega)
   rw [dst_gt hp l]; omega
noncomputable def Nb (par : Nat -> Nat) (x y : Nat) : Prop := (1 <= y /\ par y = x) \/ (1 <= x /\ par x = y)
theorem nb_edge : ∀ (n s x y : Nat), s <= n -> Nb par x y -> dst hp s y = dst hp s x + 1 \/ dst hp s x = dst hp s y + 1 := by
 have one : ∀ (n s k : Nat), s <= n -> 1 <= k -> dst hp s k = dst hp s (par k) + 1 \/ dst hp s (par k) = dst hp s k + 1 := by
  intro n
  induction n with
  | zero =>
   intro s k hs hk
   have : s = 0 := by omega
   subst this
   left
   rw [dst_lt hp (by omega)]; omega
  | succ n ih =>
   intro s k hs hk
   have hpk := hp k hk
   rcases Nat.lt_trichotomy s k with l | e | l
   ·left; rw [dst_lt hp l]; omega
   ·right
    subst e
    rw [dst_self, dst_gt hp hpk, dst_self]
   ·have := hp s (by omega)
    rw [dst_gt hp l, dst_gt hp (show par k < s by omega)]
    rcases ih (par s) k (by omega) hk with q | q
    ·left; omega
    ·right; omega
 intro n s x y hs h
 rcases h with ⟨hy, rfl⟩ | ⟨hx, rfl⟩
 ·exact one n s y hs hy
 ·exact (one n s x hs hx).symm
theorem nb_one : ∀ (n s x : Nat), s <= n -> x ≠ s -> ∃ y, Nb par x y /\ dst hp s y + 1 = dst hp s x /\ y <= max s x /\ ∀ z, Nb par x z -> dst hp s z + 1 = dst hp s x -> z = y := by
 have up : ∀ (s x : Nat), s < x -> ∃ y, Nb par x y /\ dst hp s y + 1 = dst hp s x /\ y <= max s x /\ ∀ z, Nb par x z -> dst hp s z + 1 = dst hp s x -> z = y := fun s x l => by
  have hpx := hp x (by omega)
  refine ⟨par x, .inr ⟨by omega, rfl⟩, by rw [dst_lt hp l]; omega, by omega, fun z hz e => ?_⟩
  rcases hz with ⟨hz, q⟩ | ⟨_, q⟩
  ·have := hp z hz
   rw [dst_lt hp (show s < z by omega), q] at e
   omega
  ·exact q.symm
 intro n
 induction n with
 | zero =>
  intro s x hs hx
  have : s = 0 := by omega
  subst this
  exact up 0 x (by omega)
 | succ n ih =>
  intro s x hs hx
  rcases Nat.lt_or_gt_of_ne hx with l | l
  ·have hps := hp s (by omega)
   by_cases e : x = par s
   ·refine ⟨s, .inl ⟨by omega, e.symm⟩, by rw [dst_self, dst_gt hp l, <- e, dst_self], by omega, fun z hz q => ?_⟩
    have hx1 : dst hp s x = 1 := by rw [dst_gt hp l, <- e, dst_self]
    apply Decidable.byContradiction
    intro hne
    have := dst_pos hp (show s ≠ z from fun w => hne w.symm)
    omega
   ·obtain ⟨y, h1, h2, h3, h4⟩ := ih (par s) x (by omega) e
    have hys : y < s := by omega
    refine ⟨y, h1, by rw [dst_gt hp hys, dst_gt hp l]; omega, by omega, fun z hz q => ?_⟩
    rcases Nat.lt_trichotomy z s with lz | ez | lz
    ·rw [dst_gt hp lz, dst_gt hp l] at q
     exact h4 z hz (by omega)
    ·subst ez
     rcases hz with ⟨_, w⟩ | ⟨hx1, w⟩
     ·exact absurd w.symm e
     ·have := hp x hx1
      omega
    ·rcases hz with ⟨hz1, w⟩ | ⟨hx1, w⟩
     ·rw [dst_lt hp lz, w] at q
      omega
     ·have := hp x hx1
      omega
  ·exact up s x l
end
end TW
end
section
namespace TW
open UF
structure Nam (m : Nat) (nm : List Nat) (ps : List Nat) (T : List Pa) : Prop where
 pm : nm.Perm (List.range m)
 hl : ps.length = m - 1
 hp : ∀ i, i < m - 1 -> ps.getD i 0 <= i
 tp : T.Perm ((List.range' 1 (m - 1)).map fun s => mkp (nm.getD s 0) (nm.getD (parL ps s) 0))
section
variable {m : Nat} {nm ps : List Nat} {T : List Pa}
theorem Nam.par (N : Nam m nm ps T) : ∀ k, 1 <= k -> parL ps k < k := fun k hk => by
 unfold parL
 by_cases h : k - 1 < m - 1
 ·have := N.hp (k - 1) h; omega
 ·have : ps.getD (k - 1) 0 = 0 := by
   rw [List.getD_eq_getElem?_getD, List.getElem?_eq_none (by rw [N.hl]; omega)]; rfl
  omega
theorem Nam.len (N : Nam m nm ps T) : nm.length = m := by rw [N.pm.length_eq]; simp
theorem Nam.nd (N : Nam m nm ps T) : nm.Nodup := N.pm.nodup_iff.mpr List.nodup_range
noncomputable def ixo (nm : List Nat) (x : Nat) : Nat := nm.idxOf x
theorem Nam.ix_lt (N : Nam m nm ps T) {x : Nat} (h : x < m) : ixo nm x < m := by
 rw [<- N.len]
 exact List.idxOf_lt_length_of_mem (N.pm.mem_iff.mpr (List.mem_range.mpr h))
theorem Nam.ix_get (N : Nam m nm ps T) {x : Nat} (h : x < m) : nm.getD (ixo nm x) 0 = x := by
 have hl : ixo nm x < nm.length := by rw [N.len]; exact N.ix_lt h
 rw [List.getD_eq_getElem?_getD, List.getElem?_eq_getElem hl]
 exact List.getElem_idxOf hl
theorem Nam.get_lt (N : Nam m nm ps T) {i : Nat} (h : i < m) : nm.getD i 0 < m := by
 have hl : i < nm.length := by rw [N.len]; exact h
 rw [List.getD_eq_getElem?_getD, List.getElem?_eq_getElem hl]
 exact List.mem_range.mp (N.pm.mem_iff.mp (List.getElem_mem hl))
theorem Nam.inj (N : Nam m nm ps T) {i j : Nat} (hi : i < m) (hj : j < m) (e : nm.getD i 0 = nm.getD j 0) : i = j := by
 have li : i < nm.length := by rw [N.len]; exact hi
 have lj : j < nm.length := by rw [N.len]; exact hj
 rw [List.getD_eq_getElem?_getD, List.getD_eq_getElem?_getD, List.getElem?_eq_getElem li, List.getElem?_eq_getElem lj] at e
 have e : nm[i] = nm[j] := by simpa using e
 have hp := List.pairwise_iff_getElem.mp N.nd
 rcases Nat.lt_trichotomy i j with h | h | h
 ·exact absurd e (hp i j li lj h)
 ·exact h
 ·exact absurd e.symm (hp j i lj li h)
theorem Nam.get_ix (N : Nam m nm ps T) {i : Nat} (h : i < m) : ixo nm (nm.getD i 0) = i := N.inj (N.ix_lt (N.get_lt h)) h (N.ix_get (N.get_lt h))
theorem mkp_cases {a b x y : Nat} (h : (x, y) = mkp a b) : (x = a /\ y = b) \/ (x = b /\ y = a) := by
 simp only [mkp, Prod.mk.injEq] at h
 omega
theorem Nam.ed (N : Nam m nm ps T) {x y : Nat} : Ed T x y ↔ x < m /\ y < m /\ Nb (parL ps) (ixo nm x) (ixo nm y) := by
 have key : ∀ x y, (x, y) ∈ T ↔ ∃ k, 1 <= k /\ k < m /\ (x, y) = mkp (nm.getD k 0) (nm.getD (parL ps k) 0) := fun x y => by
  rw [N.tp.mem_iff, List.mem_map]
  constructor
  ·rintro ⟨k, hk, e⟩
   have := List.mem_range'_1.mp hk
   exact ⟨k, by omega, by omega, e.symm⟩
  ·rintro ⟨k, h1, h2, e⟩
   exact ⟨k, List.mem_range'_1.mpr ⟨by omega, by omega⟩, e.symm⟩
 constructor
 ·intro h
  have main : ∀ x y, (x, y) ∈ T -> x < m /\ y < m /\ Nb (parL ps) (ixo nm x) (ixo nm y) := fun x y h => by
   obtain ⟨k, h1, h2, e⟩ := (key x y).mp h
   have hk := N.par k h1
   rcases mkp_cases e with ⟨rfl, rfl⟩ | ⟨rfl, rfl⟩
   ·refine ⟨N.get_lt h2, N.get_lt (by omega), .inr ?_⟩
    rw [N.get_ix h2, N.get_ix (by omega)]
    exact ⟨h1, rfl⟩
   ·refine ⟨N.get_lt (by omega), N.get_lt h2, .inl ?_⟩
    rw [N.get_ix h2, N.get_ix (by omega)]
    exact ⟨h1, rfl⟩
  rcases h with h | h
  ·exact main x y h
  ·obtain ⟨a, b, c⟩ := main y x h
   exact ⟨b, a, Or.symm c⟩
 ·rintro ⟨hx, hy, h⟩
  have main : ∀ x y, x < m -> y < m -> 1 <= ixo nm y -> parL ps (ixo nm y) = ixo nm x -> (x, y) ∈ T \/ (y, x) ∈ T := fun x y hx hy h1 h2 => by
   have e1 := N.ix_get hx
   have e2 := N.ix_get hy
   have mem : mkp y x ∈ T := by
    have : ∃ k, 1 <= k /\ k < m /\ mkp y x = mkp (nm.getD k 0) (nm.getD (parL ps k) 0) := ⟨ixo nm y, h1, N.ix_lt hy, by rw [h2, e1, e2]⟩
    obtain ⟨k, a, b, c⟩ := this
    have := (key (mkp y x).1 (mkp y x).2).mpr ⟨k, a, b, c⟩
    exact this
   by_cases hlt : y <= x
   ·right
    have : mkp y x = (y, x) := by simp only [mkp, Nat.min_eq_left hlt, Nat.max_eq_right hlt]
    rw [<- this]; exact mem
   ·left
    have : mkp y x = (x, y) := by simp only [mkp, Nat.min_eq_right (Nat.le_of_not_le hlt), Nat.max_eq_left (Nat.le_of_not_le hlt)]
    rw [<- this]; exact mem
  rcases h with ⟨h1, h2⟩ | ⟨h1, h2⟩
  ·exact main x y hx hy h1 h2
  ·exact (main y x hy hx h1 h2).symm
noncomputable def Nam.L (N : Nam m nm ps T) (s x : Nat) : Nat := dst N.par (ixo nm s) (ixo nm x)
theorem Nam.tl (N : Nam m nm ps T) {s : Nat} (hs : s < m) : TL m T s (N.L s) where
 s0 := dst_self N.par _
 slt := hs
 inn := fun q hq => by
  obtain ⟨a, b, _⟩ := N.ed.mp (.inl hq : Ed T q.1 q.2)
  exact ⟨a, b⟩
 edge := fun x y e => nb_edge N.par _ _ _ _ (Nat.le_refl _) (N.ed.mp e).2.2
 uniq := fun x y y' e e' h h' => by
  obtain ⟨hx, hy, n⟩ := N.ed.mp e
  obtain ⟨_, hy', n'⟩ := N.ed.mp e'
  have ne : ixo nm x ≠ ixo nm s := fun z => by
   have : N.L s x = 0 := by unfold Nam.L; rw [z, dst_self]
   omega
  obtain ⟨j, _, _, _, u⟩ := nb_one N.par _ (ixo nm s) (ixo nm x) (Nat.le_refl _) ne
  have := (u _ n h).trans (u _ n' h').symm
  rw [<- N.ix_get hy, <- N.ix_get hy', this]
 ex := fun x hx ne => by
  have ne' : ixo nm x ≠ ixo nm s := fun z => ne (by rw [<- N.ix_get hx, <- N.ix_get hs, z])
  obtain ⟨j, h1, h2, h3, _⟩ := nb_one N.par _ (ixo nm s) (ixo nm x) (Nat.le_refl _) ne'
  have hj : j < m := by have := N.ix_lt hs; have := N.ix_lt hx; omega
  refine ⟨nm.getD j 0, N.ed.mpr ⟨hx, N.get_lt hj, by rw [N.get_ix hj]; exact h1⟩, ?_⟩
  show dst N.par (ixo nm s) (ixo nm (nm.getD j 0)) + 1 = _
  rw [N.get_ix hj]
  exact h2
 le := fun x hx => by
  have := dst_le N.par _ (ixo nm s) (ixo nm x) (Nat.le_refl _)
  have := N.ix_lt hs
  have := N.ix_lt hx
  show dst N.par _ _ + 1 <= m
  omega
end
end TW
end
section
namespace TW
open PySem (Addr Obj Operator CmpOp)
open UF
noncomputable def kI (ks : List Nat) : List Int := ks.map fun x : Nat => (x : Int)
noncomputable def Fit (P : Nat -> D -> Prop) : List Nat -> List D -> Prop
 | [], [] => True
 | k :: ks, d :: ds => P k d /\ Fit P ks ds
 | _, _ => False
theorem mem_kI {ks : List Nat} {a : Nat} : (a : Int) ∈ kI ks ↔ a ∈ ks := by
 unfold kI
 rw [List.mem_map]
 constructor
 ·rintro ⟨x, hx, e⟩
  have : x = a := by omega
  exact this ▸ hx
 ·intro h; exact ⟨a, h, rfl⟩
theorem fit_at {P : Nat -> D -> Prop} : ∀ {ks : List Nat} {ds : List D} {k : Nat}, Fit P ks ds -> k ∈ ks -> ∃ d, atK (kI ks) ds (k : Int) = some d /\ P k d
 | [], _, _, _, h => by cases h
 | j :: ks, [], _, f, _ => by cases f
 | j :: ks, d :: ds, k, f, h => by
  by_cases e : j = k
  ·subst e
   exact ⟨d, by simp [kI, atK], f.1⟩
  ·have hk : k ∈ ks := (List.mem_cons.mp h).resolve_left fun z => e z.symm
   obtain ⟨d', h1, h2⟩ := fit_at f.2 hk
   refine ⟨d', ?_, h2⟩
   have ne : ¬ (j : Int) = (k : Int) := by omega
   show (if (j : Int) = (k : Int) then some d else atK (kI ks) ds (k : Int)) = _
   rw [if_neg ne]
   exact h1
theorem fit_snoc {P : Nat -> D -> Prop} : ∀ {ks : List Nat} {ds : List D} {k : Nat} {d : D}, Fit P ks ds -> P k d -> Fit P (ks ++ [k]) (ds ++ [d])
 | [], [], _, _, _, h => ⟨h, trivial⟩
 | [], _ :: _, _, _, f, _ => by cases f
 | j :: ks, [], _, _, f, _ => by cases f
 | j :: ks, d' :: ds, k, d, f, h => ⟨f.1, fit_snoc f.2 h⟩
theorem kI_snoc (ks : List Nat) (a : Nat) : kI ks ++ [(a : Int)] = kI (ks ++ [a]) := by simp [kI]
theorem in_dct (a : Nat) (ks : List Nat) (ds : List D) : cmpD .In (dn a) (.dct (kI ks) ds) = some (decide (a ∈ ks)) := by
 show some (decide ((a : Int) ∈ kI ks)) = _
 rw [decide_eq_decide.mpr mem_kI]
theorem notin_dct (a : Nat) (ks : List Nat) (ds : List D) : cmpD .NotIn (dn a) (.dct (kI ks) ds) = some (!decide (a ∈ ks)) := by
 show some (!decide ((a : Int) ∈ kI ks)) = _
 rw [decide_eq_decide.mpr mem_kI]
theorem ki_len {m : Nat} {T : List Pa} {s : Nat} {L : Nat -> Nat} {ks : List Nat} (k : KI m T s L ks) : ks.length <= m := by
 have := nodup_len (r := List.range m) k.nd fun x hx => List.mem_range.mpr (k.lt x hx)
 simpa using this
noncomputable def Bwf2 : SS := (block [.asg false 6 (.ix (.ix (.var 0) (.cst (.int 1))) (.var 5)), .ifs (.an (.cmp .In (.ix (.var 6) (.cst (.int 0))) (.var 3)) (.cmp .NotIn (.ix (.var 6) (.cst (.int 1))) (.var 3))) (block [.dset 3 (.ix (.var 6) (.cst (.int 1))) (.bin .Add (.ix (.var 3) (.ix (.var 6) (.cst (.int 0)))) (.tp (slice [(.var 5)])))]) (block [.ifs (.an (.cmp .In (.ix (.var 6) (.cst (.int 1))) (.var 3)) (.cmp .NotIn (.ix (.var 6) (.cst (.int 0))) (.var 3))) (block [.dset 3 (.ix (.var 6) (.cst (.int 0))) (.bin .Add (.ix (.var 3) (.ix (.var 6) (.cst (.int 1)))) (.tp (slice [(.var 5)])))]) (block [])])])
noncomputable def Bwf : SS := (block [.dnew 3 (.var 2) (.tp (slice [])), .fr (.one 4) (.r1 (.b1 .len (.var 1))) (block [.fr (.one 5) (.sq (.var 1)) Bwf2]), .give 3, .ret (.var 3)])
noncomputable def wfE (g t : D) (s : Nat) (x3 x4 x5 x6 : Option Sl) : En := [some (.val g), some (.val t), some (.val (dn s)), x3, x4, x5, x6, none, none]
noncomputable def wP (P : Nat -> List Nat -> Prop) (k : Nat) (d : D) : Prop := ∃ w, d = tupD w /\ P k w
theorem wf1_ev (p : Nat -> List D -> Option D) {m : Nat} {ls : List (Nat × Nat × Nat)} {T : List Pa} {s n : Nat} {L : Nat -> Nat} {P : Nat -> List Nat -> Prop} {ks : List Nat} {ds : List D} {t : D} {x4 x6 : Option Sl}
  (h : TL m T s L) (hm : m <= 100) (hn : n < ls.length) (hT : (prs ls).getD n (0, 0) ∈ T) (hP : ∀ a w, P a w -> w.length <= 1000)
  (hst : ∀ a b w, ((prs ls).getD n (0, 0) = (a, b) \/ (prs ls).getD n (0, 0) = (b, a)) -> P a w -> L b = L a + 1 -> P b (w ++ [n])) (k : KI m T s L ks) (f : Fit (wP P) ks ds) :
  ∃ ds' x6', evSS p Bwf2 (wfE (groundD m ls) t s (some (.ownd (kI ks) ds)) x4 (some (.val (dn n))) x6) = some (.nx (wfE (groundD m ls) t s (some (.ownd (kI (stepK ks ((prs ls).getD n (0, 0)))) ds')) x4 (some (.val (dn n))) x6')) /\ Fit (wP P) (stepK ks ((prs ls).getD n (0, 0))) ds' := by
 obtain ⟨a, b, len, hl⟩ : ∃ a b len, ls[n] = (a, b, len) := ⟨_, _, _, rfl⟩
 have hpr : (prs ls).getD n (0, 0) = (a, b) := by
  rw [List.getD_eq_getElem?_getD]
  unfold prs
  rw [List.getElem?_map, List.getElem?_eq_getElem hn, hl]
  rfl
 rw [hpr] at hT hst ⊢
 have hln : (ls.map lineD)[n]? = some (.tup [dn a, dn b, dn len]) := by rw [List.getElem?_map, List.getElem?_eq_getElem hn, hl]; rfl
 have hab := h.inn _ hT
 have e1 : ∀ x3 : Option Sl, evS p (.asg false 6 (.ix (.ix (.var 0) (.cst (.int 1))) (.var 5))) (wfE (groundD m ls) t s x3 x4 (some (.val (dn n))) x6) = some (.nx (wfE (groundD m ls) t s x3 x4 (some (.val (dn n))) (some (.val (.tup [dn a, dn b, dn len]))))) := fun x3 => by
  simp [wfE, groundD, atI_nat, hln]
 have hklen := ki_len k
 have hlim : (kI ks).length < 65536 := by simp [kI]; omega
 unfold stepK
 by_cases c1 : a ∈ ks /\ b ∉ ks
 ·rw [if_pos c1]
  obtain ⟨d, hd, w, rfl, pw⟩ := fit_at f c1.1
  obtain ⟨hL, _⟩ := ki_add h k (a := a) (b := b) (.inl hT) c1.1 c1.2 hab.2
  have hwl := hP a w pw
  have hadd : opD .Add (.tup (w.map dn)) (.tup [dn n]) = some (.fz, .tup (w.map dn ++ [dn n])) := opD_add_t (by simp; omega)
  have hb : (b : Int) ∉ kI ks := fun z => c1.2 (mem_kI.mp z)
  have hpb := hst a b w (.inl rfl) pw hL
  refine ⟨ds ++ [tupD (w ++ [n])], some (.val (.tup [dn a, dn b, dn len])), ?_, fit_snoc f ⟨_, rfl, hpb⟩⟩
  have i1 := in_dct a ks ds
  have i2 := notin_dct b ks ds
  show evSS p (.cons _ (.cons _ .nil)) _ = _
  rw [evSS_nx (e1 _)]
  rw [evSS_nx (s := .ifs _ _ _) (r' := wfE (groundD m ls) t s (some (.ownd (kI (ks ++ [b])) (ds ++ [tupD (w ++ [n])]))) x4 (some (.val (dn n))) (some (.val (.tup [dn a, dn b, dn len]))))]
  ·rfl
  ·rw [ifs_yes]
   ·rw [<- kI_snoc]
    simp [wfE, hd, tupD, hadd, hlim, hb]
   ·simp [wfE, i1, i2, c1.1, c1.2]
 ·rw [if_neg c1]
  by_cases c2 : b ∈ ks /\ a ∉ ks
  ·rw [if_pos c2]
   obtain ⟨d, hd, w, rfl, pw⟩ := fit_at f c2.1
   obtain ⟨hL, _⟩ := ki_add h k (a := b) (b := a) (.inr hT) c2.1 c2.2 hab.1
   have hwl := hP b w pw
   have hadd : opD .Add (.tup (w.map dn)) (.tup [dn n]) = some (.fz, .tup (w.map dn ++ [dn n])) := opD_add_t (by simp; omega)
   have ha : (a : Int) ∉ kI ks := fun z => c2.2 (mem_kI.mp z)
   have hpb := hst b a w (.inr rfl) pw hL
   refine ⟨ds ++ [tupD (w ++ [n])], some (.val (.tup [dn a, dn b, dn len])), ?_, fit_snoc f ⟨_, rfl, hpb⟩⟩
   have i1 := in_dct a ks ds
   have i3 := in_dct b ks ds
   have i4 := notin_dct a ks ds
   show evSS p (.cons _ (.cons _ .nil)) _ = _
   rw [evSS_nx (e1 _)]
   rw [evSS_nx (s := .ifs _ _ _) (r' := wfE (groundD m ls) t s (some (.ownd (kI (ks ++ [a])) (ds ++ [tupD (w ++ [n])]))) x4 (some (.val (dn n))) (some (.val (.tup [dn a, dn b, dn len]))))]
   ·rfl
   ·rw [evS_ifs]
    have z : (ev p (.an (.cmp .In (.ix (.var 6) (.cst (.int 0))) (.var 3)) (.cmp .NotIn (.ix (.var 6) (.cst (.int 1))) (.var 3))) (wfE (groundD m ls) t s (some (.ownd (kI ks) ds)) x4 (some (.val (dn n))) (some (.val (.tup [dn a, dn b, dn len]))))).2 = some false := by
     simp [wfE, i1, c2.2]
    rw [z, Option.bind_some, if_neg Bool.false_ne_true]
    show evSS p (.cons _ .nil) _ = _
    rw [evSS_cons, ifs_yes]
    ·rw [<- kI_snoc]
     simp [wfE, hd, tupD, hadd, hlim, ha]
    ·simp [wfE, i3, i4, c2.1, c2.2]
  ·rw [if_neg c2]
   refine ⟨ds, some (.val (.tup [dn a, dn b, dn len])), ?_, f⟩
   have i1 := in_dct a ks ds
   have i2 := notin_dct b ks ds
   have i3 := in_dct b ks ds
   have i4 := notin_dct a ks ds
   have z1 : (ev p (.an (.cmp .In (.ix (.var 6) (.cst (.int 0))) (.var 3)) (.cmp .NotIn (.ix (.var 6) (.cst (.int 1))) (.var 3))) (wfE (groundD m ls) t s (some (.ownd (kI ks) ds)) x4 (some (.val (dn n))) (some (.val (.tup [dn a, dn b, dn len]))))).2 = some false := by
    by_cases q1 : a ∈ ks
    ·have q2 : b ∈ ks := Decidable.byContradiction fun z => c1 ⟨q1, z⟩
     simp [wfE, i1, i2, q1, q2]
    ·simp [wfE, i1, q1]
   have z2 : (ev p (.an (.cmp .In (.ix (.var 6) (.cst (.int 1))) (.var 3)) (.cmp .NotIn (.ix (.var 6) (.cst (.int 0))) (.var 3))) (wfE (groundD m ls) t s (some (.ownd (kI ks) ds)) x4 (some (.val (dn n))) (some (.val (.tup [dn a, dn b, dn len]))))).2 = some false := by
    by_cases q1 : b ∈ ks
    ·have q2 : a ∈ ks := Decidable.byContradiction fun z => c2 ⟨q1, z⟩
     simp [wfE, i3, i4, q1, q2]
    ·simp [wfE, i3, q1]
   show evSS p (.cons _ (.cons _ .nil)) _ = _
   rw [evSS_nx (e1 _), evSS_nx (s := .ifs _ _ _) (r' := wfE (groundD m ls) t s (some (.ownd (kI ks) ds)) x4 (some (.val (dn n))) (some (.val (.tup [dn a, dn b, dn len]))))]
   ·rfl
   ·rw [evS_ifs, z1, Option.bind_some, if_neg Bool.false_ne_true]
    show evSS p (.cons _ .nil) _ = _
    rw [evSS_nx (ifs_no z2)]
    rfl
theorem wf_ev (p : Nat -> List D -> Option D) {m : Nat} {ls : List (Nat × Nat × Nat)} {c : List Nat} {s : Nat} {L : Nat -> Nat} {P : Nat -> List Nat -> Prop}
  (h : TL m (ends (prs ls) c) s L) (hm : m <= 100) (hc : ∀ n ∈ c, n < ls.length) (hcl : c.length <= 1000) (hP : ∀ a w, P a w -> w.length <= 1000) (h0 : P s [])
  (hst : ∀ n ∈ c, ∀ a b w, ((prs ls).getD n (0, 0) = (a, b) \/ (prs ls).getD n (0, 0) = (b, a)) -> P a w -> L b = L a + 1 -> P b (w ++ [n])) :
  ∃ ds, runF p 9 Bwf [groundD m ls, tupD c, dn s] = some (.dct (kI (rnd (ends (prs ls) c) c.length [s])) ds) /\ Fit (wP P) (rnd (ends (prs ls) c) c.length [s]) ds := by
 have e1 : evS p (.dnew 3 (.var 2) (.tp (slice []))) (wfE (groundD m ls) (tupD c) s none none none none) = some (.nx (wfE (groundD m ls) (tupD c) s (some (.ownd (kI [s]) [tupD []])) none none none)) := by
  simp [wfE, kI, tupD]
 obtain ⟨r1, e2, _, ds, x4, x5, x6, rfl, f⟩ := for_foldi (p := p) (tg := .one 4) (it := .r1 (.b1 .len (.var 1))) (b := block [.fr (.one 5) (.sq (.var 1)) Bwf2]) (em := dn) (k := .fz) (xs := List.range c.length) (s := ())
  (r := wfE (groundD m ls) (tupD c) s (some (.ownd (kI [s]) [tupD []])) none none none)
  (fun i _ r => i <= c.length /\ ∃ ds x4 x5 x6, r = wfE (groundD m ls) (tupD c) s (some (.ownd (kI (rnd (ends (prs ls) c) i [s])) ds)) x4 x5 x6 /\ Fit (wP P) (rnd (ends (prs ls) c) i [s]) ds) (fun _ _ => ())
  (by simp [wfE, tupD, rngOk_nat (show c.length <= 100000 by omega), rngD_0]) (by decide) ⟨Nat.zero_le _, [tupD []], none, none, none, rfl, ⟨[], rfl, h0⟩, trivial⟩ (by
   rintro i _ v r hx ⟨hi, ds, x4, x5, x6, rfl, f⟩
   have hi' : i < c.length := by simpa using (List.getElem?_eq_some_iff.mp hx).1
   obtain ⟨r2, e3, ds', x5', x6', rfl, f', _⟩ := for_fold (p := p) (tg := .one 5) (it := .sq (.var 1)) (b := Bwf2) (em := dn) (k := .fz) (xs := c) (s := rnd (ends (prs ls) c) i [s])
    (r := wfE (groundD m ls) (tupD c) s (some (.ownd (kI (rnd (ends (prs ls) c) i [s])) ds)) (some (.val (dn v))) x5 x6)
    (fun ks r => ∃ ds x5 x6, r = wfE (groundD m ls) (tupD c) s (some (.ownd (kI ks) ds)) (some (.val (dn v))) x5 x6 /\ Fit (wP P) ks ds /\ KI m (ends (prs ls) c) s L ks) (fun ks n => stepK ks ((prs ls).getD n (0, 0)))
    (by simp [wfE, tupD]) (by decide) ⟨ds, x5, x6, rfl, f, rnd_ki h i⟩ (by
     rintro ks n r hn ⟨ds, x5, x6, rfl, f, k⟩
     have hT : (prs ls).getD n (0, 0) ∈ ends (prs ls) c := ends_mem hn
     obtain ⟨ds', x6', e, f'⟩ := wf1_ev p (t := tupD c) (x4 := some (.val (dn v))) (x6 := x6) (ks := ks) (ds := ds) h hm (hc n hn) hT hP (hst n hn) k f
     exact ⟨_, _, rfl, e, ds', some (.val (dn n)), x6', rfl, f', ki_step h k hT⟩)
   have ef : c.foldl (fun ks n => stepK ks ((prs ls).getD n (0, 0))) (rnd (ends (prs ls) c) i [s]) = rnd (ends (prs ls) c) (i + 1) [s] := by
    rw [rnd_succ]
    unfold ends
    rw [List.foldl_map]
   rw [ef] at e3 f'
   refine ⟨_, _, rfl, ?_, hi', ds', some (.val (dn v)), x5', x6', rfl, f'⟩
   show evSS p (.cons (.fr (.one 5) (.sq (.var 1)) Bwf2) .nil) (wfE (groundD m ls) (tupD c) s (some (.ownd (kI (rnd (ends (prs ls) c) i [s])) ds)) (some (.val (dn v))) x5 x6) = _
   rw [evSS_nx e3]
   rfl)
 rw [List.length_range] at e2 f
 refine ⟨ds, ?_, f⟩
 have e3 : evS p (.give 3) (wfE (groundD m ls) (tupD c) s (some (.ownd (kI (rnd (ends (prs ls) c) c.length [s])) ds)) x4 x5 x6) = some (.nx (wfE (groundD m ls) (tupD c) s (some (.val (.dct (kI (rnd (ends (prs ls) c) c.length [s])) ds))) x4 x5 x6)) := by
  simp [wfE]
 show left (evSS p (.cons _ (.cons _ (.cons _ (.cons _ .nil)))) (wfE (groundD m ls) (tupD c) s none none none none)) = _
 rw [evSS_nx e1, evSS_nx e2, evSS_nx e3]
 simp [wfE]
end TW
end
section
namespace TW
open PySem (Addr Obj Operator CmpOp)
open UF
noncomputable def Bway (iW : Nat) : SS := (block [.ret (.ix (.call iW (slice [(.var 0), (.var 1), (.var 2)])) (.var 3))])
end TW
end
section
namespace TW
open UF
theorem parL_app {ps : List Nat} {k s : Nat} (h1 : 1 <= s) (h : s <= ps.length) : parL (ps ++ [k]) s = parL ps s := by
 unfold parL
 rw [List.getD_eq_getElem?_getD, List.getD_eq_getElem?_getD, List.getElem?_append_left (by omega)]
theorem parL_last {ps : List Nat} {k : Nat} : parL (ps ++ [k]) (ps.length + 1) = k := by
 unfold parL
 simp [List.getD_eq_getElem?_getD]
theorem getD_app {nm : List Nat} {x i : Nat} (h : i < nm.length) : (nm ++ [x]).getD i 0 = nm.getD i 0 := by
 rw [List.getD_eq_getElem?_getD, List.getD_eq_getElem?_getD, List.getElem?_append_left h]
theorem getD_last {nm : List Nat} {x : Nat} : (nm ++ [x]).getD nm.length 0 = x := by
 simp [List.getD_eq_getElem?_getD]
theorem gr_nam {L : List Nat} {P : List Pa} (g : Gr L P) : ∃ nm ps : List Nat, nm.Perm L /\ ps.length + 1 = nm.length /\ (∀ i, i < ps.length -> ps.getD i 0 <= i) /\ P.Perm ((List.range' 1 ps.length).map fun s => mkp (nm.getD s 0) (nm.getD (parL ps s) 0)) := by
 induction g with
 | one x => exact ⟨[x], [], List.Perm.refl _, rfl, (fun i h => by simp at h), List.Perm.refl _⟩
 | @add L P x y g hy hx ih =>
  obtain ⟨nm, ps, h1, h2, h3, h4⟩ := ih
  have hyn : y ∈ nm := h1.mem_iff.mpr hy
  have hlt := List.idxOf_lt_length_of_mem hyn
  have hget : nm.getD (nm.idxOf y) 0 = y := by
   rw [List.getD_eq_getElem?_getD, List.getElem?_eq_getElem hlt]
   exact List.getElem_idxOf hlt
  refine ⟨nm ++ [x], ps ++ [nm.idxOf y], ?_, by simp [h2], fun i hi => ?_, ?_⟩
  ·exact (List.perm_append_singleton _ _).trans (h1.cons x)
  ·by_cases hi' : i < ps.length
   ·rw [getD_app hi']; exact h3 i hi'
   ·have : i = ps.length := by simp at hi; omega
    rw [this, getD_last]
    omega
  ·rw [List.length_append, List.length_singleton, List.range'_1_concat, List.map_append, List.map_singleton]
   refine ((h4.cons (mkp x y)).trans (List.perm_append_singleton _ _).symm).trans ?_
   have e2 : mkp ((nm ++ [x]).getD (1 + ps.length) 0) ((nm ++ [x]).getD (parL (ps ++ [nm.idxOf y]) (1 + ps.length)) 0) = mkp x y := by
    have e : 1 + ps.length = nm.length := by omega
    rw [show 1 + ps.length = ps.length + 1 by omega, parL_last, getD_app hlt, hget]
    rw [show ps.length + 1 = nm.length from h2, getD_last]
   have e1 : (List.range' 1 ps.length).map (fun s => mkp ((nm ++ [x]).getD s 0) ((nm ++ [x]).getD (parL (ps ++ [nm.idxOf y]) s) 0)) = (List.range' 1 ps.length).map fun s => mkp (nm.getD s 0) (nm.getD (parL ps s) 0) := by
    apply List.map_congr_left
    intro s hs
    have hs := List.mem_range'_1.mp hs
    have hp : parL ps s < nm.length := by
     have := h3 (s - 1) (by omega)
     unfold parL
     omega
    rw [parL_app (by omega) (by omega), getD_app (by omega), getD_app hp]
   rw [e1, e2]
 | perm g hl hp ih =>
  obtain ⟨nm, ps, h1, h2, h3, h4⟩ := ih
  exact ⟨nm, ps, h1.trans hl, h2, h3, hp.symm.trans h4⟩
theorem nam_of {m : Nat} {T : List Pa} (g : Gr (List.range m) T) : ∃ nm ps, Nam m nm ps T := by
 obtain ⟨nm, ps, h1, h2, h3, h4⟩ := gr_nam g
 have hl : ps.length = m - 1 := by
  have := h1.length_eq
  simp at this
  omega
 exact ⟨nm, ps, h1, hl, fun i hi => h3 i (by omega), by rw [<- hl]; exact h4⟩
inductive Way (ps : List Pa) (c : List Nat) (L : Nat -> Nat) (s : Nat) : Nat -> List Nat -> Prop
 | nil : Way ps c L s s []
 | snoc {a b n : Nat} {w : List Nat} : Way ps c L s a w -> n ∈ c -> (ps.getD n (0, 0) = (a, b) \/ ps.getD n (0, 0) = (b, a)) -> L b = L a + 1 -> Way ps c L s b (w ++ [n])
section
variable {ps : List Pa} {c : List Nat} {L : Nat -> Nat} {s m : Nat}
theorem Way.len {k : Nat} {w : List Nat} (h0 : L s = 0) (h : Way ps c L s k w) : w.length = L k := by
 induction h with
 | nil => rw [h0]; rfl
 | snoc _ _ _ hl ih => rw [List.length_append, ih, hl]; rfl
theorem Way.sub {k : Nat} {w : List Nat} (h : Way ps c L s k w) : ∀ n ∈ w, n ∈ c := by
 induction h with
 | nil => intro n h; cases h
 | snoc _ hn _ _ ih =>
  intro n h
  rcases List.mem_append.mp h with h | h
  ·exact ih n h
  ·rw [List.mem_singleton.mp h]; exact hn
theorem Way.lt (h : TL m (ends ps c) s L) {k : Nat} {w : List Nat} (q : Way ps c L s k w) : k < m := by
 cases q with
 | nil => exact h.slt
 | snoc _ hn hp _ =>
  have := h.inn _ (ends_mem (ls := ps) hn)
  rcases hp with e | e
  ·rw [e] at this; exact this.2
  ·rw [e] at this; exact this.1
theorem Way.nodup {k : Nat} {w : List Nat} (h : Way ps c L s k w) : w.Nodup /\ ∀ n ∈ w, max (L (ps.getD n (0, 0)).1) (L (ps.getD n (0, 0)).2) <= L k := by
 induction h with
 | nil => exact ⟨List.nodup_nil, fun n h => by cases h⟩
 | @snoc a b n w _ hn hp hl ih =>
  obtain ⟨h1, h2⟩ := ih
  have hmax : max (L (ps.getD n (0, 0)).1) (L (ps.getD n (0, 0)).2) = L b := by
   rcases hp with e | e
   ·rw [e]; show max (L a) (L b) = L b; omega
   ·rw [e]; show max (L b) (L a) = L b; omega
  refine ⟨List.nodup_append.mpr ⟨h1, by simp, fun x hx y hy e => ?_⟩, fun j hj => ?_⟩
  ·rw [List.mem_singleton.mp hy] at e
   have := h2 x hx
   rw [e] at this
   omega
  ·rcases List.mem_append.mp hj with hj | hj
   ·have := h2 j hj; omega
   ·rw [List.mem_singleton.mp hj]; omega
end
section
variable {ps : List Pa} {c : List Nat} {L : Nat -> Nat} {s m : Nat}
theorem way_J {k : Nat} {w : List Nat} (q : Way ps c L s k w) {c' : List Nat} (h : ∀ n ∈ w, n ∈ c') : J (ends ps c') s k := by
 induction q with
 | nil => exact .refl _
 | @snoc a b n w qa hn hp hl ih =>
  have j1 := ih fun n hn => h n (List.mem_append_left _ hn)
  have hm : ps.getD n (0, 0) ∈ ends ps c' := ends_mem (h n (List.mem_append_right _ (List.mem_singleton.mpr rfl)))
  refine j1.trans ?_
  rcases hp with e | e
  ·rw [e] at hm; exact .line hm
  ·rw [e] at hm; exact (J.line hm).symm
theorem way_split {k o : Nat} {w : List Nat} (q : Way ps c L s k w) (ho : o ∈ w) {c' : List Nat} (hc : ∀ n ∈ w, n ≠ o -> n ∈ c') :
  ∃ u v, (ps.getD o (0, 0) = (u, v) \/ ps.getD o (0, 0) = (v, u)) /\ J (ends ps c') s u /\ J (ends ps c') v k := by
 induction q with
 | nil => cases ho
 | @snoc a b n w qa hn hp hl ih =>
  have nd := (Way.nodup (.snoc qa hn hp hl)).1
  have nn : n ∉ w := fun z => (List.nodup_append.mp nd).2.2 n z n (List.mem_singleton.mpr rfl) rfl
  by_cases e : o = n
  ·subst e
   exact ⟨a, b, hp, way_J qa fun j hj => hc j (List.mem_append_left _ hj) fun z => nn (z ▸ hj), .refl _⟩
  ·have ho' : o ∈ w := (List.mem_append.mp ho).resolve_right fun z => e (List.mem_singleton.mp z)
   obtain ⟨u, v, h1, h2, h3⟩ := ih ho' fun j hj hne => hc j (List.mem_append_left _ hj) hne
   refine ⟨u, v, h1, h2, h3.trans ?_⟩
   have hm : ps.getD n (0, 0) ∈ ends ps c' := ends_mem (hc n (List.mem_append_right _ (List.mem_singleton.mpr rfl)) fun z => e z.symm)
   rcases hp with e | e
   ·rw [e] at hm; exact .line hm
   ·rw [e] at hm; exact (J.line hm).symm
theorem put_iff (hi : In m ps) (hm : 0 < m) (hc : Nm ps c) (nd : c.Nodup) (hl : c.length + 1 = m) (sp : Sp m (ends ps c)) {e a b : Nat} (he : e < ps.length) (hne : e ∉ c) (hpe : ps.getD e (0, 0) = (a, b))
  {w : List Nat} (q : Way ps c L a b w) {o : Nat} (ho : o ∈ c) : o ∈ w ↔ oneG m ps (exch c o e) = true := by
 have hx : ∀ x, x ∈ exch c o e ↔ (x ∈ c /\ x ≠ o) \/ x = e := fun x => exch_mem
 have hnx : Nm ps (exch c o e) := fun x h => by
  rcases (hx x).mp h with h | h
  ·exact hc x h.1
  ·rw [h]; exact he
 rw [oneG_iff hi hm hnx]
 have je : J (ends ps (exch c o e)) a b := by
  have := ends_mem (ls := ps) ((hx e).mpr (.inr rfl))
  rw [hpe] at this
  exact .line this
 constructor
 ·intro how
  obtain ⟨u, v, h1, h2, h3⟩ := way_split q how (c' := exch c o e) fun n hn hno => (hx n).mpr (.inl ⟨q.sub n hn, hno⟩)
  have juv : J (ends ps (exch c o e)) u v := h2.symm.trans (je.trans h3.symm)
  intro z hz
  refine (sp z hz).le fun x y hxy => ?_
  obtain ⟨n, hn, en⟩ := List.mem_map.mp hxy
  by_cases eo : n = o
  ·subst eo
   rw [en] at h1
   rcases h1 with h1 | h1
   ·cases h1; exact juv
   ·cases h1; exact juv.symm
  ·have := ends_mem (ls := ps) ((hx n).mpr (.inl ⟨hn, eo⟩))
   rw [en] at this
   exact .line this
 ·intro sp'
  apply Decidable.byContradiction
  intro how
  have jab : J (ends ps (c.filter fun i => decide (i ≠ o))) a b := way_J q fun n hn => List.mem_filter.mpr ⟨q.sub n hn, decide_eq_true fun z => how (z ▸ hn)⟩
  have hnf : Nm ps (c.filter fun i => decide (i ≠ o)) := fun x h => hc x (List.mem_filter.mp h).1
  have sp2 : Sp m (ends ps (c.filter fun i => decide (i ≠ o))) := fun z hz => by
   refine (sp' z hz).le fun x y hxy => ?_
   obtain ⟨n, hn, en⟩ := List.mem_map.mp hxy
   rcases (hx n).mp hn with h | h
   ·have := ends_mem (ls := ps) (List.mem_filter.mpr ⟨h.1, decide_eq_true h.2⟩ : n ∈ c.filter fun i => decide (i ≠ o))
    rw [en] at this
    exact .line this
   ·subst h
    rw [hpe] at en
    cases en
    exact jab
  have hin : In m (ends ps (c.filter fun i => decide (i ≠ o))) := ends_in hi hnf
  have one := (one_iff hin hm).mpr sp2
  rw [groups_len] at one
  have ge := cnt_ge hin
  rw [one, ends_len] at ge
  have := filter_ne_len nd ho
  omega
end
end TW
end
section
namespace TW
open PySem (Addr Obj Operator CmpOp)
open UF
theorem wayG_ev (p : Nat -> List D -> Option D) {iW m a b : Nat} {ls : List (Nat × Nat × Nat)} {c : List Nat} {L : Nat -> Nat} (h : TL m (ends (prs ls) c) a L) (hb : b < m) (hm : m <= 100) (hc : ∀ n ∈ c, n < ls.length) (hl : c.length + 1 = m)
  (p2 : Nat -> List D -> Option D) (hp : ∀ args, p iW args = runF p2 9 Bwf args) :
  ∃ w : List Nat, runF p 5 (Bway iW) [groundD m ls, tupD c, dn a, dn b] = some (tupD w) /\ Way (prs ls) c L a b w := by
 obtain ⟨ds, e, f⟩ := wf_ev p2 (P := Way (prs ls) c L a) h hm hc (by omega) (fun k w q => by have := q.len h.s0; have := h.le k (q.lt h); omega) .nil
  (fun n hn x y w hq hx hy => .snoc hx hn hq hy)
 have hbm : b ∈ rnd (ends (prs ls) c) c.length [a] := (rnd_perm h (by omega)).mem_iff.mpr (List.mem_range.mpr hb)
 obtain ⟨d, hd, w, rfl, hw⟩ := fit_at f hbm
 refine ⟨w, ?_, hw⟩
 have e' : p iW [groundD m ls, tupD c, dn a] = some (.dct (kI (rnd (ends (prs ls) c) c.length [a])) ds) := by rw [hp]; exact e
 show left (evSS p (.cons _ .nil) [some (.val (groundD m ls)), some (.val (tupD c)), some (.val (dn a)), some (.val (dn b)), none]) = _
 simp [e', hd]
theorem sortedT_dn (l : List Nat) (h : l.length < 64) : b1D .sorted (tupD l) = some (.fr, .lst ((srtN l).map dn)) := sorted_dn l h
end TW
end
section
namespace TW
open UF
noncomputable def wt (len : Nat -> Nat) (c : List Nat) : Nat := (c.map len).sum
theorem wt_perm {len : Nat -> Nat} {c d : List Nat} (h : c.Perm d) : wt len c = wt len d := (h.map len).sum_nat
theorem wt_filter {len : Nat -> Nat} {T : List Nat} (h : T.Nodup) {o : Nat} (ho : o ∈ T) : wt len (T.filter fun i => decide (i ≠ o)) + len o = wt len T := by
 induction T with
 | nil => cases ho
 | cons x T ih =>
  obtain ⟨h1, h2⟩ := List.nodup_cons.mp h
  by_cases e : x = o
  ·subst e
   rw [List.filter_cons_of_neg (by simp), List.filter_eq_self.mpr]
   ·simp [wt]; omega
   ·intro y hy
    have : y ≠ x := fun q => by subst q; exact h1 hy
    simpa using this
  ·rw [List.filter_cons_of_pos (by simpa using e)]
   have := ih h2 ((List.mem_cons.mp ho).resolve_left fun q => e q.symm)
   simp only [wt, List.map_cons, List.sum_cons] at this ⊢
   omega
theorem wt_exch {len : Nat -> Nat} {T : List Nat} (h : T.Nodup) {o e : Nat} (ho : o ∈ T) : wt len (exch T o e) + len o = wt len T + len e := by
 unfold exch
 rw [wt_perm (srtN_perm _)]
 have := wt_filter (len := len) h ho
 simp only [wt, List.map_append, List.sum_append, List.map_cons, List.map_nil, List.sum_cons, List.sum_nil] at this ⊢
 omega
theorem first_split (P : Nat -> Prop) [DecidablePred P] : ∀ (q : List Nat), (∃ x ∈ q, P x) -> ∃ pre x post, q = pre ++ x :: post /\ P x /\ ∀ y ∈ pre, ¬ P y
 | [], h => by obtain ⟨_, h, _⟩ := h; cases h
 | y :: q, h => by
  by_cases py : P y
  ·exact ⟨[], y, q, rfl, py, fun z hz => by cases hz⟩
  ·obtain ⟨x, hx, px⟩ := h
   have hx' : x ∈ q := (List.mem_cons.mp hx).resolve_left fun e => py (e ▸ px)
   obtain ⟨pre, z, post, e, pz, no⟩ := first_split P q ⟨x, hx', px⟩
   refine ⟨y :: pre, z, post, by rw [e]; rfl, pz, fun w hw => ?_⟩
   rcases List.mem_cons.mp hw with e | hw
   ·rw [e]; exact py
   ·exact no w hw
section
variable {m : Nat} {ls : List (Nat × Nat)}
theorem gext_app (r t a : List Nat) : gext m ls a (r ++ t) = gext m ls (gext m ls a r) t := by rw [gext_fold, gext_fold, gext_fold, List.foldl_append]
theorem gext_out (hi : In m ls) {pre post : List Nat} {o : Nat} (hn : Nm ls (pre ++ o :: post)) (ho : o ∉ gext m ls [] (pre ++ o :: post)) :
  (gext m ls [] pre).Sublist pre /\ (∀ i ∈ gext m ls [] pre, i ∈ gext m ls [] (pre ++ o :: post)) /\ J (ends ls (gext m ls [] pre)) (ls.getD o (0, 0)).1 (ls.getD o (0, 0)).2 := by
 obtain ⟨r', e, sb⟩ := gext_pre (m := m) (ls := ls) pre []
 rw [List.nil_append] at e
 have sub : (gext m ls [] pre).Sublist pre := by rw [e]; exact sb
 have ha : Nm ls (gext m ls [] pre) := fun i h => hn i (List.mem_append_left _ (sub.subset h))
 obtain ⟨h1, h2⟩ := line_in hi (hn o (List.mem_append_right _ List.mem_cons_self))
 rw [gext_app] at ho ⊢
 unfold gext at ho
 by_cases q : gt (run m (ends ls (gext m ls [] pre))) (ls.getD o (0, 0)).1 = gt (run m (ends ls (gext m ls [] pre))) (ls.getD o (0, 0)).2
 ·refine ⟨sub, fun i h => ?_, (run_J (ends_in hi ha) _ _ h1 h2).mp q⟩
  obtain ⟨r2, e2, _⟩ := gext_pre (m := m) (ls := ls) (o :: post) (gext m ls [] pre)
  rw [e2]
  exact List.mem_append_left _ h
 ·rw [if_neg q] at ho
  obtain ⟨r2, e2, _⟩ := gext_pre (m := m) (ls := ls) post (gext m ls [] pre ++ [o])
  rw [e2] at ho
  exact absurd (by simp) ho
theorem no_ring (hi : In m ls) {Z a : List Nat} {o : Nat} (hZ : Nm ls Z) (aZ : Ac m (ends ls Z)) (nd : a.Nodup) (hs : ∀ i ∈ a, i ∈ Z) (ho : o ∈ Z) (hno : o ∉ a) (j : J (ends ls a) (ls.getD o (0, 0)).1 (ls.getD o (0, 0)).2) : False := by
 have ha : Nm ls a := fun i h => hZ i (hs i h)
 have q := ac_sub hi hZ aZ (a := a ++ [o]) (List.nodup_append.mpr ⟨nd, by simp, fun x hx y hy e => by
  have : y = o := by simpa using hy
  subst this; subst e; exact hno hx⟩) fun i h => by
   rcases List.mem_append.mp h with h | h
   ·exact hs i h
   ·have : i = o := by simpa using h
    rw [this]; exact ho
 have e : ends ls (a ++ [o]) = ends ls a ++ [ls.getD o (0, 0)] := by simp [ends]
 unfold Ac at q
 rw [e, acyc_append, Bool.and_eq_true, decide_eq_true_eq] at q
 obtain ⟨h1, h2⟩ := line_in hi (hZ o ho)
 exact q.2 ((run_J (ends_in hi ha) _ _ h1 h2).mpr j)
theorem tr_eq {T Z : List Nat} (hT : Tr m ls T) (hZ : Tr m ls Z) (h : ∀ i ∈ T, i ∈ Z) : T = Z := by
 refine rising_ext hT.ris hZ.ris fun x => ⟨h x, fun hx => ?_⟩
 apply Decidable.byContradiction
 intro hn
 have := nodup_len (l := x :: T) (r := Z) (List.nodup_cons.mpr ⟨hn, hT.nd⟩) fun y hy => by
  rcases List.mem_cons.mp hy with e | hy
  ·rw [e]; exact hx
  ·exact h y hy
 have l1 := hT.len
 have l2 := hZ.len
 simp only [List.length_cons] at this
 omega
noncomputable def OnlyT (m : Nat) (ls : List (Nat × Nat)) (len : Nat -> Nat) (T : List Nat) : Prop := ∀ e, e < ls.length -> e ∉ T -> ∀ o ∈ T, oneG m ls (exch T o e) = true -> len o < len e
theorem light_min (hi : In m ls) (hm : 0 < m) {len : Nat -> Nat} {q : List Nat} (hq : q.Nodup) (hall : ∀ i, i < ls.length -> i ∈ q) (hnm : Nm ls q) (ord : q.Pairwise fun i j => len i <= len j) {T : List Nat} (hT : Tr m ls T) (hTm : ∀ i, i ∈ T ↔ i ∈ gext m ls [] q) :
  ∀ (n : Nat) (Z : List Nat), Tr m ls Z -> (Z.filter fun i => !decide (i ∈ T)).length = n -> wt len T <= wt len Z /\ (OnlyT m ls len T -> Z ≠ T -> wt len T < wt len Z) := by
 intro n
 induction n with
 | zero =>
  intro Z hZ h0
  have e : Z = T := tr_eq hZ hT fun i h => by
   apply Decidable.byContradiction
   intro hn
   have : i ∈ Z.filter fun i => !decide (i ∈ T) := List.mem_filter.mpr ⟨h, by simpa using hn⟩
   rw [List.length_eq_zero_iff.mp h0] at this
   cases this
  subst e
  exact ⟨Nat.le_refl _, fun _ h => absurd rfl h⟩
 | succ n ih =>
  intro Z hZ hn
  have ex : ∃ x ∈ q, x ∈ T /\ x ∉ Z := by
   apply Decidable.byContradiction
   intro hno
   have e : T = Z := tr_eq hT hZ fun i h => by
    apply Decidable.byContradiction
    intro hz
    exact hno ⟨i, hall i (hT.nm i h), h, hz⟩
   rw [e] at hn
   have : (Z.filter fun i => !decide (i ∈ Z)) = [] := List.filter_eq_nil_iff.mpr fun i h => by simpa using h
   rw [this] at hn
   simp at hn
  obtain ⟨pre, f, post, eq, ⟨fT, fZ⟩, no⟩ := first_split (fun x => x ∈ T /\ x ∉ Z) q ex
  obtain ⟨_, _, oZ, oT, g⟩ := pick_ok hi hm hZ hT fT fZ
  generalize pickO m ls T Z f = o at oZ oT g
  have tr' := exch_tr hi hm hZ oZ fZ (hT.nm f fT) g
  have lo : len f <= len o := by
   have hoq := hall o (hZ.nm o oZ)
   rw [eq] at hoq ord
   rcases List.mem_append.mp hoq with h | h
   ·obtain ⟨p1, p2, ep⟩ := List.append_of_mem h
    have eq2 : q = p1 ++ o :: (p2 ++ f :: post) := by rw [eq, ep]; simp
    have ho : o ∉ gext m ls [] (p1 ++ o :: (p2 ++ f :: post)) := by rw [<- eq2]; exact fun z => oT ((hTm o).mpr z)
    obtain ⟨s1, s2, s3⟩ := gext_out hi (by rw [<- eq2]; exact hnm) ho
    rw [<- eq2] at s2
    have inT : ∀ i ∈ gext m ls [] p1, i ∈ T := fun i h => (hTm i).mpr (s2 i h)
    have nd : (gext m ls [] p1).Nodup := by
     rw [eq2] at hq
     exact (List.nodup_append.mp hq).1.sublist s1
    exact (no_ring hi hZ.nm (sp_ac hi hm hZ.nm hZ.len hZ.sp) nd (fun i h => by
     apply Decidable.byContradiction
     intro hz
     exact no i (by rw [ep]; exact List.mem_append_left _ (s1.subset h)) ⟨inT i h, hz⟩) oZ (fun z => oT (inT o z)) s3).elim
   ·rcases List.mem_cons.mp h with e | h
    ·exact absurd fT (e ▸ oT)
    ·exact (List.pairwise_cons.mp (List.pairwise_append.mp ord).2.1).1 o h
  have wz := wt_exch (len := len) (e := f) hZ.nd oZ
  have ml := exch_out_len (T := Z) (Z := T) (e := f) hZ.nd oZ oT fT
  obtain ⟨i1, i2⟩ := ih (exch Z o f) tr' (by omega)
  refine ⟨by omega, fun on hne => ?_⟩
  by_cases e : exch Z o f = T
  ·have eZ : exch T f o = Z := by
    have fo : f ≠ o := fun z => oT (z ▸ fT)
    refine rising_ext (srtN_lt ?_) hZ.ris fun x => ?_
    ·refine List.nodup_append.mpr ⟨hT.nd.sublist List.filter_sublist, by simp, fun a ha b hb z => ?_⟩
     have : b = o := by simpa using hb
     subst this; subst z
     exact oT (List.mem_filter.mp ha).1
    ·have hx := exch_mem (T := Z) (o := o) (e := f) (x := x)
     rw [e] at hx
     show x ∈ exch T f o ↔ _
     rw [exch_mem, hx]
     constructor
     ·rintro (⟨(h | h), h'⟩ | h)
      ·exact h.1
      ·exact absurd h h'
      ·rw [h]; exact oZ
     ·intro h
      by_cases xo : x = o
      ·exact .inr xo
      ·exact .inl ⟨.inl ⟨h, xo⟩, fun z => fZ (z ▸ h)⟩
   have := on o (hZ.nm o oZ) oT f fT (by rw [eZ]; exact (oneG_iff hi hm hZ.nm).mpr hZ.sp)
   rw [e] at wz
   omega
  ·have := i2 on e
   omega
theorem light_lo (hi : In m ls) (hm : 0 < m) {len : Nat -> Nat} {T : List Nat} (hT : Tr m ls T) (hmin : ∀ Z, Tr m ls Z -> wt len T <= wt len Z) {e o : Nat} (he : e < ls.length) (heT : e ∉ T) (ho : o ∈ T) (g : oneG m ls (exch T o e) = true) : len o <= len e := by
 have tr := exch_tr hi hm hT ho heT he g
 have w := wt_exch (len := len) (e := e) hT.nd ho
 have := hmin _ tr
 omega
end
end TW
end
section
namespace TW
open PySem (Addr Obj Operator CmpOp)
open UF
noncomputable def lenOf (ls : List (Nat × Nat × Nat)) (i : Nat) : Nat := (ls.getD i (0, 0, 0)).2.2
noncomputable def ordL (ls : List (Nat × Nat × Nat)) : List Nat := srtK (ls.map fun l => ((l.2.2 : Nat) : Int))
theorem keys_lines : ∀ ls : List (Nat × Nat × Nat), keysOf (ls.map lineD) = some (ls.map fun l => ((l.2.2 : Nat) : Int))
 | [] => rfl
 | l :: r => by
  show ((keyOf (lineD l)).bind fun k => (keysOf (r.map lineD)).map (k :: ·)) = _
  rw [keys_lines r]
  rfl
theorem ordL_ok {ls : List (Nat × Nat × Nat)} (h : ls.length < 64) : (ordL ls).Perm (List.range ls.length) /\ (ordL ls).Pairwise fun i j => lenOf ls i <= lenOf ls j := by
 obtain ⟨h1, h2⟩ := srtK_ok (ks := ls.map fun l => ((l.2.2 : Nat) : Int)) (by simpa using h)
 rw [List.length_map] at h1
 refine ⟨h1, List.Pairwise.imp_of_mem (fun {i j} hi hj hl => ?_) h2⟩
 have li : i < ls.length := by simpa using h1.mem_iff.mp hi
 have lj : j < ls.length := by simpa using h1.mem_iff.mp hj
 have := of_decide_eq_false hl
 simp [li, lj] at this
 simpa [lenOf, li, lj] using this
noncomputable def Bbyl : SS := (block [.ret (.b1 .byl (.var 0))])
theorem byl_ev (p : Nat -> List D -> Option D) {ls : List (Nat × Nat × Nat)} (h : ls.length < 64) : runF p 4 Bbyl [.tup (ls.map lineD)] = some (natsD (ordL ls)) := by
 have hb : b1D .byl (.tup (ls.map lineD)) = some (.fr, natsD (ordL ls)) := by
  show ((keysOf (ls.map lineD)).bind fun ks => if ks.length < 64 /\ ((ls.map lineD).all fun d => match d with | .tup x => decide (x.length <= 1000) | _ => false) = true then some (Kd.fr, D.lst ((srtK ks).map fun i => .int (i : Nat))) else none) = _
  rw [keys_lines]
  refine if_pos ⟨by simpa using h, List.all_eq_true.mpr fun d hd => ?_⟩
  obtain ⟨l, _, rfl⟩ := List.mem_map.mp hd
  rfl
 show left (evSS p (.cons (.ret (.b1 .byl (.var 0))) .nil) [some (.val (.tup (ls.map lineD))), none, none, none]) = _
 have e : (ev p (.b1 .byl (.var 0)) [some (.val (.tup (ls.map lineD))), none, none, none]).1 = some (.fr, natsD (ordL ls)) := hb
 rw [evSS_rt (ret_fr e)]
 rfl
noncomputable def lightT (m : Nat) (ls : List (Nat × Nat × Nat)) : List Nat := srtN (gext m (prs ls) [] (ordL ls))
noncomputable def Blgt1 (iJ : Nat) : SS := (block [.asg false 3 (.b1 .tuple (.b1 .sorted (.bin .Add (.var 1) (.tp (slice [(.var 2)]))))), .ifs (.cmp .Lt (.b1 .len (.call iJ (slice [(.var 0), (.var 3)]))) (.b1 .len (.call iJ (slice [(.var 0), (.var 1)])))) (block [.asg false 1 (.var 3)]) (block [])])
noncomputable def Blgt (iB iJ : Nat) : SS := (block [.asg false 1 (.tp (slice [])), .fr (.one 2) (.sq (.call iB (slice [(.ix (.var 0) (.cst (.int 1)))]))) (Blgt1 iJ), .ifs (.cmp .NotEq (.b1 .len (.call iJ (slice [(.var 0), (.var 1)]))) (.cst (.int 1))) (block [.nev]) (block []), .ret (.var 1)])
theorem srt_srt (a : List Nat) (t : Nat) : srtN (srtN a ++ [t]) = srtN (a ++ [t]) :=
 List.Perm.eq_of_pairwise (le := (· <= ·)) (fun a b _ _ h1 h2 => Nat.le_antisymm h1 h2) (srtN_le _) (srtN_le _) ((srtN_perm _).trans (((srtN_perm a).append_right [t]).trans (srtN_perm _).symm))
theorem cnt_srt {m : Nat} {ls : List (Nat × Nat)} (hi : In m ls) {a : List Nat} (ha : Nm ls a) : (groups m (ends ls (srtN a))).length = (groups m (ends ls a)).length := by
 rw [groups_len, groups_len]
 have hs : Nm ls (srtN a) := fun i h => ha i (srtN_mem.mp h)
 exact cnt_congr (ends_in hi hs) (ends_in hi ha) fun u v _ _ => ⟨J.sub fun i h => srtN_mem.mp h, J.sub fun i h => srtN_mem.mpr h⟩
theorem lgt_loop (p : Nat -> List D -> Option D) {iB iJ m : Nat} {ls : List (Nat × Nat × Nat)} (hi : ∀ l ∈ ls, lOk m l) (hL : ls.length <= 60) (hB : p iB [.tup (ls.map lineD)] = some (natsD (ordL ls)))
  (hJ : ∀ c, Nm (prs ls) c -> c.length <= 1000 -> p iJ [groundD m ls, tupD c] = some (.tup ((groups m (ends (prs ls) c)).map tupD))) :
  ∃ x2 x3, evS p (.fr (.one 2) (.sq (.call iB (slice [(.ix (.var 0) (.cst (.int 1)))]))) (Blgt1 iJ)) [some (.val (groundD m ls)), some (.val (tupD [])), none, none, none, none, none, none, none, none] = some (.nx [some (.val (groundD m ls)), some (.val (tupD (lightT m ls))), x2, x3, none, none, none, none, none, none]) := by
 have hp : (prs ls).length = ls.length := by simp [prs]
 have hin := prs_in hi
 obtain ⟨o1, _⟩ := ordL_ok (ls := ls) (by omega)
 have ol : (ordL ls).length = ls.length := by simpa using o1.length_eq
 obtain ⟨r, e, x2, x3, rfl, _⟩ := for_foldi (p := p) (tg := .one 2) (it := .sq (.call iB (slice [(.ix (.var 0) (.cst (.int 1)))]))) (b := Blgt1 iJ) (em := dn) (k := .fz) (xs := ordL ls) (s := ([] : List Nat)) (r := [some (.val (groundD m ls)), some (.val (tupD [])), none, none, none, none, none, none, none, none])
  (fun i a r => ∃ x2 x3, r = [some (.val (groundD m ls)), some (.val (tupD (srtN a))), x2, x3, none, none, none, none, none, none] /\ Nm (prs ls) a /\ a.length <= i) (gst m (prs ls))
  (by
   have ix1 : atI [dn m, D.tup (ls.map lineD)] 1 = some (.tup (ls.map lineD)) := rfl
   simp [groundD, hB, natsD]) (by decide) ⟨none, none, rfl, (fun i h => by cases h), Nat.le_refl _⟩ (by
   rintro i a t r hx ⟨y2, y3, rfl, hn, hl⟩
   have ht : t < (prs ls).length := by
    have := o1.mem_iff.mp (List.mem_of_getElem? hx)
    rw [hp]; simpa using this
   have hil : i < ls.length := by rw [<- ol]; exact (List.getElem?_eq_some_iff.mp hx).1
   have hn' : Nm (prs ls) (a ++ [t]) := fun j hj => by
    rcases List.mem_append.mp hj with hj | hj
    ·exact hn j hj
    ·have : j = t := by simpa using hj
     subst this; exact ht
   have hns : Nm (prs ls) (srtN a) := fun j h => hn j (srtN_mem.mp h)
   have hns' : Nm (prs ls) (srtN (a ++ [t])) := fun j h => hn' j (srtN_mem.mp h)
   have sl := srtN_len a
   have sl' := srtN_len (a ++ [t])
   have ad : opD .Add (.tup ((srtN a).map dn)) (.tup [dn t]) = some (.fz, .tup ((srtN a ++ [t]).map dn)) := by
    rw [opD_add_t (by simp; omega)]
    simp
   have so := sortedT_dn (srtN a ++ [t]) (by simp; omega)
   rw [srt_srt] at so
   have s1 : evS p (.asg false 3 (.b1 .tuple (.b1 .sorted (.bin .Add (.var 1) (.tp (slice [(.var 2)])))))) [some (.val (groundD m ls)), some (.val (tupD (srtN a))), some (.val (dn t)), y3, none, none, none, none, none, none] = some (.nx [some (.val (groundD m ls)), some (.val (tupD (srtN a))), some (.val (dn t)), some (.val (tupD (srtN (a ++ [t])))), none, none, none, none, none, none]) := by
    have so' : b1D .sorted (.tup ((srtN a ++ [t]).map dn)) = some (.fr, .lst ((srtN (a ++ [t])).map dn)) := so
    simp only [List.map_append, List.map_cons, List.map_nil] at ad so'
    simp [tupD, ad, so']
   have j1 := hJ _ hns (by omega)
   have j2 := hJ _ hns' (by rw [sl']; simp; omega)
   have c1 := cnt_srt hin hn
   have c2 := cnt_srt hin hn'
   have gc := gcond hin hn ht
   have lt : (groups m (ends (prs ls) (srtN (a ++ [t])))).length < (groups m (ends (prs ls) (srtN a))).length ↔ ¬ gt (run m (ends (prs ls) a)) ((prs ls).getD t (0, 0)).1 = gt (run m (ends (prs ls) a)) ((prs ls).getD t (0, 0)).2 := by
    rw [c1, c2]; exact gc
   by_cases q : gt (run m (ends (prs ls) a)) ((prs ls).getD t (0, 0)).1 = gt (run m (ends (prs ls) a)) ((prs ls).getD t (0, 0)).2
   ·have es : gst m (prs ls) a t = a := if_pos q
    have hlt : ¬ (groups m (ends (prs ls) (srtN (a ++ [t])))).length < (groups m (ends (prs ls) (srtN a))).length := fun z => (lt.mp z) q
    rw [es]
    refine ⟨_, _, rfl, ?_, some (.val (dn t)), some (.val (tupD (srtN (a ++ [t])))), rfl, hn, by omega⟩
    show evSS p (.cons _ (.cons _ .nil)) [some (.val (groundD m ls)), some (.val (tupD (srtN a))), some (.val (dn t)), y3, none, none, none, none, none, none] = _
    rw [evSS_nx s1]
    simp [j1, j2, hlt]
   ·have es : gst m (prs ls) a t = a ++ [t] := if_neg q
    have hlt := lt.mpr q
    rw [es]
    refine ⟨_, _, rfl, ?_, some (.val (dn t)), some (.val (tupD (srtN (a ++ [t])))), rfl, hn', by simp; omega⟩
    show evSS p (.cons _ (.cons _ .nil)) [some (.val (groundD m ls)), some (.val (tupD (srtN a))), some (.val (dn t)), y3, none, none, none, none, none, none] = _
    rw [evSS_nx s1]
    simp [j1, j2, hlt])
 rw [<- gext_fold] at e
 exact ⟨x2, x3, e⟩
theorem light_nm {m : Nat} {ls : List (Nat × Nat × Nat)} (hL : ls.length < 64) : Nm (prs ls) (lightT m ls) /\ (lightT m ls).length <= ls.length /\ (lightT m ls).Pairwise (· < ·) /\ ∀ i, i ∈ lightT m ls ↔ i ∈ gext m (prs ls) [] (ordL ls) := by
 obtain ⟨o1, _⟩ := ordL_ok hL
 obtain ⟨r', e, s⟩ := gext_pre (m := m) (ls := prs ls) (ordL ls) []
 rw [List.nil_append] at e
 refine ⟨fun i h => ?_, ?_, srtN_lt ?_, fun i => srtN_mem⟩
 ·have := s.subset (by rw [<- e]; exact srtN_mem.mp h)
  have := o1.mem_iff.mp this
  simpa [prs] using this
 ·unfold lightT
  rw [srtN_len, e]
  have := s.length_le
  have := o1.length_eq
  simp at this
  omega
 ·rw [e]
  exact (o1.nodup_iff.mpr List.nodup_range).sublist s
theorem light_ev (p : Nat -> List D -> Option D) {iB iJ m : Nat} {ls : List (Nat × Nat × Nat)} (hi : ∀ l ∈ ls, lOk m l) (hL : ls.length <= 60) (hB : p iB [.tup (ls.map lineD)] = some (natsD (ordL ls)))
  (hJ : ∀ c, Nm (prs ls) c -> c.length <= 1000 -> p iJ [groundD m ls, tupD c] = some (.tup ((groups m (ends (prs ls) c)).map tupD))) (h1 : (groups m (ends (prs ls) (lightT m ls))).length = 1) : runF p 10 (Blgt iB iJ) [groundD m ls] = some (tupD (lightT m ls)) := by
 obtain ⟨x2, x3, e⟩ := lgt_loop p hi hL hB hJ
 obtain ⟨n1, n2, _⟩ := light_nm (m := m) (ls := ls) (by omega)
 have j := hJ _ n1 (by omega)
 show left (evSS p (.cons _ (.cons _ (.cons _ (.cons _ .nil)))) [some (.val (groundD m ls)), none, none, none, none, none, none, none, none, none]) = _
 have e0 : evS p (.asg false 1 (.tp (slice []))) [some (.val (groundD m ls)), none, none, none, none, none, none, none, none, none] = some (.nx [some (.val (groundD m ls)), some (.val (tupD [])), none, none, none, none, none, none, none, none]) := by simp [tupD]
 rw [evSS_nx e0, evSS_nx e]
 have e2 : evS p (.ifs (.cmp .NotEq (.b1 .len (.call iJ (slice [(.var 0), (.var 1)]))) (.cst (.int 1))) (block [.nev]) (block [])) [some (.val (groundD m ls)), some (.val (tupD (lightT m ls))), x2, x3, none, none, none, none, none, none] = some (.nx [some (.val (groundD m ls)), some (.val (tupD (lightT m ls))), x2, x3, none, none, none, none, none, none]) := by
  simp [j, h1]
 rw [evSS_nx e2]
 simp
theorem light_tr {m : Nat} {ls : List (Nat × Nat × Nat)} (hi : ∀ l ∈ ls, lOk m l) (hm : 0 < m) (hL : ls.length < 64) {Z : List Nat} (hZ : Nm (prs ls) Z) (sZ : Sp m (ends (prs ls) Z)) :
  Tr m (prs ls) (lightT m ls) /\ ∀ Z, Tr m (prs ls) Z -> wt (lenOf ls) (lightT m ls) <= wt (lenOf ls) Z /\ (OnlyT m (prs ls) (lenOf ls) (lightT m ls) -> Z ≠ lightT m ls -> wt (lenOf ls) (lightT m ls) < wt (lenOf ls) Z) := by
 have hin := prs_in hi
 have hp : (prs ls).length = ls.length := by simp [prs]
 obtain ⟨o1, o2⟩ := ordL_ok hL
 obtain ⟨n1, n2, n3, n4⟩ := light_nm (m := m) hL
 have om : ∀ i, i ∈ ordL ls ↔ i < ls.length := fun i => by rw [o1.mem_iff]; simp
 have ac := gext_ac (m := m) (ls := prs ls) (ordL ls) [] rfl
 have jj := gext_J hin (ordL ls) [] (fun i h => by cases h) (fun i h => by rw [hp]; exact (om i).mp h)
 have ng : Nm (prs ls) (gext m (prs ls) [] (ordL ls)) := fun i h => n1 i ((n4 i).mpr h)
 have acT : Ac m (ends (prs ls) (lightT m ls)) := ac_sub hin ng ac (n3.imp fun h => Nat.ne_of_lt h) fun i h => (n4 i).mp h
 have sp : Sp m (ends (prs ls) (lightT m ls)) := fun u hu => (sZ u hu).le fun a b hab => by
  obtain ⟨i, hiZ, e⟩ := List.mem_map.mp hab
  have := jj i ((om i).mpr (by rw [<- hp]; exact hZ i hiZ))
  rw [e] at this
  exact this.sub fun i h => (n4 i).mpr h
 have tr : Tr m (prs ls) (lightT m ls) := ⟨n3, n1, sp_len hin hm n1 acT sp, sp⟩
 exact ⟨tr, fun Z hZ => light_min hin hm (o1.nodup_iff.mpr List.nodup_range) (fun i h => (om i).mpr (by rw [<- hp]; exact h)) (fun i h => by rw [hp]; exact (om i).mp h) o2 tr n4 _ Z hZ rfl⟩
noncomputable def Bilg (iW : Nat) : SS := (block [.asg false 3 (.ix (.var 0) (.cst (.int 1))), .asg false 4 (.call iW (slice [(.var 0), (.var 1), (.ix (.ix (.var 3) (.var 2)) (.cst (.int 0))), (.ix (.ix (.var 3) (.var 2)) (.cst (.int 1)))])), .ret (.b1 .all (.comp [none, none, some 2, some 3] (.one 1) (.sq (.var 4)) .no (.cmp .Lt (.ix (.ix (.var 3) (.var 1)) (.cst (.int 2))) (.ix (.ix (.var 3) (.var 2)) (.cst (.int 2))))))])
theorem line_get {ls : List (Nat × Nat × Nat)} {i : Nat} (h : i < ls.length) : (ls.map lineD)[i]? = some (.tup [dn ((prs ls).getD i (0, 0)).1, dn ((prs ls).getD i (0, 0)).2, dn (lenOf ls i)]) := by
 rw [List.getElem?_map, List.getElem?_eq_getElem h]
 simp [lineD, prs, lenOf, h]
theorem ilg_ev (p : Nat -> List D -> Option D) {iW m e : Nat} {ls : List (Nat × Nat × Nat)} {T w : List Nat} (he : e < ls.length) (hw : ∀ n ∈ w, n < ls.length) (hl : w.length <= 1000)
  (hW : p iW [groundD m ls, tupD T, dn ((prs ls).getD e (0, 0)).1, dn ((prs ls).getD e (0, 0)).2] = some (tupD w)) : runF p 7 (Bilg iW) [groundD m ls, tupD T, dn e] = some (.bl (w.all fun n => decide (lenOf ls n < lenOf ls e))) := by
 have g := line_get he
 show left (evSS p (.cons _ (.cons _ (.cons _ .nil))) [some (.val (groundD m ls)), some (.val (tupD T)), some (.val (dn e)), none, none, none, none]) = _
 have e1 : evS p (.asg false 3 (.ix (.var 0) (.cst (.int 1)))) [some (.val (groundD m ls)), some (.val (tupD T)), some (.val (dn e)), none, none, none, none] = some (.nx [some (.val (groundD m ls)), some (.val (tupD T)), some (.val (dn e)), some (.val (.tup (ls.map lineD))), none, none, none]) := by
  simp [groundD]
 have e2 : evS p (.asg false 4 (.call iW (slice [(.var 0), (.var 1), (.ix (.ix (.var 3) (.var 2)) (.cst (.int 0))), (.ix (.ix (.var 3) (.var 2)) (.cst (.int 1)))]))) [some (.val (groundD m ls)), some (.val (tupD T)), some (.val (dn e)), some (.val (.tup (ls.map lineD))), none, none, none] = some (.nx [some (.val (groundD m ls)), some (.val (tupD T)), some (.val (dn e)), some (.val (.tup (ls.map lineD))), some (.val (tupD w)), none, none]) := by
  refine asg_fz (d := tupD w) ?_
  have hW' := hW
  simp only [List.getD_eq_getElem?_getD] at hW'
  simp [atI_nat, g, hW']
 rw [evSS_nx e1, evSS_nx e2]
 have e3 : (ev p (.comp [none, none, some 2, some 3] (.one 1) (.sq (.var 4)) .no (.cmp .Lt (.ix (.ix (.var 3) (.var 1)) (.cst (.int 2))) (.ix (.ix (.var 3) (.var 2)) (.cst (.int 2))))) [some (.val (groundD m ls)), some (.val (tupD T)), some (.val (dn e)), some (.val (.tup (ls.map lineD))), some (.val (tupD w)), none, none]).1 = some (.fr, .lst ((w.map fun n => decide (lenOf ls n < lenOf ls e)).map D.bl)) := by
  refine comp_map (em := dn) (en := D.bl) (g := fun n => decide (lenOf ls n < lenOf ls e)) (xs := w) (k := .fz) (by simp [tupD]) (by omega) rfl ?_
  intro n hn
  have gn := line_get (hw n hn)
  simp [atI_nat, g, gn]
 have ea : (ev p (.b1 .all (.comp [none, none, some 2, some 3] (.one 1) (.sq (.var 4)) .no (.cmp .Lt (.ix (.ix (.var 3) (.var 1)) (.cst (.int 2))) (.ix (.ix (.var 3) (.var 2)) (.cst (.int 2)))))) [some (.val (groundD m ls)), some (.val (tupD T)), some (.val (dn e)), some (.val (.tup (ls.map lineD))), some (.val (tupD w)), none, none]).1 = some (.fz, .bl (w.all fun n => decide (lenOf ls n < lenOf ls e))) := by
  rw [ev_b1, e3]
  have := all_map id (w.map fun n => decide (lenOf ls n < lenOf ls e))
  simp only [id] at this
  simpa [List.all_map, Function.comp_def] using this
 rw [evSS_rt (ret_fz ea)]
 rfl
noncomputable def Bonly (iL iG : Nat) : SS := (block [.asg false 1 (.call iL (slice [(.var 0)])), .asg false 2 (.comp [none, none, some 1] (.one 1) (.r1 (.b1 .len (.ix (.var 0) (.cst (.int 1))))) (.so (.cmp .NotIn (.var 1) (.var 2))) (.var 1)), .ret (.b1 .all (.comp [none, none, none, some 0, some 1] (.one 1) (.sq (.var 2)) .no (.call iG (slice [(.var 3), (.var 4), (.var 1)]))))])
theorem only_ev (p : Nat -> List D -> Option D) {iL iG m : Nat} {ls : List (Nat × Nat × Nat)} {T : List Nat} {b : Nat -> Bool} (hL : ls.length <= 60) (eL : p iL [groundD m ls] = some (tupD T))
  (eG : ∀ e, e < ls.length -> e ∉ T -> p iG [groundD m ls, tupD T, dn e] = some (.bl (b e))) : runF p 7 (Bonly iL iG) [groundD m ls] = some (.bl (((List.range ls.length).filter fun e => !decide (e ∈ T)).all b)) := by
 show left (evSS p (.cons _ (.cons _ (.cons _ .nil))) [some (.val (groundD m ls)), none, none, none, none, none, none]) = _
 have e1 : evS p (.asg false 1 (.call iL (slice [(.var 0)]))) [some (.val (groundD m ls)), none, none, none, none, none, none] = some (.nx [some (.val (groundD m ls)), some (.val (tupD T)), none, none, none, none, none]) := by
  simp [eL]
 have c2 : (ev p (.comp [none, none, some 1] (.one 1) (.r1 (.b1 .len (.ix (.var 0) (.cst (.int 1))))) (.so (.cmp .NotIn (.var 1) (.var 2))) (.var 1)) [some (.val (groundD m ls)), some (.val (tupD T)), none, none, none, none, none]).1 = some (.fr, .lst (((List.range ls.length).filter fun e => !decide (e ∈ T)).map dn)) := by
  refine comp_filter (em := dn) (c := fun e => !decide (e ∈ T)) (xs := List.range ls.length) (k := .fz) (by simp [groundD, rngOk_nat (show ls.length <= 100000 by omega), rngD_0]) (by simp; omega) rfl ?_
  intro e _
  have := notin_tup e T
  by_cases q : e ∈ T <;> simp [this, q]
 have e2 := asg_fr (i := 2) c2
 rw [evSS_nx e1, evSS_nx e2]
 show left (evSS p (.cons _ .nil) [some (.val (groundD m ls)), some (.val (tupD T)), some (.val (natsD ((List.range ls.length).filter fun e => !decide (e ∈ T)))), none, none, none, none]) = _
 have c3 : (ev p (.comp [none, none, none, some 0, some 1] (.one 1) (.sq (.var 2)) .no (.call iG (slice [(.var 3), (.var 4), (.var 1)]))) [some (.val (groundD m ls)), some (.val (tupD T)), some (.val (natsD ((List.range ls.length).filter fun e => !decide (e ∈ T)))), none, none, none, none]).1 = some (.fr, .lst ((((List.range ls.length).filter fun e => !decide (e ∈ T)).map b).map D.bl)) := by
  refine comp_map (em := dn) (en := D.bl) (g := b) (xs := (List.range ls.length).filter fun e => !decide (e ∈ T)) (k := .fz) (by simp [natsD]) (by have := List.length_filter_le (fun e => !decide (e ∈ T)) (List.range ls.length); simp at this; omega) rfl ?_
  intro e he
  obtain ⟨h1, h2⟩ := List.mem_filter.mp he
  have := eG e (by simpa using h1) (by simpa using h2)
  simp [this]
 have ea : (ev p (.b1 .all (.comp [none, none, none, some 0, some 1] (.one 1) (.sq (.var 2)) .no (.call iG (slice [(.var 3), (.var 4), (.var 1)])))) [some (.val (groundD m ls)), some (.val (tupD T)), some (.val (natsD ((List.range ls.length).filter fun e => !decide (e ∈ T)))), none, none, none, none]).1 = some (.fz, .bl (((List.range ls.length).filter fun e => !decide (e ∈ T)).all b)) := by
  rw [ev_b1, c3]
  have := all_map id (((List.range ls.length).filter fun e => !decide (e ∈ T)).map b)
  simp only [id] at this
  simpa [List.all_map, Function.comp_def] using this
 rw [evSS_rt (ret_fz ea)]
 rfl
end TW
end
section
namespace TW
open PySem (Addr Obj Operator CmpOp)
open UF
theorem sum_fold : ∀ (l : List Nat) (a : Nat), (l.map fun x : Nat => (x : Int)).foldl (· + ·) (a : Int) = ((a + l.sum : Nat) : Int)
 | [], a => by simp
 | x :: r, a => by
  rw [List.map_cons, List.foldl_cons, List.sum_cons]
  have := sum_fold r (a + x)
  rw [show ((a : Int) + (x : Int)) = ((a + x : Nat) : Int) by omega, this]
  congr 1
  omega
theorem sum_dn (l : List Nat) : b1D .sum (.lst (l.map dn)) = some (.fz, dn l.sum) := by
 show (intsOf (l.map dn)).map _ = _
 rw [ints_dn]
 show some (Kd.fz, D.int (sumL (l.map fun x : Nat => (x : Int)))) = _
 have := sum_fold l 0
 rw [Nat.zero_add] at this
 unfold sumL
 rw [show ((0 : Int)) = ((0 : Nat) : Int) from rfl, this]
end TW
end
section
namespace K40
open TW
noncomputable def b0 : SS := block []
noncomputable def b1 : SS := (block [.asg false 2 (.ix (.var 0) (.cst (.int 1))), .ret (.call 2 (slice [(.ix (.var 0) (.cst (.int 0))), (.comp [none, none, some 2] (.one 1) (.sq (.var 1)) .no (.ix (.var 2) (.var 1)))]))])
noncomputable def b2 : SS := (block [.asg false 2 (.rngl (.var 0)), .fr (.one 3) (.sq (.var 1)) (block [.asg false 2 (.call 3 (slice [(.var 2), (.ix (.var 2) (.ix (.var 3) (.cst (.int 0)))), (.ix (.var 2) (.ix (.var 3) (.cst (.int 1))))]))]), .ret (.b1 .tuple (.comp [none, none, none, some 2] (.one 1) (.r1 (.var 0)) (.so (.cmp .Eq (.ix (.var 3) (.var 1)) (.var 1))) (.call 4 (slice [(.var 3), (.var 1)]))))])
noncomputable def b3 : SS := (block [.asg false 3 (.b2 .min (.var 1) (.var 2)), .ret (.comp [none, none, some 3, some 1, some 2] (.one 1) (.sq (.var 0)) .no (.ife (.cmp .In (.var 1) (.tp (slice [(.var 3), (.var 4)]))) (.var 2) (.var 1)))])
noncomputable def b4 : SS := (block [.ret (.b1 .tuple (.comp [none, none, some 1, some 0] (.one 1) (.r1 (.b1 .len (.var 0))) (.so (.cmp .Eq (.ix (.var 3) (.var 1)) (.var 2))) (.var 1)))])
noncomputable def b5 : SS := (block [.ret (.ix (.call 6 (slice [(.var 0), (.var 1), (.var 2)])) (.var 3))])
noncomputable def b6 : SS := (block [.dnew 3 (.var 2) (.tp (slice [])), .fr (.one 4) (.r1 (.b1 .len (.var 1))) (block [.fr (.one 5) (.sq (.var 1)) (block [.asg false 6 (.ix (.ix (.var 0) (.cst (.int 1))) (.var 5)), .ifs (.an (.cmp .In (.ix (.var 6) (.cst (.int 0))) (.var 3)) (.cmp .NotIn (.ix (.var 6) (.cst (.int 1))) (.var 3))) (block [.dset 3 (.ix (.var 6) (.cst (.int 1))) (.bin .Add (.ix (.var 3) (.ix (.var 6) (.cst (.int 0)))) (.tp (slice [(.var 5)])))]) (block [.ifs (.an (.cmp .In (.ix (.var 6) (.cst (.int 1))) (.var 3)) (.cmp .NotIn (.ix (.var 6) (.cst (.int 0))) (.var 3))) (block [.dset 3 (.ix (.var 6) (.cst (.int 0))) (.bin .Add (.ix (.var 3) (.ix (.var 6) (.cst (.int 1)))) (.tp (slice [(.var 5)])))]) (block [])])])]), .give 3, .ret (.var 3)])
noncomputable def b7 : SS := (block [.ret (.b1 .sum (.comp [none, none, some 0] (.one 1) (.sq (.var 1)) .no (.ix (.ix (.ix (.var 2) (.cst (.int 1))) (.var 1)) (.cst (.int 2)))))])
noncomputable def b8 : SS := (block [.asg false 1 (.tp (slice [])), .fr (.one 2) (.sq (.call 9 (slice [(.ix (.var 0) (.cst (.int 1)))]))) (block [.asg false 3 (.b1 .tuple (.b1 .sorted (.bin .Add (.var 1) (.tp (slice [(.var 2)]))))), .ifs (.cmp .Lt (.b1 .len (.call 1 (slice [(.var 0), (.var 3)]))) (.b1 .len (.call 1 (slice [(.var 0), (.var 1)])))) (block [.asg false 1 (.var 3)]) (block [])]), .ifs (.cmp .NotEq (.b1 .len (.call 1 (slice [(.var 0), (.var 1)]))) (.cst (.int 1))) (block [.nev]) (block []), .ret (.var 1)])
noncomputable def b9 : SS := (block [.ret (.b1 .byl (.var 0))])
noncomputable def b10 : SS := (block [.asg false 1 (.call 8 (slice [(.var 0)])), .asg false 2 (.comp [none, none, some 1] (.one 1) (.r1 (.b1 .len (.ix (.var 0) (.cst (.int 1))))) (.so (.cmp .NotIn (.var 1) (.var 2))) (.var 1)), .ret (.b1 .all (.comp [none, none, none, some 0, some 1] (.one 1) (.sq (.var 2)) .no (.call 11 (slice [(.var 3), (.var 4), (.var 1)]))))])
noncomputable def b11 : SS := (block [.asg false 3 (.ix (.var 0) (.cst (.int 1))), .asg false 4 (.call 5 (slice [(.var 0), (.var 1), (.ix (.ix (.var 3) (.var 2)) (.cst (.int 0))), (.ix (.ix (.var 3) (.var 2)) (.cst (.int 1)))])), .ret (.b1 .all (.comp [none, none, some 2, some 3] (.one 1) (.sq (.var 4)) .no (.cmp .Lt (.ix (.ix (.var 3) (.var 1)) (.cst (.int 2))) (.ix (.ix (.var 3) (.var 2)) (.cst (.int 2))))))])
noncomputable def b12 : SS := (block [.asg false 2 (.bin .Mod (.bin .Mult (.bin .Add (.bin .Add (.call 0 (slice [(.var 0), (.var 1)])) (.bin .Mult (.cst (.int 7919)) (.var 1))) (.cst (.int 1))) (.cst (.int 48271))) (.cst (.int 2147483647))), .ret (.bin .Mod (.bin .Add (.bin .Add (.bin .Mult (.var 2) (.var 2)) (.bin .Mult (.cst (.int 7)) (.var 2))) (.var 1)) (.cst (.int 2147483629)))])
noncomputable def b13 : SS := (block [.asg false 2 (.bin .Mod (.bin .Mult (.bin .Add (.bin .Add (.var 0) (.bin .Mult (.cst (.int 104729)) (.var 1))) (.cst (.int 17))) (.cst (.int 69621))) (.cst (.int 2147483647))), .ret (.bin .Mod (.bin .Add (.bin .Add (.bin .Mult (.var 2) (.var 2)) (.bin .Mult (.cst (.int 3)) (.var 2))) (.var 1)) (.cst (.int 2147483629)))])
noncomputable def b14 : SS := (block [.ret (.an (.isi (.var 0) .int) (.an (.nt (.isi (.var 0) .bool)) (.cmp2 .LtE .LtE (.var 1) (.var 0) (.var 2))))])
noncomputable def b15 : SS := (block [.asg false 3 (.bin .Add (.cst (.int 1)) (.bin .Mod (.var 0) (.var 1))), .asg true 4 (.ls (slice [])), .asg false 5 (.ix (.tp (slice [(.cst (.int 1)), (.cst (.int 3)), (.cst (.int 10)), (.cst (.int 1001))])) (.bin .Mod (.bin .FloorDiv (.var 0) (.cst (.int 8))) (.cst (.int 4)))), .fr (.one 6) (.r2 (.cst (.int 1)) (.var 3)) (block [.asg false 7 (.call 13 (slice [(.var 0), (.var 6)])), .ifs (.orr (.cmp .Gt (.bin .Mod (.bin .FloorDiv (.var 0) (.cst (.int 32))) (.cst (.int 3))) (.cst (.int 0))) (.cmp .Gt (.bin .Mod (.var 7) (.cst (.int 4))) (.cst (.int 0)))) (block [.app 4 (.tp (slice [(.bin .Mod (.bin .FloorDiv (.var 7) (.cst (.int 4))) (.var 6)), (.var 6), (.bin .Mod (.bin .FloorDiv (.var 7) (.cst (.int 64))) (.var 5))]))]) (block [])]), .fr (.one 8) (.r1 (.bin .Mod (.bin .FloorDiv (.var 0) (.cst (.int 96))) (.bin .Add (.var 2) (.cst (.int 1))))) (block [.asg false 7 (.call 13 (slice [(.var 0), (.bin .Add (.cst (.int 20)) (.var 8))])), .ifs (.an (.cmp .Gt (.var 3) (.cst (.int 1))) (.cmp .Lt (.b1 .len (.var 4)) (.var 2))) (block [.asg false 9 (.bin .Mod (.var 7) (.var 3)), .asg false 10 (.bin .Mod (.bin .Add (.bin .Add (.var 9) (.cst (.int 1))) (.bin .Mod (.bin .FloorDiv (.var 7) (.cst (.int 8))) (.bin .Sub (.var 3) (.cst (.int 1))))) (.var 3)), .app 4 (.tp (slice [(.b2 .min (.var 9) (.var 10)), (.b2 .max (.var 9) (.var 10)), (.bin .Mod (.bin .FloorDiv (.var 7) (.cst (.int 64))) (.var 5))]))]) (block [])]), .asg false 11 (.bin .Mod (.bin .FloorDiv (.var 0) (.cst (.int 2000))) (.cst (.int 13))), .ret (.tp (slice [(.var 3), (.b1 .tuple (.bin .Add (.sl (.var 4) (.so (.var 11)) .no) (.sl (.var 4) .no (.so (.var 11)))))]))])
noncomputable def b16 : SS := (block [.asg false 2 (.rngl (.var 0)), .fr (.many [3, 4]) (.sq (.var 1)) (block [.asg false 5 (.ix (.var 2) (.var 4)), .asg false 2 (.comp [none, none, none, some 2, some 5, some 3] (.one 1) (.sq (.var 2)) .no (.ix (.ls (slice [(.var 1), (.ix (.var 3) (.var 5))])) (.b1 .int (.cmp .Eq (.var 1) (.var 4)))))]), .asg true 6 (.ls (slice [])), .fr (.one 7) (.r1 (.var 0)) (block [.asg false 8 (.comp [none, none, some 2, some 7] (.one 1) (.r1 (.var 0)) (.so (.cmp .Eq (.ix (.var 2) (.var 1)) (.ix (.var 2) (.var 3)))) (.var 1)), .ifs (.cmp .NotIn (.var 8) (.var 6)) (block [.app 6 (.var 8)]) (block [])]), .ret (.b1 .tuple (.comp [none, none, none] (.one 1) (.sq (.var 6)) .no (.b1 .tuple (.var 1))))])
noncomputable def b17 : SS := (block [.ifs (.orr (.nt (.isi (.var 0) .tuple)) (.cmp .NotEq (.b1 .len (.var 0)) (.bin .Sub (.ix (.var 1) (.cst (.int 0))) (.cst (.int 1))))) (block [.ret (.cst (.bl false))]) (block []), .ifs (.cmp .NotEq (.comp [none, none, none, none, some 1] (.one 1) (.sq (.var 0)) (.so (.nt (.call 14 (slice [(.var 1), (.cst (.int 0)), (.bin .Sub (.b1 .len (.ix (.var 4) (.cst (.int 1)))) (.cst (.int 1)))])))) (.var 1)) (.ls (slice []))) (block [.ret (.cst (.bl false))]) (block []), .ifs (.cmp .NotEq (.comp [none, none, some 0] (.one 1) (.r2 (.cst (.int 1)) (.b1 .len (.var 0))) (.so (.cmp .GtE (.ix (.var 2) (.bin .Sub (.var 1) (.cst (.int 1)))) (.ix (.var 2) (.var 1)))) (.var 1)) (.ls (slice []))) (block [.ret (.cst (.bl false))]) (block []), .ret (.cmp .Eq (.b1 .len (.call 16 (slice [(.ix (.var 1) (.cst (.int 0))), (.comp [none, none, some 1] (.one 1) (.sq (.var 0)) .no (.sl (.ix (.ix (.var 2) (.cst (.int 1))) (.var 1)) .no (.so (.cst (.int 2)))))]))) (.cst (.int 1)))])
noncomputable def b18 : SS := (block [.asg false 2 (.ls (slice [])), .fr (.one 3) (.r1 (.b1 .len (.ix (.var 0) (.cst (.int 1))))) (block [.asg false 4 (.bin .Mod (.call 13 (slice [(.var 1), (.var 3)])) (.bin .Add (.var 3) (.cst (.int 1)))), .asg false 2 (.bin .Add (.bin .Add (.sl (.var 2) .no (.so (.var 4))) (.ls (slice [(.var 3)]))) (.sl (.var 2) (.so (.var 4)) .no))]), .asg true 5 (.ls (slice [])), .fr (.one 3) (.sq (.var 2)) (block [.asg false 6 (.b1 .len (.call 16 (slice [(.ix (.var 0) (.cst (.int 0))), (.comp [none, none, some 0] (.one 1) (.sq (.var 5)) .no (.sl (.ix (.ix (.var 2) (.cst (.int 1))) (.var 1)) .no (.so (.cst (.int 2)))))]))), .ifs (.cmp .Lt (.b1 .len (.call 16 (slice [(.ix (.var 0) (.cst (.int 0))), (.comp [none, none, some 0] (.one 1) (.sq (.bin .Add (.var 5) (.ls (slice [(.var 3)])))) .no (.sl (.ix (.ix (.var 2) (.cst (.int 1))) (.var 1)) .no (.so (.cst (.int 2)))))]))) (.var 6)) (block [.app 5 (.var 3)]) (block [])]), .ret (.b1 .tuple (.b1 .sorted (.var 5)))])
noncomputable def b19 : SS := (block [.ret (.b1 .tuple (.b1 .sorted (.bin .Add (.comp [none, none, some 1] (.one 1) (.sq (.var 0)) (.so (.cmp .NotEq (.var 1) (.var 2))) (.var 1)) (.ls (slice [(.var 2)])))))])
noncomputable def b20 : SS := (toldB 22 23 8 10)
noncomputable def b21 : SS := (block [.asg false 1 (.call 15 (slice [(.call 12 (slice [(.var 0), (.cst (.int 0))])), (.cst (.int 7)), (.bin .Add (.cst (.int 12)) (.bin .Mult (.cst (.int 9)) (.b1 .int (.cmp .Eq (.bin .Mod (.bin .FloorDiv (.call 12 (slice [(.var 0), (.cst (.int 0))])) (.cst (.int 7))) (.cst (.int 6))) (.cst (.int 1))))))])), .asg false 2 (.call 18 (slice [(.var 1), (.call 12 (slice [(.var 0), (.cst (.int 1))]))])), .asg false 4 (.comp [none, none] (.one 1) (.sq (.ix (.var 1) (.cst (.int 1)))) .no (.ix (.var 1) (.cst (.int 2)))), .ifs (.cmp .NotEq (.call 7 (slice [(.var 1), (.var 2)])) (.b1 .sum (.comp [none, none, some 4] (.one 1) (.sq (.var 2)) .no (.ix (.var 2) (.var 1))))) (block [.ret (.cst (.bl false))]) (block []), .asg false 5 (.call 20 (slice [(.var 1), (.cst (.bl true))])), .asg false 6 (.call 20 (slice [(.var 1), (.cst (.bl false))])), .ifs (.nt (.call 17 (slice [(.var 2), (.var 1)]))) (block [.ret (.an (.cmp .Is (.var 5) (.cst .non)) (.cmp .Is (.var 6) (.cst .non)))]) (block []), .ifs (.orr (.nt (.call 17 (slice [(.var 5), (.var 1)]))) (.nt (.isi (.var 6) .bool))) (block [.ret (.cst (.bl false))]) (block []), .ifs (.cmp .Gt (.b1 .sum (.comp [none, none, some 4] (.one 1) (.sq (.var 5)) .no (.ix (.var 2) (.var 1)))) (.b1 .sum (.comp [none, none, some 4] (.one 1) (.sq (.var 2)) .no (.ix (.var 2) (.var 1))))) (block [.ret (.cst (.bl false))]) (block []), .asg false 7 (.cst (.bl false)), .fr (.one 3) (.sq (.comp [none, none, some 5] (.one 1) (.r1 (.b1 .len (.var 4))) (.so (.cmp .NotIn (.var 1) (.var 2))) (.var 1))) (block [.asg false 8 (.comp [none, none, none, none, some 5, some 1, some 3] (.one 1) (.sq (.var 5)) (.so (.call 17 (slice [(.call 19 (slice [(.var 4), (.var 1), (.var 6)])), (.var 5)]))) (.var 1)), .ifs (.cmp .NotEq (.comp [none, none, some 4, some 3] (.one 1) (.sq (.var 8)) (.so (.cmp .Gt (.ix (.var 2) (.var 1)) (.ix (.var 2) (.var 3)))) (.var 1)) (.ls (slice []))) (block [.ret (.cst (.bl false))]) (block []), .asg false 7 (.orr (.var 7) (.cmp .NotEq (.comp [none, none, some 4, some 3] (.one 1) (.sq (.var 8)) (.so (.cmp .Eq (.ix (.var 2) (.var 1)) (.ix (.var 2) (.var 3)))) (.var 1)) (.ls (slice []))))]), .ret (.cmp .NotEq (.var 6) (.var 7))])
noncomputable def rs1 : S := .asg false 1 (.tp (slice []))
noncomputable def rs2 : S := .fr (.one 2) (.sq (.call 9 (slice [(.ix (.var 0) (.cst (.int 1)))]))) (block [.asg false 3 (.b1 .tuple (.b1 .sorted (.bin .Add (.var 1) (.tp (slice [(.var 2)]))))), .ifs (.cmp .Lt (.b1 .len (.call 1 (slice [(.var 0), (.var 3)]))) (.b1 .len (.call 1 (slice [(.var 0), (.var 1)])))) (block [.asg false 1 (.var 3)]) (block [])])
noncomputable def rc : C := (.cmp .NotEq (.b1 .len (.call 1 (slice [(.var 0), (.var 1)]))) (.cst (.int 1)))
noncomputable def b22 : SS := (block [rs1, rs2, .ret rc])
noncomputable def b23 : SS := (block [.ret (.call 22 (slice [(.var 0)]))])
noncomputable def bs : List (Nat × SS) := [(3, b0), (4, b1), (8, b2), (5, b3), (5, b4), (5, b5), (9, b6), (3, b7), (10, b8), (4, b9), (7, b10), (7, b11), (4, b12), (3, b13), (6, b14), (18, b15), (12, b16), (7, b17), (13, b18), (5, b19), (14, b20), (21, b21), (10, b22), (7, b23)]
end K40
end
section
namespace K40
open PySem (Addr Obj Operator CmpOp)
open TW UF
variable (K : List (Addr × Obj))
theorem cell (k : Nat) {a : Addr} {ns : List Int} (h : ns.length <= 63) {j : Int} (hj : 0 <= j) : pf K bs (k + 1) 0 [.scr K a ns, .int j] = some (.int (ns.getD j.toNat 0)) := by
 show cellD K [.scr K a ns, .int j] = _
 unfold cellD
 simp [h, hj]
theorem mixed (k : Nat) {a : Addr} {ns : List Int} (h : ns.length <= 63) {j : Int} (hj : 0 <= j) : pf K bs (k + 2) 12 [.scr K a ns, .int j] = some (.int (mixV (ns.getD j.toNat 0) j)) := mixed_ev (pf K bs (k + 1)) (cell K k h hj)
theorem drawn' (k : Nat) (n j : Int) : pf K bs (k + 1) 13 [.int n, .int j] = some (.int (drawn n j)) := drawn_ev (pf K bs k) n j
theorem ground (k : Nat) {n : Int} {L : Nat} (h6 : 6 <= L) (hL : L <= 21) (hn : 0 <= n) : ∃ m ls, pf K bs (k + 2) 15 [.int n, .int 7, .int L] = some (groundD m ls) /\ 0 < m /\ m <= 7 /\ ls.length <= 21 /\ ∀ l ∈ ls, lOk m l := by
 obtain ⟨m, ls, h1, h2, h3, h4, h5⟩ := ground_ev (pf K bs (k + 1)) (iD := 13) (drawn' K k) (L := L) hn (by omega)
 exact ⟨m, ls, h1, h2, h3, by omega, h5⟩
theorem lgroups (k : Nat) {m : Nat} (hm : m <= 100) (q : List (Nat × Nat)) (hq : In m q) : pf K bs (k + 1) 16 [dn m, .lst (q.map pairD)] = some (.tup ((groups m q).map tupD)) := groups_ev (pf K bs k) (s := .lst (q.map pairD)) rfl hq hm
theorem number (k : Nat) (x lo hi : Int) : pf K bs (k + 1) 14 [.int x, .int lo, .int hi] = some (.bl (decide (lo <= x /\ x <= hi))) := number_ev (pf K bs k) x lo hi
theorem len_ev (p : Nat -> List D -> Option D) {m : Nat} {ls : List (Nat × Nat × Nat)} {c : List Nat} (hc : ∀ i ∈ c, i < ls.length) (hl : c.length <= 1000) : runF p 3 b7 [groundD m ls, tupD c] = some (dn (wt (lenOf ls) c)) := by
 show left (evSS p (.cons (.ret (.b1 .sum (.comp [none, none, some 0] (.one 1) (.sq (.var 1)) .no (.ix (.ix (.ix (.var 2) (.cst (.int 1))) (.var 1)) (.cst (.int 2)))))) .nil) [some (.val (groundD m ls)), some (.val (tupD c)), none]) = _
 have e : (ev p (.comp [none, none, some 0] (.one 1) (.sq (.var 1)) .no (.ix (.ix (.ix (.var 2) (.cst (.int 1))) (.var 1)) (.cst (.int 2)))) [some (.val (groundD m ls)), some (.val (tupD c)), none]).1 = some (.fr, .lst ((c.map (lenOf ls)).map dn)) := by
  refine comp_map (em := dn) (en := dn) (g := lenOf ls) (xs := c) (k := .fz) (by simp [tupD]) (by omega) rfl ?_
  intro i hi'
  have gi := line_get (hc i hi')
  simp [groundD, atI_nat, gi]
 have ea : (ev p (.b1 .sum (.comp [none, none, some 0] (.one 1) (.sq (.var 1)) .no (.ix (.ix (.ix (.var 2) (.cst (.int 1))) (.var 1)) (.cst (.int 2))))) [some (.val (groundD m ls)), some (.val (tupD c)), none]).1 = some (.fz, dn (wt (lenOf ls) c)) := by
  rw [ev_b1, e]
  exact sum_dn (c.map (lenOf ls))
 rw [evSS_rt (ret_fz ea)]
 rfl
section
variable {m : Nat} {ls : List (Nat × Nat × Nat)} (hm0 : 0 < m) (hm : m <= 7) (hL : ls.length <= 21) (hi : ∀ l ∈ ls, lOk m l)
include hm hi
theorem groups' (k : Nat) (q : List (Nat × Nat × Nat)) (hq : ∀ x ∈ q, x ∈ ls) : pf K bs (k + 2) 2 [dn m, .lst (q.map lineD)] = some (.tup ((groups m (prs q)).map tupD)) :=
 gp_ev (pf K bs (k + 1)) (iT := 3) (iO := 4) (em := lineD) (pr := fun l => (l.1, l.2.1)) (xs := q) (s := .lst (q.map lineD)) rfl (fun x => ⟨[dn x.2.2], rfl⟩) (prs_in fun l h => hi l (hq l h)) (by omega)
  (fun f x y hf => dt_ev (pf K bs k) x y (by omega)) fun f r hf => gof_ev (pf K bs k) r (by omega)
theorem joined' (k : Nat) {c : List Nat} (hc : Nm (prs ls) c) (hl : c.length <= 1000) : pf K bs (k + 3) 1 [groundD m ls, tupD c] = some (.tup ((groups m (ends (prs ls) c)).map tupD)) :=
 joined_ev (pf K bs (k + 2)) (iG := 2) (fun i h => by have := hc i h; simpa [prs] using this) hl fun q hq => groups' K hm hi k q hq
omit hm hi in
theorem lexch (k : Nat) {T : List Nat} (o e : Nat) (h : T.length <= 60) : pf K bs (k + 1) 19 [tupD T, dn o, dn e] = some (tupD (exch T o e)) := exch_ev (pf K bs k) o e h
include hL
omit hm hi in
theorem byl' (k : Nat) : pf K bs (k + 1) 9 [.tup (ls.map lineD)] = some (natsD (ordL ls)) := byl_ev (pf K bs k) (by omega)
theorem light' (k : Nat) (h1 : (groups m (ends (prs ls) (lightT m ls))).length = 1) : pf K bs (k + 4) 8 [groundD m ls] = some (tupD (lightT m ls)) :=
 light_ev (pf K bs (k + 3)) (iB := 9) (iJ := 1) hi (by omega) (byl' K hL (k + 2)) (fun c hc hl => joined' K hm hi k hc hl) h1
theorem raises (k : Nat) : pf K bs (k + 4) 22 [groundD m ls] = some (.bl (!decide ((groups m (ends (prs ls) (lightT m ls))).length = 1))) := by
 obtain ⟨x2, x3, e⟩ := lgt_loop (pf K bs (k + 3)) (iB := 9) (iJ := 1) hi (by omega) (byl' K hL (k + 2)) (fun c hc hl => joined' K hm hi k hc hl)
 obtain ⟨n1, n2, _⟩ := light_nm (m := m) (ls := ls) (by omega)
 have j := joined' K hm hi k n1 (by omega)
 show left (evSS (pf K bs (k + 3)) (.cons rs1 (.cons rs2 (.cons (.ret rc) .nil))) [some (.val (groundD m ls)), none, none, none, none, none, none, none, none, none]) = _
 have e0 : evS (pf K bs (k + 3)) rs1 [some (.val (groundD m ls)), none, none, none, none, none, none, none, none, none] = some (.nx [some (.val (groundD m ls)), some (.val (tupD [])), none, none, none, none, none, none, none, none]) := by simp [rs1, tupD]
 rw [evSS_nx e0, evSS_nx (s := rs2) e]
 generalize (groups m (ends (prs ls) (lightT m ls))) = G at *
 have ne : cmpD .NotEq (dn G.length) (.int 1) = some (!decide (G.length = 1)) := by
  show some (!((G.length : Int) == 1)) = _
  by_cases q : G.length = 1
  ·simp [q]
  ·have : ¬ (G.length : Int) = 1 := by omega
   simp [q, this]
 have ea : (ev (pf K bs (k + 3)) rc [some (.val (groundD m ls)), some (.val (tupD (lightT m ls))), x2, x3, none, none, none, none, none, none]).1 = some (.fz, .bl (!decide (G.length = 1))) := by
  simp [rc, j, ne]
 rw [evSS_rt (ret_fz ea)]
 rfl
include hm0
theorem ltree (k : Nat) (n : Int) : ∃ c, pf K bs (k + 2) 18 [groundD m ls, .int n] = some (tupD c) /\ c.Pairwise (· < ·) /\ Nm (prs ls) c /\ Ac m (ends (prs ls) c) /\ ∀ t, t < (prs ls).length -> J (ends (prs ls) c) ((prs ls).getD t (0, 0)).1 ((prs ls).getD t (0, 0)).2 :=
 ltree_ev (pf K bs (k + 1)) (iD := 13) (iGr := 16) (by omega) (by omega) hi (drawn' K k) fun q hq => lgroups K k (by omega) q hq
theorem istree (k : Nat) {c : List Nat} (hc : Nm (prs ls) c) (hl : c.length <= 1000) : pf K bs (k + 2) 17 [tupD c, groundD m ls] = some (.bl (decide (c.length + 1 = m) && (rising c && oneG m (prs ls) c))) :=
 istree_ev (pf K bs (k + 1)) (iN := 14) (iGr := 16) hm0 (by omega) (by omega) hi (fun i h => by have := hc i h; simpa [prs] using this) hl (number K k) fun q hq => lgroups K k (by omega) q hq
theorem tr_istree (k : Nat) {c : List Nat} (h : Tr m (prs ls) c) : pf K bs (k + 2) 17 [tupD c, groundD m ls] = some (.bl true) := by
 rw [istree K hm0 hm hL hi k h.nm (by have := h.len; omega), decide_eq_true h.len, (rising_iff c).mpr h.ris, (oneG_iff (prs_in hi) hm0 h.nm).mpr h.sp]
 rfl
end
theorem way' (k : Nat) {m a b : Nat} {ls : List (Nat × Nat × Nat)} {c : List Nat} {L : Nat -> Nat} (h : TL m (ends (prs ls) c) a L) (hb : b < m) (hm : m <= 7) (hc : ∀ n ∈ c, n < ls.length) (hl : c.length + 1 = m) :
  ∃ w : List Nat, pf K bs (k + 2) 5 [groundD m ls, tupD c, dn a, dn b] = some (tupD w) /\ Way (prs ls) c L a b w :=
 wayG_ev (pf K bs (k + 1)) (iW := 6) h hb (by omega) hc hl (pf K bs k) fun args => rfl
theorem longer (k : Nat) {m : Nat} {ls : List (Nat × Nat × Nat)} {T : List Nat} (hm0 : 0 < m) (hm : m <= 7) (hi : ∀ l ∈ ls, lOk m l) (hT : Tr m (prs ls) T) {e : Nat} (he : e < ls.length) (heT : e ∉ T) :
  pf K bs (k + 3) 11 [groundD m ls, tupD T, dn e] = some (.bl (decide (∀ o ∈ T, oneG m (prs ls) (exch T o e) = true -> lenOf ls o < lenOf ls e))) := by
 have hin := prs_in hi
 have hp : (prs ls).length = ls.length := by simp [prs]
 have hnT : ∀ n ∈ T, n < ls.length := fun n hn => by have := hT.nm n hn; simpa [prs] using this
 have hord : ∀ n ∈ T, ((prs ls).getD n (0, 0)).1 < ((prs ls).getD n (0, 0)).2 := fun n hn => by
  rw [prs_getD ls (hnT n hn)]
  exact (hi _ (lmem (hnT n hn))).1
 have g : Gr (List.range m) (ends (prs ls) T) := gr_of (fun e he => by
  obtain ⟨n, hn, rfl⟩ := List.mem_map.mp he
  exact ⟨hord n hn, (line_in hin (hT.nm n hn)).2⟩) (by rw [ends_len]; exact hT.len) hT.sp
 obtain ⟨nm, pp, N⟩ := nam_of g
 obtain ⟨l1, l2⟩ := line_in hin (show e < (prs ls).length by rw [hp]; exact he)
 obtain ⟨w, ew, pw⟩ := way' K k (N.tl l1) l2 hm hnT hT.len
 have hwl : w.length <= 1000 := by have := pw.len (N.tl l1).s0; have := (N.tl l1).le _ l2; omega
 have r := ilg_ev (pf K bs (k + 2)) (iW := 5) (m := m) (T := T) (w := w) he (fun n hn => hnT n (pw.sub n hn)) hwl ew
 have e2 : (w.all fun n => decide (lenOf ls n < lenOf ls e)) = decide (∀ o ∈ T, oneG m (prs ls) (exch T o e) = true -> lenOf ls o < lenOf ls e) := by
  rw [Bool.eq_iff_iff, List.all_eq_true, decide_eq_true_eq]
  have pi := fun {o : Nat} (ho : o ∈ T) => put_iff hin hm0 hT.nm hT.nd hT.len hT.sp (show e < (prs ls).length by rw [hp]; exact he) heT rfl pw ho
  constructor
  ·intro h o ho hg
   exact of_decide_eq_true (h o ((pi ho).mpr hg))
  ·intro h o how
   have ho := pw.sub o how
   exact decide_eq_true (h o ho ((pi ho).mp how))
 rw [<- e2]
 exact r
theorem only' (k : Nat) {m : Nat} {ls : List (Nat × Nat × Nat)} {T : List Nat} (hm0 : 0 < m) (hm : m <= 7) (hL : ls.length <= 21) (hi : ∀ l ∈ ls, lOk m l) (hT : Tr m (prs ls) T) (eL : pf K bs (k + 4) 8 [groundD m ls] = some (tupD T)) :
  ∃ b, pf K bs (k + 5) 10 [groundD m ls] = some (.bl b) /\ (b = true ↔ OnlyT m (prs ls) (lenOf ls) T) := by
 have hp : (prs ls).length = ls.length := by simp [prs]
 have r := only_ev (pf K bs (k + 4)) (iL := 8) (iG := 11) (m := m) (ls := ls) (T := T) (by omega) eL fun e he heT => longer K (k + 1) hm0 hm hi hT he heT
 refine ⟨_, r, ?_⟩
 rw [List.all_eq_true]
 constructor
 ·intro h e he heT
  have := h e (List.mem_filter.mpr ⟨by simpa using (by rw [<- hp]; exact he : e < ls.length), by simpa using heT⟩)
  exact of_decide_eq_true this
 ·intro h e he
  obtain ⟨h1, h2⟩ := List.mem_filter.mp he
  exact decide_eq_true (h e (by rw [hp]; simpa using h1) (by simpa using h2))
theorem told_no (p : Nat -> List D -> Option D) {r q l o : Nat} {g : D} (hr : p r [g] = some (.bl true)) (hq : p q [g] = some (.bl true)) (b : Bool) : runF p 14 (toldB r q l o) [g, .bl b] = some .non := by
 show left (evSS p (.cons (.ifs (.var 1) (.cons (.ifs (.call r (slice [(.var 0)])) (block [.ret (.cst .non)]) (block [])) (.cons (.asg false 2 (.call l (slice [(.var 0)]))) .nil)) (.cons (.ifs (.call q (slice [(.var 0)])) (block [.ret (.cst .non)]) (block [])) (.cons (.asg false 2 (.call o (slice [(.var 0)]))) .nil))) (.cons tolR .nil)) [some (.val g), some (.val (.bl b)), none, none, none, none, none, none, none, none, none, none, none, none]) = _
 cases b <;> simp [hr, hq]
theorem told_T (p : Nat -> List D -> Option D) {r q l o : Nat} {g : D} {T : List Nat} (hr : p r [g] = some (.bl false)) (hl : p l [g] = some (tupD T)) : runF p 14 (toldB r q l o) [g, .bl true] = some (tupD T) := by
 show left (evSS p (.cons (.ifs (.var 1) (.cons (.ifs (.call r (slice [(.var 0)])) (block [.ret (.cst .non)]) (block [])) (.cons (.asg false 2 (.call l (slice [(.var 0)]))) .nil)) (.cons (.ifs (.call q (slice [(.var 0)])) (block [.ret (.cst .non)]) (block [])) (.cons (.asg false 2 (.call o (slice [(.var 0)]))) .nil))) (.cons tolR .nil)) [some (.val g), some (.val (.bl true)), none, none, none, none, none, none, none, none, none, none, none, none]) = _
 have c : cmpD .Is (tupD T) .non = some false := rfl
 simp [hr, hl, tolR, c]
theorem told_F (p : Nat -> List D -> Option D) {r q l o : Nat} {g : D} {b : Bool} (hq : p q [g] = some (.bl false)) (ho : p o [g] = some (.bl b)) : runF p 14 (toldB r q l o) [g, .bl false] = some (.bl b) := by
 show left (evSS p (.cons (.ifs (.var 1) (.cons (.ifs (.call r (slice [(.var 0)])) (block [.ret (.cst .non)]) (block [])) (.cons (.asg false 2 (.call l (slice [(.var 0)]))) .nil)) (.cons (.ifs (.call q (slice [(.var 0)])) (block [.ret (.cst .non)]) (block [])) (.cons (.asg false 2 (.call o (slice [(.var 0)]))) .nil))) (.cons tolR .nil)) [some (.val g), some (.val (.bl false)), none, none, none, none, none, none, none, none, none, none, none, none]) = _
 have c : cmpD .Is (.bl b) .non = some false := by cases b <;> rfl
 simp [hq, ho, tolR, c]
theorem through (k : Nat) {g : D} : pf K bs (k + 1) 23 [g] = pf K bs k 22 [g] := by
 show left (evSS (pf K bs k) (.cons (.ret (.call 22 (slice [(.var 0)]))) .nil) [some (.val g), none, none, none, none, none, none]) = _
 cases e : pf K bs k 22 [g] with
 | none => simp [e]; rfl
 | some r => simp [e]
noncomputable def LE (s : D) (m : Nat) (ls : List (Nat × Nat × Nat)) (O : List Nat) (l g f o a w : Option Sl) : En := [some (.val s), some (.val (groundD m ls)), some (.val (tupD O)), l, g, f, o, a, w, none, none, none, none, none, none, none, none, none, none, none, none]
noncomputable def lensD (ls : List (Nat × Nat × Nat)) : D := natsD (ls.map fun l => l.2.2)
theorem lens_get {ls : List (Nat × Nat × Nat)} {i : Nat} (h : i < ls.length) : ((ls.map fun l => l.2.2).map dn)[i]? = some (dn (lenOf ls i)) := by
 rw [List.getElem?_map, List.getElem?_map, List.getElem?_eq_getElem h]
 simp [lenOf, h]
theorem sum_lens (p : Nat -> List D -> Option D) {r : En} {j : Nat} {ls : List (Nat × Nat × Nat)} {c : List Nat} (hr : r[4]? = some (some (.val (lensD ls)))) (hj : r[j]? = some (some (.val (tupD c)))) (hc : ∀ i ∈ c, i < ls.length) (hl : c.length <= 1000) :
  (ev p (.b1 .sum (.comp [none, none, some 4] (.one 1) (.sq (.var j)) .no (.ix (.var 2) (.var 1)))) r).1 = some (.fz, dn (wt (lenOf ls) c)) := by
 have e : (ev p (.comp [none, none, some 4] (.one 1) (.sq (.var j)) .no (.ix (.var 2) (.var 1))) r).1 = some (.fr, .lst ((c.map (lenOf ls)).map dn)) := by
  refine comp_map (em := dn) (en := dn) (g := lenOf ls) (xs := c) (k := .fz) (by simp [hj, tupD]) (by omega) rfl ?_
  intro i hi'
  have gi := lens_get (hc i hi')
  have cp : capt r [none, none, some 4] = [none, none, some (.val (lensD ls))] := by simp [capt, hr]
  rw [cp]
  simp only [List.map_map] at gi
  simp [lensD, natsD, atI_nat, gi]
 rw [ev_b1, e]
 exact sum_dn (c.map (lenOf ls))
theorem ne_nil_dn (l : List Nat) : cmpD .NotEq (.lst (l.map dn)) (.lst []) = some (!l.isEmpty) := ne_nil_D l
noncomputable def LT (s : D) (m : Nat) (ls : List (Nat × Nat × Nat)) (O T : List Nat) (b : Bool) (x y z : Option Sl) : En := LE s m ls O x (some (.val (lensD ls))) (some (.val (tupD T))) (some (.val (.bl b))) y z
theorem law {a : Addr} {ns : List Int} (h : ns.length <= 63) : pf K bs 40 21 [.scr K a ns] = some (.bl true) := by
 obtain ⟨n0, _⟩ := mixV_nonneg (ns.getD 0 0) 0
 have mx0 : pf K bs 39 12 [.scr K a ns, .int 0] = some (.int (mixV (ns.getD 0 0) 0)) := mixed K 37 h (by omega)
 have mx1 : pf K bs 39 12 [.scr K a ns, .int 1] = some (.int (mixV (ns.getD 1 0) 1)) := mixed K 37 h (by omega)
 generalize mixV (ns.getD 0 0) 0 = v0 at *
 generalize mixV (ns.getD 1 0) 1 = v1 at *
 generalize D.scr K a ns = s at *
 show left (evSS (pf K bs 39) (.cons _ (.cons _ (.cons _ (.cons _ (.cons _ (.cons _ (.cons _ (.cons _ (.cons _ (.cons _ (.cons _ (.cons _ .nil)))))))))))) [some (.val s), none, none, none, none, none, none, none, none, none, none, none, none, none, none, none, none, none, none, none, none]) = _
 have g1 : ∃ m ls, (ev (pf K bs 39) (.call 15 (slice [(.call 12 (slice [(.var 0), (.cst (.int 0))])), (.cst (.int 7)), (.bin .Add (.cst (.int 12)) (.bin .Mult (.cst (.int 9)) (.b1 .int (.cmp .Eq (.bin .Mod (.bin .FloorDiv (.call 12 (slice [(.var 0), (.cst (.int 0))])) (.cst (.int 7))) (.cst (.int 6))) (.cst (.int 1))))))])) [some (.val s), none, none, none, none, none, none, none, none, none, none, none, none, none, none, none, none, none, none, none, none]).1 = some (.fz, groundD m ls) /\ 0 < m /\ m <= 7 /\ ls.length <= 21 /\ ∀ l ∈ ls, lOk m l := by
  have d1 : opD .FloorDiv (.int v0) (.int 7) = some (.fz, .int (v0 / 7)) := opD_div (by omega) (by omega)
  have d2 : opD .Mod (.int (v0 / 7)) (.int 6) = some (.fz, .int (v0 / 7 % 6)) := opD_mod (by omega)
  have d3 : opD .Mult (.int 9) (.int 1) = some (.fz, .int 9) := rfl
  have d4 : opD .Mult (.int 9) (.int 0) = some (.fz, .int 0) := rfl
  by_cases z : v0 / 7 % 6 = 1
  ·obtain ⟨m, ls, eg, r⟩ := ground K 37 (L := 21) (by omega) (by omega) n0
   refine ⟨m, ls, ?_, r⟩
   have eg' : pf K bs 39 15 [.int v0, .int 7, .int 21] = some (groundD m ls) := eg
   simp [mx0, d1, d2, d3, d4, z, eg']
  ·obtain ⟨m, ls, eg, r⟩ := ground K 37 (L := 12) (by omega) (by omega) n0
   refine ⟨m, ls, ?_, r⟩
   have eg' : pf K bs 39 15 [.int v0, .int 7, .int 12] = some (groundD m ls) := eg
   simp [mx0, d1, d2, d3, d4, z, eg']
 obtain ⟨m, ls, eg, hm0, hm, hL, hi⟩ := g1
 have hin := prs_in hi
 have hp : (prs ls).length = ls.length := by simp [prs]
 obtain ⟨O, eO, rO, nO, aO, jO⟩ := ltree K hm0 hm hL hi 37 v1
 have hOl : ∀ i ∈ O, i < ls.length := fun i hx => by have := nO i hx; simpa [prs] using this
 have ol : O.length <= 1000 := by
  have := nodup_len (l := O) (r := List.range ls.length) (rO.imp fun h => Nat.ne_of_lt h) fun x hx => by simpa using hOl x hx
  simp at this
  omega
 have iO := istree K hm0 hm hL hi 37 nO ol
 have lO : pf K bs 39 7 [groundD m ls, tupD O] = some (dn (wt (lenOf ls) O)) := len_ev (pf K bs 38) hOl ol
 rw [evSS_nx (asg_fz eg)]
 show left (evSS (pf K bs 39) _ [some (.val s), some (.val (groundD m ls)), none, none, none, none, none, none, none, none, none, none, none, none, none, none, none, none, none, none, none]) = _
 rw [evSS_nx (asg_fz (d := tupD O) (by simp [mx1, eO]))]
 show left (evSS (pf K bs 39) _ (LE s m ls O none none none none none none)) = _
 have e3 : (ev (pf K bs 39) (.comp [none, none] (.one 1) (.sq (.ix (.var 1) (.cst (.int 1)))) .no (.ix (.var 1) (.cst (.int 2)))) (LE s m ls O none none none none none none)).1 = some (.fr, lensD ls) := by
  refine comp_map (em := lineD) (en := dn) (g := fun l => l.2.2) (xs := ls) (k := .fz) (by simp [LT, LE, groundD]) (by omega) rfl ?_
  intro l _
  simp [lineD]
 rw [evSS_nx (asg_fr e3)]
 show left (evSS (pf K bs 39) _ (LE s m ls O none (some (.val (lensD ls))) none none none none)) = _
 have sO := sum_lens (pf K bs 39) (r := LE s m ls O none (some (.val (lensD ls))) none none none none) (j := 2) rfl rfl hOl ol
 have e4 : evS (pf K bs 39) (.ifs (.cmp .NotEq (.call 7 (slice [(.var 1), (.var 2)])) (.b1 .sum (.comp [none, none, some 4] (.one 1) (.sq (.var 2)) .no (.ix (.var 2) (.var 1))))) (block [.ret (.cst (.bl false))]) (block [])) (LE s m ls O none (some (.val (lensD ls))) none none none none) = some (.nx (LE s m ls O none (some (.val (lensD ls))) none none none none)) := by
  rw [evS_ifs, ev_cmp, sO]
  have n1 := cmpne_refl (d := dn (wt (lenOf ls) O)) rfl
  simp [LT, LE, lO, n1]
 rw [evSS_nx e4]
 obtain ⟨n1, n2, n3, n4⟩ := light_nm (m := m) (ls := ls) (by omega)
 have r38 := raises K hm hL hi 34
 have r37 : pf K bs 38 23 [groundD m ls] = some (.bl (!decide ((groups m (ends (prs ls) (lightT m ls))).length = 1))) := (through K 37).trans (raises K hm hL hi 33)
 by_cases q : (decide (O.length + 1 = m) && (rising O && oneG m (prs ls) O)) = true
 case neg =>
  have q' : (decide (O.length + 1 = m) && (rising O && oneG m (prs ls) O)) = false := by simpa using q
  rw [q'] at iO
  have nsp : (groups m (ends (prs ls) (lightT m ls))).length ≠ 1 := fun one => by
   have spT : Sp m (ends (prs ls) (lightT m ls)) := (one_iff (ends_in hin n1) hm0).mp one
   have spO : Sp m (ends (prs ls) O) := fun u hu => (spT u hu).le fun x y hxy => by
    obtain ⟨i, hiT, e⟩ := List.mem_map.mp hxy
    have := jO i (n1 i hiT)
    rw [e] at this
    exact this
   have := sp_len hin hm0 nO aO spO
   rw [decide_eq_true this, (rising_iff O).mpr rO, (oneG_iff hin hm0 nO).mpr spO] at q'
   cases q'
  rw [decide_eq_false nsp] at r38 r37
  have t1 : pf K bs 39 20 [groundD m ls, .bl true] = some .non := told_no (pf K bs 38) r38 r37 true
  have t2 : pf K bs 39 20 [groundD m ls, .bl false] = some .non := told_no (pf K bs 38) r38 r37 false
  rw [evSS_nx (asg_fz (d := .non) (by simp [LT, LE, t1]))]
  show left (evSS (pf K bs 39) _ (LE s m ls O none (some (.val (lensD ls))) (some (.val .non)) none none none)) = _
  rw [evSS_nx (asg_fz (d := .non) (by simp [LT, LE, t2]))]
  show left (evSS (pf K bs 39) _ (LE s m ls O none (some (.val (lensD ls))) (some (.val .non)) (some (.val .non)) none none)) = _
  have c : cmpD .Is .non .non = some true := rfl
  rw [evSS_rt (d := .bl true) (by simp [LT, LE, iO, c])]
  rfl
 rw [q] at iO
 simp only [Bool.and_eq_true, decide_eq_true_eq] at q
 obtain ⟨q1, q2, q3⟩ := q
 have hO : Tr m (prs ls) O := ⟨rO, nO, q1, (oneG_iff hin hm0 nO).mp q3⟩
 obtain ⟨tr, mn⟩ := light_tr hi hm0 (by omega) hO.nm hO.sp
 have one : (groups m (ends (prs ls) (lightT m ls))).length = 1 := (one_iff (ends_in hin tr.nm) hm0).mpr tr.sp
 rw [decide_eq_true one] at r38 r37
 have el := light' K hm hL hi 34 one
 have elo := light' K hm hL hi 33 one
 obtain ⟨b, eo, ob⟩ := only' K 33 hm0 hm hL hi tr elo
 have t1 : pf K bs 39 20 [groundD m ls, .bl true] = some (tupD (lightT m ls)) := told_T (pf K bs 38) r38 el
 have t2 : pf K bs 39 20 [groundD m ls, .bl false] = some (.bl b) := told_F (pf K bs 38) r37 eo
 have iT := tr_istree K hm0 hm hL hi 37 tr
 have lo := fun {e o : Nat} (he : e < ls.length) (heT : e ∉ lightT m ls) (ho : o ∈ lightT m ls) (g : oneG m (prs ls) (exch (lightT m ls) o e) = true) => light_lo hin hm0 tr (fun Z hZ => (mn Z hZ).1) (show e < (prs ls).length by rw [hp]; exact he) heT ho g
 have wle := (mn O hO).1
 generalize lightT m ls = T at *
 have hTl : ∀ i ∈ T, i < ls.length := fun i hx => by have := tr.nm i hx; simpa [prs] using this
 have tl : T.length <= 60 := by have := tr.len; omega
 rw [evSS_nx (asg_fz (d := tupD T) (by simp [LT, LE, t1]))]
 show left (evSS (pf K bs 39) _ (LE s m ls O none (some (.val (lensD ls))) (some (.val (tupD T))) none none none)) = _
 rw [evSS_nx (asg_fz (d := .bl b) (by simp [LT, LE, t2]))]
 show left (evSS (pf K bs 39) _ (LT s m ls O T b none none none)) = _
 have e7 : evS (pf K bs 39) (.ifs (.nt (.call 17 (slice [(.var 2), (.var 1)]))) (block [.ret (.an (.cmp .Is (.var 5) (.cst .non)) (.cmp .Is (.var 6) (.cst .non)))]) (block [])) (LT s m ls O T b none none none) = some (.nx (LT s m ls O T b none none none)) := by
  simp [LT, LE, iO]
 have e8 : evS (pf K bs 39) (.ifs (.orr (.nt (.call 17 (slice [(.var 5), (.var 1)]))) (.nt (.isi (.var 6) .bool))) (block [.ret (.cst (.bl false))]) (block [])) (LT s m ls O T b none none none) = some (.nx (LT s m ls O T b none none none)) := by
  have ib : isiD .bool (.bl b) = some (.fz, .bl true) := rfl
  simp [LT, LE, iT, ib]
 rw [evSS_nx e7, evSS_nx e8]
 have sT := sum_lens (pf K bs 39) (r := LT s m ls O T b none none none) (j := 5) rfl rfl hTl (by omega)
 have sO' := sum_lens (pf K bs 39) (r := LT s m ls O T b none none none) (j := 2) rfl rfl hOl ol
 have e9 : evS (pf K bs 39) (.ifs (.cmp .Gt (.b1 .sum (.comp [none, none, some 4] (.one 1) (.sq (.var 5)) .no (.ix (.var 2) (.var 1)))) (.b1 .sum (.comp [none, none, some 4] (.one 1) (.sq (.var 2)) .no (.ix (.var 2) (.var 1))))) (block [.ret (.cst (.bl false))]) (block [])) (LT s m ls O T b none none none) = some (.nx (LT s m ls O T b none none none)) := by
  rw [evS_ifs, ev_cmp, sT, sO']
  have n9 : cmpD .Gt (dn (wt (lenOf ls) T)) (dn (wt (lenOf ls) O)) = some false := by
   show some (decide ((wt (lenOf ls) O : Int) < (wt (lenOf ls) T : Int))) = _
   congr 1
   exact decide_eq_false (by omega)
  simp [n9]
 rw [evSS_nx e9, evSS_nx (asg_fz (d := .bl false) (by simp [LT, LE]))]
 show left (evSS (pf K bs 39) _ (LT s m ls O T b none (some (.val (.bl false))) none)) = _
 obtain ⟨rr, e11, y3, y8, rfl⟩ := for_fold (p := pf K bs 39) (tg := .one 3) (it := .sq (.comp [none, none, some 5] (.one 1) (.r1 (.b1 .len (.var 4))) (.so (.cmp .NotIn (.var 1) (.var 2))) (.var 1)))
  (b := (block [.asg false 8 (.comp [none, none, none, none, some 5, some 1, some 3] (.one 1) (.sq (.var 5)) (.so (.call 17 (slice [(.call 19 (slice [(.var 4), (.var 1), (.var 6)])), (.var 5)]))) (.var 1)), .ifs (.cmp .NotEq (.comp [none, none, some 4, some 3] (.one 1) (.sq (.var 8)) (.so (.cmp .Gt (.ix (.var 2) (.var 1)) (.ix (.var 2) (.var 3)))) (.var 1)) (.ls (slice []))) (block [.ret (.cst (.bl false))]) (block []), .asg false 7 (.orr (.var 7) (.cmp .NotEq (.comp [none, none, some 4, some 3] (.one 1) (.sq (.var 8)) (.so (.cmp .Eq (.ix (.var 2) (.var 1)) (.ix (.var 2) (.var 3)))) (.var 1)) (.ls (slice []))))]))
  (em := dn) (k := .fz) (xs := (List.range ls.length).filter fun e => !decide (e ∈ T)) (s := false) (r := LT s m ls O T b none (some (.val (.bl false))) none)
  (fun al r => ∃ y3 y8, r = LT s m ls O T b y3 (some (.val (.bl al))) y8) (fun al e => al || !((T.filter fun o => oneG m (prs ls) (exch T o e)).filter fun o => decide (lenOf ls o = lenOf ls e)).isEmpty)
  (by
   have c : (ev (pf K bs 39) (.comp [none, none, some 5] (.one 1) (.r1 (.b1 .len (.var 4))) (.so (.cmp .NotIn (.var 1) (.var 2))) (.var 1)) (LT s m ls O T b none (some (.val (.bl false))) none)).1 = some (.fr, .lst (((List.range ls.length).filter fun e => !decide (e ∈ T)).map dn)) := by
    refine comp_filter (em := dn) (c := fun e => !decide (e ∈ T)) (xs := List.range ls.length) (k := .fz) (by simp [LT, LE, lensD, natsD, rngOk_nat (show ls.length <= 100000 by omega), rngD_0]) (by simp; omega) rfl ?_
    intro e _
    have := notin_tup e T
    by_cases z : e ∈ T <;> simp [LT, LE, this, z]
   rw [evI_sq, c]
   rfl) (by decide) ⟨none, none, rfl⟩ (by
   rintro al e r hx ⟨y3, y8, rfl⟩
   obtain ⟨h1, h2⟩ := List.mem_filter.mp hx
   have he : e < ls.length := by simpa using h1
   have heT : e ∉ T := by simpa using h2
   have hW : ∀ o ∈ T.filter fun o => oneG m (prs ls) (exch T o e), o < ls.length := fun o ho => hTl o (List.mem_filter.mp ho).1
   have wl : (T.filter fun o => oneG m (prs ls) (exch T o e)).length <= 60 := Nat.le_trans (List.length_filter_le _ _) tl
   have s1 : (ev (pf K bs 39) (.comp [none, none, none, none, some 5, some 1, some 3] (.one 1) (.sq (.var 5)) (.so (.call 17 (slice [(.call 19 (slice [(.var 4), (.var 1), (.var 6)])), (.var 5)]))) (.var 1)) (LT s m ls O T b (some (.val (dn e))) (some (.val (.bl al))) y8)).1 = some (.fr, .lst ((T.filter fun o => oneG m (prs ls) (exch T o e)).map dn)) := by
    refine comp_filter (em := dn) (c := fun o => oneG m (prs ls) (exch T o e)) (xs := T) (k := .fz) (by simp [LT, LE, tupD]) (by omega) rfl ?_
    intro o ho
    have ex := lexch K 38 (T := T) o e tl
    have nm : Nm (prs ls) (exch T o e) := fun i hx => by
     rcases exch_mem.mp hx with ⟨z, _⟩ | z
     ·exact tr.nm i z
     ·subst z; rw [hp]; exact he
    have ndx : (T.filter (fun i => decide (i ≠ o)) ++ [e]).Nodup := List.nodup_append.mpr ⟨tr.nd.sublist List.filter_sublist, by simp, fun x hx1 y hy z => by
     have ye : y = e := by simpa using hy
     exact heT (by rw [<- ye, <- z]; exact (List.mem_filter.mp hx1).1)⟩
    have ris : (exch T o e).Pairwise (· < ·) := srtN_lt ndx
    have xl : (exch T o e).length + 1 = m := by
     unfold exch
     rw [srtN_len, List.length_append]
     have := filter_ne_len tr.nd ho
     have := tr.len
     simp only [List.length_cons, List.length_nil]
     omega
    have ix := istree K hm0 hm hL hi 37 nm (by omega)
    rw [decide_eq_true xl, (rising_iff _).mpr ris, Bool.true_and, Bool.true_and] at ix
    cases z : oneG m (prs ls) (exch T o e) with
    | true => rw [z] at ix; simp [LT, LE, ex, ix]
    | false => rw [z] at ix; simp [LT, LE, ex, ix]
   generalize hWe : (T.filter fun o => oneG m (prs ls) (exch T o e)) = W at *
   have ge := lens_get he
   have lW : ∀ o ∈ W, lenOf ls o <= lenOf ls e := fun o ho => by
    rw [<- hWe] at ho
    obtain ⟨z1, z2⟩ := List.mem_filter.mp ho
    exact lo he heT z1 z2
   have cmpc : ∀ (op : CmpOp) (f : Nat -> Bool), (∀ o ∈ W, cmpD op (dn (lenOf ls o)) (dn (lenOf ls e)) = some (f o)) -> (ev (pf K bs 39) (.comp [none, none, some 4, some 3] (.one 1) (.sq (.var 8)) (.so (.cmp op (.ix (.var 2) (.var 1)) (.ix (.var 2) (.var 3)))) (.var 1)) (LT s m ls O T b (some (.val (dn e))) (some (.val (.bl al))) (some (.val (natsD W))))).1 = some (.fr, .lst ((W.filter f).map dn)) := by
    intro op f hf
    refine comp_filter (em := dn) (c := f) (xs := W) (k := .fz) (by simp [LT, LE, natsD]) (by omega) rfl ?_
    intro o ho
    have go := lens_get (hW o ho)
    have hfo := hf o ho
    have cp : capt (LT s m ls O T b (some (.val (dn e))) (some (.val (.bl al))) (some (.val (natsD W)))) [none, none, some 4, some 3] = [none, none, some (.val (lensD ls)), some (.val (dn e))] := rfl
    rw [cp]
    simp only [List.map_map] at go ge
    cases z : f o <;> rw [z] at hfo <;> simp [lensD, natsD, atI_nat, go, ge, hfo]
   have c1 := cmpc .Gt (fun o => false) fun o ho => by
    show some (decide ((lenOf ls e : Int) < (lenOf ls o : Int))) = _
    congr 1
    have := lW o ho
    exact decide_eq_false (by omega)
   have c2 := cmpc .Eq (fun o => decide (lenOf ls o = lenOf ls e)) fun o ho => by
    show some ((lenOf ls o : Int) == (lenOf ls e : Int)) = _
    by_cases z : lenOf ls o = lenOf ls e
    ·simp [z]
    ·have : ¬ (lenOf ls o : Int) = (lenOf ls e : Int) := by omega
     simp [z, this]
   have f0 : (W.filter fun _ => false) = [] := by simp
   rw [f0] at c1
   have nn1 := ne_nil_dn []
   have nn2 := ne_nil_dn (W.filter fun o => decide (lenOf ls o = lenOf ls e))
   refine ⟨_, _, rfl, ?_, some (.val (dn e)), some (.val (natsD W)), rfl⟩
   show evSS (pf K bs 39) (.cons _ (.cons _ (.cons _ .nil))) (LT s m ls O T b (some (.val (dn e))) (some (.val (.bl al))) y8) = _
   rw [evSS_nx (asg_fr s1)]
   show evSS (pf K bs 39) _ (LT s m ls O T b (some (.val (dn e))) (some (.val (.bl al))) (some (.val (natsD W)))) = _
   have i2 : evS (pf K bs 39) (.ifs (.cmp .NotEq (.comp [none, none, some 4, some 3] (.one 1) (.sq (.var 8)) (.so (.cmp .Gt (.ix (.var 2) (.var 1)) (.ix (.var 2) (.var 3)))) (.var 1)) (.ls (slice []))) (block [.ret (.cst (.bl false))]) (block [])) (LT s m ls O T b (some (.val (dn e))) (some (.val (.bl al))) (some (.val (natsD W)))) = some (.nx (LT s m ls O T b (some (.val (dn e))) (some (.val (.bl al))) (some (.val (natsD W))))) := by
    rw [evS_ifs, ev_cmp, c1]
    simp only [List.map_nil] at nn1
    simp [nn1]
   rw [evSS_nx i2]
   have i3 : (ev (pf K bs 39) (.orr (.var 7) (.cmp .NotEq (.comp [none, none, some 4, some 3] (.one 1) (.sq (.var 8)) (.so (.cmp .Eq (.ix (.var 2) (.var 1)) (.ix (.var 2) (.var 3)))) (.var 1)) (.ls (slice [])))) (LT s m ls O T b (some (.val (dn e))) (some (.val (.bl al))) (some (.val (natsD W))))).1 = some (.fz, .bl (al || !(W.filter fun o => decide (lenOf ls o = lenOf ls e)).isEmpty)) := by
    rw [ev_orr, ev_cmp, c2]
    cases al with
    | true => simp [LT, LE]
    | false => simp [LT, LE, nn2]
   rw [evSS_nx (asg_fz i3)]
   rfl)
 rw [evSS_nx e11]
 generalize hal : (((List.range ls.length).filter fun e => !decide (e ∈ T)).foldl (fun al e => al || !((T.filter fun o => oneG m (prs ls) (exch T o e)).filter fun o => decide (lenOf ls o = lenOf ls e)).isEmpty) false) = al
 have alI : al = true ↔ ∃ e, e < ls.length /\ e ∉ T /\ ∃ o ∈ T, oneG m (prs ls) (exch T o e) = true /\ lenOf ls o = lenOf ls e := by
  have gen : ∀ (l : List Nat) (a0 : Bool), (l.foldl (fun al e => al || !((T.filter fun o => oneG m (prs ls) (exch T o e)).filter fun o => decide (lenOf ls o = lenOf ls e)).isEmpty) a0 = true) ↔ (a0 = true \/ ∃ e ∈ l, ∃ o ∈ T, oneG m (prs ls) (exch T o e) = true /\ lenOf ls o = lenOf ls e) := by
   intro l
   induction l with
   | nil => intro a0; simp
   | cons e l ih =>
    intro a0
    rw [List.foldl_cons, ih]
    have one : (!((T.filter fun o => oneG m (prs ls) (exch T o e)).filter fun o => decide (lenOf ls o = lenOf ls e)).isEmpty) = true ↔ ∃ o ∈ T, oneG m (prs ls) (exch T o e) = true /\ lenOf ls o = lenOf ls e := by
     rw [Bool.not_eq_true', List.isEmpty_eq_false_iff_exists_mem]
     constructor
     ·rintro ⟨o, ho⟩
      obtain ⟨z1, z2⟩ := List.mem_filter.mp ho
      obtain ⟨z1, z3⟩ := List.mem_filter.mp z1
      exact ⟨o, z1, z3, by simpa using z2⟩
     ·rintro ⟨o, z1, z2, z3⟩
      exact ⟨o, List.mem_filter.mpr ⟨List.mem_filter.mpr ⟨z1, z2⟩, by simpa using z3⟩⟩
    rw [Bool.or_eq_true, one]
    constructor
    ·rintro ((z | z) | ⟨e', z1, z2⟩)
     ·exact .inl z
     ·exact .inr ⟨e, List.mem_cons_self, z⟩
     ·exact .inr ⟨e', List.mem_cons_of_mem _ z1, z2⟩
    ·rintro (z | ⟨e', z1, z2⟩)
     ·exact .inl (.inl z)
     ·rcases List.mem_cons.mp z1 with z | z
      ·subst z; exact .inl (.inr z2)
      ·exact .inr ⟨e', z, z2⟩
  rw [<- hal, gen]
  constructor
  ·rintro (z | ⟨e, z1, z2⟩)
   ·cases z
   ·obtain ⟨z3, z4⟩ := List.mem_filter.mp z1
    exact ⟨e, by simpa using z3, by simpa using z4, z2⟩
  ·rintro ⟨e, z1, z2, z3⟩
   exact .inr ⟨e, List.mem_filter.mpr ⟨by simpa using z1, by simpa using z2⟩, z3⟩
 have bal : b = !al := by
  rw [Bool.eq_iff_iff, ob, Bool.not_eq_true']
  constructor
  ·intro on
   cases z : al with
   | false => rfl
   | true =>
    obtain ⟨e, z1, z2, o, z3, z4, z5⟩ := alI.mp z
    have := on e (by rw [hp]; exact z1) z2 o z3 z4
    omega
  ·intro z e he heT o ho g
   have l1 := lo (by rw [<- hp]; exact he) heT ho g
   apply Decidable.byContradiction
   intro hn
   have : al = true := alI.mpr ⟨e, by rw [<- hp]; exact he, heT, o, ho, g, by omega⟩
   rw [z] at this; cases this
 have fin : (ev (pf K bs 39) (.cmp .NotEq (.var 6) (.var 7)) (LT s m ls O T b y3 (some (.val (.bl al))) y8)).1 = some (.fz, .bl true) := by
  subst bal
  cases al <;> rfl
 rw [evSS_rt (ret_fz fin)]
 rfl
end K40
end
namespace K40
open PySem PySem.Spec PyProof.Rows L2 TW
noncomputable def top (i : Nat) : Stmt := PySem.Challenge.pw_twighall_k40_whole_lightest.main.body.getD i (.Pass ⟨0, 0, 0, 0⟩)
noncomputable def d0 : DefT := ⟨"_law_cell_at", top 20, b0⟩
noncomputable def d1 : DefT := ⟨"joined", top 6, b1⟩
noncomputable def d2 : DefT := ⟨"groups", top 7, b2⟩
noncomputable def d3 : DefT := ⟨"drawn_together", top 8, b3⟩
noncomputable def d4 : DefT := ⟨"group_of", top 9, b4⟩
noncomputable def d5 : DefT := ⟨"way", top 11, b5⟩
noncomputable def d6 : DefT := ⟨"ways_from", top 12, b6⟩
noncomputable def d7 : DefT := ⟨"length_of", top 14, b7⟩
noncomputable def d8 : DefT := ⟨"lightest", top 15, b8⟩
noncomputable def d9 : DefT := ⟨"by_length", top 16, b9⟩
noncomputable def d10 : DefT := ⟨"is_only", top 17, b10⟩
noncomputable def d11 : DefT := ⟨"is_longer", top 18, b11⟩
noncomputable def d12 : DefT := ⟨"_law_mixed", top 21, b12⟩
noncomputable def d13 : DefT := ⟨"_law_drawn", top 22, b13⟩
noncomputable def d14 : DefT := ⟨"_law_number", top 23, b14⟩
noncomputable def d15 : DefT := ⟨"_law_ground", top 24, b15⟩
noncomputable def d16 : DefT := ⟨"_law_groups", top 25, b16⟩
noncomputable def d17 : DefT := ⟨"_law_is_tree", top 26, b17⟩
noncomputable def d18 : DefT := ⟨"_law_tree", top 27, b18⟩
noncomputable def d19 : DefT := ⟨"_law_exchanged", top 28, b19⟩
noncomputable def d20 : DefT := ⟨"_law_told", top 29, b20⟩
noncomputable def d21 : DefT := ⟨"law", top 30, b21⟩
noncomputable def ds : List DefT := [d0, d1, d2, d3, d4, d5, d6, d7, d8, d9, d10, d11, d12, d13, d14, d15, d16, d17, d18, d19, d20, d21]
noncomputable def T : Tab := ⟨[("_law_cell_at", 2), ("joined", 2), ("groups", 2), ("drawn_together", 3), ("group_of", 2), ("way", 4), ("ways_from", 3), ("length_of", 2), ("lightest", 1), ("by_length", 1), ("is_only", 1), ("is_longer", 3), ("_law_mixed", 2), ("_law_drawn", 2), ("_law_number", 3), ("_law_ground", 3), ("_law_groups", 2), ("_law_is_tree", 2), ("_law_tree", 2), ("_law_exchanged", 3), ("_law_told", 2), ("law", 1)], []⟩
theorem hT : T.fns = ds.map fun d => (d.name, d.ps.length) := by decide +kernel
noncomputable def ex : List (Nat × SS) := [(10, b22), (7, b23)]
noncomputable def sp (i : Nat) : Bool := i == 9 || i == 20
theorem hbs : ds.map DefT.sb ++ ex = bs := rfl
theorem ok1 : d1.ok T = true := by decide +kernel
theorem ok2 : d2.ok T = true := by decide +kernel
theorem ok3 : d3.ok T = true := by decide +kernel
theorem ok4 : d4.ok T = true := by decide +kernel
theorem ok5 : d5.ok T = true := by decide +kernel
theorem ok6 : d6.ok T = true := by decide +kernel
theorem ok7 : d7.ok T = true := by decide +kernel
theorem ok8 : d8.ok T = true := by decide +kernel
theorem ok10 : d10.ok T = true := by decide +kernel
theorem ok11 : d11.ok T = true := by decide +kernel
theorem ok12 : d12.ok T = true := by decide +kernel
theorem ok13 : d13.ok T = true := by decide +kernel
theorem ok14 : d14.ok T = true := by decide +kernel
theorem ok15 : d15.ok T = true := by decide +kernel
theorem ok16 : d16.ok T = true := by decide +kernel
theorem ok17 : d17.ok T = true := by decide +kernel
theorem ok18 : d18.ok T = true := by decide +kernel
theorem ok19 : d19.ok T = true := by decide +kernel
theorem ok21 : d21.ok T = true := by decide +kernel
theorem hok : ∀ i d, ds[i]? = some d -> i ≠ 0 -> sp i = false -> d.ok T = true := by
 intro i d h hi hs
 match i, h, hs with
 | 0, h, _ => exact absurd rfl hi
 | 1, h, _ => cases h; exact ok1
 | 2, h, _ => cases h; exact ok2
 | 3, h, _ => cases h; exact ok3
 | 4, h, _ => cases h; exact ok4
 | 5, h, _ => cases h; exact ok5
 | 6, h, _ => cases h; exact ok6
 | 7, h, _ => cases h; exact ok7
 | 8, h, _ => cases h; exact ok8
 | 9, h, hs => cases hs
 | 10, h, _ => cases h; exact ok10
 | 11, h, _ => cases h; exact ok11
 | 12, h, _ => cases h; exact ok12
 | 13, h, _ => cases h; exact ok13
 | 14, h, _ => cases h; exact ok14
 | 15, h, _ => cases h; exact ok15
 | 16, h, _ => cases h; exact ok16
 | 17, h, _ => cases h; exact ok17
 | 18, h, _ => cases h; exact ok18
 | 19, h, _ => cases h; exact ok19
 | 20, h, hs => cases hs
 | 21, h, _ => cases h; exact ok21
 | _ + 22, h, _ => cases h
open PySem.W (codeHdIn codeHd_of_K codeIn excIn exmOne findIn fnOf keepIn kitOne mg_none_of mg_of mroIn nsIn specialIn takesIn)
theorem all_mk {l : PySem.W.OpenLaw} {w : World} {K : PySem.W.Frag} {h : Heap} {mg : Str -> Option Value} {fa : Addr} (X : K.In h) (G : h.Ns mainGlobals mg) (hfa : mg "law" = some (.ref fa))
  {f0 f1 f2 f3 f4 f5 f6 f7 f8 f9 f10 f11 f12 f13 f14 f15 f16 f17 f18 f19 f20 f21 : Addr}
  {od0 an0 od1 an1 od2 an2 od3 an3 od4 an4 od5 an5 od6 an6 od7 an7 od8 an8 od9 an9 od10 an10 od11 an11 od12 an12 od13 an13 od14 an14 od15 an15 od16 an16 od17 an17 od18 an18 od19 an19 od20 an20 od21 an21 : Option Addr}
  {sl0 sl1 sl2 sl3 sl4 sl5 sl6 sl7 sl8 sl9 sl10 sl11 sl12 sl13 sl14 sl15 sl16 sl17 sl18 sl19 sl20 sl21 : Array (Option Value)}
  {oc0 kV0 dc0 pm0 cd0 ct0 oc1 kV1 dc1 pm1 cd1 ct1 oc2 kV2 dc2 pm2 cd2 ct2 oc3 kV3 dc3 pm3 cd3 ct3 oc4 kV4 dc4 pm4 cd4 ct4 oc5 kV5 dc5 pm5 cd5 ct5 oc6 kV6 dc6 pm6 cd6 ct6 oc7 kV7 dc7 pm7 cd7 ct7 oc8 kV8 dc8 pm8 cd8 ct8 oc9 kV9 dc9 pm9 cd9 ct9 oc10 kV10 dc10 pm10 cd10 ct10 oc11 kV11 dc11 pm11 cd11 ct11 oc12 kV12 dc12 pm12 cd12 ct12 oc13 kV13 dc13 pm13 cd13 ct13 oc14 kV14 dc14 pm14 cd14 ct14 oc15 kV15 dc15 pm15 cd15 ct15 oc16 kV16 dc16 pm16 cd16 ct16 oc17 kV17 dc17 pm17 cd17 ct17 oc18 kV18 dc18 pm18 cd18 ct18 oc19 kV19 dc19 pm19 cd19 ct19 oc20 kV20 dc20 pm20 cd20 ct20 oc21 kV21 dc21 pm21 cd21 ct21 : Value}
  {CG CT CX CR : Addr}
  (a0 : nsIn K mainGlobals "_law_cell_at" = some (some (.ref f0))) (l0 : K.lookup f0 = some ⟨oc0, od0, .func (fnOf "_law_cell_at" "_law_cell_at" (defArgs (top 20)) (defBody (top 20)) (defScope (top 20)) .none kV0 dc0 pm0 an0 cd0 ct0), sl0⟩) (c0 : codeIn K cd0 "_law_cell_at" = true) (k0 : keepIn K (.ref f0) = true)
  (a1 : nsIn K mainGlobals "joined" = some (some (.ref f1))) (l1 : K.lookup f1 = some ⟨oc1, od1, .func (fnOf "joined" "joined" (defArgs (top 6)) (defBody (top 6)) (defScope (top 6)) .none kV1 dc1 pm1 an1 cd1 ct1), sl1⟩) (c1 : codeIn K cd1 "joined" = true) (k1 : keepIn K (.ref f1) = true)
  (a2 : nsIn K mainGlobals "groups" = some (some (.ref f2))) (l2 : K.lookup f2 = some ⟨oc2, od2, .func (fnOf "groups" "groups" (defArgs (top 7)) (defBody (top 7)) (defScope (top 7)) .none kV2 dc2 pm2 an2 cd2 ct2), sl2⟩) (c2 : codeIn K cd2 "groups" = true) (k2 : keepIn K (.ref f2) = true)
  (a3 : nsIn K mainGlobals "drawn_together" = some (some (.ref f3))) (l3 : K.lookup f3 = some ⟨oc3, od3, .func (fnOf "drawn_together" "drawn_together" (defArgs (top 8)) (defBody (top 8)) (defScope (top 8)) .none kV3 dc3 pm3 an3 cd3 ct3), sl3⟩) (c3 : codeIn K cd3 "drawn_together" = true) (k3 : keepIn K (.ref f3) = true)
  (a4 : nsIn K mainGlobals "group_of" = some (some (.ref f4))) (l4 : K.lookup f4 = some ⟨oc4, od4, .func (fnOf "group_of" "group_of" (defArgs (top 9)) (defBody (top 9)) (defScope (top 9)) .none kV4 dc4 pm4 an4 cd4 ct4), sl4⟩) (c4 : codeIn K cd4 "group_of" = true) (k4 : keepIn K (.ref f4) = true)
  (a5 : nsIn K mainGlobals "way" = some (some (.ref f5))) (l5 : K.lookup f5 = some ⟨oc5, od5, .func (fnOf "way" "way" (defArgs (top 11)) (defBody (top 11)) (defScope (top 11)) .none kV5 dc5 pm5 an5 cd5 ct5), sl5⟩) (c5 : codeIn K cd5 "way" = true) (k5 : keepIn K (.ref f5) = true)
  (a6 : nsIn K mainGlobals "ways_from" = some (some (.ref f6))) (l6 : K.lookup f6 = some ⟨oc6, od6, .func (fnOf "ways_from" "ways_from" (defArgs (top 12)) (defBody (top 12)) (defScope (top 12)) .none kV6 dc6 pm6 an6 cd6 ct6), sl6⟩) (c6 : codeIn K cd6 "ways_from" = true) (k6 : keepIn K (.ref f6) = true)
  (a7 : nsIn K mainGlobals "length_of" = some (some (.ref f7))) (l7 : K.lookup f7 = some ⟨oc7, od7, .func (fnOf "length_of" "length_of" (defArgs (top 14)) (defBody (top 14)) (defScope (top 14)) .none kV7 dc7 pm7 an7 cd7 ct7), sl7⟩) (c7 : codeIn K cd7 "length_of" = true) (k7 : keepIn K (.ref f7) = true)
  (a8 : nsIn K mainGlobals "lightest" = some (some (.ref f8))) (l8 : K.lookup f8 = some ⟨oc8, od8, .func (fnOf "lightest" "lightest" (defArgs (top 15)) (defBody (top 15)) (defScope (top 15)) .none kV8 dc8 pm8 an8 cd8 ct8), sl8⟩) (c8 : codeIn K cd8 "lightest" = true) (k8 : keepIn K (.ref f8) = true)
  (a9 : nsIn K mainGlobals "by_length" = some (some (.ref f9))) (l9 : K.lookup f9 = some ⟨oc9, od9, .func (fnOf "by_length" "by_length" (defArgs (top 16)) (defBody (top 16)) (defScope (top 16)) .none kV9 dc9 pm9 an9 cd9 ct9), sl9⟩) (c9 : codeIn K cd9 "by_length" = true) (k9 : keepIn K (.ref f9) = true)
  (a10 : nsIn K mainGlobals "is_only" = some (some (.ref f10))) (l10 : K.lookup f10 = some ⟨oc10, od10, .func (fnOf "is_only" "is_only" (defArgs (top 17)) (defBody (top 17)) (defScope (top 17)) .none kV10 dc10 pm10 an10 cd10 ct10), sl10⟩) (c10 : codeIn K cd10 "is_only" = true) (k10 : keepIn K (.ref f10) = true)
  (a11 : nsIn K mainGlobals "is_longer" = some (some (.ref f11))) (l11 : K.lookup f11 = some ⟨oc11, od11, .func (fnOf "is_longer" "is_longer" (defArgs (top 18)) (defBody (top 18)) (defScope (top 18)) .none kV11 dc11 pm11 an11 cd11 ct11), sl11⟩) (c11 : codeIn K cd11 "is_longer" = true) (k11 : keepIn K (.ref f11) = true)
  (a12 : nsIn K mainGlobals "_law_mixed" = some (some (.ref f12))) (l12 : K.lookup f12 = some ⟨oc12, od12, .func (fnOf "_law_mixed" "_law_mixed" (defArgs (top 21)) (defBody (top 21)) (defScope (top 21)) .none kV12 dc12 pm12 an12 cd12 ct12), sl12⟩) (c12 : codeIn K cd12 "_law_mixed" = true) (k12 : keepIn K (.ref f12) = true)
  (a13 : nsIn K mainGlobals "_law_drawn" = some (some (.ref f13))) (l13 : K.lookup f13 = some ⟨oc13, od13, .func (fnOf "_law_drawn" "_law_drawn" (defArgs (top 22)) (defBody (top 22)) (defScope (top 22)) .none kV13 dc13 pm13 an13 cd13 ct13), sl13⟩) (c13 : codeIn K cd13 "_law_drawn" = true) (k13 : keepIn K (.ref f13) = true)
  (a14 : nsIn K mainGlobals "_law_number" = some (some (.ref f14))) (l14 : K.lookup f14 = some ⟨oc14, od14, .func (fnOf "_law_number" "_law_number" (defArgs (top 23)) (defBody (top 23)) (defScope (top 23)) .none kV14 dc14 pm14 an14 cd14 ct14), sl14⟩) (c14 : codeIn K cd14 "_law_number" = true) (k14 : keepIn K (.ref f14) = true)
  (a15 : nsIn K mainGlobals "_law_ground" = some (some (.ref f15))) (l15 : K.lookup f15 = some ⟨oc15, od15, .func (fnOf "_law_ground" "_law_ground" (defArgs (top 24)) (defBody (top 24)) (defScope (top 24)) .none kV15 dc15 pm15 an15 cd15 ct15), sl15⟩) (c15 : codeIn K cd15 "_law_ground" = true) (k15 : keepIn K (.ref f15) = true)
  (a16 : nsIn K mainGlobals "_law_groups" = some (some (.ref f16))) (l16 : K.lookup f16 = some ⟨oc16, od16, .func (fnOf "_law_groups" "_law_groups" (defArgs (top 25)) (defBody (top 25)) (defScope (top 25)) .none kV16 dc16 pm16 an16 cd16 ct16), sl16⟩) (c16 : codeIn K cd16 "_law_groups" = true) (k16 : keepIn K (.ref f16) = true)
  (a17 : nsIn K mainGlobals "_law_is_tree" = some (some (.ref f17))) (l17 : K.lookup f17 = some ⟨oc17, od17, .func (fnOf "_law_is_tree" "_law_is_tree" (defArgs (top 26)) (defBody (top 26)) (defScope (top 26)) .none kV17 dc17 pm17 an17 cd17 ct17), sl17⟩) (c17 : codeIn K cd17 "_law_is_tree" = true) (k17 : keepIn K (.ref f17) = true)
  (a18 : nsIn K mainGlobals "_law_tree" = some (some (.ref f18))) (l18 : K.lookup f18 = some ⟨oc18, od18, .func (fnOf "_law_tree" "_law_tree" (defArgs (top 27)) (defBody (top 27)) (defScope (top 27)) .none kV18 dc18 pm18 an18 cd18 ct18), sl18⟩) (c18 : codeIn K cd18 "_law_tree" = true) (k18 : keepIn K (.ref f18) = true)
  (a19 : nsIn K mainGlobals "_law_exchanged" = some (some (.ref f19))) (l19 : K.lookup f19 = some ⟨oc19, od19, .func (fnOf "_law_exchanged" "_law_exchanged" (defArgs (top 28)) (defBody (top 28)) (defScope (top 28)) .none kV19 dc19 pm19 an19 cd19 ct19), sl19⟩) (c19 : codeIn K cd19 "_law_exchanged" = true) (k19 : keepIn K (.ref f19) = true)
  (a20 : nsIn K mainGlobals "_law_told" = some (some (.ref f20))) (l20 : K.lookup f20 = some ⟨oc20, od20, .func (fnOf "_law_told" "_law_told" (defArgs (top 29)) (defBody (top 29)) (defScope (top 29)) .none kV20 dc20 pm20 an20 cd20 ct20), sl20⟩) (c20 : codeIn K cd20 "_law_told" = true) (k20 : keepIn K (.ref f20) = true)
  (a21 : nsIn K mainGlobals "law" = some (some (.ref f21))) (l21 : K.lookup f21 = some ⟨oc21, od21, .func (fnOf "law" "law" (defArgs (top 30)) (defBody (top 30)) (defScope (top 30)) .none kV21 dc21 pm21 an21 cd21 ct21), sl21⟩) (c21 : codeIn K cd21 "law" = true) (k21 : keepIn K (.ref f21) = true)
  (cc : cd9 = .ref tabCode)
  (ch : codeHdIn K tabCode tabAt = true)
  (z0 : nsIn K mainGlobals "len" = some none)
  (z1 : nsIn K mainGlobals "tuple" = some none)
  (z2 : nsIn K mainGlobals "list" = some none)
  (z3 : nsIn K mainGlobals "sorted" = some none)
  (z4 : nsIn K mainGlobals "str" = some none)
  (z5 : nsIn K mainGlobals "int" = some none)
  (z6 : nsIn K mainGlobals "sum" = some none)
  (z7 : nsIn K mainGlobals "all" = some none)
  (z8 : nsIn K mainGlobals "any" = some none)
  (z9 : nsIn K mainGlobals "min" = some none)
  (z10 : nsIn K mainGlobals "max" = some none)
  (z11 : nsIn K mainGlobals "bool" = some none)
  (z12 : nsIn K mainGlobals "dict" = some none)
  (z13 : nsIn K mainGlobals "isinstance" = some none)
  (z14 : nsIn K mainGlobals "range" = some none)
  (z15 : nsIn K mainGlobals "zip" = some none)
  (z16 : nsIn K mainGlobals "enumerate" = some none)
  (z17 : nsIn K mainGlobals "set" = some none)
  (xnCG : nsIn K mainGlobals "NoGround" = some (some (.ref CG)))
  (xnCT : nsIn K mainGlobals "TwigError" = some (some (.ref CT)))
  (xnCX : nsIn K mainGlobals "NoText" = some (some (.ref CX)))
  (xnCR : nsIn K mainGlobals "NoTree" = some (some (.ref CR)))
  (xv : nsIn K mainGlobals "ValueError" = some none)
  (xgCR : findIn K (.ref CR) "__getattribute__" = some (some (.builtin "BaseException.__getattribute__")))
  (xhCR : findIn K (.ref CR) "__getattr__" = some none)
  (xcCR : findIn K (.ref CR) "__class__" = some (some (.builtin "object.__class__")))
  (xmCR : mroIn K CR (.type "object") = some true)
  (xbCR : mroIn K CR (.type "BaseException") = some true)
  (xsCR : specialIn K (.builtin "object.__class__") "__get__" = some (some (.builtin "getset_descriptor.__get__")))
  (xtCR : takesIn K (.builtin "object.__class__") = some true)
  (xe : excIn K CR bmV "ValueError.__new__" = true)
  (xk1 : exmOne K (.ref CR) (.ref CR) = some true)
  (xk3 : kitOne K (.ref CR) (.ref CT) = some true)
  (xk4 : kitOne K (.ref CR) (.type "ValueError") = some true)
  (xk5 : kitOne K (.ref CR) (.ref CX) = some false)
  (xk6 : kitOne K (.ref CR) (.ref CG) = some false) :
  ∃ fd : FuncData, (∀ (s : Shared) (v : Value), BindsTo s fd ⟨[v], []⟩ [("_law_script", v)]) /\ ∀ base : Heap, K.In base -> base.Ns mainGlobals mg -> base.BuiltinsAt mg tabAt -> FnOk l.prog w K mg base CX0 40 fa fd ["_law_script"] (spLaw K) := by
 have e : fa = f21 := by
  have q := hfa.symm.trans (mg_of X G a21)
  injection q with q; injection q
 rw [e]
 obtain ⟨g0, D0⟩ : ∃ g, DefAt K mg d0 f0 g := ⟨_, fun_mk (st := top 20) l0 c0 k0, mg_of X G a0, (fun_mk (st := top 20) l0 c0 k0).binds (ps := ["_law_script", "_law_k"]) fun _ _ _ _ _ _ us hl => by obtain ⟨_, _, rfl⟩ := len2 hl; rfl⟩
 obtain ⟨g1, D1⟩ : ∃ g, DefAt K mg d1 f1 g := ⟨_, fun_mk (st := top 6) l1 c1 k1, mg_of X G a1, (fun_mk (st := top 6) l1 c1 k1).binds (ps := ["ground", "some"]) fun _ _ _ _ _ _ us hl => by obtain ⟨_, _, rfl⟩ := len2 hl; rfl⟩
 obtain ⟨g2, D2⟩ : ∃ g, DefAt K mg d2 f2 g := ⟨_, fun_mk (st := top 7) l2 c2 k2, mg_of X G a2, (fun_mk (st := top 7) l2 c2 k2).binds (ps := ["many", "lines"]) fun _ _ _ _ _ _ us hl => by obtain ⟨_, _, rfl⟩ := len2 hl; rfl⟩
 obtain ⟨g3, D3⟩ : ∃ g, DefAt K mg d3 f3 g := ⟨_, fun_mk (st := top 8) l3 c3 k3, mg_of X G a3, (fun_mk (st := top 8) l3 c3 k3).binds (ps := ["firsts", "one", "other"]) fun _ _ _ _ _ _ us hl => by obtain ⟨_, _, _, rfl⟩ := len3 hl; rfl⟩
 obtain ⟨g4, D4⟩ : ∃ g, DefAt K mg d4 f4 g := ⟨_, fun_mk (st := top 9) l4 c4 k4, mg_of X G a4, (fun_mk (st := top 9) l4 c4 k4).binds (ps := ["firsts", "first"]) fun _ _ _ _ _ _ us hl => by obtain ⟨_, _, rfl⟩ := len2 hl; rfl⟩
 obtain ⟨g5, D5⟩ : ∃ g, DefAt K mg d5 f5 g := ⟨_, fun_mk (st := top 11) l5 c5 k5, mg_of X G a5, (fun_mk (st := top 11) l5 c5 k5).binds (ps := ["ground", "tree", "one", "other"]) fun _ _ _ _ _ _ us hl => by obtain ⟨_, _, _, _, rfl⟩ := len4 hl; rfl⟩
 obtain ⟨g6, D6⟩ : ∃ g, DefAt K mg d6 f6 g := ⟨_, fun_mk (st := top 12) l6 c6 k6, mg_of X G a6, (fun_mk (st := top 12) l6 c6 k6).binds (ps := ["ground", "tree", "spot"]) fun _ _ _ _ _ _ us hl => by obtain ⟨_, _, _, rfl⟩ := len3 hl; rfl⟩
 obtain ⟨g7, D7⟩ : ∃ g, DefAt K mg d7 f7 g := ⟨_, fun_mk (st := top 14) l7 c7 k7, mg_of X G a7, (fun_mk (st := top 14) l7 c7 k7).binds (ps := ["ground", "some"]) fun _ _ _ _ _ _ us hl => by obtain ⟨_, _, rfl⟩ := len2 hl; rfl⟩
 obtain ⟨g8, D8⟩ : ∃ g, DefAt K mg d8 f8 g := ⟨_, fun_mk (st := top 15) l8 c8 k8, mg_of X G a8, (fun_mk (st := top 15) l8 c8 k8).binds (ps := ["ground"]) fun _ _ _ _ _ _ us hl => by obtain ⟨_, rfl⟩ := len1 hl; rfl⟩
 have D9 : DefAt K mg d9 f9 (fnOf "by_length" "by_length" (defArgs (top 16)) (defBody (top 16)) (defScope (top 16)) .none kV9 dc9 pm9 an9 cd9 ct9) := ⟨fun_mk (st := top 16) l9 c9 k9, mg_of X G a9, (fun_mk (st := top 16) l9 c9 k9).binds (ps := ["lines"]) fun _ _ _ _ _ _ us hl => by obtain ⟨_, rfl⟩ := len1 hl; rfl⟩
 obtain ⟨g10, D10⟩ : ∃ g, DefAt K mg d10 f10 g := ⟨_, fun_mk (st := top 17) l10 c10 k10, mg_of X G a10, (fun_mk (st := top 17) l10 c10 k10).binds (ps := ["ground"]) fun _ _ _ _ _ _ us hl => by obtain ⟨_, rfl⟩ := len1 hl; rfl⟩
 obtain ⟨g11, D11⟩ : ∃ g, DefAt K mg d11 f11 g := ⟨_, fun_mk (st := top 18) l11 c11 k11, mg_of X G a11, (fun_mk (st := top 18) l11 c11 k11).binds (ps := ["ground", "tree", "line"]) fun _ _ _ _ _ _ us hl => by obtain ⟨_, _, _, rfl⟩ := len3 hl; rfl⟩
 obtain ⟨g12, D12⟩ : ∃ g, DefAt K mg d12 f12 g := ⟨_, fun_mk (st := top 21) l12 c12 k12, mg_of X G a12, (fun_mk (st := top 21) l12 c12 k12).binds (ps := ["_law_script", "_law_k"]) fun _ _ _ _ _ _ us hl => by obtain ⟨_, _, rfl⟩ := len2 hl; rfl⟩
 obtain ⟨g13, D13⟩ : ∃ g, DefAt K mg d13 f13 g := ⟨_, fun_mk (st := top 22) l13 c13 k13, mg_of X G a13, (fun_mk (st := top 22) l13 c13 k13).binds (ps := ["_law_number_here", "_law_k"]) fun _ _ _ _ _ _ us hl => by obtain ⟨_, _, rfl⟩ := len2 hl; rfl⟩
 obtain ⟨g14, D14⟩ : ∃ g, DefAt K mg d14 f14 g := ⟨_, fun_mk (st := top 23) l14 c14 k14, mg_of X G a14, (fun_mk (st := top 23) l14 c14 k14).binds (ps := ["_law_thing", "_law_low", "_law_high"]) fun _ _ _ _ _ _ us hl => by obtain ⟨_, _, _, rfl⟩ := len3 hl; rfl⟩
 obtain ⟨g15, D15⟩ : ∃ g, DefAt K mg d15 f15 g := ⟨_, fun_mk (st := top 24) l15 c15 k15, mg_of X G a15, (fun_mk (st := top 24) l15 c15 k15).binds (ps := ["_law_number_here", "_law_most", "_law_lines"]) fun _ _ _ _ _ _ us hl => by obtain ⟨_, _, _, rfl⟩ := len3 hl; rfl⟩
 obtain ⟨g16, D16⟩ : ∃ g, DefAt K mg d16 f16 g := ⟨_, fun_mk (st := top 25) l16 c16 k16, mg_of X G a16, (fun_mk (st := top 25) l16 c16 k16).binds (ps := ["_law_many", "_law_pairs"]) fun _ _ _ _ _ _ us hl => by obtain ⟨_, _, rfl⟩ := len2 hl; rfl⟩
 obtain ⟨g17, D17⟩ : ∃ g, DefAt K mg d17 f17 g := ⟨_, fun_mk (st := top 26) l17 c17 k17, mg_of X G a17, (fun_mk (st := top 26) l17 c17 k17).binds (ps := ["_law_thing", "_law_ground_here"]) fun _ _ _ _ _ _ us hl => by obtain ⟨_, _, rfl⟩ := len2 hl; rfl⟩
 obtain ⟨g18, D18⟩ : ∃ g, DefAt K mg d18 f18 g := ⟨_, fun_mk (st := top 27) l18 c18 k18, mg_of X G a18, (fun_mk (st := top 27) l18 c18 k18).binds (ps := ["_law_ground_here", "_law_number_here"]) fun _ _ _ _ _ _ us hl => by obtain ⟨_, _, rfl⟩ := len2 hl; rfl⟩
 obtain ⟨g19, D19⟩ : ∃ g, DefAt K mg d19 f19 g := ⟨_, fun_mk (st := top 28) l19 c19 k19, mg_of X G a19, (fun_mk (st := top 28) l19 c19 k19).binds (ps := ["_law_tree_here", "_law_out", "_law_line"]) fun _ _ _ _ _ _ us hl => by obtain ⟨_, _, _, rfl⟩ := len3 hl; rfl⟩
 obtain ⟨g20, D20⟩ : ∃ g, DefAt K mg d20 f20 g := ⟨_, fun_mk (st := top 29) l20 c20 k20, mg_of X G a20, (fun_mk (st := top 29) l20 c20 k20).binds (ps := ["_law_ground_here", "_law_tree_due"]) fun _ _ _ _ _ _ us hl => by obtain ⟨_, _, rfl⟩ := len2 hl; rfl⟩
 have D21 : DefAt K mg d21 f21 (fnOf "law" "law" (defArgs (top 30)) (defBody (top 30)) (defScope (top 30)) .none kV21 dc21 pm21 an21 cd21 ct21) := ⟨fun_mk (st := top 30) l21 c21 k21, mg_of X G a21, (fun_mk (st := top 30) l21 c21 k21).binds (ps := ["_law_script"]) fun _ _ _ _ _ _ us hl => by obtain ⟨_, rfl⟩ := len1 hl; rfl⟩
 have hblt : ∀ x, x ∈ bltN -> mg x = none := by
  intro x hx
  simp only [bltN, List.mem_cons, List.not_mem_nil, or_false] at hx
  rcases hx with rfl | rfl | rfl | rfl | rfl | rfl | rfl | rfl | rfl | rfl | rfl | rfl | rfl | rfl | rfl | rfl | rfl | rfl
  ·exact mg_none_of X G z0
  ·exact mg_none_of X G z1
  ·exact mg_none_of X G z2
  ·exact mg_none_of X G z3
  ·exact mg_none_of X G z4
  ·exact mg_none_of X G z5
  ·exact mg_none_of X G z6
  ·exact mg_none_of X G z7
  ·exact mg_none_of X G z8
  ·exact mg_none_of X G z9
  ·exact mg_none_of X G z10
  ·exact mg_none_of X G z11
  ·exact mg_none_of X G z12
  ·exact mg_none_of X G z13
  ·exact mg_none_of X G z14
  ·exact mg_none_of X G z15
  ·exact mg_none_of X G z16
  ·exact mg_none_of X G z17
 let ad : Nat -> Addr := fun i => match i with | 0 => f0 | 1 => f1 | 2 => f2 | 3 => f3 | 4 => f4 | 5 => f5 | 6 => f6 | 7 => f7 | 8 => f8 | 9 => f9 | 10 => f10 | 11 => f11 | 12 => f12 | 13 => f13 | 14 => f14 | 15 => f15 | 16 => f16 | 17 => f17 | 18 => f18 | 19 => f19 | 20 => f20 | 21 => f21 | _ => f0
 let fd : Nat -> FuncData := fun i => match i with | 0 => g0 | 1 => g1 | 2 => g2 | 3 => g3 | 4 => g4 | 5 => g5 | 6 => g6 | 7 => g7 | 8 => g8 | 9 => fnOf "by_length" "by_length" (defArgs (top 16)) (defBody (top 16)) (defScope (top 16)) .none kV9 dc9 pm9 an9 cd9 ct9 | 10 => g10 | 11 => g11 | 12 => g12 | 13 => g13 | 14 => g14 | 15 => g15 | 16 => g16 | 17 => g17 | 18 => g18 | 19 => g19 | 20 => g20 | 21 => fnOf "law" "law" (defArgs (top 30)) (defBody (top 30)) (defScope (top 30)) .none kV21 dc21 pm21 an21 cd21 ct21 | _ => g0
 have hF : ∀ i d, ds[i]? = some d -> DefAt K mg d (ad i) (fd i) := by
  intro i d hd
  match i, hd with
  | 0, hd => cases hd; exact D0
  | 1, hd => cases hd; exact D1
  | 2, hd => cases hd; exact D2
  | 3, hd => cases hd; exact D3
  | 4, hd => cases hd; exact D4
  | 5, hd => cases hd; exact D5
  | 6, hd => cases hd; exact D6
  | 7, hd => cases hd; exact D7
  | 8, hd => cases hd; exact D8
  | 9, hd => cases hd; exact D9
  | 10, hd => cases hd; exact D10
  | 11, hd => cases hd; exact D11
  | 12, hd => cases hd; exact D12
  | 13, hd => cases hd; exact D13
  | 14, hd => cases hd; exact D14
  | 15, hd => cases hd; exact D15
  | 16, hd => cases hd; exact D16
  | 17, hd => cases hd; exact D17
  | 18, hd => cases hd; exact D18
  | 19, hd => cases hd; exact D19
  | 20, hd => cases hd; exact D20
  | 21, hd => cases hd; exact D21
  | _ + 22, hd => cases hd
 refine ⟨fd 21, fun s v => .of_eq rfl, fun base kb nb bb => ?_⟩
 have hgl : ∀ x c, T.gls.lookup x = some c -> ∀ d, cstIs d c = true -> ∃ v u, mg x = some u /\ RelV v u /\ ∀ G, Rp G d v := fun x c hx => by cases hx
 have mG := mg_of X G xnCG
 have mT := mg_of X G xnCT
 have mX := mg_of X G xnCX
 have mR := mg_of X G xnCR
 have mV := mg_none_of X G xv
 have hsp : ∀ k i d, ds[i]? = some d -> i ≠ 0 -> sp i = true -> (∀ k', k' <= k -> ∀ j d', ds[j]? = some d' -> FnOk l.prog w K mg base CX0 k' (ad j) (fd j) d'.ps (spD d'.ps.length (pf K (ds.map DefT.sb ++ ex) k' j))) ->
   FnOk l.prog w K mg base CX0 (k + 1) (ad i) (fd i) d.ps (spD d.ps.length (pf K (ds.map DefT.sb ++ ex) (k + 1) i)) := by
  intro k i d hd hi hs ih
  have h2 : i = 9 \/ i = 20 := by
   simp only [sp, Bool.or_eq_true, beq_iff_eq] at hs
   exact hs
  rcases h2 with h2 | h2
  ·subst h2
   cases hd
   subst cc
   exact byl_fn (d := d9) (c := tabCode) (Pt := tabAt) l9 c9 (by decide +kernel) rfl rfl rfl rfl rfl rfl rfl (hblt _ (by decide +kernel)) (hblt _ (by decide +kernel)) (hblt _ (by decide +kernel)) rfl (codeHd_of_K kb ch) bb (fun _ => rfl) (fun _ _ _ _ _ _ => rfl) rfl rfl rfl rfl (byl_hg (K := K) (bs := ds.map DefT.sb ++ ex) (k := k) (i := 9) (m := d9.nm.length - 1) rfl (by decide))
  ·subst h2
   cases hd
   have nn1 : ∀ p, NoR p rs1 := fun _ => nr_asg
   have nn2 : ∀ p, NoR p rs2 := fun _ => nr_fr (nr_cons nr_asg (nr_cons (nr_ifs (nr_cons nr_asg nr_nil) nr_nil) nr_nil))
   have FL : ∀ k', k' <= k -> FnOk l.prog w K mg base (CXr l.prog w) k' (ad 8) (fd 8) d8.ps (spX CR d8.ps.length (pf K (ds.map DefT.sb ++ ex) k' 22)) := fun k' hk => raise_all2 (P := l.prog) (w := w) (base := base) (T := T) (bs := ds.map DefT.sb ++ ex) (n := 22) (s1 := rs1) (s2 := rs2) (c := rc) rfl (by decide) D8 (by decide +kernel) rfl (by decide +kernel) (by decide +kernel) (by decide +kernel) (by decide +kernel) nn1 nn2 (fun _ _ => rfl) (by decide +kernel) mR xe (by decide +kernel) hblt hgl (fun k2 hk2 => fns_of hT hF (ih k2 (Nat.le_trans (Nat.le_of_lt hk2) hk)))
   have FO : FnOk l.prog w K mg base (CXr l.prog w) k (ad 10) (fd 10) d10.ps (spX CR 1 (pf K (ds.map DefT.sb ++ ex) k 23)) := pass_all (P := l.prog) (w := w) (base := base) (bs := ds.map DefT.sb ++ ex) (d' := d8) (n := 23) (n0 := 22) (m := 6) rfl (by decide) D10 (by decide +kernel) rfl (by decide +kernel) (by decide +kernel) rfl (by decide +kernel) (.inr (.inl (by decide +kernel))) (.inr (by decide +kernel)) (by decide +kernel) (by decide +kernel) (by decide +kernel) (fun k' hk => FL k' (Nat.le_of_lt hk)) D8.mg D8.fn.kp D8.bind
   exact told_fn (T := T) (p := pf K (ds.map DefT.sb ++ ex) k) (d := d20) (sI := tolI 8 10) (sR := tolR) D20 (by decide +kernel) rfl (by decide +kernel) (by decide +kernel) (by decide +kernel) (by decide +kernel) (by decide +kernel) rfl (by decide +kernel) (by decide +kernel) (by decide +kernel) (by decide +kernel) (by decide +kernel) mR xk1 mV mT xk3 xk4 mX xk5 mG xk6 ⟨xgCR, xhCR, xcCR, xsCR, xtCR, xmCR, xbCR⟩ (FL k (Nat.le_refl k)) D8.mg D8.fn.kp D8.bind FO D10.mg D10.fn.kp D10.bind hblt hgl (fns_of hT hF (ih k (Nat.le_refl k))) (told_g (K := K) (bs := ds.map DefT.sb ++ ex) (k := k) (i := 20) (r := 22) (q := 23) (l := 8) (o := 10) (m := 11) (m2 := 6) (n := 10) (s1 := rs1) (s2 := rs2) rfl (by decide) rfl (by decide) rfl (by decide) nn1 nn2)
 have PO := prog_okS (P := l.prog) (w := w) (base := base) (ad := ad) (fd := fd) hT hF hok (fun k d hd => by cases hd; exact cell_ok (k := k) D0.fn rfl ⟨rfl, rfl, rfl, by decide +kernel, rfl, by decide +kernel, by decide +kernel⟩ (by decide +kernel) (by decide +kernel) (by decide +kernel) (hblt _ (by decide +kernel))) hblt hgl hsp 40 40 (Nat.le_refl _) 21 d21 rfl
 rw [hbs] at PO
 exact PO.imp (law_imp fun a ns hl => law K hl)
end K40
open PySem PySem.W PyProof.Rows
set_option maxRecDepth 100000 in
set_option maxHeartbeats 0 in
theorem PySem.Challenge.cw_twighall_k40_whole_lightest_holds : PySem.Challenge.rw_twighall_k40_whole_lightest.Holds := by
 w_on; o_law; k_head; (case hw => w_witness2)
 k_fill
 refine TW.walkT (Pt := TW.tabAt) (c := TW.tabCode) rfl (l := PySem.Challenge.rw_twighall_k40_whole_lightest) rfl rfl (fun w h Y => ⟨PySem.W.km_in_of Y, PySem.W.km_tabs_of Y TW.tabAt (by decide)⟩) (fun _ => by kernel_rfl) (fun _ => by kernel_rfl) ?F
 case F =>
  intro w mg fa h KX G hmg
  refine' K40.all_mk KX G hmg ?a0 ?l0 ?c0 ?k0 ?a1 ?l1 ?c1 ?k1 ?a2 ?l2 ?c2 ?k2 ?a3 ?l3 ?c3 ?k3 ?a4 ?l4 ?c4 ?k4 ?a5 ?l5 ?c5 ?k5 ?a6 ?l6 ?c6 ?k6 ?a7 ?l7 ?c7 ?k7 ?a8 ?l8 ?c8 ?k8 ?a9 ?l9 ?c9 ?k9 ?a10 ?l10 ?c10 ?k10 ?a11 ?l11 ?c11 ?k11 ?a12 ?l12 ?c12 ?k12 ?a13 ?l13 ?c13 ?k13 ?a14 ?l14 ?c14 ?k14 ?a15 ?l15 ?c15 ?k15 ?a16 ?l16 ?c16 ?k16 ?a17 ?l17 ?c17 ?k17 ?a18 ?l18 ?c18 ?k18 ?a19 ?l19 ?c19 ?k19 ?a20 ?l20 ?c20 ?k20 ?a21 ?l21 ?c21 ?k21 ?cc ?ch ?z0 ?z1 ?z2 ?z3 ?z4 ?z5 ?z6 ?z7 ?z8 ?z9 ?z10 ?z11 ?z12 ?z13 ?z14 ?z15 ?z16 ?z17 ?xnCG ?xnCT ?xnCX ?xnCR ?xv ?xgCR ?xhCR ?xcCR ?xmCR ?xbCR ?xsCR ?xtCR ?xe ?xk1 ?xk3 ?xk4 ?xk5 ?xk6
  (case a0 => k_is)
  (case l0 => k_is)
  (case c0 => k_is)
  (case k0 => k_is)
  (case a1 => k_is)
  (case l1 => k_is)
  (case c1 => k_is)
  (case k1 => k_is)
  (case a2 => k_is)
  (case l2 => k_is)
  (case c2 => k_is)
  (case k2 => k_is)
  (case a3 => k_is)
  (case l3 => k_is)
  (case c3 => k_is)
  (case k3 => k_is)
  (case a4 => k_is)
  (case l4 => k_is)
  (case c4 => k_is)
  (case k4 => k_is)
  (case a5 => k_is)
  (case l5 => k_is)
  (case c5 => k_is)
  (case k5 => k_is)
  (case a6 => k_is)
  (case l6 => k_is)
  (case c6 => k_is)
  (case k6 => k_is)
  (case a7 => k_is)
  (case l7 => k_is)
  (case c7 => k_is)
  (case k7 => k_is)
  (case a8 => k_is)
  (case l8 => k_is)
  (case c8 => k_is)
  (case k8 => k_is)
  (case a9 => k_is)
  (case l9 => k_is)
  (case c9 => k_is)
  (case k9 => k_is)
  (case a10 => k_is)
  (case l10 => k_is)
  (case c10 => k_is)
  (case k10 => k_is)
  (case a11 => k_is)
  (case l11 => k_is)
  (case c11 => k_is)
  (case k11 => k_is)
  (case a12 => k_is)
  (case l12 => k_is)
  (case c12 => k_is)
  (case k12 => k_is)
  (case a13 => k_is)
  (case l13 => k_is)
  (case c13 => k_is)
  (case k13 => k_is)
  (case a14 => k_is)
  (case l14 => k_is)
  (case c14 => k_is)
  (case k14 => k_is)
  (case a15 => k_is)
  (case l15 => k_is)
  (case c15 => k_is)
  (case k15 => k_is)
  (case a16 => k_is)
  (case l16 => k_is)
  (case c16 => k_is)
  (case k16 => k_is)
  (case a17 => k_is)
  (case l17 => k_is)
  (case c17 => k_is)
  (case k17 => k_is)
  (case a18 => k_is)
  (case l18 => k_is)
  (case c18 => k_is)
  (case k18 => k_is)
  (case a19 => k_is)
  (case l19 => k_is)
  (case c19 => k_is)
  (case k19 => k_is)
  (case a20 => k_is)
  (case l20 => k_is)
  (case c20 => k_is)
  (case k20 => k_is)
  (case a21 => k_is)
  (case l21 => k_is)
  (case c21 => k_is)
  (case k21 => k_is)
  (case cc => rfl)
  (case ch => kernel_rfl)
  (case z0 => k_is)
  (case z1 => k_is)
  (case z2 => k_is)
  (case z3 => k_is)
  (case z4 => k_is)
  (case z5 => k_is)
  (case z6 => k_is)
  (case z7 => k_is)
  (case z8 => k_is)
  (case z9 => k_is)
  (case z10 => k_is)
  (case z11 => k_is)
  (case z12 => k_is)
  (case z13 => k_is)
  (case z14 => k_is)
  (case z15 => k_is)
  (case z16 => k_is)
  (case z17 => k_is)
  (case xnCG => k_is)
  (case xnCT => k_is)
  (case xnCX => k_is)
  (case xnCR => k_is)
  (case xv => k_is)
  (case xgCR => k_is)
  (case xhCR => k_is)
  (case xcCR => k_is)
  (case xmCR => k_is)
  (case xbCR => k_is)
  (case xsCR => k_is)
  (case xtCR => k_is)
  (case xe => kernel_rfl)
  (case xk1 => kernel_rfl)
  (case xk3 => kernel_rfl)
  (case xk4 => kernel_rfl)
  (case xk5 => kernel_rfl)
  (case xk6 => kernel_rfl)
