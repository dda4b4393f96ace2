import PyProof.Rows.All
import Wide.All
import OpenK.AllK
import Wide.FinOn
import Lean
import PyProof.EqAt
import PyProof.EqKinds
import PyProof.TupleCall
import PyProof.Draws
import PyProof.ZipIter
import PyProof.EnumMake
import KE.KSortTup
import PyProof.Rows.Range3
import PyProof.DictWalks
import PyProof.TupleOfStr
import PyProof.CollectIter
import PyProof.ListRange
import PyProof.TupleOfSeq
import PyProof.Rows.SetFrom
import PyProof.Rows.SortShell
import PyProof.SetRoads
import PyProof.MeetsStr
import PyProof.FactsAll.str_5
import PyProof.ExcClass3
import OpenK.KOwn
import KE.KTryMore
import PyProof.RulesAs
import PyProof.ExcAttrAll.ValueError
import PyProof.FactsAll.list_3
import KE.KLam
import KE.KSortKey
import PyProof.StrBlockI
import PyProof.StrLawsTight
import KE.IntTextLaws
import PyProof.StrCalls2
import PyProof.StrBlockH
import PyProof.StrWalks
import PyProof.SliceStr2
import PyProof.Rows.StrItems
import PyProof.Rows.StrSplitAre
import PyProof.Rows.StrSplitJoin
import PyProof.StrLawsChain
import PyProof.StrLawsIn
import KE.KIntText
import PySem.Challenge.RW_twighall_k03_whole_read
set_option Elab.async false
set_option linter.all false
set_option maxRecDepth 100000
section
set_option Elab.async false
set_option linter.all false
set_option maxRecDepth 100000
namespace L2
open PySem PySem.Spec PyProof.Rows
noncomputable abbrev Key := Sum Int Str
noncomputable def keyIs : Key → Value → Bool
  | .inl k, v => Value.isInt k v
  | .inr x, v => Value.isStrOf x v
noncomputable def keyH (w : World) : Key → Int
  | .inl k => hashInt k
  | .inr x => hashStr w x
theorem keyIs_shape : ∀ {k : Key} {v : Value}, keyIs k v = true → (∃ i t, k = Sum.inl i ∧ v = Value.int i t) ∨ (∃ x t, k = Sum.inr x ∧ v = Value.str x t)
  | .inl i, v, h => by
    obtain ⟨t, e⟩ := Value.isInt_shape (k := i) (v := v) h
    exact .inl ⟨i, t, rfl, e⟩
  | .inr x, v, h => by
    obtain ⟨t, e⟩ := Value.isStrOf_shape (x := x) (v := v) h
    exact .inr ⟨x, t, rfl, e⟩
theorem keyIs_int (i : Int) (t : Tok) : keyIs (.inl i) (.int i t) = true := by simp [keyIs, Value.isInt]
theorem keyIs_str (x : Str) (t : Tok) : keyIs (.inr x) (.str x t) = true := by simp [keyIs, Value.isStrOf]
theorem key_ll (a b : Int) : decide ((Sum.inl a : Key) = Sum.inl b) = (a == b) := by
  by_cases e : a = b
  · subst e; simp
  · have h : ¬ (Sum.inl a : Key) = Sum.inl b := fun q => e (Sum.inl.inj q)
    rw [decide_eq_false h]
    exact (beq_eq_false_iff_ne.mpr e).symm
theorem key_rr (a b : Str) : decide ((Sum.inr a : Key) = Sum.inr b) = decide (a = b) := by
  by_cases e : a = b
  · subst e; simp
  · have h : ¬ (Sum.inr a : Key) = Sum.inr b := fun q => e (Sum.inr.inj q)
    rw [decide_eq_false h, decide_eq_false e]
theorem key_lr (a : Int) (b : Str) : decide ((Sum.inl a : Key) = Sum.inr b) = false := decide_eq_false (fun q => nomatch q)
theorem key_rl (a : Str) (b : Int) : decide ((Sum.inr a : Key) = Sum.inl b) = false := decide_eq_false (fun q => nomatch q)
noncomputable def mixKind (prog : Program) (w : World) : PySem.KeyKind prog w Key where
  is := keyIs
  hash := keyH w
  inj := fun v a b ha hb => by
    rcases keyIs_shape ha with ⟨i, t, rfl, rfl⟩ | ⟨x, t, rfl, rfl⟩
    · rcases keyIs_shape hb with ⟨j, u, rfl, e⟩ | ⟨y, u, rfl, e⟩
      · injection e with e1 _; rw [e1]
      · exact nomatch e
    · rcases keyIs_shape hb with ⟨j, u, rfl, e⟩ | ⟨y, u, rfl, e⟩
      · exact nomatch e
      · injection e with e1 _; rw [e1]
  byValue := fun k v h => by
    rcases keyIs_shape h with ⟨i, t, rfl, rfl⟩ | ⟨x, t, rfl, rfl⟩ <;> rfl
  pyHash := fun hv h => by
    rcases keyIs_shape hv with ⟨i, t, rfl, rfl⟩ | ⟨x, t, rfl, rfl⟩
    · exact wpAny_pyHash_int h
    · exact wpAny_pyHash_str h
  eqBool := fun hu hv h => by
    rcases keyIs_shape hu with ⟨i, t, rfl, rfl⟩ | ⟨x, t, rfl, rfl⟩
    · rcases keyIs_shape hv with ⟨j, u, rfl, rfl⟩ | ⟨y, u, rfl, rfl⟩
      · rw [key_ll] at h; exact wpAny_eqBool_int h
      · rw [key_lr] at h; exact SeqAt.EqAt.int_str i t y u _ _ _ _ h
    · rcases keyIs_shape hv with ⟨j, u, rfl, rfl⟩ | ⟨y, u, rfl, rfl⟩
      · rw [key_rl] at h; exact SeqAt.EqAt.str_int x t j u _ _ _ _ h
      · rw [key_rr] at h; exact wpAny_eqBool_str h
  «strs» := fun k x t v h => by
    rcases keyIs_shape h with ⟨i, u, rfl, e⟩ | ⟨y, u, rfl, e⟩
    · exact nomatch e
    · injection e with e1 _
      subst e1
      cases v <;> rfl
theorem mixKind_int (prog : Program) (w : World) (i : Int) (t : Tok) : (mixKind prog w).is (.inl i) (.int i t) = true := keyIs_int i t
theorem mixKind_str (prog : Program) (w : World) (x : Str) (t : Tok) : (mixKind prog w).is (.inr x) (.str x t) = true := keyIs_str x t
end L2
namespace L2
open PySem PySem.Spec PyProof.Rows
inductive V where
  | non | bl (b : Bool) | int (i : Int) | str (x : Str) | byt (b : Array UInt8) | flt (b : UInt64) | ref (a : Addr) | ty (n : String)
  deriving DecidableEq
noncomputable def RelV : V → Value → Prop
  | .non, u => u = Value.none
  | .bl b, u => u = Value.bool b
  | .int i, u => ∃ t, u = Value.int i t
  | .str x, u => ∃ t, u = Value.str x t
  | .byt b, u => ∃ t, u = Value.bytes b t
  | .flt b, u => ∃ t, u = Value.float b t
  | .ref a, u => u = Value.ref a
  | .ty n, u => u = Value.type n
noncomputable abbrev Vals : List V → List Value → Prop := Paired RelV
theorem Vals.length {xs : List V} {us : List Value} (r : Vals xs us) : xs.length = us.length := Paired.length r
theorem Vals.get : ∀ {xs : List V} {us : List Value} {i : Nat} {x : V}, Vals xs us → xs[i]? = some x → ∃ u, us[i]? = some u ∧ RelV x u
  | _, _, _, _, .nil, e => by simp at e
  | _, _, 0, _, .cons r _, e => by simp at e; subst e; exact ⟨_, rfl, r⟩
  | _, _, i + 1, x, .cons _ t, e => by
    obtain ⟨u, h1, h2⟩ := Vals.get (i := i) (x := x) t (by simpa using e)
    exact ⟨u, by simpa using h1, h2⟩
theorem Vals.set {x : V} {u : Value} (r : RelV x u) : ∀ {xs : List V} {us : List Value} (i : Nat), Vals xs us → Vals (xs.set i x) (us.set i u)
  | _, _, _, .nil => .nil
  | _, _, 0, .cons _ t => .cons r t
  | _, _, i + 1, .cons q t => .cons q (Vals.set r i t)
theorem Vals.append : ∀ {xs ys : List V} {us ws : List Value}, Vals xs us → Vals ys ws → Vals (xs ++ ys) (us ++ ws)
  | _, _, _, _, .nil, s => s
  | _, _, _, _, .cons r t, s => .cons r (Vals.append t s)
theorem Vals.take : ∀ {xs : List V} {us : List Value} (n : Nat), Vals xs us → Vals (xs.take n) (us.take n)
  | _, _, 0, _ => .nil
  | _, _, _ + 1, .nil => .nil
  | _, _, n + 1, .cons r t => .cons r (Vals.take n t)
theorem Vals.drop : ∀ {xs : List V} {us : List Value} (n : Nat), Vals xs us → Vals (xs.drop n) (us.drop n)
  | _, _, 0, r => r
  | _, _, _ + 1, .nil => .nil
  | _, _, n + 1, .cons _ t => Vals.drop n t
noncomputable def RelO : Option V → Option Value → Prop
  | some v, some u => RelV v u
  | none, none => True
  | _, _ => False
noncomputable def KV {κ : Type} : List (κ × V) → List (κ × Value) → Prop := Paired fun (p : κ × V) (q : κ × Value) => p.1 = q.1 ∧ RelV p.2 q.2
noncomputable def kV : Key → V
  | .inl i => .int i
  | .inr x => .str x
inductive HO where
  | lst (xs : List V)
  | tup (xs : List V)
  | dK (kvs : List (Key × V)) | dT (kvs : List (List Key × V))
  | set (S : Int → Bool) (n : Nat)
  | ins (C dx : Addr) (fs : List (Str × V))
  | own (x : Addr)
  | xd (fs : List (Str × V))
  | met (f x : Addr)
  | rng (lo hi : Int)
  | frz (o : Obj) (u : HO)
  | tbl (ps : Array Value)
  | ext (φ : (Addr → Prop) → Heap → Prop)
noncomputable abbrev Hp := Addr → Option HO
noncomputable def upd (H : Hp) (a : Addr) (o : HO) : Hp := fun b => if b = a then some o else H b
theorem upd_same {H : Hp} {a : Addr} {o : HO} : upd H a o a = some o := by unfold upd; rw [if_pos rfl]
theorem upd_ne {H : Hp} {a b : Addr} {o : HO} (h : b ≠ a) : upd H a o b = H b := by unfold upd; rw [if_neg h]
theorem ne_of_none {H : Hp} {a b : Addr} {o : HO} (h : H a = some o) (h' : H b = none) : a ≠ b := by
  intro e; subst e; rw [h] at h'; cases h'
section
variable (P : Program) (w : World)
noncomputable def ObjOk (H : Hp) (h : Heap) (a : Addr) : HO → Prop
  | .lst xs => xs.length ≤ sizeLine ∧ ∃ (its : List Value) (n : Nat), Vals xs its ∧ h.get? a = some { cls := .type "list", data := .seq its.toArray n }
  | .tup xs => xs.length ≤ sizeLine ∧ ∃ its : List Value, Vals xs its ∧ IsTup h a its.toArray
  | .dK kvs => kvs.length ≤ sizeLine ∧ (a == sysModules) = false ∧ ∃ vs, KV kvs vs ∧ h.DictOf (mixKind P w) a vs
  | .dT kvs => kvs.length ≤ sizeLine ∧ (a == sysModules) = false ∧ ∃ xs : List (List Key × Addr × Value),
      Paired (fun (p : List Key × V) (q : List Key × Addr × Value) => p.1 = q.1 ∧ H q.2.1 = some (.tup (p.1.map kV)) ∧ RelV p.2 q.2.2) kvs xs ∧
      ∃ o es ep, h.get? a = some o ∧ o.ExactDict ∧ o.data = .dict es ep ∧ es.toList = xs.map (entryOfKey (tupleKind (mixKind P w))) ∧ (xs.map (·.1)).Nodup
  | .set S n => h.SetOf (intKind P w) a S n
  | .ins C dx fs => H dx = some (.own a) ∧ fs.length ≤ 1000 ∧ dx ≠ a ∧ h.get? a = some (PySem.W.instObj C dx) ∧
      ∃ mA, h.Ns1 dx mA ∧ (∀ f, RelO (fs.lookup f) (mA f)) ∧ PySem.Within mA (fs.map (·.1))
  | .own _ => ∃ o, h.get? a = some o
  | .xd fs => ∃ mA, h.Ns1 a mA ∧ ∀ f, RelO (fs.lookup f) (mA f)
  | .rng lo hi => ∃ t u v, h.get? a = some { cls := .type "range", data := .fields #[.int lo t, .int hi u, .int 1 v] }
  | .frz o u => h.get? a = some o ∧ ObjOk H h a u
  | .tbl ps => h.get? a = some { cls := .none, data := .fields ps }
  | .met f x => h.get? a = some (PySem.W.methodObj (.ref f) (.ref x))
  | .ext φ => φ (fun b => H b = some (.own a)) h ∧ (∃ o, h.get? a = some o) ∧ ∀ (S1 S2 : Addr → Prop) (h1 h2 : Heap), φ S1 h1 → (∀ b, S1 b → S2 b) → (∀ b o, (b = a ∨ S1 b) → h1.get? b = some o → h2.get? b = some o) → φ S2 h2
noncomputable def HOk (H : Hp) (h : Heap) : Prop := ∀ a o, H a = some o → ObjOk P w H h a o
end
section
variable {P : Program} {w : World} {H H' : Hp} {h h' : Heap} {a : Addr} {o : HO}
theorem ObjOk.lt (x : ObjOk P w H h a o) : a < h.objs.size := by
  cases o with
  | lst xs => obtain ⟨_, _, _, _, e⟩ := x; exact Heap.lt_size e
  | tup xs => obtain ⟨_, _, _, p⟩ := x; exact p.lt
  | dK kvs => obtain ⟨_, _, _, _, o, _, _, e, _⟩ := x; exact Heap.lt_size e
  | dT kvs => obtain ⟨_, _, _, _, o, _, _, e, _⟩ := x; exact Heap.lt_size e
  | set S n => obtain ⟨o, _, _, _, e, _⟩ := x; exact Heap.lt_size e
  | ins C dx fs => obtain ⟨_, _, _, e, _⟩ := x; exact Heap.lt_size e
  | own y => obtain ⟨_, e⟩ := x; exact Heap.lt_size e
  | xd fs => obtain ⟨_, ⟨_, _, _, e, _⟩, _⟩ := x; exact Heap.lt_size e
  | rng lo hi => obtain ⟨_, _, _, e⟩ := x; exact Heap.lt_size e
  | frz ob u => obtain ⟨e, _⟩ := x; exact Heap.lt_size e
  | tbl ps => exact Heap.lt_size (show h.get? a = some _ from x)
  | met f y => exact Heap.lt_size (show h.get? a = some _ from x)
  | ext φ => obtain ⟨_, ⟨_, e⟩, _⟩ := x; exact Heap.lt_size e
theorem Paired.mapP {α β : Type} {F G : α → β → Prop} : ∀ {l₁ : List α} {l₂ : List β}, Paired F l₁ l₂ → (∀ a b, F a b → G a b) → Paired G l₁ l₂
  | _, _, .nil, _ => .nil
  | _, _, .cons r t, f => .cons (f _ _ r) (Paired.mapP t f)
theorem ObjOk.stay (x : ObjOk P w H h a o) (k : ∀ b u, (b = a ∨ H b = some (.own a)) → h.get? b = some u → h'.get? b = some u)
    (ho : ∀ b, H b = some (.own a) → H' b = some (.own a)) (ht : ∀ b xs, H b = some (.tup xs) → H' b = some (.tup xs)) : ObjOk P w H' h' a o := by
  induction o with
  | lst xs => obtain ⟨z, its, n, r, e⟩ := x; exact ⟨z, its, n, r, k _ _ (.inl rfl) e⟩
  | tup xs => obtain ⟨z, its, r, ob, e, c⟩ := x; exact ⟨z, its, r, ob, k _ _ (.inl rfl) e, c⟩
  | dK kvs => obtain ⟨z, y, vs, r, ob, es, ep, e, c⟩ := x; exact ⟨z, y, vs, r, ob, es, ep, k _ _ (.inl rfl) e, c⟩
  | dT kvs =>
    obtain ⟨z, y, xs, r, ob, es, ep, e, c⟩ := x
    exact ⟨z, y, xs, Paired.mapP r fun p q z => ⟨z.1, ht _ _ z.2.1, z.2.2⟩, ob, es, ep, k _ _ (.inl rfl) e, c⟩
  | set S n => obtain ⟨ob, es, ep, t, e, c⟩ := x; exact ⟨ob, es, ep, t, k _ _ (.inl rfl) e, c⟩
  | ins C dx fs =>
    obtain ⟨d, z, ne, e, mA, ⟨od, es, ep, e2, c⟩, r⟩ := x
    exact ⟨ho _ d, z, ne, k _ _ (.inl rfl) e, mA, ⟨od, es, ep, k _ _ (.inr d) e2, c⟩, r⟩
  | own y => obtain ⟨ob, e⟩ := x; exact ⟨ob, k _ _ (.inl rfl) e⟩
  | xd fs => obtain ⟨mA, ⟨od, es, ep, e, c⟩, r⟩ := x; exact ⟨mA, ⟨od, es, ep, k _ _ (.inl rfl) e, c⟩, r⟩
  | rng lo hi => obtain ⟨t, u, v, e⟩ := x; exact ⟨t, u, v, k _ _ (.inl rfl) e⟩
  | frz ob u ih => obtain ⟨e, q⟩ := x; exact ⟨k _ _ (.inl rfl) e, ih q⟩
  | tbl ps =>
    have e : h.get? a = some { cls := .none, data := .fields ps } := x
    show h'.get? a = some { cls := .none, data := .fields ps }
    exact k a _ (.inl rfl) e
  | met f y =>
    have e : h.get? a = some (PySem.W.methodObj (.ref f) (.ref y)) := x
    show h'.get? a = some (PySem.W.methodObj (.ref f) (.ref y))
    exact k a _ (.inl rfl) e
  | ext φ => obtain ⟨p, ⟨o, e⟩, st⟩ := x; exact ⟨st _ _ _ _ p (fun b q => ho b q) (fun b o hb q => k b o hb q), ⟨o, k _ _ (.inl rfl) e⟩, st⟩
theorem HOk.lt (x : HOk P w H h) (e : H a = some o) : a < h.objs.size := (x a o e).lt
theorem HOk.fresh (x : HOk P w H h) (e : h.objs.size ≤ a) : H a = none := by
  cases q : H a with
  | none => rfl
  | some u => exact absurd (Nat.lt_of_lt_of_le (x.lt q) e) (Nat.lt_irrefl _)
theorem HOk.kept (x : HOk P w H h) (k : ∀ b u, h.get? b = some u → h'.get? b = some u) : HOk P w H h' := fun a o e =>
  (x a o e).stay (fun b u _ q => k b u q) (fun _ q => q) fun _ _ q => q
theorem HOk.laid (x : HOk P w H h) (k : ∀ b u, h.get? b = some u → h'.get? b = some u) (hp : h.objs.size ≤ a) (new : ObjOk P w (upd H a o) h' a o) : HOk P w (upd H a o) h' := fun b u e => by
  have hn := x.fresh hp
  by_cases hb : b = a
  · subst hb; rw [upd_same] at e; cases e; exact new
  · rw [upd_ne hb] at e
    exact (x b u e).stay (fun c v _ q => k c v q) (fun c q => by rw [upd_ne (ne_of_none q hn)]; exact q) fun c xs q => by rw [upd_ne (ne_of_none q hn)]; exact q
end
noncomputable def Rd (H : Hp) (a : Addr) (u : HO) : Prop := H a = some u ∨ ∃ o, H a = some (.frz o u)
theorem Rd.of {H : Hp} {a : Addr} {u : HO} (h : H a = some u) : Rd H a u := .inl h
theorem Rd.ok {P : Program} {w : World} {H : Hp} {h : Heap} {a : Addr} {u : HO} (r : Rd H a u) (x : HOk P w H h) : ObjOk P w H h a u := by
  rcases r with r | ⟨o, r⟩
  · exact x a u r
  · obtain ⟨_, q⟩ := x a _ r
    exact q
noncomputable def Mut : Option HO → Prop
  | some (.lst _) => True
  | some (.dK _) => True
  | some (.dT _) => True
  | some (.set _ _) => True
  | some (.ins _ _ _) => True
  | some (.ext _) => True
  | _ => False
section
variable {P : Program} {w : World} {H : Hp} {h h' : Heap} {x e : Addr} {o' : HO}
theorem HOk.write (ok : HOk P w H h) (mu : Mut (H x)) (he : e = x ∨ H e = some (.own x)) (k : ∀ b u, b ≠ e → h.get? b = some u → h'.get? b = some u) (heo : ∃ u, h'.get? e = some u)
    (new : ObjOk P w (upd H x o') h' x o') : HOk P w (upd H x o') h' := fun b u q => by
  have nown : ∀ c y, H c = some (.own y) → c ≠ x := fun c y r z => by subst z; rw [r] at mu; exact mu
  have ntup : ∀ c xs, H c = some (.tup xs) → c ≠ x := fun c xs r z => by subst z; rw [r] at mu; exact mu
  by_cases hb : b = x
  · subst hb; rw [upd_same] at q; cases q; exact new
  · rw [upd_ne hb] at q
    by_cases hbe : b = e
    · have q' : H b = some (.own x) := by
        rcases he with z | z
        · exact absurd (hbe.trans z) hb
        · rw [hbe]; exact z
      rw [q] at q'; cases q'
      obtain ⟨v, hv⟩ := heo
      exact ⟨v, by rw [hbe]; exact hv⟩
    · refine (ok b u q).stay (fun c v hc r => k c v ?_ r) (fun c r => by rw [upd_ne (nown c b r)]; exact r) fun c xs r => by rw [upd_ne (ntup c xs r)]; exact r
      rcases hc with rfl | hc
      · exact hbe
      · rintro rfl
        rcases he with z | z
        · exact nown c b hc z
        · rw [hc] at z; cases z; exact hb rfl
end
structure Un (fs ex : List Addr) (H H' : Hp) (h h' : Heap) : Prop where
  keep : ∀ b o, h.get? b = some o → H b = none → b ∉ fs → b ∉ ex → h'.get? b = some o
  slot : ∀ b o, h.get? b = some o → H b = none → b ∈ fs → b ∉ ex → ∃ sl, h'.get? b = some { o with slots := sl }
  free : ∀ b o, h.get? b = some o → H b = none → b ∉ ex → H' b = none
  there : ∀ b o, h.get? b = some o → b ∉ ex → ∃ o', h'.get? b = some o'
  tups : ∀ b xs, H b = some (.tup xs) → H' b = some (.tup xs)
  frzs : ∀ b o u, H b = some (.frz o u) → H' b = some (.frz o u)
  tbls : ∀ b ps, H b = some (.tbl ps) → ∃ more, H' b = some (.tbl (ps ++ more))
section
variable {fs fs' ex ex' : List Addr} {H H1 H2 : Hp} {h h1 h2 h' : Heap} {a x e : Addr} {o : HO}
theorem Un.any (u : Un fs ex H H1 h h1) {b : Addr} {ob : Obj} (q : h.get? b = some ob) (n : H b = none) (hx : b ∉ ex) : ∃ sl, h1.get? b = some { ob with slots := sl } := by
  by_cases hb : b ∈ fs
  · exact u.slot b ob q n hb hx
  · exact ⟨ob.slots, u.keep b ob q n hb hx⟩
theorem Un.trans (a : Un fs ex H H1 h h1) (b : Un fs ex H1 H2 h1 h2) : Un fs ex H H2 h h2 where
  keep := fun c ob q n hc hx => b.keep c ob (a.keep c ob q n hc hx) (a.free c ob q n hx) hc hx
  slot := fun c ob q n hc hx => by
    obtain ⟨sl, e1⟩ := a.slot c ob q n hc hx
    obtain ⟨sl', e2⟩ := b.slot c _ e1 (a.free c ob q n hx) hc hx
    exact ⟨sl', e2⟩
  free := fun c ob q n hx => by
    obtain ⟨o', e1⟩ := a.there c ob q hx
    exact b.free c o' e1 (a.free c ob q n hx) hx
  there := fun c ob q hx => by
    obtain ⟨o', e1⟩ := a.there c ob q hx
    exact b.there c o' e1 hx
  tups := fun c xs q => b.tups c xs (a.tups c xs q)
  frzs := fun c ob xs q => b.frzs c ob xs (a.frzs c ob xs q)
  tbls := fun c ps q => by
    obtain ⟨m1, e1⟩ := a.tbls c ps q
    obtain ⟨m2, e2⟩ := b.tbls c _ e1
    exact ⟨m1 ++ m2, by rw [e2, Array.append_assoc]⟩
theorem Un.kept (k : ∀ b u, h.get? b = some u → h'.get? b = some u) : Un fs ex H H h h' :=
  ⟨fun b ob q _ _ _ => k b ob q, fun b ob q _ _ _ => ⟨ob.slots, k b ob q⟩, fun _ _ _ n _ => n, fun b ob q _ => ⟨ob, k b ob q⟩, fun _ _ q => q, fun _ _ _ q => q, fun _ ps q => ⟨#[], by rw [q]; simp⟩⟩
theorem Un.refl : Un fs ex H H h h := Un.kept fun _ _ q => q
theorem Un.laid (k : ∀ b u, h.get? b = some u → h'.get? b = some u) (hp : h.objs.size ≤ a) (hn : H a = none) : Un fs ex H (upd H a o) h h' where
  keep := fun b u q _ _ _ => k b u q
  slot := fun b u q _ _ _ => ⟨u.slots, k b u q⟩
  free := fun b u q n _ => by rw [upd_ne (Nat.ne_of_lt (Nat.lt_of_lt_of_le (Heap.lt_size q) hp))]; exact n
  there := fun b u q _ => ⟨u, k b u q⟩
  tups := fun b xs q => by rw [upd_ne (ne_of_none q hn)]; exact q
  frzs := fun b u xs q => by rw [upd_ne (ne_of_none q hn)]; exact q
  tbls := fun b ps q => ⟨#[], by rw [upd_ne (ne_of_none q hn), q]; simp⟩
theorem Un.write (mu : Mut (H x)) (he : e = x ∨ H e = some (.own x)) (k : ∀ b u, b ≠ e → h.get? b = some u → h'.get? b = some u) (heo : ∃ u, h'.get? e = some u) : Un fs ex H (upd H x o) h h' := by
  have hx : ∀ b, H b = none → b ≠ x := fun b n z => by subst z; rw [n] at mu; exact mu
  have hb : ∀ b, H b = none → b ≠ e := fun b n z => by
    subst z
    rcases he with r | r
    · exact hx b n r
    · rw [n] at r; cases r
  have hm : ∀ b u, H b = some u → ¬ Mut (some u) → b ≠ x := fun b u q nm z => by subst z; rw [q] at mu; exact nm mu
  refine ⟨fun b u q n _ _ => k b u (hb b n) q, fun b u q n _ _ => ⟨u.slots, k b u (hb b n) q⟩, fun b u q n _ => by rw [upd_ne (hx b n)]; exact n, fun b u q _ => ?_,
    fun b xs q => by rw [upd_ne (hm b _ q fun z => z)]; exact q, fun b u xs q => by rw [upd_ne (hm b _ q fun z => z)]; exact q, fun b ps q => ⟨#[], by rw [upd_ne (hm b _ q fun z => z), q]; simp⟩⟩
  by_cases hbe : b = e
  · subst hbe; exact heo
  · exact ⟨u, k b u hbe q⟩
theorem Un.mono (u : Un fs ex H H1 h h1) (hs : ∀ b ∈ fs, b ∈ fs') (hx : ∀ b ∈ ex, b ∈ ex') : Un fs' ex' H H1 h h1 :=
  ⟨fun b ob q n hb he => u.keep b ob q n (fun z => hb (hs b z)) fun z => he (hx b z), fun _ _ q n _ he => u.any q n fun z => he (hx _ z), fun b ob q n he => u.free b ob q n fun z => he (hx b z), fun b ob q he => u.there b ob q fun z => he (hx b z), u.tups, u.frzs, u.tbls⟩
end
noncomputable def trk (h : Heap) (H : Hp) : List Addr := (List.range h.objs.size).filter fun a => (H a).isSome
noncomputable def hidT (h : Heap) (H : Hp) : Heap := PySem.W.hideAll h (trk h H)
theorem hidT_size (h : Heap) (H : Hp) : (hidT h H).objs.size = h.objs.size := PySem.W.hideAll_size _ _
theorem hidT_get {h : Heap} {H : Hp} {b : Addr} {o : Obj} (e : h.get? b = some o) (n : H b = none) : (hidT h H).get? b = some o :=
  PySem.W.hideAll_get _ e fun hm => by
    have q : (H b).isSome = true := (List.mem_filter.mp hm).2
    rw [n] at q; simp at q
theorem of_hidT {h : Heap} {H : Hp} {b : Addr} {o : Obj} (e : (hidT h H).get? b = some o) : h.get? b = some o ∧ H b = none := by
  have e' : h.get? b = some o := PySem.W.of_hideAll (trk h H) e
  refine ⟨e', ?_⟩
  cases q : H b with
  | none => rfl
  | some x =>
    have hm : b ∈ trk h H := List.mem_filter.mpr ⟨List.mem_range.mpr (Heap.lt_size e'), by simp [q]⟩
    have z : (hidT h H).get? b = none := PySem.W.hideAll_none (trk h H) hm
    rw [z] at e; cases e
noncomputable def allNews (g h : Heap) (L : Addr) : List (Addr × Obj) := (List.range h.objs.size).filterMap fun a => if a = L ∨ (g.get? a).isSome = true then none else (h.get? a).map fun o => (a, o)
noncomputable def rest (g h : Heap) (L d : Addr) : List (Addr × Obj) := (allNews g h L).filter fun p => decide (p.1 ≠ d)
end L2
namespace L2
open PySem PySem.Spec PyProof.Rows
structure Mod (K : PySem.W.Frag) (mg : Str → Option Value) (base : Heap) : Prop where
  kin : K.In base
  glob : base.Ns mainGlobals mg
  blt : ∃ mb, base.Ns builtinsNs mb ∧ ∀ x : Str, x ≠ "__name__" → mb x = bootBuiltins x
  nolimit : base.NoLimit
structure Cx where
  prog : Program
  w : World
  K : PySem.W.Frag
  mg : Str → Option Value
  base : Heap
  A : Around
  N : List Str
  s₀ : Shared
  H₀ : Hp
  env : Env
  outer : List Env
  stack : List Env
  ex : List Addr
  fn : Str → Bool
  calm : Bool
  pn : List (Addr × Obj)
  xe : Value → Shared → Prop
noncomputable def frs (l : List Env) : List Addr := l.filterMap (·.frame)
noncomputable abbrev Cx.fs (X : Cx) : List Addr := frs X.outer
noncomputable def Vis (sc : Scope) (x : Str) : Prop := sc.names.lookup x = some .local ∨ sc.names.lookup x = some .cell ∨ sc.names.lookup x = some .free
noncomputable def Loc (sc : Scope) (x : Str) : Prop := sc.names.lookup x = some .local ∨ sc.names.lookup x = some .cell
noncomputable def Look (env : Env) (h : Heap) (m : Str → Option Value) (x : Str) (u : Value) : Prop :=
  (env.kindOf x = some .local ∧ m x = some u) ∨ ((env.kindOf x = some .cell ∨ env.kindOf x = some .free) ∧ ∃ c, env.cells.lookup x = some c ∧ h.IsCell c (some u))
structure Cx.Ok (X : Cx) : Prop where
  mod : Mod X.K X.mg X.base
  kind : X.env.scope.kind = .function
  glob : X.env.globals = mainGlobals
  blt : X.env.builtins = builtinsNs
  above : X.s₀.heap.objs.size ≤ X.env.locals
  inj : ∀ x y c, X.env.cells.lookup x = some c → X.env.cells.lookup y = some c → x = y
  has : ∀ x, (X.env.kindOf x = some .cell ∨ X.env.kindOf x = some .free) → ∃ c, X.env.cells.lookup x = some c
  cab : ∀ x c, X.fn x = true → X.env.cells.lookup x = some c → X.s₀.heap.objs.size ≤ c
  hd : X.calm = true → X.A.handled = none
  frames : X.A.frames = some X.stack
  stk : X.stack = X.outer ∨ (X.stack = X.env :: X.outer ∧ X.env.frame = some X.env.locals)
  exf : ∀ b ∈ X.ex, b ≠ X.env.locals ∧ ∀ x c, X.env.cells.lookup x = some c → c ≠ b
  bs : ∀ b o, X.base.get? b = some o → X.s₀.heap.get? b = some o ∧ X.H₀ b = none
  bsz : X.base.objs.size ≤ X.s₀.heap.objs.size
  noex : ∀ b o, X.base.get? b = some o → b ∉ X.ex
  exfs : ∀ b ∈ X.ex, b ∉ X.fs
  funs : X.s₀.heap.FunFrames X.base X.outer
  frf : ∀ b ∈ X.fs, X.H₀ b = none
structure Inv (X : Cx) (pins : List (Addr × Obj)) (σ : List (Option V)) (H : Hp) (s : Shared) : Prop where
  ok : X.Ok
  os : s.os = X.s₀.os
  bare : AllBare s.gens
  base : Un X.fs X.ex X.H₀ H X.s₀.heap s.heap
  loc : ∃ m, s.heap.Ns X.env.locals m ∧ ∀ (i : Nat) (x : Str) (v : V), X.N[i]? = some x → σ[i]? = some (some v) → Vis X.env.scope x → ∃ u, RelV v u ∧ Look X.env s.heap m x u
  cell : ∀ x c, X.env.cells.lookup x = some c → ∃ v, s.heap.IsCell c v
  free : H X.env.locals = none
  freeC : ∀ x c, X.env.cells.lookup x = some c → H c = none
  pin : ∀ p ∈ X.pn ++ pins, s.heap.get? p.1 = some p.2 ∧ H p.1 = none ∧ p.1 ≠ X.env.locals ∧ p.1 ∉ X.fs ∧ ∀ v, p.2.data ≠ .cell v
  hok : HOk X.prog X.w H s.heap
  len : σ.length = X.N.length
section
variable {X : Cx} {pins : List (Addr × Obj)} {σ : List (Option V)} {H H' : Hp} {s : Shared} {h' : Heap}
theorem Cx.Ok.nofr (ok : X.Ok) {b : Addr} {o : Obj} (e : X.base.get? b = some o) : b ∉ X.fs := fun hb => by
  have := (ok.funs.mem hb).1
  rw [e] at this; cases this
theorem Inv.bs (I : Inv X pins σ H s) : ∀ b o, X.base.get? b = some o → s.heap.get? b = some o ∧ H b = none := fun b o e =>
  ⟨I.base.keep b o (I.ok.bs b o e).1 (I.ok.bs b o e).2 (I.ok.nofr e) (I.ok.noex b o e), I.base.free b o (I.ok.bs b o e).1 (I.ok.bs b o e).2 (I.ok.noex b o e)⟩
theorem Inv.bk (I : Inv X pins σ H s) : ∀ b o, X.base.get? b = some o → s.heap.get? b = some o := fun b o e => (I.bs b o e).1
theorem Inv.mod (I : Inv X pins σ H s) : Mod X.K X.mg X.base := I.ok.mod
theorem Inv.kIn (I : Inv X pins σ H s) : X.K.In s.heap := I.ok.mod.kin.keeps I.bk
theorem Inv.nolimit (I : Inv X pins σ H s) : s.heap.NoLimit := I.ok.mod.nolimit.keeps I.bk
theorem Inv.fr (I : Inv X pins σ H s) : ∃ m, Fr X.base X.env.locals s.heap m :=
  let ⟨m, hn, _⟩ := I.loc
  ⟨m, hn, I.bk, Nat.le_trans I.ok.bsz I.ok.above⟩
theorem Inv.lt (I : Inv X pins σ H s) : X.env.locals < s.heap.objs.size := let ⟨_, hn, _⟩ := I.loc; hn.lt
theorem Inv.sz (I : Inv X pins σ H s) : X.s₀.heap.objs.size ≤ s.heap.objs.size := Nat.le_trans I.ok.above (Nat.le_of_lt I.lt)
theorem Inv.nofs (I : Inv X pins σ H s) {a : Addr} (h : s.heap.objs.size ≤ a) : a ∉ X.fs := fun hb => by
  obtain ⟨_, o, ho, _⟩ := I.ok.funs.mem hb
  exact absurd (Nat.lt_of_lt_of_le (Heap.lt_size ho) (Nat.le_trans I.sz h)) (Nat.lt_irrefl _)
theorem Inv.cne (I : Inv X pins σ H s) : ∀ x c, X.env.cells.lookup x = some c → c ≠ X.env.locals := fun x c e z => by
  obtain ⟨v, o, ho, hd⟩ := I.cell x c e
  obtain ⟨m, ⟨o', es, ep, ho', hd', _⟩, _⟩ := I.loc
  rw [z, ho'] at ho; cases ho; rw [hd'] at hd; cases hd
theorem Inv.funs (I : Inv X pins σ H s) : s.heap.FunFrames X.base X.outer := by
  have all : ∀ (l : List Env), (∀ b ∈ frs l, b ∈ X.fs) → X.s₀.heap.FunFrames X.base l → s.heap.FunFrames X.base l := by
    intro l
    induction l with
    | nil => intro _ _; trivial
    | cons env r ih =>
      intro hs hl
      obtain ⟨hk, ⟨L, o, hf, hn, ho, hd⟩, hr⟩ := hl
      have hL : L ∈ X.fs := hs L (by unfold frs; rw [List.filterMap_cons, hf]; exact List.mem_cons_self)
      obtain ⟨sl, e⟩ := I.base.slot L o ho (I.ok.frf L hL) hL fun z => I.ok.exfs L z hL
      exact ⟨hk, ⟨L, _, hf, hn, e, hd⟩, ih (fun b hb => hs b (by unfold frs; rw [List.filterMap_cons, hf]; exact List.mem_cons_of_mem _ hb)) hr⟩
  exact all X.outer (fun _ hb => hb) I.ok.funs
theorem Inv.stack (I : Inv X pins σ H s) : s.heap.FunFrames X.base X.stack := by
  rcases I.ok.stk with e | ⟨e, hf⟩
  · rw [e]; exact I.funs
  · rw [e]
    obtain ⟨m, hn, _⟩ := I.loc
    refine .cons (by rw [I.ok.kind]; decide) hf hn ?_ I.funs
    exact Heap.get?_none_of_le (Nat.le_trans I.ok.bsz I.ok.above)
theorem Inv.stkSub (I : Inv X pins σ H s) : ∀ b ∈ frs X.stack, b ∈ X.env.locals :: X.fs := fun b hb => by
  rcases I.ok.stk with e | ⟨e, hf⟩
  · rw [e] at hb; exact List.mem_cons_of_mem _ hb
  · rw [e] at hb
    unfold frs at hb
    rw [List.filterMap_cons, hf] at hb
    exact hb
theorem Inv.stkFree (I : Inv X pins σ H s) : ∀ b ∈ frs X.stack, H b = none := fun b hb => by
  rcases List.mem_cons.mp (I.stkSub b hb) with e | hb
  · rw [e]; exact I.free
  · obtain ⟨_, o, ho, _⟩ := I.ok.funs.mem hb
    exact I.base.free b o ho (I.ok.frf b hb) fun z => I.ok.exfs b z hb
theorem Inv.step {g' : Array GenState} {t' : Nat} {d' : Drawn} {ch : List Addr} (I : Inv X pins σ H s)
    (hch : ∀ b ∈ ch, (b ∈ X.ex ∨ X.s₀.heap.objs.size ≤ b) ∧ b ≠ X.env.locals ∧ (∀ x c, X.env.cells.lookup x = some c → c ≠ b) ∧ ∀ p ∈ X.pn ++ pins, p.1 ≠ b)
    (keep : ∀ b o, b ≠ X.env.locals → b ∉ X.fs → b ∉ ch → s.heap.get? b = some o → H b = none → h'.get? b = some o)
    (slot : ∀ b o, b ≠ X.env.locals → b ∈ X.fs → b ∉ ch → s.heap.get? b = some o → H b = none → ∃ sl, h'.get? b = some { o with slots := sl }) (free : ∀ b o, b ∉ ch → s.heap.get? b = some o → H b = none → H' b = none)
    (there : ∀ b o, b ∉ ch → s.heap.get? b = some o → ∃ o', h'.get? b = some o')
    (tups : ∀ b xs, H b = some (.tup xs) → H' b = some (.tup xs)) (frzs : ∀ b o u, H b = some (.frz o u) → H' b = some (.frz o u)) (tbls : ∀ b ps, H b = some (.tbl ps) → ∃ more, H' b = some (.tbl (ps ++ more)))
    (ns : ∀ m, s.heap.Ns X.env.locals m → h'.Ns X.env.locals m) (hok : HOk X.prog X.w H' h') (hg : AllBare g') :
    Inv X pins σ H' { s with heap := h', gens := g', drawn := d', toks := t' } := by
  have neL : ∀ b o, X.s₀.heap.get? b = some o → b ≠ X.env.locals := fun b o e => Nat.ne_of_lt (Nat.lt_of_lt_of_le (Heap.lt_size e) I.ok.above)
  have neC : ∀ b o, X.s₀.heap.get? b = some o → b ∉ X.ex → b ∉ ch := fun b o e hx hb => by
    rcases (hch b hb).1 with z | z
    · exact hx z
    · exact absurd (Nat.lt_of_lt_of_le (Heap.lt_size e) z) (Nat.lt_irrefl _)
  have cellK : ∀ x c, X.env.cells.lookup x = some c → ∀ v, s.heap.IsCell c v → h'.IsCell c v := fun x c e v ⟨o, ho, hd⟩ => by
    have nch : c ∉ ch := fun z => (hch c z).2.2.1 x c e rfl
    by_cases hc : c ∈ X.fs
    · obtain ⟨sl, q⟩ := slot c o (I.cne x c e) hc nch ho (I.freeC x c e)
      exact ⟨_, q, hd⟩
    · exact ⟨o, keep c o (I.cne x c e) hc nch ho (I.freeC x c e), hd⟩
  refine ⟨I.ok, I.os, hg, ⟨fun b o e n hb hx => ?_, fun b o e n hb hx => ?_, fun b o e n hx => ?_, fun b o e hx => ?_, fun b xs e => tups b xs (I.base.tups b xs e), fun b o xs e => frzs b o xs (I.base.frzs b o xs e), fun b ps e => ?_⟩, ?_, fun x c e => ?_, ?_, fun x c e => ?_, fun p hp => ?_, hok, I.len⟩
  · exact keep b o (neL b o e) hb (neC b o e hx) (I.base.keep b o e n hb hx) (I.base.free b o e n hx)
  · obtain ⟨sl, e1⟩ := I.base.slot b o e n hb hx
    obtain ⟨sl', e2⟩ := slot b _ (neL b o e) hb (neC b o e hx) e1 (I.base.free b o e n hx)
    exact ⟨sl', e2⟩
  · obtain ⟨o', e1⟩ := I.base.there b o e hx
    exact free b o' (neC b o e hx) e1 (I.base.free b o e n hx)
  · obtain ⟨o', e1⟩ := I.base.there b o e hx
    exact there b o' (neC b o e hx) e1
  · obtain ⟨m1, e1⟩ := I.base.tbls b ps e
    obtain ⟨m2, e2⟩ := tbls b _ e1
    exact ⟨m1 ++ m2, by rw [e2, Array.append_assoc]⟩
  · obtain ⟨m, hn, hl⟩ := I.loc
    refine ⟨m, ns m hn, fun i x v e1 e2 e3 => ?_⟩
    obtain ⟨u, r, l⟩ := hl i x v e1 e2 e3
    refine ⟨u, r, ?_⟩
    rcases l with l | ⟨k, c, e, z⟩
    · exact .inl l
    · exact .inr ⟨k, c, e, cellK x c e _ z⟩
  · obtain ⟨v, z⟩ := I.cell x c e
    exact ⟨v, cellK x c e v z⟩
  · obtain ⟨m, ⟨o, _, _, ho, _⟩, _⟩ := I.loc
    exact free _ o (fun z => (hch _ z).2.1 rfl) ho I.free
  · obtain ⟨v, o, ho, hd⟩ := I.cell x c e
    exact free c o (fun z => (hch c z).2.2.1 x c e rfl) ho (I.freeC x c e)
  · obtain ⟨e, n, ne, nf, d⟩ := I.pin p hp
    have nch : p.1 ∉ ch := fun z => (hch p.1 z).2.2.2 p hp rfl
    exact ⟨keep p.1 p.2 ne nf nch e n, free p.1 p.2 nch e n, ne, nf, d⟩
theorem Inv.un {t' : Nat} (I : Inv X pins σ H s) (u : Un X.fs [] H H' s.heap h') (hok : HOk X.prog X.w H' h') : Inv X pins σ H' { s with heap := h', toks := t' } := by
  obtain ⟨m, ⟨o, es, ep, ho, r⟩, _⟩ := id I.loc
  obtain ⟨sl, hL⟩ := u.any ho I.free (by simp)
  exact I.step (g' := s.gens) (d' := s.drawn) (ch := []) (fun _ z => nomatch z) (fun b o _ hb _ e n => u.keep b o e n hb (by simp)) (fun b o _ hb _ e n => u.slot b o e n hb (by simp)) (fun b o _ e n => u.free b o e n (by simp)) (fun b o _ e => u.there b o e (by simp)) u.tups u.frzs u.tbls (fun m' hm => by
    obtain ⟨o', es', ep', ho', r'⟩ := hm
    rw [ho] at ho'; cases ho'
    exact ⟨_, es', ep', hL, r'⟩) hok I.bare
theorem Inv.call {g' : Array GenState} {t' : Nat} {d' : Drawn} {ch : List Addr} (I : Inv X pins σ H s) (u : Un (frs X.stack) ch H H' s.heap h') (hok : HOk X.prog X.w H' h') (hg : AllBare g')
    (hch : ∀ b ∈ ch, (b ∈ X.ex ∨ X.s₀.heap.objs.size ≤ b) ∧ b ≠ X.env.locals ∧ (∀ x c, X.env.cells.lookup x = some c → c ≠ b) ∧ ∀ p ∈ X.pn ++ pins, p.1 ≠ b) :
    Inv X pins σ H' { s with heap := h', gens := g', drawn := d', toks := t' } := by
  obtain ⟨m, ⟨o, es, ep, ho, r⟩, _⟩ := id I.loc
  obtain ⟨sl, hL⟩ := u.any ho I.free fun z => (hch _ z).2.1 rfl
  exact I.step (ch := ch) hch (fun b o hL hb hc e n => u.keep b o e n (fun z => (List.mem_cons.mp (I.stkSub b z)).elim hL hb) hc) (fun b o _ _ hc e n => u.any e n hc) (fun b o hc e n => u.free b o e n hc) (fun b o hc e => u.there b o e hc) u.tups u.frzs u.tbls (fun m' hm => by
    obtain ⟨o', es', ep', ho', r'⟩ := hm
    rw [ho] at ho'; cases ho'
    exact ⟨_, es', ep', hL, r'⟩) hok hg
theorem Inv.turned {t' : Nat} {it : Addr} (I : Inv X pins σ H s) (k : ∀ b o, b ≠ it → s.heap.get? b = some o → h'.get? b = some o) (hn : H it = none) (hL : it ≠ X.env.locals)
    (h1 : it ∈ X.ex ∨ X.s₀.heap.objs.size ≤ it) (h2 : ∀ x c, X.env.cells.lookup x = some c → c ≠ it) (h3 : ∀ p ∈ X.pn ++ pins, p.1 ≠ it) : Inv X pins σ H { s with heap := h', toks := t' } := by
  have nit : ∀ b u, H b = some u → b ≠ it := fun b u e z => by rw [z, hn] at e; cases e
  refine I.step (g' := s.gens) (d' := s.drawn) (ch := [it]) (fun b hb => ?_) (fun b o _ _ hc e _ => k b o (fun z => hc (by simp [z])) e) (fun b o _ _ hc e _ => ⟨o.slots, k b o (fun z => hc (by simp [z])) e⟩) (fun _ _ _ _ n => n)
    (fun b o hc e => ⟨o, k b o (fun z => hc (by simp [z])) e⟩) (fun _ _ e => e) (fun _ _ _ e => e) (fun b ps e => ⟨#[], by rw [e]; simp⟩) (fun m hm => ?_) (fun b u e => ?_) I.bare
  · have e : b = it := by simpa using hb
    subst e
    exact ⟨h1, hL, h2, h3⟩
  · obtain ⟨o, es, ep, ho, r⟩ := hm
    exact ⟨o, es, ep, k _ o (Ne.symm hL) ho, r⟩
  · refine (I.hok b u e).stay (fun c v hc q => k c v ?_ q) (fun _ q => q) fun _ _ q => q
    rcases hc with z | z
    · rw [z]; exact nit b u e
    · exact nit c _ z
theorem Inv.tok (I : Inv X pins σ H s) (t : Nat) : Inv X pins σ H { s with toks := t } := I.un (h' := s.heap) (t' := t) Un.refl I.hok
theorem Inv.kept {t' : Nat} (I : Inv X pins σ H s) (k : ∀ b u, s.heap.get? b = some u → h'.get? b = some u) : Inv X pins σ H { s with heap := h', toks := t' } := I.un (Un.kept k) (I.hok.kept k)
theorem Inv.laid {a : Addr} {o : HO} {t' : Nat} (I : Inv X pins σ H s) (k : ∀ b u, s.heap.get? b = some u → h'.get? b = some u) (hp : s.heap.objs.size ≤ a) (new : ObjOk X.prog X.w (upd H a o) h' a o) :
    Inv X pins σ (upd H a o) { s with heap := h', toks := t' } := I.un (Un.laid k hp (I.hok.fresh hp)) (I.hok.laid k hp new)
theorem Inv.write {x e : Addr} {o : HO} {t' : Nat} (I : Inv X pins σ H s) (mu : Mut (H x)) (he : e = x ∨ H e = some (.own x)) (k : ∀ b u, b ≠ e → s.heap.get? b = some u → h'.get? b = some u) (heo : ∃ u, h'.get? e = some u)
    (new : ObjOk X.prog X.w (upd H x o) h' x o) : Inv X pins σ (upd H x o) { s with heap := h', toks := t' } := I.un (Un.write mu he k heo) (I.hok.write mu he k heo new)
theorem Inv.pins_of {pins' : List (Addr × Obj)} (I : Inv X pins σ H s) (h : ∀ p ∈ pins', s.heap.get? p.1 = some p.2 ∧ H p.1 = none ∧ p.1 ≠ X.env.locals ∧ p.1 ∉ X.fs ∧ ∀ v, p.2.data ≠ .cell v) : Inv X pins' σ H s :=
  ⟨I.ok, I.os, I.bare, I.base, I.loc, I.cell, I.free, I.freeC, fun p hp => (List.mem_append.mp hp).elim (fun z => I.pin p (List.mem_append_left _ z)) (h p), I.hok, I.len⟩
theorem nodup_ix {N : List Str} (hN : N.Nodup) {i j : Nat} {x : Str} (a : N[i]? = some x) (b : N[j]? = some x) : i = j := by
  obtain ⟨h1, e1⟩ := List.getElem?_eq_some_iff.mp a
  obtain ⟨h2, e2⟩ := List.getElem?_eq_some_iff.mp b
  exact (List.getElem_inj hN).mp (e1.trans e2.symm)
theorem store_ok2 {M : Model} {A : Around} {E : Value → Shared → Prop} {i : Nat} {x : Str} {v : V} {u : Value} {Q : Unit → Shared → Prop} (I : Inv X pins σ H s) (hN : X.N.Nodup) (hi : X.N[i]? = some x) (hx : Loc X.env.scope x) (r : RelV v u)
    (h : ∀ s', Inv X pins (σ.set i (some v)) H s' → (∃ a, Heap.SameBut a s.heap s'.heap ∧ (a = X.env.locals ∨ X.env.cells.lookup x = some a)) → Q () s') (hf : X.fn x = true ∨ X.env.scope.names.lookup x = some .local := by first | exact .inl rfl | exact .inr rfl | assumption) : wpAny M A (storeName X.env x u) Q E s := by
  obtain ⟨m, hn, hl⟩ := id I.loc
  have hcls : (X.env.scope.kind == .class || (X.env.scope.kind == .module && X.env.locals != X.env.globals)) = false := by rw [I.ok.kind]; rfl
  have hiσ : i < σ.length := by rw [I.len]; exact (List.getElem?_eq_some_iff.mp hi).1
  have cne := I.cne
  have tracked : ∀ {a : Addr} {h' : Heap}, (∃ o, s.heap.get? a = some o ∧ H a = none) → Heap.SameBut a s.heap h' → HOk X.prog X.w H h' := fun {a h'} ha hs b ob e => by
    obtain ⟨_, _, hfree⟩ := ha
    refine (I.hok b ob e).stay (fun c w' hc q => (hs.2 c ?_).trans q) (fun _ q => q) fun _ _ q => q
    rintro rfl
    rcases hc with rfl | hc
    · rw [hfree] at e; cases e
    · rw [hfree] at hc; cases hc
  rcases hx with hk | hk
  · refine wpAny_storeName_local hk hn (fun h' hn' hs => ?_) hcls
    obtain ⟨oL, _, _, hoL, _⟩ := id hn
    refine h _ ⟨I.ok, I.os, I.bare, ⟨fun b o e n hb hx => ?_, fun b o e n hb hx => ?_, I.base.free, fun b o e hx => ?_, I.base.tups, I.base.frzs, I.base.tbls⟩, ⟨_, hn', fun j y v' e1 e2 e3 => ?_⟩, fun y c e => ?_, I.free, I.freeC, fun p hp => ?_, tracked ⟨oL, hoL, I.free⟩ hs, by simpa using I.len⟩ ⟨_, hs, .inl rfl⟩
    · exact (hs.2 b (Nat.ne_of_lt (Nat.lt_of_lt_of_le (Heap.lt_size e) I.ok.above))).trans (I.base.keep b o e n hb hx)
    · obtain ⟨sl, e1⟩ := I.base.slot b o e n hb hx
      exact ⟨sl, (hs.2 b (Nat.ne_of_lt (Nat.lt_of_lt_of_le (Heap.lt_size e) I.ok.above))).trans e1⟩
    · obtain ⟨o', e1⟩ := I.base.there b o e hx
      exact ⟨o', (hs.2 b (Nat.ne_of_lt (Nat.lt_of_lt_of_le (Heap.lt_size e) I.ok.above))).trans e1⟩
    · by_cases hj : j = i
      · subst hj
        rw [hi] at e1; cases e1
        rw [List.getElem?_set_self hiσ] at e2
        cases e2
        exact ⟨u, r, .inl ⟨hk, by simp⟩⟩
      · rw [List.getElem?_set_ne (Ne.symm hj)] at e2
        obtain ⟨u', r', q⟩ := hl j y v' e1 e2 e3
        refine ⟨u', r', ?_⟩
        rcases q with ⟨k, e⟩ | ⟨k, c, e, z⟩
        · refine .inl ⟨k, ?_⟩
          have : y ≠ x := fun e => hj (nodup_ix hN e1 (e ▸ hi))
          simp [this, e]
        · exact .inr ⟨k, c, e, z.sameBut hs (cne y c e)⟩
    · obtain ⟨w', z⟩ := I.cell y c e
      exact ⟨w', z.sameBut hs (cne y c e)⟩
    · obtain ⟨e, n, ne, nf, d⟩ := I.pin p hp
      exact ⟨(hs.2 p.1 ne).trans e, n, ne, nf, d⟩
  · have hfn : X.fn x = true := by
      rcases hf with z | z
      · exact z
      · rw [z] at hk; cases hk
    obtain ⟨c, hc⟩ := I.ok.has x (.inl hk)
    obtain ⟨w', z⟩ := I.cell x c hc
    refine wpAny_storeName_cell I.ok.kind hk hc z (fun h' hc' hs => ?_)
    obtain ⟨oc, hoc, hocd⟩ := id z
    refine h { s with heap := h' } ⟨I.ok, I.os, I.bare, ⟨fun b o e n hb hx => ?_, fun b o e n hb hx => ?_, I.base.free, fun b o e hx => ?_, I.base.tups, I.base.frzs, I.base.tbls⟩, ⟨m, hn.sameBut hs (Ne.symm (cne x c hc)), fun j y v' e1 e2 e3 => ?_⟩, fun y c' e => ?_, I.free, I.freeC, fun p hp => ?_, tracked ⟨oc, hoc, I.freeC x c hc⟩ hs, by simpa using I.len⟩ ⟨c, hs, .inr hc⟩
    · exact (hs.2 b (Nat.ne_of_lt (Nat.lt_of_lt_of_le (Heap.lt_size e) (I.ok.cab x c hfn hc)))).trans (I.base.keep b o e n hb hx)
    · obtain ⟨sl, e1⟩ := I.base.slot b o e n hb hx
      exact ⟨sl, (hs.2 b (Nat.ne_of_lt (Nat.lt_of_lt_of_le (Heap.lt_size e) (I.ok.cab x c hfn hc)))).trans e1⟩
    · obtain ⟨o', e1⟩ := I.base.there b o e hx
      exact ⟨o', (hs.2 b (Nat.ne_of_lt (Nat.lt_of_lt_of_le (Heap.lt_size e) (I.ok.cab x c hfn hc)))).trans e1⟩
    · by_cases hj : j = i
      · subst hj
        rw [hi] at e1; cases e1
        rw [List.getElem?_set_self hiσ] at e2
        cases e2
        exact ⟨u, r, .inr ⟨.inl hk, c, hc, hc'⟩⟩
      · rw [List.getElem?_set_ne (Ne.symm hj)] at e2
        obtain ⟨u', r', q⟩ := hl j y v' e1 e2 e3
        refine ⟨u', r', ?_⟩
        rcases q with q | ⟨k, c', e, z'⟩
        · exact .inl q
        · refine .inr ⟨k, c', e, z'.sameBut hs ?_⟩
          rintro rfl
          exact hj (nodup_ix hN e1 (I.ok.inj _ _ _ e hc ▸ hi))
    · by_cases hcc : c' = c
      · subst hcc; exact ⟨_, hc'⟩
      · obtain ⟨w2, z2⟩ := I.cell y c' e
        exact ⟨w2, z2.sameBut hs hcc⟩
    · obtain ⟨e, n, ne, nf, d⟩ := I.pin p hp
      refine ⟨(hs.2 p.1 ?_).trans e, n, ne, nf, d⟩
      intro q
      rw [q, hoc] at e
      have q' : oc = p.2 := Option.some.inj e
      exact d w' (by rw [← q']; exact hocd)
theorem store_ok {M : Model} {A : Around} {E : Value → Shared → Prop} {i : Nat} {x : Str} {v : V} {u : Value} {Q : Unit → Shared → Prop} (I : Inv X pins σ H s) (hN : X.N.Nodup) (hi : X.N[i]? = some x) (hx : Loc X.env.scope x) (r : RelV v u)
    (h : ∀ s', Inv X pins (σ.set i (some v)) H s' → Q () s') (hf : X.fn x = true ∨ X.env.scope.names.lookup x = some .local := by first | exact .inl rfl | exact .inr rfl | assumption) : wpAny M A (storeName X.env x u) Q E s :=
  store_ok2 I hN hi hx r (fun s' I' _ => h s' I') hf
theorem Inv.call' {s' : Shared} {ch : List Addr} (I : Inv X pins σ H s) (ho : s'.os = s.os) (u : Un (frs X.stack) ch H H' s.heap s'.heap) (hok : HOk X.prog X.w H' s'.heap) (hg : AllBare s'.gens)
    (hch : ∀ b ∈ ch, (b ∈ X.ex ∨ X.s₀.heap.objs.size ≤ b) ∧ b ≠ X.env.locals ∧ (∀ x c, X.env.cells.lookup x = some c → c ≠ b) ∧ ∀ p ∈ X.pn ++ pins, p.1 ≠ b) : Inv X pins σ H' s' := by
  obtain ⟨h', g', d', t', o'⟩ := s'
  have e : o' = s.os := ho
  subst e
  exact I.call (g' := g') (t' := t') (d' := d') u hok hg hch
end
noncomputable abbrev XK := Value → Option Addr → Hp → Prop
noncomputable abbrev St := List (Option V)
noncomputable abbrev VK := V → Hp → Prop
noncomputable abbrev TE := St → Hp → VK → Prop
noncomputable abbrev TT := St → Hp → (Bool → Hp → Prop) → Prop
noncomputable abbrev TA := St → Hp → (List V → Hp → Prop) → Prop
structure Ends where
  nx : St → Hp → Prop
  rt : VK
  bk : St → Hp → Prop := fun _ _ => False
  ct : St → Hp → Prop := fun _ _ => False
noncomputable abbrev TS := Ends → St → Hp → Prop
noncomputable def EP (X : Cx) (pins : List (Addr × Obj)) (σ : St) (Q : VK) (u : Value) (s' : Shared) : Prop := ∃ v H', Inv X pins σ H' s' ∧ RelV v u ∧ Q v H'
noncomputable def TP (X : Cx) (pins : List (Addr × Obj)) (σ : St) (Q : Bool → Hp → Prop) (b : Bool) (s' : Shared) : Prop := ∃ H', Inv X pins σ H' s' ∧ Q b H'
noncomputable def AP (X : Cx) (pins : List (Addr × Obj)) (σ : St) (Q : List V → Hp → Prop) (us : List Value) (s' : Shared) : Prop := ∃ vs H', Inv X pins σ H' s' ∧ Vals vs us ∧ Q vs H'
noncomputable def SP (X : Cx) (pins : List (Addr × Obj)) (D : Ends) (f : Flow) (s' : Shared) : Prop :=
  match f with
  | .next => ∃ σ' H', Inv X pins σ' H' s' ∧ D.nx σ' H'
  | .brk => ∃ σ' H', Inv X pins σ' H' s' ∧ D.bk σ' H'
  | .cont => ∃ σ' H', Inv X pins σ' H' s' ∧ D.ct σ' H'
  | .ret u => ∃ v σ' H', Inv X pins σ' H' s' ∧ RelV v u ∧ D.rt v H'
noncomputable def PE (X : Cx) (e : Expr) (t : TE) : Prop :=
  ∀ (pins : List (Addr × Obj)) (s : Shared) (σ : St) (H : Hp) (Q : VK), Inv X pins σ H s → t σ H Q → wpAny (model X.prog X.w) X.A (eval e X.env) (EP X pins σ Q) X.xe s
noncomputable def PT (X : Cx) (e : Expr) (t : TT) : Prop :=
  ∀ (pins : List (Addr × Obj)) (s : Shared) (σ : St) (H : Hp) (Q : Bool → Hp → Prop), Inv X pins σ H s → t σ H Q → wpAny (model X.prog X.w) X.A (isTrue e X.env (eval e X.env)) (TP X pins σ Q) X.xe s
noncomputable def PW (X : Cx) (e : Expr) (t : TT) : Prop :=
  ∀ (whole : Sem Value) (pins : List (Addr × Obj)) (s : Shared) (σ : St) (H : Hp) (Q : Bool → Hp → Prop), Inv X pins σ H s → t σ H Q → wpAny (model X.prog X.w) X.A (isTrue e X.env whole) (TP X pins σ Q) X.xe s
theorem PW.pt {X : Cx} {e : Expr} {t : TT} (h : PW X e t) : PT X e t := h _
noncomputable def PA (X : Cx) (es : List Expr) (t : TA) : Prop :=
  ∀ (pos : Pos) (pins : List (Addr × Obj)) (s : Shared) (σ : St) (H : Hp) (Q : List V → Hp → Prop), Inv X pins σ H s → t σ H Q → wpAny (model X.prog X.w) X.A (spliced (backTo pos (starEach es X.env))) (AP X pins σ Q) X.xe s
noncomputable def PS (X : Cx) (st : Stmt) (t : TS) : Prop :=
  ∀ (pins : List (Addr × Obj)) (s : Shared) (σ : St) (H : Hp) (D : Ends), Inv X pins σ H s → t D σ H → wpAny (model X.prog X.w) X.A (exec st X.env) (SP X pins D) X.xe s
noncomputable def PSs (X : Cx) (st : List Stmt) (t : TS) : Prop :=
  ∀ (pins : List (Addr × Obj)) (s : Shared) (σ : St) (H : Hp) (D : Ends), Inv X pins σ H s → t D σ H → wpAny (model X.prog X.w) X.A (execs st X.env) (SP X pins D) X.xe s
theorem thn {α : Type} {t : Sem α} {Q Q' : α → Shared → Prop} {M : Model} {A : Around} {E : Value → Shared → Prop} {s : Shared} (h : wpAny M A t Q E s) (hQ : ∀ a s, Q a s → Q' a s) : wpAny M A t Q' E s := wpAny_mono h hQ fun _ _ x => x
end L2
namespace L2
open PySem PySem.Spec PyProof.Rows
section
variable {X : Cx}
theorem bin {a b : Expr} {ta tb : TE} (ha : PE X a ta) (hb : PE X b tb) {pins : List (Addr × Obj)} {s : Shared} {σ : St} {H : Hp} {R : V → V → Hp → Prop} (I : Inv X pins σ H s) (h : ta σ H fun x H1 => tb σ H1 fun y H2 => R x y H2)
    {α : Type} {Q : α → Shared → Prop} {f : Value → Value → Sem α}
    (hf : ∀ v u s2 x y H2, Inv X pins σ H2 s2 → RelV x v → RelV y u → R x y H2 → wpAny (model X.prog X.w) X.A (f v u) Q X.xe s2) :
    wpAny (model X.prog X.w) X.A (eval a X.env) (fun v s₁ => wpAny (model X.prog X.w) X.A (eval b X.env) (fun u s₂ => wpAny (model X.prog X.w) X.A (f v u) Q X.xe s₂) X.xe s₁) X.xe s := by
  refine thn (ha pins s σ H _ I h) fun v s1 ⟨x, H1, I1, r1, q1⟩ => ?_
  refine thn (hb pins s1 σ H1 _ I1 q1) fun u s2 ⟨y, H2, I2, r2, q2⟩ => ?_
  exact hf v u s2 x y H2 I2 r1 r2 q2
noncomputable def tVar (i : Nat) : TE := fun σ H Q => ∃ v, σ[i]? = some (some v) ∧ Q v H
noncomputable def tC (v : V) : TE := fun _ H Q => Q v H
theorem pe_var {i : Nat} {x : Str} {pos : Pos} (hN : X.N[i]? = some x) (hv : Vis X.env.scope x) (hd : (x == ("__debug__" : Str)) = false := by decide) (hcd : (x == ("__classdict__" : Str)) = false := by decide) : PE X (.Name x pos) (tVar i) := by
  intro pins s σ H Q I h
  obtain ⟨v, e, h⟩ := h
  obtain ⟨m, hn, hl⟩ := I.loc
  obtain ⟨u, r, l⟩ := hl i x v hN e hv
  have fin : EP X pins σ Q u s := ⟨v, H, I, r, h⟩
  rcases l with ⟨hk, hm⟩ | ⟨hk, c, hc, hcell⟩
  · exact wpAny_Name (wpAny_loadName_local I.ok.kind hk hn hm fin) hd
  · rcases hk with hk | hk
    · exact wpAny_Name (wpAny_loadName_cell I.ok.kind hk hc hcell fin) hd
    · exact wpAny_Name (wpAny_loadName_free I.ok.kind hk hc hcell fin hcd) hd
theorem pe_int {i j pos} : PE X (.Constant (.int i) j pos) (tC (.int i)) := fun _ _ _ H _ I h => wpAny_Constant_int ⟨.int i, H, I.tok _, ⟨_, rfl⟩, h⟩
theorem pe_bl {b j pos} : PE X (.Constant (.bool b) j pos) (tC (.bl b)) := fun _ _ _ H _ I h => Constant_bool ⟨.bl b, H, I, rfl, h⟩
theorem pe_non {j pos} : PE X (.Constant .none j pos) (tC .non) := fun _ _ _ H _ I h => Constant_none ⟨.non, H, I, rfl, h⟩
theorem pe_str {x j pos} : PE X (.Constant (.str x) j pos) (tC (.str x)) := fun _ _ _ H _ I h => Calls.Constant_str ⟨.str x, H, I.tok _, ⟨_, rfl⟩, h⟩
noncomputable def Gl (X : Cx) (x : Str) : Prop := X.env.kindOf x = some .globalImplicit
theorem ld_glob {E : Value → Shared → Prop} {pins : List (Addr × Obj)} {s : Shared} {σ : St} {H : Hp} {x : Str} {u : Value} {pos : Pos} {Q : Value → Shared → Prop} (I : Inv X pins σ H s) (hg : Gl X x) (hm : X.mg x = some u) (h : Q u s)
    (hd : (x == ("__debug__" : Str)) = false := by decide) : wpAny (model X.prog X.w) X.A (eval (.Name x pos) X.env) Q E s :=
  Calls.Name_function_global I.ok.kind hg (Calls.loadGlobal_global (by rw [I.ok.glob]; exact I.mod.glob.keeps I.bk) hm h) hd
theorem ld_blt {E : Value → Shared → Prop} {pins : List (Addr × Obj)} {s : Shared} {σ : St} {H : Hp} {x : Str} {u : Value} {pos : Pos} {Q : Value → Shared → Prop} (I : Inv X pins σ H s) (hg : Gl X x) (hm : X.mg x = none) (hv : bootBuiltins x = some u) (h : Q u s)
    (hn : x ≠ "__name__" := by decide) (hd : (x == ("__debug__" : Str)) = false := by decide) : wpAny (model X.prog X.w) X.A (eval (.Name x pos) X.env) Q E s := by
  obtain ⟨mb, h1, h2⟩ := I.mod.blt
  exact Calls.Name_function_global I.ok.kind hg (Calls.loadGlobal_builtin (by rw [I.ok.glob]; exact I.mod.glob.keeps I.bk) hm (by rw [I.ok.blt]; exact h1.keeps I.bk) ((h2 x hn).trans hv) h) hd
theorem pe_glob {x : Str} {v : V} {u : Value} {pos : Pos} (hg : Gl X x) (hm : X.mg x = some u) (r : RelV v u) (hd : (x == ("__debug__" : Str)) = false := by decide) : PE X (.Name x pos) (tC v) :=
  fun _ _ _ H _ I h => ld_glob I hg hm ⟨v, H, I, r, h⟩ hd
theorem pe_bltn {x : Str} {v : V} {u : Value} {pos : Pos} (hg : Gl X x) (hm : X.mg x = none) (hv : bootBuiltins x = some u) (r : RelV v u) (hn : x ≠ "__name__" := by decide) (hd : (x == ("__debug__" : Str)) = false := by decide) : PE X (.Name x pos) (tC v) :=
  fun _ _ _ H _ I h => ld_blt I hg hm hv ⟨v, H, I, r, h⟩ hn hd
variable {a b : Expr} {ta tb : TE} {pos : Pos}
variable {tA tB' : TT} {rest : List Expr}
noncomputable def tAnd (t u : TT) : TT := fun σ H Q => t σ H fun c H1 => if c = true then u σ H1 Q else Q false H1
noncomputable def tOr (t u : TT) : TT := fun σ H Q => t σ H fun c H1 => if c = true then Q true H1 else u σ H1 Q
noncomputable def tNot (t : TT) : TT := fun σ H Q => t σ H fun c H1 => Q (!c) H1
theorem pw_and1 (ha : PT X a tA) : PW X (.BoolOp .And [a] pos) tA := by
  intro wh pins s σ H Q I h
  refine isTrue_and (thn (ha pins s σ H Q I h) fun c s1 e => ?_)
  cases c with
  | true => exact isTrue_and_nil e
  | false => exact e
theorem pw_or1 (ha : PT X a tA) : PW X (.BoolOp .Or [a] pos) tA := by
  intro wh pins s σ H Q I h
  refine isTrue_or (thn (ha pins s σ H Q I h) fun c s1 e => ?_)
  cases c with
  | false => exact isTrue_or_nil e
  | true => exact e
theorem pw_and (ha : PT X a tA) (hb : PW X (.BoolOp .And (b :: rest) pos) tB') : PW X (.BoolOp .And (a :: b :: rest) pos) (tAnd tA tB') := by
  intro wh pins s σ H Q I h
  refine isTrue_and (thn (ha pins s σ H _ I h) fun c s1 ⟨H1, I1, q1⟩ => ?_)
  cases c with
  | true => exact hb wh pins s1 σ H1 Q I1 q1
  | false => exact ⟨H1, I1, q1⟩
theorem pw_or (ha : PT X a tA) (hb : PW X (.BoolOp .Or (b :: rest) pos) tB') : PW X (.BoolOp .Or (a :: b :: rest) pos) (tOr tA tB') := by
  intro wh pins s σ H Q I h
  refine isTrue_or (thn (ha pins s σ H _ I h) fun c s1 ⟨H1, I1, q1⟩ => ?_)
  cases c with
  | true => exact ⟨H1, I1, q1⟩
  | false => exact hb wh pins s1 σ H1 Q I1 q1
theorem pt_not (ha : PT X a tA) : PT X (.UnaryOp .Not a pos) (tNot tA) := by
  intro pins s σ H Q I h
  exact isTrue_not (ha pins s σ H (fun c H1 => Q (!c) H1) I h)
noncomputable def tAndV (ta tb : TE) : TE := fun σ H Q => ta σ H fun x H1 => ∃ c, x = .bl c ∧ if c = true then tb σ H1 Q else Q (.bl false) H1
noncomputable def tOrV (ta tb : TE) : TE := fun σ H Q => ta σ H fun x H1 => ∃ c, x = .bl c ∧ if c = true then Q (.bl true) H1 else tb σ H1 Q
noncomputable def tNotV (ta : TE) : TE := fun σ H Q => ta σ H fun x H1 => ∃ c, x = .bl c ∧ Q (.bl (!c)) H1
theorem pe_one {op} {t : TE} (h : PE X a t) : PE X (.BoolOp op [a] pos) t := fun pins s σ H Q I hw => BoolOp_one (h pins s σ H Q I hw)
theorem pe_and (ha : PE X a ta) (hb : PE X (.BoolOp .And (b :: rest) pos) tb) : PE X (.BoolOp .And (a :: b :: rest) pos) (tAndV ta tb) := by
  intro pins s σ H Q I h
  refine BoolOp_and (thn (ha pins s σ H _ I h) fun v s1 ⟨x, H1, I1, r1, q1⟩ => ?_)
  obtain ⟨c, rfl, q1⟩ := q1
  cases r1
  refine wpAny_truthy_bool ?_
  cases c with
  | true => exact hb pins s1 σ H1 Q I1 q1
  | false => exact ⟨.bl false, H1, I1, rfl, q1⟩
theorem pe_or (ha : PE X a ta) (hb : PE X (.BoolOp .Or (b :: rest) pos) tb) : PE X (.BoolOp .Or (a :: b :: rest) pos) (tOrV ta tb) := by
  intro pins s σ H Q I h
  refine BoolOp_or (thn (ha pins s σ H _ I h) fun v s1 ⟨x, H1, I1, r1, q1⟩ => ?_)
  obtain ⟨c, rfl, q1⟩ := q1
  cases r1
  refine wpAny_truthy_bool ?_
  cases c with
  | false => exact hb pins s1 σ H1 Q I1 q1
  | true => exact ⟨.bl true, H1, I1, rfl, q1⟩
theorem pe_not (ha : PE X a ta) : PE X (.UnaryOp .Not a pos) (tNotV ta) := by
  intro pins s σ H Q I h
  refine UnaryOp_ (thn (ha pins s σ H _ I h) fun v s1 ⟨x, H1, I1, r1, q1⟩ => ?_)
  obtain ⟨c, rfl, q1⟩ := q1
  cases r1
  exact not_of (wpAny_truthy_bool ⟨.bl (!c), H1, I1, rfl, q1⟩)
end
end L2
namespace L2
open PySem PySem.Spec PyProof.Rows
noncomputable def SqL (K : PySem.W.Frag) (H : Hp) (a : Addr) (xs : List V) : Prop :=
  Rd H a (.lst xs) ∨
    ∃ (o : Obj) (its : Array Value) (n : Nat), K.lookup a = some o ∧ o.cls = .type "list" ∧ o.dict = none ∧ o.data = .seq its n ∧ its.size ≤ sizeLine ∧ Vals xs its.toList
noncomputable def SqT (K : PySem.W.Frag) (H : Hp) (a : Addr) (xs : List V) : Prop :=
  Rd H a (.tup xs) ∨
    ∃ (o : Obj) (its : Array Value) (n : Nat), K.lookup a = some o ∧ o.cls = .type "tuple" ∧ o.data = .seq its n ∧ its.size ≤ sizeLine ∧ Vals xs its.toList
noncomputable def absV : Value → Option V
  | .none => some .non
  | .bool b => some (.bl b)
  | .int i _ => some (.int i)
  | .str x _ => some (.str x)
  | .bytes b _ => some (.byt b)
  | .float b _ => some (.flt b)
  | .ref a => some (.ref a)
  | .type n => some (.ty n)
  | _ => none
theorem RelV.abs {x : V} {u : Value} (r : RelV x u) : absV u = some x := by
  cases x with
  | non => cases r; rfl
  | bl _ => cases r; rfl
  | int _ => obtain ⟨t, rfl⟩ := r; rfl
  | str _ => obtain ⟨t, rfl⟩ := r; rfl
  | byt _ => obtain ⟨t, rfl⟩ := r; rfl
  | flt _ => obtain ⟨t, rfl⟩ := r; rfl
  | ref _ => cases r; rfl
  | ty _ => cases r; rfl
theorem RelV.inj {x y : V} {u : Value} (r : RelV x u) (q : RelV y u) : x = y := Option.some.inj (r.abs.symm.trans q.abs)
theorem Vals.inj : ∀ {xs ys : List V} {us : List Value}, Vals xs us → Vals ys us → xs = ys
  | _, _, _, .nil, .nil => rfl
  | _, _, _, .cons r t, .cons r' t' => by rw [r.inj r', Vals.inj t t']
section
variable {X : Cx} {pins : List (Addr × Obj)} {σ : St} {H : Hp} {s : Shared} {a : Addr} {xs ys : List V}
theorem SqL.of {K : PySem.W.Frag} (h : H a = some (.lst xs)) : SqL K H a xs := .inl (.inl h)
theorem SqT.of {K : PySem.W.Frag} (h : H a = some (.tup xs)) : SqT K H a xs := .inl (.inl h)
theorem Inv.list (I : Inv X pins σ H s) (h : SqL X.K H a xs) : ∃ its : List Value, Vals xs its ∧ PlainL s.heap a its.toArray ∧ xs.length ≤ sizeLine := by
  rcases h with h | ⟨o, its, n, hk, hc, hd, hs, hz, r⟩
  · obtain ⟨z, its, n, r, e⟩ := h.ok I.hok
    exact ⟨its, r, ⟨_, n, e, rfl, rfl, rfl⟩, z⟩
  · refine ⟨its.toList, r, ⟨o, n, I.kIn a o hk, hc, hd, by simpa using hs⟩, ?_⟩
    have e := r.length
    simp only [Array.length_toList] at e
    omega
theorem Inv.tuple (I : Inv X pins σ H s) (h : SqT X.K H a xs) : ∃ its : List Value, Vals xs its ∧ IsTup s.heap a its.toArray ∧ xs.length ≤ sizeLine := by
  rcases h with h | ⟨o, its, n, hk, hc, hs, hz, r⟩
  · obtain ⟨z, its, r, p⟩ := h.ok I.hok
    exact ⟨its, r, p, z⟩
  · refine ⟨its.toList, r, ⟨o, I.kIn a o hk, hc, n, by simpa using hs⟩, ?_⟩
    have e := r.length
    simp only [Array.length_toList] at e
    omega
theorem Inv.list_inj (I : Inv X pins σ H s) (h : SqL X.K H a xs) (h' : SqL X.K H a ys) : xs = ys := by
  obtain ⟨its, r, ⟨o, n, e, _, _, d⟩, _⟩ := I.list h
  obtain ⟨its', r', ⟨o', n', e', _, _, d'⟩, _⟩ := I.list h'
  rw [e] at e'; cases e'
  rw [d] at d'
  injection d' with d1 _
  have : its = its' := by simpa using congrArg Array.toList d1
  subst this
  exact r.inj r'
theorem Inv.tuple_inj (I : Inv X pins σ H s) (h : SqT X.K H a xs) (h' : SqT X.K H a ys) : xs = ys := by
  obtain ⟨its, r, ⟨o, e, _, n, d⟩, _⟩ := I.tuple h
  obtain ⟨its', r', ⟨o', e', _, n', d'⟩, _⟩ := I.tuple h'
  rw [e] at e'; cases e'
  rw [d] at d'
  injection d' with d1 _
  have : its = its' := by simpa using congrArg Array.toList d1
  subst this
  exact r.inj r'
end
noncomputable abbrev Cx.wish (X : Cx) (E : Value → Shared → Prop) : Cx := { X with xe := E }
noncomputable abbrev Cx.nox (X : Cx) : Cx := X.wish fun _ _ => False
theorem Cx.Ok.wish {X : Cx} (ok : X.Ok) (E : Value → Shared → Prop) : (X.wish E).Ok :=
  ⟨ok.mod, ok.kind, ok.glob, ok.blt, ok.above, ok.inj, ok.has, ok.cab, ok.hd, ok.frames, ok.stk, ok.exf, ok.bs, ok.bsz, ok.noex, ok.exfs, ok.funs, ok.frf⟩
theorem Cx.Ok.unwish {X : Cx} {E : Value → Shared → Prop} (ok : (X.wish E).Ok) : X.Ok :=
  ⟨ok.mod, ok.kind, ok.glob, ok.blt, ok.above, ok.inj, ok.has, ok.cab, ok.hd, ok.frames, ok.stk, ok.exf, ok.bs, ok.bsz, ok.noex, ok.exfs, ok.funs, ok.frf⟩
section
variable {X : Cx} {pins : List (Addr × Obj)} {σ : St} {H : Hp} {s : Shared} {E : Value → Shared → Prop}
theorem Inv.wish (I : Inv X pins σ H s) (E : Value → Shared → Prop) : Inv (X.wish E) pins σ H s := ⟨I.ok.wish E, I.os, I.bare, I.base, I.loc, I.cell, I.free, I.freeC, I.pin, I.hok, I.len⟩
theorem Inv.unwish (I : Inv (X.wish E) pins σ H s) : Inv X pins σ H s := ⟨I.ok.unwish, I.os, I.bare, I.base, I.loc, I.cell, I.free, I.freeC, I.pin, I.hok, I.len⟩
theorem SP.unwish {D : Ends} {f : Flow} {s' : Shared} (h : SP (X.wish E) pins D f s') : SP X pins D f s' := by
  cases f with
  | next => obtain ⟨σ', H', I, q⟩ := h; exact ⟨σ', H', I.unwish, q⟩
  | brk => obtain ⟨σ', H', I, q⟩ := h; exact ⟨σ', H', I.unwish, q⟩
  | cont => obtain ⟨σ', H', I, q⟩ := h; exact ⟨σ', H', I.unwish, q⟩
  | ret u => obtain ⟨v, σ', H', I, r, q⟩ := h; exact ⟨v, σ', H', I.unwish, r, q⟩
theorem PE.nox {e : Expr} {t : TE} (h : PE X.nox e t) : PE X e t := fun pins s σ H Q I hw =>
  wpAny_mono (h pins s σ H Q (I.wish _) hw) (fun _ _ ⟨v, H', I', r, q⟩ => ⟨v, H', I'.unwish, r, q⟩) fun _ _ z => False.elim z
theorem PT.nox {e : Expr} {t : TT} (h : PT X.nox e t) : PT X e t := fun pins s σ H Q I hw =>
  wpAny_mono (h pins s σ H Q (I.wish _) hw) (fun _ _ ⟨H', I', q⟩ => ⟨H', I'.unwish, q⟩) fun _ _ z => False.elim z
theorem PSs.nox {st : List Stmt} {t : TS} (h : PSs X.nox st t) : PSs X st t := fun pins s σ H D I hw =>
  wpAny_mono (h pins s σ H D (I.wish _) hw) (fun _ _ q => q.unwish) fun _ _ z => False.elim z
end
section
variable {X : Cx} {st : Stmt} {rest : List Stmt} {t u : TS} {e : Expr} {te : TE} {pos : Pos}
noncomputable def tNext : TS := fun D σ H => D.nx σ H
noncomputable def tSeq (t u : TS) : TS := fun D σ H => t { D with nx := u D } σ H
theorem pss_nil : PSs X [] tNext := fun _ _ σ H _ I h => wpAny_execs_nil ⟨σ, H, I, h⟩
theorem pss_cons (h1 : PS X st t) (h2 : PSs X rest u) : PSs X (st :: rest) (tSeq t u) := by
  intro pins s σ H D I h
  refine wpAny_execs_cons (thn (h1 pins s σ H { D with nx := u D } I h) fun f s1 q => ?_)
  cases f with
  | next =>
    obtain ⟨σ', H', I', q⟩ := q
    exact h2 pins s1 σ' H' D I' q
  | ret v => exact q
  | brk => exact q
  | cont => exact q
theorem pss_one (h1 : PS X st t) : PSs X [st] t := by
  intro pins s σ H D I h
  refine wpAny_execs_cons (thn (h1 pins s σ H D I h) fun f s1 q => ?_)
  cases f with
  | next => exact wpAny_execs_nil q
  | ret v => exact q
  | brk => exact q
  | cont => exact q
theorem ps_pass : PS X (.Pass pos) tNext := fun _ _ σ H _ I h => wpAny_Pass ⟨σ, H, I, h⟩
theorem Inv.quiet {pins : List (Addr × Obj)} {σ : St} {H : Hp} {s : Shared} (I : Inv X pins σ H s) : interactive X.env = false := by simp [interactive, I.ok.kind]
noncomputable def tDrop (te : TE) : TS := fun D σ H => te σ H fun _ H1 => D.nx σ H1
theorem ps_expr (he : PE X e te) (hs : swapsWith e none pos.line X.env = pure false := by rfl) : PS X (.Expr e pos) (tDrop te) := by
  intro pins s σ H D I h
  exact wpAny_Expr_any (thn (he pins s σ H _ I h) fun v s1 ⟨x, H1, I1, r1, q1⟩ => ⟨σ, H1, I1, q1⟩) I.quiet hs
noncomputable def tRet (te : TE) : TS := fun D σ H => te σ H D.rt
theorem ps_ret (he : PE X e te) : PS X (.Return (some e) pos) (tRet te) := by
  intro pins s σ H D I h
  exact wpAny_Return_some (thn (he pins s σ H _ I h) fun v s1 ⟨x, H1, I1, r1, q1⟩ => ⟨x, σ, H1, I1, r1, q1⟩)
noncomputable def tIfS (c : TT) (t u : TS) : TS := fun D σ H => c σ H fun b H1 => if b = true then t D σ H1 else u D σ H1
theorem ps_if {c : Expr} {a b : List Stmt} {tc : TT} (hc : PT X c tc) (ha : PSs X a t) (hb : PSs X b u) : PS X (.If c a b pos) (tIfS tc t u) := by
  intro pins s σ H D I h
  refine wpAny_If (thn (hc pins s σ H _ I h) fun d s1 ⟨H1, I1, q1⟩ => ?_)
  cases d with
  | true => exact ha pins s1 σ H1 D I1 q1
  | false => exact hb pins s1 σ H1 D I1 q1
noncomputable def tNever : TS := fun _ _ _ => False
theorem pss_never {sts : List Stmt} : PSs X sts tNever := fun _ _ _ _ _ _ h => h.elim
end
noncomputable abbrev TG := V → St → Hp → (St → Hp → Prop) → Prop
noncomputable abbrev TGs := List V → St → Hp → (St → Hp → Prop) → Prop
noncomputable def PG (X : Cx) (target : Expr) (t : TG) : Prop :=
  ∀ (pins : List (Addr × Obj)) (s : Shared) (σ : St) (H : Hp) (v : V) (u : Value) (Q : St → Hp → Prop), Inv X pins σ H s → RelV v u → t v σ H Q →
    wpAny (model X.prog X.w) X.A (assign target X.env u) (fun _ s' => ∃ σ' H', Inv X pins σ' H' s' ∧ Q σ' H') X.xe s
noncomputable def PGs (X : Cx) (ts : List Expr) (t : TGs) : Prop :=
  ∀ (pins : List (Addr × Obj)) (s : Shared) (σ : St) (H : Hp) (vs : List V) (us : List Value) (Q : St → Hp → Prop), Inv X pins σ H s → Vals vs us → t vs σ H Q →
    wpAny (model X.prog X.w) X.A (assignInOrder ((assignEach ts X.env).map (·.2)) us) (fun _ s' => ∃ σ' H', Inv X pins σ' H' s' ∧ Q σ' H') X.xe s
section
variable {X : Cx} {pos : Pos}
noncomputable def gName (i : Nat) : TG := fun v σ H Q => Q (σ.set i (some v)) H
theorem pg_name {i : Nat} {x : Str} (hN : X.N.Nodup) (hi : X.N[i]? = some x) (hx : Loc X.env.scope x) (hf : X.fn x = true ∨ X.env.scope.names.lookup x = some .local := by first | exact .inl rfl | exact .inr rfl | assumption) : PG X (.Name x pos) (gName i) := by
  intro pins s σ H v u Q I r h
  exact wpAny_assign_Name (store_ok I hN hi hx r (fun s' I' => ⟨_, H, I', h⟩) hf)
noncomputable def gNil : TGs := fun vs σ H Q => vs = [] ∧ Q σ H
noncomputable def gCons (t : TG) (u : TGs) : TGs := fun vs σ H Q => ∃ v r, vs = v :: r ∧ t v σ H fun σ' H' => u r σ' H' Q
theorem pgs_nil : PGs X [] gNil := by
  intro pins s σ H vs us Q I r h
  obtain ⟨e, h⟩ := h
  subst e
  cases r
  exact assignInOrder_nil ⟨σ, H, I, h⟩
theorem pgs_cons {e : Expr} {es : List Expr} {t : TG} {u : TGs} (h1 : PG X e t) (h2 : PGs X es u)
    (hs : (assignEach (e :: es) X.env).map (·.2) = assign e X.env :: (assignEach es X.env).map (·.2) := by rfl) : PGs X (e :: es) (gCons t u) := by
  intro pins s σ H vs us Q I r h
  obtain ⟨v, vr, e1, h⟩ := h
  subst e1
  cases r with
  | cons r rr =>
    rw [hs]
    refine assignInOrder_cons (thn (h1 pins s σ H _ _ _ I r h) fun _ s1 ⟨σ1, H1, I1, q1⟩ => ?_)
    exact h2 pins s1 σ1 H1 _ _ Q I1 rr q1
noncomputable def gTup (K : PySem.W.Frag) (n : Nat) (t : TGs) : TG := fun v σ H Q => ∃ a xs, v = .ref a ∧ SqT K H a xs ∧ xs.length = n ∧ t xs σ H Q
theorem pg_tup {es : List Expr} {k : Nat} {t : TGs} {n : Nat} (hc : X.calm = true) (h : PGs X es t)
    (hn : (assignEach es X.env).length = n := by rfl) (hst : (assignEach es X.env).findIdx? (·.1) = none := by rfl) : PG X (.Tuple es k pos) (gTup X.K n t) := by
  intro pins s σ H v u Q I r hw
  obtain ⟨a, xs, e1, hq, hl, hw⟩ := hw
  subst e1
  cases r
  obtain ⟨its, rv, ht, hz⟩ := I.tuple hq
  refine assign_Tuple_tuple (I.ok.hd hc) ht (by simp [hn, ← hl, rv.length]) hst fun h' hx => ?_
  have I1 : Inv X pins σ H { s with heap := h' } := I.kept (t' := s.toks) fun b o e => hx b o (Nat.ne_of_lt (Heap.lt_size e)) e
  exact h pins _ σ H xs _ Q I1 (by simpa using rv) hw
noncomputable def tAsg (te : TE) (g : TG) : TS := fun D σ H => te σ H fun x H1 => g x σ H1 D.nx
theorem ps_set {i : Nat} {x : Str} {e : Expr} {te : TE} {pos' : Pos} (hN : X.N.Nodup) (hi : X.N[i]? = some x) (hx : Loc X.env.scope x) (he : PE X e te) (hs : swapsWith e (some (.Name x pos')) pos.line X.env = pure false := by rfl) (hf : X.fn x = true ∨ X.env.scope.names.lookup x = some .local := by first | exact .inl rfl | exact .inr rfl | assumption) :
    PS X (.Assign [.Name x pos'] e pos) (tAsg te (gName i)) := by
  intro pins s σ H D I h
  refine wpAny_Assign_Name (thn (he pins s σ H _ I h) fun v s1 ⟨y, H1, I1, r1, q1⟩ => ?_) hs
  exact store_ok I1 hN hi hx r1 (fun s2 I2 => ⟨_, H1, I2, q1⟩) hf
end
section
variable {X : Cx} {pos : Pos}
end
structure It where
  go : Nat → Hp → Prop
  yld : Nat → Hp → V → Hp → Prop
  stop : Nat → Hp → Prop
noncomputable def FpOk (X : Cx) (pins : List (Addr × Obj)) (H : Hp) (b : Addr) : Prop :=
  H b = none ∧ b ≠ X.env.locals ∧ b ∉ X.fs ∧ (b ∈ X.ex ∨ X.s₀.heap.objs.size ≤ b) ∧ (∀ x c, X.env.cells.lookup x = some c → c ≠ b) ∧ ∀ p ∈ X.pn ++ pins, p.1 ≠ b
theorem Inv.fpOk {X : Cx} {pins : List (Addr × Obj)} {σ : St} {H H' : Hp} {s : Shared} {b : Addr} (I : Inv X pins σ H s) (hb : s.heap.objs.size ≤ b) (hn : H' b = none) : FpOk X pins H' b := by
  refine ⟨hn, Nat.ne_of_gt (Nat.lt_of_lt_of_le I.lt hb), I.nofs hb, .inr (Nat.le_trans I.sz hb), fun x c e z => ?_, fun p hp z => ?_⟩
  · obtain ⟨v, q⟩ := I.cell x c e
    exact absurd (Nat.lt_of_lt_of_le q.lt (by rw [z]; exact hb)) (Nat.lt_irrefl _)
  · exact absurd (Nat.lt_of_lt_of_le (Heap.lt_size (I.pin p hp).1) (by rw [z]; exact hb)) (Nat.lt_irrefl _)
structure Turn (P : Program) (w : World) (K : PySem.W.Frag) (tg : Expr) (J : It) (fp : List Addr) (it : Addr) (tn : Nat → Heap → Prop) : Prop where
  mem : it ∈ fp
  obj : ∀ i h, tn i h → ∀ b ∈ fp, ∃ o, h.get? b = some o ∧ ∀ v, o.data ≠ .cell v
  keep : ∀ i h h', tn i h → (∀ b ∈ fp, ∀ o, h.get? b = some o → h'.get? b = some o) → tn i h'
  item : ∀ (X : Cx), X.prog = P → X.w = w → X.K = K → X.calm = true → ∀ (i : Nat) (pins : List (Addr × Obj)) (s : Shared) (σ : St) (H : Hp) (E : Value → Shared → Prop), Inv X pins σ H s → (∀ b ∈ fp, FpOk X pins H b) → tn i s.heap → J.go i H →
    wpAny (model P w) X.A (pyNext (.ref it)) (fun r s1 => ∃ u, r = some u ∧
      wpAny (model P w) X.A (letOwnedTupleGo tg (.ref it) u) (fun _ s2 => ∃ x H', Inv X pins σ H' s2 ∧ RelV x u ∧ J.yld i H x H' ∧ tn (i + 1) s2.heap ∧ ∀ b ∈ fp, H' b = none) E s1) E s
  done : ∀ (X : Cx), X.prog = P → X.w = w → X.K = K → X.calm = true → ∀ (i : Nat) (pins : List (Addr × Obj)) (s : Shared) (σ : St) (H : Hp) (E : Value → Shared → Prop), Inv X pins σ H s → (∀ b ∈ fp, FpOk X pins H b) → tn i s.heap → J.stop i H →
    wpAny (model P w) X.A (pyNext (.ref it)) (fun r s1 => r = none ∧ Inv X pins σ H s1) E s
  self : ∀ (A : Around) (i : Nat) (s : Shared) (Q : Value → Shared → Prop) (E : Value → Shared → Prop), tn i s.heap → Q (.ref it) s → wpAny (model P w) A (pyIter (.ref it)) Q E s
noncomputable abbrev TI := St → Hp → (It → Hp → Prop) → Prop
noncomputable def PIE (X : Cx) (pins : List (Addr × Obj)) (σ : St) (tg : Expr) (R : It → Hp → Prop) (itv : Value) (s2 : Shared) : Prop :=
  ∃ (it : Addr) (fp : List Addr) (tn : Nat → Heap → Prop) (J : It) (H' : Hp), itv = .ref it ∧ Inv X pins σ H' s2 ∧ Turn X.prog X.w X.K tg J fp it tn ∧ tn 0 s2.heap ∧ (∀ b ∈ fp, FpOk X pins H' b) ∧ R J H'
noncomputable def PI (X : Cx) (tg iter : Expr) (wi : TI) : Prop :=
  ∀ (pins : List (Addr × Obj)) (s : Shared) (σ : St) (H : Hp) (R : It → Hp → Prop), Inv X pins σ H s → wi σ H R →
    wpAny (model X.prog X.w) X.A (eval iter X.env) (fun v s1 => wpAny (model X.prog X.w) X.A (pyIter v) (PIE X pins σ tg R) X.xe s1) X.xe s
theorem go_of {M : Model} {A : Around} {E : Value → Shared → Prop} {s : Shared} {tg : Expr} {it : Addr} {u : Value} {o : Obj} {n : String} {vs : Array Value} {Q : Unit → Shared → Prop} (ho : s.heap.get? it = some o) (hc : o.cls = .type n) (hd : o.data = .fields vs)
    (hn : ["enumerate", "zip", "dict_itemiterator", "dict_reverseitemiterator", "odict_iterator", "itertools.zip_longest", "itertools.pairwise"].contains n = false) (hQ : Q () s) : wpAny M A (letOwnedTupleGo tg (.ref it) u) Q E s := by
  unfold letOwnedTupleGo
  cases tg <;> first
    | exact wpAny_pure hQ
    | (cases u <;> first
        | exact wpAny_pure hQ
        | (refine wpAny_bind (wpAny_load ho ?_)
           rw [hc, hd]
           show wpAny M A (if (["enumerate", "zip", "dict_itemiterator", "dict_reverseitemiterator", "odict_iterator", "itertools.zip_longest", "itertools.pairwise"].contains n && vs[0]? == some (rawInt _)) = true then _ else _) Q E s
           rw [if_neg (by intro h; rw [hn, Bool.false_and] at h; cases h)]
           exact wpAny_pure hQ))
noncomputable def Itl (K : PySem.W.Frag) (a : Addr) : It :=
  ⟨fun i H => ∃ xs x, SqL K H a xs ∧ xs[i]? = some x, fun i H x H' => H' = H ∧ ∀ xs, SqL K H a xs → xs[i]? = some x, fun i H => ∃ xs, SqL K H a xs ∧ xs.length ≤ i⟩
noncomputable def Itt (K : PySem.W.Frag) (a : Addr) : It :=
  ⟨fun i H => ∃ xs x, SqT K H a xs ∧ xs[i]? = some x, fun i H x H' => H' = H ∧ ∀ xs, SqT K H a xs → xs[i]? = some x, fun i H => ∃ xs, SqT K H a xs ∧ xs.length ≤ i⟩
noncomputable def Itr (lo : Int) (n : Nat) : It := ⟨fun i _ => i < n, fun i H x H' => H' = H ∧ x = .int (lo + i), fun i _ => n ≤ i⟩
theorem turn_list {P : Program} {w : World} {K : PySem.W.Frag} {tg : Expr} (a it : Addr) : Turn P w K tg (Itl K a) [it] it (fun i h => h.IsListIter it a i) where
  mem := by simp
  obj := fun i h st b hb => by
    have e : b = it := by simpa using hb
    subst e
    obtain ⟨o, e, c, d⟩ := st
    exact ⟨o, e, fun v z => by rw [d] at z; cases z⟩
  keep := fun i h h' st k => st.at fun o e => k it (by simp) o e
  item := by
    intro X hP hw hK hc i pins s σ H E I hf st hg
    subst hP hw hK
    obtain ⟨xs, x, hq, hx⟩ := hg
    obtain ⟨its, rv, p, hz⟩ := I.list hq
    obtain ⟨u, hu, ru⟩ := rv.get hx
    obtain ⟨f0, f1, f2, f3, f4, f5⟩ := hf it (by simp)
    refine wpAny_pyNext_list_item st p.isList (x := u) (by simpa using hu) fun h' st' sb => ?_
    have I1 : Inv X pins σ H { s with heap := h' } := I.turned (t' := s.toks) (fun b o hb e => (sb.2 b hb).trans e) f0 f1 f3 f4 f5
    obtain ⟨o, e, c, d⟩ := id st'
    exact ⟨u, rfl, go_of (s := { s with heap := h' }) e c d (by decide) ⟨x, H, I1, ru, ⟨rfl, fun ys hy => by rw [I.list_inj hy hq]; exact hx⟩, st', fun b hb => (hf b hb).1⟩⟩
  done := by
    intro X hP hw hK hc i pins s σ H E I hf st hg
    subst hP hw hK
    obtain ⟨xs, hq, hx⟩ := hg
    obtain ⟨its, rv, p, hz⟩ := I.list hq
    obtain ⟨f0, f1, f2, f3, f4, f5⟩ := hf it (by simp)
    have hl := rv.length
    exact wpAny_pyNext_list_end (I.ok.hd hc) st p.isList (by simp; omega) fun h' eb => ⟨rfl, I.turned (t' := s.toks) (fun b o hb e => eb b o hb e) f0 f1 f3 f4 f5⟩
  self := fun _ _ _ _ _ st h => wpAny_pyIter_listiter st h
theorem turn_tuple {P : Program} {w : World} {K : PySem.W.Frag} {tg : Expr} (a it : Addr) : Turn P w K tg (Itt K a) [it] it (fun i h => h.IsTupleIter it a i) where
  mem := by simp
  obj := fun i h st b hb => by
    have e : b = it := by simpa using hb
    subst e
    obtain ⟨o, e, c, d⟩ := st
    exact ⟨o, e, fun v z => by rw [d] at z; cases z⟩
  keep := fun i h h' st k => st.at fun o e => k it (by simp) o e
  item := by
    intro X hP hw hK hc i pins s σ H E I hf st hg
    subst hP hw hK
    obtain ⟨xs, x, hq, hx⟩ := hg
    obtain ⟨its, rv, p, hz⟩ := I.tuple hq
    obtain ⟨u, hu, ru⟩ := rv.get hx
    obtain ⟨f0, f1, f2, f3, f4, f5⟩ := hf it (by simp)
    refine wpAny_pyNext_tuple_item st (show s.heap.IsTuple a its.toArray from p) (x := u) (by simpa using hu) fun h' st' sb => ?_
    have I1 : Inv X pins σ H { s with heap := h' } := I.turned (t' := s.toks) (fun b o hb e => (sb.2 b hb).trans e) f0 f1 f3 f4 f5
    obtain ⟨o, e, c, d⟩ := id st'
    exact ⟨u, rfl, go_of (s := { s with heap := h' }) e c d (by decide) ⟨x, H, I1, ru, ⟨rfl, fun ys hy => by rw [I.tuple_inj hy hq]; exact hx⟩, st', fun b hb => (hf b hb).1⟩⟩
  done := by
    intro X hP hw hK hc i pins s σ H E I hf st hg
    subst hP hw hK
    obtain ⟨xs, hq, hx⟩ := hg
    obtain ⟨its, rv, p, hz⟩ := I.tuple hq
    obtain ⟨f0, f1, f2, f3, f4, f5⟩ := hf it (by simp)
    have hl := rv.length
    exact wpAny_pyNext_tuple_end (I.ok.hd hc) st (show s.heap.IsTuple a its.toArray from p) (by simp; omega) fun h' eb => ⟨rfl, I.turned (t' := s.toks) (fun b o hb e => eb b o hb e) f0 f1 f3 f4 f5⟩
  self := fun _ _ _ _ _ st h => wpAny_pyIter_tupleiter st h
theorem turn_range {P : Program} {w : World} {K : PySem.W.Frag} {tg : Expr} (it : Addr) (lo : Int) (n : Nat) : Turn P w K tg (Itr lo n) [it] it (fun i h => IsRangeIter h it (lo + (i : Nat) * 1) ((n : Int) - (i : Nat)) 1) where
  mem := by simp
  obj := fun i h st b hb => by
    have e : b = it := by simpa using hb
    subst e
    exact ⟨_, st, fun v z => by
      have z' : Data.fields _ = Data.cell v := z
      cases z'⟩
  keep := fun i h h' st k => k it (by simp) _ st
  item := by
    intro X hP hw hK hc i pins s σ H E I hf st hg
    subst hP hw hK
    obtain ⟨f0, f1, f2, f3, f4, f5⟩ := hf it (by simp)
    have W := Walks.range (prog := X.prog) (w := X.w) (I.ok.hd hc) it lo 1 n
    refine W.item i s _ _ hg st fun v h' tk hv st' kk => ?_
    obtain ⟨t, rfl⟩ := hv
    have I1 : Inv X pins σ H { s with heap := h', toks := tk } := I.turned (fun b o hb e => kk b o (by simpa using hb) e) f0 f1 f3 f4 f5
    refine ⟨_, rfl, go_of (s := { s with heap := h', toks := tk }) (n := "range_iterator") st' rfl rfl (by decide) ⟨.int (lo + i), H, I1, ⟨t, ?_⟩, ⟨rfl, rfl⟩, st', fun b hb => (hf b hb).1⟩⟩
    rw [Int.mul_one]
  done := by
    intro X hP hw hK hc i pins s σ H E I hf st hg
    subst hP hw hK
    obtain ⟨f0, f1, f2, f3, f4, f5⟩ := hf it (by simp)
    exact wpAny_pyNext_range_end (I.ok.hd hc) st (by have : n ≤ i := hg; omega) fun h' eb => ⟨rfl, I.turned (t' := s.toks) (fun b o hb e => eb b o hb e) f0 f1 f3 f4 f5⟩
  self := fun _ _ _ _ _ st h => wpAny_pyIter_rangeiter st h
end L2
namespace L2
open PySem PySem.Spec PyProof.Rows
section
variable {X : Cx} {tg : Expr}
noncomputable def iList (K : PySem.W.Frag) (tl : TE) : TI := fun σ H R => tl σ H fun x H1 => ∃ a, x = .ref a ∧ (∃ xs, SqL K H1 a xs) ∧ R (Itl K a) H1
noncomputable def iTup (K : PySem.W.Frag) (tl : TE) : TI := fun σ H R => tl σ H fun x H1 => ∃ a, x = .ref a ∧ (∃ xs, SqT K H1 a xs) ∧ R (Itt K a) H1
theorem pi_list {l : Expr} {tl : TE} (hl : PE X l tl) : PI X tg l (iList X.K tl) := by
  intro pins s σ H R I h
  refine thn (hl pins s σ H _ I h) fun v s1 ⟨x, H1, I1, r1, q1⟩ => ?_
  obtain ⟨a, e, ⟨xs, hq⟩, q⟩ := q1
  subst e
  cases r1
  obtain ⟨its, rv, p, hz⟩ := I1.list hq
  refine wpAny_pyIter_list p.isList ?_
  refine ⟨s1.heap.objs.size, [s1.heap.objs.size], _, _, H1, rfl, I1.kept (t' := s1.toks) fun b o e => Heap.get?_push_of_some _ e, turn_list a _, ⟨_, Heap.get?_push_size _ rfl, rfl, rfl⟩, fun b hb => ?_, q⟩
  have e : b = s1.heap.objs.size := by simpa using hb
  subst e
  exact I1.fpOk (Nat.le_refl _) (I1.hok.fresh (Nat.le_refl _))
theorem pi_tup {l : Expr} {tl : TE} (hl : PE X l tl) : PI X tg l (iTup X.K tl) := by
  intro pins s σ H R I h
  refine thn (hl pins s σ H _ I h) fun v s1 ⟨x, H1, I1, r1, q1⟩ => ?_
  obtain ⟨a, e, ⟨xs, hq⟩, q⟩ := q1
  subst e
  cases r1
  obtain ⟨its, rv, p, hz⟩ := I1.tuple hq
  refine wpAny_pyIter_tuple (show s1.heap.IsTuple a its.toArray from p) ?_
  refine ⟨s1.heap.objs.size, [s1.heap.objs.size], _, _, H1, rfl, I1.kept (t' := s1.toks) fun b o e => Heap.get?_push_of_some _ e, turn_tuple a _, ⟨_, Heap.get?_push_size _ rfl, rfl, rfl⟩, fun b hb => ?_, q⟩
  have e : b = s1.heap.objs.size := by simpa using hb
  subst e
  exact I1.fpOk (Nat.le_refl _) (I1.hok.fresh (Nat.le_refl _))
theorem range_it {pins : List (Addr × Obj)} {σ : St} {H : Hp} {s : Shared} {R : It → Hp → Prop} {E : Value → Shared → Prop} {lo hi : Int} {t u v : Tok} {tk : Nat} (I : Inv X pins σ H s) (h1 : -(2 ^ 62) ≤ lo) (h2 : lo < 2 ^ 62) (h3 : -(2 ^ 62) ≤ hi) (h4 : hi < 2 ^ 62)
    (q : R (Itr lo (hi - lo).toNat) H) : wpAny (model X.prog X.w) X.A (pyIter (.ref s.heap.objs.size)) (PIE X pins σ tg R) E { s with heap := s.heap.push { cls := .type "range", data := .fields #[.int lo t, .int hi u, .int 1 v] }, toks := tk } := by
  refine wpAny_pyIter_range (IsRange.new ..) (small_one h1 h2 h3 h4) ?_
  have I1 : Inv X pins σ H { s with heap := s.heap.push { cls := .type "range", data := .fields #[.int lo t, .int hi u, .int 1 v] }, toks := tk } := I.kept fun b o e => Heap.get?_push_of_some _ e
  refine ⟨(s.heap.push { cls := .type "range", data := .fields #[.int lo t, .int hi u, .int 1 v] }).objs.size, [(s.heap.push { cls := .type "range", data := .fields #[.int lo t, .int hi u, .int 1 v] }).objs.size], _, _, H, rfl,
    I1.kept (t' := tk) fun b o e => Heap.get?_push_of_some _ e, turn_range _ lo (hi - lo).toNat, ?_, fun b hb => ?_, q⟩
  · have e1 : lo + ((0 : Nat) : Int) * 1 = lo := by simp
    have e2 : (((hi - lo).toNat : Nat) : Int) - ((0 : Nat) : Int) = Builtin.Range.rangeSize lo hi 1 := by rw [rangeSize_one]; split <;> omega
    show IsRangeIter _ _ (lo + ((0 : Nat) : Int) * 1) ((((hi - lo).toNat : Nat) : Int) - ((0 : Nat) : Int)) 1
    rw [e1, e2]
    exact Heap.get?_push_size _ rfl
  · have e : b = (s.heap.push { cls := .type "range", data := .fields #[.int lo t, .int hi u, .int 1 v] }).objs.size := by simpa using hb
    subst e
    exact I1.fpOk (Nat.le_refl _) (I1.hok.fresh (Nat.le_refl _))
noncomputable def iRng1 (ta : TA) : TI := fun σ H R => ta σ H fun vs H1 => ∃ j : Int, vs = [.int j] ∧ -(2 ^ 62) ≤ j ∧ j < 2 ^ 62 ∧ R (Itr 0 j.toNat) H1
noncomputable def iRng2 (ta : TA) : TI := fun σ H R => ta σ H fun vs H1 => ∃ i j : Int, vs = [.int i, .int j] ∧ (-(2 ^ 62) ≤ i ∧ i < 2 ^ 62 ∧ -(2 ^ 62) ≤ j ∧ j < 2 ^ 62) ∧ R (Itr i (j - i).toNat) H1
theorem pi_range1 {a : Expr} {ta : TA} {p pos : Pos} (hg : Gl X "range") (hm : X.mg "range" = none) (ha : PA X [a] ta) (hs : starEach [a] X.env = [(false, eval a X.env)] := by rfl) : PI X tg (.Call (.Name "range" p) [a] [] pos) (iRng1 ta) := by
  intro pins s σ H R I h
  refine Call_ (ld_blt I hg hm boot_range (PyProof.Rows.callWith_type1 (thn (ha pos pins s σ H _ I h) fun us s1 ⟨vs, H1, I1, r1, q1⟩ => ?_) hs rfl))
  obtain ⟨j, e, q1, q2, q⟩ := q1
  subst e
  cases r1 with
  | cons r rr =>
    cases rr
    obtain ⟨t, rfl⟩ := r
    exact call_range_1 (range_it I1 (by omega) (by omega) q1 q2 (by simpa using q))
theorem pi_range2 {a b : Expr} {ta : TA} {p pos : Pos} (hg : Gl X "range") (hm : X.mg "range" = none) (ha : PA X [a, b] ta) (hs : starEach [a, b] X.env = [(false, eval a X.env), (false, eval b X.env)] := by rfl) (hs2 : starEach [b] X.env = [(false, eval b X.env)] := by rfl) :
    PI X tg (.Call (.Name "range" p) [a, b] [] pos) (iRng2 ta) := by
  intro pins s σ H R I h
  refine Call_ (ld_blt I hg hm boot_range (PyProof.Rows.callWith_type1 (thn (ha pos pins s σ H _ I h) fun us s1 ⟨vs, H1, I1, r1, q1⟩ => ?_) (by rw [hs, hs2]) (by rw [hs2]; rfl)))
  obtain ⟨i, j, e, ⟨q1, q2, q3, q4⟩, q⟩ := q1
  subst e
  cases r1 with
  | cons r rr =>
    cases rr with
    | cons r' rr =>
      cases rr
      obtain ⟨t, rfl⟩ := r
      obtain ⟨t', rfl⟩ := r'
      exact call_range_2 (range_it I1 q1 q2 q3 q4 q)
noncomputable def tFor (wi : TI) (g : TG) (tb : TS) : TS := fun D σ H => wi σ H fun J H1 => ∃ W : Nat → Nat → St → Hp → Prop, (∃ m, W 0 m σ H1) ∧ ∀ i m σ H, W i m σ H →
  (J.stop i H ∧ D.nx σ H) ∨ (J.go i H ∧ ∃ N : St → Hp → Prop, (∀ σ' H', N σ' H' → ∃ m', m' < m ∧ W (i + 1) m' σ' H') ∧ ∀ x H', J.yld i H x H' → g x σ H' fun σ2 H2 => tb { D with nx := N, ct := N, bk := D.nx } σ2 H2)
noncomputable def pinsAt (fp : List Addr) (h : Heap) : List (Addr × Obj) := fp.filterMap fun b => (h.get? b).map fun o => (b, o)
theorem mem_pinsAt {fp : List Addr} {h : Heap} {b : Addr} {o : Obj} (hb : b ∈ fp) (e : h.get? b = some o) : (b, o) ∈ pinsAt fp h := List.mem_filterMap.mpr ⟨b, hb, by rw [e]; rfl⟩
theorem of_pinsAt {fp : List Addr} {h : Heap} {p : Addr × Obj} (hp : p ∈ pinsAt fp h) : p.1 ∈ fp ∧ h.get? p.1 = some p.2 := by
  obtain ⟨b, hb, e⟩ := List.mem_filterMap.mp hp
  cases q : h.get? b with
  | none => rw [q] at e; cases e
  | some o =>
    rw [q] at e
    have e' : (b, o) = p := Option.some.inj e
    subst e'
    exact ⟨hb, q⟩
theorem Inv.pinned {pins : List (Addr × Obj)} {σ : St} {H : Hp} {s : Shared} {fp : List Addr} (I : Inv X pins σ H s) (hf : ∀ b ∈ fp, FpOk X pins H b) (ho : ∀ b ∈ fp, ∃ o, s.heap.get? b = some o ∧ ∀ v, o.data ≠ .cell v) : Inv X (pins ++ pinsAt fp s.heap) σ H s :=
  I.pins_of fun p hp => (List.mem_append.mp hp).elim (fun z => I.pin p (List.mem_append_right _ z)) fun z => by
    obtain ⟨hb, e⟩ := of_pinsAt z
    obtain ⟨f0, f1, f2, _⟩ := hf p.1 hb
    obtain ⟨o, e', d⟩ := ho p.1 hb
    rw [e] at e'; cases e'
    exact ⟨e, f0, f1, f2, d⟩
theorem Inv.unpinned {pins pl : List (Addr × Obj)} {σ : St} {H : Hp} {s : Shared} (I : Inv X (pins ++ pl) σ H s) : Inv X pins σ H s := I.pins_of fun p hp => I.pin p (List.mem_append_right _ (List.mem_append_left _ hp))
theorem ps_for {iter : Expr} {body : List Stmt} {wi : TI} {g : TG} {tb : TS} {pos : Pos} (hp : PassesOwn (model X.prog X.w) X.A X.env X.xe) (hc : X.calm = true) (hi : PI X tg iter wi) (hg : PG X tg g) (hb : PSs X body tb)
    (hs : ∀ x, foldedSetIterable iter X.env x = pure x := by intro _; rfl) : PS X (.For tg iter body [] pos) (tFor wi g tb) := by
  intro pins s σ H D I h
  refine wpAny_For (thn (hi pins s σ H _ I h) fun v s1 h1 => thn h1 fun itv s2 h2 => ?_) hs
  obtain ⟨it, fp, tn, J, H2, e, I2, T, st2, f2, W, ⟨m0, w0⟩, turn⟩ := h2
  subst e
  have stat : ∀ {H' : Hp}, (∀ b ∈ fp, H' b = none) → ∀ b ∈ fp, FpOk X pins H' b := fun hn b hb => ⟨hn b hb, (f2 b hb).2⟩
  refine codeAny_forLoop_any (fun n s' => ∃ i σ' H', Inv X pins σ' H' s' ∧ tn i s'.heap ∧ (∀ b ∈ fp, H' b = none) ∧ W i n σ' H') ?_ m0 ⟨0, σ, H2, I2, st2, fun b hb => (f2 b hb).1, w0⟩
  rintro n s3 ⟨i, σ3, H3, I3, st3, fr3, w3⟩
  rcases turn i n σ3 H3 w3 with ⟨stop, qn⟩ | ⟨go, N, hN, step⟩
  · refine wpAny_passesOwn hp (thn (T.done X rfl rfl rfl hc i pins s3 σ3 H3 X.xe I3 (stat fr3) st3 stop) fun r s4 ⟨hr, I4⟩ => ?_)
    subst hr
    exact wpAny_execs_nil ⟨σ3, H3, I4, qn⟩
  · refine wpAny_passesOwn hp (thn (T.item X rfl rfl rfl hc i pins s3 σ3 H3 X.xe I3 (stat fr3) st3 go) fun r s4 ⟨u, hr, h4⟩ => ?_)
    subst hr
    refine wpAny_passesOwn hp (thn h4 fun _ s5 ⟨x, H5, I5, r5, y5, st5, fr5⟩ => ?_)
    have I5' := I5.pinned (stat fr5) (T.obj _ _ st5)
    refine wpAny_passesOwn hp (thn (hg _ s5 σ3 H5 x u _ I5' r5 (step x H5 y5)) fun _ s6 ⟨σ6, H6, I6, q6⟩ => ?_)
    refine wpAny_passesOwn hp (thn (hb _ s6 σ6 H6 _ I6 q6) fun f s7 q7 => ?_)
    have again : ∀ {σ7 : St} {H7 : Hp}, Inv X (pins ++ pinsAt fp s5.heap) σ7 H7 s7 → N σ7 H7 → ∃ m, m < n ∧ ∃ i σ' H', Inv X pins σ' H' s7 ∧ tn i s7.heap ∧ (∀ b ∈ fp, H' b = none) ∧ W i m σ' H' := fun {σ7 H7} I7 n7 => by
      obtain ⟨m', hm, w7⟩ := hN σ7 H7 n7
      refine ⟨m', hm, i + 1, σ7, H7, I7.unpinned, T.keep _ _ _ st5 fun b hb o e => (I7.pin (b, o) (List.mem_append_right _ (List.mem_append_right _ (mem_pinsAt hb e)))).1, fun b hb => ?_, w7⟩
      obtain ⟨o, e, d⟩ := T.obj _ _ st5 b hb
      exact (I7.pin (b, o) (List.mem_append_right _ (List.mem_append_right _ (mem_pinsAt hb e)))).2.1
    cases f with
    | next => obtain ⟨σ7, H7, I7, n7⟩ := q7; exact again I7 n7
    | cont => obtain ⟨σ7, H7, I7, n7⟩ := q7; exact again I7 n7
    | brk => obtain ⟨σ7, H7, I7, q7⟩ := q7; exact ⟨σ7, H7, I7.unpinned, q7⟩
    | ret v => obtain ⟨x7, σ7, H7, I7, r7, q7⟩ := q7; exact ⟨x7, σ7, H7, I7.unpinned, r7, q7⟩
end
end L2
namespace L2
open PySem PySem.Spec PyProof.Rows
noncomputable abbrev R2 := V → V → Hp → VK → Prop
noncomputable def OpR (X : Cx) (f : Value → Value → Sem Value) (r : R2) : Prop :=
  ∀ (pins : List (Addr × Obj)) (s : Shared) (σ : St) (H : Hp) (x y : V) (v u : Value) (Q : VK), Inv X pins σ H s → RelV x v → RelV y u → r x y H Q →
    wpAny (model X.prog X.w) X.A (f v u) (EP X pins σ Q) X.xe s
noncomputable def CallR (X : Cx) (f : Value) (r : List V → Hp → VK → Prop) : Prop :=
  ∀ (pins : List (Addr × Obj)) (s : Shared) (σ : St) (H : Hp) (xs : List V) (us : List Value) (Q : VK), Inv X pins σ H s → Vals xs us → r xs H Q →
    wpAny (model X.prog X.w) X.A (call f us) (EP X pins σ Q) X.xe s
noncomputable def TruR (X : Cx) (r : V → Hp → (Bool → Hp → Prop) → Prop) : Prop :=
  ∀ (pins : List (Addr × Obj)) (s : Shared) (σ : St) (H : Hp) (x : V) (v : Value) (Q : Bool → Hp → Prop), Inv X pins σ H s → RelV x v → r x H Q →
    wpAny (model X.prog X.w) X.A (truthy v) (TP X pins σ Q) X.xe s
noncomputable def tOp (r : R2) (ta tb : TE) : TE := fun σ H Q => ta σ H fun x H1 => tb σ H1 fun y H2 => r x y H2 Q
noncomputable def rI (C : Int → Int → Prop) (g : Int → Int → V) : R2 := fun x y H Q => ∃ i j, x = .int i ∧ y = .int j ∧ C i j ∧ Q (g i j) H
noncomputable def rI0 (g : Int → Int → V) : R2 := fun x y H Q => ∃ i j, x = .int i ∧ y = .int j ∧ Q (g i j) H
section
variable {X : Cx} {a b c : Expr} {ta tb tc : TE} {pos : Pos}
theorem binT (ha : PE X a ta) (hb : PE X b tb) {pins : List (Addr × Obj)} {s : Shared} {σ : St} {H : Hp} {R : V → V → Hp → Prop} (I : Inv X pins σ H s)
    (h : ta σ H fun x H1 => tb σ H1 fun y H2 => R x y H2) {Q : Value → Shared → Prop} {f : Value → Value → Sem Value}
    (hf : ∀ v u s2 x y H2, Inv X pins σ H2 s2 → RelV x v → RelV y u → R x y H2 → wpAny (model X.prog X.w) X.A (f v u) Q X.xe s2) :
    wpAny (model X.prog X.w) X.A (eval a X.env) (fun v s₁ => wpAny (model X.prog X.w) X.A (eval b X.env) (fun u s₂ => wpAny (model X.prog X.w) X.A (f v u) Q X.xe s₂) X.xe s₁) X.xe s := by
  refine thn (ha pins s σ H _ I h) fun v s1 ⟨x, H1, I1, r1, q1⟩ => ?_
  refine thn (hb pins s1 σ H1 _ I1 q1) fun u s2 ⟨y, H2, I2, r2, q2⟩ => ?_
  exact hf v u s2 x y H2 I2 r1 r2 q2
theorem pe_op {op : Operator} {r : R2} (ho : OpR X (binaryOp op) r) (ha : PE X a ta) (hb : PE X b tb) : PE X (.BinOp a op b pos) (tOp r ta tb) := by
  intro pins s σ H Q I h
  exact wpAny_BinOp (binT ha hb I h fun v u s2 x y H2 I2 rx ry q => ho pins s2 σ H2 x y v u Q I2 rx ry q)
theorem opI {f : Value → Value → Sem Value} {C : Int → Int → Prop} {g : Int → Int → Int}
    (rule : ∀ (i j : Int) (t u : Tok) (s : Shared) (Q : Value → Shared → Prop) (E : Value → Shared → Prop), C i j → Q (.int (g i j) s.toks) { s with toks := s.toks + 1 } → wpAny (model X.prog X.w) X.A (f (.int i t) (.int j u)) Q E s) :
    OpR X f (rI C fun i j => .int (g i j)) := by
  intro pins s σ H x y v u Q I rx ry h
  obtain ⟨i, j, rfl, rfl, hc, q⟩ := h
  obtain ⟨t, rfl⟩ := rx
  obtain ⟨t', rfl⟩ := ry
  exact rule i j t t' s _ _ hc ⟨.int (g i j), H, I.tok _, ⟨_, rfl⟩, q⟩
theorem opI0 {f : Value → Value → Sem Value} {g : Int → Int → Int}
    (rule : ∀ (i j : Int) (t u : Tok) (s : Shared) (Q : Value → Shared → Prop) (E : Value → Shared → Prop), Q (.int (g i j) s.toks) { s with toks := s.toks + 1 } → wpAny (model X.prog X.w) X.A (f (.int i t) (.int j u)) Q E s) :
    OpR X f (rI0 fun i j => .int (g i j)) := by
  intro pins s σ H x y v u Q I rx ry h
  obtain ⟨i, j, rfl, rfl, q⟩ := h
  obtain ⟨t, rfl⟩ := rx
  obtain ⟨t', rfl⟩ := ry
  exact rule i j t t' s _ _ ⟨.int (g i j), H, I.tok _, ⟨_, rfl⟩, q⟩
theorem opB0 {f : Value → Value → Sem Value} {g : Int → Int → Bool}
    (rule : ∀ (i j : Int) (t u : Tok) (s : Shared) (Q : Value → Shared → Prop) (E : Value → Shared → Prop), Q (.bool (g i j)) s → wpAny (model X.prog X.w) X.A (f (.int i t) (.int j u)) Q E s) :
    OpR X f (rI0 fun i j => .bl (g i j)) := by
  intro pins s σ H x y v u Q I rx ry h
  obtain ⟨i, j, rfl, rfl, q⟩ := h
  obtain ⟨t, rfl⟩ := rx
  obtain ⟨t', rfl⟩ := ry
  exact rule i j t t' s _ _ ⟨.bl (g i j), H, I, rfl, q⟩
noncomputable def CDiv (i j : Int) : Prop := 0 < j ∧ j < 1073741824
noncomputable def CPow (i j : Int) : Prop := 0 ≤ j ∧ j ≤ 1000000 ∧ i.natAbs < 2 ^ 64
noncomputable def CMul (i j : Int) : Prop := (-(2 ^ 64) < i ∧ i < 2 ^ 64) ∨ (-(2 ^ 64) < j ∧ j < 2 ^ 64)
theorem CMul.ok {i j : Int} (h : CMul i j) : IntMulOk i j := by
  rcases h with ⟨h1, h2⟩ | ⟨h1, h2⟩
  · exact .of_left (intBits_le_64 h1 h2)
  · exact .of_right (intBits_le_64 h1 h2)
theorem op_add : OpR X (binaryOp .Add) (rI0 fun i j => .int (i + j)) := opI0 fun _ _ _ _ _ _ _ q => add_int q
theorem op_sub : OpR X (binaryOp .Sub) (rI0 fun i j => .int (i - j)) := opI0 fun _ _ _ _ _ _ _ q => sub_int q
theorem op_mul : OpR X (binaryOp .Mult) (rI CMul fun i j => .int (i * j)) := opI fun _ _ _ _ _ _ _ hc q => mul_int q hc.ok
theorem op_fdiv : OpR X (binaryOp .FloorDiv) (rI CDiv fun i j => .int (i / j)) := opI fun i j _ _ _ _ _ hc q => by
  have h1 : (0 : Int) < j := hc.1
  have h2 : j < 1073741824 := hc.2
  exact floordiv_int (by omega) (by rw [Int.fdiv_eq_ediv_of_nonneg i (by omega)]; exact q) (.inl (PyProof.noPylong_small (by omega)))
theorem op_mod : OpR X (binaryOp .Mod) (rI (fun _ j => 0 < j) fun i j => .int (i % j)) := opI fun i j _ _ _ _ _ hc q => by
  have h1 : (0 : Int) < j := hc
  exact mod_int' (by omega) (by rw [Int.fmod_eq_emod_of_nonneg i (by omega)]; exact q)
theorem op_pow : OpR X (binaryOp .Pow) (rI CPow fun i j => .int (i ^ j.toNat)) := opI fun _ _ _ _ _ _ _ hc q => pow_int_small hc.1 hc.2.1 hc.2.2 q
end
noncomputable def scal : V → V → Bool
  | .non, .non => true | .non, .int _ => true | .int _, .non => true | .non, .bl _ => true | .bl _, .non => true | .non, .str _ => true | .str _, .non => true
  | .int _, .int _ => true | .bl _, .bl _ => true | .str _, .str _ => true | .byt _, .byt _ => true
  | .int _, .str _ => true | .str _, .int _ => true | .bl _, .str _ => true | .str _, .bl _ => true
  | _, _ => false
noncomputable def rEq : R2 := fun x y H Q => scal x y = true ∧ Q (.bl (decide (x = y))) H
noncomputable def rNe : R2 := fun x y H Q => scal x y = true ∧ Q (.bl (!decide (x = y))) H
theorem dec_int {i j : Int} : decide (V.int i = V.int j) = (i == j) := by
  rw [Bool.eq_iff_iff]
  simp
theorem dec_bl {i j : Bool} : decide (V.bl i = V.bl j) = (i == j) := by
  rw [Bool.eq_iff_iff]
  simp
theorem dec_str {i j : Str} : decide (V.str i = V.str j) = (i == j) := by
  rw [Bool.eq_iff_iff]
  simp
theorem dec_byt {i j : Array UInt8} : decide (V.byt i = V.byt j) = (i.toList == j.toList) := by
  rw [Bool.eq_iff_iff]
  cases i
  cases j
  simp
section
variable {X : Cx} {a b c : Expr} {ta tb tc : TE} {pos : Pos}
theorem fin_bl {pins : List (Addr × Obj)} {σ : St} {H : Hp} {s : Shared} {Q : VK} {k k' : Bool} (I : Inv X pins σ H s) (q : Q (.bl k) H) (e : k = k') : EP X pins σ Q (.bool k') s := by
  subst e
  exact ⟨.bl k, H, I, rfl, q⟩
theorem op_eq : OpR X (compareOp .Eq) rEq := by
  intro pins s σ H x y v u Q I rx ry h
  obtain ⟨hs, q⟩ := h
  cases x with
  | non =>
    cases rx
    cases y with
    | non => cases ry; exact PySem.EqNone.eq_none_none (fin_bl I q (by simp))
    | bl j => cases ry; exact PySem.EqNone.eq_none_bool (fin_bl I q (by simp))
    | int j => obtain ⟨t', rfl⟩ := ry; exact PySem.EqNone.eq_none_int (fin_bl I q (by simp))
    | str j => obtain ⟨t', rfl⟩ := ry; exact PySem.EqNone.eq_none_str (fin_bl I q (by simp))
    | _ => exact absurd (show false = true from hs) Bool.false_ne_true
  | bl i =>
    cases rx
    cases y with
    | non => cases ry; exact PySem.EqNone.eq_bool_none (fin_bl I q (by simp))
    | bl j => cases ry; exact eq_bool (fin_bl I q dec_bl)
    | str j => obtain ⟨t', rfl⟩ := ry; exact PySem.EqMixed.eq_bool_str (fin_bl I q (by simp))
    | _ => exact absurd (show false = true from hs) Bool.false_ne_true
  | int i =>
    obtain ⟨t, rfl⟩ := rx
    cases y with
    | non => cases ry; exact PySem.EqNone.eq_int_none (fin_bl I q (by simp))
    | int j => obtain ⟨t', rfl⟩ := ry; exact eq_int (fin_bl I q dec_int)
    | str j => obtain ⟨t', rfl⟩ := ry; exact PySem.EqMixed.eq_int_str (fin_bl I q (by simp))
    | _ => exact absurd (show false = true from hs) Bool.false_ne_true
  | str i =>
    obtain ⟨t, rfl⟩ := rx
    cases y with
    | non => cases ry; exact PySem.EqNone.eq_str_none (fin_bl I q (by simp))
    | bl j => cases ry; exact PySem.EqMixed.eq_str_bool (fin_bl I q (by simp))
    | int j => obtain ⟨t', rfl⟩ := ry; exact PySem.EqMixed.eq_str_int (fin_bl I q (by simp))
    | str j => obtain ⟨t', rfl⟩ := ry; exact eq_str (fin_bl I q dec_str)
    | _ => exact absurd (show false = true from hs) Bool.false_ne_true
  | byt i =>
    obtain ⟨t, rfl⟩ := rx
    cases y with
    | byt j => obtain ⟨t', rfl⟩ := ry; exact PySem.W.eq_bytes (fin_bl I q dec_byt)
    | _ => exact absurd (show false = true from hs) Bool.false_ne_true
  | _ => cases y <;> exact absurd (show false = true from hs) Bool.false_ne_true
theorem op_ne : OpR X (compareOp .NotEq) rNe := by
  intro pins s σ H x y v u Q I rx ry h
  obtain ⟨hs, q⟩ := h
  cases x with
  | non =>
    cases rx
    cases y with
    | non => cases ry; exact PySem.EqNone.ne_none_none (fin_bl I q (by simp))
    | bl j => cases ry; exact PySem.EqNone.ne_none_bool (fin_bl I q (by simp))
    | int j => obtain ⟨t', rfl⟩ := ry; exact PySem.EqNone.ne_none_int (fin_bl I q (by simp))
    | str j => obtain ⟨t', rfl⟩ := ry; exact PySem.EqNone.ne_none_str (fin_bl I q (by simp))
    | _ => exact absurd (show false = true from hs) Bool.false_ne_true
  | bl i =>
    cases rx
    cases y with
    | non => cases ry; exact PySem.EqNone.ne_bool_none (fin_bl I q (by simp))
    | bl j => cases ry; exact ne_bool (fin_bl I q (congrArg not dec_bl))
    | str j => obtain ⟨t', rfl⟩ := ry; exact PySem.EqMixed.ne_bool_str (fin_bl I q (by simp))
    | _ => exact absurd (show false = true from hs) Bool.false_ne_true
  | int i =>
    obtain ⟨t, rfl⟩ := rx
    cases y with
    | non => cases ry; exact PySem.EqNone.ne_int_none (fin_bl I q (by simp))
    | int j => obtain ⟨t', rfl⟩ := ry; exact ne_int (fin_bl I q (congrArg not dec_int))
    | str j => obtain ⟨t', rfl⟩ := ry; exact PySem.EqMixed.ne_int_str (fin_bl I q (by simp))
    | _ => exact absurd (show false = true from hs) Bool.false_ne_true
  | str i =>
    obtain ⟨t, rfl⟩ := rx
    cases y with
    | non => cases ry; exact PySem.EqNone.ne_str_none (fin_bl I q (by simp))
    | bl j => cases ry; exact PySem.EqMixed.ne_str_bool (fin_bl I q (by simp))
    | int j => obtain ⟨t', rfl⟩ := ry; exact PySem.EqMixed.ne_str_int (fin_bl I q (by simp))
    | str j => obtain ⟨t', rfl⟩ := ry; exact ne_str (fin_bl I q (congrArg not dec_str))
    | _ => exact absurd (show false = true from hs) Bool.false_ne_true
  | byt i =>
    obtain ⟨t, rfl⟩ := rx
    cases y with
    | byt j => obtain ⟨t', rfl⟩ := ry; exact PySem.W.ne_bytes (fin_bl I q (congrArg not dec_byt))
    | _ => exact absurd (show false = true from hs) Bool.false_ne_true
  | _ => cases y <;> exact absurd (show false = true from hs) Bool.false_ne_true
theorem op_lt : OpR X (compareOp .Lt) (rI0 fun i j => .bl (decide (i < j))) := opB0 fun _ _ _ _ _ _ _ q => lt_int q
theorem op_le : OpR X (compareOp .LtE) (rI0 fun i j => .bl (decide (i ≤ j))) := opB0 fun _ _ _ _ _ _ _ q => le_int q
theorem op_gt : OpR X (compareOp .Gt) (rI0 fun i j => .bl (decide (j < i))) := opB0 fun _ _ _ _ _ _ _ q => gt_int q
theorem op_ge : OpR X (compareOp .GtE) (rI0 fun i j => .bl (decide (j ≤ i))) := opB0 fun _ _ _ _ _ _ _ q => ge_int q
theorem op_in_str : OpR X (compareOp .In) (fun x y H Q => ∃ i j, x = .str i ∧ y = .str j ∧ Q (.bl (!(Builtin.Str.occurrences j i 0 j.length 1).isEmpty)) H) := by
  intro pins s σ H x y v u Q I rx ry h
  obtain ⟨i, j, rfl, rfl, q⟩ := h
  obtain ⟨t, rfl⟩ := rx
  obtain ⟨t', rfl⟩ := ry
  exact in_str (fin_bl I q rfl)
theorem op_isN : OpR X (compareOp .Is) (fun x y H Q => y = .non ∧ Q (.bl (decide (x = .non))) H) := by
  intro pins s σ H x y v u Q I rx ry h
  obtain ⟨rfl, q⟩ := h
  cases ry
  refine is_none_gen (fin_bl I q ?_)
  cases x <;> first
    | (cases rx; rfl)
    | (obtain ⟨t, rfl⟩ := rx; rfl)
theorem op_notN : OpR X (compareOp .IsNot) (fun x y H Q => y = .non ∧ Q (.bl (!decide (x = .non))) H) := by
  intro pins s σ H x y v u Q I rx ry h
  obtain ⟨rfl, q⟩ := h
  cases ry
  refine isnot_none_gen (fin_bl I q ?_)
  cases x <;> first
    | (cases rx; rfl)
    | (obtain ⟨t, rfl⟩ := rx; rfl)
theorem OpR.or {f : Value → Value → Sem Value} {r r' : R2} (h : OpR X f r) (h' : OpR X f r') : OpR X f (fun x y H Q => r x y H Q ∨ r' x y H Q) := by
  intro pins s σ H x y v u Q I rx ry q
  rcases q with q | q
  · exact h pins s σ H x y v u Q I rx ry q
  · exact h' pins s σ H x y v u Q I rx ry q
theorem nomark (b : Expr) {op : CmpOp} (h : op ≠ .In := by decide) (h2 : op ≠ .NotIn := by decide) : behindInMarks op b = false := by
  have e1 : (op == CmpOp.In) = false := by cases op <;> first | rfl | exact absurd rfl h
  have e2 : (op == CmpOp.NotIn) = false := by cases op <;> first | rfl | exact absurd rfl h2
  cases b <;> simp [behindInMarks, e1, e2]
theorem pe_cmpR {op : CmpOp} {r : R2} (ho : OpR X (compareOp op) r) (ha : PE X a ta) (hb : PE X b tb) (hm : behindInMarks op b = false) : PE X (.Compare a [op] [b] pos) (tOp r ta tb) := by
  intro pins s σ H Q I h
  exact wpAny_Compare1 (binT ha hb I h fun v u s2 x y H2 I2 rx ry q => ho pins s2 σ H2 x y v u Q I2 rx ry q) hm
noncomputable def tTest (t : TE) : TT := fun σ H Q => t σ H fun x H' => ∃ k, x = .bl k ∧ Q k H'
theorem pt_cmpR {op : CmpOp} {r : R2} (ho : OpR X (compareOp op) r) (ha : PE X a ta) (hb : PE X b tb) (hm : behindInMarks op b = false) : PT X (.Compare a [op] [b] pos) (tTest (tOp r ta tb)) := by
  intro pins s σ H Q I h
  refine wpAny_isTrue_Compare1 (thn (ha pins s σ H _ I h) fun v s1 ⟨x, H1, I1, r1, q1⟩ => thn (hb pins s1 σ H1 _ I1 q1) fun u s2 ⟨y, H2, I2, r2, q2⟩ =>
    thn (ho pins s2 σ H2 x y v u _ I2 r1 r2 q2) fun c s3 ⟨z, H3, I3, r3, k, e, q3⟩ => ?_) hm
  subst e
  cases r3
  exact wpAny_truthy_bool ⟨H3, I3, q3⟩
noncomputable def tChain (r r' : R2) (ta tb tc : TE) : TE := fun σ H Q => ta σ H fun x H1 => tb σ H1 fun y H2 => r x y H2 fun z H3 => ∃ k, z = .bl k ∧
  (if k = true then tc σ H3 fun w' H4 => r' y w' H4 Q else Q (.bl false) H3)
theorem pe_chain {op op' : CmpOp} {r r' : R2} (ho : OpR X (compareOp op) r) (ho' : OpR X (compareOp op') r') (ha : PE X a ta) (hb : PE X b tb) (hc : PE X c tc)
    (hm : lastMarks [op, op'] [b, c] = false := by with_unfolding_all rfl) : PE X (.Compare a [op, op'] [b, c] pos) (tChain r r' ta tb tc) := by
  intro pins s σ H Q I h
  refine Compare_chain (thn (ha pins s σ H _ I h) fun v s1 ⟨x, H1, I1, r1, q1⟩ => chain_link (thn (hb pins s1 σ H1 _ I1 q1) fun u s2 ⟨y, H2, I2, r2, q2⟩ =>
    thn (ho pins s2 σ H2 x y v u _ I2 r1 r2 q2) fun d s3 ⟨z, H3, I3, r3, k, e, q3⟩ => ?_)) hm
  subst e
  cases r3
  refine wpAny_truthy_bool ?_
  cases k with
  | false => exact ite_ff ⟨.bl false, H3, I3, rfl, q3⟩
  | true => exact ite_tt (chain_last (thn (hc pins s3 σ H3 _ I3 q3) fun w' s4 ⟨z', H4, I4, r4, q4⟩ => ho' pins s4 σ H4 y z' u w' Q I4 r2 r4 q4))
theorem pt_chain {op op' : CmpOp} {r r' : R2} (ho : OpR X (compareOp op) r) (ho' : OpR X (compareOp op') r') (ha : PE X a ta) (hb : PE X b tb) (hc : PE X c tc)
    (hm : lastMarks [op, op'] [b, c] = false := by with_unfolding_all rfl) : PT X (.Compare a [op, op'] [b, c] pos) (tTest (tChain r r' ta tb tc)) := by
  intro pins s σ H Q I h
  refine isTrue_chain (thn (ha pins s σ H _ I h) fun v s1 ⟨x, H1, I1, r1, q1⟩ => test_link (thn (hb pins s1 σ H1 _ I1 q1) fun u s2 ⟨y, H2, I2, r2, q2⟩ =>
    thn (ho pins s2 σ H2 x y v u _ I2 r1 r2 q2) fun d s3 ⟨z, H3, I3, r3, k, e, q3⟩ => ?_)) hm
  subst e
  cases r3
  refine wpAny_truthy_bool ?_
  cases k with
  | false =>
    obtain ⟨k', e', q'⟩ := q3
    cases e'
    exact ite_ff ⟨H3, I3, q'⟩
  | true =>
    refine ite_tt (test_last (thn (hc pins s3 σ H3 _ I3 q3) fun w' s4 ⟨z', H4, I4, r4, q4⟩ => thn (ho' pins s4 σ H4 y z' u w' _ I4 r2 r4 q4) fun d' s5 ⟨z2, H5, I5, r5, k2, e2, q5⟩ => ?_))
    subst e2
    cases r5
    exact wpAny_truthy_bool ⟨H5, I5, q5⟩
noncomputable def TruV (K : PySem.W.Frag) (x : V) (H : Hp) (k : Bool) : Prop :=
  match x with
  | .non => k = false
  | .bl b => k = b
  | .int i => k = (i != 0)
  | .str y => y.length ≤ sizeLine ∧ k = ((y.length : Int) != 0)
  | .byt y => y.size ≤ sizeLine ∧ k = ((y.size : Int) != 0)
  | .ref p => (∃ xs, SqL K H p xs ∧ k = !xs.isEmpty) ∨ (∃ xs, SqT K H p xs ∧ k = !xs.isEmpty) ∨ ∃ kvs, H p = some (.dK kvs) ∧ k = !kvs.isEmpty
  | _ => False
theorem isEmpty_kv {κ : Type} {kvs : List (κ × V)} {vs : List (κ × Value)} (r : KV kvs vs) : (!vs.isEmpty) = !kvs.isEmpty := by
  cases r <;> rfl
theorem isEmpty_of {xs : List V} {its : List Value} (r : Vals xs its) : (!its.toArray.isEmpty) = !xs.isEmpty := by
  cases r <;> simp
theorem line63 : (sizeLine : Nat) < 2 ^ 63 := by rw [sizeLine_eq]; decide
theorem tru_ok : TruR X (fun x H Q => ∃ k, TruV X.K x H k ∧ Q k H) := by
  intro pins s σ H x v Q I rx h
  obtain ⟨k, e, q⟩ := h
  have hl := line63
  have hs : sizeLine = 16777216 := sizeLine_eq
  cases x with
  | non =>
    cases rx
    have e' : k = false := e
    subst e'
    exact truthy_none ⟨H, I, q⟩
  | bl b =>
    cases rx
    have e' : k = b := e
    subst e'
    exact wpAny_truthy_bool ⟨H, I, q⟩
  | int i =>
    obtain ⟨t, rfl⟩ := rx
    have e' : k = (i != 0) := e
    subst e'
    exact PySem.P.truthy_int ⟨H, I, q⟩
  | str y =>
    obtain ⟨t, rfl⟩ := rx
    obtain ⟨hy, e'⟩ : y.length ≤ sizeLine ∧ k = ((y.length : Int) != 0) := e
    subst e'
    exact PySem.P.truthy_str (by omega) ⟨H, I.tok _, q⟩
  | byt y =>
    obtain ⟨t, rfl⟩ := rx
    obtain ⟨hy, e'⟩ : y.size ≤ sizeLine ∧ k = ((y.size : Int) != 0) := e
    subst e'
    exact PySem.W.truthy_bytes (by omega) ⟨H, I.tok _, q⟩
  | ref p =>
    cases rx
    have e' : (∃ xs, SqL X.K H p xs ∧ k = !xs.isEmpty) ∨ (∃ xs, SqT X.K H p xs ∧ k = !xs.isEmpty) ∨ ∃ kvs, H p = some (.dK kvs) ∧ k = !kvs.isEmpty := e
    rcases e' with ⟨xs, hx, e'⟩ | ⟨xs, hx, e'⟩ | ⟨kvs, hx, e'⟩
    · subst e'
      obtain ⟨its, r, pl, hz⟩ := I.list hx
      have hlen := r.length
      exact wpAny_truthy_list pl.isList (by simp only [List.size_toArray]; omega) ⟨H, I.tok _, by rw [isEmpty_of r]; exact q⟩
    · subst e'
      obtain ⟨its, r, pl, hz⟩ := I.tuple hx
      have hlen := r.length
      exact truthy_tuple pl (by simp only [List.size_toArray]; omega) ⟨H, I.tok _, by rw [isEmpty_of r]; exact q⟩
    · subst e'
      obtain ⟨hz, hS, vs, r, m⟩ : kvs.length ≤ sizeLine ∧ (p == sysModules) = false ∧ ∃ vs, KV kvs vs ∧ s.heap.DictOf (mixKind X.prog X.w) p vs := I.hok p _ hx
      have hlen : kvs.length = vs.length := Paired.length r
      exact wpAny_truthy_dict hS m (by omega) ⟨H, I.tok _, by rw [isEmpty_kv r]; exact q⟩
  | _ => exact (show False from e).elim
theorem pt_truth (ha : PE X a ta) (he : ∀ whole, isTrue a X.env whole = (do let v ← whole; standAt a.pos; holding [v] (truthy v))) :
    PT X a (fun σ H Q => ta σ H fun x H' => ∃ k, TruV X.K x H' k ∧ Q k H') := by
  intro pins s σ H Q I h
  exact isTrue_plain (thn (ha pins s σ H _ I h) fun v s1 ⟨x, H1, I1, r1, q1⟩ => tru_ok pins s1 σ H1 x v Q I1 r1 q1) (he _)
theorem op_add_str : OpR X (binaryOp .Add) (fun x y H Q => ∃ i j, x = .str i ∧ y = .str j ∧ i.length + j.length ≤ sizeLine ∧ Q (.str (i ++ j)) H) := by
  intro pins s σ H x y v u Q I rx ry h
  obtain ⟨i, j, rfl, rfl, hz, q⟩ := h
  obtain ⟨t, rfl⟩ := rx
  obtain ⟨t', rfl⟩ := ry
  exact add_str (fun t' tk => ⟨.str (i ++ j), H, I.tok _, ⟨_, rfl⟩, q⟩) hz
theorem vals1 {x : V} {us : List Value} (r : Vals [x] us) : ∃ u, us = [u] ∧ RelV x u := by
  cases r with
  | cons r1 r2 => cases r2; exact ⟨_, rfl, r1⟩
theorem vals2 {x y : V} {us : List Value} (r : Vals [x, y] us) : ∃ u w', us = [u, w'] ∧ RelV x u ∧ RelV y w' := by
  cases r with
  | cons r1 r2 =>
    cases r2 with
    | cons r3 r4 => cases r4; exact ⟨_, _, rfl, r1, r3⟩
theorem call_max2 (hc : X.calm = true) : CallR X (.builtin "max") (fun xs H Q => ∃ i j, xs = [.int i, .int j] ∧ Q (.int (if j > i then j else i)) H) := by
  intro pins s σ H xs us Q I r h
  obtain ⟨i, j, rfl, q⟩ := h
  obtain ⟨u, w', rfl, ⟨t, rfl⟩, ⟨t', rfl⟩⟩ := vals2 r
  refine max_two_ints (I.ok.hd hc) fun h' tk k => ⟨_, H, I.kept k, ?_, q⟩
  by_cases hj : j > i
  · rw [if_pos hj, if_pos hj]; exact ⟨_, rfl⟩
  · rw [if_neg hj, if_neg hj]; exact ⟨_, rfl⟩
theorem call_min2 (hc : X.calm = true) : CallR X (.builtin "min") (fun xs H Q => ∃ i j, xs = [.int i, .int j] ∧ Q (.int (if j < i then j else i)) H) := by
  intro pins s σ H xs us Q I r h
  obtain ⟨i, j, rfl, q⟩ := h
  obtain ⟨u, w', rfl, ⟨t, rfl⟩, ⟨t', rfl⟩⟩ := vals2 r
  refine min_two_ints (I.ok.hd hc) fun h' tk k => ⟨_, H, I.kept k, ?_, q⟩
  by_cases hj : j < i
  · rw [if_pos hj, if_pos hj]; exact ⟨_, rfl⟩
  · rw [if_neg hj, if_neg hj]; exact ⟨_, rfl⟩
theorem call_int1 : CallR X (.type "int") (fun xs H Q => (∃ i, xs = [.int i] ∧ Q (.int i) H) ∨ ∃ k, xs = [.bl k] ∧ Q (.int (if k then 1 else 0)) H) := by
  intro pins s σ H xs us Q I r h
  rcases h with ⟨i, rfl, q⟩ | ⟨k, rfl, q⟩
  · obtain ⟨u, rfl, t, rfl⟩ := vals1 r
    exact call_int_int ⟨.int i, H, I, ⟨_, rfl⟩, q⟩
  · obtain ⟨u, rfl, r1⟩ := vals1 r
    cases r1
    exact call_int_bool ⟨.int (if k then 1 else 0), H, I.tok _, ⟨_, rfl⟩, q⟩
theorem call_str_int : CallR X (.type "str") (fun xs H Q => ∃ i, xs = [.int i] ∧ i.natAbs.log2 < 1920 ∧ Q (.str (toString i)) H) := by
  intro pins s σ H xs us Q I r h
  obtain ⟨i, rfl, hz, q⟩ := h
  obtain ⟨u, rfl, t, rfl⟩ := vals1 r
  exact PySem.P.str_of_int hz ⟨.str _, H, I.tok _, ⟨_, rfl⟩, q⟩
end
end L2
namespace L2
open PySem PySem.Spec PyProof.Rows
structure ObjM (h : Heap) (x dx C : Addr) (mA : Str → Option Value) : Prop where
  obj : h.get? x = some (PySem.W.instObj C dx)
  ns : h.Ns1 dx mA
  ne : dx ≠ x
theorem lookIn_ns {h : Heap} {dx : Addr} {mA : Str → Option Value} (n : h.Ns1 dx mA) : ∃ od, h.get? dx = some od ∧ ∀ name, PySem.W.lookIn name od = some (mA name) := by
  obtain ⟨o, es, ep, ho, hd, hk, _, hm⟩ := n
  refine ⟨o, ho, fun name => ?_⟩
  have e := hm name
  unfold nsFind findBy at e
  rw [← Array.find?_toList] at e
  unfold PySem.W.lookIn
  rw [hd]
  dsimp only
  split
  · rename_i y q
    rw [q] at e
    exact congrArg some e
  · rename_i q
    rw [q] at e
    have a : es.toList.any (·.refKey) = false := by
      rw [List.any_eq_false]
      intro y hy
      obtain ⟨z, t, hkey⟩ := hk y (Array.mem_toList_iff.mp hy)
      simp [DictEntry.refKey, hkey]
    have a' : ¬ es.toList.any (·.refKey) = true := by rw [a]; exact Bool.false_ne_true
    rw [if_neg a']
    exact congrArg some e
theorem ObjM.look {h : Heap} {x dx C : Addr} {mA : Str → Option Value} (I : ObjM h x dx C mA) : ∃ od, PySem.W.InstAt h x (PySem.W.instObj C dx) C (some od) ∧ ∀ name, PySem.W.lookIn name od = some (mA name) :=
  let ⟨od, ho, hl⟩ := lookIn_ns I.ns
  ⟨od, ⟨I.obj, rfl, rfl, ho⟩, hl⟩
section
variable {prog : Program} {w : World} {A : Around} {E : Value → Shared → Prop} {s : Shared} {K : PySem.W.Frag} {x dx C f : Addr} {mA : Str → Option Value} {name : Str} {v : Value}
end
theorem RelO.some_of {v : V} {o : Option Value} (r : RelO (some v) o) : ∃ u, o = some u ∧ RelV v u := by
  cases o with
  | none => exact (show False from r).elim
  | some u => exact ⟨u, rfl, r⟩
section
variable {P : Program} {w : World} {H H' : Hp} {h h' : Heap} {a C dx : Addr} {fs fs' : List (Str × V)}
theorem ins_get (hok : HOk P w H h) (e : H a = some (.ins C dx fs)) : ∃ mA, ObjM h a dx C mA ∧ (∀ f, RelO (fs.lookup f) (mA f)) ∧ PySem.Within mA (fs.map (·.1)) ∧ fs.length ≤ 1000 ∧ H dx = some (.own a) := by
  obtain ⟨d, z, ne, ob, mA, n, r, q⟩ := (show ObjOk P w H h a (.ins C dx fs) from hok a _ e)
  exact ⟨mA, ⟨ob, n, ne⟩, r, q, z, d⟩
end
structure Cls (K : PySem.W.Frag) (C : Addr) : Prop where
  pg : PySem.W.plainGet K C Str.empty = true
  hd : PySem.W.hasDictIn K C = true
  po : PySem.W.plainOver K C = true
  sa : PySem.W.findIn K (.ref C) "__setattr__" = some (some (.builtin "object.__setattr__"))
theorem Cls.get {K : PySem.W.Frag} {C : Addr} (c : Cls K C) (f : Str) : PySem.W.plainGet K C f = true := c.pg
structure Con (K : PySem.W.Frag) (C : Addr) (f : Str) (v : V) (u : Value) : Prop where
  at_ : PySem.W.findIn K (.ref C) f = some (some u)
  rel : RelV v u
  get : PySem.W.specialIn K u "__get__" = some none
  cp : PySem.W.copiedNames.contains f = false
structure Meth (K : PySem.W.Frag) (C : Addr) (m : Str) (f : Addr) : Prop where
  at_ : PySem.W.findIn K (.ref C) m = some (some (.ref f))
  fn : PySem.W.isFn K (.ref f) = true
  kp : PySem.W.keepIn K (.ref f) = true
section
variable {X : Cx} {pins : List (Addr × Obj)} {σ : St} {H : Hp} {s : Shared} {a C dx : Addr} {fs : List (Str × V)} {f : Str} {v : V} {A : Around} {E : Value → Shared → Prop}
end
section
variable {X : Cx} {o e value : Expr} {f : Str} {pos pos' tpos : Pos} {ta tv : TE}
end
section
variable {X : Cx} {pins : List (Addr × Obj)} {σ : St} {H : Hp} {s : Shared} {A : Around} {E : Value → Shared → Prop} {Q : Value → Shared → Prop} {c : Value} {b : Bool}
inductive TyOf (K : PySem.W.Frag) (H : Hp) : V → Value → Prop where
  | non : TyOf K H .non (.type "NoneType")
  | bl (x : Bool) : TyOf K H (.bl x) (.type "bool")
  | int (i : Int) : TyOf K H (.int i) (.type "int")
  | str (x : Str) : TyOf K H (.str x) (.type "str")
  | flt (x : UInt64) : TyOf K H (.flt x) (.type "float")
  | lst {a : Addr} {xs : List V} (e : H a = some (.lst xs)) : TyOf K H (.ref a) (.type "list")
  | frz {a : Addr} {o : Obj} {xs : List V} (e : H a = some (.frz o (.lst xs))) : TyOf K H (.ref a) (.type "list")
  | tup {a : Addr} {xs : List V} (e : H a = some (.tup xs)) : TyOf K H (.ref a) (.type "tuple")
  | dK {a : Addr} {kvs : List (Key × V)} (e : H a = some (.dK kvs)) : TyOf K H (.ref a) (.type "dict")
  | dT {a : Addr} {kvs : List (List Key × V)} (e : H a = some (.dT kvs)) : TyOf K H (.ref a) (.type "dict")
  | ins {a C dx : Addr} {fs : List (Str × V)} (e : H a = some (.ins C dx fs)) (cl : Cls K C) (ha : PySem.W.findIn K (.ref C) "__class__" = some (some (.builtin "object.__class__")))
      (hn : PySem.W.specialIn K (.builtin "object.__class__") "__get__" = some (some (.builtin "getset_descriptor.__get__"))) (htk : PySem.W.takesIn K (.builtin "object.__class__") = some true)
      (hm : PySem.W.mroIn K C (.type "object") = some true) : TyOf K H (.ref a) (.ref C)
theorem isinst_ok {x : V} {u t : Value} (I : Inv X pins σ H s) (rx : RelV x u) (ty : TyOf X.K H x t) (e : PySem.W.kitOne X.K t c = some b) (h : ∀ tk, Q (.bool b) { s with toks := tk }) :
    wpAny (model X.prog X.w) A (call (.builtin "isinstance") [u, c]) Q E s := by
  cases ty with
  | non => cases (show u = Value.none from rx); exact PySem.W.kia_one PySem.W.kitx_none I.kIn True.intro e (fun z => nomatch z) h
  | bl y => cases (show u = Value.bool y from rx); exact PySem.W.kia_one PySem.W.kitx_bool I.kIn True.intro e (fun z => nomatch z) h
  | int i => obtain ⟨t, q⟩ := (show ∃ t, u = Value.int i t from rx); cases q; exact PySem.W.kia_one PySem.W.kitx_int I.kIn True.intro e (fun z => nomatch z) h
  | str y => obtain ⟨t, q⟩ := (show ∃ t, u = Value.str y t from rx); cases q; exact PySem.W.kia_one PySem.W.kitx_str I.kIn True.intro e (fun z => nomatch z) h
  | flt y => obtain ⟨t, q⟩ := (show ∃ t, u = Value.float y t from rx); cases q; exact PySem.W.kia_one PySem.W.kitx_float I.kIn True.intro e (fun z => nomatch z) h
  | @lst a xs ea =>
    cases (show u = Value.ref a from rx)
    obtain ⟨_, _, n, _, h1⟩ := (show ObjOk X.prog X.w H s.heap a (.lst xs) from I.hok a _ ea)
    exact PySem.W.kia_one PySem.W.kitx_list I.kIn ⟨_, h1, rfl⟩ e (fun z => nomatch z) h
  | @frz a ob xs ea =>
    cases (show u = Value.ref a from rx)
    obtain ⟨_, _, _, n, _, h1⟩ := (show ObjOk X.prog X.w H s.heap a (.frz ob (.lst xs)) from I.hok a _ ea)
    exact PySem.W.kia_one PySem.W.kitx_list I.kIn ⟨_, h1, rfl⟩ e (fun z => nomatch z) h
  | @tup a xs ea =>
    cases (show u = Value.ref a from rx)
    obtain ⟨_, _, _, p⟩ := (show ObjOk X.prog X.w H s.heap a (.tup xs) from I.hok a _ ea)
    obtain ⟨o, h1, h2, _⟩ := p
    exact PySem.W.kia_one PySem.W.kitx_tuple I.kIn ⟨o, h1, h2⟩ e (fun z => nomatch z) h
  | @dK a kvs ea =>
    cases (show u = Value.ref a from rx)
    obtain ⟨_, _, vs, _, p⟩ := (show ObjOk X.prog X.w H s.heap a (.dK kvs) from I.hok a _ ea)
    obtain ⟨o, es, ep, h1, h2, _⟩ := p
    exact PySem.W.kia_one PySem.W.kitx_dict I.kIn ⟨o, h1, h2.1⟩ e (fun z => nomatch z) h
  | @dT a kvs ea =>
    cases (show u = Value.ref a from rx)
    obtain ⟨_, _, xs, _, o, es, ep, h1, h2, _⟩ := (show ObjOk X.prog X.w H s.heap a (.dT kvs) from I.hok a _ ea)
    exact PySem.W.kia_one PySem.W.kitx_dict I.kIn ⟨o, h1, h2.1⟩ e (fun z => nomatch z) h
  | @ins a C dx fs ea cl ha hn htk hm =>
    cases (show u = Value.ref a from rx)
    obtain ⟨mA, O, _⟩ := ins_get I.hok ea
    obtain ⟨od, J, _⟩ := O.look
    exact PySem.W.kia_one (PySem.W.kitx_own (cl.get _) cl.hd ha hn htk hm) I.kIn J e (fun z => nomatch z) h
end
end L2
namespace L2
open PySem PySem.Spec PyProof.Rows
structure Room (k : Nat) (A : Around) : Prop where
  hd : A.handled = none
  dp : A.depth + 3 * k + 5 < recursionLimit
  un : A.units + 16 * k + 200 < cLine
theorem Room.mono {j k : Nat} {A : Around} (r : Room k A) (h : j ≤ k) : Room j A := ⟨r.hd, by have := r.dp; omega, by have := r.un; omega⟩
theorem Room.deeper {k : Nat} {A : Around} (r : Room (k + 1) A) (env : Env) : Room k (A.deeper env) :=
  ⟨r.hd, by have := r.dp; show A.depth + 1 + 3 * k + 5 < _; omega, by have := r.un; show A.units + 3 + 16 * k + 200 < _; omega⟩
theorem Room.in1 {k : Nat} {A : Around} (r : Room (k + 1) A) : Room k A.in1 :=
  ⟨r.hd, by have := r.dp; show A.depth + 3 * k + 5 < _; omega, by have := r.un; show A.units + 1 + 16 * k + 200 < _; omega⟩
theorem Room.depth {k : Nat} {A : Around} (r : Room k A) : A.depth < recursionLimit := by have := r.dp; omega
theorem Room.units {k : Nat} {A : Around} (r : Room k A) : A.units + 64 < cLine := by have := r.un; omega
noncomputable def tNil : TA := fun _ H Q => Q [] H
noncomputable def tCons (ta : TE) (tr : TA) : TA := fun σ H Q => ta σ H fun x H1 => tr σ H1 fun xs H2 => Q (x :: xs) H2
section
variable {X : Cx} {e : Expr} {es : List Expr} {te : TE} {t : TA} {pos : Pos}
theorem pa_nil : PA X [] tNil := fun _ _ _ _ H Q I h => Calls.spliced_nil ⟨[], H, I, .nil, h⟩
theorem pa_cons (ha : PE X e te) (hr : PA X es t) (hs : starEach (e :: es) X.env = (false, eval e X.env) :: starEach es X.env := by rfl) : PA X (e :: es) (tCons te t) := by
  intro pos pins s σ H Q I h
  rw [hs]
  show wpAny _ _ (spliced ((false, eval e X.env) :: backTo pos (starEach es X.env))) _ _ s
  refine Calls.spliced_cons (thn (ha pins s σ H _ I h) fun u s1 ⟨x, H1, I1, r1, q1⟩ => ?_)
  exact thn (hr pos pins s1 σ H1 _ I1 q1) fun us s2 ⟨xs, H2, I2, r2, q2⟩ => ⟨x :: xs, H2, I2, .cons r1 r2, q2⟩
noncomputable def tTup (t : TA) : TE := fun σ H Q => t σ H fun xs H1 => xs.length ≤ sizeLine ∧ ∀ p, H1 p = none → Q (.ref p) (upd H1 p (.tup xs))
noncomputable def tLst (t : TA) : TE := fun σ H Q => t σ H fun xs H1 => xs.length ≤ sizeLine ∧ ∀ p, H1 p = none → Q (.ref p) (upd H1 p (.lst xs))
theorem pe_tup {x1} (h : PA X es t) : PE X (.Tuple es x1 pos) (tTup t) := by
  intro pins s σ H Q I hq
  refine wpAny_Tuple_spliced (thn (h pos pins s σ H _ I hq) fun us s1 ⟨xs, H1, I1, r, z, q⟩ => ⟨by rw [← r.length]; exact z, ?_⟩)
  have hf : H1 s1.heap.objs.size = none := I1.hok.fresh (Nat.le_refl _)
  refine ⟨.ref s1.heap.objs.size, upd H1 s1.heap.objs.size (.tup xs), I1.laid (t' := s1.toks) (fun b u e => Heap.get?_push_of_some _ e) (Nat.le_refl _) ?_, rfl, q _ hf⟩
  exact ⟨z, us, r, ⟨_, Heap.get?_push_size _ rfl, rfl, _, rfl⟩⟩
theorem pe_lst (h : PA X es t) : PE X (.List es pos) (tLst t) := by
  intro pins s σ H Q I hq
  refine wpAny_List_spliced (thn (h pos pins s σ H _ I hq) fun us s1 ⟨xs, H1, I1, r, z, q⟩ => ⟨by rw [← r.length]; exact z, ?_⟩)
  have hf : H1 s1.heap.objs.size = none := I1.hok.fresh (Nat.le_refl _)
  refine ⟨.ref s1.heap.objs.size, upd H1 s1.heap.objs.size (.lst xs), I1.laid (t' := s1.toks) (fun b u e => Heap.get?_push_of_some _ e) (Nat.le_refl _) ?_, rfl, q _ hf⟩
  exact ⟨z, us, 0, r, Heap.get?_push_size _ rfl⟩
end
noncomputable abbrev Sp := List V → Hp → VK → XK → Prop
noncomputable abbrev CXT := List Env → Hp → Shared → XK → Value → Shared → Prop
structure Env0 (P : Program) (w : World) (K : PySem.W.Frag) (mg : Str → Option Value) (base : Heap) (A : Around) (outer : List Env) (s : Shared) (H : Hp) : Prop where
  frames : A.frames = some outer
  mod : Mod K mg base
  bs : ∀ b o, base.get? b = some o → s.heap.get? b = some o ∧ H b = none
  bsz : base.objs.size ≤ s.heap.objs.size
  funs : s.heap.FunFrames base outer
  frf : ∀ b ∈ frs outer, H b = none
  hok : HOk P w H s.heap
  bare : AllBare s.gens
noncomputable def CE (outer : List Env) (P : Program) (w : World) (H : Hp) (s : Shared) (Q : VK) (u : Value) (s' : Shared) : Prop :=
  ∃ v H', s'.os = s.os ∧ AllBare s'.gens ∧ Un (frs outer) [] H H' s.heap s'.heap ∧ HOk P w H' s'.heap ∧ RelV v u ∧ Q v H'
noncomputable def CR (CX : CXT) (outer : List Env) (P : Program) (w : World) (H : Hp) (s : Shared) (Q : VK) (E : XK) (r : Result) (s' : Shared) : Prop :=
  match r with
  | .ok (.ret u) => CE outer P w H s Q u s'
  | .ok _ => False
  | .error e => CX outer H s E e s'
structure FnOk (P : Program) (w : World) (K : PySem.W.Frag) (mg : Str → Option Value) (base : Heap) (CX : CXT) (k : Nat) (f : Addr) (fd : FuncData) (ps : List Str) (sp : Sp) : Prop where
  len : ∀ vs H Q E, sp vs H Q E → vs.length = ps.length
  run : ∀ (A : Around) (outer : List Env) (s : Shared) (H : Hp) (args : Args) (us : List Value) (vs : List V) (Q : VK) (E : XK), Room k A → Env0 P w K mg base A outer s H → BindsTo s fd args (ps.zip us) → Vals vs us → sp vs H Q E →
    codeAny (model P w) A (.call (.ref f) args) (CR CX outer P w H s Q E) s
theorem FnOk.mono {P : Program} {w : World} {K : PySem.W.Frag} {mg : Str → Option Value} {base : Heap} {CX : CXT} {j k : Nat} {f : Addr} {fd : FuncData} {ps : List Str} {sp : Sp} (F : FnOk P w K mg base CX j f fd ps sp) (h : j ≤ k) :
    FnOk P w K mg base CX k f fd ps sp := ⟨F.len, fun A outer s H args us vs Q E hr => F.run A outer s H args us vs Q E (hr.mono h)⟩
theorem FnOk.imp {P : Program} {w : World} {K : PySem.W.Frag} {mg : Str → Option Value} {base : Heap} {CX : CXT} {k : Nat} {f : Addr} {fd : FuncData} {ps : List Str} {sp sp' : Sp} (F : FnOk P w K mg base CX k f fd ps sp)
    (h : ∀ vs H Q E, sp' vs H Q E → sp vs H Q E) : FnOk P w K mg base CX k f fd ps sp' :=
  ⟨fun vs H Q E q => F.len vs H Q E (h _ _ _ _ q), fun A outer s H args us vs Q E hr he hb hv hs => F.run A outer s H args us vs Q E hr he hb hv (h _ _ _ _ hs)⟩
theorem Env0.in1 {P : Program} {w : World} {K : PySem.W.Frag} {mg : Str → Option Value} {base : Heap} {A : Around} {outer : List Env} {s : Shared} {H : Hp} (e : Env0 P w K mg base A outer s H) :
    Env0 P w K mg base A.in1 outer s H := ⟨e.frames, e.mod, e.bs, e.bsz, e.funs, e.frf, e.hok, e.bare⟩
section
variable {X : Cx} {pins : List (Addr × Obj)} {σ : St} {H : Hp} {s s' : Shared}
theorem Inv.env0 (I : Inv X pins σ H s) : Env0 X.prog X.w X.K X.mg X.base X.A X.stack s H :=
  ⟨I.ok.frames, I.ok.mod, I.bs, Nat.le_trans I.ok.bsz I.sz, I.stack, I.stkFree, I.hok, I.bare⟩
theorem Inv.after {Q : VK} {u : Value} (I : Inv X pins σ H s) (h : CE X.stack X.prog X.w H s Q u s') : EP X pins σ Q u s' := by
  obtain ⟨v, H', os, bare, un, hok, r, q⟩ := h
  obtain ⟨hh, g, d, t, os'⟩ := s'
  obtain rfl : os' = s.os := os
  exact ⟨v, H', I.call (h' := hh) (g' := g) (d' := d) (t' := t) (ch := []) un hok bare (fun b z => absurd z (by simp)), r, q⟩
end
noncomputable def tCall (sp : Sp) (dvs : List V) (E : XK) (t : TA) : TE := fun σ H Q => t σ H fun vs H1 => sp (vs ++ dvs) H1 Q E
noncomputable def Binds (K : PySem.W.Frag) (fd : FuncData) (ps : List Str) (ds : List Value) : Prop :=
  ∀ (s : Shared) (us : List Value), K.In s.heap → (us ++ ds).length = ps.length → BindsTo s fd ⟨us, []⟩ (ps.zip (us ++ ds))
theorem Binds.all {K : PySem.W.Frag} {fd : FuncData} {ps : List Str} (h : ∀ us : List Value, us.length = ps.length → bindArgs fd ⟨us, []⟩ = pure (ps.zip us)) : Binds K fd ps [] := fun s us _ hl => by
  rw [List.append_nil] at hl ⊢
  exact .of_eq (h us hl)
noncomputable def Passes (CX : CXT) (X : Cx) (E : XK) : Prop := ∀ (pins : List (Addr × Obj)) (σ : St) (H : Hp) (s : Shared) (e : Value) (s' : Shared), Inv X pins σ H s → CX X.stack H s E e s' → X.xe e s'
section
variable {X : Cx} {CX : CXT} {k : Nat} {f C : Addr} {fd : FuncData} {ps : List Str} {sp : Sp} {dvs : List V} {ds : List Value} {E : XK} {x m : Str} {p pos apos : Pos} {e o : Expr} {es : List Expr} {ta : TE} {t : TA}
theorem run_fn {pins : List (Addr × Obj)} {σ : St} {H : Hp} {s : Shared} {Q : VK} {us : List Value} {vs : List V} (F : FnOk X.prog X.w X.K X.mg X.base CX k f fd ps sp) (hr : Room k X.A) (hb : Binds X.K fd ps ds) (hd : Vals dvs ds) (hx : Passes CX X E)
    (I : Inv X pins σ H s) (r : Vals vs us) (h : sp (vs ++ dvs) H Q E) : wpAny (model X.prog X.w) X.A (call (.ref f) us) (EP X pins σ Q) X.xe s := by
  have r2 : Vals (vs ++ dvs) (us ++ ds) := r.append hd
  have hl : (us ++ ds).length = ps.length := by rw [← r2.length]; exact F.len _ _ _ _ h
  refine wpAny_call (codeAny_mono (F.run X.A X.stack s H ⟨us, []⟩ (us ++ ds) (vs ++ dvs) Q E hr I.env0 (hb s us I.kIn hl) r2 h) fun r s' hq => ?_)
  cases r with
  | error e => exact hx pins σ H s e s' I hq
  | ok fl =>
    cases fl with
    | ret u => exact I.after hq
    | next => exact False.elim hq
    | brk => exact False.elim hq
    | cont => exact False.elim hq
theorem pe_call (F : FnOk X.prog X.w X.K X.mg X.base CX k f fd ps sp) (hr : Room k X.A) (hg : Gl X x) (hm : X.mg x = some (.ref f)) (hk : PySem.W.keepIn X.K (.ref f) = true) (hb : Binds X.K fd ps ds) (hd : Vals dvs ds) (hx : Passes CX X E)
    (ha : PA X (e :: es) t) (hdb : (x == ("__debug__" : Str)) = false := by decide) (he : starEach (e :: es) X.env = (false, eval e X.env) :: starEach es X.env := by rfl) (hpl : (backTo pos (starEach es X.env)).any (·.1) = false := by rfl) :
    PE X (.Call (.Name x p) (e :: es) [] pos) (tCall sp dvs E t) := by
  intro pins s σ H Q I h
  refine wpAny_Call_Name_kw (ld_glob I hg hm ?_ hdb)
  refine PySem.W.callWith_K (h₀ := X.base) I.ok.mod.kin hk (thn (ha pos pins s σ H _ I h) fun us s1 ⟨vs, H1, I1, r, q⟩ => ⟨I1.kIn, ?_⟩) he hpl
  exact run_fn F hr hb hd hx I1 r q
structure Mk (K : PySem.W.Frag) (C f : Addr) : Prop where
  makes : PySem.W.makesIn K C = true
  init : PySem.W.findIn K (.ref C) "__init__" = some (some (.ref f))
  fn : PySem.W.isFn K (.ref f) = true
  kp : PySem.W.keepIn K (.ref C) = true
end
section
variable {X : Cx} {CX : CXT} {k : Nat} {f C : Addr} {fd : FuncData} {ps ks : List Str} {sp : Sp} {E : XK} {x m : Str} {p pos apos kpos : Pos} {e o : Expr} {es : List Expr} {kws : List Keyword} {te ta : TE} {t tk : TA} {nm : Option Str}
structure KBinds (K : PySem.W.Frag) (fd : FuncData) (ps ks : List Str) (g : List Value → List Value → List Value) (gV : List V → List V → List V) : Prop where
  to : ∀ (s : Shared) (us ws : List Value), K.In s.heap → (g us ws).length = ps.length → BindsTo s fd ⟨us, ks.zip ws⟩ (ps.zip (g us ws))
  rel : ∀ {vs : List V} {us : List Value} {zs : List V} {ws : List Value}, Vals vs us → Vals zs ws → Vals (gV vs zs) (g us ws)
variable {g : List Value → List Value → List Value} {gV : List V → List V → List V}
end
structure FnScope (N P : List Str) (sc : Scope) : Prop where
  kind : sc.kind = .function
  co : sc.isCoroutine = false
  gen : sc.isGenerator = false
  nd : N.Nodup
  pre : N.take P.length = P
  par : ∀ x ∈ P, sc.names.lookup x = some .local ∨ sc.names.lookup x = some .cell
  nofree : ∀ y ∈ sc.names, y.2 ≠ .free
theorem bindL_out {kindOf : Str → Option NameKind} {x : Str} : ∀ {binds : List (Str × Value)} {m : Str → Option Value}, (∀ v, (x, v) ∉ binds) → bindL kindOf binds m x = m x
  | [], _, _ => rfl
  | (n, v) :: r, m, h => by
    unfold bindL
    rw [bindL_out fun w hw => h w (List.mem_cons_of_mem _ hw)]
    split
    · have : x ≠ n := by rintro rfl; exact h v List.mem_cons_self
      simp [this]
    · rfl
theorem bindC_out {kindOf : Str → Option NameKind} {x : Str} : ∀ {binds : List (Str × Value)} {m : Str → Option Value}, (∀ v, (x, v) ∉ binds) → bindC kindOf binds m x = m x
  | [], _, _ => rfl
  | (n, v) :: r, m, h => by
    unfold bindC
    rw [bindC_out fun w hw => h w (List.mem_cons_of_mem _ hw)]
    split
    · rfl
    · have : x ≠ n := by rintro rfl; exact h v List.mem_cons_self
      simp [this]
theorem bindL_get {kindOf : Str → Option NameKind} {x : Str} {v : Value} : ∀ {P : List Str} {vs : List Value} {i : Nat} {m : Str → Option Value}, P.Nodup → P[i]? = some x → vs[i]? = some v → kindOf x = some .local →
    bindL kindOf (P.zip vs) m x = some v
  | [], _, _, _, _, h, _, _ => by simp at h
  | _ :: _, [], _, _, _, _, h, _ => by simp at h
  | p :: P, w :: vs, 0, m, nd, h1, h2, hk => by
    simp at h1 h2; subst h1; subst h2
    show bindL kindOf ((p, w) :: P.zip vs) m p = _
    unfold bindL
    rw [bindL_out fun v hv => (List.nodup_cons.mp nd).1 (List.of_mem_zip hv).1, if_pos hk]
    simp
  | p :: P, w :: vs, i + 1, m, nd, h1, h2, hk => by
    show bindL kindOf ((p, w) :: P.zip vs) m x = _
    unfold bindL
    exact bindL_get (i := i) (List.nodup_cons.mp nd).2 (by simpa using h1) (by simpa using h2) hk
theorem bindC_get {kindOf : Str → Option NameKind} {x : Str} {v : Value} : ∀ {P : List Str} {vs : List Value} {i : Nat} {m : Str → Option Value}, P.Nodup → P[i]? = some x → vs[i]? = some v → kindOf x ≠ some .local →
    bindC kindOf (P.zip vs) m x = some v
  | [], _, _, _, _, h, _, _ => by simp at h
  | _ :: _, [], _, _, _, _, h, _ => by simp at h
  | p :: P, w :: vs, 0, m, nd, h1, h2, hk => by
    simp at h1 h2; subst h1; subst h2
    show bindC kindOf ((p, w) :: P.zip vs) m p = _
    unfold bindC
    rw [bindC_out fun v hv => (List.nodup_cons.mp nd).1 (List.of_mem_zip hv).1, if_neg hk]
    simp
  | p :: P, w :: vs, i + 1, m, nd, h1, h2, hk => by
    show bindC kindOf ((p, w) :: P.zip vs) m x = _
    unfold bindC
    exact bindC_get (i := i) (List.nodup_cons.mp nd).2 (by simpa using h1) (by simpa using h2) hk
noncomputable def start (N : List Str) (vs : List V) : St := vs.map some ++ List.replicate (N.length - vs.length) none
noncomputable def cxOf (CX : CXT) (P : Program) (w : World) (K : PySem.W.Frag) (mg : Str → Option Value) (base : Heap) (N : List Str) (qual : Str) (scope : Scope) (f : Addr) (cd : Value) (A : Around) (outer : List Env) (s : Shared) (H : Hp) (E : XK) : Cx where
  prog := P
  w := w
  K := K
  mg := mg
  base := base
  A := A.deeper (envOfC qual scope s.heap.objs.size f cd)
  N := N
  s₀ := s
  H₀ := H
  env := envOfC qual scope s.heap.objs.size f cd
  outer := outer
  stack := envOfC qual scope s.heap.objs.size f cd :: outer
  ex := []
  calm := true
  fn := fun _ => true
  pn := []
  xe := fun e s' => wpAny (model P w) (A.deeper (envOfC qual scope s.heap.objs.size f cd)) (leaving (envOfC qual scope s.heap.objs.size f cd) e) (fun _ s'' => CX outer H s E e s'') (fun e' s'' => CX outer H s E e' s'') s'
theorem cell_has {sc : Scope} {n : Nat} {x : Str} (h : sc.names.lookup x = some .cell) : ∃ c, (cellsFrom n sc.names []).lookup x = some c := by
  have q := PySem.W.cellsFrom_some sc.names n [] (.inl h)
  exact Option.isSome_iff_exists.mp q
theorem inv_start {CX : CXT} {P : Program} {w : World} {K : PySem.W.Frag} {mg : Str → Option Value} {base : Heap} {N ps : List Str} {qual : Str} {scope : Scope} {f : Addr} {cd : Value} {A : Around} {outer : List Env} {s s1 : Shared} {H : Hp} {E : XK} {us : List Value} {vs : List V}
    (S : FnScope N ps scope) (hd : A.handled = none) (e0 : Env0 P w K mg base A outer s H) (hl : vs.length = ps.length) (r : Vals vs us)
    (x : InCallC s s.heap.objs.size (bindL (envOfC qual scope s.heap.objs.size f cd).kindOf (ps.zip us) fun _ => none) (cellsFrom (s.heap.objs.size + 1) scope.names []) (bindC (envOfC qual scope s.heap.objs.size f cd).kindOf (ps.zip us) fun _ => none) s1) :
    Inv (cxOf CX P w K mg base N qual scope f cd A outer s H E) [] (start N vs) H s1 := by
  have hpl : ps.length ≤ N.length := by have := congrArg List.length S.pre; rw [List.length_take] at this; omega
  obtain ⟨h1, tk, rfl, hk⟩ := x.done
  have noA : ∀ b : Addr, b ∉ (cxOf CX P w K mg base N qual scope f cd A outer s H E).ex := fun b z => absurd (show b ∈ ([] : List Addr) from z) (by simp)
  refine ⟨⟨e0.mod, S.kind, rfl, rfl, Nat.le_refl _, fun y z c h1 h2 => ?_, fun y hy => ?_, fun y c _ h => ?_, fun _ => hd, Around.frames_deeper e0.frames, .inr ⟨rfl, rfl⟩, fun b z => absurd z (noA b), e0.bs, e0.bsz, fun b _ _ => noA b, fun b z => absurd z (noA b), e0.funs, e0.frf⟩,
    rfl, e0.bare, Un.kept hk, ⟨_, x.toInCall.ns, fun i y v h1 h2 h3 => ?_⟩, fun y c h => ⟨_, x.cell y c h⟩, e0.hok.fresh (Nat.le_refl _), fun y c h => ?_, fun p hp => absurd (show p ∈ ([] : List (Addr × Obj)) from hp) (by simp), e0.hok.kept hk, ?_⟩
  · exact name_of_addr x.apart (PySem.mem_of_lookup h1) (PySem.mem_of_lookup h2)
  · have hy : scope.names.lookup y = some .cell ∨ scope.names.lookup y = some .free := hy
    rcases hy with hy | hy
    · exact cell_has hy
    · exact absurd rfl (S.nofree _ (PySem.mem_of_lookup hy))
  · exact Nat.le_of_lt (x.above y c (PySem.mem_of_lookup h))
  · have hi : i < vs.length := by
      unfold start at h2
      by_cases hi : i < vs.length
      · exact hi
      · rw [List.getElem?_append_right (by simpa using hi)] at h2
        rw [List.getElem?_replicate] at h2
        split at h2 <;> cases h2
    have ha : vs[i]? = some v := by
      unfold start at h2
      rw [List.getElem?_append_left (by simpa using hi), List.getElem?_map] at h2
      cases e : vs[i]? with
      | none => rw [e] at h2; cases h2
      | some a => rw [e] at h2; cases h2; rfl
    obtain ⟨u, hu, rv⟩ := r.get ha
    have hp : ps[i]? = some y := by
      rw [← S.pre, List.getElem?_take_of_lt (by omega)]; exact h1
    have ndP : ps.Nodup := by rw [← S.pre]; exact S.nd.sublist (List.take_sublist _ _)
    refine ⟨u, rv, ?_⟩
    rcases S.par y (List.mem_of_getElem? hp) with k | k
    · exact .inl ⟨k, bindL_get ndP hp hu k⟩
    · obtain ⟨c, e⟩ := cell_has (n := s.heap.objs.size + 1) k
      refine .inr ⟨.inl k, c, e, ?_⟩
      have q := x.cell y c e
      rw [bindC_get ndP hp hu (by show scope.names.lookup y ≠ _; rw [k]; decide)] at q
      exact q
  · exact e0.hok.fresh (Nat.le_of_lt (x.above y c (PySem.mem_of_lookup h)))
  · unfold start
    show _ = N.length
    rw [List.length_append, List.length_map, List.length_replicate]
    omega
theorem fn_of {CX : CXT} {P : Program} {w : World} {K : PySem.W.Frag} {mg : Str → Option Value} {base : Heap} {k : Nat} {f : Addr} {name qual : Str} {params : Arguments} {body : List Stmt} {scope : Scope} {dV kV doc pm cdv ct oc : Value} {an od : Option Addr}
    {osl : Array (Option Value)} {N ps : List Str} {sp : Sp} (lk : K.lookup f = some ⟨oc, od, .func (PySem.W.fnOf name qual params body scope dV kV doc pm an cdv ct), osl⟩) (hcd : PySem.W.codeIn K cdv qual = true) (S : FnScope N ps scope)
    (len : ∀ vs H Q E, sp vs H Q E → vs.length = ps.length)
    (hbody : ∀ (A : Around) (outer : List Env) (s : Shared) (H : Hp) (vs : List V) (Q : VK) (E : XK), Room k (A.deeper (envOfC qual scope s.heap.objs.size f cdv)) → sp vs H Q E →
      ∃ t, PSs (cxOf CX P w K mg base N qual scope f cdv A outer s H E) body t ∧ t { nx := fun _ H' => Q .non H', rt := Q } (start N vs) H) :
    FnOk P w K mg base CX (k + 1) f (PySem.W.fnOf name qual params body scope dV kV doc pm an cdv ct) ps sp := by
  refine ⟨len, fun A outer s H args us vs Q E hr e0 hb r hsp => ?_⟩
  have hl := len _ _ _ _ hsp
  have KX : K.In s.heap := e0.mod.kin.keeps fun b o e => (e0.bs b o e).1
  have lim : s.heap.NoLimit := e0.mod.nolimit.keeps fun b o e => (e0.bs b o e).1
  have hkind : ∀ y ∈ ps.zip us, scope.names.lookup y.1 = some .local ∨ (scope.names.lookup y.1 = some .cell ∧ ((cellsFrom (s.heap.objs.size + 1) scope.names []).lookup y.1).isSome = true) := fun ⟨n, v⟩ hy => by
    rcases S.par n (List.of_mem_zip hy).1 with q | q
    · exact .inl q
    · exact .inr ⟨q, PySem.W.cellsFrom_some _ _ _ (.inl q)⟩
  refine codeAny_call_function hr.depth (KX _ _ lk) rfl S.co S.gen rfl (PySem.W.codeRec_of KX hcd) (hb _ _ _ _ ?_)
  refine wpAny_newFunctionEnv_cells S.kind hkind fun env he s1 x => ?_
  subst he
  refine ⟨lim.keeps x.toInCall.keep, codeAny_func ?_⟩
  obtain ⟨t, ht, hq⟩ := hbody A outer s H vs Q E (hr.deeper _) hsp
  have I : Inv (cxOf CX P w K mg base N qual scope f cdv A outer s H E) [] (start N vs) H s1 := inv_start S hr.hd e0 hl r x
  refine wpAny_mono (ht [] s1 (start N vs) H _ I hq) (fun fl s' hs => ?_) fun e s' hs => hs
  have fin : ∀ {σ' : St} {H' : Hp} {v : V} {u : Value}, Inv (cxOf CX P w K mg base N qual scope f cdv A outer s H E) [] σ' H' s' → RelV v u → Q v H' → CE outer P w H s Q u s' :=
    fun {σ' H' v u} J rv q => ⟨v, H', J.os, J.bare, J.base, J.hok, rv, q⟩
  cases fl with
  | ret u =>
    obtain ⟨v, σ', H', J, rv, q⟩ := hs
    exact fin J rv q
  | next =>
    obtain ⟨σ', H', J, q⟩ := hs
    exact fin (v := V.non) (u := Value.none) J rfl q
  | brk =>
    obtain ⟨_, _, _, q⟩ := hs
    exact False.elim q
  | cont =>
    obtain ⟨_, _, _, q⟩ := hs
    exact False.elim q
end L2
namespace L2
open PySem PySem.Spec PyProof.Rows
section
variable {X : Cx} {x : Str} {p pos : Pos} {e : Expr} {es : List Expr} {t : TA} {id T : String} {r : List V → Hp → VK → Prop}
noncomputable def tCB (r : List V → Hp → VK → Prop) (t : TA) : TE := fun σ H Q => t σ H fun vs H1 => r vs H1 Q
theorem pe_callB (hc : CallR X (.builtin id) r) (hg : Gl X x) (hm : X.mg x = none) (hv : bootBuiltins x = some (.builtin id)) (ha : PA X (e :: es) t) (hn : x ≠ "__name__" := by decide) (hdb : (x == ("__debug__" : Str)) = false := by decide)
    (he : starEach (e :: es) X.env = (false, eval e X.env) :: starEach es X.env := by rfl) (hpl : (backTo pos (starEach es X.env)).any (·.1) = false := by rfl) : PE X (.Call (.Name x p) (e :: es) [] pos) (tCB r t) := by
  intro pins s σ H Q I h
  refine wpAny_Call_Name_kw (ld_blt I hg hm hv ?_ hn hdb)
  exact PyProof.Rows.callWith_builtin1 (thn (ha pos pins s σ H _ I h) fun us s1 ⟨vs, H1, I1, r1, q1⟩ => hc pins s1 σ H1 vs us Q I1 r1 q1) he hpl
theorem pe_callTy (hc : CallR X (.type T) r) (hg : Gl X x) (hm : X.mg x = none) (hv : bootBuiltins x = some (.type T)) (ha : PA X (e :: es) t) (hn : x ≠ "__name__" := by decide) (hdb : (x == ("__debug__" : Str)) = false := by decide)
    (he : starEach (e :: es) X.env = (false, eval e X.env) :: starEach es X.env := by rfl) (hpl : (backTo pos (starEach es X.env)).any (·.1) = false := by rfl) : PE X (.Call (.Name x p) (e :: es) [] pos) (tCB r t) := by
  intro pins s σ H Q I h
  refine wpAny_Call_Name_kw (ld_blt I hg hm hv ?_ hn hdb)
  exact PyProof.Rows.callWith_type1 (thn (ha pos pins s σ H _ I h) fun us s1 ⟨vs, H1, I1, r1, q1⟩ => hc pins s1 σ H1 vs us Q I1 r1 q1) he hpl
end
end L2
namespace HT
open PySem PyProof.Rows
noncomputable def lexLt : List Int → List Int → Bool
  | [], [] => false
  | [], _ :: _ => true
  | _ :: _, [] => false
  | x :: xs, y :: ys => if x = y then lexLt xs ys else decide (x < y)
theorem lexLt_cons (x y : Int) (xs ys : List Int) : lexLt (x :: xs) (y :: ys) = if x = y then lexLt xs ys else decide (x < y) := rfl
theorem lexLt_nil_nil : lexLt [] [] = false := rfl
theorem lexLt_nil_cons (y : Int) (ys : List Int) : lexLt [] (y :: ys) = true := rfl
theorem lexLt_cons_nil (x : Int) (xs : List Int) : lexLt (x :: xs) [] = false := rfl
theorem eqAt_int (A : Around) (s : Shared) (a : Int) (t : Tok) (c : Int) (u : Tok) : ∃ e, SeqAt.EqAt A s (.int a t) (.int c u) e ∧ (e = true ↔ a = c) :=
  ⟨(a == c), SeqAt.EqAt.int_int a t c u, by simp⟩
theorem rcLt_int (A : Around) (s : Shared) (a : Int) (t : Tok) (c : Int) (u : Tok) (prog : Program) (w : World) (E : Value → Shared → Prop) (Q : Value → Shared → Prop) (h : Q (.bool (decide (a < c))) s) :
    wpAny (model prog w) A (richCompare .Lt (.int a t) (.int c u)) Q E s :=
  (PyProof.Rows.lt_int h : wpAny (model prog w) A (compareOp .Lt (.int a t) (.int c u)) Q E s)
section
open PySem.SeqAt
open PySem.AutoSeq1 (wpAny_loadPart')
open PySem.MeetsSeq PySem.MeetsSeq2 PySem.MeetsSeq3
theorem tuple_lt_ints (l b : Addr) (items items2 : Array Value) (n n2 : Nat) (dd dd2 : Option Addr) (sl sl2 : Array (Option Value)) (ns ms : List Int) (hi : IntsAre items.toList ns) (hj : IntsAre items2.toList ms) :
    Meets (Builtin.«tuple.__lt__» ⟨[.ref l, .ref b], []⟩)
      (fun _ R s => s.heap.get? l = some { cls := .type "tuple", dict := dd, data := .seq items n, slots := sl } ∧ s.heap.get? b = some { cls := .type "tuple", dict := dd2, data := .seq items2 n2, slots := sl2 } ∧
        R (.ok (.ret (.bool (lexLt ns ms)))) s) :=
  .of_wp fun prog w A R s h => by
    obtain ⟨hp, g, d, tk, os⟩ := s; obtain ⟨hl, hb, h⟩ := h
    have f2 := AutoSeq1.sub_tuple_tuple
    have z1 : items.size = ns.length := by rw [← hi.length]; simp
    have z2 : items2.size = ms.length := by rw [← hj.length]; simp
    wp_walk using wpAny_loadPart' hl, wpAny_loadPart' hb, wpAny_forIn_list _ (fun rest b s' => b.1 = none ∧ s' = ⟨hp, g, d, tk, os⟩ ∧ ∃ (vs ws : List Value) (ns' ms' : List Int), rest = vs.zip ws ∧
      IntsAre vs ns' ∧ IntsAre ws ms' ∧ ns'.length + items2.size = ms'.length + items.size ∧ R (.ok (.ret (.bool (lexLt ns' ms')))) ⟨hp, g, d, tk, os⟩) _
    case turn =>
      rintro ⟨y, x⟩ rest b s' ⟨hb', rfl, vs, ws, ns', ms', hz, hvi, hwi, hlen, hR⟩
      cases hvi with
      | nil => rw [List.zip_nil_left] at hz; cases hz
      | cons a t hvi' =>
        cases hwi with
        | nil => rw [List.zip_nil_right] at hz; cases hz
        | cons c u hwi' =>
          rw [List.zip_cons_cons] at hz
          injection hz with hyx hrest
          injection hyx with hy hx
          subst hy hx
          rw [lexLt_cons] at hR
          simp only [List.length_cons] at hlen
          obtain ⟨e, he, hiff⟩ := eqAt_int A.in1 ⟨hp, g, d, tk, os⟩ a t c u
          refine wpAny_bind (he prog w _ _ ?_)
          cases e with
          | true =>
            rw [if_pos (hiff.mp rfl)] at hR
            wp_walk
            exact ⟨rfl, rfl, _, _, _, _, hrest, hvi', hwi', by omega, hR⟩
          | false =>
            rw [if_neg (fun q => absurd (hiff.mpr q) Bool.false_ne_true)] at hR
            have hri := rcLt_int A.in1 ⟨hp, g, d, tk, os⟩ a t c u prog w
            wp_walk using hri
            exact ⟨_, rfl, by simpa using hR⟩
    case fin =>
      rintro ⟨b1, b2⟩ s' ⟨hb', rfl, vs, ws, ns', ms', hz, hvi, hwi, hlen, hR⟩
      simp only at hb'
      subst hb'
      have hv : lexLt ns' ms' = decide (items.size < items2.size) := by
        cases hvi with
        | nil =>
          cases hwi with
          | nil =>
            simp only [List.length_nil] at hlen
            rw [lexLt_nil_nil]
            exact (decide_eq_false (by omega)).symm
          | cons c u hw =>
            simp only [List.length_nil, List.length_cons] at hlen
            rw [lexLt_nil_cons]
            exact (decide_eq_true (by omega)).symm
        | cons a t hv =>
          cases hwi with
          | nil =>
            simp only [List.length_nil, List.length_cons] at hlen
            rw [lexLt_cons_nil]
            exact (decide_eq_false (by omega)).symm
          | cons c u hw =>
            rw [List.zip_cons_cons] at hz
            cases hz
      rw [hv] at hR
      wp_walk
      exact ⟨_, rfl, by simpa [Builtin.Tuple.tupleCompareSizes] using hR⟩
    case h =>
      exact ⟨rfl, rfl, items.toList, items2.toList, ns, ms, rfl, hi, hj, by omega, h⟩
end
section
variable {prog : Program} {w : World} {A : Around} {E : Value → Shared → Prop} {s : Shared}
theorem lt_tupInts {l b : Addr} {items items2 : Array Value} {ns ms : List Int} {Q : Value → Shared → Prop} (hl : IsTup s.heap l items) (hb : IsTup s.heap b items2) (hi : IntsAre items.toList ns) (hj : IntsAre items2.toList ms)
    (hu : A.units < cLine) (h : Q (.bool (lexLt ns ms)) s) : wpAny (model prog w) A (compareOp .Lt (.ref l) (.ref b)) Q E s := by
  obtain ⟨⟨cls, dd, data, sl⟩, ho, hc, n, hd⟩ := id hl
  obtain ⟨⟨cls2, dd2, data2, sl2⟩, ho2, hc2, n2, hd2⟩ := id hb
  simp only at hc hd hc2 hd2
  subst hc hd hc2 hd2
  exact richCompare_meets_room (op := .Lt) ⟨_, ho, rfl⟩ ⟨_, ho2, rfl⟩ PySem.F.slot_tuple_lt PySem.F.entry_tuple_lt (PySem.F.args_tuple_lt_2 _ _) (tuple_lt_ints l b items items2 n n2 dd dd2 sl sl2 ns ms hi hj)
    ⟨ho, ho2, show Value.bool (lexLt ns ms) ≠ Value.notImplemented ∧ Q (.bool (lexLt ns ms)) s from ⟨(fun x => nomatch x), h⟩⟩ hu
theorem cat_tup {t b : Addr} {vs ws : List Value} {Q : Value → Shared → Prop} (ht : IsTup s.heap t vs.toArray) (hb : IsTup s.heap b ws.toArray) (hv : vs ≠ [])
    (h1 : ws = [] → Q (.ref t) s) (h2 : ws ≠ [] → Q (.ref s.heap.objs.size) { s with heap := s.heap.push { cls := .type "tuple", data := .seq (vs ++ ws).toArray } })
    (hsz : vs.length + ws.length ≤ sizeLine) : wpAny (model prog w) A (binaryOp .Add (.ref t) (.ref b)) Q E s := by
  obtain ⟨⟨cls, dd, data, sl⟩, ho, hc, n, hd⟩ := id ht
  obtain ⟨⟨cls2, dd2, data2, sl2⟩, ho2, hc2, n2, hd2⟩ := id hb
  simp only at hc hd hc2 hd2
  subst hc hd hc2 hd2
  have e : vs.toArray ++ ws.toArray = (vs ++ ws).toArray := by simp
  by_cases hw : ws = []
  · exact concat_meets ⟨_, ho, rfl⟩ ⟨_, ho2, rfl⟩ noFill_tuple_add seq_tuple_add PySem.F.slot_tuple_add PySem.F.entry_tuple_add (PySem.F.args_tuple_add_2 _ _)
      (tuple_addW1 t b vs.toArray ws.toArray n n2 dd dd2 sl sl2 (by simpa using hv) (by simp [hw])) ⟨ho, ho2, h1 hw⟩
  · refine concat_meets ⟨_, ho, rfl⟩ ⟨_, ho2, rfl⟩ noFill_tuple_add seq_tuple_add PySem.F.slot_tuple_add PySem.F.entry_tuple_add (PySem.F.args_tuple_add_2 _ _)
      (tuple_addW2 t b vs.toArray ws.toArray n n2 dd dd2 sl sl2 (by simpa using hv) (by simpa using hw) (by rw [List.size_toArray, List.size_toArray]; exact hsz)) ⟨ho, ho2, ?_⟩
    rw [e]
    exact h2 hw
noncomputable def sIx (n d : Nat) : Option Int → Nat
  | none => d
  | some v => if v < 0 then (v + (n : Int)).toNat else min v.toNat n
theorem sIx_le (n d : Nat) (hd : d ≤ n) (o : Option Int) : sIx n d o ≤ n := by
  cases o with
  | none => exact hd
  | some v =>
    show (if v < 0 then (v + (n : Int)).toNat else min v.toNat n) ≤ n
    by_cases hv : v < 0
    · rw [if_pos hv]; omega
    · rw [if_neg hv]; exact Nat.min_le_right _ _
theorem clip_eq (v : Int) (n d : Nat) : (if v < 0 then max (v + (n : Int)) 0 else min v (n : Int)) = ((sIx n d (some v) : Nat) : Int) := by
  show (if v < 0 then max (v + (n : Int)) 0 else min v (n : Int)) = (((if v < 0 then (v + (n : Int)).toNat else min v.toNat n) : Nat) : Int)
  by_cases hv : v < 0
  · simp only [if_pos hv]; omega
  · simp only [if_neg hv]; omega
theorem adjust_gen (lo hi : Option Int) (n : Nat) : Builtin.Slice.sliceAdjust lo hi 1 (n : Int) = (((sIx n 0 lo : Nat) : Int), ((sIx n n hi : Nat) : Int)) := by
  have h1 : ¬ ((1 : Int) < 0) := by omega
  unfold Builtin.Slice.sliceAdjust
  simp only [h1, if_false]
  refine Prod.ext ?_ ?_
  · cases lo with
    | none => rfl
    | some v => exact clip_eq v n 0
  · cases hi with
    | none => rfl
    | some v => exact clip_eq v n n
theorem places_gen (i j : Nat) : Builtin.Slice.slicePlaces (i : Int) (j : Int) 1 = j - i := by
  unfold Builtin.Slice.slicePlaces
  have h1 : (1 : Int) > 0 := by omega
  simp only [h1, if_true, Int.ediv_one]
  split <;> omega
theorem slicePart_ {v : Value} {o : Option Int} {Q : Option Int → Shared → Prop} (p : IsPart v o) (h : Q o s) : wpAny (model prog w) A (Builtin.Slice.slicePartIndex v) Q E s := by
  cases p with
  | none => exact slicePart_none h
  | int i t => exact slicePart_int h
theorem sliceApplied_gen {sl : Addr} {vl vu : Value} {lo hi : Option Int} {n : Nat} {Q : Int × Int × Nat → Shared → Prop} (hs : s.heap.IsSliceOf sl vl vu .none) (pl : IsPart vl lo) (pu : IsPart vu hi)
    (h : Q (((sIx n 0 lo : Nat) : Int), 1, sIx n n hi - sIx n 0 lo) s) : wpAny (model prog w) A (Builtin.Slice.sliceApplied (.ref sl) (pure (n : Int))) Q E s := by
  obtain ⟨os, hos, hcs, hds⟩ := id hs
  unfold Builtin.Slice.sliceApplied Builtin.Slice.sliceFields
  refine wpAny_bind (wpAny_bind (wpAny_field hos hds (x := vl) rfl (wpAny_bind (wpAny_field hos hds (x := vu) rfl (wpAny_bind (wpAny_field hos hds (x := .none) rfl (wpAny_pure ?_)))))))
  refine wpAny_bind (slicePart_none ?_)
  show wpAny _ _ (if ((1 : Int) == 0) = true then _ else _) _ _ s
  rw [if_neg (by decide)]
  refine wpAny_bind (slicePart_ pl (wpAny_bind (slicePart_ pu (wpAny_bind (wpAny_pure ?_)))))
  show wpAny _ _ (match Builtin.Slice.sliceAdjust lo hi 1 (n : Int) with | (lo, hi) => pure (lo, (1 : Int), Builtin.Slice.slicePlaces lo hi 1)) _ _ s
  rw [adjust_gen lo hi n]
  show wpAny _ _ (pure (((sIx n 0 lo : Nat) : Int), (1 : Int), Builtin.Slice.slicePlaces ((sIx n 0 lo : Nat) : Int) ((sIx n n hi : Nat) : Int) 1)) _ _ s
  rw [places_gen]
  exact wpAny_pure h
theorem pick_gen (xs : Array Value) (i k : Nat) : ((List.range k).filterMap fun (m : Nat) => xs[((i : Int) + (m : Int) * 1).toNat]?).toArray = ((xs.toList.drop i).take k).toArray := by
  have e : (fun (m : Nat) => xs[((i : Int) + (m : Int) * 1).toNat]?) = fun m => xs[i + m]? := by
    funext m
    have : ((i : Int) + (m : Int) * 1).toNat = i + m := by omega
    rw [this]
  rw [e]
  have := pick_run xs i k
  rw [List.filterMap_map] at this
  have e2 : ((fun x => xs[x]?) ∘ fun x => i + x) = fun m => xs[i + m]? := rfl
  rw [e2] at this
  rw [this]
theorem getItem_tuple_cut {t sl : Addr} {items : Array Value} {vl vu : Value} {lo hi : Option Int} {Q : Value → Shared → Prop} (ht : IsTup s.heap t items) (hs : s.heap.IsSliceOf sl vl vu .none) (pl : IsPart vl lo) (pu : IsPart vu hi)
    (hw : ¬ (sIx items.size 0 lo = 0 ∧ sIx items.size items.size hi = items.size))
    (h : Q (.ref s.heap.objs.size) { s with heap := s.heap.push { cls := .type "tuple", data := .seq ((items.toList.drop (sIx items.size 0 lo)).take (sIx items.size items.size hi - sIx items.size 0 lo)).toArray } })
    (hsz : items.size ≤ sizeLine) : wpAny (model prog w) A (getItem (.ref t) (.ref sl)) Q E s := by
  have htake : sizeOk (.seq ((items.toList.drop (sIx items.size 0 lo)).take (sIx items.size items.size hi - sIx items.size 0 lo)).toArray) := by
    show ((items.toList.drop (sIx items.size 0 lo)).take (sIx items.size items.size hi - sIx items.size 0 lo)).toArray.size ≤ sizeLine
    rw [List.size_toArray, List.length_take, List.length_drop, Array.length_toList]
    omega
  have hj : sIx items.size items.size hi ≤ items.size := sIx_le _ _ (Nat.le_refl _) hi
  obtain ⟨os, hos, hcs, hds⟩ := id hs
  have hTs : s.TypeIs (.ref sl) "slice" := ⟨os, hos, hcs⟩
  unfold getItem
  try with_reducible refine wpAny_holding ?_
  first | refine wpAny_bind (wpAny_pure ?_) | skip
  refine wpAny_bind (wpAny_sequenceKey ht.typeIs (by decide) ?_)
  refine wpAny_bind (wpAny_callSpecial?_slot (name := Str.ofString "__getitem__") ht.typeIs PyProof.Rows.slot_tuple_getitem
    (wpAny_call_entry PyProof.Rows.slot_tuple_getitem ht.typeIs entry_tuple_getitem ?_ (args_tuple_getitem _ _)))
  show wpAny _ _ (Builtin.Tuple.tupleItemsOf (.ref t) >>= _) _ _ s
  refine wpAny_bind (tupleItemsOf_ ht ?_)
  refine wpAny_bind (wpAny_typeOf hTs ?_)
  rw [if_pos (by decide)]
  refine wpAny_bind (sliceApplied_gen hs pl pu ?_)
  have hno : ¬ ((((sIx items.size 0 lo : Nat) : Int) == 0 && (1 : Int) == 1 && (sIx items.size items.size hi - sIx items.size 0 lo) == items.size) = true) := by
    intro q
    rw [Bool.and_eq_true, Bool.and_eq_true] at q
    have q1 : ((sIx items.size 0 lo : Nat) : Int) = 0 := eq_of_beq q.1.1
    have q2 : sIx items.size items.size hi - sIx items.size 0 lo = items.size := eq_of_beq q.2
    exact hw ⟨by omega, by omega⟩
  show wpAny _ _ (if (((sIx items.size 0 lo : Nat) : Int) == 0 && (1 : Int) == 1 && (sIx items.size items.size hi - sIx items.size 0 lo) == items.size) = true then _ else _) _ _ s
  rw [if_neg hno, pick_gen]
  first
    | exact wpAny_bind (m := Builtin.Tuple.tupleExact _) (wpAny_newObj_type (wpAny_pure ⟨_, rfl, wpAny_pure h⟩) htake)
    | exact wpAny_bind (m := Builtin.Tuple.tupleExact _) (wpAny_newObj_type (wpAny_bind (wpAny_pure (wpAny_pure ⟨_, rfl, wpAny_pure h⟩))) htake)
    | exact wpAny_bind (wpAny_bind (m := Builtin.Tuple.tupleExact _) (wpAny_newObj_type (wpAny_pure (wpAny_pure ⟨_, rfl, wpAny_pure h⟩)) htake))
    | exact wpAny_bind (wpAny_bind (m := Builtin.Tuple.tupleExact _) (wpAny_newObj_type (wpAny_pure ⟨_, rfl, wpAny_pure h⟩) htake))
end
end HT
namespace L2
open PySem PySem.Spec PyProof.Rows
noncomputable abbrev TO := St → Hp → (Option Int → Hp → Prop) → Prop
noncomputable def PO (X : Cx) (e : Option Expr) (t : TO) : Prop :=
  ∀ (pins : List (Addr × Obj)) (s : Shared) (σ : St) (H : Hp) (Q : Option Int → Hp → Prop), Inv X pins σ H s → t σ H Q →
    wpAny (model X.prog X.w) X.A (evalPart e X.env) (fun u s' => ∃ o H', Inv X pins σ H' s' ∧ IsPart u o ∧ Q o H') X.xe s
noncomputable def tNoPart : TO := fun _ H Q => Q none H
noncomputable def tPart (t : TE) : TO := fun σ H Q => t σ H fun x H1 => ∃ i, x = .int i ∧ Q (some i) H1
theorem intsAre_of {ns : List Int} : ∀ {us : List Value}, Vals (ns.map V.int) us → IntsAre us ns := by
  induction ns with
  | nil => intro us r; rw [List.map_nil] at r; cases r; exact .nil
  | cons n ns ih =>
    intro us r
    rw [List.map_cons] at r
    cases r with
    | cons r1 r2 =>
      obtain ⟨t, e⟩ := r1
      subst e
      exact .cons n t (ih r2)
section
variable {X : Cx} {e : Expr} {te : TE} {lo hi : Option Expr} {tl th : TO} {pos p2 : Pos}
theorem po_none : PO X none tNoPart := by
  intro pins s σ H Q I h
  rw [evalPart_none]
  exact wpAny_pure ⟨none, H, I, .none, h⟩
theorem po_some (h : PE X e te) : PO X (some e) (tPart te) := by
  intro pins s σ H Q I hw
  rw [evalPart_some]
  refine thn (h pins s σ H _ I hw) fun u s1 ⟨x, H1, I1, r1, q1⟩ => ?_
  obtain ⟨i, rfl, q⟩ := q1
  obtain ⟨t, rfl⟩ := r1
  exact ⟨some i, H1, I1, .int i t, q⟩
noncomputable def SlR (X : Cx) (r : V → Option Int → Option Int → Hp → VK → Prop) : Prop :=
  ∀ (pins : List (Addr × Obj)) (s : Shared) (σ : St) (H : Hp) (x : V) (v vl vu : Value) (lo hi : Option Int) (sl : Addr) (Q : VK), Inv X pins σ H s → RelV x v → s.heap.IsSliceOf sl vl vu .none → IsPart vl lo → IsPart vu hi → r x lo hi H Q →
    ∃ T id, typeLookup (.type T) "__getitem__" = pure (some (.builtin id)) ∧ s.TypeIs v T ∧ wpAny (model X.prog X.w) X.A (getItem v (.ref sl)) (EP X pins σ Q) X.xe s
theorem SlR.or {r r' : V → Option Int → Option Int → Hp → VK → Prop} (h : SlR X r) (h' : SlR X r') : SlR X (fun x lo hi H Q => r x lo hi H Q ∨ r' x lo hi H Q) := by
  intro pins s σ H x v vl vu lo hi sl Q I rx hs pl pu q
  rcases q with q | q
  · exact h pins s σ H x v vl vu lo hi sl Q I rx hs pl pu q
  · exact h' pins s σ H x v vl vu lo hi sl Q I rx hs pl pu q
noncomputable def tSl (r : V → Option Int → Option Int → Hp → VK → Prop) (te : TE) (tl th : TO) : TE := fun σ H Q => te σ H fun x H1 => tl σ H1 fun l H2 => th σ H2 fun u H3 => r x l u H3 Q
theorem pe_slice {r : V → Option Int → Option Int → Hp → VK → Prop} (hr : SlR X r) (he : PE X e te) (hl : PO X lo tl) (hu : PO X hi th) : PE X (.Subscript e (.Slice lo hi none p2) pos) (tSl r te tl th) := by
  intro pins s σ H Q I h
  refine Subscript_ (thn (he pins s σ H _ I h) fun v s1 ⟨x, H1, I1, r1, q1⟩ => ?_)
  refine wpAny_Slice (thn (hl pins s1 σ H1 _ I1 q1) fun vl s2 ⟨l, H2, I2, pl, q2⟩ => thn (hu pins s2 σ H2 _ I2 q2) fun vu s3 ⟨u, H3, I3, pu, q3⟩ => ?_)
  rw [evalPart_none]
  refine wpAny_pure ?_
  have I4 : Inv X pins σ H3 { s3 with heap := s3.heap.push { cls := .type "slice", data := .fields #[vl, vu, .none] } } := I3.kept (t' := s3.toks) fun b ob q => Heap.get?_push_of_some _ q
  obtain ⟨T, id, hT, ht, hg⟩ := hr pins { s3 with heap := s3.heap.push { cls := .type "slice", data := .fields #[vl, vu, .none] } } σ H3 x v vl vu l u s3.heap.objs.size Q I4 r1 (Heap.IsSliceOf.new ..) pl pu q3
  show wpAny (model X.prog X.w) X.A (subscriptTail e (.Slice lo hi none p2) v (.ref s3.heap.objs.size)) (EP X pins σ Q) X.xe { s3 with heap := s3.heap.push { cls := .type "slice", data := .fields #[vl, vu, .none] } }
  exact tail_any (ops := [.ref s3.heap.objs.size, v]) ht hT hg (by with_unfolding_all rfl)
noncomputable def cutV (xs : List V) (lo hi : Option Int) : List V := (xs.drop (HT.sIx xs.length 0 lo)).take (HT.sIx xs.length xs.length hi - HT.sIx xs.length 0 lo)
theorem cutV_length (xs : List V) (lo hi : Option Int) : (cutV xs lo hi).length ≤ xs.length := by
  unfold cutV
  rw [List.length_take, List.length_drop]
  omega
noncomputable def rSlT (K : PySem.W.Frag) : V → Option Int → Option Int → Hp → VK → Prop := fun x lo hi H Q => ∃ a xs, x = .ref a ∧ SqT K H a xs ∧
  ¬ (HT.sIx xs.length 0 lo = 0 ∧ HT.sIx xs.length xs.length hi = xs.length) ∧ ∀ p, H p = none → Q (.ref p) (upd H p (.tup (cutV xs lo hi)))
theorem sl_tup : SlR X (rSlT X.K) := by
  intro pins s σ H x v vl vu lo hi sl Q I rx hs pl pu h
  obtain ⟨a, xs, rfl, hx, hw, q⟩ := h
  cases rx
  obtain ⟨its, r, ht, hz⟩ := I.tuple hx
  have hlen : its.toArray.size = xs.length := by rw [List.size_toArray]; exact r.length.symm
  refine ⟨"tuple", _, PyProof.Rows.slot_tuple_getitem.lookup, ht.typeIs, ?_⟩
  refine HT.getItem_tuple_cut ht hs pl pu (by rw [hlen]; exact hw) ?_ (by rw [hlen]; exact hz)
  rw [hlen]
  refine ⟨.ref s.heap.objs.size, _, I.laid (t' := s.toks) (o := .tup (cutV xs lo hi)) (fun b ob q => Heap.get?_push_of_some _ q) (Nat.le_refl _) ?_, rfl, q _ (I.hok.fresh (Nat.le_refl _))⟩
  exact ⟨Nat.le_trans (cutV_length xs lo hi) hz, _, (r.drop (HT.sIx xs.length 0 lo)).take (HT.sIx xs.length xs.length hi - HT.sIx xs.length 0 lo), IsTup.new _ _⟩
noncomputable def rLtT (K : PySem.W.Frag) : R2 := fun x y H Q => ∃ a b ns ms, x = .ref a ∧ y = .ref b ∧ SqT K H a (ns.map V.int) ∧ SqT K H b (ms.map V.int) ∧ Q (.bl (HT.lexLt ns ms)) H
theorem op_ltT (hu : X.A.units < cLine) : OpR X (compareOp .Lt) (rLtT X.K) := by
  intro pins s σ H x y v u Q I rx ry h
  obtain ⟨a, b, ns, ms, rfl, rfl, ha, hb, q⟩ := h
  cases rx
  cases ry
  obtain ⟨its, r1, p1, _⟩ := I.tuple ha
  obtain ⟨its2, r2, p2, _⟩ := I.tuple hb
  have i1 : IntsAre its.toArray.toList ns := intsAre_of r1
  have i2 : IntsAre its2.toArray.toList ms := intsAre_of r2
  exact HT.lt_tupInts p1 p2 i1 i2 hu ⟨.bl (HT.lexLt ns ms), H, I, rfl, q⟩
noncomputable def rCatT (K : PySem.W.Frag) : R2 := fun x y H Q => ∃ a b xs ys, x = .ref a ∧ y = .ref b ∧ SqT K H a xs ∧ SqT K H b ys ∧ xs ≠ [] ∧ xs.length + ys.length ≤ sizeLine ∧
  (ys = [] → Q (.ref a) H) ∧ (ys ≠ [] → ∀ p, H p = none → Q (.ref p) (upd H p (.tup (xs ++ ys))))
theorem Vals.nil_iff {xs : List V} {us : List Value} (r : Vals xs us) : us = [] ↔ xs = [] := by
  cases r with
  | nil => simp
  | cons _ _ => simp
theorem op_catT : OpR X (binaryOp .Add) (rCatT X.K) := by
  intro pins s σ H x y v u Q I rx ry h
  obtain ⟨a, b, xs, ys, rfl, rfl, ha, hb, hx, hz, q1, q2⟩ := h
  cases rx
  cases ry
  obtain ⟨its, r1, p1, _⟩ := I.tuple ha
  obtain ⟨its2, r2, p2, _⟩ := I.tuple hb
  refine HT.cat_tup p1 p2 (fun z => hx (r1.nil_iff.mp z)) (fun z => ⟨.ref a, H, I, rfl, q1 (r2.nil_iff.mp z)⟩) (fun z => ?_) (by rw [← r1.length, ← r2.length]; exact hz)
  refine ⟨.ref s.heap.objs.size, _, I.laid (t' := s.toks) (o := .tup (xs ++ ys)) (fun b ob q => Heap.get?_push_of_some _ q) (Nat.le_refl _) ?_, rfl, q2 (fun w => z (r2.nil_iff.mpr w)) _ (I.hok.fresh (Nat.le_refl _))⟩
  exact ⟨by rw [List.length_append]; exact hz, _, r1.append r2, IsTup.new _ _⟩
end
end L2
namespace L2
open PySem PySem.Spec PyProof.Rows
noncomputable def ixN (n : Nat) (i : Int) : Option Nat := if 0 ≤ i then (if i < n then some i.toNat else none) else if -(n : Int) ≤ i then some (i + n).toNat else none
noncomputable def atI {α : Type} (xs : List α) (i : Int) : Option α := (ixN xs.length i).bind fun j => xs[j]?
theorem ixN_seq {n : Nat} {i : Int} {j : Nat} (h : ixN n i = some j) : seqIndex? i n = some j ∧ j < n ∧ -(n : Int) ≤ i ∧ i < n := by
  unfold ixN at h
  by_cases h0 : 0 ≤ i
  · rw [if_pos h0] at h
    by_cases h1 : i < n
    · rw [if_pos h1] at h
      have e : i.toNat = j := Option.some.inj h
      exact ⟨by rw [seqIndex_of h0 h1, e], by omega, by omega, h1⟩
    · rw [if_neg h1] at h; cases h
  · rw [if_neg h0] at h
    by_cases h1 : -(n : Int) ≤ i
    · rw [if_pos h1] at h
      have e : (i + n).toNat = j := Option.some.inj h
      exact ⟨by rw [seqIndex_neg (by omega) h1, e], by omega, h1, by omega⟩
    · rw [if_neg h1] at h; cases h
theorem atI_get {α : Type} {xs : List α} {i : Int} {v : α} (h : atI xs i = some v) : ∃ j, seqIndex? i xs.length = some j ∧ xs[j]? = some v ∧ j < xs.length ∧ -(xs.length : Int) ≤ i ∧ i < xs.length := by
  unfold atI at h
  cases e : ixN xs.length i with
  | none => rw [e] at h; cases h
  | some j =>
    rw [e] at h
    obtain ⟨h1, h2, h3, h4⟩ := ixN_seq e
    exact ⟨j, h1, h, h2, h3, h4⟩
theorem atI_nat {α : Type} {xs : List α} {j : Nat} {v : α} (h : xs[j]? = some v) : atI xs (j : Int) = some v := by
  have hj : j < xs.length := (List.getElem?_eq_some_iff.mp h).1
  have e : ixN xs.length (j : Int) = some j := by
    unfold ixN
    rw [if_pos (by omega), if_pos (by omega)]; simp
  unfold atI; rw [e]; exact h
noncomputable def PlainIx (b : Expr) : Prop := ∀ o i, subscripted b false o i = operate [o, i] (getItem o i)
noncomputable def IxR (X : Cx) (r : R2) : Prop :=
  ∀ (value slice : Expr) (pins : List (Addr × Obj)) (s : Shared) (σ : St) (H : Hp) (x y : V) (v u : Value) (Q : VK), Inv X pins σ H s → RelV x v → RelV y u → r x y H Q →
    subscripted slice false v u = operate [v, u] (getItem v u) → wpAny (model X.prog X.w) X.A (subscriptTail value slice v u) (EP X pins σ Q) X.xe s
noncomputable def MtR (X : Cx) (id : String) (r : V → List V → Hp → VK → Prop) : Prop :=
  ∀ (pins : List (Addr × Obj)) (s : Shared) (σ : St) (H : Hp) (x : V) (xs : List V) (v : Value) (us : List Value) (Q : VK), Inv X pins σ H s → RelV x v → Vals xs us → r x xs H Q →
    wpAny (model X.prog X.w) X.A (call (.builtin id) (v :: us)) (EP X pins σ Q) X.xe s
section
variable {X : Cx} {a b : Expr} {ta tb : TE} {pos : Pos}
theorem IxR.or {r r' : R2} (h : IxR X r) (h' : IxR X r') : IxR X (fun x y H Q => r x y H Q ∨ r' x y H Q) := by
  intro value slice pins s σ H x y v u Q I rx ry q hs
  rcases q with q | q
  · exact h value slice pins s σ H x y v u Q I rx ry q hs
  · exact h' value slice pins s σ H x y v u Q I rx ry q hs
theorem MtR.or {id : String} {r r' : V → List V → Hp → VK → Prop} (h : MtR X id r) (h' : MtR X id r') : MtR X id (fun x xs H Q => r x xs H Q ∨ r' x xs H Q) := by
  intro pins s σ H x xs v us Q I rx rs q
  rcases q with q | q
  · exact h pins s σ H x xs v us Q I rx rs q
  · exact h' pins s σ H x xs v us Q I rx rs q
theorem pe_ix {r : R2} (hr : IxR X r) (ha : PE X a ta) (hb : PE X b tb) (hs : PlainIx b) : PE X (.Subscript a b pos) (tOp r ta tb) := by
  intro pins s σ H Q I h
  exact Subscript_ (binT ha hb I h fun v u s2 x y H2 I2 rx ry q => hr a b pins s2 σ H2 x y v u Q I2 rx ry q (hs _ _))
noncomputable def rIxL (K : PySem.W.Frag) : R2 := fun x y H Q => ∃ p xs i v, x = .ref p ∧ y = .int i ∧ SqL K H p xs ∧ atI xs i = some v ∧ Q v H
noncomputable def rIxT (K : PySem.W.Frag) : R2 := fun x y H Q => ∃ p xs i v, x = .ref p ∧ y = .int i ∧ SqT K H p xs ∧ atI xs i = some v ∧ Q v H
noncomputable def rIxS : R2 := fun x y H Q => ∃ z i c, x = .str z ∧ y = .int i ∧ z.length ≤ sizeLine ∧ atI z.cps.toList i = some c ∧ Q (.str ⟨#[c]⟩) H
theorem ix_list : IxR X (rIxL X.K) := by
  intro value slice pins s σ H x y v u Q I rx ry h hs
  obtain ⟨p, xs, i, z, rfl, rfl, hq, he, q⟩ := h
  cases rx
  obtain ⟨t, rfl⟩ := ry
  obtain ⟨its, r, pl, hz⟩ := I.list hq
  obtain ⟨j, h1, h2, h3, h4, h5⟩ := atI_get he
  obtain ⟨w, ew, rw'⟩ := r.get h2
  have hl := r.length
  have hn := line63
  have fin : EP X pins σ Q w s := ⟨z, H, I, rw', q⟩
  by_cases h0 : 0 ≤ i
  · have hj : i.toNat = j := by
      rw [seqIndex_of h0 h5] at h1
      exact Option.some.inj h1
    exact item_listR pl.isList h0 (by omega) (by rw [hj]; simpa using ew) fin hs
  · have hj : (i + (its.toArray.size : Int)).toNat = j := by
      rw [seqIndex_neg (by omega) h4] at h1
      rw [List.size_toArray, ← hl]
      exact Option.some.inj h1
    exact subscriptTail_builtinR (x := w) pl.isList.typeIs slot_list_getitem.lookup
      (wpAny_getItem_list_neg (Q := fun r s' => r = w ∧ EP X pins σ Q r s') pl.isList (by omega) (by rw [List.size_toArray] <;> omega) (by omega) (by rw [hj]; simpa using ew) ⟨rfl, fin⟩) hs
theorem ix_tup : IxR X (rIxT X.K) := by
  intro value slice pins s σ H x y v u Q I rx ry h hs
  obtain ⟨p, xs, i, z, rfl, rfl, hq, he, q⟩ := h
  cases rx
  obtain ⟨t, rfl⟩ := ry
  obtain ⟨its, r, pl, hz⟩ := I.tuple hq
  obtain ⟨j, h1, h2, h3, h4, h5⟩ := atI_get he
  obtain ⟨w, ew, rw'⟩ := r.get h2
  have hl := r.length
  have hn := line63
  have fin : EP X pins σ Q w s := ⟨z, H, I, rw', q⟩
  exact subscriptTail_builtinR (x := w) pl.typeIs slot_tuple_getitem.lookup
    (getItem_tuple (j := j) (Q := fun r s' => r = w ∧ EP X pins σ Q r s') pl (by omega) (by omega) (by rw [List.size_toArray, ← hl]; exact h1) (by simpa using ew) ⟨rfl, fin⟩) hs
theorem ix_str : IxR X rIxS := by
  intro value slice pins s σ H x y v u Q I rx ry h hs
  obtain ⟨z, i, c, rfl, rfl, hz, he, q⟩ := h
  obtain ⟨t, rfl⟩ := rx
  obtain ⟨t', rfl⟩ := ry
  obtain ⟨j, h1, h2, h3, h4, h5⟩ := atI_get he
  have hl : z.cps.toList.length = z.length := by simp [Str.length]
  rw [hl] at h1 h4 h5
  have hn := line63
  exact tail_any (typeIs_str s z t) slot_str_getitem.lookup (getItem_str (c := c) (by
    have e1 : decide (i < -(2 ^ 63 : Int)) = false := decide_eq_false (by omega)
    have e2 : decide (i ≥ 2 ^ 63) = false := decide_eq_false (by omega)
    rw [e1, e2, Bool.or_false]) (by rw [h1]; simpa using h2) ⟨.str ⟨#[c]⟩, H, I.tok _, ⟨_, rfl⟩, q⟩) hs
theorem Inv.lst {pins : List (Addr × Obj)} {σ : St} {H : Hp} {s : Shared} {p : Addr} {xs : List V} (I : Inv X pins σ H s) (h : H p = some (.lst xs)) :
    ∃ (its : List Value) (n : Nat), Vals xs its ∧ s.heap.get? p = some { cls := .type "list", data := .seq its.toArray n } ∧ xs.length ≤ sizeLine := by
  obtain ⟨z, its, n, r, e⟩ := I.hok p _ h
  exact ⟨its, n, r, e, z⟩
theorem slice_bounds (lo hi : Option Int) (n : Nat) : (sliceBounds lo hi none n).1 = ((HT.sIx n 0 lo : Nat) : Int) ∧ (sliceBounds lo hi none n).2.1 = ((HT.sIx n n hi : Nat) : Int) ∧ (sliceBounds lo hi none n).2.2 = 1 := by
  refine ⟨?_, ?_, rfl⟩
  · cases lo with
    | none => simp [sliceBounds, HT.sIx]
    | some i =>
      simp only [sliceBounds, HT.sIx, Option.getD_none, show (1 : Int) > 0 by decide, if_true]
      by_cases h : i < 0
      · simp only [h, if_true] <;> omega
      · simp only [h, if_false] <;> omega
  · cases hi with
    | none => simp [sliceBounds, HT.sIx]
    | some i =>
      simp only [sliceBounds, HT.sIx, Option.getD_none, show (1 : Int) > 0 by decide, if_true]
      by_cases h : i < 0
      · simp only [h, if_true] <;> omega
      · simp only [h, if_false] <;> omega
theorem slicePick_cut (its : List Value) (lo hi : Option Int) : slicePick its.toArray lo hi none = ((its.drop (HT.sIx its.length 0 lo)).take (HT.sIx its.length its.length hi - HT.sIx its.length 0 lo)).toArray := by
  obtain ⟨h1, h2, h3⟩ := slice_bounds lo hi its.toArray.size
  unfold slicePick
  rw [h1, h2, h3]
  simp only [sliceRange_one, pick_run, List.size_toArray] <;> rfl
noncomputable def rSlL (K : PySem.W.Frag) : V → Option Int → Option Int → Hp → VK → Prop := fun x lo hi H Q => ∃ a xs, x = .ref a ∧ SqL K H a xs ∧ ∀ p, H p = none → Q (.ref p) (upd H p (.lst (cutV xs lo hi)))
theorem sl_list : SlR X (rSlL X.K) := by
  intro pins s σ H x v vl vu lo hi sl Q I rx hs pl pu h
  obtain ⟨a, xs, rfl, hx, q⟩ := h
  cases rx
  obtain ⟨its, r, ht, hz⟩ := I.list hx
  have hlen := r.length
  refine ⟨"list", _, slot_list_getitem.lookup, ht.isList.typeIs, ?_⟩
  refine wpAny_getItem_list_slice ht.isList hs pl pu .none (by simp) ?_ (by rw [List.size_toArray] <;> omega)
  rw [slicePick_cut, ← hlen]
  refine ⟨.ref s.heap.objs.size, _, I.laid (t' := s.toks) (o := .lst (cutV xs lo hi)) (fun b ob q => Heap.get?_push_of_some _ q) (Nat.le_refl _) ?_, rfl, q _ (I.hok.fresh (Nat.le_refl _))⟩
  exact ⟨Nat.le_trans (cutV_length xs lo hi) hz, _, 0, (r.drop (HT.sIx xs.length 0 lo)).take (HT.sIx xs.length xs.length hi - HT.sIx xs.length 0 lo), Heap.get?_push_size _ rfl⟩
theorem call_len_seq : CallR X (.builtin "len") (fun xs H Q => ∃ p ys, xs = [.ref p] ∧ (SqL X.K H p ys ∨ SqT X.K H p ys) ∧ Q (.int ys.length) H) := by
  intro pins s σ H xs us Q I r h
  obtain ⟨p, ys, rfl, hq, q⟩ := h
  obtain ⟨u, rfl, rx⟩ := vals1 r
  cases rx
  have hn := line63
  rcases hq with hq | hq
  · obtain ⟨its, r', pl, hz⟩ := I.list hq
    have hlen := r'.length
    exact Calls.call_len_list pl.isList (by simp only [List.size_toArray] <;> omega) ⟨.int ys.length, H, I.tok _, ⟨s.toks + 1, by rw [List.size_toArray, hlen]⟩, q⟩
  · obtain ⟨its, r', pl, hz⟩ := I.tuple hq
    have hlen := r'.length
    exact len_tuple pl (by simp only [List.size_toArray] <;> omega) ⟨.int ys.length, H, I.tok _, ⟨s.toks + 1, by rw [List.size_toArray, hlen]⟩, q⟩
theorem call_len_str : CallR X (.builtin "len") (fun xs H Q => ∃ z, xs = [.str z] ∧ z.length ≤ sizeLine ∧ Q (.int z.length) H) := by
  intro pins s σ H xs us Q I r h
  obtain ⟨z, rfl, hz, q⟩ := h
  obtain ⟨u, rfl, t, rfl⟩ := vals1 r
  have hn := line63
  exact len_str (by omega) ⟨.int z.length, H, I.tok _, ⟨_, rfl⟩, q⟩
theorem CallR.or {f : Value} {r r' : List V → Hp → VK → Prop} (h : CallR X f r) (h' : CallR X f r') : CallR X f (fun xs H Q => r xs H Q ∨ r' xs H Q) := by
  intro pins s σ H xs us Q I rs q
  rcases q with q | q
  · exact h pins s σ H xs us Q I rs q
  · exact h' pins s σ H xs us Q I rs q
theorem call_tuple_of : CallR X (.type "tuple") (fun xs H Q => ∃ p ys, xs = [.ref p] ∧ ((SqL X.K H p ys ∧ ∀ l, H l = none → Q (.ref l) (upd H l (.tup ys))) ∨ (SqT X.K H p ys ∧ Q (.ref p) H))) := by
  intro pins s σ H xs us Q I r h
  obtain ⟨p, ys, rfl, h⟩ := h
  obtain ⟨u, rfl, rx⟩ := vals1 r
  cases rx
  rcases h with ⟨hq, q⟩ | ⟨hq, q⟩
  · obtain ⟨its, r', pl, hz⟩ := I.list hq
    have hlen := r'.length
    refine call_tuple_list pl.isList (fun h' kp => ?_) (by simp only [List.size_toArray] <;> omega)
    have I1 : Inv X pins σ H { s with heap := h' } := I.kept (t' := s.toks) kp
    have I2 : Inv X pins σ (upd H h'.objs.size (.tup ys)) { s with heap := h'.push { cls := .type "tuple", data := .seq its.toArray } } :=
      I1.laid (t' := s.toks) (fun b o e => Heap.get?_push_of_some _ e) (Nat.le_refl _) (show ObjOk X.prog X.w _ _ _ (.tup ys) from ⟨hz, its, r', IsTup.new _ _⟩)
    exact ⟨.ref h'.objs.size, _, I2, rfl, q _ (I1.hok.fresh (Nat.le_refl _))⟩
  · obtain ⟨its, r', pl, hz⟩ := I.tuple hq
    exact call_tuple_same pl ⟨.ref p, H, I, rfl, q⟩
noncomputable def tyV (K : PySem.W.Frag) (T : String) (x : V) (H : Hp) : Prop := match x with
  | .str _ => T = "str"
  | .int _ => T = "int"
  | .ref p => (T = "list" ∧ ∃ xs, SqL K H p xs) ∨ (T = "tuple" ∧ ∃ o, K.lookup p = some o ∧ o.cls = .type "tuple" ∧ o.dict = none) ∨
      (T = "dict" ∧ ((∃ kvs, H p = some (.dK kvs)) ∨ ∃ kvs, H p = some (.dT kvs))) ∨ (T = "set" ∧ ∃ S n, H p = some (.set S n))
  | _ => False
theorem tyV_is {pins : List (Addr × Obj)} {σ : St} {H : Hp} {s : Shared} {T : String} {x : V} {v : Value} (I : Inv X pins σ H s) (r : RelV x v) (ty : tyV X.K T x H) :
    s.TypeIs v T ∧ ∀ a, v = .ref a → ∃ ob, s.heap.get? a = some ob ∧ ob.dict = none := by
  cases x with
  | str z =>
    obtain ⟨t, rfl⟩ := r
    cases (show T = "str" from ty)
    exact ⟨typeIs_str s z t, fun _ e => nomatch e⟩
  | int i =>
    obtain ⟨t, rfl⟩ := r
    cases (show T = "int" from ty)
    exact ⟨typeIs_int s i t, fun _ e => nomatch e⟩
  | ref p =>
    cases r
    rcases ty with ⟨rfl, xs, hq⟩ | ⟨rfl, o, hk, hc, hd⟩ | ⟨rfl, hk⟩ | ⟨rfl, S, n, hk⟩
    · obtain ⟨its, _, pl, _⟩ := I.list hq
      refine ⟨pl.isList.typeIs, fun a e => ?_⟩
      cases e
      obtain ⟨o, n, e, c, hd, _⟩ := pl
      exact ⟨o, e, hd⟩
    · refine ⟨⟨o, I.kIn p o hk, hc⟩, fun a e => ?_⟩
      cases e
      exact ⟨o, I.kIn _ o hk, hd⟩
    · have z : ∃ o, s.heap.get? p = some o ∧ o.ExactDict := by
        rcases hk with ⟨kvs, hk⟩ | ⟨kvs, hk⟩
        · obtain ⟨_, _, _, _, o, _, _, e, ex, _⟩ := I.hok p _ hk
          exact ⟨o, e, ex⟩
        · obtain ⟨_, _, _, _, o, _, _, e, ex, _⟩ := I.hok p _ hk
          exact ⟨o, e, ex⟩
      obtain ⟨o, e, ex⟩ := z
      refine ⟨⟨o, e, ex.1⟩, fun a e2 => ?_⟩
      cases e2
      exact ⟨o, e, ex.2.1⟩
    · obtain ⟨o, _, _, _, e, ex, _⟩ := I.hok p _ hk
      refine ⟨⟨o, e, ex.1⟩, fun a e2 => ?_⟩
      cases e2
      exact ⟨o, e, ex.2.1⟩
  | _ => exact False.elim ty
noncomputable def tBM (K : PySem.W.Frag) (T : String) (r : V → List V → Hp → VK → Prop) (to : TE) (t : TA) : TE := fun σ H Q => to σ H fun x H1 => tyV K T x H1 ∧ t σ H1 fun xs H2 => r x xs H2 Q
variable {o e : Expr} {es : List Expr} {to : TE} {t : TA} {name : Str} {apos cpos : Pos} {T id : String} {r : V → List V → Hp → VK → Prop}
theorem pe_bm (pa : PlainAttrs T) (slot : Slot T name id) (hty : typeOf (.builtin id) = pure (.type "method_descriptor")) (hm : MtR X id r) (ho : PE X o to) (ha : PA X (e :: es) t)
    (hbase : attributeBase o name X.env (eval o X.env) = eval o X.env := by rfl)
    (hfew : ((backTo cpos (starEach (e :: es) X.env)).all (fun x => !x.1) && (backToKw cpos (keywordEach [] X.env)).all (fun x => x.1.isSome)
      && decide ((e :: es).length + ([] : List Keyword).length + (if ([] : List Keyword).isEmpty then 0 else 1) < 30)) = true := by rfl)
    (hline : (apos.endLine == cpos.line) = true := by rfl) (hs : starEach (e :: es) X.env = (false, eval e X.env) :: starEach es X.env := by rfl) (hplain : (backTo cpos (starEach es X.env)).any (·.1) = false := by rfl) :
    PE X (.Call (.Attribute o name apos) (e :: es) [] cpos) (tBM X.K T r to t) := by
  intro pins s σ H Q I h
  refine wpAny_Call_method_late hbase hfew hline rfl (thn (ho pins s σ H _ I h) fun v s1 ⟨x, H1, I1, r1, ty, q1⟩ => ?_)
  obtain ⟨h1, h2⟩ := tyV_is I1 r1 ty
  refine ⟨T, id, pa, slot, hty, h1, h2, ?_⟩
  have hA := ha cpos pins s1 σ H1 _ I1 q1
  rw [hs] at hA ⊢
  refine Calls.callWith_builtin (by show (false || (backTo cpos (starEach es X.env)).any (·.1)) = false; rw [hplain] <;> rfl) (Calls.evalArgs_plain ?_)
  exact thn hA fun us s2 ⟨vs, H2, I2, r2, q2⟩ => hm pins s2 σ H2 x vs v us Q I2 r1 r2 q2
end
end L2
namespace L2
open PySem PySem.Spec PyProof.Rows
noncomputable def MtM (X : Cx) (id : String) (r : V → List V → Hp → VK → Prop) : Prop :=
  ∀ (pins : List (Addr × Obj)) (s : Shared) (σ : St) (H : Hp) (x : V) (xs : List V) (v : Value) (us : List Value) (Q : VK), Inv X pins σ H s → RelV x v → Vals xs us → r x xs H Q →
    wpAny (model X.prog X.w) X.A (call (.builtin id) (v :: us)) (EP X pins σ Q) X.xe s
theorem Vals.one : ∀ {x : V} {us : List Value}, Vals [x] us → ∃ u, us = [u] ∧ RelV x u
  | _, _, .cons r .nil => ⟨_, rfl, r⟩
theorem Vals.two : ∀ {x y : V} {us : List Value}, Vals [x, y] us → ∃ u v, us = [u, v] ∧ RelV x u ∧ RelV y v
  | _, _, _, .cons r (.cons q .nil) => ⟨_, _, rfl, r, q⟩
theorem Vals.zero : ∀ {us : List Value}, Vals [] us → us = []
  | _, .nil => rfl
theorem Vals.reverse {xs : List V} {us : List Value} (h : Vals xs us) : Vals xs.reverse us.reverse := by
  induction h with
  | nil => exact .nil
  | cons r t ih => rw [List.reverse_cons, List.reverse_cons]; exact Vals.append ih (.cons r .nil)
theorem Vals.rep {xs : List V} {us : List Value} (h : Vals xs us) : ∀ k : Nat, Vals (List.replicate k xs).flatten (List.replicate k us).flatten
  | 0 => .nil
  | k + 1 => by
    rw [List.replicate_succ, List.replicate_succ, List.flatten_cons, List.flatten_cons]
    exact Vals.append h (Vals.rep h k)
theorem foldl_rep (its : List Value) : ∀ (k : Nat) (acc : List Value),
    List.foldl (fun x1 x2 => x1 ++ x2) acc.toArray (List.replicate k its.toArray) = (acc ++ (List.replicate k its).flatten).toArray
  | 0, acc => by simp
  | k + 1, acc => by
    have e : acc.toArray ++ its.toArray = (acc ++ its).toArray := by simp
    have e2 : (acc ++ its) ++ (List.replicate k its).flatten = acc ++ (List.replicate (k + 1) its).flatten := by
      rw [List.replicate_succ, List.flatten_cons, List.append_assoc]
    rw [← e2, ← foldl_rep its k (acc ++ its), ← e, List.replicate_succ, List.foldl_cons]
section
variable {X : Cx} {pins : List (Addr × Obj)} {σ : St} {H : Hp} {s : Shared} {l b : Addr} {xs ys zs : List V}
theorem Inv.lset {its its' : List Value} {n : Nat} {f : Array Value → Array Value} {t' : Nat} (I : Inv X pins σ H s) (hH : H l = some (.lst xs))
    (e : s.heap.get? l = some { cls := .type "list", data := .seq its.toArray n }) (hf : f its.toArray = its'.toArray) (hv : Vals ys its') (hz : ys.length ≤ sizeLine) :
    Inv X pins σ (upd H l (.lst ys)) { s with heap := s.heap.update l (Obj.mapSeq f), toks := t' } := by
  have q := PySem.IsL.update e f
  rw [hf] at q
  refine I.write (x := l) (e := l) (by rw [hH]; exact trivial) (.inl rfl) (fun b' u hb hu => (Heap.get?_update_other s.heap (Obj.mapSeq f) (Ne.symm hb)).trans hu) ⟨_, q⟩ ?_
  exact ⟨hz, its', _, hv, q⟩
theorem Inv.lnew {its : List Value} {t' : Nat} (I : Inv X pins σ H s) (hv : Vals ys its) (hz : ys.length ≤ sizeLine) :
    Inv X pins σ (upd H s.heap.objs.size (.lst ys)) { s with heap := s.heap.push { cls := .type "list", data := .seq its.toArray }, toks := t' } :=
  I.laid (fun _ _ q => Heap.get?_push_of_some _ q) (Nat.le_refl _) ⟨hz, its, 0, hv, Heap.get?_push_size _ rfl⟩
theorem Inv.fresh (I : Inv X pins σ H s) : H s.heap.objs.size = none := I.hok.fresh (Nat.le_refl _)
theorem Inv.lstM (I : Inv X pins σ H s) (hH : H l = some (.lst xs)) : xs.length ≤ sizeLine ∧ ∃ (its : List Value) (n : Nat), Vals xs its ∧ xs.length = its.length ∧ s.heap.get? l = some { cls := .type "list", data := .seq its.toArray n } := by
  obtain ⟨z, its, n, r, e⟩ := I.hok l _ hH
  exact ⟨z, its, n, r, r.length, e⟩
theorem notLongL {n : Nat} (h : n ≤ sizeLine) : Builtin.List.listTooLong n = false := by
  unfold Builtin.List.listTooLong
  exact decide_eq_false (by omega)
end
section
variable {X : Cx}
noncomputable def rAppend : V → List V → Hp → VK → Prop := fun x vs H Q => ∃ l xs y, x = .ref l ∧ vs = [y] ∧ H l = some (.lst xs) ∧ xs.length < sizeLine ∧ Q .non (upd H l (.lst (xs ++ [y])))
theorem mt_append : MtM X "list.append" rAppend := by
  intro pins s σ H x vs v us Q I rx rv h
  obtain ⟨l, xs, y, rfl, rfl, hH, hz, q⟩ := h
  cases rx
  obtain ⟨u, rfl, ru⟩ := rv.one
  obtain ⟨z, its, n, r, hl, e⟩ := I.lstM hH
  refine call_meets F.slot_list_append ⟨_, e, rfl⟩ F.entry_list_append (F.args_list_append_2 _ _) (PySem.list_append l its.toArray n u (by rw [List.size_toArray]; omega)) ⟨e, ?_⟩
  refine ⟨.non, _, I.lset (its' := its ++ [u]) hH e (by simp) (r.append (.cons ru .nil)) ?_, rfl, q⟩
  rw [List.length_append, List.length_singleton]
  omega
theorem len_rep {α : Type} (xs : List α) (k : Nat) : (List.replicate k xs).flatten.length = k * xs.length := by
  induction k with
  | zero => simp
  | succ k ih => rw [List.replicate_succ, List.flatten_cons, List.length_append, ih, Nat.succ_mul, Nat.add_comm]
end
section
variable {prog : Program} {w : World} {A : Around} {E : Value → Shared → Prop} {s : Shared}
set_option maxRecDepth 100000 in
end
section
variable {X : Cx}
end
end L2
namespace Att
open PySem PySem.W PySem.Calls PyProof.Rows
theorem ints_of_wellAll {P : Params} {h : Heap} : ∀ (ns : List Int) (vs : List Value), WellAll P h vs (ns.map WData.int) → IntsAre vs ns := by
  intro ns
  induction ns with
  | nil =>
    intro vs w
    rw [List.map_nil] at w
    cases w
    exact .nil
  | cons n ns ih =>
    intro vs w
    rw [List.map_cons] at w
    cases w with
    | cons a b =>
      cases a
      exact .cons _ _ (ih _ b)
theorem script_of {l : OpenLaw} {n : Nat} (hn : l.most = some n) {P : Params} {h : Heap} {args : List WData} {vals : List Value}
    (hpre : l.row.toRowW.claim.pre args = true) (hwl : WellAll P h vals args) :
    ∃ a vs ns, vals = [Value.ref a] ∧ args = [WData.list (ns.map WData.int)] ∧ h.get? a = some { cls := .type "list", data := .seq vs.toArray } ∧ IntsAre vs ns ∧ ns.length ≤ n := by
  have hsh : WShape.hasAll [] args [.list .int] = true := (pre_splitW hpre).1
  have hc : l.pre.holds [] { args := args } = true := (pre_splitW hpre).2
  obtain ⟨d, r, rfl, h1, h2⟩ := hasAllW_cons hsh
  obtain rfl := hasAllW_nil h2
  obtain ⟨xs, rfl, h3⟩ := hasW_list h1
  obtain ⟨ns, rfl⟩ := items_int h3
  have hlen : ns.length ≤ n := by
    unfold OpenLaw.pre at hc
    have h4 : (WTm.not (.lt (.lit (.int (n : Int))) (.len (.arg 0)))).holds [] { args := [.list (ns.map .int)] } = true := by
      have h4 := (holds_andW hc).1
      rw [hn] at h4
      exact h4
    have h5 := condW_of h4 (w_not (w_lt w_lit (w_len_list (w_arg rfl))))
    rw [List.length_map] at h5
    refine Nat.le_of_not_lt fun q => ?_
    have q' : (n : Int) < ((ns.length : Nat) : Int) := by omega
    first
      | (rw [decide_eq_true q'] at h5; exact absurd h5 (by decide))
      | (simp at h5; omega)
  cases hwl with
  | cons w1 w2 =>
    cases w2
    cases w1 with
    | list ho hall => exact ⟨_, _, ns, rfl, rfl, ho, ints_of_wellAll ns _ hall, hlen⟩
theorem post_true (l : OpenLaw) (args : List WData) : l.row.toRowW.claim.post args (.bool true) args = true :=
  postW_of (r := l.row.toRowW) (X := (true == true))
    (show WShape.has [] (.bool true) .bool = true by first | rfl | decide | simp [WShape.has, WShape.arms, WShape.armsAll])
    (show (WTm.eq .res (.lit (.bool true))).value [] { args := args, res := some (.bool true), after := args } = some (.bool (true == true)) from w_eq_bool (w_res rfl) w_lit) rfl
theorem attach_call {l : OpenLaw} {n : Nat} {q : Program} {loose : List Str} {XP : (Str → Option Value) → Heap → Prop} {YP : World → Heap → Prop} {d : DefRec}
    (hn : l.most = some n) (hdf : d.params.defaults = [])
    (call : ∀ (w : World) (s₀ s₁ : Shared) (mg mb : Str → Option Value) (fa : Addr) (o : Obj) (pm cd doc : Value) (a : Addr) (vs : List Value) (ns : List Int),
      Ground q loose [] XP w s₀ mg mb s₁.heap → YP w s₁.heap →
      s₁.heap.get? fa = some o → o.data = .func (docDef d.name d.params d.body d.scope pm cd doc) → s₁.heap.CodeRec cd d.name → mg d.name = some (.ref fa) →
      s₁.heap.get? a = some { cls := .type "list", data := .seq vs.toArray } → IntsAre vs ns → ns.length ≤ n → s₁.gens = #[] →
      codeAny (model l.prog w) callerA (.call (.ref fa) ⟨[.ref a], []⟩) (fun r s' => r = .ok (.ret (.bool true)) ∧ OldK s₁.heap s'.heap ∧ s'.os = s₁.os ∧ AllBare s'.gens) s₁) :
    WalkO q loose XP YP l.row.toRowW d [] (fun f vs => PySem.call f vs) := by
  intro w s₀ s₁ mg mb G Y fa o pm cd doc dV kV ho hd hcd hD hmg hg args vals as hpre hlay hrd hwl hlo
  obtain rfl : dV = .none := Dflts.none hD hdf
  obtain rfl : kV = .none := Dflts.noKw hD
  obtain ⟨a, vs, ns, rfl, rfl, hobj, hints, hlen⟩ := script_of hn hpre hwl
  refine enter_call (codeAny_mono (call w s₀ s₁ mg mb fa o pm cd doc a vs ns G Y ho (fd_plain hd) hcd hmg hobj hints hlen hg) fun r s' hq => ?_)
  obtain ⟨rfl, h2, h3, h4⟩ := hq
  exact ⟨.inl ⟨.bool true, .bool true, [], rfl, fun _ => rfl, .bool true, post_true l _, fun _ => ⟨List.Pairwise.nil, fun _ hm => (nomatch hm)⟩⟩, h2, h3, h4⟩
section
variable {prog : Program} {w : World} {A : Around} {E : Value → Shared → Prop} {s : Shared} {K : Frag}
end
end Att
namespace L2
open PySem PySem.Spec PyProof.Rows
theorem vals_ints : ∀ {vs : List Value} {ns : List Int}, IntsAre vs ns → Vals (ns.map V.int) vs
  | _, _, .nil => .nil
  | _, _, .cons n t h => .cons ⟨t, rfl⟩ (vals_ints h)
noncomputable def Only (H : Hp) : Prop := ∀ b, H b = none ∨ ∃ o xs, H b = some (.frz o (.lst xs))
theorem law_call {P : Program} {w : World} {K : PySem.W.Frag} {mg mb : Str → Option Value} {CX : CXT} {k : Nat} {fa a : Addr} {fd : FuncData} {x : Str} {sp : Sp} {s₁ : Shared} {vs : List Value} {ns : List Int}
    (KX : K.In s₁.heap) (hns : s₁.heap.Ns mainGlobals mg) (hb : s₁.heap.Ns builtinsNs mb) (hbb : ∀ x : Str, x ≠ "__name__" → mb x = bootBuiltins x) (hlim : s₁.heap.NoLimit) (hg : s₁.gens = #[])
    (ha : s₁.heap.get? a = some { cls := .type "list", data := .seq vs.toArray }) (hi : IntsAre vs ns) (hl : ns.length ≤ sizeLine) (hr : Room k callerA)
    (F : ∀ base : Heap, K.In base → base.Ns mainGlobals mg → FnOk P w K mg base CX k fa fd [x] sp) (hbind : ∀ (s : Shared) (u : Value), BindsTo s fd ⟨[u], []⟩ [(x, u)])
    (hsp : ∀ H : Hp, Only H → SqL K H a (ns.map V.int) → sp [.ref a] H (fun v _ => v = .bl true) fun _ _ _ => False)
    (hCX : ∀ H e s', CX [] H s₁ (fun _ _ _ => False) e s' → False) :
    codeAny (model P w) callerA (.call (.ref fa) ⟨[.ref a], []⟩) (fun r s' => r = .ok (.ret (.bool true)) ∧ OldK s₁.heap s'.heap ∧ s'.os = s₁.os ∧ AllBare s'.gens) s₁ := by
  have rv := vals_ints hi
  have lenV := hi.length
  have core : ∀ H : Hp, Only H → SqL K H a (ns.map V.int) → HOk P w H s₁.heap → (∀ b, H b ≠ none → b = a) → (H a ≠ none → K.lookup a = none) →
      codeAny (model P w) callerA (.call (.ref fa) ⟨[.ref a], []⟩) (fun r s' => r = .ok (.ret (.bool true)) ∧ OldK s₁.heap s'.heap ∧ s'.os = s₁.os ∧ AllBare s'.gens) s₁ := by
    intro H hO hS hok hA hK
    have base_of : ∀ {b : Addr} {o : Obj}, s₁.heap.get? b = some o → H b = none → (hidT s₁.heap H).get? b = some o := fun e n => hidT_get e n
    have noA : ∀ {b : Addr} {o : Obj} {es : Array DictEntry} {ep : Nat}, s₁.heap.get? b = some o → o.data = .dict es ep → H b = none := fun {b o es ep} e d => by
      cases q : H b with
      | none => rfl
      | some u =>
        have e' : b = a := hA b (by rw [q]; simp)
        subst e'
        rw [ha] at e; cases e
        have d' : Data.seq vs.toArray _ = Data.dict es ep := d
        cases d'
    have nsK : ∀ {b : Addr} {m : Str → Option Value}, s₁.heap.Ns b m → (hidT s₁.heap H).Ns b m := fun {b m} ⟨o, es, ep, e, d, r⟩ => ⟨o, es, ep, base_of e (noA e d), d, r⟩
    have hKb : K.In (hidT s₁.heap H) := fun b o e => base_of (KX b o e) (by
      cases q : H b with
      | none => rfl
      | some u =>
        have e' : b = a := hA b (by rw [q]; simp)
        subst e'
        rw [hK (by rw [q]; simp)] at e; cases e)
    have hM : Mod K mg (hidT s₁.heap H) := ⟨hKb, nsK hns, ⟨mb, nsK hb, hbb⟩, let ⟨mc, h1, h2⟩ := hlim; ⟨mc, nsK h1, h2⟩⟩
    have e0 : Env0 P w K mg (hidT s₁.heap H) callerA [] s₁ H := ⟨rfl, hM, fun b o e => of_hidT e, Nat.le_of_eq (hidT_size _ _), trivial, fun b hb => absurd (show b ∈ ([] : List Addr) from hb) (by simp), hok, .of_eq hg⟩
    refine codeAny_mono ((F _ hKb (nsK hns)).run callerA [] s₁ H ⟨[.ref a], []⟩ [.ref a] [.ref a] _ _ hr e0 (hbind s₁ (.ref a)) (.cons rfl .nil) (hsp H hO hS)) fun r s' h => ?_
    cases r with
    | error e => exact (hCX H e s' h).elim
    | ok fl =>
      cases fl with
      | next => exact False.elim h
      | brk => exact False.elim h
      | cont => exact False.elim h
      | ret u =>
        obtain ⟨v, H', os, bare, un, hok', r', q⟩ := h
        have q' : v = .bl true := q
        subst q'
        obtain rfl : u = Value.bool true := r'
        refine ⟨rfl, OldK.of_keep fun b o e => ?_, os, bare⟩
        cases q : H b with
        | none => exact un.keep b o e q (by intro z; exact absurd (show b ∈ ([] : List Addr) from z) (by simp)) (by simp)
        | some u =>
          rcases hO b with z | ⟨ob, xs, z⟩
          · rw [q] at z; cases z
          · have z2 := un.frzs b ob _ z
            obtain ⟨e1, _⟩ := hok b _ z
            obtain ⟨e2, _⟩ := hok' b _ z2
            rw [e] at e1; cases e1
            exact e2
  cases hk : K.lookup a with
  | some o =>
    have e := KX a o hk
    rw [ha] at e
    cases e
    refine core (fun _ => none) (fun _ => .inl rfl) (.inr ⟨_, vs.toArray, _, hk, rfl, rfl, rfl, by rw [List.size_toArray, lenV]; exact hl, by simpa using rv⟩) (fun b u z => by have z' : (none : Option HO) = some u := z; cases z') (fun b z => absurd rfl z) fun z => absurd rfl z
  | none =>
    refine core (fun b => if b = a then some (.frz { cls := .type "list", data := .seq vs.toArray } (.lst (ns.map V.int))) else none) (fun b => ?_) (.inl (.inr ⟨{ cls := .type "list", data := .seq vs.toArray }, if_pos rfl⟩)) (fun b u z => ?_) (fun b z => ?_) fun _ => hk
    · by_cases hb : b = a
      · exact .inr ⟨_, _, if_pos hb⟩
      · exact .inl (if_neg hb)
    · by_cases hb : b = a
      · have z' := (if_pos hb).symm.trans z
        cases z'
        subst hb
        exact ⟨ha, by rw [List.length_map]; exact hl, vs, _, rv, ha⟩
      · have z' := (if_neg hb).symm.trans z
        cases z'
    · by_cases hb : b = a
      · exact hb
      · exact absurd (if_neg hb) z
end L2
namespace L2
open PySem PySem.Spec PyProof.Rows
theorem walk_of {l : PySem.W.OpenLaw} {n k : Nat} {q : Program} {loose : List Str} {XP : (Str → Option Value) → Heap → Prop} {YP : World → Heap → Prop} {d : DefRec} {K : Params → PySem.W.Frag} {CX : World → CXT} {sp : World → Sp} {x : Str}
    (hn : l.most = some n) (hn2 : n ≤ sizeLine) (hdf : d.params.defaults = []) (hr : Room k callerA)
    (hY : ∀ (w : World) (h : Heap), YP w h → (K w.params).In h)
    (F : ∀ (w : World) (mg : Str → Option Value) (fa : Addr) (h : Heap), (K w.params).In h → h.Ns mainGlobals mg → mg d.name = some (.ref fa) →
      ∃ fd : FuncData, (∀ (s : Shared) (u : Value), BindsTo s fd ⟨[u], []⟩ [(x, u)]) ∧
        ∀ base : Heap, (K w.params).In base → base.Ns mainGlobals mg → FnOk l.prog w (K w.params) mg base (CX w) k fa fd [x] (sp w))
    (hsp : ∀ (w : World) (H : Hp) (a : Addr) (ns : List Int), ns.length ≤ n → Only H → SqL (K w.params) H a (ns.map V.int) → sp w [.ref a] H (fun v _ => v = .bl true) fun _ _ _ => False)
    (hCX : ∀ (w : World) (H : Hp) (s : Shared) (e : Value) (s' : Shared), CX w [] H s (fun _ _ _ => False) e s' → False) :
    PySem.W.WalkO q loose XP YP l.row.toRowW d [] (fun f vs => PySem.call f vs) := by
  refine Att.attach_call hn hdf fun w s₀ s₁ mg mb fa o pm cd doc a vs ns G Y ho hd hcd hmg hobj hints hlen hg => ?_
  have KX := hY w _ Y
  obtain ⟨fd, hb, hF⟩ := F w mg fa _ KX G.T.g hmg
  exact law_call KX G.T.g G.T.b G.T.builtins G.T.nolimit hg hobj hints (Nat.le_trans hlen hn2) hr hF hb (fun H hO hS => hsp w H a ns hlen hO hS) fun H e s' => hCX w H s₁ e s'
end L2
namespace L2
open PySem PySem.Spec PyProof.Rows
noncomputable def defArgs (s : Stmt) : Arguments := match s with
  | .FunctionDef _ a _ _ _ _ _ _ _ _ => a
  | _ => { posonlyargs := [], args := [], vararg := none, kwonlyargs := [], kw_defaults := [], kwarg := none, defaults := [] }
noncomputable def defBody (s : Stmt) : List Stmt := match s with
  | .FunctionDef _ _ b _ _ _ _ _ _ _ => b
  | _ => []
noncomputable def defScope (s : Stmt) : Scope := match s with
  | .FunctionDef _ _ _ _ _ _ sc _ _ _ => sc
  | _ => { kind := .function, names := [], isGenerator := false, isCoroutine := false }
noncomputable abbrev CX0 : CXT := fun _ _ _ _ _ _ => False
noncomputable abbrev E0 : XK := fun _ _ _ => False
theorem pass0 {X : Cx} : Passes CX0 X E0 := fun _ _ _ _ _ _ _ h => h.elim
structure Fun (K : PySem.W.Frag) (x qual : Str) (st : Stmt) (f : Addr) (fd : FuncData) : Prop where
  ex : ∃ (oc : Value) (od : Option Addr) (kV doc pm : Value) (an : Option Addr) (cdv ct : Value) (osl : Array (Option Value)),
    fd = PySem.W.fnOf x qual (defArgs st) (defBody st) (defScope st) .none kV doc pm an cdv ct ∧ K.lookup f = some ⟨oc, od, .func fd, osl⟩ ∧ PySem.W.codeIn K cdv qual = true
  kp : PySem.W.keepIn K (.ref f) = true
section
variable {P : Program} {w : World} {K : PySem.W.Frag} {mg : Str → Option Value} {base : Heap}
theorem Fun.ok {x qual : Str} {st : Stmt} {f : Addr} {fd : FuncData} {N ps : List Str} {k : Nat} {sp : Sp} (F : Fun K x qual st f fd) (S : FnScope N ps (defScope st)) (len : ∀ vs H Q E, sp vs H Q E → vs.length = ps.length)
    (hbody : ∀ (cdv : Value) (A : Around) (outer : List Env) (s : Shared) (H : Hp) (vs : List V) (Q : VK) (E : XK), Room k (A.deeper (envOfC qual (defScope st) s.heap.objs.size f cdv)) → sp vs H Q E →
      ∃ t, PSs (cxOf CX0 P w K mg base N qual (defScope st) f cdv A outer s H E).nox (defBody st) t ∧ t { nx := fun _ H' => Q .non H', rt := Q } (start N vs) H) : FnOk P w K mg base CX0 (k + 1) f fd ps sp := by
  obtain ⟨oc, od, kV, doc, pm, an, cdv, ct, osl, rfl, lk, hcd⟩ := F.ex
  refine fn_of lk hcd S len fun A outer s H vs Q E hr hsp => ?_
  obtain ⟨t, h, q⟩ := hbody cdv A outer s H vs Q E hr hsp
  exact ⟨t, h.nox, q⟩
theorem Fun.binds {x qual : Str} {st : Stmt} {f : Addr} {fd : FuncData} {ps : List Str} (F : Fun K x qual st f fd)
    (h : ∀ (kV doc pm : Value) (an : Option Addr) (cdv ct : Value) (us : List Value), us.length = ps.length → bindArgs (PySem.W.fnOf x qual (defArgs st) (defBody st) (defScope st) .none kV doc pm an cdv ct) ⟨us, []⟩ = pure (ps.zip us)) : Binds K fd ps [] := by
  obtain ⟨oc, od, kV, doc, pm, an, cdv, ct, osl, rfl, lk, hcd⟩ := F.ex
  exact .all (h kV doc pm an cdv ct)
theorem fun_mk {x qual : Str} {st : Stmt} {f : Addr} {oc : Value} {od an : Option Addr} {osl : Array (Option Value)} {kV doc pm cdv ct : Value} (l : K.lookup f = some ⟨oc, od, .func (PySem.W.fnOf x qual (defArgs st) (defBody st) (defScope st) .none kV doc pm an cdv ct), osl⟩)
    (c : PySem.W.codeIn K cdv qual = true) (k : PySem.W.keepIn K (.ref f) = true) : Fun K x qual st f (PySem.W.fnOf x qual (defArgs st) (defBody st) (defScope st) .none kV doc pm an cdv ct) := ⟨⟨oc, od, kV, doc, pm, an, cdv, ct, osl, rfl, l, c⟩, k⟩
end
section
variable {X : Cx}
end
theorem iteF {A B : Prop} (h : B) : if false = true then A else B := by
  rw [if_neg Bool.false_ne_true]
  exact h
theorem iteT {A B : Prop} (h : A) : if true = true then A else B := by
  rw [if_pos rfl]
  exact h
noncomputable def Same (H H' : Hp) : Prop := ∀ b o, H b = some o → H' b = some o
theorem Same.refl (H : Hp) : Same H H := fun _ _ h => h
theorem Same.trans {H H1 H2 : Hp} (a : Same H H1) (b : Same H1 H2) : Same H H2 := fun c o h => b c o (a c o h)
theorem Same.free {H H' : Hp} (e : Same H H') {l : Addr} (h : H' l = Option.none) : H l = Option.none := by
  cases q : H l with
  | none => rfl
  | some o =>
    rw [e l o q] at h
    cases h
theorem Same.seq {K : PySem.W.Frag} {H H' : Hp} {a : Addr} {xs : List V} (e : Same H H') (h : SqL K H a xs) : SqL K H' a xs := by
  rcases h with (h | ⟨o, h⟩) | h
  · exact .inl (.inl (e _ _ h))
  · exact .inl (.inr ⟨o, e _ _ h⟩)
  · exact .inr h
end L2
end
section
set_option Elab.async false
set_option linter.all false
set_option maxRecDepth 100000
namespace L2
open PySem PySem.Spec PyProof.Rows
section
variable {κ : Type} [DecidableEq κ]
noncomputable def valV (kvs : List (κ × V)) (k : κ) : Option V := (kvs.find? fun kv => decide (kv.1 = k)).map (·.2)
noncomputable def putK (kvs : List (κ × V)) (k : κ) (v : V) : List (κ × V) :=
  if (kvs.any fun kv => decide (kv.1 = k)) = true then kvs.map (fun kv => if kv.1 = k then (kv.1, v) else kv) else kvs ++ [(k, v)]
noncomputable def dropK (kvs : List (κ × V)) (k : κ) : List (κ × V) := kvs.filter fun kv => decide (kv.1 ≠ k)
theorem valV_pos {p : κ × V} {r : List (κ × V)} {k : κ} (e : p.1 = k) : valV (p :: r) k = some p.2 := by simp [valV, List.find?_cons, e]
theorem valV_neg {p : κ × V} {r : List (κ × V)} {k : κ} (e : ¬ p.1 = k) : valV (p :: r) k = valV r k := by simp [valV, List.find?_cons, e]
theorem RelO.isSome_eq {o : Option V} {u : Option Value} (r : RelO o u) : o.isSome = u.isSome := by
  cases o with
  | none => cases u with
    | none => rfl
    | some _ => exact (show False from r).elim
  | some _ => cases u with
    | none => exact (show False from r).elim
    | some _ => rfl
theorem RelO.getD {o : Option V} {u : Option Value} {d : V} {d' : Value} (r : RelO o u) (rd : RelV d d') : RelV (o.getD d) (u.getD d') := by
  cases o with
  | none => cases u with
    | none => exact rd
    | some _ => exact (show False from r).elim
  | some _ => cases u with
    | none => exact (show False from r).elim
    | some _ => exact r
theorem KV.val {kvs : List (κ × V)} {vs : List (κ × Value)} (r : KV kvs vs) (k : κ) : RelO (valV kvs k) (valueAt vs k) := by
  unfold KV at r
  induction r with
  | nil => exact True.intro
  | @cons p q ps qs h t ih =>
    obtain ⟨h1, h2⟩ := h
    by_cases e : p.1 = k
    · have e' : q.1 = k := h1.symm.trans e
      have b : valueAt (q :: qs) k = some q.2 := by simp [valueAt, List.find?_cons, e']
      rw [valV_pos e, b]; exact h2
    · have e' : ¬ q.1 = k := fun z => e (h1.trans z)
      have b : valueAt (q :: qs) k = valueAt qs k := by simp [valueAt, List.find?_cons, e']
      rw [valV_neg e, b]; exact ih
theorem KV.any {kvs : List (κ × V)} {vs : List (κ × Value)} (r : KV kvs vs) (k : κ) : (kvs.any fun kv => decide (kv.1 = k)) = vs.any fun kv => decide (kv.1 = k) := by
  unfold KV at r
  induction r with
  | nil => rfl
  | cons h t ih => rw [List.any_cons, List.any_cons, ih, h.1]
theorem KV.drop {kvs : List (κ × V)} {vs : List (κ × Value)} (r : KV kvs vs) (k : κ) : KV (dropK kvs k) (without vs k) := by
  unfold KV at r ⊢
  unfold dropK without
  induction r with
  | nil => exact .nil
  | @cons p q ps qs h t ih =>
    obtain ⟨h1, h2⟩ := h
    rw [List.filter_cons, List.filter_cons]
    by_cases e : p.1 = k
    · have a : ¬ decide (p.1 ≠ k) = true := by simp [e]
      have b : ¬ decide (q.1 ≠ k) = true := by simp [h1.symm.trans e]
      rw [if_neg a, if_neg b]; exact ih
    · have e' : ¬ q.1 = k := fun z => e (h1.trans z)
      have a : decide (p.1 ≠ k) = true := by simp [e]
      have b : decide (q.1 ≠ k) = true := by simp [e']
      rw [if_pos a, if_pos b]; exact .cons ⟨h1, h2⟩ ih
theorem KV.keys {kvs : List (κ × V)} {vs : List (κ × Value)} (r : KV kvs vs) : kvs.map (·.1) = vs.map (·.1) := by
  unfold KV at r
  induction r with
  | nil => rfl
  | cons h t ih => rw [List.map_cons, List.map_cons, ih, h.1]
theorem KV.length {kvs : List (κ × V)} {vs : List (κ × Value)} (r : KV kvs vs) : kvs.length = vs.length := Paired.length r
end
theorem kV_is {P : Program} {w : World} {k : Key} {u : Value} (r : RelV (kV k) u) : (mixKind P w).is k u = true := by
  cases k with
  | inl i => obtain ⟨t, e⟩ := (show ∃ t, u = Value.int i t from r); subst e; exact mixKind_int P w i t
  | inr x => obtain ⟨t, e⟩ := (show ∃ t, u = Value.str x t from r); subst e; exact mixKind_str P w x t
theorem items_are {P : Program} {w : World} : ∀ {ks : List Key} {us : List Value}, Vals (ks.map kV) us → ItemsAre (mixKind P w) ks us
  | [], _, r => by rw [List.map_nil] at r; cases r; exact .nil
  | k :: ks, _, r => by
    rw [List.map_cons] at r
    cases r with
    | cons h t => exact .cons (kV_is h) (items_are t)
noncomputable abbrev KT (H : Hp) : List (List Key × V) → List (List Key × Addr × Value) → Prop := Paired fun p q => p.1 = q.1 ∧ H q.2.1 = some (.tup (p.1.map kV)) ∧ RelV p.2 q.2.2
theorem KT.val {H : Hp} {kvs : List (List Key × V)} {xs : List (List Key × Addr × Value)} (r : KT H kvs xs) (k : List Key) : RelO (valV kvs k) ((atKey xs k).map (·.2)) := by
  induction r with
  | nil => exact True.intro
  | @cons p q ps qs h t ih =>
    obtain ⟨h1, _, h2⟩ := h
    by_cases e : p.1 = k
    · have e' : q.1 = k := h1.symm.trans e
      have b : atKey (q :: qs) k = some q.2 := by simp [atKey, List.find?_cons, e']
      rw [valV_pos e, b]; exact h2
    · have e' : ¬ q.1 = k := fun z => e (h1.trans z)
      have b : atKey (q :: qs) k = atKey qs k := by simp [atKey, List.find?_cons, e']
      rw [valV_neg e, b]; exact ih
theorem KT.keeps {H H' : Hp} {kvs : List (List Key × V)} {xs : List (List Key × Addr × Value)} (r : KT H kvs xs) (ht : ∀ b ys, H b = some (.tup ys) → H' b = some (.tup ys)) : KT H' kvs xs :=
  Paired.mapP r fun _ _ z => ⟨z.1, ht _ _ z.2.1, z.2.2⟩
section
variable {P : Program} {w : World} {H : Hp} {h : Heap} {a : Addr}
theorem rd_of {u : HO} (ok : HOk P w H h) (e : Rd H a u) : ObjOk P w H h a u := e.ok ok
theorem dk_rd {kvs : List (Key × V)} (ok : HOk P w H h) (e : Rd H a (.dK kvs)) : kvs.length ≤ sizeLine ∧ (a == sysModules) = false ∧ ∃ vs, KV kvs vs ∧ h.DictOf (mixKind P w) a vs :=
  show ObjOk P w H h a (.dK kvs) from rd_of ok e
theorem dk_of {kvs : List (Key × V)} (ok : HOk P w H h) (e : H a = some (.dK kvs)) : kvs.length ≤ sizeLine ∧ (a == sysModules) = false ∧ ∃ vs, KV kvs vs ∧ h.DictOf (mixKind P w) a vs := dk_rd ok (.inl e)
theorem key_of {ks : List Key} (ok : HOk P w H h) (e : H a = some (.tup (ks.map kV))) : (tupleKind (mixKind P w)).is h ks a := by
  obtain ⟨_, its, r, o, h1, h2, n, h3⟩ := (show ObjOk P w H h a (.tup (ks.map kV)) from ok a _ e)
  exact ⟨o, its.toArray, n, h1, h2, h3, by simpa using items_are r⟩
theorem dt_rd {kvs : List (List Key × V)} (ok : HOk P w H h) (e : Rd H a (.dT kvs)) : kvs.length ≤ sizeLine ∧ (a == sysModules) = false ∧
    ∃ xs, KT H kvs xs ∧ h.DictOfH (tupleKind (mixKind P w)) a xs := by
  obtain ⟨z, y, xs, r, o, es, ep, h1, h2, h3, h4, h5⟩ := (show ObjOk P w H h a (.dT kvs) from rd_of ok e)
  refine ⟨z, y, xs, r, o, es, ep, h1, h2, h3, h4, fun x hx => ?_, h5⟩
  have all : ∀ {l : List (List Key × V)} {m : List (List Key × Addr × Value)}, KT H l m → ∀ x ∈ m, (tupleKind (mixKind P w)).is h x.1 x.2.1 := by
    intro l m q
    induction q with
    | nil => intro x hx; exact nomatch hx
    | @cons p q ps qs hq t ih =>
      intro x hx
      rcases List.mem_cons.mp hx with e | hx
      · subst e
        exact key_of ok (by rw [← hq.1]; exact hq.2.1)
      · exact ih x hx
  exact all r x hx
end
noncomputable def DGet (H : Hp) (a : Addr) (y : V) (r : Option V) : Prop :=
  (∃ kvs k, Rd H a (.dK kvs) ∧ y = kV k ∧ r = valV kvs k) ∨ ∃ kvs k b, Rd H a (.dT kvs) ∧ y = .ref b ∧ H b = some (.tup (k.map kV)) ∧ r = valV kvs k
noncomputable def DPut (H : Hp) (a : Addr) (y v : V) (H' : Hp) : Prop :=
  (∃ kvs k, H a = some (.dK kvs) ∧ y = kV k ∧ kvs.length < sizeLine ∧ H' = upd H a (.dK (putK kvs k v))) ∨
  ∃ kvs k b, H a = some (.dT kvs) ∧ y = .ref b ∧ H b = some (.tup (k.map kV)) ∧ kvs.length < sizeLine ∧ H' = upd H a (.dT (putK kvs k v))
theorem DGet.k {H : Hp} {a : Addr} {kvs : List (Key × V)} {k : Key} (e : H a = some (.dK kvs)) : DGet H a (kV k) (valV kvs k) := .inl ⟨kvs, k, .inl e, rfl, rfl⟩
theorem DGet.t {H : Hp} {a b : Addr} {kvs : List (List Key × V)} {k : List Key} (e : H a = some (.dT kvs)) (eb : H b = some (.tup (k.map kV))) : DGet H a (.ref b) (valV kvs k) := .inr ⟨kvs, k, b, .inl e, rfl, eb, rfl⟩
theorem DPut.k {H : Hp} {a : Addr} {kvs : List (Key × V)} {k : Key} {v : V} (e : H a = some (.dK kvs)) (hl : kvs.length < sizeLine) : DPut H a (kV k) v (upd H a (.dK (putK kvs k v))) := .inl ⟨kvs, k, e, rfl, hl, rfl⟩
theorem DPut.t {H : Hp} {a b : Addr} {kvs : List (List Key × V)} {k : List Key} {v : V} (e : H a = some (.dT kvs)) (eb : H b = some (.tup (k.map kV))) (hl : kvs.length < sizeLine) :
    DPut H a (.ref b) v (upd H a (.dT (putK kvs k v))) := .inr ⟨kvs, k, b, e, rfl, eb, hl, rfl⟩
section
variable {X : Cx} {pins : List (Addr × Obj)} {σ : St} {H : Hp} {s : Shared} {a : Addr} {y v : V} {u r : Value} {o : Option V} {A : Around} {E : Value → Shared → Prop}
theorem d_getItem {Q : Value → Shared → Prop} (hu : A.units + 1 < cLine) (I : Inv X pins σ H s) (g : DGet H a y (some v)) (ry : RelV y u) (h : ∀ w' s', Inv X pins σ H s' → RelV v w' → Q w' s') :
    wpAny (model X.prog X.w) A (getItem (.ref a) u) Q E s := by
  rcases g with ⟨kvs, k, e, ey, l⟩ | ⟨kvs, k, b, e, ey, eb, l⟩
  · subst ey
    obtain ⟨z, hd, vs, rel, dd⟩ := dk_rd I.hok e
    obtain ⟨w', hw, rw'⟩ := RelO.some_of (v := v) (o := valueAt vs k) (by rw [l]; exact rel.val k)
    exact wpAny_getItem_of (kV_is ry) dd.mapOf hw (h w' _ (I.tok _) rw')
  · subst ey
    cases (show u = Value.ref b from ry)
    obtain ⟨z, hd, xs, rel, dd⟩ := dt_rd I.hok e
    obtain ⟨w', hw, rw'⟩ := RelO.some_of (v := v) (o := (atKey xs k).map (·.2)) (by rw [l]; exact rel.val k)
    obtain ⟨p, hp, hp2⟩ := Option.map_eq_some_iff.mp hw
    refine wpAny_getItem_heap (tupleKind_room_in1 hu) (key_of I.hok eb) dd hp ?_
    rw [hp2]
    exact h w' _ (I.tok _) rw'
theorem d_in {Q : Value → Shared → Prop} (hu : A.units + 1 < cLine) (I : Inv X pins σ H s) (g : DGet H a y o) (ry : RelV y u) (h : ∀ s', Inv X pins σ H s' → Q (.bool o.isSome) s') :
    wpAny (model X.prog X.w) A (compareOp .In u (.ref a)) Q E s := by
  rcases g with ⟨kvs, k, e, ey, l⟩ | ⟨kvs, k, b, e, ey, eb, l⟩
  · subst ey
    obtain ⟨z, hd, vs, rel, dd⟩ := dk_rd I.hok e
    refine wpAny_in_of (kV_is ry) hd dd.mapOf ?_
    rw [← (rel.val k).isSome_eq, ← l]
    exact h _ (I.tok _)
  · subst ey
    cases (show u = Value.ref b from ry)
    obtain ⟨z, hd, xs, rel, dd⟩ := dt_rd I.hok e
    refine wpAny_in_heap (tupleKind_room_in1 hu) (key_of I.hok eb) hd dd ?_
    have q := (rel.val k).isSome_eq
    rw [Option.isSome_map] at q
    rw [← q, ← l]
    exact h _ (I.tok _)
theorem d_notIn {Q : Value → Shared → Prop} (hu : A.units + 1 < cLine) (I : Inv X pins σ H s) (g : DGet H a y o) (ry : RelV y u) (h : ∀ s', Inv X pins σ H s' → Q (.bool (!o.isSome)) s') :
    wpAny (model X.prog X.w) A (compareOp .NotIn u (.ref a)) Q E s := by
  rcases g with ⟨kvs, k, e, ey, l⟩ | ⟨kvs, k, b, e, ey, eb, l⟩
  · subst ey
    obtain ⟨z, hd, vs, rel, dd⟩ := dk_rd I.hok e
    refine wpAny_notIn_of (kV_is ry) hd dd.mapOf ?_
    rw [← (rel.val k).isSome_eq, ← l]
    exact h _ (I.tok _)
  · subst ey
    cases (show u = Value.ref b from ry)
    obtain ⟨z, hd, xs, rel, dd⟩ := dt_rd I.hok e
    refine wpAny_notIn_heap (tupleKind_room_in1 hu) (key_of I.hok eb) hd dd ?_
    have q := (rel.val k).isSome_eq
    rw [Option.isSome_map] at q
    rw [← q, ← l]
    exact h _ (I.tok _)
end
section
variable {X : Cx} {pins : List (Addr × Obj)} {σ : St} {H : Hp} {s : Shared} {a : Addr} {kvs : List (Key × V)} {k : Key} {u : Value} {A : Around} {E : Value → Shared → Prop}
end
noncomputable def NoSl (i : Expr) : Prop := ∀ ov iv, subscripted i false ov iv = operate [ov, iv] (getItem ov iv)
theorem subD_of {prog : Program} {w : World} {A : Around} {E : Value → Shared → Prop} {s : Shared} {env : Env} {value slice : Expr} {pos : Pos} {T id : String} {Q : Value → Shared → Prop}
    (hl : typeLookup (.type T) "__getitem__" = pure (some (.builtin id))) (hs : NoSl slice)
    (h : wpAny (model prog w) A (eval value env) (fun o s₁ => wpAny (model prog w) A (eval slice env) (fun i s₂ => s₂.TypeIs o T ∧ wpAny (model prog w) A (getItem o i) Q E s₂) E s₁) E s) :
    wpAny (model prog w) A (eval (.Subscript value slice pos) env) Q E s := by
  refine Subscript_ (wpAny_mono h (fun o s₁ h₁ => wpAny_mono h₁ (fun i s₂ h₂ => ?_) fun _ _ x => x) fun _ _ x => x)
  obtain ⟨hT, h₂⟩ := h₂
  unfold subscriptTail
  refine wpAny_bind ?_
  rw [getitemInPython_of_ne hT.not_modules]
  refine wpAny_bind (wpAny_specialOf hT hl ?_)
  have fin : wpAny (model prog w) A (subscripted slice false o i) (fun r s₃ => wpAny (model prog w) A (letTemporaryGo value o r >>= fun _ => pure r) Q E s₃) E s₂ := by
    rw [hs o i]
    exact wpAny_operating (wpAny_mono h₂ (fun r s₃ h₃ => wpAny_bind (wpAny_letTemporaryGo (wpAny_pure h₃))) fun _ _ x => x)
  first
    | exact wpAny_pure (wpAny_bind fin)
    | exact wpAny_bind (wpAny_pure (wpAny_bind fin))
    | exact wpAny_bind fin
theorem dict_typeIs {X : Cx} {pins : List (Addr × Obj)} {σ : St} {H : Hp} {s : Shared} {a : Addr} {y : V} {o : Option V} (I : Inv X pins σ H s) (g : DGet H a y o) : s.TypeIs (.ref a) "dict" := by
  rcases g with ⟨kvs, k, e, _, _⟩ | ⟨kvs, k, b, e, _, _, _⟩
  · obtain ⟨_, _, vs, _, dd⟩ := dk_rd I.hok e
    exact dd.typeIs
  · obtain ⟨_, _, xs, _, dd⟩ := dt_rd I.hok e
    exact dd.typeIs
noncomputable def tDGet (td ty : TE) : TE := fun σ H Q => td σ H fun x H1 => ty σ H1 fun y H2 => ∃ a v, x = .ref a ∧ DGet H2 a y (some v) ∧ Q v H2
section
variable {X : Cx} {o i e value : Expr} {pos pos' tpos : Pos} {td ty tv : TE}
theorem pe_dget (hu : X.A.units + 1 < cLine) (ho : PE X o td) (hi : PE X i ty) (hs : NoSl i) : PE X (.Subscript o i pos) (tDGet td ty) := by
  intro pins s σ H Q I h
  refine subD_of PySem.F.slot_dict_getitem.lookup hs (thn (ho pins s σ H _ I h) fun u s1 ⟨x, H1, I1, rx, q1⟩ => thn (hi pins s1 σ H1 _ I1 q1) fun iv s2 ⟨y, H2, I2, ry, a, v, ex, g, q2⟩ => ?_)
  subst ex
  obtain rfl : u = Value.ref a := rx
  exact ⟨dict_typeIs I2 g, d_getItem hu I2 g ry fun w' s3 I3 rw' => ⟨v, H2, I3, rw', q2⟩⟩
end
section
variable {X : Cx} {pos : Pos}
end
end L2
end
section
set_option Elab.async false
set_option linter.all false
set_option maxRecDepth 100000
set_option maxHeartbeats 4000000
namespace TW
open PySem PySem.Spec PyProof.Rows L2
open PySem.W (tabObj)
noncomputable def tabC : Option (Addr × HO) := none
noncomputable def Tb (G : Hp) : Prop := ∀ P o, tabC = some (P, o) → G P = some o
theorem Tb.mono {G G' : Hp} (h : Same G G') (t : Tb G) : Tb G' := fun P o e => h _ _ (t P o e)
theorem Tb.none {G : Hp} (h : tabC = .none) : Tb G := fun P o e => by rw [h] at e; cases e
end TW
end
section
set_option Elab.async false
namespace TW
open PySem
inductive D where
  | non | bl (b : Bool) | int (i : Int) | str (x : Str) | tup (ds : List D) | lst (ds : List D)
  | scr (K : List (Addr × Obj)) (a : Addr) (ns : List Int)
  | dct (ks : List Int) (ds : List D)
instance : Inhabited D := ⟨.non⟩
noncomputable def lim : Nat := 65536
mutual
noncomputable def eqD : D → D → Bool
  | .non, .non => true
  | .bl a, .bl b => a == b
  | .int a, .int b => a == b
  | .bl a, .int b => (if a then 1 else 0) == b
  | .int a, .bl b => a == (if b then 1 else 0)
  | .str a, .str b => decide (a = b)
  | .tup a, .tup b => eqDs a b
  | .lst a, .lst b => eqDs a b
  | .scr _ _ _, .non => true
  | .non, .scr _ _ _ => true
  | .scr _ _ _, .scr _ _ _ => true
  | .dct _ _, .non => true
  | .non, .dct _ _ => true
  | .dct _ _, .scr _ _ _ => true
  | .scr _ _ _, .dct _ _ => true
  | .dct _ _, .dct _ _ => true
  | _, _ => false
noncomputable def eqDs : List D → List D → Bool
  | [], [] => true
  | a :: r, b :: q => eqD a b && eqDs r q
  | _, _ => false
end
noncomputable def intsOf : List D → Option (List Int)
  | [] => some []
  | .int i :: r => (intsOf r).map (i :: ·)
  | _ => none
noncomputable def ddp (l : List Int) : List Int := l.foldl (fun acc x => if acc.any (· == x) then acc else acc ++ [x]) []
noncomputable def lexLt : List Int → List Int → Bool
  | [], [] => false
  | [], _ :: _ => true
  | _ :: _, [] => false
  | x :: xs, y :: ys => if x = y then lexLt xs ys else decide (x < y)
noncomputable def ltD : D → D → Option Bool
  | .int a, .int b => some (decide (a < b))
  | .tup a, .tup b => (intsOf a).bind fun x => (intsOf b).map fun y => lexLt x y
  | _, _ => none
noncomputable def geD : D → D → Option Bool
  | .int a, .int b => some (decide (b ≤ a))
  | .tup a, .tup b => (intsOf a).bind fun x => (intsOf b).map fun y => !(lexLt x y)
  | _, _ => none
noncomputable def leD : D → D → Option Bool
  | .int a, .int b => some (decide (a ≤ b))
  | _, _ => none
noncomputable def gtD : D → D → Option Bool
  | .int a, .int b => some (decide (b < a))
  | _, _ => none
noncomputable def isNon : D → Bool
  | .non => true
  | _ => false
noncomputable def remD (d : D) : List D → Option (List D)
  | [] => none
  | e :: r => if eqD e d then some r else (remD d r).map (e :: ·)
noncomputable def inD (d : D) (ds : List D) : Bool := ds.any fun e => eqD e d
inductive Kd where | fz | fr | bo
  deriving DecidableEq
inductive Ty where | int | bool | str | list | tuple | dict
  deriving DecidableEq
noncomputable def isD : Ty → D → Bool
  | .int, .int _ => true
  | .int, .bl _ => true
  | .bool, .bl _ => true
  | .str, .str _ => true
  | .list, .lst _ => true
  | .tuple, .tup _ => true
  | _, _ => false
noncomputable def isiD (t : Ty) : D → Option (Kd × D)
  | .scr _ _ _ => none
  | .dct _ _ => none
  | d => some (.fz, .bl (isD t d))
noncomputable def seqOf : D → Option (List D)
  | .tup ds => some ds
  | .lst ds => some ds
  | _ => none
noncomputable def truD : D → Option Bool
  | .non => some false
  | .bl b => some b
  | .int i => some (i != 0)
  | .str x => if x.length ≤ lim then some (!(x.length == 0)) else none
  | .tup ds => some (!ds.isEmpty)
  | .lst ds => some (!ds.isEmpty)
  | .scr _ _ _ => none
  | .dct _ _ => none
noncomputable def atK : List Int → List D → Int → Option D
  | k :: ks, d :: ds, i => if k = i then some d else atK ks ds i
  | _, _, _ => none
noncomputable def ixN (n : Nat) (i : Int) : Option Nat := if 0 ≤ i then (if i < n then some i.toNat else none) else if -(n : Int) ≤ i then some (i + n).toNat else none
noncomputable def atI {α : Type} (xs : List α) (i : Int) : Option α := (ixN xs.length i).bind fun j => xs[j]?
noncomputable def sIx (n d : Nat) : Option Int → Nat
  | none => d
  | some v => if v < 0 then (max (v + (n : Int)) 0).toNat else (min v (n : Int)).toNat
noncomputable def cut {α : Type} (xs : List α) (lo hi : Option Int) : List α := (xs.drop (sIx xs.length 0 lo)).take (sIx xs.length xs.length hi - sIx xs.length 0 lo)
noncomputable def catRep (ds : List D) (k : Nat) : List D := (List.replicate k ds).flatten
noncomputable def opD : Operator → D → D → Option (Kd × D)
  | .Add, .int a, .int b => some (.fz, .int (a + b))
  | .Add, .str a, .str b => if a.length + b.length ≤ lim then some (.fz, .str (a ++ b)) else none
  | .Add, .tup a, .tup b => if a.length + b.length ≤ lim then some (.fz, .tup (a ++ b)) else none
  | .Add, .lst a, .lst b => if a.length + b.length ≤ lim then some (.fr, .lst (a ++ b)) else none
  | .Sub, .int a, .int b => some (.fz, .int (a - b))
  | .Mult, .int a, .int b => if a.natAbs < 18446744073709551616 ∨ b.natAbs < 18446744073709551616 then some (.fz, .int (a * b)) else none
  | .Mult, .tup a, .int b => if 2 ≤ b ∧ 0 < a.length ∧ a.length * b.toNat ≤ lim ∧ b.natAbs ≤ lim then some (.fz, .tup (catRep a b.toNat)) else none
  | .Mult, .lst a, .int b => if 0 < b ∧ a.length * b.toNat ≤ lim ∧ b.natAbs ≤ lim then some (.fr, .lst (catRep a b.toNat)) else none
  | .FloorDiv, .int a, .int b => if 0 < b ∧ b.natAbs < 1073741824 then some (.fz, .int (a / b)) else none
  | .Mod, .int a, .int b => if 0 < b then some (.fz, .int (a % b)) else none
  | .Pow, .int a, .int b => if 0 ≤ b ∧ b.natAbs ≤ 1000000 ∧ a.natAbs < 18446744073709551616 then some (.fz, .int (a ^ b.toNat)) else none
  | _, _, _ => none
mutual
noncomputable def okD : Nat → D → Bool
  | _, .non => true
  | _, .bl _ => true
  | _, .int _ => true
  | _, .str x => x.cps.all (· < 0x110000)
  | _, .scr _ _ _ => false
  | _, .dct _ _ => false
  | 0, .tup _ => false
  | 0, .lst _ => false
  | n + 1, .tup ds => okDs n ds
  | n + 1, .lst ds => okDs n ds
noncomputable def okDs : Nat → List D → Bool
  | _, [] => true
  | n, d :: ds => okD n d && okDs n ds
end
noncomputable def eqO : D → D → Option Bool
  | .str a, .str b => some (decide (a = b))
  | a, b => if okD 40 a && okD 40 b then some (eqD a b) else none
noncomputable def cmpD : CmpOp → D → D → Option Bool
  | .Eq, a, b => eqO a b
  | .NotEq, a, b => (eqO a b).map fun k => !k
  | .Lt, a, b => ltD a b
  | .LtE, a, b => leD a b
  | .Gt, a, b => gtD a b
  | .GtE, a, b => geD a b
  | .In, a, b => match b with
    | .dct ks _ => (match a with | .int i => some (decide (i ∈ ks)) | _ => none)
    | z => (seqOf z).bind fun ds => if okD 40 a && okDs 40 ds then some (inD a ds) else none
  | .NotIn, a, b => match b with
    | .dct ks _ => (match a with | .int i => some (!decide (i ∈ ks)) | _ => none)
    | z => (seqOf z).bind fun ds => if okD 40 a && okDs 40 ds then some (!inD a ds) else none
  | .Is, a, .non => some (isNon a)
  | .IsNot, a, .non => some (!isNon a)
  | _, _, _ => none
inductive B1 where | len | tuple | list | sorted | sortp | byl | str | int | itx | sum | all | any | min | max
  deriving DecidableEq
inductive B2 where | min | max
  deriving DecidableEq
inductive LM where | index | count
  deriving DecidableEq
inductive TM where | split | find
  deriving DecidableEq
mutual
inductive C where
  | var (i : Nat) | cst (d : D) | neg (a : C) | nt (a : C) | bin (op : Operator) (a b : C) | cmp (op : CmpOp) (a b : C)
  | cmp2 (op oq : CmpOp) (a b c : C) | an (a b : C) | orr (a b : C) | ife (c a b : C) | tp (l : CA) | ls (l : CA)
  | ix (a b : C) | sl (a : C) (lo hi : CO) | rev (a : C) | comp (cap : List (Option Nat)) (tg : Tg) (it : CI) (cd : CO) (e : C)
  | call (f : Nat) (l : CA) | b1 (f : B1) (a : C) | b2 (f : B2) (a b : C) | isi (a : C) (t : Ty) | rngl (a : C) | rngt (a : C) | slen (a : C) | join (sep : Str) (a : C) | lm (f : LM) (a b : C)
  | tm (f : TM) (a b : C) | tix (a b : C) | tsl (a : C) (lo hi : CO) | tin (a b : C)
inductive CA where | nil | cons (a : C) (r : CA)
inductive CO where | no | so (a : C)
inductive CI where | sq (a : C) | tx (a : C) | r4 (a b c : C) | ky (a : C) | r1 (a : C) | r2 (a b : C) | r3 (a b c : C) | zp (a b : C) | en (a : C)
inductive Tg where | one (i : Nat) | many (l : List Nat)
end
inductive Sl where | val (d : D) | own (ds : List D) | ownd (ks : List Int) (ds : List D)
noncomputable def Sl.isO : Sl → Bool
  | .val _ => false
  | _ => true
noncomputable abbrev En := List (Option Sl)
noncomputable def frz : Kd × D → Option D
  | (.bo, _) => none
  | (_, d) => some d
noncomputable def setAll : List Nat → List D → En → Option En
  | [], [], r => some r
  | i :: l, d :: ds, r => setAll l ds (r.set i (some (.val d)))
  | _, _, _ => none
noncomputable def bindT : Tg → D → En → Option En
  | .one i, d, r => some (r.set i (some (.val d)))
  | .many l, .tup ds, r => setAll l ds r
  | _, _, _ => none
noncomputable def compGo (f : D → Option (Option D)) : List D → Option (List D)
  | [] => some []
  | d :: r => (f d).bind fun o => (compGo f r).map fun q => match o with | some x => x :: q | none => q
noncomputable def insI (i : Int) : List Int → List Int
  | [] => [i]
  | x :: r => if i < x then i :: x :: r else x :: insI i r
noncomputable def srtI (l : List Int) : List Int := l.foldr insI []
noncomputable def pairsOf : List D → Option (List (List Int))
  | [] => some []
  | .tup a :: r => (intsOf a).bind fun x => (pairsOf r).map (x :: ·)
  | _ => none
noncomputable def insP (i : List Int) : List (List Int) → List (List Int)
  | [] => [i]
  | x :: r => if lexLt x i then x :: insP i r else i :: x :: r
noncomputable def srtP (l : List (List Int)) : List (List Int) := l.foldr insP []
noncomputable def boolsOf : List D → Option (List Bool)
  | [] => some []
  | .bl b :: r => (boolsOf r).map (b :: ·)
  | _ => none
noncomputable def strsOf : List D → Option (List Str)
  | [] => some []
  | .str b :: r => (strsOf r).map (b :: ·)
  | _ => none
noncomputable def joinS (sep : Str) (l : List Str) : Str := ⟨(l.drop 1).foldl (fun acc p => acc ++ sep.cps ++ p.cps) (l.headD Str.empty).cps⟩
noncomputable def jlen (sep : Str) (l : List Str) : Nat := l.foldl (fun n x => n + x.length + sep.length) 0
noncomputable def sumL (l : List Int) : Int := l.foldl (· + ·) 0
noncomputable def minL : List Int → Option Int
  | [] => none
  | x :: r => some (r.foldl (fun a b => if b < a then b else a) x)
noncomputable def maxL : List Int → Option Int
  | [] => none
  | x :: r => some (r.foldl (fun a b => if b > a then b else a) x)
noncomputable def runT {α : Type} (c : Nat → Nat → Bool) : PySem.W.KasT α → α
  | .ret a => a
  | .ask i j k => runT c (k (c i j))
noncomputable def keyLt (ks : List Int) (i j : Nat) : Bool := decide (ks.getD i 0 < ks.getD j 0)
noncomputable def srtK (ks : List Int) : List Nat := if ks.length < 2 then List.range ks.length else (runT (keyLt ks) (PySem.W.kas_sort ks.length)).toList
noncomputable def keyOf : D → Option Int
  | .tup (_ :: _ :: .int k :: _) => some k
  | _ => none
noncomputable def keysOf : List D → Option (List Int)
  | [] => some []
  | d :: r => (keyOf d).bind fun k => (keysOf r).map (k :: ·)
noncomputable def idxD (d : D) : List D → Option Nat
  | [] => none
  | e :: r => if eqD e d then some 0 else (idxD d r).map (· + 1)
noncomputable def lmD : LM → D → D → Option (Kd × D)
  | .index, .lst ds, d => if okD 40 d && okDs 40 ds then (idxD d ds).map fun i => (.fz, .int (i : Nat)) else none
  | .count, .lst ds, d => if okD 40 d && okDs 40 ds then some (.fz, .int (ds.countP fun e => eqD e d : Nat)) else none
  | _, _, _ => none
noncomputable def tmName : TM → Str
  | .split => "split"
  | .find => "find"
noncomputable def tmD : TM → D → D → Option (Kd × D)
  | .split, .str z, .str y => if (y.length == 0) = false ∧ z.length + 2 ≤ lim then some (.fr, .lst ((Txt.split z y).map D.str)) else none
  | .find, .str z, .str y => some (.fz, .int (match Builtin.Str.occurrences z y 0 z.length 1 with | i :: _ => (i : Int) | [] => -1))
  | _, _, _ => none
noncomputable def tixD : D → D → Option (Kd × D)
  | .str z, .int i => if z.length ≤ lim then (atI z.cps.toList i).map fun c => (.fz, .str ⟨#[c]⟩) else none
  | _, _ => none
noncomputable def tslD : D → Option Int → Option Int → Option (Kd × D)
  | .str z, lo, hi => if z.length ≤ lim then some (.fz, .str (Txt.slice z lo hi)) else none
  | _, _, _ => none
noncomputable def tinO : D → D → Option Bool
  | .str i, .str j => some (!(Builtin.Str.occurrences j i 0 j.length 1).isEmpty)
  | _, _ => none
noncomputable def sgnD (z : Str) : List D := z.cps.toList.map fun c => .str ⟨#[c]⟩
noncomputable def frD (lo : Int) (n : Nat) : List D := (List.range n).map fun (k : Nat) => D.int (lo + 4 * (k : Int))
noncomputable def b1D : B1 → D → Option (Kd × D)
  | .len, .tup ds => some (.fz, .int ds.length)
  | .len, .lst ds => some (.fz, .int ds.length)
  | .len, .str x => if x.length ≤ lim then some (.fz, .int x.length) else none
  | .tuple, .tup ds => some (.fz, .tup ds)
  | .tuple, .lst ds => some (.fz, .tup ds)
  | .list, .tup ds => some (.fr, .lst ds)
  | .list, .lst ds => some (.fr, .lst ds)
  | .sorted, .lst ds => (intsOf ds).bind fun l => if l.length < 64 then some (.fr, .lst ((srtI l).map D.int)) else none
  | .sorted, .tup ds => (intsOf ds).bind fun l => if l.length < 64 then some (.fr, .lst ((srtI l).map D.int)) else none
  | .sortp, .lst ds => (pairsOf ds).bind fun l => if l.length < 64 ∧ (l.all fun x => x.length == 2) = true then some (.fr, .lst ((srtP l).map fun p => .tup (p.map D.int))) else none
  | .byl, .tup ds => (keysOf ds).bind fun ks => if ks.length < 64 ∧ (ds.all fun d => match d with | .tup x => decide (x.length ≤ 1000) | _ => false) = true then some (.fr, .lst ((srtK ks).map fun i => .int (i : Nat))) else none
  | .str, .int i => if i.natAbs < 10 ^ 20 then some (.fz, .str (Str.ofString (toString i))) else none
  | .int, .int i => some (.fz, .int i)
  | .int, .bl b => some (.fz, .int (if b then 1 else 0))
  | .itx, .str x => if x.length ≤ 640 then (intText? x).map fun n => (.fz, .int n) else none
  | .sum, .lst ds => (intsOf ds).map fun l => (.fz, .int (sumL l))
  | .all, .lst ds => (boolsOf ds).map fun l => (.fz, .bl (l.all id))
  | .any, .lst ds => (boolsOf ds).map fun l => (.fz, .bl (l.any id))
  | .min, .lst ds => (intsOf ds).bind fun l => (minL l).map fun i => (.fz, .int i)
  | .min, .tup ds => (intsOf ds).bind fun l => (minL l).map fun i => (.fz, .int i)
  | .max, .lst ds => (intsOf ds).bind fun l => (maxL l).map fun i => (.fz, .int i)
  | .max, .tup ds => (intsOf ds).bind fun l => (maxL l).map fun i => (.fz, .int i)
  | _, _ => none
noncomputable def b2D : B2 → D → D → Option (Kd × D)
  | .min, .int a, .int b => some (.fz, .int (if b < a then b else a))
  | .max, .int a, .int b => some (.fz, .int (if b > a then b else a))
  | _, _, _ => none
noncomputable def rngD (lo : Int) (n : Nat) : List D := (List.range n).map fun (k : Nat) => D.int (lo + (k : Int))
noncomputable def dwnD (hi : Int) (n : Nat) : List D := (List.range n).map fun (k : Nat) => D.int (hi - (k : Int))
noncomputable def rngOk (i : Int) : Bool := decide (i.natAbs < 4611686018427387904)
noncomputable def zipD : List D → List D → List D
  | a :: r, b :: q => .tup [a, b] :: zipD r q
  | _, _ => []
noncomputable def capt (r : En) (cap : List (Option Nat)) : En := cap.map fun o => o.bind fun i => (r[i]?).join
noncomputable def free1 (cap : List (Option Nat)) (i : Nat) : Bool := match cap[i]? with | some none => true | _ => false
noncomputable def freeT (cap : List (Option Nat)) : Tg → Bool
  | .one i => free1 cap i
  | .many l => l.all (free1 cap)
noncomputable def nfr : Kd → Kd
  | .bo => .bo
  | _ => .fz
noncomputable abbrev VT := Option (Kd × D) × Option Bool
noncomputable def vt (v : Option (Kd × D)) : VT := (v, v.bind fun x => truD x.2)
mutual
noncomputable def ev (p : Nat → List D → Option D) : C → En → VT
  | .var i, r => vt (match r[i]? with
    | some (some (.val d)) => some (.fz, d)
    | some (some (.own ds)) => some (.bo, .lst ds)
    | some (some (.ownd ks ds)) => some (.bo, .dct ks ds)
    | _ => none)
  | .cst d, _ => vt (some (.fz, d))
  | .neg a, r => vt ((ev p a r).1.bind fun x => match x.2 with | .int i => some (.fz, .int (-i)) | _ => none)
  | .nt a, r => ((ev p a r).1.bind fun x => match x.2 with | .bl b => some (.fz, .bl (!b)) | _ => none, (ev p a r).2.map fun k => !k)
  | .bin op a b, r => vt ((ev p a r).1.bind fun x => (ev p b r).1.bind fun y => opD op x.2 y.2)
  | .cmp op a b, r => vt ((ev p a r).1.bind fun x => (ev p b r).1.bind fun y => (cmpD op x.2 y.2).map fun b => (.fz, .bl b))
  | .cmp2 op oq a b c, r => vt ((ev p a r).1.bind fun x => (ev p b r).1.bind fun y => (cmpD op x.2 y.2).bind fun k =>
      if k then (ev p c r).1.bind fun z => (cmpD oq y.2 z.2).map fun b => (.fz, .bl b) else some (.fz, .bl false))
  | .an a b, r => ((ev p a r).1.bind fun x => match x.2 with | .bl true => (ev p b r).1 | .bl false => some (.fz, .bl false) | _ => none,
      (ev p a r).2.bind fun k => if k then (ev p b r).2 else some false)
  | .orr a b, r => ((ev p a r).1.bind fun x => match x.2 with | .bl true => some (.fz, .bl true) | .bl false => (ev p b r).1 | _ => none,
      (ev p a r).2.bind fun k => if k then some true else (ev p b r).2)
  | .ife c a b, r => vt ((ev p c r).2.bind fun k => if k then (ev p a r).1 else (ev p b r).1)
  | .tp l, r => vt ((evA p l r).bind fun ds => if ds.length ≤ lim then some (.fz, .tup ds) else none)
  | .ls l, r => vt ((evA p l r).bind fun ds => if ds.length ≤ lim then some (.fr, .lst ds) else none)
  | .ix a b, r => vt ((ev p a r).1.bind fun x => (ev p b r).1.bind fun y => match y.2 with
    | .int i => (match x.2 with
      | .dct ks ds => (atK ks ds i).map fun d => (.fz, d)
      | z => (seqOf z).bind fun ds => (atI ds i).map fun d => (.fz, d))
    | _ => none)
  | .sl a lo hi, r => vt ((ev p a r).1.bind fun x => (evO p lo r).1.bind fun l => (evO p hi r).1.bind fun h => match x.2 with
    | .tup ds => some (.fz, .tup (cut ds l h))
    | .lst ds => some (.fr, .lst (cut ds l h))
    | _ => none)
  | .rev a, r => vt ((ev p a r).1.bind fun x => match x.2 with
    | .tup ds => some (.fz, .tup ds.reverse)
    | .lst ds => some (.fr, .lst ds.reverse)
    | _ => none)
  | .comp cap tg it cd e, r => vt ((evI p it r).bind fun ds => if ds.2.length ≤ lim ∧ freeT cap tg = true then
      (compGo (fun d => (bindT tg d (capt r cap)).bind fun q => (evO p cd q).2.bind fun k => if k then ((ev p e q).1.bind frz).map some else some none) ds.2).map fun l => (.fr, .lst l)
    else none)
  | .call f l, r => vt ((evA p l r).bind fun ds => (p f ds).map fun d => (.fz, d))
  | .b1 f a, r => vt ((ev p a r).1.bind fun x => b1D f x.2)
  | .b2 f a b, r => vt ((ev p a r).1.bind fun x => (ev p b r).1.bind fun y => b2D f x.2 y.2)
  | .isi a t, r => vt ((ev p a r).1.bind fun x => isiD t x.2)
  | .rngl a, r => vt ((ev p a r).1.bind fun x => match x.2 with
    | .int i => if rngOk i && decide (i.natAbs ≤ lim) then some (.fr, .lst (rngD 0 i.toNat)) else none
    | _ => none)
  | .rngt a, r => vt ((ev p a r).1.bind fun x => match x.2 with
    | .int i => if rngOk i && decide (i.natAbs ≤ lim) then some (.fz, .tup (rngD 0 i.toNat)) else none
    | _ => none)
  | .slen a, r => vt ((ev p a r).1.bind fun x => match x.2 with
    | .tup ds => (intsOf ds).bind fun l => if l.length ≤ 1000 then some (.fz, .int (ddp l).length) else none
    | _ => none)
  | .join sep a, r => vt ((ev p a r).1.bind fun x => match x.2 with
    | .lst ds => (strsOf ds).bind fun l => if jlen sep l ≤ lim then some (.fz, .str (joinS sep l)) else none
    | _ => none)
  | .lm f a b, r => vt ((ev p a r).1.bind fun x => (ev p b r).1.bind fun y => lmD f x.2 y.2)
  | .tm f a b, r => vt ((ev p a r).1.bind fun x => (ev p b r).1.bind fun y => tmD f x.2 y.2)
  | .tix a b, r => vt ((ev p a r).1.bind fun x => (ev p b r).1.bind fun y => tixD x.2 y.2)
  | .tsl a lo hi, r => vt ((ev p a r).1.bind fun x => (evO p lo r).1.bind fun l => (evO p hi r).1.bind fun h => tslD x.2 l h)
  | .tin a b, r => vt ((ev p a r).1.bind fun x => (ev p b r).1.bind fun y => (tinO x.2 y.2).map fun b => (.fz, .bl b))
noncomputable def evA (p : Nat → List D → Option D) : CA → En → Option (List D)
  | .nil, _ => some []
  | .cons a l, r => ((ev p a r).1.bind frz).bind fun d => (evA p l r).map fun q => d :: q
noncomputable def evO (p : Nat → List D → Option D) : CO → En → Option (Option Int) × Option Bool
  | .no, _ => (some none, some true)
  | .so a, r => ((ev p a r).1.bind fun x => match x.2 with | .int i => some (some i) | _ => none, (ev p a r).2)
noncomputable def evI (p : Nat → List D → Option D) : CI → En → Option (Kd × List D)
  | .sq a, r => (ev p a r).1.bind fun x => (seqOf x.2).map fun u => (nfr x.1, u)
  | .tx a, r => (ev p a r).1.bind fun x => match x.2 with | .str z => if z.length ≤ lim then some (.fz, sgnD z) else none | _ => none
  | .r4 a b c, r => (ev p a r).1.bind fun x => (ev p b r).1.bind fun y => (ev p c r).1.bind fun z => match x.2, y.2, z.2 with
    | .int i, .int j, .int k => if rngOk i && rngOk j && k == 4 then some (.fz, frD i ((j - i + 3) / 4).toNat) else none
    | _, _, _ => none
  | .ky a, r => (ev p a r).1.bind fun x => match x with | (.fz, .dct ks _) => some (.fz, ks.map D.int) | _ => none
  | .r1 a, r => (ev p a r).1.bind fun x => match x.2 with | .int i => if rngOk i then some (.fz, rngD 0 i.toNat) else none | _ => none
  | .r2 a b, r => (ev p a r).1.bind fun x => (ev p b r).1.bind fun y => match x.2, y.2 with
    | .int i, .int j => if rngOk i && rngOk j then some (.fz, rngD i (j - i).toNat) else none
    | _, _ => none
  | .r3 a b c, r => (ev p a r).1.bind fun x => (ev p b r).1.bind fun y => (ev p c r).1.bind fun z => match x.2, y.2, z.2 with
    | .int i, .int j, .int k => if rngOk i && rngOk j && k == -1 then some (.fz, dwnD i (i - j).toNat) else none
    | _, _, _ => none
  | .zp a b, r => (ev p a r).1.bind fun x => (ev p b r).1.bind fun y => match x.2, y.2 with | .tup u, .tup v => some (.fz, zipD u v) | _, _ => none
  | .en a, r => (ev p a r).1.bind fun x => match x.2 with | .tup u => some (.fz, zipD (rngD 0 u.length) u) | _ => none
end
mutual
inductive S where
  | asg (o : Bool) (i : Nat) (c : C) | asgT (l : List Nat) (c : C) | app (i : Nat) (c : C) | ext (i : Nat) (c : C) | rem (i : Nat) (c : C) | dnew (i : Nat) (k v : C) | dset (i : Nat) (k v : C) | give (i : Nat)
  | ifs (c : C) (a b : SS) | fr (tg : Tg) (it : CI) (b : SS) | wh (c : C) (b : SS) | ret (c : C) | pas | nev
inductive SS where | nil | cons (s : S) (r : SS)
end
inductive Fl where | nx (r : En) | bk (r : En) | ct (r : En) | rt (d : D)
noncomputable def loopF (tg : Tg) (f : En → Option Fl) : List D → En → Option Fl
  | [], r => some (.nx r)
  | d :: ds, r => (bindT tg d r).bind fun q => (f q).bind fun o => match o with
    | .nx q => loopF tg f ds q
    | .ct q => loopF tg f ds q
    | .bk q => some (.nx q)
    | .rt d => some (.rt d)
noncomputable def loopW (c : En → Option Bool) (f : En → Option Fl) : Nat → En → Option Fl
  | 0, _ => none
  | n + 1, r => (c r).bind fun k => if k then (f r).bind fun o => match o with
    | .nx q => loopW c f n q
    | .ct q => loopW c f n q
    | .bk q => some (.nx q)
    | .rt d => some (.rt d) else some (.nx r)
noncomputable def fuel : Nat := 100000
mutual
noncomputable def evS (p : Nat → List D → Option D) : S → En → Option Fl
  | .asg o i c, r => (ev p c r).1.bind fun x => match o, x with
    | true, (.fr, .lst ds) => some (.nx (r.set i (some (.own ds))))
    | _, x => (frz x).map fun d => .nx (r.set i (some (.val d)))
  | .asgT l c, r => ((ev p c r).1.bind frz).bind fun d => (bindT (.many l) d r).map Fl.nx
  | .app i c, r => ((ev p c r).1.bind frz).bind fun d => match r[i]? with
    | some (some (.own ds)) => if ds.length < lim then some (.nx (r.set i (some (.own (ds ++ [d]))))) else none
    | _ => none
  | .ext i c, r => (ev p c r).1.bind fun x => match x.2, r[i]? with
    | .lst es, some (some (.own ds)) => if ds.length + es.length ≤ lim then some (.nx (r.set i (some (.own (ds ++ es))))) else none
    | _, _ => none
  | .rem i c, r => ((ev p c r).1.bind frz).bind fun d => match r[i]? with
    | some (some (.own ds)) => if okD 40 d && okDs 40 ds && decide (ds.length ≤ lim) then (remD d ds).map fun es => .nx (r.set i (some (.own es))) else none
    | _ => none
  | .dnew i k v, r => (ev p k r).1.bind fun x => ((ev p v r).1.bind frz).bind fun d => match x.2 with
    | .int a => some (.nx (r.set i (some (.ownd [a] [d]))))
    | _ => none
  | .dset i k v, r => (ev p k r).1.bind fun x => ((ev p v r).1.bind frz).bind fun d => match x.2, r[i]? with
    | .int a, some (some (.ownd ks ds)) => if ks.length < lim ∧ a ∉ ks then some (.nx (r.set i (some (.ownd (ks ++ [a]) (ds ++ [d]))))) else none
    | _, _ => none
  | .give i, r => match r[i]? with
    | some (some (.own ds)) => some (.nx (r.set i (some (.val (.lst ds)))))
    | some (some (.ownd ks ds)) => some (.nx (r.set i (some (.val (.dct ks ds)))))
    | _ => none
  | .ifs c a b, r => (ev p c r).2.bind fun k => if k then evSS p a r else evSS p b r
  | .fr tg it b, r => (evI p it r).bind fun ds => match ds.1 with
    | .bo => none
    | _ => loopF tg (fun q => evSS p b q) ds.2 r
  | .wh c b, r => loopW (fun q => (ev p c q).2) (fun q => evSS p b q) fuel r
  | .ret c, r => ((ev p c r).1.bind frz).map Fl.rt
  | .pas, r => some (.nx r)
  | .nev, _ => none
noncomputable def evSS (p : Nat → List D → Option D) : SS → En → Option Fl
  | .nil, r => some (.nx r)
  | .cons s l, r => (evS p s r).bind fun o => match o with
    | .nx q => evSS p l q
    | x => some x
end
noncomputable def enter (n : Nat) (ds : List D) : En := ds.map (fun d => some (.val d)) ++ List.replicate (n - ds.length) none
noncomputable def left : Option Fl → Option D
  | some (.rt d) => some d
  | some (.nx _) => some .non
  | _ => none
noncomputable def runF (p : Nat → List D → Option D) (n : Nat) (b : SS) (ds : List D) : Option D := left (evSS p b (enter n ds))
noncomputable def cellD (K : List (Addr × Obj)) : List D → Option D
  | [.scr K' _ ns, .int k] => by
    classical
    exact if K' = K ∧ ns.length ≤ 63 ∧ 0 ≤ k then some (.int (ns.getD k.toNat 0)) else none
  | _ => none
noncomputable def pf (K : List (Addr × Obj)) (bs : List (Nat × SS)) : Nat → Nat → List D → Option D
  | 0, _, _ => none
  | k + 1, i, args => if i = 0 then cellD K args else match bs[i]? with
    | some b => runF (pf K bs k) b.1 b.2 args
    | none => none
noncomputable def slice (l : List C) : CA := l.foldr CA.cons CA.nil
noncomputable def block (l : List S) : SS := l.foldr SS.cons SS.nil
example (p r a b) : ev p (.bin .Add a b) r = vt ((ev p a r).1.bind fun x => (ev p b r).1.bind fun y => opD .Add x.2 y.2) := rfl
end TW
end
section
set_option Elab.async false
set_option linter.all false
set_option maxRecDepth 100000
set_option maxHeartbeats 4000000
namespace TW
open PySem PySem.Spec PyProof.Rows L2
noncomputable def zipK (ks : List Int) (xs : List V) : List (Key × V) := (ks.map Sum.inl).zip xs
mutual
noncomputable def Rp (G : Hp) : D → V → Prop
  | .non, v => v = .non
  | .bl b, v => v = .bl b
  | .int i, v => v = .int i
  | .str x, v => v = .str x
  | .tup ds, v => ∃ a xs, v = .ref a ∧ G a = some (.tup xs) ∧ Rps G ds xs
  | .lst ds, v => ∃ a xs, v = .ref a ∧ Rd G a (.lst xs) ∧ Rps G ds xs
  | .scr K a ns, v => v = .ref a ∧ SqL K G a (ns.map V.int)
  | .dct ks ds, v => ∃ a o xs, v = .ref a ∧ ks.length = ds.length ∧ G a = some (.frz o (.dK (zipK ks xs))) ∧ Rps G ds xs
noncomputable def Rps (G : Hp) : List D → List V → Prop
  | [], xs => xs = []
  | d :: ds, xs => ∃ x r, xs = x :: r ∧ Rp G d x ∧ Rps G ds r
end
theorem Rd.same {G G' : Hp} (h : Same G G') {a : Addr} {u : HO} (r : Rd G a u) : Rd G' a u := by
  rcases r with g | ⟨o, g⟩
  · exact .inl (h _ _ g)
  · exact .inr ⟨o, h _ _ g⟩
mutual
theorem Rp.mono {G G' : Hp} (h : Same G G') : ∀ (d : D) (v : V), Rp G d v → Rp G' d v
  | .non, _, r => r
  | .bl _, _, r => r
  | .int _, _, r => r
  | .str _, _, r => r
  | .tup ds, v, r => by
    obtain ⟨a, xs, e, g, r⟩ := r
    exact ⟨a, xs, e, h _ _ g, Rps.mono h ds xs r⟩
  | .lst ds, v, r => by
    obtain ⟨a, xs, e, g, r⟩ := r
    exact ⟨a, xs, e, Rd.same h g, Rps.mono h ds xs r⟩
  | .scr K a ns, v, r => ⟨r.1, Same.seq h r.2⟩
  | .dct ks ds, v, r => by
    obtain ⟨a, o, xs, e, l, g, r⟩ := r
    exact ⟨a, o, xs, e, l, h _ _ g, Rps.mono h ds xs r⟩
theorem Rps.mono {G G' : Hp} (h : Same G G') : ∀ (ds : List D) (xs : List V), Rps G ds xs → Rps G' ds xs
  | [], _, r => r
  | d :: ds, _, r => by
    obtain ⟨x, q, e, p, t⟩ := r
    exact ⟨x, q, e, Rp.mono h d x p, Rps.mono h ds q t⟩
end
section
variable {G : Hp}
theorem Rps.length : ∀ {ds : List D} {xs : List V}, Rps G ds xs → xs.length = ds.length
  | [], _, r => by cases (show _ = _ from r); rfl
  | d :: ds, _, r => by
    obtain ⟨x, q, rfl, _, t⟩ := r
    simp [Rps.length t]
theorem Rps.get : ∀ {ds : List D} {xs : List V} {i : Nat} {d : D}, Rps G ds xs → ds[i]? = some d → ∃ x, xs[i]? = some x ∧ Rp G d x
  | [], _, _, _, _, e => by simp at e
  | d :: ds, _, 0, _, r, e => by
    obtain ⟨x, q, rfl, p, t⟩ := r
    simp at e; subst e
    exact ⟨x, rfl, p⟩
  | d :: ds, _, i + 1, e', r, e => by
    obtain ⟨x, q, rfl, p, t⟩ := r
    obtain ⟨y, h1, h2⟩ := Rps.get (i := i) t (by simpa using e)
    exact ⟨y, by simpa using h1, h2⟩
theorem Rps.nil : Rps G [] [] := rfl
theorem Rps.cons {d : D} {x : V} {ds : List D} {xs : List V} (p : Rp G d x) (t : Rps G ds xs) : Rps G (d :: ds) (x :: xs) := ⟨x, xs, rfl, p, t⟩
theorem Rps.append : ∀ {ds es : List D} {xs ys : List V}, Rps G ds xs → Rps G es ys → Rps G (ds ++ es) (xs ++ ys)
  | [], _, _, _, r, s => by cases (show _ = _ from r); exact s
  | d :: ds, _, _, _, r, s => by
    obtain ⟨x, q, rfl, p, t⟩ := r
    exact ⟨x, _, rfl, p, Rps.append t s⟩
theorem Rps.take : ∀ (n : Nat) {ds : List D} {xs : List V}, Rps G ds xs → Rps G (ds.take n) (xs.take n)
  | 0, _, _, _ => by simp [Rps]
  | n + 1, [], _, r => by cases (show _ = _ from r); simp [Rps]
  | n + 1, d :: ds, _, r => by
    obtain ⟨x, q, rfl, p, t⟩ := r
    exact ⟨x, _, rfl, p, Rps.take n t⟩
theorem Rps.drop : ∀ (n : Nat) {ds : List D} {xs : List V}, Rps G ds xs → Rps G (ds.drop n) (xs.drop n)
  | 0, _, _, r => r
  | n + 1, [], _, r => by cases (show _ = _ from r); simp [Rps]
  | n + 1, d :: ds, _, r => by
    obtain ⟨x, q, rfl, p, t⟩ := r
    exact Rps.drop n t
theorem Rps.reverse : ∀ {ds : List D} {xs : List V}, Rps G ds xs → Rps G ds.reverse xs.reverse
  | [], _, r => by cases (show _ = _ from r); simp [Rps]
  | d :: ds, _, r => by
    obtain ⟨x, q, rfl, p, t⟩ := r
    rw [List.reverse_cons, List.reverse_cons]
    exact Rps.append (Rps.reverse t) (Rps.cons p Rps.nil)
theorem Rps.set {d : D} {x : V} (p : Rp G d x) : ∀ {ds : List D} {xs : List V} (i : Nat), Rps G ds xs → Rps G (ds.set i d) (xs.set i x)
  | [], _, _, r => by cases (show _ = _ from r); simp [Rps]
  | _ :: _, _, 0, r => by
    obtain ⟨y, q, rfl, _, t⟩ := r
    exact ⟨x, q, rfl, p, t⟩
  | _ :: _, _, i + 1, r => by
    obtain ⟨y, q, rfl, p', t⟩ := r
    exact ⟨y, _, rfl, p', Rps.set p i t⟩
theorem Rps.ints : ∀ {ns : List Int} {xs : List V}, Rps G (ns.map D.int) xs → xs = ns.map V.int
  | [], _, r => by cases (show _ = _ from r); rfl
  | n :: ns, _, r => by
    obtain ⟨x, q, rfl, p, t⟩ := r
    cases (show _ = _ from p)
    rw [Rps.ints t]; rfl
theorem Rps.rep {ds : List D} {xs : List V} (r : Rps G ds xs) : ∀ k : Nat, Rps G (catRep ds k) (List.replicate k xs).flatten
  | 0 => by simp [catRep, Rps]
  | k + 1 => by
    have := Rps.append r (Rps.rep r k)
    simpa [catRep, List.replicate_succ] using this
end
theorem intsOf_eq : ∀ {ds : List D} {ns : List Int}, intsOf ds = some ns → ds = ns.map D.int
  | [], _, e => by simp [intsOf] at e; subst e; rfl
  | .int i :: r, ns, e => by
    simp only [intsOf, Option.map_eq_some_iff] at e
    obtain ⟨q, h, rfl⟩ := e
    rw [intsOf_eq h]; rfl
  | .non :: r, _, e => by simp [intsOf] at e
  | .bl _ :: r, _, e => by simp [intsOf] at e
  | .str _ :: r, _, e => by simp [intsOf] at e
  | .tup _ :: r, _, e => by simp [intsOf] at e
  | .lst _ :: r, _, e => by simp [intsOf] at e
  | .scr _ _ _ :: r, _, e => by simp [intsOf] at e
  | .dct _ _ :: r, _, e => by simp [intsOf] at e
structure Ext (G H G' H' : Hp) : Prop where
  gg : Same G G'
  hh : Same H H'
  gh : Same G' H'
  nw : ∀ b o, G' b = some o → G b = some o ∨ H b = none
theorem Ext.refl {G H : Hp} (h : Same G H) : Ext G H G H := ⟨Same.refl _, Same.refl _, h, fun _ _ e => .inl e⟩
theorem Ext.trans {G H G1 H1 G2 H2 : Hp} (a : Ext G H G1 H1) (b : Ext G1 H1 G2 H2) : Ext G H G2 H2 :=
  ⟨a.gg.trans b.gg, a.hh.trans b.hh, b.gh, fun c o e => (b.nw c o e).elim (fun z => a.nw c o z) fun z => .inr (a.hh.free z)⟩
theorem Ext.laid {G H : Hp} (h : Same G H) {p : Addr} (hp : H p = none) (o : HO) : Ext G H (upd G p o) (upd H p o) := by
  have gp : G p = none := h.free hp
  refine ⟨fun b u e => ?_, fun b u e => ?_, fun b u e => ?_, fun b u e => ?_⟩
  · rw [upd_ne (ne_of_none e gp)]; exact e
  · rw [upd_ne (ne_of_none e hp)]; exact e
  · by_cases hb : b = p
    · subst hb; rw [upd_same] at e ⊢; exact e
    · rw [upd_ne hb] at e ⊢; exact h _ _ e
  · by_cases hb : b = p
    · subst hb; exact .inr hp
    · rw [upd_ne hb] at e; exact .inl e
theorem Ext.grown {G H : Hp} (h : Same G H) {p : Addr} (hp : H p = none) (o : HO) : Ext G H G (upd H p o) := by
  refine ⟨Same.refl _, fun b u e => ?_, fun b u e => ?_, fun b u e => .inl e⟩
  · rw [upd_ne (ne_of_none e hp)]; exact e
  · rw [upd_ne (ne_of_none (h _ _ e) hp)]; exact h _ _ e
theorem Ext.freeze {G H G' H' : Hp} (x : Ext G H G' H') {l : Addr} {o : HO} (hl : H l = none) (hl' : H' l = some o) (hg : G' l = none) : Ext G H (upd G' l o) H' ∧ Same G' (upd G' l o) := by
  have s1 : Same G' (upd G' l o) := fun b u e => by rw [upd_ne (ne_of_none e hg)]; exact e
  refine ⟨⟨x.gg.trans s1, x.hh, fun b u e => ?_, fun b u e => ?_⟩, s1⟩
  · by_cases hb : b = l
    · subst hb; rw [upd_same] at e; rw [hl']; exact e
    · rw [upd_ne hb] at e; exact x.gh _ _ e
  · by_cases hb : b = l
    · subst hb; exact .inr hl
    · rw [upd_ne hb] at e; exact x.nw _ _ e
noncomputable def Rb (G H : Hp) : D → V → Prop
  | .lst ds, v => ∃ l xs, v = .ref l ∧ Rd H l (.lst xs) ∧ Rps G ds xs
  | .dct ks ds, v => ∃ a xs, v = .ref a ∧ ks.length = ds.length ∧ Rd H a (.dK (zipK ks xs)) ∧ Rps G ds xs
  | d, v => Rp G d v
theorem Rb.mono {G H G' H' : Hp} (gg : Same G G') (hh : Same H H') {d : D} {v : V} (r : Rb G H d v) : Rb G' H' d v := by
  cases d with
  | lst ds => obtain ⟨l, xs, e, h, r⟩ := r; exact ⟨l, xs, e, Rd.same hh h, Rps.mono gg _ _ r⟩
  | non => exact Rp.mono gg _ _ r
  | bl b => exact Rp.mono gg _ _ r
  | int b => exact Rp.mono gg _ _ r
  | str b => exact Rp.mono gg _ _ r
  | tup b => exact Rp.mono gg _ _ r
  | scr _ _ _ => exact Rp.mono gg _ _ r
  | dct ks ds => obtain ⟨a, xs, e, l, h, r⟩ := r; exact ⟨a, xs, e, l, Rd.same hh h, Rps.mono gg _ _ r⟩
theorem Rb.of {G H : Hp} (s : Same G H) {d : D} {v : V} (r : Rp G d v) : Rb G H d v := by
  cases d with
  | lst ds => obtain ⟨l, xs, e, h, r⟩ := r; exact ⟨l, xs, e, Rd.same s h, r⟩
  | non => exact r
  | bl b => exact r
  | int b => exact r
  | str b => exact r
  | tup b => exact r
  | scr _ _ _ => exact r
  | dct ks ds => obtain ⟨a, o, xs, e, l, h, r⟩ := r; exact ⟨a, xs, e, l, .inr ⟨o, s _ _ h⟩, r⟩
noncomputable def RR (G' H' H : Hp) (v : V) : Kd × D → Prop
  | (.fz, d) => Rp G' d v
  | (.fr, d) => ∃ l xs ds, d = .lst ds ∧ v = .ref l ∧ H' l = some (.lst xs) ∧ G' l = none ∧ H l = none ∧ Rps G' ds xs
  | (.bo, d) => Rb G' H' d v
theorem RR.rb {G' H' H : Hp} {v : V} (s : Same G' H') : ∀ {x : Kd × D}, RR G' H' H v x → Rb G' H' x.2 v
  | (.fz, d), r => Rb.of s r
  | (.fr, d), r => by obtain ⟨l, xs, ds, rfl, e, h, _, _, r⟩ := r; exact ⟨l, xs, e, .inl h, r⟩
  | (.bo, d), r => r
theorem RR.back {G' H' H H0 : Hp} {v : V} (s : Same H0 H) : ∀ {x : Kd × D}, RR G' H' H v x → RR G' H' H0 v x
  | (.fz, d), r => r
  | (.fr, d), r => by obtain ⟨l, xs, ds, e1, e2, h, g, n, r⟩ := r; exact ⟨l, xs, ds, e1, e2, h, g, s.free n, r⟩
  | (.bo, d), r => r
theorem RR.frz {G H G' H' : Hp} (x : Ext G H G' H') {v : V} {y : Kd × D} {d : D} (r : RR G' H' H v y) (e : TW.frz y = some d) : ∃ G2, Ext G H G2 H' ∧ Same G' G2 ∧ Rp G2 d v := by
  obtain ⟨k, z⟩ := y
  cases k with
  | fz => cases e; exact ⟨G', x, Same.refl _, r⟩
  | bo => cases e
  | fr =>
    cases e
    obtain ⟨l, xs, ds, rfl, rfl, h, g, n, r⟩ := r
    obtain ⟨x2, s2⟩ := x.freeze n h g
    exact ⟨_, x2, s2, l, xs, rfl, .inl upd_same, Rps.mono s2 _ _ r⟩
noncomputable def Ob (G : Hp) : Sl → HO → Prop
  | .val _, _ => False
  | .own ds, o => ∃ xs, o = .lst xs ∧ Rps G ds xs
  | .ownd ks ds, o => ∃ xs, o = .dK (zipK ks xs) ∧ ks.length = ds.length ∧ Rps G ds xs
theorem Ob.mono {G G' : Hp} (h : Same G G') : ∀ {x : Sl} {o : HO}, Ob G x o → Ob G' x o
  | .val _, _, r => r
  | .own ds, o, ⟨xs, e, r⟩ => ⟨xs, e, Rps.mono h _ _ r⟩
  | .ownd ks ds, o, ⟨xs, e, l, r⟩ => ⟨xs, e, l, Rps.mono h _ _ r⟩
structure SR0 (G H : Hp) (σ : L2.St) (ρ : En) : Prop where
  len : σ.length = ρ.length
  val : ∀ (i : Nat) (d : D), ρ[i]? = some (some (Sl.val d)) → ∃ v, σ[i]? = some (some v) ∧ Rp G d v
  owns : ∀ (i : Nat) (x : Sl), ρ[i]? = some (some x) → x.isO = true → ∃ l o, σ[i]? = some (some (.ref l)) ∧ H l = some o ∧ G l = none ∧ Ob G x o
  dst : ∀ (i j : Nat) (x y : Sl) (l : Addr), ρ[i]? = some (some x) → x.isO = true → ρ[j]? = some (some y) → y.isO = true → σ[i]? = some (some (.ref l)) → σ[j]? = some (some (.ref l)) → i = j
theorem SR0.own {G H : Hp} {σ : L2.St} {ρ : En} (s : SR0 G H σ ρ) (i : Nat) (ds : List D) (h : ρ[i]? = some (some (Sl.own ds))) : ∃ l xs, σ[i]? = some (some (.ref l)) ∧ H l = some (.lst xs) ∧ G l = none ∧ Rps G ds xs := by
  obtain ⟨l, o, a, b, c, xs, rfl, r⟩ := s.owns i _ h rfl
  exact ⟨l, xs, a, b, c, r⟩
theorem SR0.ownd {G H : Hp} {σ : L2.St} {ρ : En} (s : SR0 G H σ ρ) (i : Nat) (ks : List Int) (ds : List D) (h : ρ[i]? = some (some (Sl.ownd ks ds))) : ∃ l xs, σ[i]? = some (some (.ref l)) ∧ H l = some (.dK (zipK ks xs)) ∧ G l = none ∧ ks.length = ds.length ∧ Rps G ds xs := by
  obtain ⟨l, o, a, b, c, xs, rfl, e, r⟩ := s.owns i _ h rfl
  exact ⟨l, xs, a, b, c, e, r⟩
structure SR (G H : Hp) (σ : L2.St) (ρ : En) : Prop extends SR0 G H σ ρ where
  gh : Same G H
  tb : Tb G
theorem SR0.mono {G H G' H' : Hp} {σ : L2.St} {ρ : En} (s : SR0 G H σ ρ) (gg : Same G G') (hh : Same H H') (nw : ∀ b o, G' b = some o → G b = some o ∨ H b = none) : SR0 G' H' σ ρ := by
  refine ⟨s.len, fun i d e => ?_, fun i x e hx => ?_, s.dst⟩
  · obtain ⟨v, e1, r⟩ := s.val i d e
    exact ⟨v, e1, Rp.mono gg _ _ r⟩
  · obtain ⟨l, o, e1, h, g, r⟩ := s.owns i x e hx
    refine ⟨l, o, e1, hh _ _ h, ?_, r.mono gg⟩
    cases q : G' l with
    | none => rfl
    | some o =>
      rcases nw l o q with z | z
      · rw [g] at z; cases z
      · rw [h] at z; cases z
theorem SR.ext {G H G' H' : Hp} {σ : L2.St} {ρ : En} (s : SR G H σ ρ) (x : Ext G H G' H') : SR G' H' σ ρ := ⟨s.toSR0.mono x.gg x.hh x.nw, x.gh, s.tb.mono x.gg⟩
theorem set_own {ρ : En} {i j : Nat} {d : D} {x : Sl} (h : (ρ.set i (some (Sl.val d)))[j]? = some (some x)) (hx : x.isO = true) : i ≠ j ∧ ρ[j]? = some (some x) := by
  have n : i ≠ j := fun z => by
    subst z
    have hi : i < ρ.length := by
      obtain ⟨q, _⟩ := List.getElem?_eq_some_iff.mp h; simpa using q
    rw [List.getElem?_set_self hi] at h
    cases h
    cases hx
  rw [List.getElem?_set_ne n] at h
  exact ⟨n, h⟩
theorem SR0.set {G H : Hp} {σ : L2.St} {ρ : En} (s : SR0 G H σ ρ) {i : Nat} {d : D} {v : V} (r : Rp G d v) : SR0 G H (σ.set i (some v)) (ρ.set i (some (.val d))) := by
  refine ⟨by simp [s.len], fun j e h => ?_, fun j x h hx => ?_, fun j k x y l h1 hx h2 hy e1 e2 => ?_⟩
  · by_cases hj : i = j
    · subst hj
      have hi : i < ρ.length := by
        obtain ⟨q, _⟩ := List.getElem?_eq_some_iff.mp h; simpa using q
      rw [List.getElem?_set_self hi] at h
      cases h
      exact ⟨v, by rw [List.getElem?_set_self (by rw [s.len]; exact hi)], r⟩
    · rw [List.getElem?_set_ne hj] at h ⊢
      exact s.val j e h
  · obtain ⟨n, h⟩ := set_own h hx
    rw [List.getElem?_set_ne n]
    exact s.owns j x h hx
  · obtain ⟨n1, h1⟩ := set_own h1 hx
    obtain ⟨n2, h2⟩ := set_own h2 hy
    rw [List.getElem?_set_ne n1] at e1
    rw [List.getElem?_set_ne n2] at e2
    exact s.dst j k x y l h1 hx h2 hy e1 e2
theorem SR0.drop {G H : Hp} {σ : L2.St} {ρ : En} {i : Nat} {d : D} (s : SR0 G H σ (ρ.set i (some (.val d)))) (h : ρ[i]? = some none) : SR0 G H σ ρ := by
  have back : ∀ (j : Nat) (x : Sl), ρ[j]? = some (some x) → (ρ.set i (some (.val d)))[j]? = some (some x) := fun j x e => by
    have n : i ≠ j := fun z => by subst z; rw [h] at e; cases e
    rw [List.getElem?_set_ne n]; exact e
  exact ⟨by rw [s.len, List.length_set], fun j e q => s.val j e (back _ _ q), fun j x q hx => s.owns j x (back _ _ q) hx, fun j k x y l h1 hx h2 hy => s.dst j k x y l (back _ _ h1) hx (back _ _ h2) hy⟩
noncomputable def setAllV : List Nat → List V → L2.St → L2.St
  | i :: l, x :: xs, σ => setAllV l xs (σ.set i (some x))
  | _, _, σ => σ
noncomputable def Bound (tg : Tg) (d : D) (G : Hp) (σ σ' : L2.St) : Prop :=
  match tg with
  | .one i => ∃ v, Rp G d v ∧ σ' = σ.set i (some v)
  | .many l => ∃ ds xs, d = .tup ds ∧ Rps G ds xs ∧ xs.length = l.length ∧ σ' = setAllV l xs σ
theorem SR0.setAll {G H : Hp} : ∀ (l : List Nat) (ds : List D) (xs : List V) (σ : L2.St) (ρ ρ' : En), SR0 G H σ ρ → Rps G ds xs → TW.setAll l ds ρ = some ρ' → SR0 G H (setAllV l xs σ) ρ'
  | [], [], _, σ, ρ, ρ', s, r, e => by
    cases e; exact s
  | i :: l, d :: ds, _, σ, ρ, ρ', s, r, e => by
    obtain ⟨x, q, rfl, p, t⟩ := r
    exact SR0.setAll l ds q _ _ ρ' (s.set p) t e
  | [], _ :: _, _, _, _, _, _, _, e => by cases e
  | _ :: _, [], _, _, _, _, _, _, e => by cases e
theorem SR0.bound {G H : Hp} {σ σ' : L2.St} {ρ ρ' : En} {tg : Tg} {d : D} (s : SR0 G H σ ρ) (b : Bound tg d G σ σ') (e : bindT tg d ρ = some ρ') : SR0 G H σ' ρ' := by
  cases tg with
  | one i =>
    obtain ⟨v, r, rfl⟩ := b
    cases e
    exact s.set r
  | many l =>
    obtain ⟨ds, xs, rfl, r, _, rfl⟩ := b
    exact SR0.setAll l ds xs σ ρ ρ' s r e
theorem SR0.dropAll {G H : Hp} {σ : L2.St} : ∀ (l : List Nat) (ds : List D) (ρ ρ' : En), SR0 G H σ ρ' → TW.setAll l ds ρ = some ρ' → (∀ i ∈ l, ρ[i]? = some none) → SR0 G H σ ρ
  | [], [], ρ, ρ', s, e, _ => by cases e; exact s
  | i :: l, d :: ds, ρ, ρ', s, e, h => by
    have gen : ∀ (l : List Nat) (ds : List D) (ρ ρ' : En), SR0 G H σ ρ' → TW.setAll l ds ρ = some ρ' → (∀ i ∈ l, ρ[i]? = some none ∨ ∃ d, ρ[i]? = some (some (Sl.val d))) →
        SR0 G H σ (ρ.mapIdx fun j x => if j ∈ l then none else x) := by
      intro l
      induction l with
      | nil =>
        intro ds ρ ρ' s e _
        cases ds with
        | nil =>
          cases e
          have : (ρ.mapIdx fun j x => if j ∈ ([] : List Nat) then none else x) = ρ := by
            apply List.ext_getElem?
            intro j
            simp [List.getElem?_mapIdx]
          rw [this]; exact s
        | cons _ _ => cases e
      | cons i l ih =>
        intro ds ρ ρ' s e hl
        cases ds with
        | nil => cases e
        | cons d ds =>
          have hlt : ∀ k ∈ l, (ρ.set i (some (Sl.val d)))[k]? = some none ∨ ∃ d', (ρ.set i (some (Sl.val d)))[k]? = some (some (Sl.val d')) := fun k hk => by
            by_cases hik : i = k
            · subst hik
              rcases hl i List.mem_cons_self with z | ⟨d', z⟩
              · have hi : i < ρ.length := (List.getElem?_eq_some_iff.mp z).1
                exact .inr ⟨d, by rw [List.getElem?_set_self hi]⟩
              · have hi : i < ρ.length := (List.getElem?_eq_some_iff.mp z).1
                exact .inr ⟨d, by rw [List.getElem?_set_self hi]⟩
            · rw [List.getElem?_set_ne hik]
              exact hl k (List.mem_cons_of_mem _ hk)
          have r := ih ds (ρ.set i (some (Sl.val d))) ρ' s e hlt
          have back : ∀ (j : Nat) (x : Sl), (ρ.mapIdx fun j x => if j ∈ i :: l then none else x)[j]? = some (some x) → ((ρ.set i (some (Sl.val d))).mapIdx fun j x => if j ∈ l then none else x)[j]? = some (some x) := fun j x q => by
            rw [List.getElem?_mapIdx] at q ⊢
            obtain ⟨y, ey, q⟩ := Option.map_eq_some_iff.mp q
            by_cases hj : j ∈ i :: l
            · rw [if_pos hj] at q; cases q
            · rw [if_neg hj] at q
              subst q
              have nij : i ≠ j := fun z => hj (by rw [z]; exact List.mem_cons_self)
              rw [List.getElem?_set_ne nij, ey]
              have nl : ¬ j ∈ l := fun z => hj (List.mem_cons_of_mem _ z)
              simp [nl]
          exact ⟨by rw [r.len]; simp, fun j e' q => r.val j e' (back _ _ q), fun j x q hx => r.owns j x (back _ _ q) hx, fun j k x y l' h1 hx h2 hy => r.dst j k x y l' (back _ _ h1) hx (back _ _ h2) hy⟩
    have r := gen (i :: l) (d :: ds) ρ ρ' s e (fun k hk => .inl (h k hk))
    have : (ρ.mapIdx fun j x => if j ∈ i :: l then none else x) = ρ := by
      apply List.ext_getElem?
      intro j
      rw [List.getElem?_mapIdx]
      by_cases hj : j ∈ i :: l
      · rw [h j hj]; simp [hj]
      · cases ρ[j]? <;> simp [hj]
    rw [this] at r
    exact r
  | [], _ :: _, _, _, _, e, _ => by cases e
  | _ :: _, [], _, _, _, e, _ => by cases e
theorem free_capt {ρ : En} {cap : List (Option Nat)} {i : Nat} (h : free1 cap i = true) : (capt ρ cap)[i]? = some none := by
  unfold free1 at h
  unfold capt
  rw [List.getElem?_map]
  split at h
  · rename_i e; rw [e]; rfl
  · cases h
theorem SR0.unbound {G H : Hp} {σ : L2.St} {ρ ρ' : En} {cap : List (Option Nat)} {tg : Tg} {d : D} (s : SR0 G H σ ρ') (e : bindT tg d (capt ρ cap) = some ρ') (h : freeT cap tg = true) : SR0 G H σ (capt ρ cap) := by
  cases tg with
  | one i =>
    cases e
    exact s.drop (free_capt h)
  | many l =>
    cases d <;> first | cases e | skip
    rename_i ds
    exact SR0.dropAll l ds _ _ s e fun i hi => free_capt (List.all_eq_true.mp h i hi)
end TW
end
section
set_option Elab.async false
set_option linter.all false
set_option maxRecDepth 100000
set_option maxHeartbeats 4000000
namespace TW
open PySem PySem.Spec PyProof.Rows L2
noncomputable def tD (ρ : En) (x : Kd × D) : TE := fun σ H Q => ∃ G, SR G H σ ρ ∧ ∀ v H' G', Ext G H G' H' → RR G' H' H v x → Q v H'
noncomputable def tDT (ρ : En) (b : Bool) : TT := fun σ H Q => ∃ G, SR G H σ ρ ∧ ∀ H' G', Ext G H G' H' → Q b H'
noncomputable def tDA (ρ : En) (ds : List D) : TA := fun σ H Q => ∃ G, SR G H σ ρ ∧ ∀ vs H' G', Ext G H G' H' → Rps G' ds vs → Q vs H'
noncomputable def tDO (ρ : En) (o : Option Int) : TO := fun σ H Q => ∃ G, SR G H σ ρ ∧ ∀ H' G', Ext G H G' H' → Q o H'
noncomputable def DE (X : Cx) (e : Expr) (g : En → Option (Kd × D)) : Prop := ∀ ρ x, g ρ = some x → PE X e (tD ρ x)
noncomputable def DT (X : Cx) (e : Expr) (g : En → Option Bool) : Prop := ∀ ρ b, g ρ = some b → PT X e (tDT ρ b)
noncomputable def DW (X : Cx) (e : Expr) (g : En → Option Bool) : Prop := ∀ ρ b, g ρ = some b → PW X e (tDT ρ b)
noncomputable def DA (X : Cx) (es : List Expr) (g : En → Option (List D)) : Prop := ∀ ρ ds, g ρ = some ds → PA X es (tDA ρ ds)
noncomputable def DO (X : Cx) (e : Option Expr) (g : En → Option (Option Int)) : Prop := ∀ ρ o, g ρ = some o → PO X e (tDO ρ o)
section
variable {X : Cx}
theorem pe_imp {e : Expr} {t t' : TE} (h : PE X e t) (i : ∀ σ H Q, t' σ H Q → t σ H Q) : PE X e t' := fun pins s σ H Q I q => h pins s σ H Q I (i σ H Q q)
theorem pt_imp {e : Expr} {t t' : TT} (h : PT X e t) (i : ∀ σ H Q, t' σ H Q → t σ H Q) : PT X e t' := fun pins s σ H Q I q => h pins s σ H Q I (i σ H Q q)
theorem pw_imp {e : Expr} {t t' : TT} (h : PW X e t) (i : ∀ σ H Q, t' σ H Q → t σ H Q) : PW X e t' := fun w pins s σ H Q I q => h w pins s σ H Q I (i σ H Q q)
theorem pa_imp {e : List Expr} {t t' : TA} (h : PA X e t) (i : ∀ σ H Q, t' σ H Q → t σ H Q) : PA X e t' := fun p pins s σ H Q I q => h p pins s σ H Q I (i σ H Q q)
theorem pe_nev {e : Expr} : PE X e (fun _ _ _ => False) := fun _ _ _ _ _ _ q => q.elim
theorem pw_nev {e : Expr} : PW X e (fun _ _ _ => False) := fun _ _ _ _ _ _ _ q => q.elim
theorem OpR.imp {f : Value → Value → Sem Value} {r r' : R2} (h : OpR X f r) (i : ∀ x y H Q, r' x y H Q → r x y H Q) : OpR X f r' := fun pins s σ H x y v u Q I rx ry q => h pins s σ H x y v u Q I rx ry (i x y H Q q)
theorem CallR.imp {f : Value} {r r' : List V → Hp → VK → Prop} (h : CallR X f r) (i : ∀ xs H Q, r' xs H Q → r xs H Q) : CallR X f r' := fun pins s σ H xs us Q I rx q => h pins s σ H xs us Q I rx (i xs H Q q)
theorem SlR.imp {r r' : V → Option Int → Option Int → Hp → VK → Prop} (h : SlR X r) (i : ∀ x l u H Q, r' x l u H Q → r x l u H Q) : SlR X r' :=
  fun pins s σ H x v vl vu lo hi sl Q I rx hs pl pu q => h pins s σ H x v vl vu lo hi sl Q I rx hs pl pu (i x lo hi H Q q)
theorem IxR.imp {r r' : R2} (h : IxR X r) (i : ∀ x y H Q, r' x y H Q → r x y H Q) : IxR X r' :=
  fun a b pins s σ H x y v u Q I rx ry q hs => h a b pins s σ H x y v u Q I rx ry (i x y H Q q) hs
noncomputable def rD (x y : D) (z : Kd × D) : R2 := fun v u H Q => ∃ G, Same G H ∧ Rb G H x v ∧ Rb G H y u ∧ ∀ w H' G', Ext G H G' H' → RR G' H' H w z → Q w H'
noncomputable def rD1 (x : D) (z : Kd × D) : V → Hp → VK → Prop := fun v H Q => ∃ G, Same G H ∧ Rb G H x v ∧ ∀ w H' G', Ext G H G' H' → RR G' H' H w z → Q w H'
theorem tD_op {x y z : Kd × D} {ρ : En} : ∀ σ H Q, tD ρ z σ H Q → tOp (rD x.2 y.2 z) (tD ρ x) (tD ρ y) σ H Q := by
  rintro σ H Q ⟨G, s, k⟩
  exact ⟨G, s, fun v H1 G1 x1 r1 => ⟨G1, s.ext x1, fun u H2 G2 x2 r2 => ⟨G2, x2.gh, (r1.rb x1.gh).mono x2.gg x2.hh, r2.rb x2.gh, fun w H3 G3 x3 r3 =>
    k w H3 G3 ((x1.trans x2).trans x3) (r3.back (x1.hh.trans x2.hh))⟩⟩⟩
theorem bnd {α β : Type} {a : Option α} {f : α → Option β} {b : β} (h : a.bind f = some b) : ∃ x, a = some x ∧ f x = some b := Option.bind_eq_some_iff.mp h
theorem mpd {α β : Type} {a : Option α} {f : α → β} {b : β} (h : a.map f = some b) : ∃ x, a = some x ∧ f x = b := Option.map_eq_some_iff.mp h
theorem de_var {i : Nat} {x : Str} {pos : Pos} (hN : X.N[i]? = some x) (hv : Vis X.env.scope x) (hd : (x == ("__debug__" : Str)) = false) (hcd : (x == ("__classdict__" : Str)) = false)
    (p : Nat → List D → Option D) : DE X (.Name x pos) (fun ρ => (ev p (.var i) ρ).1) := by
  intro ρ y e
  refine pe_imp (pe_var hN hv hd hcd) ?_
  rintro σ H Q ⟨G, s, k⟩
  simp only [ev, vt] at e
  split at e
  · rename_i d h
    cases e
    obtain ⟨v, e1, r⟩ := s.val i d h
    exact ⟨v, e1, k v H G (.refl s.gh) r⟩
  · rename_i ds h
    cases e
    obtain ⟨l, xs, e1, h1, _, r⟩ := s.own i ds h
    exact ⟨.ref l, e1, k _ H G (.refl s.gh) (show Rb G H (.lst ds) (.ref l) from ⟨l, xs, rfl, .inl h1, r⟩)⟩
  · rename_i ks ds h
    cases e
    obtain ⟨l, xs, e1, h1, _, hl, r⟩ := s.ownd i ks ds h
    exact ⟨.ref l, e1, k _ H G (.refl s.gh) (show Rb G H (.dct ks ds) (.ref l) from ⟨l, xs, rfl, hl, .inl h1, r⟩)⟩
  · cases e
theorem tD_c {ρ : En} {d : D} {v : V} (h : ∀ G, Rp G d v) : ∀ σ H Q, tD ρ (.fz, d) σ H Q → tC v σ H Q := by
  rintro σ H Q ⟨G, s, k⟩
  exact k v H G (.refl s.gh) (h G)
theorem de_int {i j pos} : DE X (.Constant (.int i) j pos) (fun _ => some (.fz, .int i)) := fun ρ y e => by cases e; exact pe_imp pe_int (tD_c fun _ => rfl)
theorem de_bl {i j pos} : DE X (.Constant (.bool i) j pos) (fun _ => some (.fz, .bl i)) := fun ρ y e => by cases e; exact pe_imp pe_bl (tD_c fun _ => rfl)
theorem de_non {j pos} : DE X (.Constant .none j pos) (fun _ => some (.fz, .non)) := fun ρ y e => by cases e; exact pe_imp pe_non (tD_c fun _ => rfl)
theorem de_str {i j pos} : DE X (.Constant (.str i) j pos) (fun _ => some (.fz, .str i)) := fun ρ y e => by cases e; exact pe_imp pe_str (tD_c fun _ => rfl)
theorem de_glob {x : Str} {pos : Pos} {d : D} {v : V} {u : Value} (hg : Gl X x) (hm : X.mg x = some u) (r : RelV v u) (hd : (x == ("__debug__" : Str)) = false) (h : ∀ G, Rp G d v) : DE X (.Name x pos) (fun _ => some (.fz, d)) :=
  fun ρ y e => by cases e; exact pe_imp (pe_glob hg hm r hd) (tD_c h)
theorem de_bin {a b : Expr} {ga gb : En → Option (Kd × D)} {op : Operator} {pos : Pos} (ho : ∀ x y z, opD op x y = some z → OpR X (binaryOp op) (rD x y z)) (ha : DE X a ga) (hb : DE X b gb) :
    DE X (.BinOp a op b pos) (fun ρ => (ga ρ).bind fun x => (gb ρ).bind fun y => opD op x.2 y.2) := by
  intro ρ z e
  obtain ⟨x, ex, e⟩ := bnd e
  obtain ⟨y, ey, e⟩ := bnd e
  exact pe_imp (pe_op (ho _ _ _ e) (ha ρ x ex) (hb ρ y ey)) tD_op
theorem de_not {a : Expr} {ga : En → Option (Kd × D)} {pos : Pos} (ha : DE X a ga) :
    DE X (.UnaryOp .Not a pos) (fun ρ => (ga ρ).bind fun x => match x.2 with | .bl b => some (.fz, .bl (!b)) | _ => none) := by
  intro ρ z e
  obtain ⟨⟨k, d⟩, ex, e⟩ := bnd e
  cases d <;> first | cases e | skip
  rename_i i
  refine pe_imp (pe_not (ha ρ _ ex)) ?_
  rintro σ H Q ⟨G, s, q⟩
  exact ⟨G, s, fun v H1 G1 x1 r1 => ⟨i, r1.rb x1.gh, q _ H1 G1 x1 rfl⟩⟩
theorem de_cmp {a b : Expr} {ga gb : En → Option (Kd × D)} {op : CmpOp} {pos : Pos} (ho : ∀ x y z, cmpD op x y = some z → OpR X (compareOp op) (rD x y (.fz, .bl z))) (hm : behindInMarks op b = false) (ha : DE X a ga) (hb : DE X b gb) :
    DE X (.Compare a [op] [b] pos) (fun ρ => (ga ρ).bind fun x => (gb ρ).bind fun y => (cmpD op x.2 y.2).map fun b => (.fz, .bl b)) := by
  intro ρ z e
  obtain ⟨x, ex, e⟩ := bnd e
  obtain ⟨y, ey, e⟩ := bnd e
  obtain ⟨k, ek, rfl⟩ := mpd e
  exact pe_imp (pe_cmpR (ho _ _ _ ek) (ha ρ x ex) (hb ρ y ey) hm) tD_op
theorem tDT_cmp {x y : Kd × D} {ρ : En} {b : Bool} : ∀ σ H Q, tDT ρ b σ H Q → tTest (tOp (rD x.2 y.2 (.fz, .bl b)) (tD ρ x) (tD ρ y)) σ H Q := by
  rintro σ H Q ⟨G, s, k⟩
  refine tD_op σ H _ ⟨G, s, fun v H' G' x r => ?_⟩
  exact ⟨b, r, k H' G' x⟩
theorem dt_cmp {a b : Expr} {ga gb : En → Option (Kd × D)} {op : CmpOp} {pos : Pos} (ho : ∀ x y z, cmpD op x y = some z → OpR X (compareOp op) (rD x y (.fz, .bl z))) (hm : behindInMarks op b = false) (ha : DE X a ga) (hb : DE X b gb) :
    DT X (.Compare a [op] [b] pos) (fun ρ => (ga ρ).bind fun x => (gb ρ).bind fun y => cmpD op x.2 y.2) := by
  intro ρ z e
  obtain ⟨x, ex, e⟩ := bnd e
  obtain ⟨y, ey, e⟩ := bnd e
  exact pt_imp (pt_cmpR (ho _ _ _ e) (ha ρ x ex) (hb ρ y ey) hm) tDT_cmp
theorem tD_chain {x y z : Kd × D} {ρ : En} {k k2 : Bool} (h : k = false → k2 = false) : ∀ σ H Q, tD ρ (.fz, .bl k2) σ H Q →
    tChain (rD x.2 y.2 (.fz, .bl k)) (rD y.2 z.2 (.fz, .bl k2)) (tD ρ x) (tD ρ y) (if k = true then tD ρ z else fun _ _ _ => False) σ H Q := by
  rintro σ H Q ⟨G, s, q⟩
  refine ⟨G, s, fun v H1 G1 x1 r1 => ⟨G1, s.ext x1, fun u H2 G2 x2 r2 => ⟨G2, x2.gh, (r1.rb x1.gh).mono x2.gg x2.hh, r2.rb x2.gh, fun w H3 G3 x3 r3 => ⟨k, r3, ?_⟩⟩⟩⟩
  cases k with
  | false =>
    rw [if_neg Bool.false_ne_true]
    have e : k2 = false := h rfl
    subst e
    exact q _ H3 G3 ((x1.trans x2).trans x3) rfl
  | true =>
    rw [if_pos rfl, if_pos rfl]
    refine ⟨G3, ((s.ext x1).ext x2).ext x3, fun w' H4 G4 x4 r4 => ⟨G4, x4.gh, (r2.rb x2.gh).mono (x3.trans x4).gg (x3.trans x4).hh, r4.rb x4.gh, fun w2 H5 G5 x5 r5 => ?_⟩⟩
    exact q w2 H5 G5 ((((x1.trans x2).trans x3).trans x4).trans x5) r5
theorem de_chain {a b c : Expr} {ga gb gc : En → Option (Kd × D)} {op oq : CmpOp} {pos : Pos} (ho : ∀ x y z, cmpD op x y = some z → OpR X (compareOp op) (rD x y (.fz, .bl z)))
    (hq : ∀ x y z, cmpD oq x y = some z → OpR X (compareOp oq) (rD x y (.fz, .bl z))) (hm : lastMarks [op, oq] [b, c] = false) (ha : DE X a ga) (hb : DE X b gb) (hc : DE X c gc) :
    DE X (.Compare a [op, oq] [b, c] pos) (fun ρ => (ga ρ).bind fun x => (gb ρ).bind fun y => (cmpD op x.2 y.2).bind fun k =>
      if k then (gc ρ).bind fun z => (cmpD oq y.2 z.2).map fun b => (.fz, .bl b) else some (.fz, .bl false)) := by
  intro ρ z e
  obtain ⟨x, ex, e⟩ := bnd e
  obtain ⟨y, ey, e⟩ := bnd e
  obtain ⟨k, ek, e⟩ := bnd e
  cases k with
  | false =>
    rw [if_neg Bool.false_ne_true] at e
    cases e
    refine pe_imp (pe_chain (r' := fun _ _ _ _ => False) (ho _ _ _ ek) (fun _ _ _ _ _ _ _ _ _ _ _ _ q => q.elim) (ha ρ x ex) (hb ρ y ey) pe_nev hm) ?_
    rintro σ H Q ⟨G, s, q⟩
    refine ⟨G, s, fun v H1 G1 x1 r1 => ⟨G1, s.ext x1, fun u H2 G2 x2 r2 => ⟨G2, x2.gh, (r1.rb x1.gh).mono x2.gg x2.hh, r2.rb x2.gh, fun w H3 G3 x3 r3 => ⟨false, r3, ?_⟩⟩⟩⟩
    rw [if_neg Bool.false_ne_true]
    exact q _ H3 G3 ((x1.trans x2).trans x3) rfl
  | true =>
    rw [if_pos rfl] at e
    obtain ⟨z', ez, e⟩ := bnd e
    obtain ⟨k2, ek2, rfl⟩ := mpd e
    exact pe_imp (pe_chain (ho _ _ _ ek) (hq _ _ _ ek2) (ha ρ x ex) (hb ρ y ey) (hc ρ z' ez) hm) (tD_chain (k := true) fun h => nomatch h)
theorem dt_chain {a b c : Expr} {ga gb gc : En → Option (Kd × D)} {op oq : CmpOp} {pos : Pos} (ho : ∀ x y z, cmpD op x y = some z → OpR X (compareOp op) (rD x y (.fz, .bl z)))
    (hq : ∀ x y z, cmpD oq x y = some z → OpR X (compareOp oq) (rD x y (.fz, .bl z))) (hm : lastMarks [op, oq] [b, c] = false) (ha : DE X a ga) (hb : DE X b gb) (hc : DE X c gc) :
    DT X (.Compare a [op, oq] [b, c] pos) (fun ρ => (ga ρ).bind fun x => (gb ρ).bind fun y => (cmpD op x.2 y.2).bind fun k =>
      if k then (gc ρ).bind fun z => cmpD oq y.2 z.2 else some false) := by
  intro ρ z e
  obtain ⟨x, ex, e⟩ := bnd e
  obtain ⟨y, ey, e⟩ := bnd e
  obtain ⟨k, ek, e⟩ := bnd e
  cases k with
  | false =>
    rw [if_neg Bool.false_ne_true] at e
    cases e
    refine pt_imp (pt_chain (r' := fun _ _ _ _ => False) (ho _ _ _ ek) (fun _ _ _ _ _ _ _ _ _ _ _ _ q => q.elim) (ha ρ x ex) (hb ρ y ey) pe_nev hm) ?_
    rintro σ H Q ⟨G, s, q⟩
    refine ⟨G, s, fun v H1 G1 x1 r1 => ⟨G1, s.ext x1, fun u H2 G2 x2 r2 => ⟨G2, x2.gh, (r1.rb x1.gh).mono x2.gg x2.hh, r2.rb x2.gh, fun w H3 G3 x3 r3 => ⟨false, r3, ?_⟩⟩⟩⟩
    rw [if_neg Bool.false_ne_true]
    exact ⟨false, rfl, q H3 G3 ((x1.trans x2).trans x3)⟩
  | true =>
    rw [if_pos rfl] at e
    obtain ⟨z', ez, e⟩ := bnd e
    refine pt_imp (pt_chain (ho _ _ _ ek) (hq _ _ _ e) (ha ρ x ex) (hb ρ y ey) (hc ρ z' ez) hm) ?_
    rintro σ H Q ⟨G, s, q⟩
    exact tD_chain (k := true) (fun h => nomatch h) σ H _ ⟨G, s, fun v H' G' x r => ⟨z, r, q H' G' x⟩⟩
theorem de_one {op} {a : Expr} {g : En → Option (Kd × D)} {pos : Pos} (h : DE X a g) : DE X (.BoolOp op [a] pos) g := fun ρ x e => pe_one (h ρ x e)
theorem de_and {a b : Expr} {rest : List Expr} {ga gb : En → Option (Kd × D)} {pos : Pos} (ha : DE X a ga) (hb : DE X (.BoolOp .And (b :: rest) pos) gb) :
    DE X (.BoolOp .And (a :: b :: rest) pos) (fun ρ => (ga ρ).bind fun x => match x.2 with | .bl true => gb ρ | .bl false => some (.fz, .bl false) | _ => none) := by
  intro ρ z e
  obtain ⟨⟨k, d⟩, ex, e⟩ := bnd e
  cases d <;> first | cases e | skip
  rename_i c
  cases c with
  | true =>
    refine pe_imp (pe_and (ha ρ _ ex) (hb ρ z e)) ?_
    rintro σ H Q ⟨G, s, q⟩
    refine ⟨G, s, fun v H1 G1 x1 r1 => ⟨true, r1.rb x1.gh, ?_⟩⟩
    rw [if_pos rfl]
    exact ⟨G1, s.ext x1, fun w H2 G2 x2 r2 => q w H2 G2 (x1.trans x2) (r2.back x1.hh)⟩
  | false =>
    cases e
    refine pe_imp (pe_and (ha ρ _ ex) pe_nev) ?_
    rintro σ H Q ⟨G, s, q⟩
    refine ⟨G, s, fun v H1 G1 x1 r1 => ⟨false, r1.rb x1.gh, ?_⟩⟩
    rw [if_neg Bool.false_ne_true]
    exact q _ H1 G1 x1 rfl
theorem de_or {a b : Expr} {rest : List Expr} {ga gb : En → Option (Kd × D)} {pos : Pos} (ha : DE X a ga) (hb : DE X (.BoolOp .Or (b :: rest) pos) gb) :
    DE X (.BoolOp .Or (a :: b :: rest) pos) (fun ρ => (ga ρ).bind fun x => match x.2 with | .bl true => some (.fz, .bl true) | .bl false => gb ρ | _ => none) := by
  intro ρ z e
  obtain ⟨⟨k, d⟩, ex, e⟩ := bnd e
  cases d <;> first | cases e | skip
  rename_i c
  cases c with
  | false =>
    refine pe_imp (pe_or (ha ρ _ ex) (hb ρ z e)) ?_
    rintro σ H Q ⟨G, s, q⟩
    refine ⟨G, s, fun v H1 G1 x1 r1 => ⟨false, r1.rb x1.gh, ?_⟩⟩
    rw [if_neg Bool.false_ne_true]
    exact ⟨G1, s.ext x1, fun w H2 G2 x2 r2 => q w H2 G2 (x1.trans x2) (r2.back x1.hh)⟩
  | true =>
    cases e
    refine pe_imp (pe_or (ha ρ _ ex) pe_nev) ?_
    rintro σ H Q ⟨G, s, q⟩
    refine ⟨G, s, fun v H1 G1 x1 r1 => ⟨true, r1.rb x1.gh, ?_⟩⟩
    rw [if_pos rfl]
    exact q _ H1 G1 x1 rfl
theorem dw_and1 {a : Expr} {g : En → Option Bool} {pos : Pos} (h : DT X a g) : DW X (.BoolOp .And [a] pos) g := fun ρ x e => pw_and1 (h ρ x e)
theorem dw_or1 {a : Expr} {g : En → Option Bool} {pos : Pos} (h : DT X a g) : DW X (.BoolOp .Or [a] pos) g := fun ρ x e => pw_or1 (h ρ x e)
theorem dw_and {a b : Expr} {rest : List Expr} {ga gb : En → Option Bool} {pos : Pos} (ha : DT X a ga) (hb : DW X (.BoolOp .And (b :: rest) pos) gb) :
    DW X (.BoolOp .And (a :: b :: rest) pos) (fun ρ => (ga ρ).bind fun k => if k then gb ρ else some false) := by
  intro ρ z e
  obtain ⟨c, ex, e⟩ := bnd e
  cases c with
  | true =>
    rw [if_pos rfl] at e
    refine pw_imp (pw_and (ha ρ _ ex) (hb ρ z e)) ?_
    rintro σ H Q ⟨G, s, q⟩
    refine ⟨G, s, fun H1 G1 x1 => ?_⟩
    dsimp only
    rw [if_pos rfl]
    exact ⟨G1, s.ext x1, fun H2 G2 x2 => q H2 G2 (x1.trans x2)⟩
  | false =>
    rw [if_neg Bool.false_ne_true] at e
    cases e
    refine pw_imp (pw_and (ha ρ _ ex) pw_nev) ?_
    rintro σ H Q ⟨G, s, q⟩
    refine ⟨G, s, fun H1 G1 x1 => ?_⟩
    dsimp only
    rw [if_neg Bool.false_ne_true]
    exact q H1 G1 x1
theorem dw_or {a b : Expr} {rest : List Expr} {ga gb : En → Option Bool} {pos : Pos} (ha : DT X a ga) (hb : DW X (.BoolOp .Or (b :: rest) pos) gb) :
    DW X (.BoolOp .Or (a :: b :: rest) pos) (fun ρ => (ga ρ).bind fun k => if k then some true else gb ρ) := by
  intro ρ z e
  obtain ⟨c, ex, e⟩ := bnd e
  cases c with
  | false =>
    rw [if_neg Bool.false_ne_true] at e
    refine pw_imp (pw_or (ha ρ _ ex) (hb ρ z e)) ?_
    rintro σ H Q ⟨G, s, q⟩
    refine ⟨G, s, fun H1 G1 x1 => ?_⟩
    dsimp only
    rw [if_neg Bool.false_ne_true]
    exact ⟨G1, s.ext x1, fun H2 G2 x2 => q H2 G2 (x1.trans x2)⟩
  | true =>
    rw [if_pos rfl] at e
    cases e
    refine pw_imp (pw_or (ha ρ _ ex) pw_nev) ?_
    rintro σ H Q ⟨G, s, q⟩
    refine ⟨G, s, fun H1 G1 x1 => ?_⟩
    dsimp only
    rw [if_pos rfl]
    exact q H1 G1 x1
theorem DW.dt {e : Expr} {g : En → Option Bool} (h : DW X e g) : DT X e g := fun ρ b q => (h ρ b q).pt
theorem dt_not {a : Expr} {ga : En → Option Bool} {pos : Pos} (ha : DT X a ga) : DT X (.UnaryOp .Not a pos) (fun ρ => (ga ρ).map fun k => !k) := by
  intro ρ z e
  obtain ⟨c, ex, rfl⟩ := mpd e
  refine pt_imp (pt_not (ha ρ _ ex)) ?_
  rintro σ H Q ⟨G, s, q⟩
  exact ⟨G, s, fun H1 G1 x1 => q H1 G1 x1⟩
theorem lim_line : lim ≤ sizeLine := by decide
theorem tru_of {G H : Hp} {d : D} {v : V} {b : Bool} (K : PySem.W.Frag) (r : Rb G H d v) (gh : Same G H) (e : truD d = some b) : TruV K v H b := by
  cases d with
  | scr _ _ _ => cases e
  | dct _ _ => cases e
  | non => cases (show v = .non from r); cases e; rfl
  | bl c => cases (show v = .bl c from r); cases e; rfl
  | int c => cases (show v = .int c from r); cases e; rfl
  | str c =>
    cases (show v = .str c from r)
    have e' : (if c.length ≤ lim then some (!(c.length == 0)) else none) = some b := e
    split at e'
    case isFalse => cases e'
    rename_i hl
    cases e'
    refine ⟨Nat.le_trans hl lim_line, ?_⟩
    by_cases h : c.length = 0
    · rw [h]; rfl
    · have h1 : (c.length == 0) = false := by simpa using h
      have h2 : ((c.length : Int) != 0) = true := by
        rw [bne_iff_ne]; omega
      rw [h1, h2]; rfl
  | tup ds =>
    obtain ⟨a, xs, rfl, g, q⟩ := r
    cases e
    refine .inr (.inl ⟨xs, .inl (.inl (gh _ _ g)), ?_⟩)
    have := q.length
    cases ds <;> cases xs <;> simp_all
  | lst ds =>
    obtain ⟨a, xs, rfl, g, q⟩ := r
    cases e
    refine .inl ⟨xs, .inl g, ?_⟩
    have := q.length
    cases ds <;> cases xs <;> simp_all
end
end TW
end
section
set_option Elab.async false
set_option linter.all false
set_option maxRecDepth 100000
set_option maxHeartbeats 4000000
namespace TW
open PySem PySem.Spec PyProof.Rows L2
theorem lookup_map {f : Str → NameKind → NameKind} (x : Str) : ∀ l : List (Str × NameKind), (l.map fun (n, k) => (n, f n k)).lookup x = (l.lookup x).map (f x)
  | [] => rfl
  | (n, k) :: r => by
    rw [List.map_cons, List.lookup_cons, List.lookup_cons]
    cases h : x == n with
    | true =>
      have e : x = n := by simpa using h
      subst e; rfl
    | false => exact lookup_map x r
theorem relabel_lookup (scope : Scope) (env : Env) (x : Str) : (relabel scope env).names.lookup x =
    (scope.names.lookup x).map fun k => if (k == .free && env.scope.kind == .function && env.kindOf x == some .cell) then .cell else k := by
  rw [← lookup_map (f := fun n k => if (k == .free && env.scope.kind == .function && env.kindOf n == some .cell) then .cell else k)]
  unfold relabel
  congr 1
  apply List.map_congr_left
  rintro ⟨n, k⟩ _
  dsimp only
  split <;> rfl
noncomputable def closeL (cells : List (Str × Addr)) : List (Str × NameKind) → List (Str × Addr) → List (Str × Addr)
  | [], acc => acc
  | (n, k) :: r, acc => if k == .free then closeL cells r ((n, (cells.lookup n).getD 0) :: acc) else closeL cells r acc
theorem closure_eq {scope : Scope} {env : Env} (h : ∀ n, (n, NameKind.free) ∈ scope.names → ∃ c, env.cells.lookup n = some c) : closureFor scope env = pure (closeL env.cells scope.names []) := by
  have go : ∀ (l : List (Str × NameKind)) (acc : List (Str × Addr)), (∀ n, (n, NameKind.free) ∈ l → ∃ c, env.cells.lookup n = some c) →
      (forIn l acc (fun (x : Str × NameKind) (r : List (Str × Addr)) => if x.2 == .free then (do let a ← cellOf env x.1; pure (ForInStep.yield ((x.1, a) :: r))) else pure (ForInStep.yield r)) : Sem (List (Str × Addr))) = pure (closeL env.cells l acc) := by
    intro l
    induction l with
    | nil => intro acc _; rfl
    | cons x r ih =>
      obtain ⟨n, k⟩ := x
      intro acc hl
      have hr : ∀ m, (m, NameKind.free) ∈ r → ∃ c, env.cells.lookup m = some c := fun m hm => hl m (List.mem_cons_of_mem _ hm)
      rw [List.forIn_cons]
      by_cases hk : (k == NameKind.free) = true
      · have hk' : k = .free := by simpa using hk
        subst hk'
        obtain ⟨c, hc⟩ := hl n List.mem_cons_self
        simp only [beq_self_eq_true, if_true, cellOf, hc, closeL, Option.getD_some]
        exact ih _ hr
      · simp only [hk, closeL, if_neg]
        exact ih _ hr
  have := go scope.names [] h
  simp only [closureFor]
  rw [show (forIn scope.names ([] : List (Str × Addr)) _ : Sem (List (Str × Addr))) = _ from this]
  rfl
theorem closeL_in {cells : List (Str × Addr)} {x : Str} {c : Addr} : ∀ (l : List (Str × NameKind)) (acc : List (Str × Addr)), (closeL cells l acc).lookup x = some c →
    ((x, NameKind.free) ∈ l ∧ c = (cells.lookup x).getD 0) ∨ acc.lookup x = some c
  | [], _, h => .inr h
  | (n, k) :: r, acc, h => by
    unfold closeL at h
    split at h
    · rename_i hk
      have hk' : k = .free := by simpa using hk
      subst hk'
      rcases closeL_in r _ h with ⟨m, e⟩ | h
      · exact .inl ⟨List.mem_cons_of_mem _ m, e⟩
      · rw [List.lookup_cons] at h
        cases hx : x == n with
        | true =>
          have e : x = n := by simpa using hx
          subst e
          rw [hx] at h
          cases h
          exact .inl ⟨List.mem_cons_self, rfl⟩
        | false => rw [hx] at h; exact .inr h
    · rcases closeL_in r _ h with ⟨m, e⟩ | h
      · exact .inl ⟨List.mem_cons_of_mem _ m, e⟩
      · exact .inr h
theorem closeL_has {cells : List (Str × Addr)} {x : Str} : ∀ (l : List (Str × NameKind)) (acc : List (Str × Addr)), ((x, NameKind.free) ∈ l ∨ ∃ c, acc.lookup x = some c) → ∃ c, (closeL cells l acc).lookup x = some c
  | [], _, h => by
    rcases h with h | h
    · cases h
    · exact h
  | (n, k) :: r, acc, h => by
    unfold closeL
    split
    · rename_i hk
      have hk' : k = .free := by simpa using hk
      subst hk'
      refine closeL_has r _ ?_
      rcases h with h | ⟨c, h⟩
      · rcases List.mem_cons.mp h with e | h
        · cases e; exact .inr ⟨_, by rw [List.lookup_cons, beq_self_eq_true]⟩
        · exact .inl h
      · right
        rw [List.lookup_cons]
        cases hx : x == n with
        | true => exact ⟨_, rfl⟩
        | false => exact ⟨c, h⟩
    · rename_i hk
      refine closeL_has r _ ?_
      rcases h with h | h
      · rcases List.mem_cons.mp h with e | h
        · cases e; exact absurd rfl hk
        · exact .inl h
      · exact .inr h
theorem cellsFrom_in {x : Str} {c : Addr} : ∀ (l : List (Str × NameKind)) (n : Nat) (acc : List (Str × Addr)), (cellsFrom n l acc).lookup x = some c → (n ≤ c ∧ (x, NameKind.cell) ∈ l) ∨ acc.lookup x = some c
  | [], _, _, h => .inr h
  | (m, k) :: r, n, acc, h => by
    unfold cellsFrom at h
    split at h
    · rename_i hk
      have hk' : k = .cell := by simpa using hk
      subst hk'
      rcases cellsFrom_in r _ _ h with ⟨a, b⟩ | h
      · exact .inl ⟨by omega, List.mem_cons_of_mem _ b⟩
      · rw [List.lookup_cons] at h
        cases hx : x == m with
        | true =>
          have e : x = m := by simpa using hx
          subst e
          rw [hx] at h
          cases h
          exact .inl ⟨Nat.le_refl _, List.mem_cons_self⟩
        | false => rw [hx] at h; exact .inr h
    · rcases cellsFrom_in r _ _ h with ⟨a, b⟩ | h
      · exact .inl ⟨a, List.mem_cons_of_mem _ b⟩
      · exact .inr h
theorem cellsFrom_out {x : Str} : ∀ (l : List (Str × NameKind)) (n : Nat) (acc : List (Str × Addr)), (x, NameKind.cell) ∉ l → (cellsFrom n l acc).lookup x = acc.lookup x
  | [], _, _, _ => rfl
  | (m, k) :: r, n, acc, h => by
    have hr : (x, NameKind.cell) ∉ r := fun z => h (List.mem_cons_of_mem _ z)
    unfold cellsFrom
    split
    · rename_i hk
      rw [cellsFrom_out r _ _ hr, List.lookup_cons]
      have hk' : k = .cell := by simpa using hk
      subst hk'
      have : (x == m) = false := by
        rw [beq_eq_false_iff_ne]
        intro e; subst e; exact h List.mem_cons_self
      rw [this]
    · exact cellsFrom_out r n acc hr
theorem cellsFrom_has {x : Str} : ∀ (l : List (Str × NameKind)) (n : Nat) (acc : List (Str × Addr)), ((x, NameKind.cell) ∈ l ∨ ∃ c, acc.lookup x = some c) → ∃ c, (cellsFrom n l acc).lookup x = some c
  | [], _, _, h => by
    rcases h with h | h
    · cases h
    · exact h
  | (m, k) :: r, n, acc, h => by
    unfold cellsFrom
    split
    · rename_i hk
      have hk' : k = .cell := by simpa using hk
      subst hk'
      refine cellsFrom_has r _ _ ?_
      rcases h with h | ⟨c, h⟩
      · rcases List.mem_cons.mp h with e | h
        · cases e; exact .inr ⟨_, by rw [List.lookup_cons, beq_self_eq_true]⟩
        · exact .inl h
      · right
        rw [List.lookup_cons]
        cases hx : x == m with
        | true => exact ⟨_, rfl⟩
        | false => exact ⟨c, h⟩
    · rename_i hk
      refine cellsFrom_has r _ _ ?_
      rcases h with h | h
      · rcases List.mem_cons.mp h with e | h
        · cases e; exact absurd rfl hk
        · exact .inl h
      · exact .inr h
theorem cellsFrom_inj : ∀ (l : List (Str × NameKind)) (n : Nat) (acc : List (Str × Addr)), (∀ x c, acc.lookup x = some c → c < n) → (∀ x y c, acc.lookup x = some c → acc.lookup y = some c → x = y) →
    ∀ x y c, (cellsFrom n l acc).lookup x = some c → (cellsFrom n l acc).lookup y = some c → x = y
  | [], _, _, _, h => h
  | (m, k) :: r, n, acc, hb, hi => by
    unfold cellsFrom
    split
    · refine cellsFrom_inj r (n + 1) ((m, n) :: acc) (fun x c h => ?_) (fun x y c h1 h2 => ?_)
      · rw [List.lookup_cons] at h
        cases hx : x == m with
        | true => rw [hx] at h; cases h; exact Nat.lt_succ_self _
        | false => rw [hx] at h; exact Nat.lt_succ_of_lt (hb x c h)
      · rw [List.lookup_cons] at h1 h2
        cases hx : x == m with
        | true =>
          have ex : x = m := by simpa using hx
          rw [hx] at h1
          cases h1
          cases hy : y == m with
          | true =>
            have ey : y = m := by simpa using hy
            rw [ex, ey]
          | false => rw [hy] at h2; exact absurd (hb y _ h2) (Nat.lt_irrefl _)
        | false =>
          rw [hx] at h1
          cases hy : y == m with
          | true => rw [hy] at h2; cases h2; exact absurd (hb x _ h1) (Nat.lt_irrefl _)
          | false => rw [hy] at h2; exact hi x y c h1 h2
    · exact cellsFrom_inj r n acc hb hi
theorem pushCells_cell {x : Str} {c : Addr} : ∀ (l : List (Str × NameKind)) (h : Heap) (acc : List (Str × Addr)), (∀ c, acc.lookup x = some c → ∃ v, h.IsCell c v) → (cellsFrom h.objs.size l acc).lookup x = some c → ∃ v, (pushCells h l).IsCell c v
  | [], _, _, ha, e => ha c e
  | (m, k) :: r, h, acc, ha, e => by
    unfold cellsFrom at e
    unfold pushCells
    split
    · rename_i hk
      rw [if_pos hk] at e
      refine pushCells_cell r (h.push { cls := .type "cell", data := .cell none }) ((m, h.objs.size) :: acc) (fun c' z => ?_) (by rw [Heap.size_push]; exact e)
      rw [List.lookup_cons] at z
      cases hx : x == m with
      | true => rw [hx] at z; cases z; exact ⟨none, _, Heap.get?_push_size _ rfl, rfl⟩
      | false =>
        rw [hx] at z
        obtain ⟨v, q⟩ := ha c' z
        exact ⟨v, q.keeps fun b o e => Heap.get?_push_of_some _ e⟩
    · rename_i hk
      rw [if_neg hk] at e
      exact pushCells_cell r h acc ha e
section
variable {M : Model} {A : Around} {E : Value → Shared → Prop} {s : Shared}
theorem comp_env {scope : Scope} {env : Env} {cl : List (Str × Addr)} {Q : Env → Shared → Prop}
    (h : Q { scope := scope, locals := s.heap.objs.size, globals := env.globals, cells := cellsFrom (s.heap.objs.size + 1) scope.names cl, qual := env.qual, func := none, code := env.code, frame := env.frame, builtins := env.builtins }
      { s with heap := pushCells (s.heap.push { cls := .type "dict", data := .dict #[] }) scope.names }) :
    wpAny M A (newFunctionEnv scope env.globals cl [] env.qual none .none (some env)) Q E s := by
  simp only [newFunctionEnv, Option.isSome_some, if_true]
  refine wpAny_bind (wpAny_alloc ?_)
  refine wpAny_bind (wpAny_layCells _ (fun name kind cells => by cases hkc : kind == NameKind.cell <;> simp [hkc]) _ _ _ _ ?_)
  rw [show ({ s with heap := s.heap.push { cls := .type "dict", data := .dict #[] } } : Shared).heap.objs.size = s.heap.objs.size + 1 from Heap.size_push ..]
  simp only [List.forIn_nil]
  exact wpAny_bind (wpAny_pure (wpAny_pure h))
end
section
variable {prog : Program} {w : World} {A : Around} {R : Result → Shared → Prop} {s : Shared}
theorem compLoop_go {elt target iter : Expr} {ifs : List Expr} {scope : Scope} {pos : Pos} {it acc : Value} {env : Env} (I : Nat → Shared → Prop)
    (turn : ∀ n s, I n s → wpAny (model prog w) A (pyNext it) (fun r s₁ => match r with
      | none => R (.ok .next) s₁
      | some v => wpAny (model prog w) A (letOwnedTupleGo target it v) (fun _ s₀ => wpAny (model prog w) A (assign target env v) (fun _ s₂ =>
          wpAny (model prog w) A (forIn ifs true fun c r => if r = true then do let ok ← isTrue c env (eval c env); pure (ForInStep.yield ok) else pure (ForInStep.yield r)) (fun ok s₃ =>
            if ok = true then wpAny (model prog w) A (eval elt env) (fun x s₄ =>
              wpAny (model prog w) A (call (.builtin "list.append") [acc, x]) (fun _ s₅ => ∃ m, m < n ∧ I m s₅) (fun _ _ => False) s₄) (fun _ _ => False) s₃
            else ∃ m, m < n ∧ I m s₃) (fun _ _ => False) s₂) (fun _ _ => False) s₀) (fun _ _ => False) s₁) (fun _ _ => False) s)
    (n : Nat) (h : I n s) :
    codeAny (model prog w) A (.compLoop (.ListComp elt [⟨target, iter, ifs, 0⟩] scope pos) 0 it acc env) R s := by
  refine codeAny_loop rfl I (fun n s hI => ?_) n h
  show wpAny _ A ((compTurn (.ListComp elt [⟨target, iter, ifs, 0⟩] scope pos) 0 it acc env).onRaise (fun x => do noteFrame x env; theTreesLotGoes x)) _ _ s
  refine wpAny_noted ?_
  rw [compTurn_list]
  refine wpAny_bind (wpAny_standAt (wpAny_bind (wpAny_mono (turn n s hI) (fun r s₁ h₁ => ?_) fun _ _ h' => h'.elim)))
  cases r with
  | none => exact wpAny_pure h₁
  | some v =>
    refine wpAny_bind (wpAny_mono h₁ (fun _ s₀ h₀ => ?_) fun _ _ h' => h'.elim)
    refine wpAny_bind (wpAny_mono h₀ (fun _ s₂ h₂ => wpAny_bind (wpAny_mono h₂ (fun ok s₃ h₃ => ?_) fun _ _ h' => h'.elim)) fun _ _ h' => h'.elim)
    cases ok with
    | false => exact wpAny_pure ⟨rfl, h₃⟩
    | true =>
      exact wpAny_bind (wpAny_bind (wpAny_mono h₃ (fun x s₄ h₄ => wpAny_bind (wpAny_mono h₄ (fun _ s₅ h₅ => wpAny_pure (wpAny_pure ⟨rfl, h₅⟩)) fun _ _ h' => h'.elim)) fun _ _ h' => h'.elim))
end
theorem lookup_of_mem : ∀ {l : List (Str × NameKind)} {x : Str} {k : NameKind}, (l.map (·.1)).Nodup → (x, k) ∈ l → l.lookup x = some k
  | [], _, _, _, h => by cases h
  | (n, j) :: r, x, k, nd, h => by
    rw [List.map_cons, List.nodup_cons] at nd
    rw [List.lookup_cons]
    rcases List.mem_cons.mp h with e | h'
    · cases e; rw [beq_self_eq_true]
    · skip
      have : (x == n) = false := by
        rw [beq_eq_false_iff_ne]
        intro e; subst e
        exact nd.1 (List.mem_map.mpr ⟨(x, k), h', rfl⟩)
      rw [this]
      exact lookup_of_mem nd.2 h'
structure BlkOk (X : Cx) (scope : Scope) (N' : List Str) (cap : List (Option Nat)) : Prop where
  kind : scope.kind = .function
  keys : (scope.names.map (·.1)).Nodup
  len : cap.length = N'.length
  cap : ∀ (i j : Nat) x, N'[i]? = some x → cap[i]? = some (some j) → scope.names.lookup x = some .free ∧ X.N[j]? = some x
  out : ∀ n, (n, NameKind.free) ∈ scope.names → (X.env.kindOf n = some .cell ∨ X.env.kindOf n = some .free)
noncomputable def blkX (X : Cx) (scope : Scope) (N' : List Str) (s : Shared) (H : Hp) (fp : List Addr) : Cx where
  prog := X.prog
  w := X.w
  K := X.K
  mg := X.mg
  base := X.base
  A := X.A
  N := N'
  s₀ := s
  H₀ := H
  env := { scope := relabel scope X.env, locals := s.heap.objs.size, globals := X.env.globals, cells := cellsFrom (s.heap.objs.size + 1) scope.names (closeL X.env.cells scope.names []), qual := X.env.qual, func := none, code := X.env.code, frame := X.env.frame, builtins := X.env.builtins }
  outer := X.stack
  stack := X.stack
  ex := fp
  fn := fun x => decide (scope.names.lookup x = some .cell)
  calm := X.calm
  pn := []
  xe := fun _ _ => False
noncomputable def capS (σ : L2.St) (cap : List (Option Nat)) : L2.St := cap.map fun o => o.bind fun i => (σ[i]?).join
section
variable {X : Cx} {scope : Scope} {N' : List Str} {cap : List (Option Nat)} {pins : List (Addr × Obj)} {σ : L2.St} {H : Hp} {s : Shared} {fp : List Addr}
theorem BlkOk.closed (B : BlkOk X scope N' cap) (I : Inv X pins σ H s) : ∀ x c, (closeL X.env.cells scope.names []).lookup x = some c → (x, NameKind.free) ∈ scope.names ∧ X.env.cells.lookup x = some c := fun x c e => by
  rcases closeL_in _ _ e with ⟨m, e'⟩ | e'
  · obtain ⟨c', h⟩ := I.ok.has x (B.out x m)
    rw [h] at e'
    exact ⟨m, by rw [h, e']; rfl⟩
  · cases e'
theorem blk_start (B : BlkOk X scope N' cap) (I : Inv X pins σ H s) (hf : ∀ b ∈ fp, FpOk X pins H b) (hlt : ∀ b ∈ fp, b < s.heap.objs.size) :
    Inv (blkX X scope N' s H fp) [] (capS σ cap) H { s with heap := pushCells (s.heap.push { cls := .type "dict", data := .dict #[] }) scope.names } := by
  have hcl := B.closed I
  have keep : ∀ b u, s.heap.get? b = some u → (pushCells (s.heap.push { cls := .type "dict", data := .dict #[] }) scope.names).get? b = some u := fun b u e => pushCells_keeps _ _ _ _ (Heap.get?_push_of_some _ e)
  have cin : ∀ x c, (blkX X scope N' s H fp).env.cells.lookup x = some c → (s.heap.objs.size + 1 ≤ c ∧ (x, NameKind.cell) ∈ scope.names) ∨ ((x, NameKind.free) ∈ scope.names ∧ X.env.cells.lookup x = some c) := fun x c e => by
    rcases cellsFrom_in _ _ _ e with z | z
    · exact .inl z
    · exact .inr (hcl x c z)
  have kof : ∀ x, (blkX X scope N' s H fp).env.kindOf x = (scope.names.lookup x).map fun k => if (k == .free && X.env.scope.kind == .function && X.env.kindOf x == some .cell) then .cell else k := fun x => relabel_lookup scope X.env x
  refine ⟨⟨I.ok.mod, B.kind, I.ok.glob, I.ok.blt, Nat.le_refl _, ?_, ?_, ?_, I.ok.hd, I.ok.frames, .inl rfl, ?_, I.bs, Nat.le_trans I.ok.bsz I.sz, ?_, ?_, I.stack, I.stkFree⟩, rfl, I.bare, Un.kept keep, ?_, ?_, I.hok.fresh (Nat.le_refl _), ?_, ?_, I.hok.kept keep, ?_⟩
  · refine cellsFrom_inj _ _ _ (fun x c e => ?_) (fun x y c e1 e2 => I.ok.inj x y c (hcl x c e1).2 (hcl y c e2).2)
    obtain ⟨v, q⟩ := I.cell x c (hcl x c e).2
    exact Nat.lt_succ_of_lt q.lt
  · intro x hk
    rw [kof] at hk
    have : scope.names.lookup x = some .cell ∨ scope.names.lookup x = some .free := by
      cases q : scope.names.lookup x with
      | none => rw [q] at hk; rcases hk with hk | hk <;> cases hk
      | some k => cases k <;> simp [q] at hk ⊢
    rcases this with h | h
    · exact cellsFrom_has _ _ _ (.inl (PySem.mem_of_lookup h))
    · exact cellsFrom_has _ _ _ (.inr (closeL_has _ _ (.inl (PySem.mem_of_lookup h))))
  · intro x c hx e
    have hx' : scope.names.lookup x = some .cell := of_decide_eq_true hx
    rcases cin x c e with z | z
    · exact Nat.le_of_succ_le z.1
    · rw [lookup_of_mem B.keys z.1] at hx'; cases hx'
  · intro b hb
    have hb' : b ∈ fp := hb
    refine ⟨Nat.ne_of_lt (hlt b hb'), fun x c e z => ?_⟩
    rcases cin x c e with q | q
    · subst z
      exact absurd (Nat.lt_of_lt_of_le (hlt _ hb') (Nat.le_of_succ_le q.1)) (Nat.lt_irrefl _)
    · exact (hf b hb').2.2.2.2.1 x c q.2 z
  · intro b o e hb
    have hb' : b ∈ fp := hb
    rcases (hf b hb').2.2.2.1 with q | q
    · exact I.ok.noex b o e q
    · exact absurd (Nat.lt_of_lt_of_le (Heap.lt_size e) (Nat.le_trans I.ok.bsz q)) (Nat.lt_irrefl _)
  · intro b hb hs
    have hb' : b ∈ fp := hb
    have hs' : b ∈ frs X.stack := hs
    rcases List.mem_cons.mp (I.stkSub b hs') with q | q
    · exact (hf b hb').2.1 q
    · exact (hf b hb').2.2.1 q
  · refine ⟨_, (Heap.Ns.new s.heap (.type "dict")).keeps (pushCells_keeps _ _), fun i x v h1 h2 h3 => ?_⟩
    have h1' : N'[i]? = some x := h1
    obtain ⟨j, hj, hv⟩ : ∃ j, cap[i]? = some (some j) ∧ σ[j]? = some (some v) := by
      unfold capS at h2
      rw [List.getElem?_map] at h2
      cases q : cap[i]? with
      | none => rw [q] at h2; cases h2
      | some o =>
        rw [q] at h2
        cases o with
        | none => cases h2
        | some j =>
          refine ⟨j, rfl, ?_⟩
          have h2' : (σ[j]?).join = some v := Option.some.inj h2
          cases z : σ[j]? with
          | none => rw [z] at h2'; cases h2'
          | some y => rw [z] at h2'; exact congrArg some h2'
    obtain ⟨hfree, hN⟩ := B.cap i j x h1' hj
    have hm := PySem.mem_of_lookup hfree
    have hout := B.out x hm
    obtain ⟨m', hn, hl⟩ := I.loc
    obtain ⟨u, ru, lk⟩ := hl j x v hN hv (hout.elim (fun z => .inr (.inl z)) fun z => .inr (.inr z))
    refine ⟨u, ru, ?_⟩
    rcases lk with ⟨z, _⟩ | ⟨_, c, hc, cell⟩
    · rcases hout with y | y <;> (rw [z] at y; cases y)
    · refine .inr ⟨?_, c, ?_, cell.keeps keep⟩
      · rw [kof, hfree]
        show (some (if _ then _ else _) = _ ∨ some (if _ then _ else _) = _)
        split
        · exact .inl rfl
        · exact .inr rfl
      · have nc : (x, NameKind.cell) ∉ scope.names := fun z => by rw [lookup_of_mem B.keys z] at hfree; cases hfree
        show (cellsFrom _ _ _).lookup x = some c
        rw [cellsFrom_out _ _ _ nc]
        obtain ⟨c', e⟩ := closeL_has (cells := X.env.cells) scope.names [] (x := x) (.inl hm)
        have := (hcl x c' e).2
        rw [hc] at this; cases this
        exact e
  · intro x c e
    refine pushCells_cell scope.names _ (closeL X.env.cells scope.names []) (fun c' z => ?_) (by rw [Heap.size_push]; exact e)
    obtain ⟨v, q⟩ := I.cell x c' (hcl x c' z).2
    exact ⟨v, q.keeps fun b o e => Heap.get?_push_of_some _ e⟩
  · intro x c e
    rcases cin x c e with q | q
    · exact I.hok.fresh (Nat.le_of_succ_le q.1)
    · exact I.freeC x c q.2
  · intro p hp
    exact absurd (show p ∈ ([] : List (Addr × Obj)) from hp) (by simp)
  · show (capS σ cap).length = N'.length
    unfold capS
    rw [List.length_map]
    exact B.len
theorem blk_back {σ' : L2.St} {H' : Hp} {s' : Shared} (I : Inv X pins σ H s) (hf : ∀ b ∈ fp, FpOk X pins H b) (J : Inv (blkX X scope N' s H fp) [] σ' H' s') : Inv X pins σ H' s' :=
  I.call' (ch := fp) J.os J.base J.hok J.bare fun b hb => ⟨(hf b hb).2.2.2.1, (hf b hb).2.1, (hf b hb).2.2.2.2.1, (hf b hb).2.2.2.2.2⟩
noncomputable def PTs (X : Cx) (ifs : List Expr) (t : TT) : Prop :=
  ∀ (pins : List (Addr × Obj)) (s : Shared) (σ : L2.St) (H : Hp) (Q : Bool → Hp → Prop), Inv X pins σ H s → t σ H Q →
    wpAny (model X.prog X.w) X.A (forIn ifs true fun c r => if r = true then do let ok ← isTrue c X.env (eval c X.env); pure (ForInStep.yield ok) else pure (ForInStep.yield r)) (TP X pins σ Q) X.xe s
theorem pts_nil : PTs X [] (fun _ H Q => Q true H) := fun pins s σ H Q I h => wpAny_tests_nil ⟨H, I, h⟩
theorem pts_one {c : Expr} {t : TT} (h : PT X c t) : PTs X [c] t := fun pins s σ H Q I q => wpAny_tests_one (h pins s σ H Q I q)
noncomputable def cW (g : TG) (tc : TT) (te : TE) (J : It) (D : Addr) (Q : Hp → Prop) (W : Nat → Nat → L2.St → Hp → Prop) : Prop := ∀ i m σ H, W i m σ H →
  (J.stop i H ∧ Q H) ∨ (J.go i H ∧ ∀ x H2, J.yld i H x H2 → g x σ H2 fun σ2 H3 => tc σ2 H3 fun b H4 =>
    if b = true then te σ2 H4 fun v H5 => ∃ ys, H5 D = some (.lst ys) ∧ ys.length < sizeLine ∧ ∃ m', m' < m ∧ W (i + 1) m' σ2 (upd H5 D (.lst (ys ++ [v])))
    else ∃ m', m' < m ∧ W (i + 1) m' σ2 H4)
theorem comp_loop {elt target iter : Expr} {ifs : List Expr} {pos : Pos} {g : TG} {tc : TT} {te : TE} {J : It} {it D : Addr} {tn : Nat → Heap → Prop} {Q : Hp → Prop} {W : Nat → Nat → L2.St → Hp → Prop} {Y : Cx} (hcalm : Y.calm = true) (hxe : Y.xe = fun _ _ => False)
    (hg : PG Y target g) (hc : PTs Y ifs tc) (he : PE Y elt te) (T : Turn Y.prog Y.w Y.K target J fp it tn) (hex : ∀ b ∈ fp, b ≠ Y.env.locals ∧ b ∉ Y.fs ∧ (b ∈ Y.ex ∨ Y.s₀.heap.objs.size ≤ b) ∧ (∀ x c, Y.env.cells.lookup x = some c → c ≠ b) ∧ ∀ p ∈ Y.pn, p.1 ≠ b)
    (hW : cW g tc te J D Q W) {n : Nat} {i : Nat} {s : Shared} (I : Inv Y [] σ H s) (st : tn i s.heap) (hn : ∀ b ∈ fp, H b = none) (w0 : W i n σ H) :
    codeAny (model Y.prog Y.w) Y.A (.compLoop (.ListComp elt [⟨target, iter, ifs, 0⟩] scope pos) 0 (.ref it) (.ref D) Y.env)
      (fun r s' => match r with | .ok _ => ∃ σ' H', Inv Y [] σ' H' s' ∧ Q H' | .error _ => False) s := by
  have stat : ∀ {H' : Hp}, (∀ b ∈ fp, H' b = none) → ∀ b ∈ fp, FpOk Y [] H' b := fun hn b hb => ⟨hn b hb, (hex b hb).1, (hex b hb).2.1, (hex b hb).2.2.1, (hex b hb).2.2.2.1, fun p hp => (hex b hb).2.2.2.2 p (by simpa using hp)⟩
  refine compLoop_go (fun n s' => ∃ i σ' H', Inv Y [] σ' H' s' ∧ tn i s'.heap ∧ (∀ b ∈ fp, H' b = none) ∧ W i n σ' H') ?_ n ⟨i, σ, H, I, st, hn, w0⟩
  rintro n s3 ⟨i, σ3, H3, I3, st3, fr3, w3⟩
  rcases hW i n σ3 H3 w3 with ⟨stop, qn⟩ | ⟨go, step⟩
  · refine thn (T.done Y rfl rfl rfl hcalm i [] s3 σ3 H3 _ I3 (stat fr3) st3 stop) fun r s4 ⟨hr, I4⟩ => ?_
    subst hr
    exact ⟨σ3, H3, I4, qn⟩
  · refine thn (T.item Y rfl rfl rfl hcalm i [] s3 σ3 H3 _ I3 (stat fr3) st3 go) fun r s4 ⟨u, hr, h4⟩ => ?_
    subst hr
    refine thn h4 fun _ s5 ⟨x, H5, I5, r5, y5, st5, fr5⟩ => ?_
    have I5' := I5.pinned (stat fr5) (T.obj _ _ st5)
    have again : ∀ {σ7 : L2.St} {H7 : Hp} {s7 : Shared}, Inv Y ([] ++ pinsAt fp s5.heap) σ7 H7 s7 → (∃ m', m' < n ∧ W (i + 1) m' σ7 H7) → ∃ m, m < n ∧ ∃ i σ' H', Inv Y [] σ' H' s7 ∧ tn i s7.heap ∧ (∀ b ∈ fp, H' b = none) ∧ W i m σ' H' := fun {σ7 H7 s7} I7 n7 => by
      obtain ⟨m', hm, w7⟩ := n7
      refine ⟨m', hm, i + 1, σ7, H7, I7.unpinned, T.keep _ _ _ st5 fun b hb o e => (I7.pin (b, o) (List.mem_append_right _ (List.mem_append_right _ (mem_pinsAt hb e)))).1, fun b hb => ?_, w7⟩
      obtain ⟨o, e, d⟩ := T.obj _ _ st5 b hb
      exact (I7.pin (b, o) (List.mem_append_right _ (List.mem_append_right _ (mem_pinsAt hb e)))).2.1
    have a1 := hg _ s5 σ3 H5 x u _ I5' r5 (step x H5 y5)
    rw [hxe] at a1
    refine thn a1 fun _ s6 ⟨σ6, H6, I6, q6⟩ => ?_
    have a2 := hc _ s6 σ6 H6 _ I6 q6
    rw [hxe] at a2
    refine thn a2 fun b s7 ⟨H7, I7, q7⟩ => ?_
    cases b with
    | false => exact again I7 q7
    | true =>
      rw [if_pos rfl] at q7 ⊢
      have a3 := he _ s7 σ6 H7 _ I7 q7
      rw [hxe] at a3
      refine thn a3 fun y s8 ⟨v, H8, I8, r8, ys, hD, hz, q8⟩ => ?_
      have a4 := mt_append _ s8 σ6 H8 (.ref D) [v] (.ref D) [y] (fun _ H9 => ∃ m', m' < n ∧ W (i + 1) m' σ6 H9) I8 rfl (.cons r8 .nil) ⟨D, ys, v, rfl, rfl, hD, hz, q8⟩
      rw [hxe] at a4
      exact thn a4 fun _ s9 ⟨_, H9, I9, _, q9⟩ => again I9 q9
end
section
variable {X : Cx} {scope : Scope} {N' : List Str} {cap : List (Option Nat)}
noncomputable def tComp (wi : TI) (g : TG) (tc : TT) (te : TE) (cap : List (Option Nat)) : TE := fun σ H Q => wi σ H fun J H1 => ∀ D, H1 D = none →
  ∃ W, (∃ m, W 0 m (capS σ cap) (upd H1 D (.lst []))) ∧ cW g tc te J D (fun H => Q (.ref D) H) W
theorem comp_block {elt target iter : Expr} {ifs : List Expr} {pos : Pos} {g : TG} {tc : TT} {te : TE} {J : It} {it : Addr} {tn : Nat → Heap → Prop} {Q : Hp → Prop} {pins : List (Addr × Obj)} {σ : L2.St} {H : Hp} {s : Shared} {fp : List Addr}
    (B : BlkOk X scope N' cap) (hcalm : X.calm = true) (hg : ∀ s H fp, PG (blkX X scope N' s H fp) target g) (hc : ∀ s H fp, PTs (blkX X scope N' s H fp) ifs tc) (he : ∀ s H fp, PE (blkX X scope N' s H fp) elt te)
    (I : Inv X pins σ H s) (T : Turn X.prog X.w X.K target J fp it tn) (st : tn 0 s.heap) (hf : ∀ b ∈ fp, FpOk X pins H b)
    (hW : ∃ W, (∃ m, W 0 m (capS σ cap) (upd H s.heap.objs.size (.lst []))) ∧ cW g tc te J s.heap.objs.size Q W) (RR : Value → Addr → Result → Shared → Prop) (E : Value → Shared → Prop)
    (hR : ∀ H3 s3 σ' H' s' f, Inv X pins σ H3 s3 → s3.heap.objs.size = s.heap.objs.size + 1 → (∀ b ∈ fp, FpOk X pins H3 b) → Inv (blkX X scope N' s3 H3 fp) [] σ' H' s' → Q H' → RR (.ref s.heap.objs.size) s3.heap.objs.size (.ok f) s') :
    wpAny (model X.prog X.w) X.A (newList []) (fun acc s₃ => wpAny (model X.prog X.w) X.A (newFunctionEnv scope X.env.globals (closeL X.env.cells scope.names []) [] X.env.qual none .none (some X.env)) (fun cenv s₄ =>
      codeAny (model X.prog X.w) X.A (.compStart (.ListComp elt [⟨target, iter, ifs, 0⟩] scope pos) 0 (.ref it) acc { cenv with scope := relabel scope X.env }) (RR acc cenv.locals) s₄) E s₃) E s := by
  obtain ⟨W, ⟨m0, w0⟩, hW⟩ := hW
  refine wpAny_newObj_type (comp_env ?_)
  have I3 : Inv X pins σ (upd H s.heap.objs.size (.lst [])) { s with heap := s.heap.push { cls := .type "list", data := .seq ([] : List Value).toArray } } := I.lnew (t' := s.toks) .nil (Nat.zero_le _)
  have hb : ∀ b ∈ fp, b < s.heap.objs.size := fun b hb => by
    obtain ⟨o, e, _⟩ := T.obj _ _ st b hb
    exact Heap.lt_size e
  have hsz : (s.heap.push { cls := .type "list", data := .seq ([] : List Value).toArray }).objs.size = s.heap.objs.size + 1 := Heap.size_push ..
  have hf3 : ∀ b ∈ fp, FpOk X pins (upd H s.heap.objs.size (.lst [])) b := fun b h => ⟨by rw [upd_ne (Nat.ne_of_lt (hb b h))]; exact (hf b h).1, (hf b h).2⟩
  have I4 := blk_start B I3 hf3 (fun b h => by rw [hsz]; exact Nat.lt_succ_of_lt (hb b h))
  have st4 : tn 0 (pushCells ((s.heap.push { cls := .type "list", data := .seq ([] : List Value).toArray }).push { cls := .type "dict", data := .dict #[] }) scope.names) :=
    T.keep _ _ _ st fun b _ o e => pushCells_keeps _ _ _ _ (Heap.get?_push_of_some _ (Heap.get?_push_of_some _ e))
  have fin : ∀ r s', (match r with | .ok _ => ∃ σ' H', Inv (blkX X scope N' { s with heap := s.heap.push { cls := .type "list", data := .seq ([] : List Value).toArray } } (upd H s.heap.objs.size (.lst [])) fp) [] σ' H' s' ∧ Q H' | .error _ => False) →
      RR (.ref s.heap.objs.size) (s.heap.push { cls := .type "list", data := .seq ([] : List Value).toArray }).objs.size r s' := fun r s' h => by
    cases r with
    | error e => exact h.elim
    | ok f =>
      obtain ⟨σ', H', J4, q⟩ := h
      exact hR _ _ σ' H' s' f I3 hsz hf3 J4 q
  have loop := comp_loop (iter := iter) (scope := scope) (pos := pos) (Y := blkX X scope N' { s with heap := s.heap.push { cls := .type "list", data := .seq ([] : List Value).toArray } } (upd H s.heap.objs.size (.lst [])) fp) hcalm rfl (hg _ _ _) (hc _ _ _) (he _ _ _) T (fun b h => ⟨(I4.ok.exf b h).1, I4.ok.exfs b h, .inl h, (I4.ok.exf b h).2, fun p hp => nomatch hp⟩) hW I4 st4
    (fun b h => (hf3 b h).1) w0
  have loop' := codeAny_mono loop fin
  exact codeAny_compStart_list loop' (T.self X.A 0 _ _ _ st4 loop')
theorem hnames_of (B : BlkOk X scope N' cap) : ∀ x ∈ scope.names, x.2 = .local → scope.names.lookup x.1 = some .local := fun ⟨n, k⟩ hx e => by
  cases e
  exact lookup_of_mem B.keys hx
theorem ns_of {pins : List (Addr × Obj)} {σ : L2.St} {H : Hp} {s : Shared} {Y : Cx} (J : Inv Y pins σ H s) : ∃ m, s.heap.Ns Y.env.locals m := let ⟨m, h, _⟩ := J.loc; ⟨m, h⟩
theorem pe_comp {elt target iter : Expr} {ifs : List Expr} {pos : Pos} {wi : TI} {g : TG} {tc : TT} {te : TE} (B : BlkOk X scope N' cap) (hcalm : X.calm = true) (hi : PI X target iter wi)
    (hg : ∀ s H fp, PG (blkX X scope N' s H fp) target g) (hc : ∀ s H fp, PTs (blkX X scope N' s H fp) ifs tc) (he : ∀ s H fp, PE (blkX X scope N' s H fp) elt te)
    (hs : ∀ x, foldedSetIterable iter X.env x = pure x) : PE X (.ListComp elt [⟨target, iter, ifs, 0⟩] scope pos) (tComp wi g tc te cap) := by
  intro pins s σ H Q I h
  rw [eval_ListComp]
  refine wpAny_comprehension_free (use := none) rfl hs (closure_eq fun n hn => I.ok.has n (B.out n hn)) B.kind (hnames_of B) (thn (hi pins s σ H _ I h) fun x s1 h1 => thn h1 fun itv s2 h2 => ?_)
  obtain ⟨it, fp, tn, J, H2, e, I2, T, st2, f2, R⟩ := h2
  subst e
  refine comp_block B hcalm hg hc he I2 T st2 f2 (R _ I2.fresh) (fun acc C => compPost (model X.prog X.w) X.A X.xe none (EP X pins σ Q) acc C) _ ?_
  intro H3 s3 σ' H' s' f I3 hsz hf3 J4 q
  obtain ⟨m, hm⟩ := ns_of J4
  have I4 := blk_back I3 hf3 J4
  refine ⟨m, hm, fun h' sb => ⟨.ref s2.heap.objs.size, H', ?_, rfl, q⟩⟩
  have fC : FpOk X pins H' s3.heap.objs.size := I3.fpOk (Nat.le_refl _) J4.free
  exact I4.turned (t' := s'.toks) (fun b o hb e => sb.extBut b o hb e) fC.1 fC.2.1 fC.2.2.2.1 fC.2.2.2.2.1 fC.2.2.2.2.2
theorem ps_comp {elt target iter : Expr} {ifs : List Expr} {pos spos py : Pos} {y : Str} {i : Nat} {wi : TI} {g : TG} {tc : TT} {te : TE} (B : BlkOk X scope N' cap) (hcalm : X.calm = true) (hi : PI X target iter wi)
    (hg : ∀ s H fp, PG (blkX X scope N' s H fp) target g) (hc : ∀ s H fp, PTs (blkX X scope N' s H fp) ifs tc) (he : ∀ s H fp, PE (blkX X scope N' s H fp) elt te)
    (hs : ∀ x, foldedSetIterable iter X.env x = pure x) (hN : X.N.Nodup) (hy : X.N[i]? = some y) (hl : X.env.kindOf y = some .local)
    (hsw : swapsWith (.ListComp elt [⟨target, iter, ifs, 0⟩] scope pos) (some (.Name y py)) spos.line X.env = pure true) :
    PS X (.Assign [.Name y py] (.ListComp elt [⟨target, iter, ifs, 0⟩] scope pos) spos) (tAsg (tComp wi g tc te cap) (gName i)) := by
  intro pins s σ H D I h
  rw [exec_Assign_Name_used _ _ _ _ hsw]
  refine wpAny_bind (wpAny_standAt (wpAny_bind ?_))
  show wpAny _ X.A (do let _ ← comprehension (.ListComp elt [⟨target, iter, ifs, 0⟩] scope pos) scope X.env _ (newList []) false (eval iter X.env) (some (assign (.Name y py) X.env))) _ _ s
  refine wpAny_bind (wpAny_mono (wpAny_comprehension_free (use := some (assign (.Name y py) X.env)) (Q := fun _ s' => SP X pins D .next s') rfl hs (closure_eq fun n hn => I.ok.has n (B.out n hn)) B.kind (hnames_of B)
    (thn (hi pins s σ H _ I h) fun x s1 h1 => thn h1 fun itv s2 h2 => ?_)) (fun _ s' hq => wpAny_pure (wpAny_pure hq)) fun _ _ e => e)
  obtain ⟨it, fp, tn, J, H2, e, I2, T, st2, f2, R⟩ := h2
  subst e
  refine comp_block B hcalm hg hc he I2 T st2 f2 (R _ I2.fresh) (fun acc C => compPost (model X.prog X.w) X.A X.xe (some (assign (.Name y py) X.env)) (fun _ s' => SP X pins D .next s') acc C) _ ?_
  intro H3 s3 σ' H' s' f I3 hsz hf3 J4 q
  obtain ⟨m, o, es, ep, ho, hd, hr⟩ := ns_of J4
  have I4 := blk_back I3 hf3 J4
  have fC : FpOk X pins H' s3.heap.objs.size := I3.fpOk (Nat.le_refl _) J4.free
  have hdC : ∀ v, o.data ≠ .cell v := fun v z => by rw [hd] at z; cases z
  have I5 : Inv X (pins ++ [(s3.heap.objs.size, o)]) σ H' s' := I4.pins_of fun p hp => (List.mem_append.mp hp).elim (fun z => I4.pin p (List.mem_append_right _ z)) fun z => by
    have e : p = (s3.heap.objs.size, o) := by simpa using z
    subst e
    exact ⟨ho, fC.1, fC.2.1, fC.2.2.1, hdC⟩
  show wpAny _ X.A (assign (.Name y py) X.env (.ref s2.heap.objs.size)) _ _ _
  refine wpAny_assign_Name (store_ok (v := .ref s2.heap.objs.size) I5 hN hy (.inl hl) rfl (fun s6 I6 => ?_) (.inr hl))
  have pin := I6.pin (s3.heap.objs.size, o) (List.mem_append_right _ (List.mem_append_right _ (by simp)))
  refine ⟨m, ⟨o, es, ep, pin.1, hd, hr⟩, fun h' sb => ⟨_, H', ?_, q⟩⟩
  exact I6.unpinned.turned (t' := s6.toks) (fun b o hb e => sb.extBut b o hb e) fC.1 fC.2.1 fC.2.2.2.1 fC.2.2.2.2.1 fC.2.2.2.2.2
end
end TW
end
section
set_option Elab.async false
set_option linter.all false
set_option maxRecDepth 100000
set_option maxHeartbeats 4000000
namespace TW
open PySem PySem.Spec PyProof.Rows L2
section
variable {X : Cx}
theorem dt_val {e : Expr} {g : En → Option (Kd × D)} (h : DE X e g) (he : ∀ whole, isTrue e X.env whole = (do let v ← whole; standAt e.pos; holding [v] (truthy v))) :
    DT X e (fun ρ => (g ρ).bind fun x => truD x.2) := by
  intro ρ b q
  obtain ⟨x, ex, et⟩ := bnd q
  refine pt_imp (pt_truth (h ρ x ex) he) ?_
  rintro σ H Q ⟨G, s, k⟩
  exact ⟨G, s, fun v H' G' x1 r => ⟨b, tru_of X.K (r.rb x1.gh) x1.gh et, k H' G' x1⟩⟩
theorem da_nil : DA X [] (fun _ => some []) := fun ρ ds e => by
  cases e
  refine pa_imp pa_nil ?_
  rintro σ H Q ⟨G, s, k⟩
  exact k [] H G (.refl s.gh) rfl
theorem da_cons {e : Expr} {es : List Expr} {ge : En → Option (Kd × D)} {gs : En → Option (List D)} (ha : DE X e ge) (hr : DA X es gs) (hs : starEach (e :: es) X.env = (false, eval e X.env) :: starEach es X.env) :
    DA X (e :: es) (fun ρ => ((ge ρ).bind TW.frz).bind fun d => (gs ρ).map fun q => d :: q) := by
  intro ρ ds q
  obtain ⟨d, q1, q⟩ := bnd q
  obtain ⟨x, ex, ef⟩ := bnd q1
  obtain ⟨dr, eq, rfl⟩ := mpd q
  refine pa_imp (pa_cons (ha ρ x ex) (hr ρ dr eq) hs) ?_
  rintro σ H Q ⟨G, s, k⟩
  refine ⟨G, s, fun v H1 G1 x1 r1 => ?_⟩
  obtain ⟨G2, x2, s2, rp⟩ := r1.frz x1 ef
  exact ⟨G2, s.ext x2, fun vs H3 G3 x3 rs => k (v :: vs) H3 G3 (x2.trans x3) (Rps.cons (Rp.mono x3.gg _ _ rp) rs)⟩
theorem Rps.le {G : Hp} {ds : List D} {xs : List V} (r : Rps G ds xs) (h : ds.length ≤ lim) : xs.length ≤ sizeLine := by
  rw [r.length]; exact Nat.le_trans h lim_line
theorem de_tup {es : List Expr} {k : Nat} {pos : Pos} {g : En → Option (List D)} (h : DA X es g) : DE X (.Tuple es k pos) (fun ρ => (g ρ).bind fun ds => if ds.length ≤ lim then some (.fz, .tup ds) else none) := by
  intro ρ x q
  obtain ⟨ds, e, q⟩ := bnd q
  split at q
  case isFalse => cases q
  rename_i hl
  cases q
  refine pe_imp (pe_tup (h ρ ds e)) ?_
  rintro σ H Q ⟨G, s, k⟩
  refine ⟨G, s, fun vs H' G' x1 rs => ⟨rs.le hl, fun p hp => ?_⟩⟩
  have x2 := Ext.laid x1.gh hp (.tup vs)
  exact k _ _ _ (x1.trans x2) ⟨p, vs, rfl, upd_same, Rps.mono x2.gg _ _ rs⟩
theorem fresh_ok {G H : Hp} (gh : Same G H) {p : Addr} (hp : H p = none) {ds : List D} {vs : List V} (rs : Rps G ds vs) : Ext G H G (upd H p (.lst vs)) ∧ RR G (upd H p (.lst vs)) H (.ref p) (.fr, .lst ds) :=
  ⟨Ext.grown gh hp _, p, vs, ds, rfl, rfl, upd_same, gh.free hp, hp, rs⟩
theorem de_lst {es : List Expr} {pos : Pos} {g : En → Option (List D)} (h : DA X es g) : DE X (.List es pos) (fun ρ => (g ρ).bind fun ds => if ds.length ≤ lim then some (.fr, .lst ds) else none) := by
  intro ρ x q
  obtain ⟨ds, e, q⟩ := bnd q
  split at q
  case isFalse => cases q
  rename_i hl
  cases q
  refine pe_imp (pe_lst (h ρ ds e)) ?_
  rintro σ H Q ⟨G, s, k⟩
  refine ⟨G, s, fun vs H' G' x1 rs => ⟨rs.le hl, fun p hp => ?_⟩⟩
  obtain ⟨x2, rr⟩ := fresh_ok x1.gh hp rs
  exact k _ _ _ (x1.trans x2) (rr.back x1.hh)
noncomputable def spD (n : Nat) (g : List D → Option D) : Sp := fun vs H Q _ => ∃ G ds d, (Same G H ∧ Tb G) ∧ Rps G ds vs ∧ ds.length = n ∧ g ds = some d ∧ ∀ v H' G', Ext G H G' H' → Rp G' d v → Q v H'
theorem de_call {k : Nat} {f : Addr} {fd : FuncData} {ps : List Str} {n : Nat} {g : List D → Option D} {x : Str} {p pos : Pos} {e : Expr} {es : List Expr} {gs : En → Option (List D)}
    (F : FnOk X.prog X.w X.K X.mg X.base CX0 k f fd ps (spD n g)) (hr : Room k X.A) (hg : Gl X x) (hm : X.mg x = some (.ref f)) (hk : PySem.W.keepIn X.K (.ref f) = true) (hb : Binds X.K fd ps [])
    (hn : ∀ ρ ds, gs ρ = some ds → ds.length = n)
    (ha : DA X (e :: es) gs) (hdb : (x == ("__debug__" : Str)) = false) (he : starEach (e :: es) X.env = (false, eval e X.env) :: starEach es X.env) (hpl : (backTo pos (starEach es X.env)).any (·.1) = false) :
    DE X (.Call (.Name x p) (e :: es) [] pos) (fun ρ => (gs ρ).bind fun ds => (g ds).map fun d => (.fz, d)) := by
  intro ρ z q
  obtain ⟨ds, eq, q⟩ := bnd q
  obtain ⟨d, ed, rfl⟩ := mpd q
  refine pe_imp (pe_call (dvs := []) (E := E0) F hr hg hm hk hb .nil pass0 (ha ρ ds eq) hdb he hpl) ?_
  rintro σ H Q ⟨G, s, k⟩
  refine ⟨G, s, fun vs H1 G1 x1 rs => ⟨G1, ds, d, ⟨x1.gh, s.tb.mono x1.gg⟩, by rw [List.append_nil]; exact rs, hn ρ ds eq, ed, fun v H2 G2 x2 r => k v H2 G2 (x1.trans x2) r⟩⟩
noncomputable def ItD (J : It) (P : Hp → Hp → Prop) (ds : List D) : Prop := ∀ (i : Nat) G H, P G H → (∀ d, ds[i]? = some d → J.go i H ∧ ∀ x H2, J.yld i H x H2 → ∃ G2, Ext G H G2 H2 ∧ Rp G2 d x) ∧ (ds.length ≤ i → J.stop i H)
noncomputable def tDI (ρ : En) (x : Kd × List D) : TI := fun σ H R => ∃ G, SR G H σ ρ ∧ ∀ J H' G', Ext G H G' H' → ItD J (fun G2 H2 => Same G' G2 ∧ Same G2 H2 ∧ Same H' H2) x.2 → (x.1 ≠ .bo → ItD J (fun G2 H2 => Same G' G2 ∧ Same G2 H2) x.2) → R J H'
noncomputable def DI (X : Cx) (tg iter : Expr) (g : En → Option (Kd × List D)) : Prop := ∀ ρ x, g ρ = some x → PI X tg iter (tDI ρ x)
theorem pi_imp {tg e : Expr} {t t' : TI} (h : PI X tg e t) (i : ∀ σ H Q, t' σ H Q → t σ H Q) : PI X tg e t' := fun pins s σ H Q I q => h pins s σ H Q I (i σ H Q q)
theorem itd_list {K : PySem.W.Frag} {a : Addr} {ds : List D} {xs : List V} {G' : Hp} {P : Hp → Hp → Prop} (hP : ∀ G H, P G H → Same G' G ∧ Same G H ∧ Rd H a (.lst xs)) (r : Rps G' ds xs) : ItD (Itl K a) P ds := by
  intro i G H p
  obtain ⟨g1, g2, h⟩ := hP G H p
  refine ⟨fun d e => ?_, fun hl => ⟨xs, .inl h, by rw [r.length]; exact hl⟩⟩
  obtain ⟨x, ex, rx⟩ := r.get e
  refine ⟨⟨xs, x, .inl h, ex⟩, fun y H2 hy => ?_⟩
  obtain ⟨rfl, hy⟩ := hy
  have e2 := hy xs (.inl h)
  rw [ex] at e2
  cases e2
  exact ⟨G, .refl g2, Rp.mono g1 _ _ rx⟩
theorem itd_tup {K : PySem.W.Frag} {a : Addr} {ds : List D} {xs : List V} {G' : Hp} {P : Hp → Hp → Prop} (hP : ∀ G H, P G H → Same G' G ∧ Same G H ∧ H a = some (.tup xs)) (r : Rps G' ds xs) : ItD (Itt K a) P ds := by
  intro i G H p
  obtain ⟨g1, g2, h⟩ := hP G H p
  refine ⟨fun d e => ?_, fun hl => ⟨xs, .inl (.inl h), by rw [r.length]; exact hl⟩⟩
  obtain ⟨x, ex, rx⟩ := r.get e
  refine ⟨⟨xs, x, .inl (.inl h), ex⟩, fun y H2 hy => ?_⟩
  obtain ⟨rfl, hy⟩ := hy
  have e2 := hy xs (.inl (.inl h))
  rw [ex] at e2
  cases e2
  exact ⟨G, .refl g2, Rp.mono g1 _ _ rx⟩
theorem itd_rng {lo : Int} {n : Nat} {P : Hp → Hp → Prop} (hP : ∀ G H, P G H → Same G H) : ItD (Itr lo n) P (rngD lo n) := by
  intro i G H p
  refine ⟨fun d e => ?_, fun hl => by simpa [rngD, Itr] using hl⟩
  unfold rngD at e
  rw [List.getElem?_map] at e
  obtain ⟨j, ej, rfl⟩ := mpd e
  obtain ⟨hi, ej⟩ := List.getElem?_eq_some_iff.mp ej
  rw [List.length_range] at hi
  rw [List.getElem_range] at ej
  subst ej
  refine ⟨hi, fun x H2 hy => ?_⟩
  obtain ⟨rfl, rfl⟩ := hy
  exact ⟨G, .refl (hP G _ p), rfl⟩
theorem di_seq {tg l : Expr} {g : En → Option (Kd × D)} (h : DE X l g) : DI X tg l (fun ρ => (g ρ).bind fun x => (seqOf x.2).map fun u => (nfr x.1, u)) := by
  intro ρ y q
  obtain ⟨⟨k, d⟩, ex, q⟩ := bnd q
  obtain ⟨ds, es, rfl⟩ := mpd q
  cases d with
  | lst es' =>
    cases es
    refine pi_imp (pi_list (h ρ _ ex)) ?_
    rintro σ H R ⟨G, s, c⟩
    refine ⟨G, s, fun v H1 G1 x1 r1 => ?_⟩
    cases k with
    | fz =>
      obtain ⟨a, xs, rfl, rd, rs⟩ := r1
      refine ⟨a, rfl, ⟨xs, .inl (Rd.same x1.gh rd)⟩, c _ H1 G1 x1 ?_ fun _ => ?_⟩
      · exact itd_list (fun G2 H2 ⟨p1, p2, p3⟩ => ⟨p1, p2, Rd.same p2 (Rd.same p1 rd)⟩) rs
      · exact itd_list (fun G2 H2 ⟨p1, p2⟩ => ⟨p1, p2, Rd.same p2 (Rd.same p1 rd)⟩) rs
    | fr =>
      obtain ⟨a, xs, ds', e, rfl, hl, hg, hn, rs⟩ := r1
      cases e
      obtain ⟨x2, s2⟩ := x1.freeze hn hl hg
      have rd : Rd (upd G1 a (.lst xs)) a (.lst xs) := .inl upd_same
      refine ⟨a, rfl, ⟨xs, .inl (.inl hl)⟩, c _ H1 _ x2 ?_ fun _ => ?_⟩
      · exact itd_list (fun G2 H2 ⟨p1, p2, p3⟩ => ⟨p1, p2, Rd.same p2 (Rd.same p1 rd)⟩) (Rps.mono s2 _ _ rs)
      · exact itd_list (fun G2 H2 ⟨p1, p2⟩ => ⟨p1, p2, Rd.same p2 (Rd.same p1 rd)⟩) (Rps.mono s2 _ _ rs)
    | bo =>
      obtain ⟨a, xs, rfl, rd, rs⟩ := r1
      refine ⟨a, rfl, ⟨xs, .inl rd⟩, c _ H1 G1 x1 ?_ fun z => absurd rfl z⟩
      exact itd_list (fun G2 H2 ⟨p1, p2, p3⟩ => ⟨p1, p2, Rd.same p3 rd⟩) rs
  | tup es' =>
    cases es
    refine pi_imp (pi_tup (h ρ _ ex)) ?_
    rintro σ H R ⟨G, s, c⟩
    refine ⟨G, s, fun v H1 G1 x1 r1 => ?_⟩
    obtain ⟨a, xs, rfl, hg, rs⟩ := r1.rb x1.gh
    refine ⟨a, rfl, ⟨xs, .inl (.inl (x1.gh _ _ hg))⟩, c _ H1 G1 x1 ?_ fun _ => ?_⟩
    · exact itd_tup (fun G2 H2 ⟨p1, p2, p3⟩ => ⟨p1, p2, p2 _ _ (p1 _ _ hg)⟩) rs
    · exact itd_tup (fun G2 H2 ⟨p1, p2⟩ => ⟨p1, p2, p2 _ _ (p1 _ _ hg)⟩) rs
  | non => cases es
  | bl _ => cases es
  | int _ => cases es
  | str _ => cases es
  | scr _ _ _ => cases es
  | dct _ _ => cases es
theorem rngOk_of {i : Int} (h : rngOk i = true) : -(2 ^ 62) ≤ i ∧ i < 2 ^ 62 := by
  have : i.natAbs < 4611686018427387904 := of_decide_eq_true h
  omega
theorem di_r1 {tg a : Expr} {p pos : Pos} {g : En → Option (Kd × D)} (hg : Gl X "range") (hm : X.mg "range" = none) (h : DE X a g) (hs : starEach [a] X.env = [(false, eval a X.env)]) :
    DI X tg (.Call (.Name "range" p) [a] [] pos) (fun ρ => (g ρ).bind fun x => match x.2 with | .int i => if rngOk i then some (.fz, rngD 0 i.toNat) else none | _ => none) := by
  intro ρ y q
  obtain ⟨⟨k, d⟩, ex, q⟩ := bnd q
  cases d <;> first | cases q | skip
  rename_i i
  dsimp only at q
  split at q
  case isFalse => cases q
  rename_i hi
  cases q
  obtain ⟨h1, h2⟩ := rngOk_of hi
  refine pi_imp (pi_range1 hg hm (pa_cons (h ρ _ ex) pa_nil hs) hs) ?_
  rintro σ H R ⟨G, s, c⟩
  refine ⟨G, s, fun v H1 G1 x1 r1 => ⟨i, ?_, h1, h2, c _ H1 G1 x1 (itd_rng fun _ _ p => p.2.1) fun _ => itd_rng fun _ _ p => p.2⟩⟩
  rw [show v = V.int i from r1.rb x1.gh]
theorem di_r2 {tg a b : Expr} {p pos : Pos} {ga gb : En → Option (Kd × D)} (hg : Gl X "range") (hm : X.mg "range" = none) (ha : DE X a ga) (hb : DE X b gb)
    (hs : starEach [a, b] X.env = [(false, eval a X.env), (false, eval b X.env)]) (hs2 : starEach [b] X.env = [(false, eval b X.env)]) :
    DI X tg (.Call (.Name "range" p) [a, b] [] pos) (fun ρ => (ga ρ).bind fun x => (gb ρ).bind fun y => match x.2, y.2 with
      | .int i, .int j => if rngOk i && rngOk j then some (.fz, rngD i (j - i).toNat) else none
      | _, _ => none) := by
  intro ρ y q
  obtain ⟨⟨k, d⟩, ex, q1⟩ := bnd q
  obtain ⟨⟨k2, d2⟩, ey, q2⟩ := bnd q1
  clear q q1
  obtain ⟨i, rfl⟩ : ∃ i, d = .int i := by
    cases d <;> first | cases q2 | exact ⟨_, rfl⟩
  obtain ⟨j, rfl⟩ : ∃ j, d2 = .int j := by
    cases d2 <;> first | cases q2 | exact ⟨_, rfl⟩
  have q := q2
  dsimp only at q
  split at q
  case isFalse => cases q
  rename_i hij
  cases q
  rw [Bool.and_eq_true] at hij
  obtain ⟨h1, h2⟩ := rngOk_of hij.1
  obtain ⟨h3, h4⟩ := rngOk_of hij.2
  refine pi_imp (pi_range2 hg hm (pa_cons (ha ρ _ ex) (pa_cons (hb ρ _ ey) pa_nil hs2) (by rw [hs, hs2])) hs hs2) ?_
  rintro σ H R ⟨G, s, c⟩
  refine ⟨G, s, fun v H1 G1 x1 r1 => ⟨G1, s.ext x1, fun u H2 G2 x2 r2 => ⟨i, j, ?_, ⟨h1, h2, h3, h4⟩, c _ H2 G2 (x1.trans x2) (itd_rng fun _ _ p => p.2.1) fun _ => itd_rng fun _ _ p => p.2⟩⟩⟩
  rw [show v = V.int i from r1.rb x1.gh, show u = V.int j from r2.rb x2.gh]
noncomputable def tDG (tg : Tg) : TG := fun v σ H Q => ∃ G d, Same G H ∧ Rp G d v ∧ (∀ l, tg = .many l → ∃ ds, d = .tup ds ∧ ds.length = l.length) ∧ ∀ σ', Bound tg d G σ σ' → Q σ' H
noncomputable def DG (X : Cx) (e : Expr) (tg : Tg) : Prop := PG X e (tDG tg)
theorem pg_imp {e : Expr} {t t' : TG} (h : PG X e t) (i : ∀ v σ H Q, t' v σ H Q → t v σ H Q) : PG X e t' := fun pins s σ H v u Q I r q => h pins s σ H v u Q I r (i v σ H Q q)
theorem dg_name {i : Nat} {x : Str} {pos : Pos} (hN : X.N.Nodup) (hi : X.N[i]? = some x) (hx : Loc X.env.scope x) (hf : X.fn x = true ∨ X.env.scope.names.lookup x = some .local) : DG X (.Name x pos) (.one i) := by
  refine pg_imp (pg_name hN hi hx hf) ?_
  rintro v σ H Q ⟨G, d, gh, r, _, q⟩
  exact q _ ⟨v, r, rfl⟩
noncomputable def DGs (X : Cx) (es : List Expr) (l : List Nat) : Prop := PGs X es (fun vs σ H Q => vs.length = l.length ∧ Q (setAllV l vs σ) H)
theorem pgs_imp {e : List Expr} {t t' : TGs} (h : PGs X e t) (i : ∀ v σ H Q, t' v σ H Q → t v σ H Q) : PGs X e t' := fun pins s σ H v u Q I r q => h pins s σ H v u Q I r (i v σ H Q q)
theorem dgs_nil : DGs X [] [] := by
  refine pgs_imp pgs_nil ?_
  rintro vs σ H Q ⟨h, q⟩
  cases vs with
  | nil => exact ⟨rfl, q⟩
  | cons _ _ => cases h
theorem dgs_cons {i : Nat} {x : Str} {pos : Pos} {es : List Expr} {l : List Nat} (hN : X.N.Nodup) (hi : X.N[i]? = some x) (hx : Loc X.env.scope x) (hf : X.fn x = true ∨ X.env.scope.names.lookup x = some .local) (h : DGs X es l)
    (hs : (assignEach (.Name x pos :: es) X.env).map (·.2) = assign (.Name x pos) X.env :: (assignEach es X.env).map (·.2)) : DGs X (.Name x pos :: es) (i :: l) := by
  refine pgs_imp (pgs_cons (pg_name hN hi hx hf) h hs) ?_
  rintro vs σ H Q ⟨e, q⟩
  cases vs with
  | nil => cases e
  | cons v vs => exact ⟨v, vs, rfl, by simpa using e, q⟩
theorem dg_tup {es : List Expr} {k : Nat} {pos : Pos} {l : List Nat} (hc : X.calm = true) (h : DGs X es l) (hn : (assignEach es X.env).length = l.length) (hst : (assignEach es X.env).findIdx? (·.1) = none) : DG X (.Tuple es k pos) (.many l) := by
  refine pg_imp (pg_tup (n := l.length) hc h hn hst) ?_
  rintro v σ H Q ⟨G, d, gh, r, hl, q⟩
  obtain ⟨ds, rfl, hk⟩ := hl l rfl
  obtain ⟨a, xs, rfl, g, rs⟩ := r
  refine ⟨a, xs, rfl, .inl (.inl (gh _ _ g)), by rw [rs.length, hk], by rw [rs.length, hk], q _ ⟨ds, xs, rfl, rs, by rw [rs.length, hk], rfl⟩⟩
theorem setAll_len : ∀ (l : List Nat) (ds : List D) (ρ ρ' : En), TW.setAll l ds ρ = some ρ' → ds.length = l.length
  | [], [], _, _, _ => rfl
  | i :: l, d :: ds, ρ, ρ', e => by
    have := setAll_len l ds _ ρ' e
    simp [this]
  | [], _ :: _, _, _, e => by cases e
  | _ :: _, [], _, _, e => by cases e
theorem bindT_len {tg : Tg} {d : D} {ρ ρ' : En} (e : bindT tg d ρ = some ρ') : ∀ l, tg = .many l → ∃ ds, d = .tup ds ∧ ds.length = l.length := by
  rintro l rfl
  cases d <;> first | cases e | skip
  exact ⟨_, rfl, setAll_len _ _ _ _ e⟩
theorem SR.capt {G H : Hp} {σ : L2.St} {ρ : En} (s : SR0 G H σ ρ) (cap : List (Option Nat)) (nd : ∀ (i j k : Nat), cap[i]? = some (some k) → cap[j]? = some (some k) → i = j) : SR0 G H (capS σ cap) (TW.capt ρ cap) := by
  have get : ∀ (i : Nat) (x : Sl), (TW.capt ρ cap)[i]? = some (some x) → ∃ k, cap[i]? = some (some k) ∧ ρ[k]? = some (some x) ∧ (capS σ cap)[i]? = some ((σ[k]?).join) := fun i x e => by
    unfold TW.capt at e
    rw [List.getElem?_map] at e
    obtain ⟨o, eo, e⟩ := mpd e
    cases o with
    | none => cases e
    | some k =>
      refine ⟨k, eo, ?_, ?_⟩
      · have e' : (ρ[k]?).join = some x := e
        cases z : ρ[k]? with
        | none => rw [z] at e'; cases e'
        | some y => rw [z] at e'; exact congrArg some e'
      · unfold capS
        rw [List.getElem?_map, eo]
        rfl
  refine ⟨by unfold capS TW.capt; simp, fun i d e => ?_, fun i x e hx => ?_, fun i j x y l h1 hx h2 hy e1 e2 => ?_⟩
  · obtain ⟨k, _, ek, es⟩ := get i _ e
    obtain ⟨v, e1, r⟩ := s.val k d ek
    exact ⟨v, by rw [es, e1]; rfl, r⟩
  · obtain ⟨k, _, ek, es⟩ := get i _ e
    obtain ⟨l, xs, e1, r⟩ := s.owns k x ek hx
    exact ⟨l, xs, by rw [es, e1]; rfl, r⟩
  · obtain ⟨k1, c1, k1e, s1⟩ := get i _ h1
    obtain ⟨k2, c2, k2e, s2⟩ := get j _ h2
    rw [s1] at e1
    rw [s2] at e2
    have j1 : σ[k1]? = some (some (.ref l)) := by
      have e' : (σ[k1]?).join = some (.ref l) := Option.some.inj e1
      cases z : σ[k1]? with
      | none => rw [z] at e'; cases e'
      | some y => rw [z] at e'; exact congrArg some e'
    have j2 : σ[k2]? = some (some (.ref l)) := by
      have e' : (σ[k2]?).join = some (.ref l) := Option.some.inj e2
      cases z : σ[k2]? with
      | none => rw [z] at e'; cases e'
      | some y => rw [z] at e'; exact congrArg some e'
    have := s.dst k1 k2 x y l k1e hx k2e hy j1 j2
    subst this
    exact nd i j k1 c1 c2
noncomputable def DTs (X : Cx) (ifs : List Expr) (g : En → Option Bool) : Prop := ∀ ρ b, g ρ = some b → PTs X ifs (tDT ρ b)
theorem pts_imp {e : List Expr} {t t' : TT} (h : PTs X e t) (i : ∀ σ H Q, t' σ H Q → t σ H Q) : PTs X e t' := fun pins s σ H Q I q => h pins s σ H Q I (i σ H Q q)
theorem dts_nil : DTs X [] (fun _ => some true) := fun ρ b e => by
  cases e
  refine pts_imp pts_nil ?_
  rintro σ H Q ⟨G, s, k⟩
  exact k H G (.refl s.gh)
theorem dts_one {c : Expr} {g : En → Option Bool} (h : DT X c g) : DTs X [c] g := fun ρ b e => pts_one (h ρ b e)
noncomputable def xT (g : En → Option Bool) : TT := fun σ H Q => ∃ ρ b, g ρ = some b ∧ tDT ρ b σ H Q
noncomputable def xE (g : En → Option (Kd × D)) : TE := fun σ H Q => ∃ ρ x, g ρ = some x ∧ tD ρ x σ H Q
theorem DTs.x {ifs : List Expr} {g : En → Option Bool} (h : DTs X ifs g) : PTs X ifs (xT g) := fun pins s σ H Q I ⟨ρ, b, e, q⟩ => h ρ b e pins s σ H Q I q
theorem DE.x {e : Expr} {g : En → Option (Kd × D)} (h : DE X e g) : PE X e (xE g) := fun pins s σ H Q I ⟨ρ, b, e, q⟩ => h ρ b e pins s σ H Q I q
theorem tD_comp {gi : Kd × List D} {gc : En → Option Bool} {ge : En → Option (Kd × D)} {cap : List (Option Nat)} {tg : Tg} {ρ : En} {l : List D} (hl : gi.2.length ≤ lim) (hft : freeT cap tg = true)
    (nd : ∀ (i j k : Nat), cap[i]? = some (some k) → cap[j]? = some (some k) → i = j)
    (hgo : compGo (fun d => (bindT tg d (TW.capt ρ cap)).bind fun q => (gc q).bind fun k => if k then ((ge q).bind TW.frz).map some else some none) gi.2 = some l) :
    ∀ σ H Q, tD ρ (.fr, .lst l) σ H Q → tComp (tDI ρ gi) (tDG tg) (xT gc) (xE ge) cap σ H Q := by
  rintro σ H Q ⟨G, s, c⟩
  refine ⟨G, s, fun J H1 G1 x1 it1 _ A hA => ?_⟩
  refine ⟨fun i m σ' H' => m = gi.2.length - i ∧ i ≤ gi.2.length ∧ ∃ G' ys out rest, Ext G1 H1 G' H' ∧ H' A = some (.lst ys) ∧ G' A = none ∧ Rps G' out ys ∧ out.length ≤ i ∧ l = out ++ rest ∧
      compGo (fun d => (bindT tg d (TW.capt ρ cap)).bind fun q => (gc q).bind fun k => if k then ((ge q).bind TW.frz).map some else some none) (gi.2.drop i) = some rest ∧ SR0 G' H1 σ' (TW.capt ρ cap), ?_, ?_⟩
  · refine ⟨gi.2.length, rfl, Nat.zero_le _, G1, [], [], l, Ext.grown x1.gh hA _, upd_same, x1.gh.free hA, rfl, Nat.le_refl _, rfl, hgo, ?_⟩
    exact SR.capt (s.ext x1).toSR0 cap nd
  · rintro i m σ' H' ⟨rfl, hi, G', ys, out, rest, xx, hD, hG, rs, ho, el, go, sr⟩
    have P : Same G1 G' ∧ Same G' H' ∧ Same H1 H' := ⟨xx.gg, xx.gh, xx.hh⟩
    by_cases hlt : i < gi.2.length
    · right
      have ed : gi.2[i]? = some gi.2[i] := by simp [hlt]
      obtain ⟨jgo, jy⟩ := (it1 i G' H' P).1 _ ed
      refine ⟨jgo, fun x H2 hy => ?_⟩
      obtain ⟨G2, x2, rx⟩ := jy x H2 hy
      rw [List.drop_eq_getElem_cons hlt] at go
      obtain ⟨o, eo, go⟩ := bnd go
      obtain ⟨rest', er, go⟩ := mpd go
      obtain ⟨q1, eb, eo⟩ := bnd eo
      obtain ⟨k, ek, eo⟩ := bnd eo
      refine ⟨G2, _, x2.gh, rx, bindT_len eb, fun σ2 bd => ?_⟩
      have xx2 := xx.trans x2
      have sr2 : SR0 G2 H1 σ2 q1 := SR0.bound (sr.mono x2.gg (Same.refl _) fun b o e => (x2.nw b o e).elim .inl fun z => .inr (xx.hh.free z)) bd eb
      have srH : SR G2 H2 σ2 q1 := ⟨sr2.mono (Same.refl _) xx2.hh fun b o e => .inl e, x2.gh, s.tb.mono (x1.gg.trans (xx.gg.trans x2.gg))⟩
      have noA : ∀ {G3 H3 : Hp}, Ext G' H' G3 H3 → G3 A = none := fun {G3 H3} x3 => by
        cases z : G3 A with
        | none => rfl
        | some o =>
          rcases x3.nw A o z with y | y
          · rw [hG] at y; cases y
          · rw [hD] at y; cases y
      refine ⟨q1, k, ek, G2, srH, fun H3 G3 x3 => ?_⟩
      have sr3 : SR0 G3 H1 σ2 (TW.capt ρ cap) := SR0.unbound (sr2.mono x3.gg (Same.refl _) fun b o e => (x3.nw b o e).elim .inl fun z => .inr ((xx2.hh).free z)) eb hft
      cases k with
      | false =>
        rw [if_neg Bool.false_ne_true] at eo
        cases eo
        subst go
        refine iteF ⟨_, ?_, rfl, hlt, G3, ys, out, rest', xx2.trans x3, (x2.trans x3).hh _ _ hD, noA (x2.trans x3), Rps.mono (x2.trans x3).gg _ _ rs, by omega, el, er, sr3⟩
        omega
      | true =>
        rw [if_pos rfl] at eo
        obtain ⟨d', ed', rfl⟩ := mpd eo
        obtain ⟨y, ey, ef⟩ := bnd ed'
        subst go
        refine iteT ⟨q1, y, ey, G3, srH.ext x3, fun v H4 G4 x4 r4 => ?_⟩
        obtain ⟨G5, x5, s5, rp⟩ := r4.frz x4 ef
        have x25 := (x2.trans x3).trans x5
        have hD4 := x25.hh _ _ hD
        have hG5 := noA x25
        refine ⟨ys, hD4, ?_, _, ?_, rfl, hlt, G5, ys ++ [v], out ++ [d'], rest', ?_, upd_same, hG5, Rps.append (Rps.mono x25.gg _ _ rs) (Rps.cons rp Rps.nil), ?_, ?_, er, ?_⟩
        · rw [rs.length]
          exact Nat.lt_of_lt_of_le (Nat.lt_of_le_of_lt ho (Nat.lt_of_lt_of_le hlt hl)) lim_line
        · omega
        · have xx5 := xx.trans x25
          refine ⟨xx5.gg, fun b o e => ?_, fun b o e => ?_, xx5.nw⟩
          · rw [upd_ne (ne_of_none e hA)]; exact xx5.hh _ _ e
          · rw [upd_ne (ne_of_none e hG5)]; exact xx5.gh _ _ e
        · simp; omega
        · rw [el]; simp
        · exact sr3.mono (x5.gg) (Same.refl _) fun b o e => (x5.nw b o e).elim .inl fun z => .inr ((xx2.trans x3).hh.free z)
    · left
      have e : i = gi.2.length := by omega
      subst e
      refine ⟨(it1 _ G' H' P).2 (Nat.le_refl _), c _ H' G' (x1.trans xx) ⟨A, ys, l, rfl, rfl, hD, hG, x1.hh.free hA, ?_⟩⟩
      rw [List.drop_length] at go
      cases go
      rw [el, List.append_nil]
      exact rs
theorem de_comp {scope : Scope} {N' : List Str} {cap : List (Option Nat)} {elt target iter : Expr} {ifs : List Expr} {pos : Pos} {tg : Tg} {gi : En → Option (Kd × List D)} {gc : En → Option Bool} {ge : En → Option (Kd × D)}
    (B : BlkOk X scope N' cap) (nd : ∀ (i j k : Nat), cap[i]? = some (some k) → cap[j]? = some (some k) → i = j) (hcalm : X.calm = true) (hi : DI X target iter gi)
    (hg : ∀ s H fp, DG (blkX X scope N' s H fp) target tg) (hc : ∀ s H fp, DTs (blkX X scope N' s H fp) ifs gc) (he : ∀ s H fp, DE (blkX X scope N' s H fp) elt ge)
    (hs : ∀ x, foldedSetIterable iter X.env x = pure x) : DE X (.ListComp elt [⟨target, iter, ifs, 0⟩] scope pos) (fun ρ => (gi ρ).bind fun ds => if ds.2.length ≤ lim ∧ freeT cap tg = true then
      (compGo (fun d => (bindT tg d (TW.capt ρ cap)).bind fun q => (gc q).bind fun k => if k then ((ge q).bind TW.frz).map some else some none) ds.2).map fun l => (.fr, .lst l)
    else none) := by
  intro ρ x q
  obtain ⟨ds, eds, q⟩ := bnd q
  split at q
  case isFalse => cases q
  rename_i hh
  obtain ⟨l, el, rfl⟩ := mpd q
  exact pe_imp (pe_comp B hcalm (hi ρ ds eds) hg (fun s H fp => (hc s H fp).x) (fun s H fp => (he s H fp).x) hs) (tD_comp hh.1 hh.2 nd el)
end
end TW
end
section
set_option Elab.async false
set_option linter.all false
set_option maxRecDepth 100000
set_option maxHeartbeats 4000000
namespace TW
open PySem PySem.Spec PyProof.Rows L2
section
variable {X : Cx}
theorem Rd.get {pins : List (Addr × Obj)} {σ : L2.St} {H : Hp} {s : Shared} {l : Addr} {xs : List V} (I : Inv X pins σ H s) (h : Rd H l (.lst xs)) :
    xs.length ≤ sizeLine ∧ ∃ (its : List Value) (n : Nat), Vals xs its ∧ xs.length = its.length ∧ s.heap.get? l = some { cls := .type "list", data := .seq its.toArray n } := by
  obtain ⟨z, its, n, r, e⟩ := h.ok I.hok
  exact ⟨z, its, n, r, r.length, e⟩
theorem sqT {K : PySem.W.Frag} {G H : Hp} (gh : Same G H) {a : Addr} {xs : List V} (h : G a = some (.tup xs)) : SqT K H a xs := .inl (.inl (gh _ _ h))
theorem op_catL : OpR X (binaryOp .Add) (fun x y H Q => ∃ l b xs zs, x = .ref l ∧ y = .ref b ∧ Rd H l (.lst xs) ∧ Rd H b (.lst zs) ∧ xs.length + zs.length ≤ sizeLine ∧ ∀ p, H p = none → Q (.ref p) (upd H p (.lst (xs ++ zs)))) := by
  intro pins s σ H x y v u Q I rx ry h
  obtain ⟨l, b, xs, zs, rfl, rfl, hH, hB, hz, q⟩ := h
  cases rx
  cases ry
  obtain ⟨z, its, n, r, hl, e⟩ := Rd.get I hH
  obtain ⟨z2, its2, n2, r2, hl2, e2⟩ := Rd.get I hB
  refine PySem.P.add_list e e2 ?_ (by rw [List.size_toArray, List.size_toArray]; omega)
  have ea : its.toArray ++ its2.toArray = (its ++ its2).toArray := by simp
  rw [ea]
  exact ⟨.ref _, _, I.lnew (t' := s.toks) (r.append r2) (by rw [List.length_append]; omega), rfl, q _ I.fresh⟩
theorem op_catT0 : OpR X (binaryOp .Add) (fun x y H Q => ∃ a b ys, x = .ref a ∧ y = .ref b ∧ SqT X.K H a [] ∧ SqT X.K H b ys ∧ Q (.ref b) H) := by
  intro pins s σ H x y v u Q I rx ry h
  obtain ⟨a, b, ys, rfl, rfl, ha, hb, q⟩ := h
  cases rx
  cases ry
  obtain ⟨its, r1, p1, _⟩ := I.tuple ha
  obtain ⟨its2, r2, p2, _⟩ := I.tuple hb
  cases r1
  obtain ⟨⟨cls, dd, data, sl⟩, ho, hc, n, hd⟩ := id p1
  obtain ⟨⟨cls2, dd2, data2, sl2⟩, ho2, hc2, n2, hd2⟩ := id p2
  simp only at hc hd hc2 hd2
  subst hc hd hc2 hd2
  exact concat_meets ⟨_, ho, rfl⟩ ⟨_, ho2, rfl⟩ noFill_tuple_add seq_tuple_add PySem.F.slot_tuple_add PySem.F.entry_tuple_add (PySem.F.args_tuple_add_2 _ _)
    (tuple_addW0 a b _ its2.toArray n n2 dd dd2 sl sl2 rfl) ⟨ho, ho2, ⟨.ref b, H, I, rfl, q⟩⟩
theorem no_some {α : Type} {z : α} {P : Prop} (e : (none : Option α) = some z) : P := nomatch e
theorem if_some {α : Type} {c : Prop} [Decidable c] {x z : α} (e : (if c then some x else none) = some z) : c ∧ x = z := by
  split at e
  · exact ⟨‹c›, Option.some.inj e⟩
  · cases e
theorem opD_ok (op : Operator) (hnm : op ≠ .Mult) (x y : D) (z : Kd × D) (e : opD op x y = some z) : OpR X (binaryOp op) (rD x y z) := by
  cases op <;> first | exact absurd rfl hnm | exact no_some e | skip
  case Add =>
    cases x <;> first | exact no_some e | skip
    all_goals (cases y <;> first | exact no_some e | skip)
    case int.int a b =>
      cases e
      refine TW.OpR.imp op_add ?_
      rintro v u H Q ⟨G, gh, rv, ru, k⟩
      exact ⟨a, b, rv, ru, k _ H G (.refl gh) rfl⟩
    case str.str a b =>
      obtain ⟨hl, rfl⟩ := if_some e
      refine TW.OpR.imp op_add_str ?_
      rintro v u H Q ⟨G, gh, rv, ru, k⟩
      exact ⟨a, b, rv, ru, Nat.le_trans hl lim_line, k _ H G (.refl gh) rfl⟩
    case tup.tup a b =>
      obtain ⟨hl, rfl⟩ := if_some e
      refine TW.OpR.imp (L2.OpR.or op_catT op_catT0) ?_
      rintro v u H Q ⟨G, gh, ⟨p, xs, rfl, hp, rx⟩, ⟨q, ys, rfl, hq, ry⟩, k⟩
      cases xs with
      | nil =>
        have : a = [] := by have := rx.length; cases a <;> simp_all
        subst this
        exact .inr ⟨p, q, ys, rfl, rfl, sqT gh hp, sqT gh hq, k _ H G (.refl gh) ⟨q, ys, rfl, hq, ry⟩⟩
      | cons x0 xr =>
        refine .inl ⟨p, q, x0 :: xr, ys, rfl, rfl, sqT gh hp, sqT gh hq, by simp, by rw [rx.length, ry.length]; exact Nat.le_trans hl lim_line, fun h0 => ?_, fun _ r hr => ?_⟩
        · have : b = [] := by have := ry.length; subst h0; cases b <;> simp_all
          subst this
          rw [List.append_nil] at k
          exact k _ H G (.refl gh) ⟨p, _, rfl, hp, rx⟩
        · have x2 := Ext.laid gh hr (.tup (x0 :: xr ++ ys))
          exact k _ _ _ x2 ⟨r, _, rfl, upd_same, Rps.mono x2.gg _ _ (rx.append ry)⟩
    case lst.lst a b =>
      obtain ⟨hl, rfl⟩ := if_some e
      refine TW.OpR.imp op_catL ?_
      rintro v u H Q ⟨G, gh, ⟨p, xs, rfl, hp, rx⟩, ⟨q, ys, rfl, hq, ry⟩, k⟩
      refine ⟨p, q, xs, ys, rfl, rfl, hp, hq, by rw [rx.length, ry.length]; exact Nat.le_trans hl lim_line, fun r hr => ?_⟩
      obtain ⟨x2, rr⟩ := fresh_ok gh hr (rx.append ry)
      exact k _ _ _ x2 rr
  case Sub =>
    cases x <;> first | exact no_some e | skip
    all_goals (cases y <;> first | exact no_some e | skip)
    case int.int a b =>
      cases e
      refine TW.OpR.imp op_sub ?_
      rintro v u H Q ⟨G, gh, rv, ru, k⟩
      exact ⟨a, b, rv, ru, k _ H G (.refl gh) rfl⟩
  case FloorDiv =>
    cases x <;> first | exact no_some e | skip
    all_goals (cases y <;> first | exact no_some e | skip)
    case int.int a b =>
      obtain ⟨hl, rfl⟩ := if_some e
      refine TW.OpR.imp op_fdiv ?_
      rintro v u H Q ⟨G, gh, rv, ru, k⟩
      exact ⟨a, b, rv, ru, ⟨hl.1, by omega⟩, k _ H G (.refl gh) rfl⟩
  case Mod =>
    cases x <;> first | exact no_some e | skip
    all_goals (cases y <;> first | exact no_some e | skip)
    case int.int a b =>
      obtain ⟨hl, rfl⟩ := if_some e
      refine TW.OpR.imp op_mod ?_
      rintro v u H Q ⟨G, gh, rv, ru, k⟩
      exact ⟨a, b, rv, ru, hl, k _ H G (.refl gh) rfl⟩
  case Pow =>
    cases x <;> first | exact no_some e | skip
    all_goals (cases y <;> first | exact no_some e | skip)
    case int.int a b =>
      obtain ⟨hl, rfl⟩ := if_some e
      refine TW.OpR.imp op_pow ?_
      rintro v u H Q ⟨G, gh, rv, ru, k⟩
      exact ⟨a, b, rv, ru, ⟨hl.1, by omega, by omega⟩, k _ H G (.refl gh) rfl⟩
mutual
noncomputable def toPy : D → PyData
  | .non => .none
  | .bl b => .bool b
  | .int i => .int i
  | .str x => .str x
  | .tup ds => .tuple (toPys ds)
  | .lst ds => .list (toPys ds)
  | .scr _ _ _ => .none
  | .dct _ _ => .none
noncomputable def toPys : List D → List PyData
  | [] => []
  | d :: ds => toPy d :: toPys ds
end
mutual
theorem eqv_of : ∀ a b : D, PyData.eqv (toPy a) (toPy b) = eqD a b
  | .non, b => by cases b <;> rfl
  | .bl _, b => by cases b <;> rfl
  | .int _, b => by cases b <;> rfl
  | .str x, b => by cases b <;> first | rfl | skip
  | .tup ds, b => by
    cases b <;> first | rfl | exact eqvs_of _ _
  | .lst ds, b => by
    cases b <;> first | rfl | exact eqvs_of _ _
  | .scr _ _ _, b => by cases b <;> rfl
  | .dct _ _, b => by cases b <;> rfl
theorem eqvs_of : ∀ a b : List D, PyData.eqvAll (toPys a) (toPys b) = eqDs a b
  | [], [] => rfl
  | [], _ :: _ => rfl
  | _ :: _, [] => rfl
  | a :: r, b :: q => by
    show (PyData.eqv (toPy a) (toPy b) && PyData.eqvAll (toPys r) (toPys q)) = (eqD a b && eqDs r q)
    rw [eqv_of a b, eqvs_of r q]
end
mutual
theorem lay_of : ∀ (n : Nat) (d : D), okD n d = true → (toPy d).canLay0 = true ∧ (toPy d).depth ≤ n
  | n, .non, _ => ⟨rfl, Nat.zero_le _⟩
  | n, .bl _, _ => ⟨rfl, Nat.zero_le _⟩
  | n, .int _, _ => ⟨rfl, Nat.zero_le _⟩
  | n, .str x, h => ⟨by simpa [okD, toPy, PyData.canLay0, PyData.strOk] using h, Nat.zero_le _⟩
  | n, .scr _ _ _, h => by simp [okD] at h
  | n, .dct _ _, h => by simp [okD] at h
  | 0, .tup _, h => by simp [okD] at h
  | 0, .lst _, h => by simp [okD] at h
  | n + 1, .tup ds, h => by
    obtain ⟨h1, h2⟩ := lays_of n ds (by simpa [okD] using h)
    exact ⟨by simpa [toPy, PyData.canLay0] using h1, by simpa [toPy, PyData.depth] using h2⟩
  | n + 1, .lst ds, h => by
    obtain ⟨h1, h2⟩ := lays_of n ds (by simpa [okD] using h)
    exact ⟨by simpa [toPy, PyData.canLay0] using h1, by simpa [toPy, PyData.depth] using h2⟩
theorem lays_of : ∀ (n : Nat) (ds : List D), okDs n ds = true → PyData.canLayAll0 (toPys ds) = true ∧ PyData.depthAll (toPys ds) ≤ n
  | n, [], _ => ⟨rfl, Nat.zero_le _⟩
  | n, d :: ds, h => by
    have h' : okD n d = true ∧ okDs n ds = true := by simpa [okDs] using h
    obtain ⟨a1, a2⟩ := lay_of n d h'.1
    obtain ⟨b1, b2⟩ := lays_of n ds h'.2
    exact ⟨by simp [toPys, PyData.canLayAll0, a1, b1], by simp only [toPys, PyData.depthAll]; omega⟩
end
mutual
theorem reads_of {pins : List (Addr × Obj)} {σ : L2.St} {G H : Hp} {s : Shared} (I : Inv X pins σ H s) (gh : Same G H) : ∀ (n : Nat) (d : D) (v : V) (u : Value), okD n d = true → Rp G d v → RelV v u → ∃ as, Reads s.heap u (toPy d) as
  | _, .non, v, u, _, r, q => by cases (show v = _ from r); cases q; exact ⟨_, .none⟩
  | _, .bl _, v, u, _, r, q => by cases (show v = _ from r); cases q; exact ⟨_, .bool _⟩
  | _, .int _, v, u, _, r, q => by cases (show v = _ from r); obtain ⟨t, rfl⟩ := q; exact ⟨_, .int _ _⟩
  | _, .str _, v, u, _, r, q => by cases (show v = _ from r); obtain ⟨t, rfl⟩ := q; exact ⟨_, .str _ _⟩
  | _, .scr _ _ _, v, u, h, _, _ => by simp [okD] at h
  | _, .dct _ _, v, u, h, _, _ => by simp [okD] at h
  | 0, .tup _, _, _, h, _, _ => by simp [okD] at h
  | 0, .lst _, _, _, h, _, _ => by simp [okD] at h
  | n + 1, .tup ds, v, u, h, r, q => by
    obtain ⟨a, xs, rfl, g, rs⟩ := r
    cases q
    obtain ⟨z, its, rv, o, ho, hc, m, hd⟩ := I.hok a _ (gh _ _ g)
    obtain ⟨as, ra⟩ := reads_all I gh n ds xs its (by simpa [okD] using h) rs rv
    exact ⟨as, .tuple ho hc hd (by simpa using ra)⟩
  | n + 1, .lst ds, v, u, h, r, q => by
    obtain ⟨a, xs, rfl, g, rs⟩ := r
    cases q
    obtain ⟨z, its, m, rv, _, ho⟩ := Rd.get I (Rd.same gh g)
    obtain ⟨as, ra⟩ := reads_all I gh n ds xs its (by simpa [okD] using h) rs rv
    exact ⟨_, .list ho rfl rfl (by simpa using ra)⟩
theorem reads_all {pins : List (Addr × Obj)} {σ : L2.St} {G H : Hp} {s : Shared} (I : Inv X pins σ H s) (gh : Same G H) : ∀ (n : Nat) (ds : List D) (xs : List V) (us : List Value), okDs n ds = true → Rps G ds xs → Vals xs us → ∃ as, ReadsAll s.heap us (toPys ds) as
  | _, [], _, us, _, r, q => by cases (show _ = _ from r); cases q; exact ⟨_, .nil⟩
  | n, d :: ds, _, us, h, r, q => by
    have h' : okD n d = true ∧ okDs n ds = true := by simpa [okDs] using h
    obtain ⟨x, xr, rfl, p, t⟩ := r
    cases q with
    | cons q1 q2 =>
      obtain ⟨a1, r1⟩ := reads_of I gh n d x _ h'.1 p q1
      obtain ⟨a2, r2⟩ := reads_all I gh n ds xr _ h'.2 t q2
      exact ⟨_, .cons r1 r2⟩
end
theorem reads_rb {pins : List (Addr × Obj)} {σ : L2.St} {G H : Hp} {s : Shared} (I : Inv X pins σ H s) (gh : Same G H) {n : Nat} {d : D} {v : V} {u : Value} (h : okD n d = true) (r : Rb G H d v) (q : RelV v u) : ∃ as, Reads s.heap u (toPy d) as := by
  cases d with
  | lst ds =>
    obtain ⟨a, xs, rfl, g, rs⟩ := r
    cases q
    obtain ⟨z, its, m, rv, _, ho⟩ := Rd.get I g
    cases n with
    | zero => simp [okD] at h
    | succ n =>
      obtain ⟨as, ra⟩ := reads_all I gh n ds xs its (by simpa [okD] using h) rs rv
      exact ⟨_, .list ho rfl rfl (by simpa using ra)⟩
  | non => exact reads_of I gh _ _ _ _ h r q
  | bl _ => exact reads_of I gh _ _ _ _ h r q
  | int _ => exact reads_of I gh _ _ _ _ h r q
  | str _ => exact reads_of I gh _ _ _ _ h r q
  | tup _ => exact reads_of I gh _ _ _ _ h r q
  | scr _ _ _ => exact reads_of I gh _ _ _ _ h r q
  | dct _ _ => simp [okD] at h
theorem shaped_of {d : D} (h : okD 40 d = true) : SeqAt.shaped (toPy d) = true := by
  obtain ⟨h1, h2⟩ := lay_of _ _ h
  unfold SeqAt.shaped
  rw [h1, decide_eq_true (by omega)]; rfl
theorem eqO_cases {a b : D} {k : Bool} (e : eqO a b = some k) : (∃ x y, a = .str x ∧ b = .str y ∧ k = decide (x = y)) ∨ (okD 40 a = true ∧ okD 40 b = true ∧ k = eqD a b) := by
  have gen : (if okD 40 a && okD 40 b then some (eqD a b) else none) = some k → (okD 40 a = true ∧ okD 40 b = true ∧ k = eqD a b) := fun e => by
    split at e
    · rename_i h
      rw [Bool.and_eq_true] at h
      exact ⟨h.1, h.2, (Option.some.inj e).symm⟩
    · cases e
  cases a <;> cases b <;> first | exact .inr (gen e) | skip
  cases e
  exact .inl ⟨_, _, rfl, rfl, rfl⟩
theorem eq_ok (hu : X.A.units + 64 < cLine) (x y : D) (k : Bool) (e : eqO x y = some k) : OpR X (compareOp .Eq) (rD x y (.fz, .bl k)) := by
  rcases eqO_cases e with ⟨a, b, rfl, rfl, rfl⟩ | ⟨ha, hb, rfl⟩
  · refine TW.OpR.imp op_eq ?_
    rintro v u H Q ⟨G, gh, rv, ru, q⟩
    cases (show v = _ from rv)
    cases (show u = _ from ru)
    refine ⟨rfl, ?_⟩
    have : decide (V.str a = V.str b) = decide (a = b) := by by_cases h : a = b <;> simp [h]
    rw [this]
    exact q _ H G (.refl gh) rfl
  · intro pins s σ H v u vv uu Q I r1 r2 h
    obtain ⟨G, gh, rv, ru, q⟩ := h
    obtain ⟨as, ra⟩ := reads_rb I gh ha rv r1
    obtain ⟨bs, rb⟩ := reads_rb I gh hb ru r2
    refine eq_dataH ra rb (shaped_of ha) (shaped_of hb) hu ?_
    rw [eqv_of]
    exact ⟨.bl _, H, I, rfl, q _ H G (.refl gh) rfl⟩
theorem ne_ok (hu : X.A.units + 64 < cLine) (x y : D) (k : Bool) (e : eqO x y = some k) : OpR X (compareOp .NotEq) (rD x y (.fz, .bl (!k))) := by
  rcases eqO_cases e with ⟨a, b, rfl, rfl, rfl⟩ | ⟨ha, hb, rfl⟩
  · refine TW.OpR.imp op_ne ?_
    rintro v u H Q ⟨G, gh, rv, ru, q⟩
    cases (show v = _ from rv)
    cases (show u = _ from ru)
    refine ⟨rfl, ?_⟩
    have : decide (V.str a = V.str b) = decide (a = b) := by by_cases h : a = b <;> simp [h]
    rw [this]
    exact q _ H G (.refl gh) rfl
  · intro pins s σ H v u vv uu Q I r1 r2 h
    obtain ⟨G, gh, rv, ru, q⟩ := h
    obtain ⟨as, ra⟩ := reads_rb I gh ha rv r1
    obtain ⟨bs, rb⟩ := reads_rb I gh hb ru r2
    refine ne_dataH ra rb (shaped_of ha) (shaped_of hb) hu ?_
    rw [eqv_of]
    exact ⟨.bl _, H, I, rfl, q _ H G (.refl gh) rfl⟩
theorem any_of (d : D) : ∀ ds : List D, ((toPys ds).any fun y => PyData.eqv y (toPy d)) = inD d ds
  | [] => rfl
  | e :: ds => by
    show (PyData.eqv (toPy e) (toPy d) || (toPys ds).any fun y => PyData.eqv y (toPy d)) = (eqD e d || inD d ds)
    rw [eqv_of, any_of d ds]
theorem in_ok (hu : X.A.units + 64 < cLine) (x y : D) (ds : List D) (ey : seqOf y = some ds) (h1 : okD 40 x = true) (h2 : okDs 40 ds = true) :
    OpR X (compareOp .In) (rD x y (.fz, .bl (inD x ds))) ∧ OpR X (compareOp .NotIn) (rD x y (.fz, .bl (!inD x ds))) := by
  have hy : okD 41 y = true := by
    cases y <;> first | (cases ey; done) | (cases ey; simpa [okD] using h2)
  obtain ⟨c1, d1⟩ := lay_of _ _ h1
  obtain ⟨c2, d2⟩ := lays_of _ _ h2
  have room : X.A.units + 1 + min (PyData.depthAll (toPys ds)) (toPy x).depth < cLine := by omega
  constructor
  · intro pins s σ H v u vv uu Q I r1 r2 h
    obtain ⟨G, gh, rv, ru, q⟩ := h
    obtain ⟨as, ra⟩ := reads_rb I gh h1 rv r1
    obtain ⟨bs, rb⟩ := reads_rb I gh hy ru r2
    have fin : EP X pins σ Q (.bool ((toPys ds).any fun y => PyData.eqv y (toPy x))) s := by
      rw [any_of]
      exact ⟨.bl _, H, I, rfl, q _ H G (.refl gh) rfl⟩
    cases y <;> first | (cases ey; done) | skip
    · cases ey
      exact SeqAt.in_tuple_reads rb ra c2 c1 room fin
    · cases ey
      exact SeqAt.in_list_reads rb ra c2 c1 room fin
  · intro pins s σ H v u vv uu Q I r1 r2 h
    obtain ⟨G, gh, rv, ru, q⟩ := h
    obtain ⟨as, ra⟩ := reads_rb I gh h1 rv r1
    obtain ⟨bs, rb⟩ := reads_rb I gh hy ru r2
    have fin : EP X pins σ Q (.bool (!(toPys ds).any fun y => PyData.eqv y (toPy x))) s := by
      rw [any_of]
      exact ⟨.bl _, H, I, rfl, q _ H G (.refl gh) rfl⟩
    cases y <;> first | (cases ey; done) | skip
    · cases ey
      exact SeqAt.notIn_tuple_reads rb ra c2 c1 room fin
    · cases ey
      exact SeqAt.notIn_list_reads rb ra c2 c1 room fin
end
end TW
end
section
set_option Elab.async false
set_option linter.all false
set_option maxRecDepth 100000
set_option maxHeartbeats 4000000
namespace TW
open PySem PySem.Spec PyProof.Rows L2
theorem lexLt_eq : ∀ a b : List Int, HT.lexLt a b = lexLt a b
  | [], [] => rfl
  | [], _ :: _ => rfl
  | _ :: _, [] => rfl
  | x :: xs, y :: ys => by
    rw [HT.lexLt_cons]
    show _ = if x = y then lexLt xs ys else decide (x < y)
    rw [lexLt_eq xs ys]
section
open PySem.SeqAt
open PySem.AutoSeq1 (wpAny_loadPart')
open PySem.MeetsSeq PySem.MeetsSeq2 PySem.MeetsSeq3
theorem rcGe_int (A : Around) (s : Shared) (a : Int) (t : Tok) (c : Int) (u : Tok) (prog : Program) (w : World) (E : Value → Shared → Prop) (Q : Value → Shared → Prop) (h : Q (.bool (decide (c ≤ a))) s) :
    wpAny (model prog w) A (richCompare .GtE (.int a t) (.int c u)) Q E s :=
  (PyProof.Rows.ge_int h : wpAny (model prog w) A (compareOp .GtE (.int a t) (.int c u)) Q E s)
theorem tuple_ge_ints (l b : Addr) (items items2 : Array Value) (n n2 : Nat) (dd dd2 : Option Addr) (sl sl2 : Array (Option Value)) (ns ms : List Int) (hi : IntsAre items.toList ns) (hj : IntsAre items2.toList ms) :
    Meets (Builtin.«tuple.__ge__» ⟨[.ref l, .ref b], []⟩)
      (fun _ R s => s.heap.get? l = some { cls := .type "tuple", dict := dd, data := .seq items n, slots := sl } ∧ s.heap.get? b = some { cls := .type "tuple", dict := dd2, data := .seq items2 n2, slots := sl2 } ∧
        R (.ok (.ret (.bool (!HT.lexLt ns ms)))) s) :=
  .of_wp fun prog w A R s h => by
    obtain ⟨hp, g, d, tk, os⟩ := s; obtain ⟨hl, hb, h⟩ := h
    have f2 := AutoSeq1.sub_tuple_tuple
    have z1 : items.size = ns.length := by rw [← hi.length]; simp
    have z2 : items2.size = ms.length := by rw [← hj.length]; simp
    wp_walk using wpAny_loadPart' hl, wpAny_loadPart' hb, wpAny_forIn_list _ (fun rest b s' => b.1 = none ∧ s' = ⟨hp, g, d, tk, os⟩ ∧ ∃ (vs ws : List Value) (ns' ms' : List Int), rest = vs.zip ws ∧
      IntsAre vs ns' ∧ IntsAre ws ms' ∧ ns'.length + items2.size = ms'.length + items.size ∧ R (.ok (.ret (.bool (!HT.lexLt ns' ms')))) ⟨hp, g, d, tk, os⟩) _
    case turn =>
      rintro ⟨y, x⟩ rest b s' ⟨hb', rfl, vs, ws, ns', ms', hz, hvi, hwi, hlen, hR⟩
      cases hvi with
      | nil => rw [List.zip_nil_left] at hz; cases hz
      | cons a t hvi' =>
        cases hwi with
        | nil => rw [List.zip_nil_right] at hz; cases hz
        | cons c u hwi' =>
          rw [List.zip_cons_cons] at hz
          injection hz with hyx hrest
          injection hyx with hy hx
          subst hy hx
          rw [HT.lexLt_cons] at hR
          simp only [List.length_cons] at hlen
          obtain ⟨e, he, hiff⟩ := HT.eqAt_int A.in1 ⟨hp, g, d, tk, os⟩ a t c u
          refine wpAny_bind (he prog w _ _ ?_)
          cases e with
          | true =>
            rw [if_pos (hiff.mp rfl)] at hR
            wp_walk
            exact ⟨rfl, rfl, _, _, _, _, hrest, hvi', hwi', by omega, hR⟩
          | false =>
            rw [if_neg (fun q => absurd (hiff.mpr q) Bool.false_ne_true)] at hR
            have e2 : (!decide (a < c)) = decide (c ≤ a) := by
              by_cases h : a < c
              · rw [decide_eq_true h, decide_eq_false (by omega)]; rfl
              · rw [decide_eq_false h, decide_eq_true (by omega)]; rfl
            rw [e2] at hR
            have hri := rcGe_int A.in1 ⟨hp, g, d, tk, os⟩ a t c u prog w
            wp_walk using hri
            exact ⟨_, rfl, by simpa using hR⟩
    case fin =>
      rintro ⟨b1, b2⟩ s' ⟨hb', rfl, vs, ws, ns', ms', hz, hvi, hwi, hlen, hR⟩
      simp only at hb'
      subst hb'
      have hv : (!HT.lexLt ns' ms') = decide (items.size ≥ items2.size) := by
        cases hvi with
        | nil =>
          cases hwi with
          | nil =>
            simp only [List.length_nil] at hlen
            rw [HT.lexLt_nil_nil]
            exact (decide_eq_true (by omega)).symm
          | cons c u hw =>
            simp only [List.length_nil, List.length_cons] at hlen
            rw [HT.lexLt_nil_cons]
            exact (decide_eq_false (by omega)).symm
        | cons a t hv =>
          cases hwi with
          | nil =>
            simp only [List.length_nil, List.length_cons] at hlen
            rw [HT.lexLt_cons_nil]
            exact (decide_eq_true (by omega)).symm
          | cons c u hw =>
            rw [List.zip_cons_cons] at hz
            cases hz
      rw [hv] at hR
      wp_walk
      exact ⟨_, rfl, by simpa [Builtin.Tuple.tupleCompareSizes] using hR⟩
    case h =>
      exact ⟨rfl, rfl, items.toList, items2.toList, ns, ms, rfl, hi, hj, by omega, h⟩
end
section
variable {prog : Program} {w : World} {A : Around} {E : Value → Shared → Prop} {s : Shared}
theorem ge_tupInts {l b : Addr} {items items2 : Array Value} {ns ms : List Int} {Q : Value → Shared → Prop} (hl : IsTup s.heap l items) (hb : IsTup s.heap b items2) (hi : IntsAre items.toList ns) (hj : IntsAre items2.toList ms)
    (hu : A.units < cLine) (h : Q (.bool (!HT.lexLt ns ms)) s) : wpAny (model prog w) A (compareOp .GtE (.ref l) (.ref b)) Q E s := by
  obtain ⟨⟨cls, dd, data, sl⟩, ho, hc, n, hd⟩ := id hl
  obtain ⟨⟨cls2, dd2, data2, sl2⟩, ho2, hc2, n2, hd2⟩ := id hb
  simp only at hc hd hc2 hd2
  subst hc hd hc2 hd2
  exact richCompare_meets_room (op := .GtE) ⟨_, ho, rfl⟩ ⟨_, ho2, rfl⟩ PySem.F.slot_tuple_ge PySem.F.entry_tuple_ge (PySem.F.args_tuple_ge_2 _ _) (tuple_ge_ints l b items items2 n n2 dd dd2 sl sl2 ns ms hi hj)
    ⟨ho, ho2, show Value.bool (!HT.lexLt ns ms) ≠ Value.notImplemented ∧ Q (.bool (!HT.lexLt ns ms)) s from ⟨(fun x => nomatch x), h⟩⟩ hu
end
section
variable {X : Cx}
theorem op_geT (hu : X.A.units < cLine) : OpR X (compareOp .GtE) (fun x y H Q => ∃ a b ns ms, x = .ref a ∧ y = .ref b ∧ SqT X.K H a (ns.map V.int) ∧ SqT X.K H b (ms.map V.int) ∧ Q (.bl (!HT.lexLt ns ms)) H) := by
  intro pins s σ H x y v u Q I rx ry h
  obtain ⟨a, b, ns, ms, rfl, rfl, ha, hb, q⟩ := h
  cases rx
  cases ry
  obtain ⟨its, r1, p1, _⟩ := I.tuple ha
  obtain ⟨its2, r2, p2, _⟩ := I.tuple hb
  have i1 : IntsAre its.toArray.toList ns := intsAre_of r1
  have i2 : IntsAre its2.toArray.toList ms := intsAre_of r2
  exact ge_tupInts p1 p2 i1 i2 hu ⟨.bl (!HT.lexLt ns ms), H, I, rfl, q⟩
theorem lt_ok (hu : X.A.units < cLine) (x y : D) (k : Bool) (e : ltD x y = some k) : OpR X (compareOp .Lt) (rD x y (.fz, .bl k)) := by
  cases x <;> cases y <;> first | (cases e; done) | skip
  case int.int a b =>
    cases e
    refine TW.OpR.imp op_lt ?_
    rintro v u H Q ⟨G, gh, rv, ru, q⟩
    exact ⟨a, b, rv, ru, q _ H G (.refl gh) rfl⟩
  case tup.tup a b =>
    obtain ⟨ns, e1, e⟩ := bnd e
    obtain ⟨ms, e2, rfl⟩ := mpd e
    have := intsOf_eq e1
    subst this
    have := intsOf_eq e2
    subst this
    refine TW.OpR.imp (op_ltT hu) ?_
    rintro v u H Q ⟨G, gh, ⟨p, xs, rfl, hp, rx⟩, ⟨q, ys, rfl, hq, ry⟩, c⟩
    have e1 := rx.ints
    have e2 := ry.ints
    subst e1 e2
    refine ⟨p, q, ns, ms, rfl, rfl, sqT gh hp, sqT gh hq, ?_⟩
    rw [lexLt_eq]
    exact c _ H G (.refl gh) rfl
theorem ge_ok (hu : X.A.units < cLine) (x y : D) (k : Bool) (e : geD x y = some k) : OpR X (compareOp .GtE) (rD x y (.fz, .bl k)) := by
  cases x <;> cases y <;> first | (cases e; done) | skip
  case int.int a b =>
    cases e
    refine TW.OpR.imp op_ge ?_
    rintro v u H Q ⟨G, gh, rv, ru, q⟩
    exact ⟨a, b, rv, ru, q _ H G (.refl gh) rfl⟩
  case tup.tup a b =>
    obtain ⟨ns, e1, e⟩ := bnd e
    obtain ⟨ms, e2, rfl⟩ := mpd e
    have := intsOf_eq e1
    subst this
    have := intsOf_eq e2
    subst this
    refine TW.OpR.imp (op_geT hu) ?_
    rintro v u H Q ⟨G, gh, ⟨p, xs, rfl, hp, rx⟩, ⟨q, ys, rfl, hq, ry⟩, c⟩
    have e1 := rx.ints
    have e2 := ry.ints
    subst e1 e2
    refine ⟨p, q, ns, ms, rfl, rfl, sqT gh hp, sqT gh hq, ?_⟩
    rw [lexLt_eq]
    exact c _ H G (.refl gh) rfl
theorem isN_ok (x : D) : OpR X (compareOp .Is) (rD x .non (.fz, .bl (isNon x))) ∧ OpR X (compareOp .IsNot) (rD x .non (.fz, .bl (!isNon x))) := by
  have key : ∀ (G H : Hp) (v : V), Rb G H x v → decide (v = .non) = isNon x := fun G H v r => by
    cases x with
    | non => cases (show v = _ from r); rfl
    | bl b => cases (show v = _ from r); rfl
    | int b => cases (show v = _ from r); rfl
    | str b => cases (show v = _ from r); rfl
    | tup b => obtain ⟨a, xs, rfl, _⟩ := r; rfl
    | lst b => obtain ⟨a, xs, rfl, _⟩ := r; rfl
    | scr _ _ _ => obtain ⟨rfl, _⟩ := r; rfl
    | dct _ _ => obtain ⟨a, xs, rfl, _⟩ := r; rfl
  constructor
  · refine TW.OpR.imp op_isN ?_
    rintro v u H Q ⟨G, gh, rv, ru, q⟩
    refine ⟨ru, ?_⟩
    rw [key G H v rv]
    exact q _ H G (.refl gh) rfl
  · refine TW.OpR.imp op_notN ?_
    rintro v u H Q ⟨G, gh, rv, ru, q⟩
    refine ⟨ru, ?_⟩
    rw [key G H v rv]
    exact q _ H G (.refl gh) rfl
theorem val_zip {G : Hp} {i : Int} : ∀ {ks : List Int} {ds : List D} {xs : List V}, ks.length = ds.length → Rps G ds xs →
    (valV (zipK ks xs) (Sum.inl i : Key)).isSome = decide (i ∈ ks) ∧ ∀ d, atK ks ds i = some d → ∃ v, valV (zipK ks xs) (Sum.inl i : Key) = some v ∧ Rp G d v
  | [], _, xs, _, _ => ⟨by simp [zipK, valV], fun d h => by simp [atK] at h⟩
  | k :: ks, [], _, h, _ => by simp at h
  | k :: ks, d :: ds, _, h, r => by
    obtain ⟨x, q, rfl, p, t⟩ := r
    obtain ⟨h1, h2⟩ := val_zip (i := i) (by simpa using h) t
    have e : zipK (k :: ks) (x :: q) = (Sum.inl k, x) :: zipK ks q := rfl
    rw [e]
    by_cases hk : k = i
    · subst hk
      rw [valV_pos rfl]
      refine ⟨by simp, fun d' hd => ?_⟩
      simp only [atK, if_true] at hd
      cases hd
      exact ⟨x, rfl, p⟩
    · rw [valV_neg (by simpa using hk), h1]
      refine ⟨by simp; exact fun z => absurd z.symm hk, fun d' hd => ?_⟩
      simp only [atK, hk, if_false] at hd
      exact h2 d' hd
theorem din_ok (hu : X.A.units + 64 < cLine) (i : Int) (ks : List Int) (ds : List D) :
    OpR X (compareOp .In) (rD (.int i) (.dct ks ds) (.fz, .bl (decide (i ∈ ks)))) ∧ OpR X (compareOp .NotIn) (rD (.int i) (.dct ks ds) (.fz, .bl (!decide (i ∈ ks)))) := by
  constructor
  · intro pins s σ H v u vv uu Q I r1 r2 h
    obtain ⟨G, gh, rv, ⟨a, xs, rfl, hl, hd, rs⟩, q⟩ := h
    cases (show v = .int i from rv)
    cases r2
    refine d_in (by omega) I (.inl ⟨_, .inl i, hd, rfl, rfl⟩) r1 fun s' I' => ?_
    rw [(val_zip hl rs).1]
    exact ⟨.bl _, H, I', rfl, q _ H G (.refl gh) rfl⟩
  · intro pins s σ H v u vv uu Q I r1 r2 h
    obtain ⟨G, gh, rv, ⟨a, xs, rfl, hl, hd, rs⟩, q⟩ := h
    cases (show v = .int i from rv)
    cases r2
    refine d_notIn (by omega) I (.inl ⟨_, .inl i, hd, rfl, rfl⟩) r1 fun s' I' => ?_
    rw [(val_zip hl rs).1]
    exact ⟨.bl _, H, I', rfl, q _ H G (.refl gh) rfl⟩
theorem in_split {x y : D} {k : Bool} (e : cmpD .In x y = some k) : (∃ i ks ds, x = .int i ∧ y = .dct ks ds ∧ k = decide (i ∈ ks)) ∨ ∃ ds, seqOf y = some ds ∧ okD 40 x = true ∧ okDs 40 ds = true ∧ k = inD x ds := by
  have gen : ((seqOf y).bind fun ds => if okD 40 x && okDs 40 ds then some (inD x ds) else none) = some k → ∃ ds, seqOf y = some ds ∧ okD 40 x = true ∧ okDs 40 ds = true ∧ k = inD x ds := fun e => by
    obtain ⟨ds, ey, e⟩ := bnd e
    obtain ⟨h, rfl⟩ := if_some e
    have h := Bool.and_eq_true_iff.mp h
    exact ⟨ds, ey, h.1, h.2, rfl⟩
  cases y <;> first | exact .inr (gen e) | skip
  cases x <;> first | exact no_some e | skip
  cases e
  exact .inl ⟨_, _, _, rfl, rfl, rfl⟩
theorem notin_split {x y : D} {k : Bool} (e : cmpD .NotIn x y = some k) : (∃ i ks ds, x = .int i ∧ y = .dct ks ds ∧ k = !decide (i ∈ ks)) ∨ ∃ ds, seqOf y = some ds ∧ okD 40 x = true ∧ okDs 40 ds = true ∧ k = !inD x ds := by
  have gen : ((seqOf y).bind fun ds => if okD 40 x && okDs 40 ds then some (!inD x ds) else none) = some k → ∃ ds, seqOf y = some ds ∧ okD 40 x = true ∧ okDs 40 ds = true ∧ k = !inD x ds := fun e => by
    obtain ⟨ds, ey, e⟩ := bnd e
    obtain ⟨h, rfl⟩ := if_some e
    have h := Bool.and_eq_true_iff.mp h
    exact ⟨ds, ey, h.1, h.2, rfl⟩
  cases y <;> first | exact .inr (gen e) | skip
  cases x <;> first | exact no_some e | skip
  cases e
  exact .inl ⟨_, _, _, rfl, rfl, rfl⟩
theorem cmpD_ok (hu : X.A.units + 64 < cLine) (op : CmpOp) (x y : D) (k : Bool) (e : cmpD op x y = some k) : OpR X (compareOp op) (rD x y (.fz, .bl k)) := by
  have hu' : X.A.units < cLine := by omega
  cases op with
  | Eq => exact eq_ok hu x y k e
  | NotEq => obtain ⟨j, ej, rfl⟩ := mpd e; exact ne_ok hu x y j ej
  | Lt => exact lt_ok hu' x y k e
  | GtE => exact ge_ok hu' x y k e
  | LtE =>
    cases x <;> first | exact no_some e | skip
    cases y <;> first | exact no_some e | skip
    cases e
    refine TW.OpR.imp op_le ?_
    rintro v u H Q ⟨G, gh, rv, ru, q⟩
    exact ⟨_, _, rv, ru, q _ H G (.refl gh) rfl⟩
  | Gt =>
    cases x <;> first | exact no_some e | skip
    cases y <;> first | exact no_some e | skip
    cases e
    refine TW.OpR.imp op_gt ?_
    rintro v u H Q ⟨G, gh, rv, ru, q⟩
    exact ⟨_, _, rv, ru, q _ H G (.refl gh) rfl⟩
  | In =>
    rcases in_split e with ⟨i, ks, ds, rfl, rfl, rfl⟩ | ⟨ds, ey, h1, h2, rfl⟩
    · exact (din_ok hu i ks ds).1
    · exact (in_ok hu x y ds ey h1 h2).1
  | NotIn =>
    rcases notin_split e with ⟨i, ks, ds, rfl, rfl, rfl⟩ | ⟨ds, ey, h1, h2, rfl⟩
    · exact (din_ok hu i ks ds).2
    · exact (in_ok hu x y ds ey h1 h2).2
  | Is =>
    cases y <;> first | (cases x <;> cases e; done) | skip
    cases e
    exact (isN_ok x).1
  | IsNot =>
    cases y <;> first | (cases x <;> cases e; done) | skip
    cases e
    exact (isN_ok x).2
end
end TW
end
section
set_option Elab.async false
set_option linter.all false
set_option maxRecDepth 100000
set_option maxHeartbeats 4000000
namespace TW
open PySem PySem.Spec PyProof.Rows L2
theorem noFill_tuple_mul : fillsNumberSlot (.type "tuple") "mul" = pure false :=
  PySem.fillsNumberSlot_seq (id := "tuple.__mul__") (r := some (.builtin "tuple.__rmul__")) F.slot_tuple_mul.lookup (by decide +kernel) F.slot_tuple_rmul.lookup (by decide +kernel)
theorem repeat_tuple : seqRepeat? (.type "tuple") = pure (some (.builtin "tuple.__mul__")) := by
  unfold seqRepeat?
  rw [PySem.seqSlot_of (T := "tuple") (name := "__mul__") (id := "tuple.__mul__") F.slot_tuple_mul.lookup (by decide +kernel), PySem.seqSlot_of (T := "tuple") (name := "__rmul__") (id := "tuple.__rmul__") F.slot_tuple_rmul.lookup (by decide +kernel)]
  rfl
theorem int_rmul_tuple (a : Int) (t : Tok) (l : Addr) (items : Array Value) (n : Nat) (dd : Option Addr) (sl : Array (Option Value)) :
    Meets (Builtin.«int.__rmul__» ⟨[.int a t, .ref l], []⟩) (fun _ R s => s.heap.get? l = some { cls := .type "tuple", dict := dd, data := .seq items n, slots := sl } ∧ R (.ok (.ret Value.notImplemented)) s) :=
  .of_wp fun prog w A R s h => by obtain ⟨hp, g, d, tk, os⟩ := s; obtain ⟨hl, h⟩ := h; wp_walk; exact ⟨_, rfl, h⟩
theorem tuple_mul_at (l : Addr) (items : Array Value) (n : Nat) (x : Int) (u : Tok) (dd : Option Addr) (sl : Array (Option Value)) (h2 : 2 ≤ x) (hx : x ≤ 65536) (he : ¬ items.isEmpty = true) (hz : items.size * x.toNat ≤ 65536) :
    Meets (Builtin.«tuple.__mul__» ⟨[.ref l, .int x u], []⟩) (fun _ R s => s.heap.get? l = some { cls := .type "tuple", dict := dd, data := .seq items n, slots := sl } ∧
      R (.ok (.ret (Value.ref s.heap.objs.size))) { s with heap := s.heap.push { cls := Value.type "tuple", data := Data.seq (List.foldl (fun x1 x2 => x1 ++ x2) #[] (List.replicate x.toNat items)) } }) :=
  .of_wp fun prog w A R s h => by
    obtain ⟨hp, g, d, tk, os⟩ := s
    obtain ⟨hl, h⟩ := h
    have c1 : (decide (x < -(2 ^ 63)) || decide (x ≥ 2 ^ 63)) = false := by
      rw [decide_eq_false (by omega), decide_eq_false (by omega)]; rfl
    have c2 : (items.isEmpty || x == 1) = false := by
      have : (x == 1) = false := by rw [beq_eq_false_iff_ne]; omega
      rw [this, Bool.or_false]; simpa using he
    have c3 : (decide (x ≤ 0) || items.isEmpty) = false := by
      rw [decide_eq_false (by omega)]; simpa using he
    have e : ((items.size * x.toNat : Nat) : Int) = (items.size : Int) * x := by
      rw [Int.natCast_mul, Int.toNat_of_nonneg (by omega)]
    have c4 : ¬ ((items.size : Int) * x > (2 ^ 63 - 1) / 8) := by
      rw [← e]; omega
    have c5 : Builtin.Tuple.tupleTooMany ((items.size : Int) * x) = false := by
      unfold Builtin.Tuple.tupleTooMany
      refine decide_eq_false ?_
      rw [← e, sizeLine_eq]; omega
    have nf : ∀ {b : Bool}, b = false → decide (b = true) = false := fun h => by rw [h]; rfl
    have hsz : (List.foldl (fun x1 x2 => x1 ++ x2) #[] (List.replicate x.toNat items)).size ≤ sizeLine := by
      have f : ∀ (k : Nat) (acc : Array Value), (List.foldl (fun x1 x2 => x1 ++ x2) acc (List.replicate k items)).size = acc.size + k * items.size := by
        intro k
        induction k with
        | zero => intro acc; simp
        | succ k ih => intro acc; rw [List.replicate_succ, List.foldl_cons, ih, Array.size_append, Nat.succ_mul]; omega
      rw [f, Nat.mul_comm, sizeLine_eq]
      simp only [List.size_toArray, List.length_nil]
      omega
    wp_walk
    refine wpAny_ite_false (nf c1) ?_
    wp_walk using AutoSeq1.wpAny_loadPart' hl
    refine wpAny_ite_false (nf c2) ?_
    wp_walk
    refine wpAny_ite_false (nf c3) ?_
    wp_walk
    refine wpAny_ite_false (decide_eq_false c4) ?_
    wp_walk
    exact ⟨_, rfl, h⟩
section
variable {X : Cx}
theorem op_repT : OpR X (binaryOp .Mult) (fun x y H Q => ∃ l k xs, x = .ref l ∧ y = .int k ∧ SqT X.K H l xs ∧ 2 ≤ k ∧ k ≤ 65536 ∧ xs ≠ [] ∧ xs.length * k.toNat ≤ 65536 ∧ ∀ p, H p = none → Q (.ref p) (upd H p (.tup (List.replicate k.toNat xs).flatten))) := by
  intro pins s σ H x y v u Q I rx ry h
  obtain ⟨l, k, xs, rfl, rfl, hH, h1, h2, hne, hz, q⟩ := h
  cases rx
  obtain ⟨t, rfl⟩ := ry
  obtain ⟨its, r, p1, z⟩ := I.tuple hH
  have hl := r.length
  obtain ⟨⟨cls, dd, data, sl⟩, ho, hc, n, hd⟩ := id p1
  simp only at hc hd
  subst hc hd
  have hnew : List.foldl (fun x1 x2 => x1 ++ x2) #[] (List.replicate k.toNat its.toArray) = (List.replicate k.toNat its).flatten.toArray := by
    have := foldl_rep its k.toNat []
    rw [List.nil_append] at this
    exact this
  refine wpAny_binaryOp_repeat_ref (T := "tuple") (U := "int") (by decide) ⟨_, ho, rfl⟩ (fun s' => typeIs_int s' k t) noFill_tuple_mul F.fills_int_mul F.slot_int_rmul repeat_tuple F.slot_int_index.lookup
    (call_meets F.slot_int_rmul (typeIs_int s k t) F.entry_int_rmul (F.args_int_rmul_2 _ _) (int_rmul_tuple k t l its.toArray n dd sl)
      ⟨ho, rfl, ⟨_, ho, rfl⟩, call_meets F.slot_tuple_mul ⟨_, ho, rfl⟩ F.entry_tuple_mul (F.args_tuple_mul_2 _ _) (tuple_mul_at l its.toArray n k t dd sl h1 h2 (by simpa using fun z => hne (by subst z; cases r; rfl)) (by rw [List.size_toArray, ← hl]; exact hz)) ⟨ho, ?_⟩⟩)
  rw [hnew]
  have hlen : ((List.replicate k.toNat xs).flatten).length ≤ sizeLine := by rw [len_rep, Nat.mul_comm, sizeLine_eq]; omega
  exact ⟨.ref _, _, I.laid (t' := s.toks) (o := .tup (List.replicate k.toNat xs).flatten) (fun b ob q => Heap.get?_push_of_some _ q) (Nat.le_refl _) ⟨hlen, _, r.rep k.toNat, IsTup.new _ _⟩, rfl, q _ I.fresh⟩
theorem op_repL : OpR X (binaryOp .Mult) (fun x y H Q => ∃ l k xs, x = .ref l ∧ y = .int k ∧ Rd H l (.lst xs) ∧ 0 < k ∧ k ≤ 65536 ∧ xs.length * k.toNat ≤ sizeLine ∧
  ∀ p, H p = none → Q (.ref p) (upd H p (.lst (List.replicate k.toNat xs).flatten))) := by
  intro pins s σ H x y v u Q I rx ry h
  obtain ⟨l, k, xs, rfl, rfl, hH, h1, h2, hz, q⟩ := h
  cases rx
  obtain ⟨t, rfl⟩ := ry
  obtain ⟨z, its, n, r, hl, e⟩ := Rd.get I hH
  have hlen : its.toArray.size * k.toNat ≤ sizeLine := by rw [List.size_toArray, ← hl]; exact hz
  have hcap : ¬ its.toArray.size * k.toNat > (2 ^ 63 - 1) / 8 := by
    have : (sizeLine : Nat) ≤ (2 ^ 63 - 1) / 8 := by decide
    omega
  have hfit : ¬ (!Builtin.List.listFitsIndex k) = true := by
    rw [fitsIndex_both (by omega) (by omega)]
    exact Bool.false_ne_true
  have hlong : ¬ Builtin.List.listTooLong (its.toArray.size * k.toNat) = true := by
    rw [notLongL hlen]
    exact Bool.false_ne_true
  have hnew : List.foldl (fun x1 x2 => x1 ++ x2) #[] (List.replicate (if its.toArray.isEmpty = true then 0 else k.toNat) its.toArray) = (List.replicate k.toNat its).flatten.toArray := by
    have f0 : ∀ m : Nat, List.foldl (fun x1 x2 => x1 ++ x2) #[] (List.replicate m its.toArray) = (List.replicate m its).flatten.toArray := fun m => by
      have := foldl_rep its m []
      rw [List.nil_append] at this
      exact this
    rw [f0]
    cases its with
    | nil => simp
    | cons a r' => rw [if_neg (by simp)]
  refine wpAny_binaryOp_repeat_ref (T := "list") (U := "int") (by decide) ⟨_, e, rfl⟩ (fun s' => typeIs_int s' k t) noFill_list_mul F.fills_int_mul F.slot_int_rmul repeat_list F.slot_int_index.lookup
    (call_meets F.slot_int_rmul (typeIs_int s k t) F.entry_int_rmul (F.args_int_rmul_2 _ _) (int___rmul___int_list k t l its.toArray n)
      ⟨e, rfl, ⟨_, e, rfl⟩, call_meets F.slot_list_mul ⟨_, e, rfl⟩ F.entry_list_mul (F.args_list_mul_2 _ _) (AutoListH.list___mul___list_int_3 l its.toArray n k t hfit hcap hlong) ⟨e, ?_⟩⟩)
  rw [hnew]
  exact ⟨.ref _, _, I.lnew (t' := s.toks) (r.rep k.toNat) (by rw [len_rep, Nat.mul_comm]; exact hz), rfl, q _ I.fresh⟩
theorem mul_ok (x y : D) (z : Kd × D) (e : opD .Mult x y = some z) : OpR X (binaryOp .Mult) (rD x y z) := by
  cases x <;> first | exact no_some e | skip
  all_goals (cases y <;> first | exact no_some e | skip)
  case int.int a b =>
    obtain ⟨hl, rfl⟩ := if_some e
    refine TW.OpR.imp op_mul ?_
    rintro v u H Q ⟨G, gh, rv, ru, k⟩
    exact ⟨a, b, rv, ru, (by rcases hl with h | h; exact .inl ⟨by omega, by omega⟩; exact .inr ⟨by omega, by omega⟩ : CMul a b), k _ H G (.refl gh) rfl⟩
  case tup.int a b =>
    obtain ⟨hl, rfl⟩ := if_some e
    refine TW.OpR.imp op_repT ?_
    rintro v u H Q ⟨G, gh, ⟨p, xs, rfl, hp, rx⟩, ru, k⟩
    have hlim : lim = 65536 := rfl
    refine ⟨p, b, xs, rfl, ru, sqT gh hp, hl.1, by omega, fun z => ?_, by rw [rx.length]; omega, fun r hr => ?_⟩
    · have := rx.length
      subst z
      simp at this
      omega
    · have x2 := Ext.laid gh hr (.tup (List.replicate b.toNat xs).flatten)
      exact k _ _ _ x2 ⟨r, _, rfl, upd_same, Rps.mono x2.gg _ _ (rx.rep _)⟩
  case lst.int a b =>
    obtain ⟨hl, rfl⟩ := if_some e
    refine TW.OpR.imp op_repL ?_
    rintro v u H Q ⟨G, gh, ⟨p, xs, rfl, hp, rx⟩, ru, k⟩
    have hlim : lim = 65536 := rfl
    refine ⟨p, b, xs, rfl, ru, hp, hl.1, by omega, by rw [rx.length]; exact Nat.le_trans hl.2.1 lim_line, fun r hr => ?_⟩
    obtain ⟨x2, rr⟩ := fresh_ok gh hr (rx.rep b.toNat)
    exact k _ _ _ x2 rr
theorem op_ok (op : Operator) (x y : D) (z : Kd × D) (e : opD op x y = some z) : OpR X (binaryOp op) (rD x y z) := by
  by_cases h : op = .Mult
  · subst h; exact mul_ok x y z e
  · exact opD_ok op h x y z e
theorem atI_map {G : Hp} {ds : List D} {xs : List V} {i : Int} {d : D} (r : Rps G ds xs) (e : TW.atI ds i = some d) : ∃ v, L2.atI xs i = some v ∧ Rp G d v := by
  unfold TW.atI at e
  obtain ⟨j, ej, e⟩ := bnd e
  obtain ⟨v, ev, rv⟩ := r.get e
  refine ⟨v, ?_, rv⟩
  unfold L2.atI
  have : L2.ixN xs.length i = some j := by rw [r.length]; exact ej
  rw [this]
  exact ev
theorem de_ix {a b : Expr} {ga gb : En → Option (Kd × D)} {pos : Pos} (hs : PlainIx b) (ha : DE X a ga) (hb : DE X b gb) :
    DE X (.Subscript a b pos) (fun ρ => (ga ρ).bind fun x => (gb ρ).bind fun y => match y.2 with
      | .int i => (seqOf x.2).bind fun ds => (TW.atI ds i).map fun d => (.fz, d)
      | _ => none) := by
  intro ρ z e
  obtain ⟨⟨kx, dx⟩, ex, e⟩ := bnd e
  obtain ⟨⟨ky, dy⟩, ey, e⟩ := bnd e
  obtain ⟨i, rfl⟩ : ∃ i, dy = .int i := by cases dy <;> first | cases e | exact ⟨_, rfl⟩
  obtain ⟨ds, es, e⟩ := bnd e
  obtain ⟨d, ed, rfl⟩ := mpd e
  refine pe_imp (pe_ix (TW.IxR.imp (L2.IxR.or ix_list ix_tup) (r' := rD dx (.int i) (.fz, d)) ?_) (ha ρ _ ex) (hb ρ _ ey) hs) tD_op
  rintro v u H Q ⟨G, gh, rv, ru, k⟩
  cases (show u = _ from ru)
  cases dx <;> first | (cases es; done) | skip
  · cases es
    obtain ⟨p, xs, rfl, hp, rx⟩ := rv
    obtain ⟨w, ew, rw'⟩ := atI_map rx ed
    exact .inr ⟨p, xs, i, w, rfl, rfl, sqT gh hp, ew, k _ H G (.refl gh) rw'⟩
  · cases es
    obtain ⟨p, xs, rfl, hp, rx⟩ := rv
    obtain ⟨w, ew, rw'⟩ := atI_map rx ed
    exact .inl ⟨p, xs, i, w, rfl, rfl, .inl hp, ew, k _ H G (.refl gh) rw'⟩
theorem de_ixk {a b : Expr} {ga gb : En → Option (Kd × D)} {pos : Pos} (hu : X.A.units + 64 < cLine) (hs : PlainIx b) (hn : NoSl b) (ha : DE X a ga) (hb : DE X b gb) :
    DE X (.Subscript a b pos) (fun ρ => (ga ρ).bind fun x => (gb ρ).bind fun y => match y.2 with
      | .int i => (match x.2 with
        | .dct ks ds => (atK ks ds i).map fun d => (.fz, d)
        | z => (seqOf z).bind fun ds => (TW.atI ds i).map fun d => (.fz, d))
      | _ => none) := by
  intro ρ z e
  have e0 := e
  obtain ⟨⟨kx, dx⟩, ex, e⟩ := bnd e
  obtain ⟨⟨ky, dy⟩, ey, e⟩ := bnd e
  obtain ⟨i, rfl⟩ : ∃ i, dy = .int i := by cases dy <;> first | cases e | exact ⟨_, rfl⟩
  have old : ((seqOf dx).bind fun ds => (TW.atI ds i).map fun d => ((.fz, d) : Kd × D)) = some z → PE X (.Subscript a b pos) (tD ρ z) := fun e => by
    refine de_ix hs ha hb ρ z ?_
    simp only [ex, ey, Option.bind_some]
    exact e
  cases dx <;> first | exact old e | skip
  rename_i ks ds
  obtain ⟨d, ed, rfl⟩ := mpd e
  refine pe_imp (pe_dget (by omega) (ha ρ _ ex) (hb ρ _ ey) hn) ?_
  rintro σ H Q ⟨G, s, k⟩
  refine ⟨G, s, fun v H1 G1 x1 r1 => ⟨G1, s.ext x1, fun u H2 G2 x2 r2 => ?_⟩⟩
  obtain ⟨l, xs, rfl, hl, h1, rs⟩ := r1.rb x1.gh
  cases (show u = .int i from r2.rb x2.gh)
  obtain ⟨w, ew, rw'⟩ := (val_zip (i := i) hl rs).2 d ed
  exact ⟨l, w, rfl, .inl ⟨_, .inl i, Rd.same x2.hh h1, rfl, ew.symm⟩, k w H2 G2 (x1.trans x2) (Rp.mono x2.gg _ _ rw')⟩
end
end TW
end
section
set_option Elab.async false
set_option linter.all false
set_option maxRecDepth 100000
set_option maxHeartbeats 4000000
namespace TW
open PySem PySem.Spec PyProof.Rows L2
theorem sIx_eq (n d : Nat) (o : Option Int) : TW.sIx n d o = HT.sIx n d o := by
  cases o with
  | none => rfl
  | some v =>
    show (if v < 0 then (max (v + (n : Int)) 0).toNat else (min v (n : Int)).toNat) = (if v < 0 then (v + (n : Int)).toNat else min v.toNat n)
    by_cases h : v < 0
    · rw [if_pos h, if_pos h]; omega
    · rw [if_neg h, if_neg h]; omega
section
variable {prog : Program} {w : World} {A : Around} {E : Value → Shared → Prop} {s : Shared}
theorem getItem_tuple_whole {t sl : Addr} {items : Array Value} {vl vu : Value} {lo hi : Option Int} {Q : Value → Shared → Prop} (ht : IsTup s.heap t items) (hs : s.heap.IsSliceOf sl vl vu .none) (pl : IsPart vl lo) (pu : IsPart vu hi)
    (hw : HT.sIx items.size 0 lo = 0 ∧ HT.sIx items.size items.size hi = items.size) (h : Q (.ref t) s) : wpAny (model prog w) A (getItem (.ref t) (.ref sl)) Q E s := by
  obtain ⟨os, hos, hcs, hds⟩ := id hs
  have hTs : s.TypeIs (.ref sl) "slice" := ⟨os, hos, hcs⟩
  unfold getItem
  try with_reducible refine wpAny_holding ?_
  first | refine wpAny_bind (wpAny_pure ?_) | skip
  refine wpAny_bind (wpAny_sequenceKey ht.typeIs (by decide) ?_)
  refine wpAny_bind (wpAny_callSpecial?_slot (name := Str.ofString "__getitem__") ht.typeIs PyProof.Rows.slot_tuple_getitem
    (wpAny_call_entry PyProof.Rows.slot_tuple_getitem ht.typeIs entry_tuple_getitem ?_ (args_tuple_getitem _ _)))
  show wpAny _ _ (Builtin.Tuple.tupleItemsOf (.ref t) >>= _) _ _ s
  refine wpAny_bind (tupleItemsOf_ ht ?_)
  refine wpAny_bind (wpAny_typeOf hTs ?_)
  rw [if_pos (by decide)]
  refine wpAny_bind (HT.sliceApplied_gen hs pl pu ?_)
  have hyes : ((((HT.sIx items.size 0 lo : Nat) : Int) == 0 && (1 : Int) == 1 && (HT.sIx items.size items.size hi - HT.sIx items.size 0 lo) == items.size) = true) := by
    rw [hw.1, hw.2]; simp
  show wpAny _ _ (if (((HT.sIx items.size 0 lo : Nat) : Int) == 0 && (1 : Int) == 1 && (HT.sIx items.size items.size hi - HT.sIx items.size 0 lo) == items.size) = true then _ else _) _ _ s
  rw [if_pos hyes]
  unfold Builtin.Tuple.tupleIsExact
  refine wpAny_bind (wpAny_bind (wpAny_typeOf ht.typeIs (wpAny_pure ?_)))
  rw [if_pos (by decide)]
  exact wpAny_bind (wpAny_rule (wpAny_pure ⟨_, rfl, wpAny_pure h⟩))
end
section
variable {X : Cx}
theorem sl_tup0 : SlR X (fun x lo hi H Q => ∃ a xs, x = .ref a ∧ SqT X.K H a xs ∧ (HT.sIx xs.length 0 lo = 0 ∧ HT.sIx xs.length xs.length hi = xs.length) ∧ Q (.ref a) H) := by
  intro pins s σ H x v vl vu lo hi sl Q I rx hs pl pu h
  obtain ⟨a, xs, rfl, hx, hw, q⟩ := h
  cases rx
  obtain ⟨its, r, ht, hz⟩ := I.tuple hx
  have hlen : its.toArray.size = xs.length := by rw [List.size_toArray]; exact r.length.symm
  refine ⟨"tuple", _, PyProof.Rows.slot_tuple_getitem.lookup, ht.typeIs, ?_⟩
  exact getItem_tuple_whole ht hs pl pu (by rw [hlen]; exact hw) ⟨.ref a, H, I, rfl, q⟩
theorem do_none : DO X none (fun _ => some none) := fun ρ o e => by
  cases e
  refine fun pins s σ H Q I q => po_none pins s σ H Q I ?_
  obtain ⟨G, sr, k⟩ := q
  exact k H G (.refl sr.gh)
theorem do_some {e : Expr} {g : En → Option (Kd × D)} (h : DE X e g) : DO X (some e) (fun ρ => (g ρ).bind fun x => match x.2 with | .int i => some (some i) | _ => none) := by
  intro ρ o q
  obtain ⟨⟨k, d⟩, ex, q⟩ := bnd q
  obtain ⟨i, rfl⟩ : ∃ i, d = .int i := by cases d <;> first | exact ⟨_, rfl⟩ | cases q
  cases q
  refine fun pins s σ H Q I q => po_some (h ρ _ ex) pins s σ H Q I ?_
  obtain ⟨G, sr, k⟩ := q
  exact ⟨G, sr, fun v H1 G1 x1 r1 => ⟨i, r1.rb x1.gh, k H1 G1 x1⟩⟩
theorem cut_rps {G : Hp} {ds : List D} {xs : List V} (r : Rps G ds xs) (lo hi : Option Int) : Rps G (cut ds lo hi) (cutV xs lo hi) := by
  unfold cut cutV
  rw [sIx_eq, sIx_eq, ← r.length]
  exact (r.drop _).take _
theorem de_sl {a : Expr} {lo hi : Option Expr} {ga : En → Option (Kd × D)} {gl gh : En → Option (Option Int)} {pos p2 : Pos} (ha : DE X a ga) (hl : DO X lo gl) (hh : DO X hi gh) :
    DE X (.Subscript a (.Slice lo hi none p2) pos) (fun ρ => (ga ρ).bind fun x => (gl ρ).bind fun l => (gh ρ).bind fun h => match x.2 with
      | .tup ds => some (.fz, .tup (cut ds l h))
      | .lst ds => some (.fr, .lst (cut ds l h))
      | _ => none) := by
  intro ρ z e
  obtain ⟨⟨k, d⟩, ex, e⟩ := bnd e
  obtain ⟨l, el, e⟩ := bnd e
  obtain ⟨h, eh, e⟩ := bnd e
  have step : ∀ (r : V → Option Int → Option Int → Hp → VK → Prop), (∀ v H Q, (∃ G, Same G H ∧ Rb G H d v ∧ ∀ w H' G', Ext G H G' H' → RR G' H' H w z → Q w H') → r v l h H Q) →
      ∀ σ H Q, tD ρ z σ H Q → tSl r (tD ρ (k, d)) (tDO ρ l) (tDO ρ h) σ H Q := by
    rintro r hr σ H Q ⟨G, s, c⟩
    refine ⟨G, s, fun v H1 G1 x1 r1 => ⟨G1, s.ext x1, fun H2 G2 x2 => ⟨G2, (s.ext x1).ext x2, fun H3 G3 x3 => hr v H3 Q ⟨G3, x3.gh, (r1.rb x1.gh).mono (x2.trans x3).gg (x2.trans x3).hh, fun w H4 G4 x4 r4 => ?_⟩⟩⟩⟩
    exact c w H4 G4 (((x1.trans x2).trans x3).trans x4) (r4.back (((x1.trans x2).trans x3).hh))
  cases d <;> first | (cases e; done) | skip
  case tup ds =>
    cases e
    refine pe_imp (pe_slice (L2.SlR.or sl_tup sl_tup0) (ha ρ _ ex) (hl ρ _ el) (hh ρ _ eh)) (step _ ?_)
    rintro v H Q ⟨G, gh', ⟨a, xs, rfl, g, rs⟩, c⟩
    by_cases hw : HT.sIx xs.length 0 l = 0 ∧ HT.sIx xs.length xs.length h = xs.length
    · right
      refine ⟨a, xs, rfl, sqT gh' g, hw, c _ H G (.refl gh') ⟨a, xs, rfl, g, ?_⟩⟩
      have := cut_rps rs l h
      have e : cutV xs l h = xs := by unfold cutV; rw [hw.1, hw.2]; simp
      rw [e] at this
      exact this
    · left
      refine ⟨a, xs, rfl, sqT gh' g, hw, fun p hp => ?_⟩
      have x2 := Ext.laid gh' hp (.tup (cutV xs l h))
      exact c _ _ _ x2 ⟨p, _, rfl, upd_same, Rps.mono x2.gg _ _ (cut_rps rs l h)⟩
  case lst ds =>
    cases e
    refine pe_imp (pe_slice sl_list (ha ρ _ ex) (hl ρ _ el) (hh ρ _ eh)) (step _ ?_)
    rintro v H Q ⟨G, gh', ⟨a, xs, rfl, g, rs⟩, c⟩
    refine ⟨a, xs, rfl, .inl g, fun p hp => ?_⟩
    obtain ⟨x2, rr⟩ := fresh_ok gh' hp (cut_rps rs l h)
    exact c _ _ _ x2 rr
end
end TW
end
section
set_option Elab.async false
set_option linter.all false
set_option maxRecDepth 100000
set_option maxHeartbeats 4000000
namespace TW
open PySem PySem.Spec PyProof.Rows L2
section
variable {X : Cx}
noncomputable def rC1 (x : D) (z : Kd × D) : List V → Hp → VK → Prop := fun xs H Q => ∃ v, xs = [v] ∧ rD1 x z v H Q
theorem tD_b1 {x z : Kd × D} {ρ : En} : ∀ σ H Q, tD ρ z σ H Q → tCB (rC1 x.2 z) (tCons (tD ρ x) tNil) σ H Q := by
  rintro σ H Q ⟨G, s, k⟩
  exact ⟨G, s, fun v H1 G1 x1 r1 => ⟨v, rfl, G1, x1.gh, r1.rb x1.gh, fun w H3 G3 x3 r3 => k w H3 G3 (x1.trans x3) (r3.back x1.hh)⟩⟩
theorem de_bB {f : D → Option (Kd × D)} {x : Str} {id : String} {e : Expr} {p pos : Pos} {g : En → Option (Kd × D)} (hc : ∀ d z, f d = some z → CallR X (.builtin id) (rC1 d z)) (hg : Gl X x) (hm : X.mg x = none) (hv : bootBuiltins x = some (.builtin id))
    (hn : x ≠ "__name__") (hdb : (x == ("__debug__" : Str)) = false) (ha : DE X e g) (hs : starEach [e] X.env = [(false, eval e X.env)]) : DE X (.Call (.Name x p) [e] [] pos) (fun ρ => (g ρ).bind fun x => f x.2) := by
  intro ρ z q
  obtain ⟨y, ey, q⟩ := bnd q
  exact pe_imp (pe_callB (hc _ _ q) hg hm hv (pa_cons (ha ρ y ey) pa_nil hs) hn hdb hs rfl) tD_b1
theorem de_bT {f : D → Option (Kd × D)} {x : Str} {id : String} {e : Expr} {p pos : Pos} {g : En → Option (Kd × D)} (hc : ∀ d z, f d = some z → CallR X (.type id) (rC1 d z)) (hg : Gl X x) (hm : X.mg x = none) (hv : bootBuiltins x = some (.type id))
    (hn : x ≠ "__name__") (hdb : (x == ("__debug__" : Str)) = false) (ha : DE X e g) (hs : starEach [e] X.env = [(false, eval e X.env)]) : DE X (.Call (.Name x p) [e] [] pos) (fun ρ => (g ρ).bind fun x => f x.2) := by
  intro ρ z q
  obtain ⟨y, ey, q⟩ := bnd q
  exact pe_imp (pe_callTy (hc _ _ q) hg hm hv (pa_cons (ha ρ y ey) pa_nil hs) hn hdb hs rfl) tD_b1
theorem c_len (d : D) (z : Kd × D) (e : b1D .len d = some z) : CallR X (.builtin "len") (rC1 d z) := by
  cases d <;> first | (cases e; done) | skip
  case str x =>
    obtain ⟨hl, rfl⟩ := if_some (show (if x.length ≤ lim then some (Kd.fz, D.int x.length) else none) = some z from e)
    refine TW.CallR.imp call_len_str ?_
    rintro xs H Q ⟨v, rfl, G, gh, r, k⟩
    exact ⟨x, by rw [show v = _ from r], Nat.le_trans hl lim_line, k _ H G (.refl gh) rfl⟩
  case tup ds =>
    cases e
    refine TW.CallR.imp call_len_seq ?_
    rintro xs H Q ⟨v, rfl, G, gh, ⟨a, ys, rfl, g, rs⟩, k⟩
    refine ⟨a, ys, rfl, .inr (sqT gh g), ?_⟩
    rw [rs.length]
    exact k _ H G (.refl gh) rfl
  case lst ds =>
    cases e
    refine TW.CallR.imp call_len_seq ?_
    rintro xs H Q ⟨v, rfl, G, gh, ⟨a, ys, rfl, g, rs⟩, k⟩
    refine ⟨a, ys, rfl, .inl (.inl g), ?_⟩
    rw [rs.length]
    exact k _ H G (.refl gh) rfl
theorem c_tuple (d : D) (z : Kd × D) (e : b1D .tuple d = some z) : CallR X (.type "tuple") (rC1 d z) := by
  cases d <;> first | (cases e; done) | skip
  case tup ds =>
    cases e
    refine TW.CallR.imp call_tuple_of ?_
    rintro xs H Q ⟨v, rfl, G, gh, ⟨a, ys, rfl, g, rs⟩, k⟩
    exact ⟨a, ys, rfl, .inr ⟨sqT gh g, k _ H G (.refl gh) ⟨a, ys, rfl, g, rs⟩⟩⟩
  case lst ds =>
    cases e
    refine TW.CallR.imp call_tuple_of ?_
    rintro xs H Q ⟨v, rfl, G, gh, ⟨a, ys, rfl, g, rs⟩, k⟩
    refine ⟨a, ys, rfl, .inl ⟨.inl g, fun p hp => ?_⟩⟩
    have x2 := Ext.laid gh hp (.tup ys)
    exact k _ _ _ x2 ⟨p, _, rfl, upd_same, Rps.mono x2.gg _ _ rs⟩
set_option exponentiation.threshold 2000 in
theorem log2_small {n : Nat} (h : n < 10 ^ 20) : n.log2 < 1920 := by
  by_cases h0 : n = 0
  · subst h0; decide
  · rw [Nat.log2_lt h0]
    exact Nat.lt_of_lt_of_le h (Nat.le_trans (by decide : 10 ^ 20 ≤ 2 ^ 67) (Nat.pow_le_pow_right (by decide) (by decide)))
theorem c_str (d : D) (z : Kd × D) (e : b1D .str d = some z) : CallR X (.type "str") (rC1 d z) := by
  cases d <;> first | (cases e; done) | skip
  case int i =>
    have e : (if i.natAbs < 10 ^ 20 then some (Kd.fz, D.str (Str.ofString (toString i))) else none) = some z := e
    split at e
    case isFalse => cases e
    rename_i hl
    cases e
    refine TW.CallR.imp call_str_int ?_
    rintro xs H Q ⟨v, rfl, G, gh, r, k⟩
    exact ⟨i, by rw [show v = _ from r], log2_small hl, k _ H G (.refl gh) rfl⟩
theorem c_int (d : D) (z : Kd × D) (e : b1D .int d = some z) : CallR X (.type "int") (rC1 d z) := by
  cases d <;> first | (cases e; done) | skip
  case int i =>
    cases e
    refine TW.CallR.imp call_int1 ?_
    rintro xs H Q ⟨v, rfl, G, gh, r, k⟩
    exact .inl ⟨i, by rw [show v = _ from r], k _ H G (.refl gh) rfl⟩
  case bl i =>
    cases e
    refine TW.CallR.imp call_int1 ?_
    rintro xs H Q ⟨v, rfl, G, gh, r, k⟩
    exact .inr ⟨i, by rw [show v = _ from r], k _ H G (.refl gh) rfl⟩
theorem boolsOf_get : ∀ {ds : List D} {bs : List Bool}, boolsOf ds = some bs → ds = bs.map D.bl
  | [], _, e => by cases e; rfl
  | .bl b :: r, _, e => by
    obtain ⟨q, h, rfl⟩ := mpd e
    rw [boolsOf_get h]; rfl
  | .non :: _, _, e => by cases e
  | .int _ :: _, _, e => by cases e
  | .str _ :: _, _, e => by cases e
  | .tup _ :: _, _, e => by cases e
  | .lst _ :: _, _, e => by cases e
theorem rps_bools {G : Hp} : ∀ {bs : List Bool} {xs : List V}, Rps G (bs.map D.bl) xs → xs = bs.map V.bl
  | [], _, r => by cases (show _ = _ from r); rfl
  | b :: bs, _, r => by
    obtain ⟨x, q, rfl, p, t⟩ := r
    cases (show _ = _ from p)
    rw [rps_bools t]; rfl
theorem vals_bools : ∀ {bs : List Bool} {us : List Value}, Vals (bs.map V.bl) us → us = bs.map Value.bool
  | [], _, r => by cases r; rfl
  | b :: bs, _, r => by
    cases r with
    | cons p t => cases p; rw [vals_bools t]; rfl
theorem range_all (bs : List Bool) : (List.range bs.length).all (fun i => bs.getD i false) = bs.all id := by
  have : bs = (List.range bs.length).map (fun i => bs.getD i false) := by
    apply List.ext_getElem
    · simp
    · intro i h1 h2; simp [h1]
  conv => rhs; rw [this]
  rw [List.all_map]; rfl
theorem c_all (hc : X.calm = true) (d : D) (z : Kd × D) (e : b1D .all d = some z) : CallR X (.builtin "all") (rC1 d z) := by
  cases d <;> first | (cases e; done) | skip
  case lst ds =>
    obtain ⟨bs, eb, rfl⟩ := mpd e
    have := boolsOf_get eb
    subst this
    intro pins s σ H xs us Q I rx h
    obtain ⟨v, rfl, G, gh, ⟨a, ys, rfl, g, rs⟩, k⟩ := h
    obtain ⟨u, rfl, ru⟩ := vals1 rx
    cases ru
    obtain ⟨zz, its, n, r, hl, e⟩ := Rd.get I g
    have e1 := rps_bools rs
    subst e1
    have e2 := vals_bools r
    subst e2
    have il : s.heap.IsList a (bs.map Value.bool).toArray := ⟨_, e, rfl, _, rfl⟩
    refine call_all_walk (wpAny_pyIter_list il ⟨s.heap.objs.size, _, _, _, _, _, fun i => bs.getD i false, rfl, Walks.list (A := X.A.in1) (I.ok.hd hc) s.heap.objs.size a (Nat.ne_of_lt (Heap.lt_size e)) (bs.map Value.bool).toArray, ⟨⟨_, Heap.get?_push_size _ rfl, rfl, rfl⟩, ?_⟩, ?_, ?_⟩)
    · exact il.at fun o q => Heap.get?_push_of_some _ q
    · intro i w s' Q' E' hw hq
      have : w = .bool (bs.getD i false) := by
        simp only [List.getElem?_toArray, List.getElem?_map] at hw
        obtain ⟨b, eb', rfl⟩ := mpd hw
        rw [List.getD_eq_getElem?_getD, eb']; rfl
      subst this
      exact wpAny_truthy_bool hq
    · intro h' tk keep
      have sz : (bs.map Value.bool).toArray.size = bs.length := by simp
      rw [sz, range_all]
      refine ⟨.bl _, H, I.kept (t' := tk) (h' := h') (fun b o q => keep b o (fun z => ?_) (Heap.get?_push_of_some _ q)), rfl, k _ H G (.refl gh) rfl⟩
      have : b = s.heap.objs.size := by simpa using z
      subst this
      exact absurd (Heap.lt_size q) (Nat.lt_irrefl _)
theorem de_b2 {f : B2} {x : Str} {id : String} {a b : Expr} {p pos : Pos} {ga gb : En → Option (Kd × D)} (hc : ∀ i j, CallR X (.builtin id) (fun xs H Q => xs = [.int i, .int j] ∧ ∀ z, b2D f (.int i) (.int j) = some (.fz, .int z) → Q (.int z) H))
    (hf : ∀ d e z, b2D f d e = some z → ∃ i j k, d = .int i ∧ e = .int j ∧ z = (.fz, .int k)) (hg : Gl X x) (hm : X.mg x = none) (hv : bootBuiltins x = some (.builtin id))
    (hn : x ≠ "__name__") (hdb : (x == ("__debug__" : Str)) = false) (ha : DE X a ga) (hb : DE X b gb) (hs : starEach [a, b] X.env = [(false, eval a X.env), (false, eval b X.env)]) (hs2 : starEach [b] X.env = [(false, eval b X.env)]) :
    DE X (.Call (.Name x p) [a, b] [] pos) (fun ρ => (ga ρ).bind fun x => (gb ρ).bind fun y => b2D f x.2 y.2) := by
  intro ρ z q
  obtain ⟨u, eu, q⟩ := bnd q
  obtain ⟨w, ew, q⟩ := bnd q
  obtain ⟨i, j, k, hi, hj, rfl⟩ := hf _ _ _ q
  refine pe_imp (pe_callB (hc i j) hg hm hv (pa_cons (ha ρ u eu) (pa_cons (hb ρ w ew) pa_nil hs2) (by rw [hs, hs2])) hn hdb (by rw [hs, hs2]) (by rw [hs2]; rfl)) ?_
  rintro σ H Q ⟨G, s, c⟩
  refine ⟨G, s, fun v H1 G1 x1 r1 => ⟨G1, s.ext x1, fun v2 H2 G2 x2 r2 => ⟨?_, fun z hz => ?_⟩⟩⟩
  · have e1 := r1.rb x1.gh
    have e2 := r2.rb x2.gh
    rw [hi] at e1
    rw [hj] at e2
    rw [show v = V.int i from e1, show v2 = V.int j from e2]
  · rw [hi, hj] at q
    rw [q] at hz
    cases hz
    exact c _ H2 G2 (x1.trans x2) rfl
theorem c_min2 (hc : X.calm = true) (i j : Int) : CallR X (.builtin "min") (fun xs H Q => xs = [.int i, .int j] ∧ ∀ z, b2D .min (.int i) (.int j) = some (.fz, .int z) → Q (.int z) H) :=
  TW.CallR.imp (call_min2 hc) fun xs H Q h => ⟨i, j, h.1, h.2 _ rfl⟩
theorem c_max2 (hc : X.calm = true) (i j : Int) : CallR X (.builtin "max") (fun xs H Q => xs = [.int i, .int j] ∧ ∀ z, b2D .max (.int i) (.int j) = some (.fz, .int z) → Q (.int z) H) :=
  TW.CallR.imp (call_max2 hc) fun xs H Q h => ⟨i, j, h.1, h.2 _ rfl⟩
theorem b2_ints (f : B2) (d e : D) (z : Kd × D) (h : b2D f d e = some z) : ∃ i j k, d = .int i ∧ e = .int j ∧ z = (.fz, .int k) := by
  cases f <;> cases d <;> cases e <;> first | (cases h; done) | (cases h; exact ⟨_, _, _, rfl, rfl, rfl⟩)
noncomputable def tyName : Ty → String
  | .int => "int"
  | .bool => "bool"
  | .str => "str"
  | .list => "list"
  | .tuple => "tuple"
  | .dict => "dict"
noncomputable def dName : D → String
  | .non => "NoneType"
  | .bl _ => "bool"
  | .int _ => "int"
  | .str _ => "str"
  | .tup _ => "tuple"
  | .lst _ => "list"
  | .scr _ _ _ => "NoneType"
  | .dct _ _ => "NoneType"
theorem kit_ty (K : PySem.W.Frag) (d : D) (t : Ty) : PySem.W.kitOne K (.type (dName d)) (.type (tyName t)) = some (isD t d) := by
  cases d <;> cases t <;> first | rfl | (show PySem.W.kitOne K _ _ = _; unfold PySem.W.kitOne PySem.W.kitCls; with_unfolding_all rfl)
theorem ty_of {pins : List (Addr × Obj)} {σ : L2.St} {G H : Hp} {s : Shared} (I : Inv X pins σ H s) (gh : Same G H) {d : D} {v : V} (r : Rb G H d v) (ns : (isiD .int d).isSome = true) : TyOf X.K H v (.type (dName d)) := by
  cases d with
  | scr K a n => cases ns
  | dct _ _ => cases ns
  | non => cases (show v = _ from r); exact .non
  | bl b => cases (show v = _ from r); exact .bl b
  | int b => cases (show v = _ from r); exact .int b
  | str b => cases (show v = _ from r); exact .str b
  | tup ds => obtain ⟨a, xs, rfl, g, _⟩ := r; exact .tup (gh _ _ g)
  | lst ds =>
    obtain ⟨a, xs, rfl, g, _⟩ := r
    rcases g with g | ⟨o, g⟩
    · exact .lst g
    · exact .frz g
theorem c_isi (d : D) (t : Ty) (ns : (isiD .int d).isSome = true) : CallR X (.builtin "isinstance") (fun xs H Q => ∃ v G, xs = [v, .ty (tyName t)] ∧ Same G H ∧ Rb G H d v ∧ Q (.bl (isD t d)) H) := by
  intro pins s σ H xs us Q I rx h
  obtain ⟨v, G, rfl, gh, r, q⟩ := h
  obtain ⟨u, u2, rfl, ru, ru2⟩ := vals2 rx
  cases ru2
  exact isinst_ok I ru (ty_of I gh r ns) (kit_ty X.K d t) fun tk => ⟨.bl _, H, I.tok tk, rfl, q⟩
theorem de_isi {e : Expr} {x : Str} {t : Ty} {p p2 pos : Pos} {g : En → Option (Kd × D)} (hg : Gl X "isinstance") (hm : X.mg "isinstance" = none) (hgx : Gl X x) (hmx : X.mg x = none) (hvx : bootBuiltins x = some (.type (tyName t)))
    (hn : x ≠ "__name__") (hdb : (x == ("__debug__" : Str)) = false) (ha : DE X e g) (hs : starEach [e, .Name x p2] X.env = [(false, eval e X.env), (false, eval (.Name x p2) X.env)]) :
    DE X (.Call (.Name "isinstance" p) [e, .Name x p2] [] pos) (fun ρ => (g ρ).bind fun x => isiD t x.2) := by
  intro ρ z q
  obtain ⟨⟨k, d⟩, ey, q⟩ := bnd q
  have ns : (isiD .int d).isSome = true := by cases d <;> first | rfl | exact no_some q
  have q' : z = (.fz, .bl (isD t d)) := by cases d <;> first | exact no_some q | (cases q; rfl)
  subst q'
  refine pe_imp (pe_callB (c_isi d t ns) hg hm boot_isinstance (pa_cons (ha ρ _ ey) (pa_cons (pe_bltn (v := .ty (tyName t)) hgx hmx hvx rfl hn hdb) pa_nil rfl) hs) (by decide) (by decide) hs rfl) ?_
  rintro σ H Q ⟨G, s, c⟩
  exact ⟨G, s, fun v H1 G1 x1 r1 => ⟨v, G1, rfl, x1.gh, r1.rb x1.gh, c _ H1 G1 x1 rfl⟩⟩
end
end TW
end
section
set_option Elab.async false
set_option linter.all false
set_option maxRecDepth 100000
set_option maxHeartbeats 4000000
namespace TW
open PySem PySem.Spec PyProof.Rows L2
structure OkS (G0 B G H : Hp) (σ : L2.St) (ρ : En) : Prop where
  sr : SR G H σ ρ
  ext : Ext G0 B G H
  nob : ∀ (i : Nat) (x : Sl) (l : Addr), ρ[i]? = some (some x) → x.isO = true → σ[i]? = some (some (.ref l)) → B l = none
noncomputable def tS (ρ : En) (f : Fl) : TS := fun D σ H => ∃ G0 B G, OkS G0 B G H σ ρ ∧ match f with
  | .nx ρ' => ∀ σ' H' G', OkS G0 B G' H' σ' ρ' → D.nx σ' H'
  | .bk ρ' => ∀ σ' H' G', OkS G0 B G' H' σ' ρ' → D.bk σ' H'
  | .ct ρ' => ∀ σ' H' G', OkS G0 B G' H' σ' ρ' → D.ct σ' H'
  | .rt d => ∀ v H' G', Ext G0 B G' H' → Rp G' d v → D.rt v H'
noncomputable def DS (X : Cx) (st : Stmt) (g : En → Option Fl) : Prop := ∀ ρ f, g ρ = some f → PS X st (tS ρ f)
noncomputable def DSs (X : Cx) (st : List Stmt) (g : En → Option Fl) : Prop := ∀ ρ f, g ρ = some f → PSs X st (tS ρ f)
section
variable {G0 B G H G' H' : Hp} {σ : L2.St} {ρ : En}
theorem OkS.grow (s : OkS G0 B G H σ ρ) (x : Ext G H G' H') : OkS G0 B G' H' σ ρ := ⟨s.sr.ext x, s.ext.trans x, s.nob⟩
theorem OkS.bound {σ' : L2.St} {ρ' : En} {tg : Tg} {d : D} (s : OkS G0 B G H σ ρ) (b : Bound tg d G σ σ') (e : bindT tg d ρ = some ρ') : OkS G0 B G H σ' ρ' := by
  refine ⟨⟨s.sr.toSR0.bound b e, s.sr.gh, s.sr.tb⟩, s.ext, ?_⟩
  have one : ∀ (σ : L2.St) (ρ : En) (i : Nat) (d : D) (v : V), (∀ (i : Nat) (x : Sl) (l : Addr), ρ[i]? = some (some x) → x.isO = true → σ[i]? = some (some (.ref l)) → B l = none) →
      (∀ (j : Nat) (x : Sl) (l : Addr), (ρ.set i (some (Sl.val d)))[j]? = some (some x) → x.isO = true → (σ.set i (some v))[j]? = some (some (.ref l)) → B l = none) := fun σ ρ i d v h j x l h1 hx h2 => by
    obtain ⟨n, h1⟩ := set_own h1 hx
    rw [List.getElem?_set_ne n] at h2
    exact h j x l h1 hx h2
  cases tg with
  | one i =>
    obtain ⟨v, r, rfl⟩ := b
    cases e
    exact one _ _ _ _ _ s.nob
  | many l =>
    obtain ⟨ds, xs, rfl, r, _, rfl⟩ := b
    have all : ∀ (l : List Nat) (ds : List D) (xs : List V) (σ : L2.St) (ρ ρ' : En), xs.length = ds.length → TW.setAll l ds ρ = some ρ' →
        (∀ (i : Nat) (x : Sl) (l : Addr), ρ[i]? = some (some x) → x.isO = true → σ[i]? = some (some (.ref l)) → B l = none) →
        (∀ (j : Nat) (x : Sl) (a : Addr), ρ'[j]? = some (some x) → x.isO = true → (setAllV l xs σ)[j]? = some (some (.ref a)) → B a = none) := by
      intro l
      induction l with
      | nil =>
        intro ds xs σ ρ ρ' hl e h
        cases ds with
        | nil => cases e; exact h
        | cons _ _ => cases e
      | cons i l ih =>
        intro ds xs σ ρ ρ' hl e h
        cases ds with
        | nil => cases e
        | cons d ds =>
          cases xs with
          | nil => simp at hl
          | cons x xs => exact ih ds xs _ _ ρ' (by simpa using hl) e (one _ _ _ _ _ h)
    exact all l ds xs σ ρ ρ' r.length e s.nob
theorem OkS.setV (s : OkS G0 B G H σ ρ) {i : Nat} {d : D} {v : V} (r : Rp G d v) : OkS G0 B G H (σ.set i (some v)) (ρ.set i (some (.val d))) := s.bound (tg := .one i) ⟨v, r, rfl⟩ rfl
theorem set_at {ρ : En} {i j : Nat} {y x : Sl} (h : (ρ.set i (some y))[j]? = some (some x)) : (i = j ∧ y = x ∧ i < ρ.length) ∨ (i ≠ j ∧ ρ[j]? = some (some x)) := by
  by_cases hij : i = j
  · subst hij
    have hi : i < ρ.length := by
      obtain ⟨q, _⟩ := List.getElem?_eq_some_iff.mp h; simpa using q
    rw [List.getElem?_set_self hi] at h
    cases h
    exact .inl ⟨rfl, rfl, hi⟩
  · rw [List.getElem?_set_ne hij] at h
    exact .inr ⟨hij, h⟩
theorem OkS.setW (s : OkS G0 B G H σ ρ) (x : Ext G H G' H') {i : Nat} {y : Sl} {l : Addr} {o : HO} (hy : y.isO = true) (hl' : H' l = some o) (hg : G' l = none) (hl : H l = none) (r : Ob G' y o) :
    OkS G0 B G' H' (σ.set i (some (.ref l))) (ρ.set i (some y)) := by
  have s' := s.grow x
  have hB : B l = none := s.ext.hh.free hl
  have fresh : ∀ (j : Nat) (z : Sl), ρ[j]? = some (some z) → z.isO = true → σ[j]? ≠ some (some (.ref l)) := fun j z e hz q => by
    obtain ⟨l', o', e1, h1, _⟩ := s.sr.owns j z e hz
    rw [q] at e1; cases e1
    rw [hl] at h1; cases h1
  refine ⟨⟨⟨by simp [s.sr.len], fun j e h => ?_, fun j z h hz => ?_, fun j k z z' a h1 hz h2 hz' e1 e2 => ?_⟩, x.gh, s.sr.tb.mono x.gg⟩, s'.ext, fun j z a h1 hz h2 => ?_⟩
  · rcases set_at h with ⟨_, e, _⟩ | ⟨n, h⟩
    · subst e; cases hy
    · rw [List.getElem?_set_ne n]
      exact s'.sr.val j e h
  · rcases set_at h with ⟨rfl, rfl, hi⟩ | ⟨n, h⟩
    · exact ⟨l, o, by rw [List.getElem?_set_self (by rw [s.sr.len]; exact hi)], hl', hg, r⟩
    · rw [List.getElem?_set_ne n]
      exact s'.sr.owns j z h hz
  · rcases set_at h1 with ⟨rfl, rfl, hi⟩ | ⟨n1, h1⟩
    · rcases set_at h2 with ⟨rfl, rfl, _⟩ | ⟨n2, h2⟩
      · rfl
      · rw [List.getElem?_set_self (by rw [s.sr.len]; exact hi)] at e1
        cases e1
        rw [List.getElem?_set_ne n2] at e2
        exact absurd e2 (fresh k z' h2 hz')
    · rw [List.getElem?_set_ne n1] at e1
      rcases set_at h2 with ⟨rfl, rfl, hi⟩ | ⟨n2, h2⟩
      · rw [List.getElem?_set_self (by rw [s.sr.len]; exact hi)] at e2
        cases e2
        exact absurd e1 (fresh j z h1 hz)
      · rw [List.getElem?_set_ne n2] at e2
        exact s.sr.dst j k z z' a h1 hz h2 hz' e1 e2
  · rcases set_at h1 with ⟨rfl, rfl, hi⟩ | ⟨n, h1⟩
    · rw [List.getElem?_set_self (by rw [s.sr.len]; exact hi)] at h2
      cases h2
      exact hB
    · rw [List.getElem?_set_ne n] at h2
      exact s.nob j z a h1 hz h2
theorem OkS.setO (s : OkS G0 B G H σ ρ) (x : Ext G H G' H') {i : Nat} {ds : List D} {l : Addr} {xs : List V} (hl' : H' l = some (.lst xs)) (hg : G' l = none) (hl : H l = none) (r : Rps G' ds xs) :
    OkS G0 B G' H' (σ.set i (some (.ref l))) (ρ.set i (some (.own ds))) := s.setW x rfl hl' hg hl ⟨xs, rfl, r⟩
theorem OkS.changeW (s : OkS G0 B G H σ ρ) {i : Nat} {x y : Sl} {l : Addr} {o : HO} (ho : ρ[i]? = some (some x)) (hx : x.isO = true) (hs : σ[i]? = some (some (.ref l))) (hy : y.isO = true) (r : Ob G y o) :
    OkS G0 B G (upd H l o) σ (ρ.set i (some y)) := by
  obtain ⟨l', o', e1, hl, hg, _⟩ := s.sr.owns i x ho hx
  rw [hs] at e1; cases e1
  have hB := s.nob i x l ho hx hs
  have hi : i < ρ.length := (List.getElem?_eq_some_iff.mp ho).1
  have gh : Same G (upd H l o) := fun b u e => by rw [upd_ne (ne_of_none e hg)]; exact s.sr.gh _ _ e
  have was : ∀ (j : Nat) (z : Sl), (ρ.set i (some y))[j]? = some (some z) → z.isO = true → ∃ z', ρ[j]? = some (some z') ∧ z'.isO = true := fun j z h hz => by
    rcases set_at h with ⟨rfl, rfl, _⟩ | ⟨_, h⟩
    · exact ⟨x, ho, hx⟩
    · exact ⟨z, h, hz⟩
  refine ⟨⟨⟨by simp [s.sr.len], fun j e h => ?_, fun j z h hz => ?_, fun j k z z' a h1 hz h2 hz' e1 e2 => ?_⟩, gh, s.sr.tb⟩, ⟨s.ext.gg, fun b u e => ?_, gh, s.ext.nw⟩, fun j z a h1 hz h2 => ?_⟩
  · rcases set_at h with ⟨_, e, _⟩ | ⟨n, h⟩
    · subst e; cases hy
    · exact s.sr.val j e h
  · rcases set_at h with ⟨rfl, rfl, _⟩ | ⟨n, h⟩
    · exact ⟨l, o, hs, upd_same, hg, r⟩
    · obtain ⟨l2, o2, e2, h2, g2, r2⟩ := s.sr.owns j z h hz
      have nl : l2 ≠ l := fun q => by subst q; exact n (s.sr.dst i j x z l2 ho hx h hz hs e2)
      exact ⟨l2, o2, e2, by rw [upd_ne nl]; exact h2, g2, r2⟩
  · obtain ⟨f1, h1, f1o⟩ := was j z h1 hz
    obtain ⟨f2, h2, f2o⟩ := was k z' h2 hz'
    exact s.sr.dst j k f1 f2 a h1 f1o h2 f2o e1 e2
  · rw [upd_ne (ne_of_none e hB)]; exact s.ext.hh _ _ e
  · obtain ⟨f1, h1, f1o⟩ := was j z h1 hz
    exact s.nob j f1 a h1 f1o h2
theorem OkS.change (s : OkS G0 B G H σ ρ) {i : Nat} {ds es : List D} {l : Addr} {ys : List V} (ho : ρ[i]? = some (some (Sl.own ds))) (hs : σ[i]? = some (some (.ref l))) (r : Rps G es ys) :
    OkS G0 B G (upd H l (.lst ys)) σ (ρ.set i (some (.own es))) := s.changeW ho rfl hs rfl ⟨ys, rfl, r⟩
theorem OkS.giveW (s : OkS G0 B G H σ ρ) {i : Nat} {x : Sl} {d : D} (ho : ρ[i]? = some (some x)) (hx : x.isO = true) (hd : ∀ (G : Hp) (l : Addr) (o : HO), Ob G x o → G l = some o → Rp G d (.ref l)) : ∃ G2, OkS G0 B G2 H σ (ρ.set i (some (.val d))) := by
  obtain ⟨l, o, hs, hl, hg, r⟩ := s.sr.owns i x ho hx
  have hB := s.nob i x l ho hx hs
  have hi : i < ρ.length := (List.getElem?_eq_some_iff.mp ho).1
  obtain ⟨x2, s2⟩ := s.ext.freeze hB hl hg
  refine ⟨_, ⟨⟨⟨by simp [s.sr.len], fun j e h => ?_, fun j z h hz => ?_, fun j k z z' a h1 hz h2 hz' e1 e2 => ?_⟩, x2.gh, s.sr.tb.mono s2⟩, x2, fun j z a h1 hz h2 => ?_⟩⟩
  · rcases set_at h with ⟨rfl, e, _⟩ | ⟨n, h⟩
    · cases e
      exact ⟨_, hs, hd _ _ _ (r.mono s2) upd_same⟩
    · obtain ⟨v, e1, r1⟩ := s.sr.val j e h
      exact ⟨v, e1, Rp.mono s2 _ _ r1⟩
  · obtain ⟨n, h⟩ := set_own h hz
    obtain ⟨l2, o2, e2, h2, g2, r2⟩ := s.sr.owns j z h hz
    have nl : l2 ≠ l := fun q => by subst q; exact n (s.sr.dst i j x z l2 ho hx h hz hs e2)
    exact ⟨l2, o2, e2, h2, by rw [upd_ne nl]; exact g2, r2.mono s2⟩
  · exact s.sr.dst j k z z' a (set_own h1 hz).2 hz (set_own h2 hz').2 hz' e1 e2
  · exact s.nob j z a (set_own h1 hz).2 hz h2
theorem OkS.give (s : OkS G0 B G H σ ρ) {i : Nat} {ds : List D} (ho : ρ[i]? = some (some (Sl.own ds))) : ∃ G2, OkS G0 B G2 H σ (ρ.set i (some (.val (.lst ds)))) :=
  s.giveW ho rfl fun G l o ⟨xs, e, r⟩ hl => ⟨l, xs, rfl, .inl (e ▸ hl), r⟩
theorem OkS.giveD (s : OkS G0 B G H σ ρ) {i : Nat} {ks : List Int} {ds : List D} (ho : ρ[i]? = some (some (Sl.ownd ks ds))) :
    ∃ l kvs, H l = some (.dK kvs) ∧ ∀ ob : Obj, ∃ G2, OkS G0 B G2 (upd H l (.frz ob (.dK kvs))) σ (ρ.set i (some (.val (.dct ks ds)))) := by
  obtain ⟨l, xs, hs, hl, hg, hlen, r⟩ := s.sr.ownd i ks ds ho
  have hB := s.nob i _ l ho rfl hs
  have hi : i < ρ.length := (List.getElem?_eq_some_iff.mp ho).1
  refine ⟨l, _, hl, fun ob => ⟨upd G l (.frz ob (.dK (zipK ks xs))), ?_⟩⟩
  have s2 : Same G (upd G l (.frz ob (.dK (zipK ks xs)))) := fun b u e => by rw [upd_ne (ne_of_none e hg)]; exact e
  have gh : Same (upd G l (.frz ob (.dK (zipK ks xs)))) (upd H l (.frz ob (.dK (zipK ks xs)))) := fun b u e => by
    by_cases hb : b = l
    · subst hb; rw [upd_same] at e ⊢; exact e
    · rw [upd_ne hb] at e ⊢; exact s.sr.gh _ _ e
  refine ⟨⟨⟨by simp [s.sr.len], fun j e h => ?_, fun j z h hz => ?_, fun j k z z' a h1 hz h2 hz' e1 e2 => ?_⟩, gh, s.sr.tb.mono s2⟩, ⟨s.ext.gg.trans s2, fun b u e => ?_, gh, fun b u e => ?_⟩, fun j z a h1 hz h2 => ?_⟩
  · rcases set_at h with ⟨rfl, e, _⟩ | ⟨n, h⟩
    · cases e
      exact ⟨_, hs, l, ob, xs, rfl, hlen, upd_same, Rps.mono s2 _ _ r⟩
    · obtain ⟨v, e1, r1⟩ := s.sr.val j e h
      exact ⟨v, e1, Rp.mono s2 _ _ r1⟩
  · obtain ⟨n, h⟩ := set_own h hz
    obtain ⟨l2, o2, e2, h2, g2, r2⟩ := s.sr.owns j z h hz
    have nl : l2 ≠ l := fun q => by subst q; exact n (s.sr.dst i j _ z l2 ho rfl h hz hs e2)
    exact ⟨l2, o2, e2, by rw [upd_ne nl]; exact h2, by rw [upd_ne nl]; exact g2, r2.mono s2⟩
  · exact s.sr.dst j k z z' a (set_own h1 hz).2 hz (set_own h2 hz').2 hz' e1 e2
  · rw [upd_ne (ne_of_none e hB)]; exact s.ext.hh _ _ e
  · by_cases hb : b = l
    · subst hb; exact .inr hB
    · rw [upd_ne hb] at e; exact s.ext.nw _ _ e
  · exact s.nob j z a (set_own h1 hz).2 hz h2
end
end TW
end
section
set_option Elab.async false
set_option linter.all false
set_option maxRecDepth 100000
set_option maxHeartbeats 4000000
namespace TW
open PySem PySem.Spec PyProof.Rows L2
section
variable {X : Cx}
theorem ps_imp {st : Stmt} {t t' : TS} (h : PS X st t) (i : ∀ E σ H, t' E σ H → t E σ H) : PS X st t' := fun pins s σ H E I q => h pins s σ H E I (i E σ H q)
theorem pss_imp {st : List Stmt} {t t' : TS} (h : PSs X st t) (i : ∀ E σ H, t' E σ H → t E σ H) : PSs X st t' := fun pins s σ H E I q => h pins s σ H E I (i E σ H q)
theorem Ext.join {G0 B G1 H1 G2 H2 : Hp} (a : Ext G0 B G1 H1) (b : Ext G1 B G2 H2) : Ext G0 B G2 H2 := ⟨a.gg.trans b.gg, b.hh, b.gh, fun c o e => (b.nw c o e).elim (a.nw c o) .inr⟩
theorem OkS.rebase {G0 B G H : Hp} {σ : L2.St} {ρ : En} (s : OkS G0 B G H σ ρ) : OkS G B G H σ ρ := ⟨s.sr, ⟨Same.refl _, s.ext.hh, s.sr.gh, fun _ _ e => .inl e⟩, s.nob⟩
theorem OkS.unbase {G0 B G1 H1 G2 H2 : Hp} {σ : L2.St} {ρ : En} (a : Ext G0 B G1 H1) (s : OkS G1 B G2 H2 σ ρ) : OkS G0 B G2 H2 σ ρ := ⟨s.sr, a.join s.ext, s.nob⟩
noncomputable def DAs (X : Cx) (st : Stmt) (i : Nat) (g : En → Option (Kd × D)) : Prop := ∀ ρ x, g ρ = some x → PS X st (tAsg (tD ρ x) (gName i))
theorem das_set {i : Nat} {x : Str} {e : Expr} {g : En → Option (Kd × D)} {pos pos' : Pos} (hN : X.N.Nodup) (hi : X.N[i]? = some x) (hx : Loc X.env.scope x) (hf : X.fn x = true ∨ X.env.scope.names.lookup x = some .local) (he : DE X e g)
    (hs : swapsWith e (some (.Name x pos')) pos.line X.env = pure false) : DAs X (.Assign [.Name x pos'] e pos) i g := fun ρ y ey => ps_set hN hi hx (he ρ y ey) hs hf
theorem das_comp {scope : Scope} {N' : List Str} {cap : List (Option Nat)} {elt target iter : Expr} {ifs : List Expr} {pos spos py : Pos} {y : Str} {i : Nat} {tg : Tg} {gi : En → Option (Kd × List D)} {gc : En → Option Bool} {ge : En → Option (Kd × D)}
    (B : BlkOk X scope N' cap) (nd : ∀ (i j k : Nat), cap[i]? = some (some k) → cap[j]? = some (some k) → i = j) (hcalm : X.calm = true) (hi : DI X target iter gi)
    (hg : ∀ s H fp, DG (blkX X scope N' s H fp) target tg) (hc : ∀ s H fp, DTs (blkX X scope N' s H fp) ifs gc) (he : ∀ s H fp, DE (blkX X scope N' s H fp) elt ge)
    (hs : ∀ x, foldedSetIterable iter X.env x = pure x) (hN : X.N.Nodup) (hy : X.N[i]? = some y) (hl : X.env.kindOf y = some .local)
    (hsw : swapsWith (.ListComp elt [⟨target, iter, ifs, 0⟩] scope pos) (some (.Name y py)) spos.line X.env = pure true) :
    DAs X (.Assign [.Name y py] (.ListComp elt [⟨target, iter, ifs, 0⟩] scope pos) spos) i (fun ρ => (gi ρ).bind fun ds => if ds.2.length ≤ lim ∧ freeT cap tg = true then
      (compGo (fun d => (bindT tg d (TW.capt ρ cap)).bind fun q => (gc q).bind fun k => if k then ((ge q).bind TW.frz).map some else some none) ds.2).map fun l => (.fr, .lst l)
    else none) := by
  intro ρ x q
  obtain ⟨ds, eds, q⟩ := bnd q
  split at q
  case isFalse => cases q
  rename_i hh
  obtain ⟨l, el, rfl⟩ := mpd q
  exact ps_imp (ps_comp B hcalm (hi ρ ds eds) hg (fun s H fp => (hc s H fp).x) (fun s H fp => (he s H fp).x) hs hN hy hl hsw) fun E σ H q => tD_comp hh.1 hh.2 nd el σ H _ q
theorem ds_asg {st : Stmt} {i : Nat} {g : En → Option (Kd × D)} (o : Bool) (h : DAs X st i g) : DS X st (fun ρ => (g ρ).bind fun x => match o, x with
    | true, (.fr, .lst ds) => some (.nx (ρ.set i (some (.own ds))))
    | _, x => (TW.frz x).map fun d => .nx (ρ.set i (some (.val d)))) := by
  intro ρ f e
  obtain ⟨x, ex, e⟩ := bnd e
  refine ps_imp (h ρ x ex) ?_
  rintro E σ H ⟨G0, B, G, s, k⟩
  refine ⟨G, s.sr, fun v H1 G1 x1 r1 => ?_⟩
  show E.nx (σ.set i (some v)) H1
  split at e
  · rename_i ds
    cases e
    obtain ⟨l, xs, es, ee, rfl, h1, h2, h3, rs⟩ := r1
    cases ee
    exact k _ _ _ (s.setO x1 h1 h2 h3 rs)
  · obtain ⟨d, ed, hf⟩ := mpd e
    subst hf
    obtain ⟨G2, x2, s2, rp⟩ := r1.frz x1 ed
    exact k _ _ _ ((s.grow x2).setV rp)
theorem ds_app {i : Nat} {x : Str} {e : Expr} {g : En → Option (Kd × D)} {p1 apos cpos pos : Pos} (hN : X.N[i]? = some x) (hv : Vis X.env.scope x) (hd : (x == ("__debug__" : Str)) = false) (hcd : (x == ("__classdict__" : Str)) = false)
    (he : DE X e g) (hs : starEach [e] X.env = [(false, eval e X.env)]) (hline : (apos.endLine == cpos.line) = true) :
    DS X (.Expr (.Call (.Attribute (.Name x p1) "append" apos) [e] [] cpos) pos) (fun ρ => ((g ρ).bind TW.frz).bind fun d => match ρ[i]? with
      | some (some (.own ds)) => if ds.length < lim then some (.nx (ρ.set i (some (.own (ds ++ [d]))))) else none
      | _ => none) := by
  intro ρ f q
  obtain ⟨d, ed, q⟩ := bnd q
  obtain ⟨y, ey, ef⟩ := bnd ed
  split at q
  case h_2 => cases q
  rename_i ds ho
  split at q
  case isFalse => cases q
  rename_i hl
  cases q
  refine ps_imp (ps_expr (pe_bm PySem.F.plainAttrs_list PySem.F.slot_list_append PySem.F.type_list_append mt_append (pe_var hN hv hd hcd) (pa_cons (he ρ y ey) pa_nil hs) rfl (by rw [hs]; rfl) hline hs rfl) rfl) ?_
  rintro E σ H ⟨G0, B, G, s, k⟩
  obtain ⟨l, xs, hs', hl', hg, r⟩ := s.sr.own i ds ho
  refine ⟨.ref l, hs', .inl ⟨rfl, xs, .inl (.inl hl')⟩, G, s.sr, fun v H1 G1 x1 r1 => ?_⟩
  obtain ⟨G2, x2, s2, rp⟩ := r1.frz x1 ef
  refine ⟨l, xs, v, rfl, rfl, x2.hh _ _ hl', ?_, ?_⟩
  · rw [r.length]; exact Nat.lt_of_lt_of_le hl lim_line
  · exact k _ _ _ ((s.grow x2).change ho hs' (Rps.append (Rps.mono x2.gg _ _ r) (Rps.cons rp Rps.nil)))
theorem ds_if {c : Expr} {a b : List Stmt} {gc : En → Option Bool} {ga gb : En → Option Fl} {pos : Pos} (hc : DT X c gc) (ha : DSs X a ga) (hb : DSs X b gb) : DS X (.If c a b pos) (fun ρ => (gc ρ).bind fun k => if k then ga ρ else gb ρ) := by
  intro ρ f q
  obtain ⟨k, ek, q⟩ := bnd q
  cases k with
  | false =>
    rw [if_neg Bool.false_ne_true] at q
    refine ps_imp (ps_if (hc ρ false ek) pss_never (hb ρ f q)) ?_
    rintro E σ H ⟨G0, B, G, s, c⟩
    exact ⟨G, s.sr, fun H1 G1 x1 => iteF ⟨G0, B, G1, s.grow x1, c⟩⟩
  | true =>
    rw [if_pos rfl] at q
    refine ps_imp (ps_if (hc ρ true ek) (ha ρ f q) pss_never) ?_
    rintro E σ H ⟨G0, B, G, s, c⟩
    exact ⟨G, s.sr, fun H1 G1 x1 => iteT ⟨G0, B, G1, s.grow x1, c⟩⟩
theorem ds_ret {e : Expr} {g : En → Option (Kd × D)} {pos : Pos} (he : DE X e g) : DS X (.Return (some e) pos) (fun ρ => ((g ρ).bind TW.frz).map Fl.rt) := by
  intro ρ f q
  obtain ⟨d, ed, rfl⟩ := mpd q
  obtain ⟨y, ey, ef⟩ := bnd ed
  refine ps_imp (ps_ret (he ρ y ey)) ?_
  rintro E σ H ⟨G0, B, G, s, k⟩
  refine ⟨G, s.sr, fun v H1 G1 x1 r1 => ?_⟩
  obtain ⟨G2, x2, s2, rp⟩ := r1.frz x1 ef
  exact k v H1 G2 (s.ext.trans x2) rp
theorem ds_pass {pos : Pos} : DS X (.Pass pos) (fun ρ => some (.nx ρ)) := by
  intro ρ f q
  cases q
  refine ps_imp ps_pass ?_
  rintro E σ H ⟨G0, B, G, s, k⟩
  exact k σ H G s
theorem ds_never {st : Stmt} : DS X st (fun _ => none) := fun ρ f q => by cases q
theorem dss_nil : DSs X [] (fun ρ => some (.nx ρ)) := by
  intro ρ f q
  cases q
  refine pss_imp pss_nil ?_
  rintro E σ H ⟨G0, B, G, s, k⟩
  exact k σ H G s
theorem dss_cons {st : Stmt} {rest : List Stmt} {g1 g2 : En → Option Fl} (h1 : DS X st g1) (h2 : DSs X rest g2) : DSs X (st :: rest) (fun ρ => (g1 ρ).bind fun o => match o with
    | .nx q => g2 q
    | x => some x) := by
  intro ρ f q
  obtain ⟨o, eo, q⟩ := bnd q
  cases o with
  | nx r =>
    refine pss_imp (pss_cons (h1 ρ _ eo) (h2 r f q)) ?_
    rintro E σ H ⟨G0, B, G, s, c⟩
    exact ⟨G0, B, G, s, fun σ' H' G' s' => ⟨G0, B, G', s', c⟩⟩
  | rt d =>
    cases q
    refine pss_imp (pss_cons (h1 ρ _ eo) pss_never) ?_
    rintro E σ H ⟨G0, B, G, s, c⟩
    exact ⟨G0, B, G, s, c⟩
  | bk d =>
    cases q
    refine pss_imp (pss_cons (h1 ρ _ eo) pss_never) ?_
    rintro E σ H ⟨G0, B, G, s, c⟩
    exact ⟨G0, B, G, s, c⟩
  | ct d =>
    cases q
    refine pss_imp (pss_cons (h1 ρ _ eo) pss_never) ?_
    rintro E σ H ⟨G0, B, G, s, c⟩
    exact ⟨G0, B, G, s, c⟩
theorem inv_frozen {pins : List (Addr × Obj)} {σ : L2.St} {H : Hp} {s : Shared} (I : Inv X pins σ H s) {l : Addr} {kvs : List (Key × V)} {ob : Obj} (hl : H l = some (.dK kvs)) (ho : s.heap.get? l = some ob) :
    Inv X pins σ (upd H l (.frz ob (.dK kvs))) s := by
  have nn : ∀ b, H b = none → upd H l (.frz ob (.dK kvs)) b = none := fun b e => by
    rw [upd_ne (fun z => by subst z; rw [hl] at e; cases e)]; exact e
  have tp : ∀ b xs, H b = some (.tup xs) → upd H l (.frz ob (.dK kvs)) b = some (.tup xs) := fun b xs e => by
    rw [upd_ne (fun z => by subst z; rw [hl] at e; cases e)]; exact e
  have ow : ∀ b c, H b = some (.own c) → upd H l (.frz ob (.dK kvs)) b = some (.own c) := fun b c e => by
    rw [upd_ne (fun z => by subst z; rw [hl] at e; cases e)]; exact e
  refine ⟨I.ok, I.os, I.bare, ⟨I.base.keep, I.base.slot, fun b o e n hx => nn b (I.base.free b o e n hx), I.base.there, fun b xs e => tp b xs (I.base.tups b xs e), fun b o u e => ?_, fun b ps e => ?_⟩, I.loc, I.cell, nn _ I.free, fun x c e => nn _ (I.freeC x c e),
    fun p hp => ⟨(I.pin p hp).1, nn _ (I.pin p hp).2.1, (I.pin p hp).2.2⟩, fun b u e => ?_, I.len⟩
  · have := I.base.frzs b o u e
    rw [upd_ne (fun z => by subst z; rw [hl] at this; cases this)]; exact this
  · obtain ⟨more, q⟩ := I.base.tbls b ps e
    exact ⟨more, by rw [upd_ne (fun z => by subst z; rw [hl] at q; cases q)]; exact q⟩
  · by_cases hb : b = l
    · subst hb
      rw [upd_same] at e
      cases e
      refine ⟨ho, ?_⟩
      exact (I.hok b _ hl).stay (fun c v _ q => q) (fun c q => ow c _ q) (fun c xs q => tp c xs q)
    · rw [upd_ne hb] at e
      exact (I.hok b u e).stay (fun c v _ q => q) (fun c q => ow c _ q) (fun c xs q => tp c xs q)
theorem dss_give {sts : List Stmt} {i : Nat} {g : En → Option Fl} (h : DSs X sts g) : DSs X sts (fun ρ => (match ρ[i]? with
    | some (some (.own ds)) => some (.nx (ρ.set i (some (.val (.lst ds)))))
    | some (some (.ownd ks ds)) => some (.nx (ρ.set i (some (.val (.dct ks ds)))))
    | _ => none : Option Fl).bind fun o => match o with
    | .nx q => g q
    | x => some x) := by
  intro ρ f q
  obtain ⟨o, eo, q⟩ := bnd q
  split at eo
  · rename_i ds ho
    cases eo
    refine pss_imp (h _ f q) ?_
    rintro E σ H ⟨G0, B, G, s, c⟩
    obtain ⟨G2, s2⟩ := s.give ho
    exact ⟨G0, B, G2, s2, c⟩
  · rename_i ks ds ho
    cases eo
    intro pins s σ H E I ⟨G0, B, G, ok, c⟩
    obtain ⟨l, kvs, hl, k⟩ := ok.giveD ho
    obtain ⟨_, _, vs, _, dd⟩ := dk_of I.hok hl
    obtain ⟨ob, _, _, hob, _⟩ := dd
    obtain ⟨G2, ok2⟩ := k ob
    exact h _ f q pins s σ _ E (inv_frozen I hl hob) ⟨G0, B, G2, ok2, c⟩
  · cases eo
noncomputable def xS (g : En → Option Fl) : TS := fun E σ H => ∃ ρ f, g ρ = some f ∧ tS ρ f E σ H
theorem DSs.x {st : List Stmt} {g : En → Option Fl} (h : DSs X st g) : PSs X st (xS g) := fun pins s σ H E I ⟨ρ, f, e, q⟩ => h ρ f e pins s σ H E I q
theorem DT.x {e : Expr} {g : En → Option Bool} (h : DT X e g) : PT X e (xT g) := fun pins s σ H Q I ⟨ρ, b, e, q⟩ => h ρ b e pins s σ H Q I q
theorem ds_for {tg iter : Expr} {body : List Stmt} {t : Tg} {gi : En → Option (Kd × List D)} {gb : En → Option Fl} {pos : Pos} (hp : PassesOwn (model X.prog X.w) X.A X.env X.xe) (hc : X.calm = true) (hi : DI X tg iter gi) (hg : DG X tg t) (hb : DSs X body gb)
    (hs : ∀ x, foldedSetIterable iter X.env x = pure x) : DS X (.For tg iter body [] pos) (fun ρ => (gi ρ).bind fun ds => match ds.1 with
      | .bo => none
      | _ => loopF t gb ds.2 ρ) := by
  intro ρ f q
  obtain ⟨⟨k, ds⟩, ei, q⟩ := bnd q
  have hk : k ≠ .bo := fun z => by subst z; cases q
  have q' : loopF t gb ds ρ = some f := by
    cases k with
    | bo => cases q
    | fz => exact q
    | fr => exact q
  clear q
  refine ps_imp (ps_for hp hc (hi ρ _ ei) hg hb.x hs) ?_
  rintro E σ H ⟨G0, B, G, s, c⟩
  refine ⟨G, s.sr, fun J H1 G1 x1 _ it1 => ?_⟩
  have it := it1 hk
  refine ⟨fun i m σ' H' => m = ds.length - i ∧ i ≤ ds.length ∧ ∃ ρ' G', Same G1 G' ∧ OkS G0 B G' H' σ' ρ' ∧ loopF t gb (ds.drop i) ρ' = some f, ⟨ds.length, rfl, Nat.zero_le _, ρ, G1, Same.refl _, s.grow x1, by simpa using q'⟩, ?_⟩
  rintro i m σ' H' ⟨rfl, hi, ρ', G', g1, s', lp⟩
  have P : Same G1 G' ∧ Same G' H' := ⟨g1, s'.sr.gh⟩
  by_cases hlt : i < ds.length
  · right
    have ed : ds[i]? = some ds[i] := by simp [hlt]
    obtain ⟨jgo, jy⟩ := (it i G' H' P).1 _ ed
    refine ⟨jgo, fun σ3 H3 => ∃ ρ3 G3, Same G1 G3 ∧ OkS G0 B G3 H3 σ3 ρ3 ∧ loopF t gb (ds.drop (i + 1)) ρ3 = some f, fun σ3 H3 ⟨ρ3, G3, a, b, d⟩ => ⟨_, ?_, rfl, hlt, ρ3, G3, a, b, d⟩, fun x H2 hy => ?_⟩
    · omega
    obtain ⟨G2, x2, rx⟩ := jy x H2 hy
    rw [List.drop_eq_getElem_cons hlt] at lp
    obtain ⟨q1, eb, lp⟩ := bnd lp
    obtain ⟨o, eo, lp⟩ := bnd lp
    refine ⟨G2, _, x2.gh, rx, bindT_len eb, fun σ2 bd => ?_⟩
    have s2 := (s'.grow x2).bound bd eb
    refine ⟨q1, o, eo, G2, B, G2, s2.rebase, ?_⟩
    cases o with
    | nx q2 => exact fun σ3 H3 G3 s3 => ⟨q2, G3, (g1.trans x2.gg).trans s3.ext.gg, s3.unbase s2.ext, lp⟩
    | ct q2 => exact fun σ3 H3 G3 s3 => ⟨q2, G3, (g1.trans x2.gg).trans s3.ext.gg, s3.unbase s2.ext, lp⟩
    | bk q2 =>
      cases lp
      exact fun σ3 H3 G3 s3 => c _ _ _ (s3.unbase s2.ext)
    | rt d =>
      cases lp
      exact fun v H3 G3 x3 r3 => c v H3 G3 (s2.ext.join x3) r3
  · left
    have e : i = ds.length := by omega
    subst e
    rw [List.drop_length] at lp
    cases lp
    exact ⟨(it _ G' H' P).2 (Nat.le_refl _), c _ _ _ s'⟩
end
theorem enter_ok {G H : Hp} (gh : Same G H) (tb : Tb G) {N : List Str} {ds : List D} {vs : List V} (r : Rps G ds vs) : OkS G H G H (L2.start N vs) (enter N.length ds) := by
  have hl := r.length
  have noO : ∀ (i : Nat) (es : Sl), (enter N.length ds)[i]? = some (some es) → ¬ es.isO = true := fun i es h ho => by
    unfold enter at h
    by_cases hi : i < ds.length
    · rw [List.getElem?_append_left (by simpa using hi), List.getElem?_map] at h
      obtain ⟨d, _, e⟩ := Option.map_eq_some_iff.mp h
      cases e
      cases ho
    · rw [List.getElem?_append_right (by simpa using hi), List.getElem?_replicate] at h
      split at h <;> cases h
  refine ⟨⟨⟨?_, fun i d h => ?_, fun i es h ho => absurd ho (noO i es h), fun i j es es' l h ho => absurd ho (noO i es h)⟩, gh, tb⟩, .refl gh, fun i es l h ho => absurd ho (noO i es h)⟩
  · simp [L2.start, enter, hl]
  · unfold enter at h
    by_cases hi : i < ds.length
    · rw [List.getElem?_append_left (by simpa using hi), List.getElem?_map] at h
      obtain ⟨d', e1, e2⟩ := Option.map_eq_some_iff.mp h
      cases e2
      obtain ⟨v, ev, rv⟩ := r.get e1
      refine ⟨v, ?_, rv⟩
      unfold L2.start
      rw [List.getElem?_append_left (by rw [List.length_map, hl]; exact hi), List.getElem?_map, ev]
      rfl
    · rw [List.getElem?_append_right (by simpa using hi), List.getElem?_replicate] at h
      split at h <;> cases h
theorem fnD {P : Program} {w : World} {K : PySem.W.Frag} {mg : Str → Option Value} {base : Heap} {x qual : Str} {st : Stmt} {f : Addr} {fd : FuncData} {N ps : List Str} {k : Nat} {g : En → Option Fl} (F : Fun K x qual st f fd) (S : FnScope N ps (defScope st))
    (hb : ∀ (cdv : Value) (A : Around) (outer : List Env) (s : Shared) (H : Hp) (E : XK), Room k (A.deeper (envOfC qual (defScope st) s.heap.objs.size f cdv)) → DSs (cxOf CX0 P w K mg base N qual (defScope st) f cdv A outer s H E).nox (defBody st) g) :
    FnOk P w K mg base CX0 (k + 1) f fd ps (spD ps.length fun ds => left (g (enter N.length ds))) := by
  refine F.ok S (fun vs H Q E h => ?_) (fun cdv A outer s H vs Q E hr h => ?_)
  · obtain ⟨G, ds, d, _, r, hl, _⟩ := h
    rw [r.length, hl]
  · obtain ⟨G, ds, d, gh, r, hl, e, k'⟩ := h
    dsimp only at e
    have s0 := enter_ok (N := N) gh.1 gh.2 r
    cases o : g (enter N.length ds) with
    | none => rw [o] at e; cases e
    | some fl =>
      rw [o] at e
      refine ⟨_, hb cdv A outer s H E hr _ _ o, G, H, G, s0, ?_⟩
      cases fl with
      | rt d' => cases e; exact fun v H' G' x r => k' v H' G' x r
      | nx ρ' => cases e; exact fun σ' H' G' s' => k' _ H' G' s'.ext rfl
      | bk _ => cases e
      | ct _ => cases e
end TW
end
section
set_option Elab.async false
set_option linter.all false
set_option maxRecDepth 100000
set_option maxHeartbeats 4000000
namespace TW
open PySem PySem.Spec PyProof.Rows L2
open AutoSeq1 (wpAny_loadPart')
section
variable {P : Program} {w : World} {A : Around} {E : Value → Shared → Prop} {s : Shared}
end
section
variable {X : Cx} {pins : List (Addr × Obj)} {σ : L2.St} {H : Hp} {s : Shared} {h' : Heap}
end
section
variable {X : Cx}
end
end TW
end
section
set_option Elab.async false
set_option linter.all false
set_option maxRecDepth 100000
set_option maxHeartbeats 4000000
namespace TW
open PySem PySem.Spec PyProof.Rows L2
section
variable {P : Program} {w : World} {A : Around} {E : Value → Shared → Prop} {s : Shared}
end
section
variable {X : Cx}
end
end TW
end
section
set_option Elab.async false
set_option linter.all false
set_option maxRecDepth 100000
set_option maxHeartbeats 4000000
namespace TW
open PySem PySem.Spec PyProof.Rows L2
section
variable {X : Cx} {tg : Expr}
end
end TW
end
section
set_option Elab.async false
set_option linter.all false
set_option maxRecDepth 100000
set_option maxHeartbeats 4000000
namespace TW
open PySem PySem.Spec PyProof.Rows L2
section
variable {X : Cx} {tg : Expr}
end
end TW
end
section
set_option Elab.async false
set_option linter.all false
set_option maxRecDepth 100000
set_option maxHeartbeats 4000000
namespace TW
open PySem PySem.Spec PyProof.Rows L2
open PySem.AutoSeq1 (wpAny_loadPart')
section
variable {prog : Program} {w : World} {A : Around} {E : Value → Shared → Prop} {s : Shared}
end
section
variable {X : Cx}
end
end TW
end
section
set_option Elab.async false
set_option linter.all false
set_option maxRecDepth 100000
set_option maxHeartbeats 4000000
namespace TW
open PySem PySem.Spec PyProof.Rows L2
section
variable {prog : Program} {w : World} {A : Around} {E : Value → Shared → Prop} {s : Shared}
end
section
variable {X : Cx}
end
section
variable {prog : Program} {w : World} {A : Around} {E : Value → Shared → Prop} {s : Shared}
noncomputable abbrev met (ns : List Int) (k : Nat) : List Int := firstMet (fun i => ns.getD i 0) k
end
section
variable {X : Cx}
end
end TW
end
section
set_option Elab.async false
set_option linter.all false
set_option maxRecDepth 100000
set_option maxHeartbeats 4000000
namespace TW
open PySem PySem.Spec PyProof.Rows L2
section
variable {X : Cx}
theorem strsOf_eq : ∀ {ds : List D} {l : List Str}, strsOf ds = some l → ds = l.map D.str
  | [], l, h => by cases h; rfl
  | d :: r, l, h => by
    cases d <;> first | exact no_some h | skip
    rename_i x
    obtain ⟨q, e, rfl⟩ := mpd h
    rw [strsOf_eq e]
    rfl
theorem Rps.strs {G : Hp} : ∀ {l : List Str} {vs : List V}, Rps G (l.map D.str) vs → vs = l.map V.str
  | [], vs, h => h
  | x :: l, vs, h => by
    obtain ⟨v, r, rfl, h1, h2⟩ := h
    cases (show v = _ from h1)
    rw [Rps.strs (l := l) h2]
    rfl
theorem vals_strs : ∀ {l : List Str} {us : List Value}, Vals (l.map V.str) us → ∃ lt : List (Str × Tok), us = strValues lt ∧ lt.map (·.1) = l
  | [], us, h => by cases h; exact ⟨[], rfl, rfl⟩
  | x :: l, us, h => by
    cases h with
    | cons a b =>
      obtain ⟨t, rfl⟩ := a
      obtain ⟨lt, rfl, e⟩ := vals_strs b
      exact ⟨(x, t) :: lt, rfl, by rw [List.map_cons, e]⟩
theorem join_size (sep : Str) : ∀ (l : List Str) (acc : Array Nat) (n : Nat), acc.size ≤ n → (l.foldl (fun acc p => acc ++ sep.cps ++ p.cps) acc).size ≤ l.foldl (fun n x => n + x.length + sep.length) n
  | [], acc, n, h => h
  | x :: l, acc, n, h => by
    rw [List.foldl_cons, List.foldl_cons]
    refine join_size sep l _ _ ?_
    rw [Array.size_append, Array.size_append]
    have : x.length = x.cps.size := rfl
    have : sep.length = sep.cps.size := rfl
    omega
theorem joinS_len (sep : Str) (l : List Str) : (joinS sep l).length ≤ jlen sep l := by
  cases l with
  | nil => exact Nat.le_refl _
  | cons x l =>
    refine join_size sep l _ _ ?_
    show x.cps.size ≤ 0 + x.length + sep.length
    have : x.length = x.cps.size := rfl
    omega
theorem mt_join : MtR X "str.join" (fun x xs H Q => ∃ sep a l, x = .str sep ∧ xs = [.ref a] ∧ Rd H a (.lst (l.map V.str)) ∧ jlen sep l ≤ lim ∧ Q (.str (joinS sep l)) H) := by
  intro pins s σ H x xs v us Q I rx rv h
  obtain ⟨sep, a, l, rfl, rfl, hr, hj, q⟩ := h
  obtain ⟨t, rfl⟩ := rx
  obtain ⟨u, rfl, ru⟩ := rv.one
  cases ru
  obtain ⟨z, its, n, r, hl, e⟩ := Rd.get I hr
  obtain ⟨lt, rfl, el⟩ := vals_strs r
  refine call_meets F.slot_str_join (typeIs_str s sep t) F.entry_str_join (F.args_str_join_2 _ _) (meets_str_join_list sep t a lt ?_) ⟨⟨_, e, rfl, n, rfl⟩, ?_⟩
  · rw [el]
    unfold Builtin.Str.tooLong
    rw [List.foldl_toArray]
    have : jlen sep l ≤ sizeLine := Nat.le_trans hj lim_line
    unfold jlen at this
    simpa using this
  · have fin : ∀ tk, EP X pins σ Q (.str (joinS sep l) tk) { s with toks := tk + 1 } := fun tk => ⟨.str (joinS sep l), H, I.tok _, ⟨_, rfl⟩, q⟩
    have hz : (joinS sep l).length ≤ sizeLine := Nat.le_trans (joinS_len sep l) (Nat.le_trans hj lim_line)
    cases lt with
    | nil => cases el; exact ⟨hz, fin _⟩
    | cons p r' =>
      cases r' with
      | nil =>
        cases el
        exact ⟨.str (joinS sep [p.1]), H, I, ⟨p.2, rfl⟩, q⟩
      | cons p2 r2 =>
        subst el
        exact ⟨hz, fin _⟩
theorem de_join {sep : Str} {e : Expr} {j : Nat} {cp apos cpos : Pos} {g : En → Option (Kd × D)} (he : DE X e g) (hs : starEach [e] X.env = [(false, eval e X.env)]) (hline : (apos.endLine == cpos.line) = true) :
    DE X (.Call (.Attribute (.Constant (.str sep) j cp) "join" apos) [e] [] cpos) (fun ρ => (g ρ).bind fun x => match x.2 with
      | .lst ds => (strsOf ds).bind fun l => if jlen sep l ≤ lim then some (.fz, .str (joinS sep l)) else none
      | _ => none) := by
  intro ρ z q
  obtain ⟨⟨k, d⟩, ey, q⟩ := bnd q
  obtain ⟨ds, rfl⟩ : ∃ ds, d = .lst ds := by cases d <;> first | exact no_some q | exact ⟨_, rfl⟩
  obtain ⟨l, el, q⟩ := bnd q
  obtain ⟨hl, rfl⟩ := if_some q
  have := strsOf_eq el
  subst this
  refine pe_imp (pe_bm PySem.F.plainAttrs_str PySem.F.slot_str_join PySem.F.type_str_join mt_join pe_str (pa_cons (he ρ _ ey) pa_nil hs) rfl (by rw [hs]; rfl) hline hs rfl) ?_
  rintro σ H Q ⟨G, sr, c⟩
  refine ⟨rfl, G, sr, fun v H1 G1 x1 r1 => ?_⟩
  obtain ⟨l2, ys, rfl, rd, rs⟩ := r1.rb x1.gh
  have := rs.strs
  subst this
  exact ⟨sep, l2, l, rfl, rfl, rd, hl, c _ _ _ x1 rfl⟩
end
end TW
end
section
set_option Elab.async false
set_option linter.all false
set_option maxRecDepth 100000
set_option maxHeartbeats 4000000
namespace TW
open PySem PySem.Spec PyProof.Rows L2
section
variable {X : Cx}
end
end TW
end
section
set_option Elab.async false
set_option linter.all false
set_option maxRecDepth 100000
set_option maxHeartbeats 4000000
namespace TW
open PySem PySem.Spec PyProof.Rows L2
open PySem.Builtin.Str (partsBetween occurrences)
theorem vals_sv : ∀ l : List (Str × Tok), Vals ((l.map (·.1)).map V.str) (strValues l)
  | [] => .nil
  | (x, t) :: r => .cons ⟨t, rfl⟩ (vals_sv r)
section
variable {X : Cx}
noncomputable def rSpl : V → List V → Hp → VK → Prop := fun x xs H Q => ∃ z y, x = .str z ∧ xs = [.str y] ∧ (y.length == 0) = false ∧ z.length ≤ sizeLine ∧ (Txt.split z y).length ≤ sizeLine ∧ (partsBetween z (occurrences z y 0 z.length (z.length + 1)) y.length).length ≤ sizeLine ∧
  ∀ p, H p = none → Q (.ref p) (upd H p (.lst ((Txt.split z y).map V.str)))
theorem mt_split : MtR X "str.split" rSpl := by
  intro pins s σ H x xs v us Q I rx rv h
  obtain ⟨z, y, rfl, rfl, hy, hz, hl, hp, q⟩ := h
  obtain ⟨t, rfl⟩ := rx
  obtain ⟨uu, rfl, u, rfl⟩ := rv.one
  have fin : ∀ (l : List (Str × Tok)) tk, l.map (·.1) = Txt.split z y → EP X pins σ Q (.ref s.heap.objs.size) { s with heap := s.heap.push { cls := .type "list", data := .seq (strValues l).toArray }, toks := tk } := fun l tk e =>
    ⟨.ref _, _, I.laid (t' := tk) (h' := s.heap.push { cls := .type "list", data := .seq (strValues l).toArray }) (o := .lst ((Txt.split z y).map V.str)) (fun b o e => Heap.get?_push_of_some _ e) (Nat.le_refl _) ⟨by rw [List.length_map]; exact hl, strValues l, 0, by rw [← e]; exact vals_sv l, Heap.get?_push_size _ rfl⟩, rfl, q _ I.fresh⟩
  cases h1 : (decide (z.length < y.length) || decide (Builtin.Str.strKind z < Builtin.Str.strKind y))
  · cases hf : (occurrences z y 0 z.length (z.length + 1)).isEmpty
    · refine call_meets F.slot_str_split (typeIs_str _ _ _) F.entry_str_split (F.args_str_split_2 _ _) (meets_str_split_sep z y t u h1 hy hf hz hp) ?_
      show wants _ _ _ { s with toks := _, heap := s.heap.push { cls := .type "list", data := .seq (strsFrom s.toks (partsBetween z (occurrences z y 0 z.length (z.length + 1)) y.length)).toArray } }
      rw [strsFrom_eq]
      exact fin (numbered s.toks _) _ ((numbered_texts _ _).trans ((if_neg (ne_true_of_eq_false h1)).trans (if_neg (ne_true_of_eq_false hf))).symm)
    · exact call_meets F.slot_str_split (typeIs_str _ _ _) F.entry_str_split (F.args_str_split_2 _ _) (meets_str_split_not_found z y t u h1 hy hf) (fin [(z, t)] s.toks ((if_neg (ne_true_of_eq_false h1)).trans (if_pos hf)).symm)
  · exact call_meets F.slot_str_split (typeIs_str _ _ _) F.entry_str_split (F.args_str_split_2 _ _) (meets_str_split_cannot_occur z y t u h1) (fin [(z, t)] s.toks (if_pos h1).symm)
noncomputable def rFnd : V → List V → Hp → VK → Prop := fun x xs H Q => ∃ z y, x = .str z ∧ xs = [.str y] ∧ Q (.int (match occurrences z y 0 z.length 1 with | i :: _ => (i : Int) | [] => -1)) H
theorem mt_find : MtR X "str.find" rFnd := by
  intro pins s σ H x xs v us Q I rx rv h
  obtain ⟨z, y, rfl, rfl, q⟩ := h
  obtain ⟨t, rfl⟩ := rx
  obtain ⟨uu, rfl, u, rfl⟩ := rv.one
  exact call_gives F.slot_str_find (typeIs_str _ _ _) F.entry_str_find (F.args_str_find_2 _ _) (gives_str_find z y t u) ⟨.int _, H, I.tok _, ⟨_, rfl⟩, q⟩
theorem de_tix {a b : Expr} {ga gb : En → Option (Kd × D)} {pos : Pos} (hs : PlainIx b) (ha : DE X a ga) (hb : DE X b gb) :
    DE X (.Subscript a b pos) (fun ρ => (ga ρ).bind fun x => (gb ρ).bind fun y => tixD x.2 y.2) := by
  intro ρ w e
  obtain ⟨⟨kx, dx⟩, ex, e⟩ := bnd e
  obtain ⟨⟨ky, dy⟩, ey, e⟩ := bnd e
  obtain ⟨z, rfl⟩ : ∃ z, dx = .str z := by cases dx <;> first | exact no_some e | exact ⟨_, rfl⟩
  obtain ⟨i, rfl⟩ : ∃ i, dy = .int i := by cases dy <;> first | exact no_some e | exact ⟨_, rfl⟩
  change (if z.length ≤ lim then (TW.atI z.cps.toList i).map fun c => (Kd.fz, D.str ⟨#[c]⟩) else none) = some w at e
  split at e
  case isFalse => cases e
  rename_i hz
  obtain ⟨c, ec, rfl⟩ := mpd e
  refine pe_imp (pe_ix (TW.IxR.imp ix_str (r' := rD (.str z) (.int i) (.fz, .str ⟨#[c]⟩)) ?_) (ha ρ _ ex) (hb ρ _ ey) hs) tD_op
  rintro v u H Q ⟨G, gh, rv, ru, k⟩
  cases (show v = _ from rv)
  cases (show u = _ from ru)
  exact ⟨z, i, c, rfl, rfl, Nat.le_trans hz lim_line, ec, k _ H G (.refl gh) rfl⟩
theorem op_tin (x y : D) (k : Bool) (e : tinO x y = some k) : OpR X (compareOp .In) (rD x y (.fz, .bl k)) := by
  obtain ⟨i, rfl⟩ : ∃ i, x = .str i := by cases x <;> first | exact no_some e | exact ⟨_, rfl⟩
  obtain ⟨j, rfl⟩ : ∃ j, y = .str j := by cases y <;> first | exact no_some e | exact ⟨_, rfl⟩
  cases e
  refine TW.OpR.imp op_in_str ?_
  rintro v u H Q ⟨G, gh, rv, ru, k⟩
  cases (show v = _ from rv)
  cases (show u = _ from ru)
  exact ⟨i, j, rfl, rfl, k _ H G (.refl gh) rfl⟩
theorem de_tin {a b : Expr} {ga gb : En → Option (Kd × D)} {pos : Pos} (hm : behindInMarks .In b = false) (ha : DE X a ga) (hb : DE X b gb) :
    DE X (.Compare a [.In] [b] pos) (fun ρ => (ga ρ).bind fun x => (gb ρ).bind fun y => (tinO x.2 y.2).map fun b => (.fz, .bl b)) := by
  intro ρ z e
  obtain ⟨x, ex, e⟩ := bnd e
  obtain ⟨y, ey, e⟩ := bnd e
  obtain ⟨k, ek, rfl⟩ := mpd e
  exact pe_imp (pe_cmpR (op_tin _ _ _ ek) (ha ρ x ex) (hb ρ y ey) hm) tD_op
theorem dt_tin {a b : Expr} {ga gb : En → Option (Kd × D)} {pos : Pos} (hm : behindInMarks .In b = false) (ha : DE X a ga) (hb : DE X b gb) :
    DT X (.Compare a [.In] [b] pos) (fun ρ => (ga ρ).bind fun x => (gb ρ).bind fun y => tinO x.2 y.2) := by
  intro ρ z e
  obtain ⟨x, ex, e⟩ := bnd e
  obtain ⟨y, ey, e⟩ := bnd e
  exact pt_imp (pt_cmpR (op_tin _ _ _ e) (ha ρ x ex) (hb ρ y ey) hm) tDT_cmp
theorem c_itx (d : D) (z : Kd × D) (e : b1D .itx d = some z) : CallR X (.type "int") (rC1 d z) := by
  obtain ⟨x, rfl⟩ : ∃ x, d = .str x := by cases d <;> first | exact no_some e | exact ⟨_, rfl⟩
  change (if x.length ≤ 640 then (intText? x).map fun n => (Kd.fz, D.int n) else none) = some z at e
  split at e
  case isFalse => cases e
  rename_i hl
  obtain ⟨n, en, rfl⟩ := mpd e
  intro pins s σ H xs us Q I r h
  obtain ⟨v, rfl, G, gh, rv, k⟩ := h
  cases (show v = _ from rv)
  obtain ⟨uu, rfl, u, rfl⟩ := r.one
  exact PySem.W.KIN.call_text en hl ⟨.int n, H, I.tok _, ⟨_, rfl⟩, k _ H G (.refl gh) rfl⟩
noncomputable def rTm (x y : D) (z : Kd × D) : V → List V → Hp → VK → Prop := fun v vs H Q => ∃ G u, vs = [u] ∧ Same G H ∧ Rb G H x v ∧ Rb G H y u ∧ ∀ w H' G', Ext G H G' H' → RR G' H' H w z → Q w H'
noncomputable def tmId : TM → String
  | .split => "str.split"
  | .find => "str.find"
theorem rps_str {G : Hp} : ∀ (l : List Str), Rps G (l.map D.str) (l.map V.str)
  | [] => rfl
  | x :: l => ⟨.str x, l.map V.str, rfl, rfl, rps_str l⟩
theorem mt_tm (f : TM) (x y : D) (z : Kd × D) (e : tmD f x y = some z) : MtR X (tmId f) (rTm x y z) := by
  have hx : ∃ i, x = .str i := by cases f <;> cases x <;> first | exact no_some e | exact ⟨_, rfl⟩
  obtain ⟨i, rfl⟩ := hx
  have hy : ∃ j, y = .str j := by cases f <;> cases y <;> first | exact no_some e | exact ⟨_, rfl⟩
  obtain ⟨j, rfl⟩ := hy
  intro pins s σ H v vs vv us Q I rv rvs h
  obtain ⟨G, u, rfl, gh, rx, ry, q⟩ := h
  cases (show v = _ from rx)
  cases (show u = _ from ry)
  cases f with
  | find =>
    cases e
    exact mt_find pins s σ H _ _ vv us Q I rv rvs ⟨i, j, rfl, rfl, q _ H G (.refl gh) rfl⟩
  | split =>
    change (if (j.length == 0) = false ∧ i.length + 2 ≤ lim then some (Kd.fr, D.lst ((Txt.split i j).map D.str)) else none) = some z at e
    split at e
    case isFalse => cases e
    rename_i hl
    cases e
    refine mt_split pins s σ H _ _ vv us Q I rv rvs ⟨i, j, rfl, rfl, hl.1, Nat.le_trans (by omega) (Nat.le_trans hl.2 lim_line), Nat.le_trans (PyProof.Rows.split_le i j) (Nat.le_trans hl.2 lim_line), ?_, fun p hp => ?_⟩
    · rw [PyProof.Rows.len_partsBetween]
      have := StrLaws.occ_length_le i j 0 i.length (i.length + 1)
      exact Nat.le_trans (by omega) (Nat.le_trans hl.2 lim_line)
    · obtain ⟨x2, rr⟩ := fresh_ok gh hp (rps_str (G := G) (Txt.split i j))
      exact q _ _ _ x2 rr
theorem tm_slot (f : TM) : Slot "str" (tmName f) (tmId f) ∧ typeOf (.builtin (tmId f)) = pure (.type "method_descriptor") := by
  cases f
  · exact ⟨F.slot_str_split, F.type_str_split⟩
  · exact ⟨F.slot_str_find, F.type_str_find⟩
theorem de_tm {f : TM} {o e : Expr} {apos cpos : Pos} {ga gb : En → Option (Kd × D)} (hbase : attributeBase o (tmName f) X.env (eval o X.env) = eval o X.env) (ha : DE X o ga) (he : DE X e gb) (hs : starEach [e] X.env = [(false, eval e X.env)]) (hline : (apos.endLine == cpos.line) = true) :
    DE X (.Call (.Attribute o (tmName f) apos) [e] [] cpos) (fun ρ => (ga ρ).bind fun x => (gb ρ).bind fun y => tmD f x.2 y.2) := by
  intro ρ z q
  obtain ⟨⟨k, d⟩, ey, q⟩ := bnd q
  obtain ⟨⟨k2, d2⟩, ey2, q⟩ := bnd q
  have hx : ∃ i, d = .str i := by cases f <;> cases d <;> first | exact no_some q | exact ⟨_, rfl⟩
  obtain ⟨i, rfl⟩ := hx
  refine pe_imp (pe_bm PySem.F.plainAttrs_str (tm_slot f).1 (tm_slot f).2 (mt_tm f _ _ z q) (ha ρ _ ey) (pa_cons (he ρ _ ey2) pa_nil hs) hbase (by rw [hs]; rfl) hline hs rfl) ?_
  rintro σ H Q ⟨G, sr, c⟩
  refine ⟨G, sr, fun v H1 G1 x1 r1 => ?_⟩
  have b1 := r1.rb x1.gh
  cases (show v = _ from b1)
  refine ⟨rfl, G1, sr.ext x1, fun v2 H2 G2 x2 r2 => ?_⟩
  refine ⟨G2, v2, rfl, x2.gh, rfl, r2.rb x2.gh, fun w H' G' x3 r3 => c _ _ _ ((x1.trans x2).trans x3) ?_⟩
  exact r3.back (x1.hh.trans x2.hh)
theorem part_of {v : Value} {o : Option Int} (h : IsPart v o) : ∃ p : Option (Int × Tok), v = partValue p ∧ p.map (·.1) = o := by
  cases h with
  | none => exact ⟨none, rfl, rfl⟩
  | int i t => exact ⟨some (i, t), rfl, rfl⟩
theorem sl_str : SlR X (fun x lo hi H Q => ∃ z, x = .str z ∧ z.length ≤ sizeLine ∧ Q (.str (Txt.slice z lo hi)) H) := by
  intro pins s σ H x v vl vu lo hi sl Q I rx hs pl pu h
  obtain ⟨z, rfl, hz, q⟩ := h
  obtain ⟨t, rfl⟩ := rx
  obtain ⟨l, rfl, rfl⟩ := part_of pl
  obtain ⟨u, rfl, rfl⟩ := part_of pu
  refine ⟨"str", _, F.slot_str_getitem.lookup, typeIs_str _ _ _, ?_⟩
  refine wpAny_getItem_str_slice (l := l) (u := u) (st := none) hs rfl ?_
  unfold sliceMade
  unfold Txt.slice at q
  show Made.post (if ((1 : Int) == 1 && (Builtin.Str.strSliceIndices (l.map (·.1)) (u.map (·.1)) 1 z.length).length == z.length) = true then _ else _) _ _
  split
  · rename_i c
    rw [if_pos c] at q
    exact ⟨.str z, H, I, ⟨_, rfl⟩, q⟩
  · rename_i c
    rw [if_neg c] at q
    exact ⟨by show (List.toArray _).size ≤ sizeLine; rw [List.size_toArray]; exact Nat.le_trans (Nat.le_trans (List.length_filterMap_le _ _) (sliceIndices_le _ _ _)) hz, ⟨.str _, H, I.tok _, ⟨_, rfl⟩, q⟩⟩
theorem de_tsl {a : Expr} {lo hi : Option Expr} {ga : En → Option (Kd × D)} {gl gh : En → Option (Option Int)} {pos p2 : Pos} (ha : DE X a ga) (hl : DO X lo gl) (hh : DO X hi gh) :
    DE X (.Subscript a (.Slice lo hi none p2) pos) (fun ρ => (ga ρ).bind fun x => (gl ρ).bind fun l => (gh ρ).bind fun h => tslD x.2 l h) := by
  intro ρ z e
  obtain ⟨⟨k, d⟩, ex, e⟩ := bnd e
  obtain ⟨l, el, e⟩ := bnd e
  obtain ⟨h, eh, e⟩ := bnd e
  obtain ⟨i, rfl⟩ : ∃ i, d = .str i := by cases d <;> first | exact no_some e | exact ⟨_, rfl⟩
  change (if i.length ≤ lim then some (Kd.fz, D.str (Txt.slice i l h)) else none) = some z at e
  split at e
  case isFalse => cases e
  rename_i hz
  cases e
  refine pe_imp (pe_slice sl_str (ha ρ _ ex) (hl ρ _ el) (hh ρ _ eh)) ?_
  rintro σ H Q ⟨G, s, c⟩
  refine ⟨G, s, fun v H1 G1 x1 r1 => ⟨G1, s.ext x1, fun H2 G2 x2 => ⟨G2, (s.ext x1).ext x2, fun H3 G3 x3 => ⟨i, r1.rb x1.gh, Nat.le_trans hz lim_line, c _ H3 G3 ((x1.trans x2).trans x3) rfl⟩⟩⟩⟩
end
noncomputable def Itx (x : Str) : It := ⟨fun i _ => i < x.cps.size, fun i H v H' => H' = H ∧ ∃ c, x.cps[i]? = some c ∧ v = .str ⟨#[c]⟩, fun i _ => x.cps.size ≤ i⟩
theorem turn_str {P : Program} {w : World} {K : PySem.W.Frag} {tg : Expr} (it : Addr) (x : Str) (t : Tok) (ty : String) (hty : ty = "str_ascii_iterator" ∨ ty = "str_iterator") :
    Turn P w K tg (Itx x) [it] it (fun i h => h.IsStrIter it ty x t i) where
  mem := List.mem_singleton.mpr rfl
  obj := fun i h st b hb => by
    rw [List.mem_singleton.mp hb]
    obtain ⟨o, e, _, d⟩ := st
    exact ⟨o, e, fun v z => by rw [d] at z; cases z⟩
  keep := fun i h h' st k => let ⟨o, e, r⟩ := st; ⟨o, k it (List.mem_singleton.mpr rfl) o e, r⟩
  item := by
    intro X hP hw hK hc i pins s σ H E I hf st hg
    subst hP hw hK
    have W : Walks X.prog X.w X.A it [it] [it] x.cps.size (SignAt x) (fun i h => h.IsStrIter it ty x t i) := by
      rcases hty with rfl | rfl
      · exact Walks.strAscii (I.ok.hd hc) it x t
      · exact Walks.strWide (I.ok.hd hc) it x t
    obtain ⟨f0, f1, f2, f3, f4, f5⟩ := hf it (List.mem_singleton.mpr rfl)
    refine W.item i s _ _ hg st fun v h' tk hv st' kk => ?_
    obtain ⟨c, u, ec, rfl⟩ := hv
    have I1 : Inv X pins σ H { s with heap := h', toks := tk } := I.turned (fun b o hb e => kk b o (fun z => hb (List.mem_singleton.mp z)) e) f0 f1 f3 f4 f5
    obtain ⟨o, e, hcl, hd⟩ := id st'
    refine ⟨_, rfl, go_of (s := { s with heap := h', toks := tk }) (n := ty) e hcl hd (by rcases hty with rfl | rfl <;> decide) ⟨.str ⟨#[c]⟩, H, I1, ⟨u, rfl⟩, ⟨rfl, c, ec, rfl⟩, st', fun b hb => (hf b hb).1⟩⟩
  done := by
    intro X hP hw hK hc i pins s σ H E I hf st hg
    subst hP hw hK
    obtain ⟨f0, f1, f2, f3, f4, f5⟩ := hf it (List.mem_singleton.mpr rfl)
    have hn : x.cps.size ≤ i := hg
    have hnone : x.cps[i]? = none := Array.getElem?_eq_none hn
    rcases hty with rfl | rfl
    · exact wpAny_pyNext_ascii_end (I.ok.hd hc) st hnone fun h' eb => ⟨rfl, I.turned (t' := s.toks) (fun b o hb e => eb b o hb e) f0 f1 f3 f4 f5⟩
    · exact wpAny_pyNext_wide_end (I.ok.hd hc) st hnone fun h' eb => ⟨rfl, I.turned (t' := s.toks) (fun b o hb e => eb b o hb e) f0 f1 f3 f4 f5⟩
  self := fun _ _ _ _ _ st h => by
    rcases hty with rfl | rfl
    · exact wpAny_pyIter_striter_ascii st h
    · exact wpAny_pyIter_striter_wide st h
section
variable {X : Cx} {tg : Expr}
noncomputable def iStr (te : TE) : TI := fun σ H R => te σ H fun v H1 => ∃ x, v = .str x ∧ R (Itx x) H1
theorem pi_str {e : Expr} {te : TE} (he : PE X e te) : PI X tg e (iStr te) := by
  intro pins s σ H R I h
  refine thn (he pins s σ H _ I h) fun u s1 ⟨v, H1, I1, r1, q1⟩ => ?_
  obtain ⟨x, rfl, q⟩ := q1
  obtain ⟨t, rfl⟩ := r1
  cases ha : x.cps.all (· < 128)
  · refine wpAny_pyIter_wide ha ⟨_, [_], _, _, H1, rfl, I1.kept (t' := s1.toks) fun _ _ e => Heap.get?_push_of_some _ e, turn_str _ x t "str_iterator" (.inr rfl), ⟨_, Heap.get?_push_size _ rfl, rfl, rfl⟩, fun b hb => ?_, q⟩
    rw [List.mem_singleton.mp hb]
    exact I1.fpOk (Nat.le_refl _) (I1.hok.fresh (Nat.le_refl _))
  · refine wpAny_pyIter_ascii ha ⟨_, [_], _, _, H1, rfl, I1.kept (t' := s1.toks) fun _ _ e => Heap.get?_push_of_some _ e, turn_str _ x t "str_ascii_iterator" (.inl rfl), ⟨_, Heap.get?_push_size _ rfl, rfl, rfl⟩, fun b hb => ?_, q⟩
    rw [List.mem_singleton.mp hb]
    exact I1.fpOk (Nat.le_refl _) (I1.hok.fresh (Nat.le_refl _))
theorem itd_str {x : Str} {P : Hp → Hp → Prop} (hP : ∀ G H, P G H → Same G H) : ItD (Itx x) P (sgnD x) := by
  intro i G H p
  refine ⟨fun d e => ?_, fun hl => by simpa [sgnD, Itx] using hl⟩
  unfold sgnD at e
  rw [List.getElem?_map] at e
  obtain ⟨c, ec, rfl⟩ := mpd e
  have ec' : x.cps[i]? = some c := by simpa using ec
  refine ⟨(Array.getElem?_eq_some_iff.mp ec').1, fun v H2 hy => ?_⟩
  obtain ⟨rfl, c', e2, rfl⟩ := hy
  rw [ec'] at e2
  cases e2
  exact ⟨G, .refl (hP G _ p), rfl⟩
theorem di_tx {e : Expr} {g : En → Option (Kd × D)} (h : DE X e g) : DI X tg e (fun ρ => (g ρ).bind fun x => match x.2 with | .str z => if z.length ≤ lim then some (.fz, sgnD z) else none | _ => none) := by
  intro ρ y q
  obtain ⟨⟨k, d⟩, ex, q⟩ := bnd q
  obtain ⟨z, rfl⟩ : ∃ z, d = .str z := by cases d <;> first | exact no_some q | exact ⟨_, rfl⟩
  change (if z.length ≤ lim then some (Kd.fz, sgnD z) else none) = some y at q
  split at q
  case isFalse => cases q
  cases q
  refine pi_imp (pi_str (h ρ _ ex)) ?_
  rintro σ H R ⟨G, s, c⟩
  exact ⟨G, s, fun v H1 G1 x1 r1 => ⟨z, r1.rb x1.gh, c _ H1 G1 x1 (itd_str fun _ _ p => p.2.1) fun _ => itd_str fun _ _ p => p.2⟩⟩
noncomputable def It4 (lo : Int) (n : Nat) : It := ⟨fun i _ => i < n, fun i H x H' => H' = H ∧ x = .int (lo + 4 * i), fun i _ => n ≤ i⟩
theorem turn_four {P : Program} {w : World} {K : PySem.W.Frag} {tg : Expr} (it : Addr) (lo : Int) (n : Nat) :
    Turn P w K tg (It4 lo n) [it] it (fun i h => IsRangeIter h it (lo + (i : Nat) * 4) ((n : Int) - (i : Nat)) 4) where
  mem := List.mem_singleton.mpr rfl
  obj := fun i h st b hb => by
    rw [List.mem_singleton.mp hb]
    exact ⟨_, st, fun v z => by
      have z' : Data.fields _ = Data.cell v := z
      cases z'⟩
  keep := fun i h h' st k => k it (List.mem_singleton.mpr rfl) _ st
  item := by
    intro X hP hw hK hc i pins s σ H E I hf st hg
    subst hP hw hK
    have W := Walks.range (prog := X.prog) (w := X.w) (I.ok.hd hc) it lo 4 n
    obtain ⟨f0, f1, f2, f3, f4, f5⟩ := hf it (List.mem_singleton.mpr rfl)
    refine W.item i s _ _ hg st fun v h' tk hv st' kk => ?_
    obtain ⟨t, rfl⟩ := hv
    have I1 : Inv X pins σ H { s with heap := h', toks := tk } := I.turned (fun b o hb e => kk b o (fun z => hb (List.mem_singleton.mp z)) e) f0 f1 f3 f4 f5
    refine ⟨_, rfl, go_of (s := { s with heap := h', toks := tk }) (n := "range_iterator") st' rfl rfl (by decide) ⟨.int (lo + 4 * i), H, I1, ⟨t, ?_⟩, ⟨rfl, rfl⟩, st', fun b hb => (hf b hb).1⟩⟩
    rw [show lo + (i : Int) * 4 = lo + 4 * (i : Int) by omega]
  done := by
    intro X hP hw hK hc i pins s σ H E I hf st hg
    subst hP hw hK
    obtain ⟨f0, f1, f2, f3, f4, f5⟩ := hf it (List.mem_singleton.mpr rfl)
    have hn : n ≤ i := hg
    exact wpAny_pyNext_range_end (I.ok.hd hc) st (by omega) fun h' eb => ⟨rfl, I.turned (t' := s.toks) (fun b o hb e => eb b o hb e) f0 f1 f3 f4 f5⟩
  self := fun _ _ _ _ _ st h => wpAny_pyIter_rangeiter st h
theorem size_four (a b : Int) : Builtin.Range.rangeSize a b 4 = (((b - a + 3) / 4).toNat : Int) := by
  unfold Builtin.Range.rangeSize
  simp only [show ((4 : Int) > 0) by decide, if_true]
  split <;> omega
theorem small_four {a b : Int} (ha : -(2 ^ 62) ≤ a) (ha' : a < 2 ^ 62) (hb : -(2 ^ 62) ≤ b) (hb' : b < 2 ^ 62) : Builtin.Range.small a b 4 = true := by
  unfold Builtin.Range.small
  rw [size_four]
  simp only [Builtin.Range.rangeFitsLong, Bool.and_eq_true, Bool.or_eq_true, decide_eq_true_eq, beq_iff_eq, show ((4 : Int) > 0) by decide, if_true]
  omega
theorem four_it {pins : List (Addr × Obj)} {σ : L2.St} {H : Hp} {s : Shared} {R : It → Hp → Prop} {E : Value → Shared → Prop} {lo hi : Int} {t u v : Tok} {tk : Nat} (I : Inv X pins σ H s)
    (h1 : -(2 ^ 62) ≤ lo) (h2 : lo < 2 ^ 62) (h3 : -(2 ^ 62) ≤ hi) (h4 : hi < 2 ^ 62) (q : R (It4 lo ((hi - lo + 3) / 4).toNat) H) :
    wpAny (model X.prog X.w) X.A (pyIter (.ref s.heap.objs.size)) (PIE X pins σ tg R) E { s with heap := s.heap.push { cls := .type "range", data := .fields #[.int lo t, .int hi u, .int 4 v] }, toks := tk } := by
  have I1 : Inv X pins σ H { s with heap := s.heap.push { cls := .type "range", data := .fields #[.int lo t, .int hi u, .int 4 v] }, toks := tk } := I.kept fun _ _ e => Heap.get?_push_of_some _ e
  refine wpAny_pyIter_range (IsRange.new ..) (small_four h1 h2 h3 h4) ⟨_, [_], _, _, H, rfl, I1.kept (t' := tk) fun _ _ e => Heap.get?_push_of_some _ e, turn_four _ lo ((hi - lo + 3) / 4).toNat, ?_, fun b hb => ?_, q⟩
  · show IsRangeIter _ _ (lo + ((0 : Nat) : Int) * 4) (((((hi - lo + 3) / 4).toNat : Nat) : Int) - ((0 : Nat) : Int)) 4
    rw [show lo + ((0 : Nat) : Int) * 4 = lo by simp, show (((((hi - lo + 3) / 4).toNat : Nat) : Int) - ((0 : Nat) : Int)) = Builtin.Range.rangeSize lo hi 4 by rw [size_four]; simp]
    exact Heap.get?_push_size _ rfl
  · rw [List.mem_singleton.mp hb]
    exact I1.fpOk (Nat.le_refl _) (I1.hok.fresh (Nat.le_refl _))
noncomputable def iFour (ta : TA) : TI := fun σ H R => ta σ H fun vs H1 => ∃ i j : Int, vs = [.int i, .int j, .int 4] ∧ (-(2 ^ 62) ≤ i ∧ i < 2 ^ 62 ∧ -(2 ^ 62) ≤ j ∧ j < 2 ^ 62) ∧ R (It4 i ((j - i + 3) / 4).toNat) H1
theorem pi_four {a b c : Expr} {ta : TA} {p pos : Pos} (hg : Gl X "range") (hm : X.mg "range" = none) (ha : PA X [a, b, c] ta) (hs : starEach [a, b, c] X.env = (false, eval a X.env) :: starEach [b, c] X.env)
    (hs2 : (backTo pos (starEach [b, c] X.env)).any (·.1) = false) : PI X tg (.Call (.Name "range" p) [a, b, c] [] pos) (iFour ta) := by
  intro pins s σ H R I h
  refine Call_ (ld_blt I hg hm boot_range (PyProof.Rows.callWith_type1 (thn (ha pos pins s σ H _ I h) fun us s1 ⟨vs, H1, I1, r1, q1⟩ => ?_) hs hs2))
  obtain ⟨i, j, rfl, ⟨q1, q2, q3, q4⟩, q⟩ := q1
  cases r1 with
  | cons ra r1 =>
    cases r1 with
    | cons rb r1 =>
      cases r1 with
      | cons rc r1 =>
        cases r1
        obtain ⟨_, rfl⟩ := ra
        obtain ⟨_, rfl⟩ := rb
        obtain ⟨_, rfl⟩ := rc
        exact call_range_3 (by decide) (four_it I1 q1 q2 q3 q4 q) (.inl (PyProof.noPylong_small (by omega)))
theorem itd_four {lo : Int} {n : Nat} {P : Hp → Hp → Prop} (hP : ∀ G H, P G H → Same G H) : ItD (It4 lo n) P (frD lo n) := by
  intro i G H p
  refine ⟨fun d e => ?_, fun hl => by simpa [frD, It4] using hl⟩
  unfold frD at e
  rw [List.getElem?_map] at e
  obtain ⟨j, ej, rfl⟩ := mpd e
  obtain ⟨hj, ej⟩ := List.getElem?_eq_some_iff.mp ej
  rw [List.length_range] at hj
  rw [List.getElem_range] at ej
  subst ej
  refine ⟨hj, fun x H2 hy => ?_⟩
  obtain ⟨rfl, rfl⟩ := hy
  exact ⟨G, .refl (hP G _ p), rfl⟩
theorem di_four {tg a b c : Expr} {p pos : Pos} {ga gb gc : En → Option (Kd × D)} (hg : Gl X "range") (hm : X.mg "range" = none) (ha : DE X a ga) (hb : DE X b gb) (hc : DE X c gc)
    (hs : starEach [a, b, c] X.env = [(false, eval a X.env), (false, eval b X.env), (false, eval c X.env)]) (hs2 : starEach [b, c] X.env = [(false, eval b X.env), (false, eval c X.env)]) (hs3 : starEach [c] X.env = [(false, eval c X.env)]) :
    DI X tg (.Call (.Name "range" p) [a, b, c] [] pos) (fun ρ => (ga ρ).bind fun x => (gb ρ).bind fun y => (gc ρ).bind fun z => match x.2, y.2, z.2 with
      | .int i, .int j, .int k => if rngOk i && rngOk j && k == 4 then some (.fz, frD i ((j - i + 3) / 4).toNat) else none
      | _, _, _ => none) := by
  intro ρ y q
  obtain ⟨⟨k, d⟩, ex, q1⟩ := bnd q
  obtain ⟨⟨k2, d2⟩, ey, q2⟩ := bnd q1
  obtain ⟨⟨k3, d3⟩, ez, q3⟩ := bnd q2
  clear q q1 q2
  obtain ⟨i, rfl⟩ : ∃ i, d = .int i := by
    cases d <;> first | cases q3 | exact ⟨_, rfl⟩
  obtain ⟨j, rfl⟩ : ∃ j, d2 = .int j := by
    cases d2 <;> first | cases q3 | exact ⟨_, rfl⟩
  obtain ⟨m, rfl⟩ : ∃ m, d3 = .int m := by
    cases d3 <;> first | cases q3 | exact ⟨_, rfl⟩
  have q := q3
  dsimp only at q
  split at q
  case isFalse => cases q
  rename_i hij
  cases q
  rw [Bool.and_eq_true, Bool.and_eq_true] at hij
  obtain ⟨h1, h2⟩ := rngOk_of hij.1.1
  obtain ⟨h3, h4⟩ := rngOk_of hij.1.2
  have hm1 : m = 4 := by simpa using hij.2
  subst hm1
  refine pi_imp (pi_four hg hm (pa_cons (ha ρ _ ex) (pa_cons (hb ρ _ ey) (pa_cons (hc ρ _ ez) pa_nil hs3) (by rw [hs2, hs3])) (by rw [hs, hs2])) (by rw [hs, hs2]) (by rw [hs2]; rfl)) ?_
  rintro σ H R ⟨G, s, c⟩
  refine ⟨G, s, fun v H1 G1 x1 r1 => ⟨G1, s.ext x1, fun u H2 G2 x2 r2 => ⟨G2, (s.ext x1).ext x2, fun t H3 G3 x3 r3 => ⟨i, j, ?_, ⟨h1, h2, h3, h4⟩, c _ H3 G3 ((x1.trans x2).trans x3) (itd_four fun _ _ p => p.2.1) fun _ => itd_four fun _ _ p => p.2⟩⟩⟩⟩
  rw [show v = V.int i from r1.rb x1.gh, show u = V.int j from r2.rb x2.gh, show t = V.int 4 from r3.rb x3.gh]
end
end TW
end
section
set_option Elab.async false
set_option linter.all false
set_option maxRecDepth 100000
set_option maxHeartbeats 4000000
namespace TW
open PySem PySem.W PyProof.Rows
section
variable {c : Nat → Nat → Bool} {n : Nat}
noncomputable def post {α : Type} (c : Nat → Nat → Bool) (n : Nat) : KasT α → (α → Prop) → Prop
  | .ret a, Q => Q a
  | .ask i j k, Q => i < n ∧ j < n ∧ post c n (k (c i j)) Q
structure Ord (c : Nat → Nat → Bool) : Prop where
  tr : ∀ {i j k}, c j i = false → c k j = false → c k i = false
  as : ∀ {i j}, c i j = true → c j i = false
noncomputable def le (c : Nat → Nat → Bool) (i j : Nat) : Prop := c j i = false
noncomputable def gp (p : Array Nat) (t : Nat) : Nat := p.getD t 0
theorem gp_eq (p : Array Nat) (t : Nat) : gp p t = (p[t]?).getD 0 := by
  unfold gp
  rw [Array.getD_eq_getD_getElem?]
structure PG (n : Nat) (p : Array Nat) : Prop where
  sz : p.size = n
  pm : p.toList.Perm (List.range n)
theorem PG.lt {p : Array Nat} (h : PG n p) (h0 : 0 < n) (t : Nat) : gp p t < n := by
  rw [gp_eq]
  cases e : p[t]? with
  | none => simpa using h0
  | some x =>
    have : x ∈ p.toList := by
      have := Array.mem_of_getElem? e
      simpa using this
    have := h.pm.mem_iff.mp this
    simpa using this
theorem PG.rev {p : Array Nat} (h : PG n p) (i j : Nat) : PG n (kas_rev p i j) :=
  ⟨(mirror_size _ _ _ _).trans h.sz, (Array.perm_iff_toList_perm.mp (mirror_perm p i j _)).trans h.pm⟩
theorem gp_rev {p : Array Nat} {i j : Nat} (hj : j ≤ p.size) (k : Nat) : gp (kas_rev p i j) k = if i ≤ k ∧ k < j then gp p (i + j - 1 - k) else gp p k := by
  rw [gp_eq]
  unfold kas_rev
  rw [getElem?_mirror_all hj k]
  split <;> rw [gp_eq]
variable (O : Ord c)
noncomputable def Up (c : Nat → Nat → Bool) (p : Array Nat) (m : Nat) : Prop := ∀ t, 1 ≤ t → t < m → le c (gp p (t - 1)) (gp p t)
noncomputable def Dn (c : Nat → Nat → Bool) (p : Array Nat) (m : Nat) : Prop := ∀ t, 1 ≤ t → t < m → le c (gp p t) (gp p (t - 1))
include O
theorem Up.all {p : Array Nat} {m : Nat} (h : Up c p m) : ∀ d i, i + d < m → le c (gp p i) (gp p (i + d))
  | 0, i, _ => by
    show c (gp p i) (gp p i) = false
    cases e : c (gp p i) (gp p i) with
    | false => rfl
    | true => exact e.symm.trans (O.as e)
  | d + 1, i, hi => O.tr (Up.all h d i (by omega)) (h (i + d + 1) (by omega) hi)
structure DQ (c : Nat → Nat → Bool) (p : Array Nat) (m q : Nat) : Prop where
  dn : Dn c p m
  lt : q < m
  eq : ∀ t, m - q ≤ t → t < m → le c (gp p (t - 1)) (gp p t)
theorem DQ.turn {p : Array Nat} {m q : Nat} (h : DQ c p m q) (hm : m ≤ p.size) : Dn c (kas_rev p (m - (q + 1)) m) m ∧ ∃ x y, gp (kas_rev p (m - (q + 1)) m) (m - 1) = x ∧ gp p (m - 1) = y ∧ le c x y ∧ le c y x := by
  have al : ∀ t, m - (q + 1) ≤ t → t < m → le c (gp p t) (gp p (m - 1)) ∧ le c (gp p (m - 1)) (gp p t) := by
    intro t h1 h2
    have key : ∀ d, d ≤ q → le c (gp p (m - 1 - d)) (gp p (m - 1)) ∧ le c (gp p (m - 1)) (gp p (m - 1 - d)) := by
      intro d
      induction d with
      | zero =>
        intro _
        have r : le c (gp p (m - 1)) (gp p (m - 1)) := by
          show c (gp p (m - 1)) (gp p (m - 1)) = false
          cases e : c (gp p (m - 1)) (gp p (m - 1)) with
          | false => rfl
          | true => exact e.symm.trans (O.as e)
        exact ⟨r, r⟩
      | succ d ih =>
        intro hd
        obtain ⟨i1, i2⟩ := ih (by omega)
        have e1 := h.eq (m - 1 - d) (by omega) (by have := h.lt; omega)
        have e2 := h.dn (m - 1 - d) (by have := h.lt; omega) (by have := h.lt; omega)
        rw [show m - 1 - d - 1 = m - 1 - (d + 1) by omega] at e1 e2
        exact ⟨O.tr e1 i1, O.tr i2 e2⟩
    have := key (m - 1 - t) (by omega)
    rwa [show m - 1 - (m - 1 - t) = t by omega] at this
  have lq := h.lt
  have vals : ∀ t, t < m → le c (gp (kas_rev p (m - (q + 1)) m) t) (gp p t) ∧ le c (gp p t) (gp (kas_rev p (m - (q + 1)) m) t) := by
    intro t ht
    rw [gp_rev hm]
    split
    · rename_i hh
      have a1 := al t hh.1 ht
      have a2 := al (m - (q + 1) + m - 1 - t) (by omega) (by omega)
      exact ⟨O.tr a2.1 a1.2, O.tr a1.1 a2.2⟩
    · have r : le c (gp p t) (gp p t) := by
        show c (gp p t) (gp p t) = false
        cases e : c (gp p t) (gp p t) with
        | false => rfl
        | true => exact e.symm.trans (O.as e)
      exact ⟨r, r⟩
  refine ⟨fun t h1 h2 => ?_, _, _, rfl, rfl, (vals (m - 1) (by omega)).1, (vals (m - 1) (by omega)).2⟩
  exact O.tr (O.tr (vals t h2).1 (h.dn t h1 h2)) (vals (t - 1) (by omega)).2
end
end TW
end
section
set_option Elab.async false
set_option linter.all false
set_option maxRecDepth 100000
set_option maxHeartbeats 4000000
namespace TW
open PySem PySem.Spec PyProof.Rows L2
open PySem.W (KasT kas_ask kas_sort kas_item kat_run kat_snds kat_lt KatLex kat_one KatTups kat_kind kat_cons kat_nil kat_yes kat_no)
section
variable {P : Program} {w : World} {A : Around} {E : Value → Shared → Prop} {s : Shared}
end
section
variable {X : Cx}
end
end TW
end
section
set_option Elab.async false
set_option linter.all false
set_option maxRecDepth 100000
set_option maxHeartbeats 4000000
namespace TW
open PySem PySem.Spec PyProof.Rows L2
structure Tab where
  fns : List (Str × Nat)
  gls : List (Str × Const)
noncomputable abbrev Sc := List (Str × NameKind)
noncomputable def visK : NameKind → Bool
  | .local | .cell | .free => true
  | _ => false
noncomputable def locK : NameKind → Bool
  | .local | .cell => true
  | _ => false
noncomputable def notDbg (x : Str) : Bool := !(x == ("__debug__" : Str)) && !(x == ("__classdict__" : Str)) && !(x == ("__name__" : Str))
noncomputable def slotIs (sc : Sc) (i : Nat) (x : Str) : Bool := match sc[i]? with
  | some (y, k) => y == x && visK k
  | none => false
noncomputable def slotL (sc : Sc) (i : Nat) (x : Str) : Bool := match sc[i]? with
  | some (y, k) => y == x && locK k
  | none => false
noncomputable def glob (sc : Sc) (x : Str) : Bool := sc.lookup x == some .globalImplicit
noncomputable def cstIs : D → Const → Bool
  | .int i, .int j => decide (i = j)
  | .bl a, .bool b => decide (a = b)
  | .non, .none => true
  | .str x, .str y => decide (x = y)
  | _, _ => false
noncomputable def gstIs (T : Tab) (x : Str) (d : D) : Bool := match T.gls.lookup x with
  | some c => cstIs d c
  | none => false
noncomputable def isIf : Expr → Bool
  | .IfExp .. => true
  | _ => false
noncomputable def isStar : Expr → Bool
  | .Starred .. => true
  | _ => false
noncomputable def isSlc : Expr → Bool
  | .Slice .. => true
  | _ => false
noncomputable def isSet : Expr → Bool
  | .Set .. => true
  | _ => false
noncomputable def isComp : Expr → Bool
  | .ListComp .. | .SetComp .. | .DictComp .. => true
  | _ => false
noncomputable def isTupE : Expr → Bool
  | .Tuple .. => true
  | _ => false
noncomputable def tgI : CI → Expr → Bool
  | .zp _ _, e => isTupE e
  | .en _, e => isTupE e
  | _, _ => true
noncomputable def b1Name : B1 → Str
  | .len => "len"
  | .tuple => "tuple"
  | .list => "list"
  | .sorted => "sorted"
  | .sortp => "sorted"
  | .byl => "sorted"
  | .str => "str"
  | .int => "int"
  | .itx => "int"
  | .sum => "sum"
  | .all => "all"
  | .any => "any"
  | .min => "min"
  | .max => "max"
noncomputable def b1Sup : B1 → Bool
  | .len | .tuple | .str | .int | .itx | .all => true
  | .byl => false
  | .max => false
  | .min => false
  | .any => false
  | .sum => false
  | .sortp => false
  | .sorted => false
  | .list => false
noncomputable def b2Name : B2 → Str
  | .min => "min"
  | .max => "max"
noncomputable def tyStr : Ty → Str
  | .int => "int"
  | .bool => "bool"
  | .str => "str"
  | .list => "list"
  | .tuple => "tuple"
  | .dict => "dict"
noncomputable def bltN : List Str := ["len", "tuple", "list", "sorted", "str", "int", "sum", "all", "any", "min", "max", "bool", "dict", "isinstance", "range", "zip", "enumerate", "set"]
noncomputable def CA.len : CA → Nat
  | .nil => 0
  | .cons _ r => r.len + 1
noncomputable def fnIs (T : Tab) (f : Nat) (x : Str) (n : Nat) : Bool := match T.fns[f]? with
  | some (y, m) => y == x && decide (m = n)
  | none => false
noncomputable def capIs (sc : Sc) : List (Option Nat) → Sc → Bool
  | [], [] => true
  | none :: c, _ :: r => capIs sc c r
  | some j :: c, (x, k) :: r => decide (k = .free) && (match sc[j]? with | some (y, _) => y == x | none => false) && capIs sc c r
  | _, _ => false
noncomputable def frees (sc : Sc) : Sc → Bool
  | [] => true
  | (x, .free) :: r => (sc.lookup x == some .cell || sc.lookup x == some .free) && frees sc r
  | _ :: r => frees sc r
noncomputable def ndS : List Str → Bool
  | [] => true
  | x :: r => !(r.contains x) && ndS r
noncomputable def blkIs (sc : Sc) (cap : List (Option Nat)) (scope : Scope) : Bool :=
  decide (scope.kind = .function) && ndS (scope.names.map (·.1)) && capIs sc cap scope.names && frees sc scope.names
noncomputable def chkTs (sc : Sc) : List Nat → List Expr → Bool
  | [], [] => true
  | i :: l, .Name x _ :: r => slotL sc i x && chkTs sc l r
  | _, _ => false
noncomputable def chkT (sc : Sc) : Tg → Expr → Bool
  | .one i, .Name x _ => slotL sc i x
  | .many l, .Tuple es _ _ => chkTs sc l es
  | _, _ => false
noncomputable def ofO {α : Type} : Option α → (α → Bool) → Bool
  | some a, f => f a
  | none, _ => false
theorem ofO_true {α : Type} {f : α → Bool} : ∀ {o : Option α}, ofO o f = true → ∃ a, o = some a ∧ f a = true
  | some a, h => ⟨a, rfl, h⟩
  | none, h => nomatch h
noncomputable def asName : Expr → Option Str
  | .Name x _ => some x
  | _ => none
noncomputable def asConst : Expr → Option Const
  | .Constant c _ _ => some c
  | _ => none
noncomputable def asUn : Expr → Option (UnaryOp × Expr)
  | .UnaryOp o x _ => some (o, x)
  | _ => none
noncomputable def asBin : Expr → Option (Expr × Operator × Expr)
  | .BinOp x o y _ => some (x, o, y)
  | _ => none
noncomputable def asCmp : Expr → Option (Expr × List CmpOp × List Expr)
  | .Compare x os es _ => some (x, os, es)
  | _ => none
noncomputable def asBool : Expr → Option (BoolOp × List Expr × Pos)
  | .BoolOp o es p => some (o, es, p)
  | _ => none
noncomputable def asTup : Expr → Option (List Expr)
  | .Tuple es _ _ => some es
  | _ => none
noncomputable def asLst : Expr → Option (List Expr)
  | .List es _ => some es
  | _ => none
noncomputable def asSub : Expr → Option (Expr × Expr)
  | .Subscript x y _ => some (x, y)
  | _ => none
noncomputable def asSlc : Expr → Option (Option Expr × Option Expr × Option Expr)
  | .Slice l h st _ => some (l, h, st)
  | _ => none
noncomputable def asComp : Expr → Option (Expr × List Comprehension × Scope)
  | .ListComp x gs sc _ => some (x, gs, sc)
  | _ => none
noncomputable def asCall : Expr → Option (Expr × List Expr × List Keyword)
  | .Call f es ks _ => some (f, es, ks)
  | _ => none
noncomputable def one1 {α : Type} : List α → Option α
  | [x] => some x
  | _ => none
noncomputable def two2 {α : Type} : List α → Option (α × α)
  | [x, y] => some (x, y)
  | _ => none
noncomputable def three3 {α : Type} : List α → Option (α × α × α)
  | [x, y, z] => some (x, y, z)
  | _ => none
theorem one1_of {α : Type} {l : List α} {x : α} (h : one1 l = some x) : l = [x] := by
  match l with
  | [] => exact no_some h
  | [a] => cases h; rfl
  | _ :: _ :: _ => exact no_some h
theorem two2_of {α : Type} {l : List α} {q : α × α} (h : two2 l = some q) : l = [q.1, q.2] := by
  match l with
  | [] => exact no_some h
  | [a] => exact no_some h
  | [a, b] => cases h; rfl
  | _ :: _ :: _ :: _ => exact no_some h
theorem three3_of {α : Type} {l : List α} {q : α × α × α} (h : three3 l = some q) : l = [q.1, q.2.1, q.2.2] := by
  match l with
  | [] => exact no_some h
  | [a] => exact no_some h
  | [a, b] => exact no_some h
  | [a, b, c] => cases h; rfl
  | _ :: _ :: _ :: _ :: _ => exact no_some h
noncomputable def asFn (e : Expr) : Option (Str × List Expr) := (asCall e).bind fun q => (asName q.1).bind fun x => if q.2.2.isEmpty then some (x, q.2.1) else none
noncomputable def asFn1 (e : Expr) : Option (Str × Expr) := (asFn e).bind fun q => (one1 q.2).map fun y => (q.1, y)
noncomputable def asFn2 (e : Expr) : Option (Str × Expr × Expr) := (asFn e).bind fun q => (two2 q.2).map fun y => (q.1, y)
noncomputable def asFn3 (e : Expr) : Option (Str × Expr × Expr × Expr) := (asFn e).bind fun q => (three3 q.2).map fun y => (q.1, y)
noncomputable def asJoin : Expr → Option (Str × Str × Expr × Bool)
  | .Call (.Attribute (.Constant (.str sep) _ _) name apos) [y] [] cpos => some (sep, name, y, apos.endLine == cpos.line)
  | _ => none
theorem asJoin_of {e : Expr} {q : Str × Str × Expr × Bool} (h : asJoin e = some q) : ∃ j cp apos cpos, e = .Call (.Attribute (.Constant (.str q.1) j cp) q.2.1 apos) [q.2.2.1] [] cpos ∧ q.2.2.2 = (apos.endLine == cpos.line) := by
  unfold asJoin at h
  split at h
  · cases h; exact ⟨_, _, _, _, rfl, rfl⟩
  · cases h
noncomputable def asTm : Expr → Option (Expr × Str × Expr × Bool)
  | .Call (.Attribute (.Name x p) name apos) [y] [] cpos => some (.Name x p, name, y, apos.endLine == cpos.line)
  | .Call (.Attribute (.Constant c j p) name apos) [y] [] cpos => some (.Constant c j p, name, y, apos.endLine == cpos.line)
  | _ => none
theorem asTm_of {e : Expr} {q : Expr × Str × Expr × Bool} (h : asTm e = some q) : ∃ apos cpos, e = .Call (.Attribute q.1 q.2.1 apos) [q.2.2.1] [] cpos ∧ q.2.2.2 = (apos.endLine == cpos.line) ∧ ∀ env, attributeBase q.1 q.2.1 env (eval q.1 env) = eval q.1 env := by
  unfold asTm at h
  split at h
  · cases h; exact ⟨_, _, rfl, rfl, fun _ => rfl⟩
  · cases h; exact ⟨_, _, rfl, rfl, fun _ => rfl⟩
  · cases h
theorem asName_of {e : Expr} {x : Str} (h : asName e = some x) : ∃ p, e = .Name x p := by
  cases e <;> first | exact no_some h | (cases h; exact ⟨_, rfl⟩)
theorem asCall_of {e : Expr} {q : Expr × List Expr × List Keyword} (h : asCall e = some q) : ∃ p, e = .Call q.1 q.2.1 q.2.2 p := by
  cases e <;> first | exact no_some h | (cases h; exact ⟨_, rfl⟩)
theorem asFn_of {e : Expr} {q : Str × List Expr} (h : asFn e = some q) : ∃ p p', e = .Call (.Name q.1 p) q.2 [] p' := by
  obtain ⟨a, e1, h⟩ := bnd h
  obtain ⟨x, e2, h⟩ := bnd h
  obtain ⟨h3, rfl⟩ := if_some h
  obtain ⟨p', rfl⟩ := asCall_of e1
  obtain ⟨p, e2⟩ := asName_of e2
  rw [e2, List.isEmpty_iff.mp h3]
  exact ⟨p, p', rfl⟩
theorem asFn1_of {e : Expr} {q : Str × Expr} (h : asFn1 e = some q) : ∃ p p', e = .Call (.Name q.1 p) [q.2] [] p' := by
  obtain ⟨a, e1, h⟩ := bnd h
  obtain ⟨y, e2, rfl⟩ := mpd h
  rw [← one1_of e2]
  exact asFn_of e1
theorem asFn2_of {e : Expr} {q : Str × Expr × Expr} (h : asFn2 e = some q) : ∃ p p', e = .Call (.Name q.1 p) [q.2.1, q.2.2] [] p' := by
  obtain ⟨a, e1, h⟩ := bnd h
  obtain ⟨y, e2, rfl⟩ := mpd h
  rw [← two2_of e2]
  exact asFn_of e1
theorem asFn3_of {e : Expr} {q : Str × Expr × Expr × Expr} (h : asFn3 e = some q) : ∃ p p', e = .Call (.Name q.1 p) [q.2.1, q.2.2.1, q.2.2.2] [] p' := by
  obtain ⟨a, e1, h⟩ := bnd h
  obtain ⟨y, e2, rfl⟩ := mpd h
  rw [← three3_of e2]
  exact asFn_of e1
theorem asConst_of {e : Expr} {c : Const} (h : asConst e = some c) : ∃ k p, e = .Constant c k p := by
  cases e <;> first | exact no_some h | (cases h; exact ⟨_, _, rfl⟩)
theorem asUn_of {e : Expr} {q : UnaryOp × Expr} (h : asUn e = some q) : ∃ p, e = .UnaryOp q.1 q.2 p := by
  cases e <;> first | exact no_some h | (cases h; exact ⟨_, rfl⟩)
theorem asBin_of {e : Expr} {q : Expr × Operator × Expr} (h : asBin e = some q) : ∃ p, e = .BinOp q.1 q.2.1 q.2.2 p := by
  cases e <;> first | exact no_some h | (cases h; exact ⟨_, rfl⟩)
theorem asCmp_of {e : Expr} {q : Expr × List CmpOp × List Expr} (h : asCmp e = some q) : ∃ p, e = .Compare q.1 q.2.1 q.2.2 p := by
  cases e <;> first | exact no_some h | (cases h; exact ⟨_, rfl⟩)
theorem asBool_of {e : Expr} {q : BoolOp × List Expr × Pos} (h : asBool e = some q) : e = .BoolOp q.1 q.2.1 q.2.2 := by
  cases e <;> first | exact no_some h | (cases h; rfl)
theorem asTup_of {e : Expr} {q : List Expr} (h : asTup e = some q) : ∃ k p, e = .Tuple q k p := by
  cases e <;> first | exact no_some h | (cases h; exact ⟨_, _, rfl⟩)
theorem asLst_of {e : Expr} {q : List Expr} (h : asLst e = some q) : ∃ p, e = .List q p := by
  cases e <;> first | exact no_some h | (cases h; exact ⟨_, rfl⟩)
theorem asSub_of {e : Expr} {q : Expr × Expr} (h : asSub e = some q) : ∃ p, e = .Subscript q.1 q.2 p := by
  cases e <;> first | exact no_some h | (cases h; exact ⟨_, rfl⟩)
theorem asSlc_of {e : Expr} {q : Option Expr × Option Expr × Option Expr} (h : asSlc e = some q) : ∃ p, e = .Slice q.1 q.2.1 q.2.2 p := by
  cases e <;> first | exact no_some h | (cases h; exact ⟨_, rfl⟩)
theorem asComp_of {e : Expr} {q : Expr × List Comprehension × Scope} (h : asComp e = some q) : ∃ p, e = .ListComp q.1 q.2.1 q.2.2 p := by
  cases e <;> first | exact no_some h | (cases h; exact ⟨_, rfl⟩)
mutual
noncomputable def chk (T : Tab) : C → Sc → Expr → Bool
  | .var i, sc, e => ofO (asName e) fun x => slotIs sc i x && notDbg x
  | .cst d, sc, e => (ofO (asConst e) fun c => cstIs d c) || (ofO (asName e) fun x => glob sc x && notDbg x && gstIs T x d)
  | .neg _, _, _ => false
  | .nt a, sc, e => ofO (asUn e) fun q => decide (q.1 = .Not) && chk T a sc q.2 && !isIf q.2
  | .bin op a b, sc, e => ofO (asBin e) fun q => decide (q.2.1 = op) && chk T a sc q.1 && chk T b sc q.2.2
  | .cmp op a b, sc, e => ofO (asCmp e) fun q => ofO (one1 q.2.2) fun y => decide (q.2.1 = [op]) && !behindInMarks op y && chk T a sc q.1 && chk T b sc y
  | .cmp2 op oq a b c, sc, e => ofO (asCmp e) fun q => ofO (two2 q.2.2) fun y => decide (q.2.1 = [op, oq]) && !lastMarks [op, oq] [y.1, y.2] && chk T a sc q.1 && chk T b sc y.1 && chk T c sc y.2
  | .an a b, sc, e => ofO (asBool e) fun q => decide (q.1 = .And) && (ofO q.2.1.head? fun x => chk T a sc x && !isIf x && (match q.2.1.tail with
    | [] => false
    | y :: r => if r.isEmpty then chk T b sc y && !isIf y else chk T b sc (.BoolOp .And (y :: r) q.2.2)))
  | .orr a b, sc, e => ofO (asBool e) fun q => decide (q.1 = .Or) && (ofO q.2.1.head? fun x => chk T a sc x && !isIf x && (match q.2.1.tail with
    | [] => false
    | y :: r => if r.isEmpty then chk T b sc y && !isIf y else chk T b sc (.BoolOp .Or (y :: r) q.2.2)))
  | .ife _ _ _, _, _ => false
  | .tp l, sc, e => ofO (asTup e) fun es => chkA T l sc es
  | .ls l, sc, e => ofO (asLst e) fun es => chkA T l sc es
  | .ix a b, sc, e => ofO (asSub e) fun q => !isSlc q.2 && chk T a sc q.1 && chk T b sc q.2
  | .sl a lo hi, sc, e => ofO (asSub e) fun q => ofO (asSlc q.2) fun u => u.2.2.isNone && chk T a sc q.1 && chkO T lo sc u.1 && chkO T hi sc u.2.1
  | .rev _, _, _ => false
  | .comp cap tg it cd el, sc, e => ofO (asComp e) fun q => ofO (one1 q.2.1) fun k => decide (k.is_async = 0) && blkIs sc cap q.2.2 && !isSet k.iter && chkT q.2.2.names tg k.target && tgI it k.target && chkI T it sc k.iter && chkC T cd q.2.2.names k.ifs && chk T el q.2.2.names q.1
  | .call f l, sc, e => ofO (asFn e) fun q => !q.2.isEmpty && fnIs T f q.1 l.len && glob sc q.1 && notDbg q.1 && chkA T l sc q.2
  | .b1 f a, sc, e => ofO (asFn1 e) fun q => q.1 == b1Name f && b1Sup f && glob sc q.1 && !isStar q.2 && chk T a sc q.2
  | .b2 f a b, sc, e => ofO (asFn2 e) fun q => q.1 == b2Name f && glob sc q.1 && !isStar q.2.1 && !isStar q.2.2 && chk T a sc q.2.1 && chk T b sc q.2.2
  | .isi a t, sc, e => ofO (asFn2 e) fun q => ofO (asName q.2.2) fun z => q.1 == ("isinstance" : Str) && z == tyStr t && glob sc q.1 && glob sc z && !isStar q.2.1 && chk T a sc q.2.1
  | .rngl _, _, _ => false
  | .rngt _, _, _ => false
  | .slen _, _, _ => false
  | .join sep a, sc, e => ofO (asJoin e) fun q => q.1 == sep && q.2.1 == ("join" : Str) && q.2.2.2 && !isStar q.2.2.1 && chk T a sc q.2.2.1
  | .lm _ _ _, _, _ => false
  | .tm f a b, sc, e => ofO (asTm e) fun q => q.2.1 == tmName f && q.2.2.2 && !isStar q.2.2.1 && chk T a sc q.1 && chk T b sc q.2.2.1
  | .tix a b, sc, e => ofO (asSub e) fun q => !isSlc q.2 && chk T a sc q.1 && chk T b sc q.2
  | .tsl a lo hi, sc, e => ofO (asSub e) fun q => ofO (asSlc q.2) fun u => u.2.2.isNone && chk T a sc q.1 && chkO T lo sc u.1 && chkO T hi sc u.2.1
  | .tin a b, sc, e => ofO (asCmp e) fun q => ofO (one1 q.2.2) fun y => decide (q.2.1 = [.In]) && !behindInMarks .In y && chk T a sc q.1 && chk T b sc y
noncomputable def chkA (T : Tab) : CA → Sc → List Expr → Bool
  | .nil, _, es => es.isEmpty
  | .cons a l, sc, es => match es with
    | x :: r => !isStar x && chk T a sc x && chkA T l sc r
    | [] => false
noncomputable def chkO (T : Tab) : CO → Sc → Option Expr → Bool
  | .no, _, e => e.isNone
  | .so a, sc, e => ofO e fun x => chk T a sc x
noncomputable def chkC (T : Tab) : CO → Sc → List Expr → Bool
  | .no, _, es => es.isEmpty
  | .so a, sc, es => ofO (one1 es) fun x => chk T a sc x && !isIf x
noncomputable def chkI (T : Tab) : CI → Sc → Expr → Bool
  | .sq a, sc, e => chk T a sc e
  | .ky _, _, _ => false
  | .r1 a, sc, e => ofO (asFn1 e) fun q => q.1 == ("range" : Str) && glob sc q.1 && !isStar q.2 && chk T a sc q.2
  | .r2 a b, sc, e => ofO (asFn2 e) fun q => q.1 == ("range" : Str) && glob sc q.1 && !isStar q.2.1 && !isStar q.2.2 && chk T a sc q.2.1 && chk T b sc q.2.2
  | .r3 _ _ _, _, _ => false
  | .r4 a b c, sc, e => ofO (asFn3 e) fun q => q.1 == ("range" : Str) && glob sc q.1 && !isStar q.2.1 && !isStar q.2.2.1 && !isStar q.2.2.2 && chk T a sc q.2.1 && chk T b sc q.2.2.1 && chk T c sc q.2.2.2
  | .tx a, sc, e => chk T a sc e
  | .zp _ _, _, _ => false
  | .en _, _, _ => false
end
structure Good (X : Cx) (T : Tab) (p : Nat → List D → Option D) (sc : Sc) : Prop where
  N : X.N = sc.map (·.1)
  nd : (sc.map (·.1)).Nodup
  vis : ∀ x k, sc.lookup x = some k → visK k = true → Vis X.env.scope x
  gl : ∀ x, sc.lookup x = some .globalImplicit → Gl X x
  loc : ∀ x, sc.lookup x = some .local → X.env.scope.names.lookup x = some .local
  cel : ∀ x, sc.lookup x = some .cell → X.env.scope.names.lookup x = some .cell ∧ X.fn x = true
  out : ∀ x, sc.lookup x = some .cell ∨ sc.lookup x = some .free → X.env.kindOf x = some .cell ∨ X.env.kindOf x = some .free
  calm : X.calm = true
  hu : X.A.units + 64 < cLine
  blt : ∀ x, x ∈ bltN → X.mg x = none
  gls : ∀ x c, T.gls.lookup x = some c → ∀ d, cstIs d c = true → ∃ v u, X.mg x = some u ∧ RelV v u ∧ ∀ G, Rp G d v
  fns : ∀ f x n, T.fns[f]? = some (x, n) → ∃ k a fd ps, FnOk X.prog X.w X.K X.mg X.base CX0 k a fd ps (spD n (p f)) ∧ Room k X.A ∧ X.mg x = some (.ref a) ∧ PySem.W.keepIn X.K (.ref a) = true ∧ Binds X.K fd ps []
theorem ndS_ok : ∀ {l : List Str}, ndS l = true → l.Nodup
  | [], _ => List.nodup_nil
  | x :: r, h => by
    simp only [ndS, Bool.and_eq_true, Bool.not_eq_true', List.contains_eq_mem, decide_eq_false_iff_not] at h
    exact List.nodup_cons.mpr ⟨h.1, ndS_ok h.2⟩
section
variable {X : Cx} {T : Tab} {p : Nat → List D → Option D} {sc : Sc}
theorem Good.slot (g : Good X T p sc) {i : Nat} {x : Str} {k : NameKind} (h : sc[i]? = some (x, k)) : X.N[i]? = some x ∧ sc.lookup x = some k := by
  refine ⟨by rw [g.N, List.getElem?_map, h]; rfl, lookup_of_mem g.nd (List.mem_of_getElem? h)⟩
theorem Good.slotIs (g : Good X T p sc) {i : Nat} {x : Str} (h : slotIs sc i x = true) : X.N[i]? = some x ∧ Vis X.env.scope x := by
  unfold TW.slotIs at h
  split at h
  · rename_i y k e
    simp only [Bool.and_eq_true, beq_iff_eq] at h
    obtain ⟨rfl, hk⟩ := h
    obtain ⟨a, b⟩ := g.slot e
    exact ⟨a, g.vis _ _ b hk⟩
  · cases h
theorem Good.slotL (g : Good X T p sc) {i : Nat} {x : Str} (h : slotL sc i x = true) : X.N[i]? = some x ∧ Loc X.env.scope x ∧ (X.fn x = true ∨ X.env.scope.names.lookup x = some .local) := by
  unfold TW.slotL at h
  split at h
  · rename_i y k e
    simp only [Bool.and_eq_true, beq_iff_eq] at h
    obtain ⟨rfl, hk⟩ := h
    obtain ⟨a, b⟩ := g.slot e
    refine ⟨a, ?_⟩
    cases k <;> first | (cases hk; done) | skip
    · exact ⟨.inl (g.loc _ b), .inr (g.loc _ b)⟩
    · exact ⟨.inr (g.cel _ b).1, .inl (g.cel _ b).2⟩
  · cases h
theorem Good.nodup (g : Good X T p sc) : X.N.Nodup := by rw [g.N]; exact g.nd
theorem Good.glob (g : Good X T p sc) {x : Str} (h : glob sc x = true) : Gl X x := g.gl x (by simpa [TW.glob] using h)
theorem dbg1 {x : Str} (h : notDbg x = true) : (x == ("__debug__" : Str)) = false ∧ (x == ("__classdict__" : Str)) = false ∧ x ≠ ("__name__" : Str) := by
  simp only [notDbg, Bool.and_eq_true, Bool.not_eq_true'] at h
  exact ⟨h.1.1, h.1.2, by simpa using h.2⟩
theorem star1 {e : Expr} (h : isStar e = false) (env : Env) (es : List Expr) : starEach (e :: es) env = (false, eval e env) :: starEach es env := by
  cases e <;> first | (cases h; done) | rfl
theorem noset {e : Expr} (h : isSet e = false) (env : Env) (x : Value) : foldedSetIterable e env x = pure x := by
  cases e <;> first | (cases h; done) | rfl
theorem plainIx {e : Expr} (h : isSlc e = false) : PlainIx e := by
  intro o i
  cases e <;> first | (cases h; done) | rfl
theorem noSl {e : Expr} (h : isSlc e = false) : NoSl e := by
  intro ov iv
  cases e <;> first | (cases h; done) | rfl
noncomputable def plainT : Expr → Bool
  | .UnaryOp .Not _ _ => false
  | .BoolOp .. => false
  | .IfExp .. => false
  | .Compare .. => false
  | _ => true
theorem isTrue_plain {e : Expr} (h : plainT e = true) (env : Env) (whole : Sem Value) : isTrue e env whole = (do let v ← whole; standAt e.pos; holding [v] (truthy v)) := by
  cases e <;> first | (cases h; done) | rfl | skip
  rename_i op _ _
  cases op <;> first | (cases h; done) | rfl
structure Snd (X : Cx) (x : Expr) (f : En → VT) : Prop where
  e : DE X x (fun ρ => (f ρ).1)
  t : isIf x = false → DT X x (fun ρ => (f ρ).2)
  w : ∀ op vs pos, x = .BoolOp op vs pos → DW X x (fun ρ => (f ρ).2)
theorem Snd.plain {e : Expr} {v : En → Option (Kd × D)} (h : DE X e v) (hp : plainT e = true) : Snd X e (fun ρ => vt (v ρ)) :=
  ⟨h, fun _ => dt_val h (isTrue_plain hp X.env), (fun op vs pos z => by subst z; cases hp)⟩
theorem capIs_len : ∀ {cap : List (Option Nat)} {names : Sc}, capIs sc cap names = true → cap.length = names.length
  | [], [], _ => rfl
  | none :: c, _ :: r, h => by simp [capIs_len (cap := c) (names := r) (by simpa [capIs] using h)]
  | some j :: c, (x, k) :: r, h => by
    simp only [capIs, Bool.and_eq_true] at h
    simp [capIs_len (cap := c) (names := r) h.2]
  | [], _ :: _, h => by cases h
  | none :: _, [], h => by cases h
  | some _ :: _, [], h => by cases h
theorem capIs_get : ∀ {cap : List (Option Nat)} {names : Sc} {i j : Nat} {x : Str} {k : NameKind}, capIs sc cap names = true → names[i]? = some (x, k) → cap[i]? = some (some j) → k = .free ∧ ∃ m, sc[j]? = some (x, m)
  | [], _, _, _, _, _, _, _, e => by simp at e
  | none :: c, _ :: r, i, j, x, k, h, e1, e2 => by
    cases i with
    | zero => simp at e2
    | succ i => exact capIs_get (cap := c) (names := r) (i := i) (by simpa [capIs] using h) (by simpa using e1) (by simpa using e2)
  | some j' :: c, (x', k') :: r, i, j, x, k, h, e1, e2 => by
    simp only [capIs, Bool.and_eq_true, decide_eq_true_eq] at h
    cases i with
    | zero =>
      simp at e1 e2
      obtain ⟨rfl, rfl⟩ := e1
      subst e2
      refine ⟨h.1.1, ?_⟩
      have h2 := h.1.2
      split at h2
      · rename_i y m e
        have : y = x' := by simpa using h2
        subst this
        exact ⟨m, e⟩
      · cases h2
    | succ i => exact capIs_get (cap := c) (names := r) (i := i) h.2 (by simpa using e1) (by simpa using e2)
  | none :: _, [], _, _, _, _, _, e, _ => by simp at e
  | some _ :: _, [], _, _, _, _, _, e, _ => by simp at e
theorem frees_get : ∀ {names : Sc} {x : Str}, frees sc names = true → (x, NameKind.free) ∈ names → sc.lookup x = some .cell ∨ sc.lookup x = some .free
  | [], _, _, h => by cases h
  | (y, k) :: r, x, h, m => by
    rcases List.mem_cons.mp m with e | m
    · cases e
      simp only [frees, Bool.and_eq_true, Bool.or_eq_true, beq_iff_eq] at h
      exact h.1
    · refine frees_get (names := r) ?_ m
      cases k <;> simp only [frees, Bool.and_eq_true] at h <;> first | exact h | exact h.2
structure Blk (sc : Sc) (cap : List (Option Nat)) (scope : Scope) : Prop where
  kind : scope.kind = .function
  nd : (scope.names.map (·.1)).Nodup
  cap : capIs sc cap scope.names = true
  fr : frees sc scope.names = true
theorem blk_of {cap : List (Option Nat)} {scope : Scope} (h : blkIs sc cap scope = true) : Blk sc cap scope := by
  simp only [blkIs, Bool.and_eq_true, decide_eq_true_eq] at h
  exact ⟨h.1.1.1, ndS_ok h.1.1.2, h.1.2, h.2⟩
theorem Blk.ok {cap : List (Option Nat)} {scope : Scope} (b : Blk sc cap scope) (g : Good X T p sc) : BlkOk X scope (scope.names.map (·.1)) cap := by
  refine ⟨b.kind, b.nd, by rw [capIs_len b.cap, List.length_map], fun i j x h1 h2 => ?_, fun n hn => g.out n (frees_get b.fr hn)⟩
  rw [List.getElem?_map] at h1
  obtain ⟨⟨y, k⟩, e, rfl⟩ := Option.map_eq_some_iff.mp h1
  obtain ⟨rfl, m, em⟩ := capIs_get b.cap e h2
  exact ⟨lookup_of_mem b.nd (List.mem_of_getElem? e), (g.slot em).1⟩
theorem Blk.inj {cap : List (Option Nat)} {scope : Scope} (b : Blk sc cap scope) : ∀ (i j k : Nat), cap[i]? = some (some k) → cap[j]? = some (some k) → i = j := by
  intro i j k h1 h2
  have hl := capIs_len b.cap
  have li : i < scope.names.length := by rw [← hl]; exact (List.getElem?_eq_some_iff.mp h1).1
  have lj : j < scope.names.length := by rw [← hl]; exact (List.getElem?_eq_some_iff.mp h2).1
  have ei : scope.names[i]? = some scope.names[i] := by simp [li]
  have ej : scope.names[j]? = some scope.names[j] := by simp [lj]
  obtain ⟨_, m1, e1⟩ := capIs_get (x := scope.names[i].1) (k := scope.names[i].2) b.cap ei h1
  obtain ⟨_, m2, e2⟩ := capIs_get (x := scope.names[j].1) (k := scope.names[j].2) b.cap ej h2
  rw [e1] at e2
  have en : scope.names[i].1 = scope.names[j].1 := (Prod.mk.inj (Option.some.inj e2)).1
  have hi : i < (scope.names.map (·.1)).length := by simpa using li
  have hj : j < (scope.names.map (·.1)).length := by simpa using lj
  have : (scope.names.map (·.1))[i] = (scope.names.map (·.1))[j] := by simpa using en
  exact (List.getElem_inj b.nd).mp this
theorem Blk.good {cap : List (Option Nat)} {scope : Scope} (b : Blk sc cap scope) (g : Good X T p sc) (s : Shared) (H : Hp) (fp : List Addr) : Good (blkX X scope (scope.names.map (·.1)) s H fp) T p scope.names := by
  have kof : ∀ x, (blkX X scope (scope.names.map (·.1)) s H fp).env.scope.names.lookup x = (scope.names.lookup x).map fun k => if (k == .free && X.env.scope.kind == .function && X.env.kindOf x == some .cell) then .cell else k := fun x => relabel_lookup scope X.env x
  refine ⟨rfl, b.nd, fun x k h hk => ?_, fun x h => ?_, fun x h => ?_, fun x h => ?_, fun x h => ?_, g.calm, g.hu, g.blt, g.gls, g.fns⟩
  · show _ = _ ∨ _ = _ ∨ _ = _
    rw [kof, h]
    cases k <;> first | (cases hk; done) | skip
    · exact .inl rfl
    · exact .inr (.inl rfl)
    · show some (if _ then _ else _) = _ ∨ some (if _ then _ else _) = _ ∨ some (if _ then _ else _) = _
      split
      · exact .inr (.inl rfl)
      · exact .inr (.inr rfl)
  · show (blkX X scope (scope.names.map (·.1)) s H fp).env.scope.names.lookup x = _
    rw [kof, h]; rfl
  · rw [kof, h]; rfl
  · refine ⟨by rw [kof, h]; rfl, decide_eq_true h⟩
  · show (blkX X scope (scope.names.map (·.1)) s H fp).env.scope.names.lookup x = _ ∨ (blkX X scope (scope.names.map (·.1)) s H fp).env.scope.names.lookup x = _
    rw [kof]
    rcases h with h | h
    · rw [h]; exact .inl rfl
    · rw [h]
      show some (if _ then _ else _) = _ ∨ some (if _ then _ else _) = _
      split
      · exact .inl rfl
      · exact .inr rfl
theorem dgs_ok (g : Good X T p sc) : ∀ {l : List Nat} {es : List Expr}, chkTs sc l es = true → DGs X es l ∧ (assignEach es X.env).length = l.length ∧ (assignEach es X.env).findIdx? (·.1) = none
  | [], [], _ => ⟨dgs_nil, rfl, rfl⟩
  | i :: l, e :: r, h => by
    cases e <;> first | (cases h; done) | skip
    have h := Bool.and_eq_true_iff.mp h
    obtain ⟨a, b, c⟩ := g.slotL h.1
    obtain ⟨h1, h2, h3⟩ := dgs_ok g h.2
    refine ⟨dgs_cons g.nodup a b c h1 rfl, by simp [assignEach, h2], ?_⟩
    simp [assignEach, List.findIdx?_cons, h3]
  | [], _ :: _, h => by cases h
  | _ :: _, [], h => by cases h
theorem dg_ok (g : Good X T p sc) {tg : Tg} {e : Expr} (h : chkT sc tg e = true) : DG X e tg := by
  cases tg with
  | one i =>
    cases e <;> first | (cases h; done) | skip
    obtain ⟨a, b, c⟩ := g.slotL (h : slotL sc i _ = true)
    exact dg_name g.nodup a b c
  | many l =>
    cases e <;> first | (cases h; done) | skip
    obtain ⟨h1, h2, h3⟩ := dgs_ok g (h : chkTs sc l _ = true)
    exact dg_tup g.calm h1 h2 h3
theorem evA_len (p : Nat → List D → Option D) : ∀ (l : CA) (ρ : En) (ds : List D), evA p l ρ = some ds → ds.length = l.len
  | .nil, ρ, ds, h => by cases h; rfl
  | .cons a l, ρ, ds, h => by
    obtain ⟨d, _, h⟩ := bnd h
    obtain ⟨q, e, rfl⟩ := mpd h
    simp [CA.len, evA_len p l ρ q e]
theorem cst_ok {d : D} {c : Const} {k : Nat} {pos : Pos} (h : cstIs d c = true) : DE X (.Constant c k pos) (fun _ => some (.fz, d)) := by
  cases d <;> cases c <;> first | (cases h; done) | skip
  · exact de_non
  · obtain rfl := of_decide_eq_true h; exact de_bl
  · obtain rfl := of_decide_eq_true h; exact de_int
  · obtain rfl := of_decide_eq_true h; exact de_str
theorem cmp_t {a b : C} {op : CmpOp} : (fun ρ => (ev p (.cmp op a b) ρ).2) = fun ρ => (ev p a ρ).1.bind fun x => (ev p b ρ).1.bind fun y => cmpD op x.2 y.2 := by
  funext ρ
  show (((ev p a ρ).1.bind fun x => (ev p b ρ).1.bind fun y => (cmpD op x.2 y.2).map fun b => (Kd.fz, D.bl b)).bind fun x => truD x.2) = _
  cases (ev p a ρ).1 with
  | none => rfl
  | some x =>
    show (((ev p b ρ).1.bind fun y => (cmpD op x.2 y.2).map fun b => (Kd.fz, D.bl b)).bind fun x => truD x.2) = (ev p b ρ).1.bind fun y => cmpD op x.2 y.2
    cases (ev p b ρ).1 with
    | none => rfl
    | some y =>
      show (((cmpD op x.2 y.2).map fun b => (Kd.fz, D.bl b)).bind fun x => truD x.2) = cmpD op x.2 y.2
      cases cmpD op x.2 y.2 <;> rfl
theorem cmp2_t {a b c : C} {op oq : CmpOp} : (fun ρ => (ev p (.cmp2 op oq a b c) ρ).2) = fun ρ => (ev p a ρ).1.bind fun x => (ev p b ρ).1.bind fun y => (cmpD op x.2 y.2).bind fun k =>
      if k then (ev p c ρ).1.bind fun z => cmpD oq y.2 z.2 else some false := by
  funext ρ
  show (((ev p a ρ).1.bind fun x => (ev p b ρ).1.bind fun y => (cmpD op x.2 y.2).bind fun k => if k then (ev p c ρ).1.bind fun z => (cmpD oq y.2 z.2).map fun b => (Kd.fz, D.bl b) else some (Kd.fz, D.bl false)).bind fun x => truD x.2) = _
  cases (ev p a ρ).1 with
  | none => rfl
  | some x =>
    cases (ev p b ρ).1 with
    | none => rfl
    | some y =>
      show (((cmpD op x.2 y.2).bind fun k => if k then (ev p c ρ).1.bind fun z => (cmpD oq y.2 z.2).map fun b => (Kd.fz, D.bl b) else some (Kd.fz, D.bl false)).bind fun x => truD x.2) = (cmpD op x.2 y.2).bind fun k => if k then (ev p c ρ).1.bind fun z => cmpD oq y.2 z.2 else some false
      cases cmpD op x.2 y.2 with
      | none => rfl
      | some k =>
        cases k with
        | false => rfl
        | true =>
          show (((ev p c ρ).1.bind fun z => (cmpD oq y.2 z.2).map fun b => (Kd.fz, D.bl b)).bind fun x => truD x.2) = (ev p c ρ).1.bind fun z => cmpD oq y.2 z.2
          cases (ev p c ρ).1 with
          | none => rfl
          | some z =>
            show (((cmpD oq y.2 z.2).map fun b => (Kd.fz, D.bl b)).bind fun x => truD x.2) = cmpD oq y.2 z.2
            cases cmpD oq y.2 z.2 <;> rfl
theorem tyStr_boot (t : Ty) : bootBuiltins (tyStr t) = some (.type (tyName t)) := by cases t <;> decide +kernel
theorem tyStr_in (t : Ty) : tyStr t ∈ bltN ∧ tyStr t ≠ "__name__" ∧ (tyStr t == ("__debug__" : Str)) = false := by cases t <;> decide +kernel
theorem b1Name_in (f : B1) : b1Name f ∈ bltN ∧ b1Name f ≠ "__name__" ∧ (b1Name f == ("__debug__" : Str)) = false := by cases f <;> decide +kernel
theorem b2Name_in (f : B2) : b2Name f ∈ bltN ∧ b2Name f ≠ "__name__" ∧ (b2Name f == ("__debug__" : Str)) = false := by cases f <;> decide +kernel
theorem de_b1 (g : Good X T p sc) {f : B1} {a : C} {e : Expr} {q pos : Pos} (hs : b1Sup f = true) (hgl : glob sc (b1Name f) = true) (hst : isStar e = false) (he : DE X e (fun ρ => (ev p a ρ).1)) :
    DE X (.Call (.Name (b1Name f) q) [e] [] pos) (fun ρ => (ev p a ρ).1.bind fun x => b1D f x.2) := by
  have st : starEach [e] X.env = [(false, eval e X.env)] := star1 hst _ _
  have gm := g.blt _ (b1Name_in f).1
  have gg := g.glob hgl
  obtain ⟨_, n1, n2⟩ := b1Name_in f
  cases f <;> first | (cases hs; done) | skip
  · exact de_bB c_len gg gm (by decide +kernel) n1 n2 he st
  · exact de_bT c_tuple gg gm (by decide +kernel) n1 n2 he st
  · exact de_bT c_str gg gm (by decide +kernel) n1 n2 he st
  · exact de_bT c_int gg gm (by decide +kernel) n1 n2 he st
  · exact de_bT c_itx gg gm (by decide +kernel) n1 n2 he st
  · exact de_bB (c_all g.calm) gg gm (by decide +kernel) n1 n2 he st
theorem de_b2' (g : Good X T p sc) {f : B2} {a b : C} {e e2 : Expr} {q pos : Pos} (hgl : glob sc (b2Name f) = true) (hst : isStar e = false) (hst2 : isStar e2 = false) (he : DE X e (fun ρ => (ev p a ρ).1)) (he2 : DE X e2 (fun ρ => (ev p b ρ).1)) :
    DE X (.Call (.Name (b2Name f) q) [e, e2] [] pos) (fun ρ => (ev p a ρ).1.bind fun x => (ev p b ρ).1.bind fun y => b2D f x.2 y.2) := by
  have st2 : starEach [e2] X.env = [(false, eval e2 X.env)] := star1 hst2 _ _
  have st : starEach [e, e2] X.env = [(false, eval e X.env), (false, eval e2 X.env)] := by rw [star1 hst, st2]
  have gm := g.blt _ (b2Name_in f).1
  have gg := g.glob hgl
  obtain ⟨_, n1, n2⟩ := b2Name_in f
  cases f
  · exact de_b2 (c_min2 g.calm) (b2_ints .min) gg gm (by decide +kernel) n1 n2 he he2 st st2
  · exact de_b2 (c_max2 g.calm) (b2_ints .max) gg gm (by decide +kernel) n1 n2 he he2 st st2
end
end TW
end
section
set_option Elab.async false
set_option linter.all false
set_option maxRecDepth 100000
set_option maxHeartbeats 4000000
namespace TW
open PySem PySem.Spec PyProof.Rows L2
section
variable {X : Cx} {T : Tab} {p : Nat → List D → Option D} {sc : Sc}
theorem Snd.pl {c : C} {e : Expr} (h : DE X e (fun ρ => (ev p c ρ).1)) (hp : plainT e = true) (hc : ∀ ρ, (ev p c ρ).2 = (ev p c ρ).1.bind fun x => truD x.2) : Snd X e (ev p c) := by
  refine ⟨h, fun _ => ?_, fun op vs pos z => by subst z; cases hp⟩
  have : (fun ρ => (ev p c ρ).2) = fun ρ => (ev p c ρ).1.bind fun x => truD x.2 := funext hc
  rw [this]
  exact dt_val h (isTrue_plain hp X.env)
theorem chkA_any : ∀ {es : List Expr} {l : CA} (env : Env) (pos : Pos), chkA T l sc es = true → (backTo pos (starEach es env)).any (·.1) = false
  | [], l, env, pos, _ => rfl
  | x :: r, l, env, pos, h => by
    cases l with
    | nil => cases h
    | cons a l =>
      have h : (!isStar x && chk T a sc x && chkA T l sc r) = true := h
      simp only [Bool.and_eq_true, Bool.not_eq_true'] at h
      rw [star1 h.1.1]
      have := chkA_any (es := r) (l := l) env pos h.2
      simpa [backTo] using this
end
theorem tin_t {p : Nat → List D → Option D} {a b : C} : (fun ρ => (ev p (.tin a b) ρ).2) = fun ρ => (ev p a ρ).1.bind fun x => (ev p b ρ).1.bind fun y => tinO x.2 y.2 := by
  funext ρ
  show (((ev p a ρ).1.bind fun x => (ev p b ρ).1.bind fun y => (tinO x.2 y.2).map fun b => (Kd.fz, D.bl b)).bind fun x => truD x.2) = _
  cases (ev p a ρ).1 with
  | none => rfl
  | some x =>
    show (((ev p b ρ).1.bind fun y => (tinO x.2 y.2).map fun b => (Kd.fz, D.bl b)).bind fun x => truD x.2) = (ev p b ρ).1.bind fun y => tinO x.2 y.2
    cases (ev p b ρ).1 with
    | none => rfl
    | some y =>
      show (((tinO x.2 y.2).map fun b => (Kd.fz, D.bl b)).bind fun x => truD x.2) = tinO x.2 y.2
      cases tinO x.2 y.2 <;> rfl
mutual
theorem snd {T : Tab} {p : Nat → List D → Option D} : ∀ (c : C) {X : Cx} {sc : Sc} {e : Expr}, Good X T p sc → chk T c sc e = true → Snd X e (ev p c)
  | .var i, X, sc, e, g, h => by
    replace h := ofO_true h
    obtain ⟨x, e1, h⟩ := h
    obtain ⟨_, rfl⟩ := asName_of e1
    simp only [Bool.and_eq_true] at h
    obtain ⟨a, b⟩ := g.slotIs h.1
    obtain ⟨d1, d2, _⟩ := dbg1 h.2
    exact .pl (de_var a b d1 d2 p) rfl fun _ => rfl
  | .cst d, X, sc, e, g, h => by
    replace h := Bool.or_eq_true_iff.mp h
    rcases h with h | h
    · replace h := ofO_true h
      obtain ⟨c, e1, h⟩ := h
      obtain ⟨_, _, rfl⟩ := asConst_of e1
      exact .pl (cst_ok h) rfl fun _ => rfl
    · replace h := ofO_true h
      obtain ⟨x, e1, h⟩ := h
      obtain ⟨_, rfl⟩ := asName_of e1
      simp only [Bool.and_eq_true] at h
      obtain ⟨d1, d2, _⟩ := dbg1 h.1.2
      have h3 := h.2
      unfold gstIs at h3
      split at h3
      · rename_i c ec
        obtain ⟨v, u, hm, rel, hr⟩ := g.gls _ _ ec _ h3
        exact .pl (de_glob (g.glob h.1.1) hm rel d1 hr) rfl fun _ => rfl
      · cases h3
  | .neg _, X, sc, e, g, h => nomatch h
  | .nt a, X, sc, e, g, h => by
    replace h := ofO_true h
    obtain ⟨⟨o, x⟩, e1, h⟩ := h
    obtain ⟨_, rfl⟩ := asUn_of e1
    simp only [Bool.and_eq_true, decide_eq_true_eq, Bool.not_eq_true'] at h
    obtain ⟨⟨rfl, h⟩, h2⟩ := h
    have s := snd a g h
    exact ⟨de_not s.e, fun _ => dt_not (s.t h2), fun op vs pos z => by cases z⟩
  | .bin op a b, X, sc, e, g, h => by
    replace h := ofO_true h
    obtain ⟨⟨x, o, y⟩, e1, h⟩ := h
    obtain ⟨_, rfl⟩ := asBin_of e1
    simp only [Bool.and_eq_true, decide_eq_true_eq] at h
    obtain ⟨⟨rfl, h1⟩, h2⟩ := h
    exact .pl (de_bin (op_ok _) (snd a g h1).e (snd b g h2).e) rfl fun _ => rfl
  | .cmp op a b, X, sc, e, g, h => by
    replace h := ofO_true h
    obtain ⟨⟨x, os, es⟩, e1, h⟩ := h
    replace h := ofO_true h
    obtain ⟨y, e2, h⟩ := h
    obtain ⟨_, rfl⟩ := asCmp_of e1
    simp only [Bool.and_eq_true, decide_eq_true_eq, Bool.not_eq_true'] at h
    obtain ⟨⟨⟨rfl, hm⟩, h1⟩, h2⟩ := h
    obtain rfl := one1_of e2
    have s1 := snd a g h1
    have s2 := snd b g h2
    refine ⟨de_cmp (cmpD_ok g.hu _) hm s1.e s2.e, fun _ => ?_, fun op vs pos z => by cases z⟩
    rw [cmp_t]
    exact dt_cmp (cmpD_ok g.hu _) hm s1.e s2.e
  | .cmp2 op oq a b c, X, sc, e, g, h => by
    replace h := ofO_true h
    obtain ⟨⟨x, os, es⟩, e1, h⟩ := h
    replace h := ofO_true h
    obtain ⟨y, e2, h⟩ := h
    obtain ⟨_, rfl⟩ := asCmp_of e1
    simp only [Bool.and_eq_true, decide_eq_true_eq, Bool.not_eq_true'] at h
    obtain ⟨⟨⟨⟨rfl, hm⟩, h1⟩, h2⟩, h3⟩ := h
    obtain rfl := two2_of e2
    have s1 := snd a g h1
    have s2 := snd b g h2
    have s3 := snd c g h3
    refine ⟨de_chain (cmpD_ok g.hu _) (cmpD_ok g.hu _) hm s1.e s2.e s3.e, fun _ => ?_, fun op vs pos z => by cases z⟩
    rw [cmp2_t]
    exact dt_chain (cmpD_ok g.hu _) (cmpD_ok g.hu _) hm s1.e s2.e s3.e
  | .an a b, X, sc, e, g, h => by
    replace h := ofO_true h
    obtain ⟨⟨o, es, pos⟩, e1, h⟩ := h
    obtain rfl := asBool_of e1
    simp only [Bool.and_eq_true, decide_eq_true_eq] at h
    obtain ⟨rfl, h⟩ := h
    replace h := ofO_true h
    obtain ⟨x, e2, h⟩ := h
    simp only [Bool.and_eq_true, Bool.not_eq_true'] at h
    obtain ⟨⟨h1, hx⟩, h⟩ := h
    have s1 := snd a g h1
    match es, e2, h with
    | x :: y :: [], rfl, h =>
      have h : (chk T b sc y && !isIf y) = true := h
      simp only [Bool.and_eq_true, Bool.not_eq_true'] at h
      have s2 := snd b g h.1
      have w := dw_and (pos := pos) (s1.t hx) (dw_and1 (s2.t h.2))
      exact ⟨de_and s1.e (de_one s2.e), fun _ => w.dt, fun op vs pos z => by cases z; exact w⟩
    | x :: y :: z :: r, rfl, h =>
      have s2 := snd b g (h : chk T b sc (.BoolOp .And (y :: z :: r) pos) = true)
      have w := dw_and (s1.t hx) (s2.w _ _ _ rfl)
      exact ⟨de_and s1.e s2.e, fun _ => w.dt, fun op vs pos z => by cases z; exact w⟩
  | .orr a b, X, sc, e, g, h => by
    replace h := ofO_true h
    obtain ⟨⟨o, es, pos⟩, e1, h⟩ := h
    obtain rfl := asBool_of e1
    simp only [Bool.and_eq_true, decide_eq_true_eq] at h
    obtain ⟨rfl, h⟩ := h
    replace h := ofO_true h
    obtain ⟨x, e2, h⟩ := h
    simp only [Bool.and_eq_true, Bool.not_eq_true'] at h
    obtain ⟨⟨h1, hx⟩, h⟩ := h
    have s1 := snd a g h1
    match es, e2, h with
    | x :: y :: [], rfl, h =>
      have h : (chk T b sc y && !isIf y) = true := h
      simp only [Bool.and_eq_true, Bool.not_eq_true'] at h
      have s2 := snd b g h.1
      have w := dw_or (pos := pos) (s1.t hx) (dw_or1 (s2.t h.2))
      exact ⟨de_or s1.e (de_one s2.e), fun _ => w.dt, fun op vs pos z => by cases z; exact w⟩
    | x :: y :: z :: r, rfl, h =>
      have s2 := snd b g (h : chk T b sc (.BoolOp .Or (y :: z :: r) pos) = true)
      have w := dw_or (s1.t hx) (s2.w _ _ _ rfl)
      exact ⟨de_or s1.e s2.e, fun _ => w.dt, fun op vs pos z => by cases z; exact w⟩
  | .ife _ _ _, X, sc, e, g, h => nomatch h
  | .tp l, X, sc, e, g, h => by
    replace h := ofO_true h
    obtain ⟨es, e1, h⟩ := h
    obtain ⟨_, _, rfl⟩ := asTup_of e1
    exact .pl (de_tup (sndA l g h)) rfl fun _ => rfl
  | .ls l, X, sc, e, g, h => by
    replace h := ofO_true h
    obtain ⟨es, e1, h⟩ := h
    obtain ⟨_, rfl⟩ := asLst_of e1
    exact .pl (de_lst (sndA l g h)) rfl fun _ => rfl
  | .ix a b, X, sc, e, g, h => by
    replace h := ofO_true h
    obtain ⟨⟨x, y⟩, e1, h⟩ := h
    obtain ⟨_, rfl⟩ := asSub_of e1
    simp only [Bool.and_eq_true, Bool.not_eq_true'] at h
    exact .pl (de_ixk g.hu (plainIx h.1.1) (noSl h.1.1) (snd a g h.1.2).e (snd b g h.2).e) rfl fun _ => rfl
  | .sl a lo hi, X, sc, e, g, h => by
    replace h := ofO_true h
    obtain ⟨⟨x, y⟩, e1, h⟩ := h
    replace h := ofO_true h
    obtain ⟨⟨l, u, t⟩, e2, h⟩ := h
    obtain ⟨_, rfl⟩ := asSub_of e1
    obtain ⟨_, rfl⟩ := asSlc_of e2
    simp only [Bool.and_eq_true, Option.isNone_iff_eq_none] at h
    obtain ⟨⟨⟨rfl, h1⟩, h2⟩, h3⟩ := h
    exact .pl (de_sl (snd a g h1).e (sndO lo g h2) (sndO hi g h3)) rfl fun _ => rfl
  | .rev _, X, sc, e, g, h => nomatch h
  | .comp cap tg it cd el, X, sc, e, g, h => by
    replace h := ofO_true h
    obtain ⟨⟨elt, gs, scope⟩, e1, h⟩ := h
    replace h := ofO_true h
    obtain ⟨⟨target, iter, ifs, isa⟩, e2, h⟩ := h
    obtain ⟨_, rfl⟩ := asComp_of e1
    obtain rfl := one1_of e2
    simp only [Bool.and_eq_true, decide_eq_true_eq, Bool.not_eq_true'] at h
    obtain ⟨⟨⟨⟨⟨⟨⟨rfl, hb⟩, hs⟩, ht⟩, hti⟩, hi⟩, hc⟩, he⟩ := h
    have b := blk_of hb
    exact .pl (de_comp (b.ok g) b.inj g.calm (sndI it g hi _ hti) (fun s H fp => dg_ok (b.good g s H fp) ht) (fun s H fp => sndC cd (b.good g s H fp) hc) (fun s H fp => (snd el (b.good g s H fp) he).e) (noset hs X.env)) rfl fun _ => rfl
  | .call f l, X, sc, e, g, h => by
    replace h := ofO_true h
    obtain ⟨⟨x, es⟩, e1, h⟩ := h
    obtain ⟨_, pos, rfl⟩ := asFn_of e1
    simp only [Bool.and_eq_true] at h
    obtain ⟨⟨⟨⟨h0, h1⟩, h2⟩, h3⟩, h4⟩ := h
    unfold fnIs at h1
    split at h1
    case h_2 => cases h1
    rename_i z m ef
    simp only [Bool.and_eq_true, beq_iff_eq, decide_eq_true_eq] at h1
    obtain ⟨rfl, rfl⟩ := h1
    obtain ⟨k, a, fd, ps, F, hr, hm, hk, hb⟩ := g.fns _ _ _ ef
    obtain ⟨d1, d2, _⟩ := dbg1 h3
    cases es with
    | nil => cases h0
    | cons y ys =>
      cases l with
      | nil => cases h4
      | cons a0 l0 =>
        have h4' : (!isStar y && chk T a0 sc y && chkA T l0 sc ys) = true := h4
        simp only [Bool.and_eq_true, Bool.not_eq_true'] at h4'
        exact .pl (de_call F hr (g.glob h2) hm hk hb (fun ρ ds e => evA_len p _ ρ ds e) (sndA (.cons a0 l0) g h4) d1 (star1 h4'.1.1 _ _) (chkA_any (l := l0) X.env pos h4'.2)) rfl fun _ => rfl
  | .b1 f a, X, sc, e, g, h => by
    replace h := ofO_true h
    obtain ⟨⟨x, y⟩, e1, h⟩ := h
    obtain ⟨_, _, rfl⟩ := asFn1_of e1
    simp only [Bool.and_eq_true, beq_iff_eq, Bool.not_eq_true'] at h
    obtain ⟨⟨⟨⟨rfl, h1⟩, h2⟩, h3⟩, h4⟩ := h
    exact .pl (de_b1 g h1 h2 h3 (snd a g h4).e) rfl fun _ => rfl
  | .b2 f a b, X, sc, e, g, h => by
    replace h := ofO_true h
    obtain ⟨⟨x, y, z⟩, e1, h⟩ := h
    obtain ⟨_, _, rfl⟩ := asFn2_of e1
    simp only [Bool.and_eq_true, beq_iff_eq, Bool.not_eq_true'] at h
    obtain ⟨⟨⟨⟨⟨rfl, h1⟩, h2⟩, h3⟩, h4⟩, h5⟩ := h
    exact .pl (de_b2' g h1 h2 h3 (snd a g h4).e (snd b g h5).e) rfl fun _ => rfl
  | .isi a t, X, sc, e, g, h => by
    replace h := ofO_true h
    obtain ⟨⟨x, y, n⟩, e1, h⟩ := h
    replace h := ofO_true h
    obtain ⟨z, e2, h⟩ := h
    obtain ⟨_, _, rfl⟩ := asFn2_of e1
    obtain ⟨_, rfl⟩ := asName_of e2
    simp only [Bool.and_eq_true, beq_iff_eq, Bool.not_eq_true'] at h
    obtain ⟨⟨⟨⟨⟨rfl, rfl⟩, h1⟩, h2⟩, h3⟩, h4⟩ := h
    obtain ⟨n0, n1, n2⟩ := tyStr_in t
    exact .pl (de_isi (g.glob h1) (g.blt _ (by decide +kernel)) (g.glob h2) (g.blt _ n0) (tyStr_boot t) n1 n2 (snd a g h4).e (by rw [star1 h3]; rfl)) rfl fun _ => rfl
  | .rngl _, X, sc, e, g, h => nomatch h
  | .rngt _, X, sc, e, g, h => nomatch h
  | .slen _, X, sc, e, g, h => nomatch h
  | .join sep a, X, sc, e, g, h => by
    replace h := ofO_true h
    obtain ⟨⟨x, y, z, u⟩, e1, h⟩ := h
    obtain ⟨j, cp, apos, cpos, rfl, e2⟩ := asJoin_of e1
    simp only [Bool.and_eq_true, beq_iff_eq, Bool.not_eq_true'] at h
    obtain ⟨⟨⟨⟨rfl, rfl⟩, h1⟩, h2⟩, h3⟩ := h
    exact .pl (de_join (snd a g h3).e (star1 h2 _ _) (e2 ▸ h1)) rfl fun _ => rfl
  | .lm _ _ _, X, sc, e, g, h => nomatch h
  | .tm f a b, X, sc, e, g, h => by
    replace h := ofO_true h
    obtain ⟨⟨x, y, z, u⟩, e1, h⟩ := h
    obtain ⟨apos, cpos, rfl, e2, e3⟩ := asTm_of e1
    simp only [Bool.and_eq_true, beq_iff_eq, Bool.not_eq_true'] at h
    obtain ⟨⟨⟨⟨rfl, h1⟩, h2⟩, h3⟩, h4⟩ := h
    exact .pl (de_tm (e3 X.env) (snd a g h3).e (snd b g h4).e (star1 h2 _ _) (e2 ▸ h1)) rfl fun _ => rfl
  | .tix a b, X, sc, e, g, h => by
    replace h := ofO_true h
    obtain ⟨⟨x, y⟩, e1, h⟩ := h
    obtain ⟨_, rfl⟩ := asSub_of e1
    simp only [Bool.and_eq_true, Bool.not_eq_true'] at h
    exact .pl (de_tix (plainIx h.1.1) (snd a g h.1.2).e (snd b g h.2).e) rfl fun _ => rfl
  | .tsl a lo hi, X, sc, e, g, h => by
    replace h := ofO_true h
    obtain ⟨⟨x, y⟩, e1, h⟩ := h
    replace h := ofO_true h
    obtain ⟨⟨l, u, t⟩, e2, h⟩ := h
    obtain ⟨_, rfl⟩ := asSub_of e1
    obtain ⟨_, rfl⟩ := asSlc_of e2
    simp only [Bool.and_eq_true, Option.isNone_iff_eq_none] at h
    obtain ⟨⟨⟨rfl, h1⟩, h2⟩, h3⟩ := h
    exact .pl (de_tsl (snd a g h1).e (sndO lo g h2) (sndO hi g h3)) rfl fun _ => rfl
  | .tin a b, X, sc, e, g, h => by
    replace h := ofO_true h
    obtain ⟨⟨x, os, es⟩, e1, h⟩ := h
    replace h := ofO_true h
    obtain ⟨y, e2, h⟩ := h
    obtain ⟨_, rfl⟩ := asCmp_of e1
    simp only [Bool.and_eq_true, decide_eq_true_eq, Bool.not_eq_true'] at h
    obtain ⟨⟨⟨rfl, hm⟩, h1⟩, h2⟩ := h
    obtain rfl := one1_of e2
    have s1 := snd a g h1
    have s2 := snd b g h2
    refine ⟨de_tin hm s1.e s2.e, fun _ => ?_, fun op vs pos z => by cases z⟩
    rw [tin_t]
    exact dt_tin hm s1.e s2.e
theorem sndA {T : Tab} {p : Nat → List D → Option D} : ∀ (l : CA) {X : Cx} {sc : Sc} {es : List Expr}, Good X T p sc → chkA T l sc es = true → DA X es (fun ρ => evA p l ρ)
  | .nil, X, sc, es, g, h => by
    obtain rfl := List.isEmpty_iff.mp h
    exact da_nil
  | .cons a l, X, sc, es, g, h => by
    cases es with
    | nil => cases h
    | cons x r =>
      have h : (!isStar x && chk T a sc x && chkA T l sc r) = true := h
      simp only [Bool.and_eq_true, Bool.not_eq_true'] at h
      exact da_cons (snd a g h.1.2).e (sndA l g h.2) (star1 h.1.1 _ _)
theorem sndO {T : Tab} {p : Nat → List D → Option D} : ∀ (o : CO) {X : Cx} {sc : Sc} {e : Option Expr}, Good X T p sc → chkO T o sc e = true → DO X e (fun ρ => (evO p o ρ).1)
  | .no, X, sc, e, g, h => by
    obtain rfl := Option.isNone_iff_eq_none.mp h
    exact do_none
  | .so a, X, sc, e, g, h => by
    replace h := ofO_true h
    obtain ⟨x, rfl, h⟩ := h
    exact do_some (snd a g h).e
theorem sndC {T : Tab} {p : Nat → List D → Option D} : ∀ (o : CO) {X : Cx} {sc : Sc} {es : List Expr}, Good X T p sc → chkC T o sc es = true → DTs X es (fun ρ => (evO p o ρ).2)
  | .no, X, sc, es, g, h => by
    obtain rfl := List.isEmpty_iff.mp h
    exact dts_nil
  | .so a, X, sc, es, g, h => by
    replace h := ofO_true h
    obtain ⟨x, e1, h⟩ := h
    obtain rfl := one1_of e1
    simp only [Bool.and_eq_true, Bool.not_eq_true'] at h
    exact dts_one ((snd a g h.1).t h.2)
theorem sndI {T : Tab} {p : Nat → List D → Option D} : ∀ (i : CI) {X : Cx} {sc : Sc} {e : Expr}, Good X T p sc → chkI T i sc e = true → ∀ tg, tgI i tg = true → DI X tg e (fun ρ => evI p i ρ)
  | .sq a, X, sc, e, g, h, tg, _ => di_seq (snd a g h).e
  | .ky _, X, sc, e, g, h, tg, _ => nomatch h
  | .r1 a, X, sc, e, g, h, tg, _ => by
    replace h := ofO_true h
    obtain ⟨⟨x, y⟩, e1, h⟩ := h
    obtain ⟨_, _, rfl⟩ := asFn1_of e1
    simp only [Bool.and_eq_true, beq_iff_eq, Bool.not_eq_true'] at h
    obtain ⟨⟨⟨rfl, h1⟩, h2⟩, h3⟩ := h
    exact di_r1 (g.glob h1) (g.blt _ (by decide +kernel)) (snd a g h3).e (star1 h2 _ _)
  | .r2 a b, X, sc, e, g, h, tg, _ => by
    replace h := ofO_true h
    obtain ⟨⟨x, y, z⟩, e1, h⟩ := h
    obtain ⟨_, _, rfl⟩ := asFn2_of e1
    simp only [Bool.and_eq_true, beq_iff_eq, Bool.not_eq_true'] at h
    obtain ⟨⟨⟨⟨⟨rfl, h1⟩, h2⟩, h3⟩, h4⟩, h5⟩ := h
    exact di_r2 (g.glob h1) (g.blt _ (by decide +kernel)) (snd a g h4).e (snd b g h5).e (by rw [star1 h2, star1 h3]; rfl) (star1 h3 _ _)
  | .r3 _ _ _, X, sc, e, g, h, tg, _ => nomatch h
  | .r4 a b c, X, sc, e, g, h, tg, _ => by
    replace h := ofO_true h
    obtain ⟨⟨x, y, z, u⟩, e1, h⟩ := h
    obtain ⟨_, _, rfl⟩ := asFn3_of e1
    simp only [Bool.and_eq_true, beq_iff_eq, Bool.not_eq_true'] at h
    obtain ⟨⟨⟨⟨⟨⟨⟨rfl, h1⟩, h2⟩, h3⟩, h4⟩, h5⟩, h6⟩, h7⟩ := h
    exact di_four (g.glob h1) (g.blt _ (by decide +kernel)) (snd a g h5).e (snd b g h6).e (snd c g h7).e (by rw [star1 h2, star1 h3, star1 h4]; rfl) (by rw [star1 h3, star1 h4]; rfl) (star1 h4 _ _)
  | .tx a, X, sc, e, g, h, tg, _ => di_tx (snd a g h).e
  | .zp _ _, X, sc, e, g, h, tg, ht => nomatch h
  | .en _, X, sc, e, g, h, tg, ht => nomatch h
end
noncomputable def asAsg : Stmt → Option (List Expr × Expr)
  | .Assign ts e _ => some (ts, e)
  | _ => none
noncomputable def asExpr : Stmt → Option Expr
  | .Expr e _ => some e
  | _ => none
noncomputable def asIfS : Stmt → Option (Expr × List Stmt × List Stmt)
  | .If t a b _ => some (t, a, b)
  | _ => none
noncomputable def asFor : Stmt → Option (Expr × Expr × List Stmt × List Stmt)
  | .For t i b o _ => some (t, i, b, o)
  | _ => none
noncomputable def asRet : Stmt → Option (Option Expr)
  | .Return e _ => some e
  | _ => none
noncomputable def isPass : Stmt → Bool
  | .Pass _ => true
  | _ => false
theorem asAsg_of {st : Stmt} {q : List Expr × Expr} (h : asAsg st = some q) : ∃ p, st = .Assign q.1 q.2 p := by
  cases st <;> first | exact no_some h | (cases h; exact ⟨_, rfl⟩)
theorem asExpr_of {st : Stmt} {e : Expr} (h : asExpr st = some e) : ∃ p, st = .Expr e p := by
  cases st <;> first | exact no_some h | (cases h; exact ⟨_, rfl⟩)
theorem asIfS_of {st : Stmt} {q : Expr × List Stmt × List Stmt} (h : asIfS st = some q) : ∃ p, st = .If q.1 q.2.1 q.2.2 p := by
  cases st <;> first | exact no_some h | (cases h; exact ⟨_, rfl⟩)
theorem asFor_of {st : Stmt} {q : Expr × Expr × List Stmt × List Stmt} (h : asFor st = some q) : ∃ p, st = .For q.1 q.2.1 q.2.2.1 q.2.2.2 p := by
  cases st <;> first | exact no_some h | (cases h; exact ⟨_, rfl⟩)
theorem asRet_of {st : Stmt} {q : Option Expr} (h : asRet st = some q) : ∃ p, st = .Return q p := by
  cases st <;> first | exact no_some h | (cases h; exact ⟨_, rfl⟩)
theorem isPass_of {st : Stmt} (h : isPass st = true) : ∃ p, st = .Pass p := by
  cases st <;> first | (cases h; done) | exact ⟨_, rfl⟩
noncomputable def asAttr : Expr → Option (Expr × Str × Pos)
  | .Attribute e a p => some (e, a, p)
  | _ => none
theorem asAttr_of {e : Expr} {q : Expr × Str × Pos} (h : asAttr e = some q) : e = .Attribute q.1 q.2.1 q.2.2 := by
  cases e <;> first | exact no_some h | (cases h; rfl)
noncomputable def posOf : Expr → Pos
  | .Call _ _ _ p => p
  | _ => ⟨0, 0, 0, 0⟩
noncomputable def asMeth (st : Stmt) : Option (Str × Str × Expr × Bool) := (asExpr st).bind fun c => (asCall c).bind fun q => (asAttr q.1).bind fun u => (asName u.1).bind fun x => (one1 q.2.1).bind fun e =>
  if q.2.2.isEmpty then some (x, u.2.1, e, u.2.2.endLine == (posOf c).line) else none
theorem asMeth_of {st : Stmt} {q : Str × Str × Expr × Bool} (h : asMeth st = some q) : ∃ p ap cp sp, st = .Expr (.Call (.Attribute (.Name q.1 p) q.2.1 ap) [q.2.2.1] [] cp) sp ∧ q.2.2.2 = (ap.endLine == cp.line) := by
  obtain ⟨c, e1, h⟩ := bnd h
  obtain ⟨⟨f, es, ks⟩, e2, h⟩ := bnd h
  obtain ⟨⟨y, a, ap⟩, e3, h⟩ := bnd h
  obtain ⟨x, e4, h⟩ := bnd h
  obtain ⟨e, e5, h⟩ := bnd h
  obtain ⟨h6, rfl⟩ := if_some h
  obtain ⟨sp, rfl⟩ := asExpr_of e1
  obtain ⟨cp, rfl⟩ := asCall_of e2
  obtain rfl := asAttr_of e3
  obtain ⟨p, rfl⟩ := asName_of e4
  obtain rfl := one1_of e5
  obtain rfl := List.isEmpty_iff.mp h6
  exact ⟨p, ap, cp, sp, rfl, rfl⟩
mutual
noncomputable def chkS (T : Tab) : S → Sc → Stmt → Bool
  | .asg _ i c, sc, st => ofO (asAsg st) fun q => ofO (one1 q.1) fun t => ofO (asName t) fun x => slotL sc i x && chk T c sc q.2
  | .asgT _ _, _, _ => false
  | .app i c, sc, st => ofO (asMeth st) fun q => q.2.1 == ("append" : Str) && slotIs sc i q.1 && notDbg q.1 && q.2.2.2 && !isStar q.2.2.1 && chk T c sc q.2.2.1
  | .ext _ _, _, _ => false
  | .rem _ _, _, _ => false
  | .dnew _ _ _, _, _ => false
  | .dset _ _ _, _, _ => false
  | .give _, _, _ => false
  | .ifs c a b, sc, st => ofO (asIfS st) fun q => chk T c sc q.1 && !isIf q.1 && chkSS T a sc q.2.1 && chkSS T b sc q.2.2
  | .fr tg it b, sc, st => ofO (asFor st) fun q => q.2.2.2.isEmpty && chkT sc tg q.1 && !isSet q.2.1 && tgI it q.1 && chkI T it sc q.2.1 && chkSS T b sc q.2.2.1
  | .wh _ _, _, _ => false
  | .ret c, sc, st => ofO (asRet st) fun q => ofO q fun e => chk T c sc e
  | .pas, _, st => isPass st
  | .nev, _, _ => true
noncomputable def chkSS (T : Tab) : SS → Sc → List Stmt → Bool
  | .nil, _, sts => sts.isEmpty
  | .cons s l, sc, sts => (match s with
    | .give _ => chkSS T l sc sts
    | _ => false) || (match sts with
    | st :: r => chkS T s sc st && chkSS T l sc r
    | [] => false)
end
section
variable {X : Cx} {T : Tab} {p : Nat → List D → Option D} {sc : Sc}
structure GoodS (X : Cx) (T : Tab) (p : Nat → List D → Option D) (sc : Sc) : Prop extends Good X T p sc where
  blk : X.env.blockKind = .function
  pas : PassesOwn (model X.prog X.w) X.A X.env X.xe
theorem asg_ok (g : GoodS X T p sc) {i : Nat} {c : C} {x : Str} {e : Expr} {p1 pos : Pos} (hx : slotL sc i x = true) (h : chk T c sc e = true) : DAs X (.Assign [.Name x p1] e pos) i (fun ρ => (ev p c ρ).1) := by
  obtain ⟨a, b, d⟩ := g.slotL hx
  have s := snd c g.toGood h
  by_cases hc : isComp e = true
  · cases e <;> first | (cases hc; done) | skip
    ·
      rename_i elt gens scope cpos
      by_cases hsw : (X.env.blockKind == .function && X.env.kindOf x == some .local && p1.line == (Expr.ListComp elt gens scope cpos).pos.line && !(scope.names.any fun (n, k) => n == x && (k == .local || k == .cell))) = true
      · have hk : X.env.kindOf x = some .local := by
          simp only [Bool.and_eq_true, beq_iff_eq] at hsw
          exact hsw.1.1.2
        cases c <;> first | (cases h; done) | skip
        rename_i cap tg it cd el
        replace h := ofO_true h
        obtain ⟨q, e1, h⟩ := h
        cases e1
        replace h := ofO_true h
        obtain ⟨⟨target, iter, ifs, isa⟩, e2, h⟩ := h
        obtain rfl := one1_of e2
        simp only [Bool.and_eq_true, decide_eq_true_eq, Bool.not_eq_true'] at h
        obtain ⟨⟨⟨⟨⟨⟨⟨rfl, hb⟩, hs⟩, ht⟩, hti⟩, hi⟩, hcc⟩, he⟩ := h
        have b := blk_of hb
        refine das_comp (b.ok g.toGood) b.inj g.calm (sndI it g.toGood hi _ hti) (fun s H fp => dg_ok (b.good g.toGood s H fp) ht) (fun s H fp => sndC cd (b.good g.toGood s H fp) hcc) (fun s H fp => (snd el (b.good g.toGood s H fp) he).e) (noset hs X.env) g.nodup a hk ?_
        exact congrArg pure hsw
      · exact das_set g.nodup a b d s.e (congrArg pure (Bool.eq_false_iff.mpr hsw))
    all_goals (cases c <;> cases h)
  · exact das_set g.nodup a b d s.e (by cases e <;> first | rfl | exact absurd rfl hc)
end
mutual
theorem sndS {T : Tab} {p : Nat → List D → Option D} : ∀ (c : S) {X : Cx} {sc : Sc} {st : Stmt}, GoodS X T p sc → chkS T c sc st = true → DS X st (fun ρ => evS p c ρ)
  | .asg o i c, X, sc, st, g, h => by
    replace h := ofO_true h
    obtain ⟨⟨ts, e⟩, e1, h⟩ := h
    replace h := ofO_true h
    obtain ⟨t, e2, h⟩ := h
    replace h := ofO_true h
    obtain ⟨x, e3, h⟩ := h
    obtain ⟨_, rfl⟩ := asAsg_of e1
    obtain rfl := one1_of e2
    obtain ⟨_, rfl⟩ := asName_of e3
    simp only [Bool.and_eq_true] at h
    exact ds_asg o (asg_ok g h.1 h.2)
  | .asgT _ _, X, sc, st, g, h => nomatch h
  | .app i c, X, sc, st, g, h => by
    replace h := ofO_true h
    obtain ⟨⟨x, m, e, k⟩, e1, h⟩ := h
    obtain ⟨p, ap, cp, sp, rfl, ek⟩ := asMeth_of e1
    simp only [Bool.and_eq_true, beq_iff_eq, Bool.not_eq_true'] at h
    obtain ⟨⟨⟨⟨⟨rfl, h1⟩, h2⟩, h3⟩, h4⟩, h5⟩ := h
    obtain ⟨a, b⟩ := g.slotIs h1
    obtain ⟨d1, d2, _⟩ := dbg1 h2
    exact ds_app a b d1 d2 (snd c g.toGood h5).e (star1 h4 _ _) (ek.symm.trans h3)
  | .ext _ _, X, sc, st, g, h => nomatch h
  | .rem _ _, X, sc, st, g, h => nomatch h
  | .dnew _ _ _, X, sc, st, g, h => nomatch h
  | .dset _ _ _, X, sc, st, g, h => nomatch h
  | .give i, X, sc, st, g, h => nomatch h
  | .ifs c a b, X, sc, st, g, h => by
    replace h := ofO_true h
    obtain ⟨⟨t, u, v⟩, e1, h⟩ := h
    obtain ⟨_, rfl⟩ := asIfS_of e1
    simp only [Bool.and_eq_true, Bool.not_eq_true'] at h
    exact ds_if ((snd c g.toGood h.1.1.1).t h.1.1.2) (sndSS a g h.1.2) (sndSS b g h.2)
  | .fr tg it b, X, sc, st, g, h => by
    replace h := ofO_true h
    obtain ⟨⟨t, i, u, o⟩, e1, h⟩ := h
    obtain ⟨_, rfl⟩ := asFor_of e1
    simp only [Bool.and_eq_true, Bool.not_eq_true'] at h
    obtain ⟨⟨⟨⟨⟨h0, h1⟩, h2⟩, h3⟩, h4⟩, h5⟩ := h
    obtain rfl := List.isEmpty_iff.mp h0
    exact ds_for g.pas g.calm (sndI it g.toGood h4 _ h3) (dg_ok g.toGood h1) (sndSS b g h5) (noset h2 X.env)
  | .wh _ _, X, sc, st, g, h => nomatch h
  | .ret c, X, sc, st, g, h => by
    replace h := ofO_true h
    obtain ⟨q, e1, h⟩ := h
    obtain ⟨_, rfl⟩ := asRet_of e1
    replace h := ofO_true h
    obtain ⟨e, rfl, h⟩ := h
    exact ds_ret (snd c g.toGood h).e
  | .pas, X, sc, st, g, h => by
    obtain ⟨_, rfl⟩ := isPass_of h
    exact ds_pass
  | .nev, X, sc, st, g, h => ds_never
theorem sndSS {T : Tab} {p : Nat → List D → Option D} : ∀ (c : SS) {X : Cx} {sc : Sc} {sts : List Stmt}, GoodS X T p sc → chkSS T c sc sts = true → DSs X sts (fun ρ => evSS p c ρ)
  | .nil, X, sc, sts, g, h => by
    obtain rfl := List.isEmpty_iff.mp h
    exact dss_nil
  | .cons s l, X, sc, sts, g, h => by
    rcases Bool.or_eq_true_iff.mp h with h | h
    · cases s <;> first | (cases h; done) | skip
      exact dss_give (sndSS l g h)
    · cases sts with
      | nil => cases h
      | cons st r =>
        have h := Bool.and_eq_true_iff.mp h
        exact dss_cons (sndS s g h.1) (sndSS l g h.2)
end
structure DefT where
  name : Str
  st : Stmt
  body : SS
noncomputable def DefT.ps (d : DefT) : List Str := (defArgs d.st).args.map (·.arg)
noncomputable def DefT.nm (d : DefT) : Sc := (defScope d.st).names
noncomputable def parIs (sc : Sc) : List Str → Sc → Bool
  | [], _ => true
  | x :: r, (y, k) :: q => x == y && locK k && parIs sc r q
  | _, _ => false
noncomputable def noFree : Sc → Bool
  | [] => true
  | (_, .free) :: _ => false
  | _ :: r => noFree r
noncomputable def scopeIs (ps : List Str) (sc : Scope) : Bool :=
  decide (sc.kind = .function) && !sc.isCoroutine && !sc.isGenerator && ndS (sc.names.map (·.1)) && parIs sc.names ps sc.names && noFree sc.names
theorem parIs_pre {sc : Sc} : ∀ {ps : List Str} {q : Sc}, parIs sc ps q = true → (q.map (·.1)).take ps.length = ps ∧ ∀ x ∈ ps, ∃ k, (x, k) ∈ q ∧ locK k = true
  | [], q, _ => ⟨by simp, fun x h => by cases h⟩
  | x :: r, (y, k) :: q, h => by
    simp only [parIs, Bool.and_eq_true, beq_iff_eq] at h
    obtain ⟨⟨rfl, hk⟩, h⟩ := h
    obtain ⟨a, b⟩ := parIs_pre h
    refine ⟨by simp [a], fun z hz => ?_⟩
    rcases List.mem_cons.mp hz with e | hz
    · subst e; exact ⟨k, List.mem_cons_self, hk⟩
    · obtain ⟨k', m, hk'⟩ := b z hz
      exact ⟨k', List.mem_cons_of_mem _ m, hk'⟩
  | _ :: _, [], h => by cases h
theorem noFree_ok : ∀ {q : Sc}, noFree q = true → ∀ y ∈ q, y.2 ≠ NameKind.free
  | [], _, y, h => by cases h
  | (x, k) :: r, h, y, hy => by
    cases k <;> first | (cases h; done) | skip
    all_goals
      rcases List.mem_cons.mp hy with e | hy
      · subst e; exact fun z => by cases z
      · exact noFree_ok (q := r) h y hy
theorem scope_ok {ps : List Str} {sc : Scope} (h : scopeIs ps sc = true) : FnScope (sc.names.map (·.1)) ps sc := by
  simp only [scopeIs, Bool.and_eq_true, decide_eq_true_eq, Bool.not_eq_true'] at h
  obtain ⟨⟨⟨⟨⟨h1, h2⟩, h3⟩, h4⟩, h5⟩, h6⟩ := h
  obtain ⟨a, b⟩ := parIs_pre h5
  have nd := ndS_ok h4
  refine ⟨h1, h2, h3, nd, a, fun x hx => ?_, noFree_ok h6⟩
  obtain ⟨k, m, hk⟩ := b x hx
  have := lookup_of_mem nd m
  cases k <;> first | (cases hk; done) | skip
  · exact .inl this
  · exact .inr this
noncomputable def DefT.ok (T : Tab) (d : DefT) : Bool := scopeIs d.ps (defScope d.st) && chkSS T d.body (defScope d.st).names (defBody d.st)
noncomputable def DefT.sb (d : DefT) : Nat × SS := (d.nm.length, d.body)
theorem spD_none {P : Program} {w : World} {K : PySem.W.Frag} {mg : Str → Option Value} {base : Heap} {f : Addr} {fd : FuncData} {ps : List Str} : FnOk P w K mg base CX0 0 f fd ps (spD ps.length fun _ => none) := by
  refine ⟨fun vs H Q E h => ?_, fun A outer s H args us vs Q E hr he hb hv hs => ?_⟩
  · obtain ⟨G, ds, d, _, r, hl, _⟩ := h
    rw [r.length, hl]
  · obtain ⟨G, ds, d, _, r, hl, e, _⟩ := hs
    cases e
structure DefAt (K : PySem.W.Frag) (mg : Str → Option Value) (d : DefT) (a : Addr) (fd : FuncData) : Prop where
  fn : Fun K d.name d.name d.st a fd
  mg : mg d.name = some (.ref a)
  bind : Binds K fd d.ps []
end TW
end
section
set_option Elab.async false
set_option linter.all false
set_option maxRecDepth 100000
set_option maxHeartbeats 4000000
namespace TW
open PySem PySem.Spec PyProof.Rows L2
theorem len1 {α : Type} : ∀ {us : List α}, us.length = 1 → ∃ a, us = [a]
  | [a], _ => ⟨a, rfl⟩
theorem len2 {α : Type} {us : List α} (h : us.length = 2) : ∃ a b, us = [a, b] := by
  cases us with
  | nil => cases h
  | cons a r => obtain ⟨b, rfl⟩ := len1 (Nat.succ.inj h); exact ⟨a, b, rfl⟩
theorem len3 {α : Type} {us : List α} (h : us.length = 3) : ∃ a b c, us = [a, b, c] := by
  cases us with
  | nil => cases h
  | cons a r => obtain ⟨b, c, rfl⟩ := len2 (Nat.succ.inj h); exact ⟨a, b, c, rfl⟩
theorem cellD_some {K : List (Addr × Obj)} {ds : List D} {d : D} (h : cellD K ds = some d) : ∃ a ns k, ds = [.scr K a ns, .int k] ∧ ns.length ≤ 63 ∧ 0 ≤ k ∧ d = .int (ns.getD k.toNat 0) := by
  unfold cellD at h
  split at h
  · rename_i K' a ns k
    split at h
    · rename_i hc
      obtain ⟨rfl, h1, h2⟩ := hc
      cases h
      exact ⟨a, ns, k, rfl, h1, h2, rfl⟩
    · cases h
  · cases h
theorem cell_ok {P : Program} {w : World} {K : PySem.W.Frag} {mg : Str → Option Value} {base : Heap} {st : Stmt} {f : Addr} {fd : FuncData} {k j : Nat} {p1 p2 p3 p4 p5 p6 p7 p8 p9 p10 p11 p12 : Pos} (F : Fun K "_law_cell_at" "_law_cell_at" st f fd)
    (hb : defBody st = [.If (.Compare (.Name "_law_k" p1) [.Lt] [.Call (.Name "len" p2) [.Name "_law_script" p3] [] p4] p5) [.Return (some (.Subscript (.Name "_law_script" p6) (.Name "_law_k" p7) p8)) p9] [] p10, .Return (some (.Constant (.int 0) j p11)) p12])
    (S : FnScope ["_law_script", "_law_k", "len"] ["_law_script", "_law_k"] (defScope st)) (hs : (defScope st).names.lookup ("_law_script" : Str) = some .local) (hk : (defScope st).names.lookup ("_law_k" : Str) = some .local) (hl : (defScope st).names.lookup ("len" : Str) = some .globalImplicit) (hm : mg "len" = none) :
    FnOk P w K mg base CX0 (k + 1) f fd ["_law_script", "_law_k"] (spD 2 (cellD K)) := by
  refine F.ok S (fun vs H Q E h => ?_) (fun cdv A outer s H vs Q E hr h => ?_)
  · obtain ⟨G, ds, d, _, r, hl, _⟩ := h
    rw [r.length, hl]; rfl
  · obtain ⟨G, ds, d, ⟨gh, _⟩, r, _, e, k'⟩ := h
    obtain ⟨a, ns, i, rfl, h63, h0, rfl⟩ := cellD_some e
    obtain ⟨x, xr, rfl, ⟨rfl, hS⟩, y, yr, rfl, hy, hz⟩ := r
    cases (show y = _ from hy)
    cases (show yr = _ from hz)
    have hS' : SqL K H a (ns.map V.int) := Same.seq gh hS
    rw [hb]
    have v0 : Vis (cxOf CX0 P w K mg base ["_law_script", "_law_k", "len"] "_law_cell_at" (defScope st) f cdv A outer s H E).nox.env.scope "_law_script" := .inl hs
    have v1 : Vis (cxOf CX0 P w K mg base ["_law_script", "_law_k", "len"] "_law_cell_at" (defScope st) f cdv A outer s H E).nox.env.scope "_law_k" := .inl hk
    refine ⟨_, pss_cons (ps_if (pt_cmpR op_lt (pe_var (i := 1) rfl v1 (by decide) (by decide)) (pe_callB call_len_seq hl hm PySem.boot_len (pa_cons (pe_var (i := 0) rfl v0 (by decide) (by decide)) pa_nil)) (nomark _))
      (pss_one (ps_ret (pe_ix ix_list (pe_var (i := 0) rfl v0 (by decide) (by decide)) (pe_var (i := 1) rfl v1 (by decide) (by decide)) (fun _ _ => rfl)))) pss_nil) (pss_one (ps_ret pe_int)), ?_⟩
    refine ⟨_, rfl, _, rfl, a, _, rfl, .inl hS', _, _, rfl, rfl, _, rfl, ?_⟩
    by_cases hlt : i < ((ns.map V.int).length : Int)
    · rw [decide_eq_true hlt]
      refine iteT ⟨_, rfl, _, rfl, a, _, i, .int (ns.getD i.toNat 0), rfl, rfl, hS', ?_, ?_⟩
      · have hl2 : i.toNat < ns.length := by rw [List.length_map] at hlt; omega
        unfold L2.atI L2.ixN
        rw [if_pos h0, if_pos hlt]
        show (ns.map V.int)[i.toNat]? = _
        rw [List.getElem?_map, List.getElem?_eq_getElem hl2]
        simp [hl2]
      · exact k' _ H G (.refl gh) rfl
    · rw [decide_eq_false hlt]
      refine iteF ?_
      have hl2 : ¬ i.toNat < ns.length := by rw [List.length_map] at hlt; omega
      have e0 : ns.getD i.toNat 0 = 0 := by
        rw [List.getD_eq_getElem?_getD, List.getElem?_eq_none (by omega)]; rfl
      rw [e0] at k'
      exact k' _ H G (.refl gh) rfl
noncomputable def spLaw (K : PySem.W.Frag) : Sp := fun vs H Q _ => ∃ (a : Addr) (ns : List Int), vs = [.ref a] ∧ SqL K H a (ns.map V.int) ∧ ns.length ≤ 63 ∧ Tb H ∧ ∀ H', Tb H' → Q (.bl true) H'
theorem law_imp {K : PySem.W.Frag} {g : List D → Option D} (h : ∀ (a : Addr) (ns : List Int), ns.length ≤ 63 → g [.scr K a ns] = some (.bl true)) : ∀ vs H Q E, spLaw K vs H Q E → spD 1 g vs H Q E := by
  rintro vs H Q E ⟨a, ns, rfl, hS, hl, tb, hQ⟩
  exact ⟨H, [.scr K a ns], .bl true, ⟨Same.refl H, tb⟩, ⟨.ref a, [], rfl, ⟨rfl, hS⟩, rfl⟩, rfl, h a ns hl, fun v H' G' x r => by cases (show v = _ from r); exact hQ H' (tb.mono x.hh)⟩
theorem walk (htab : tabC = none) {l : PySem.W.OpenLaw} {q : Program} {loose : List Str} {XP : (Str → Option Value) → Heap → Prop} {YP : World → Heap → Prop} {d : DefRec} {K : Params → PySem.W.Frag} (hn : l.most = some 63) (hdf : d.params.defaults = [])
    (hY : ∀ (w : World) (h : Heap), YP w h → (K w.params).In h)
    (F : ∀ (w : World) (mg : Str → Option Value) (fa : Addr) (h : Heap), (K w.params).In h → h.Ns mainGlobals mg → mg d.name = some (.ref fa) →
      ∃ fd : FuncData, (∀ (s : Shared) (u : Value), BindsTo s fd ⟨[u], []⟩ [("_law_script", u)]) ∧ ∀ base : Heap, (K w.params).In base → base.Ns mainGlobals mg → FnOk l.prog w (K w.params) mg base CX0 40 fa fd ["_law_script"] (spLaw (K w.params))) :
    PySem.W.WalkO q loose XP YP l.row.toRowW d [] (fun f vs => PySem.call f vs) :=
  L2.walk_of (n := 63) (k := 40) (x := "_law_script") (CX := fun _ => CX0) (sp := fun w => spLaw (K w.params)) hn (by decide) hdf ⟨rfl, by decide, by decide⟩ hY F (fun _ _ a ns hl _ hS => ⟨a, ns, rfl, hS, hl, Tb.none htab, fun _ _ => rfl⟩) fun _ _ _ _ _ z => z
end TW
end
section
set_option Elab.async false
set_option linter.all false
set_option maxRecDepth 100000
set_option maxHeartbeats 4000000
namespace TW
open PySem PySem.Spec PyProof.Rows L2
structure Ra (P : Program) (w : World) (fs : List Addr) (H H' : Hp) (h B : Heap) : Prop where
  keep : ∀ b o, h.get? b = some o → H b = none → b ∉ fs → B.get? b = some o
  there : ∀ b o, h.get? b = some o → b ∉ fs → ∃ o', B.get? b = some o'
  free : ∀ b o, h.get? b = some o → H b = none → H' b = none
  tups : ∀ b xs, H b = some (.tup xs) → H' b = some (.tup xs)
  frzs : ∀ b o u, H b = some (.frz o u) → H' b = some (.frz o u)
  tbls : ∀ b ps, H b = some (.tbl ps) → ∃ more, H' b = some (.tbl (ps ++ more))
  hok : HOk P w H' B
noncomputable def SlotsAt (fs : List Addr) (h h' : Heap) : Prop := ∀ b o, h.get? b = some o → b ∈ fs → ∃ sl, h'.get? b = some { o with slots := sl }
theorem Ra.un {P : Program} {w : World} {fs : List Addr} {H H' : Hp} {h B h' : Heap} (r : Ra P w fs H H' h B) (k : B.StaysIn h') (sl : SlotsAt fs h h') : Un fs [] H H' h h' where
  keep := fun b o e n hb _ => k b o (r.keep b o e n hb)
  slot := fun b o e _ hb _ => sl b o e hb
  free := fun b o e n _ => r.free b o e n
  there := fun b o e _ => by
    by_cases hb : b ∈ fs
    · obtain ⟨s, q⟩ := sl b o e hb; exact ⟨_, q⟩
    · obtain ⟨o', q⟩ := r.there b o e hb; exact ⟨o', k b o' q⟩
  tups := r.tups
  frzs := r.frzs
  tbls := r.tbls
noncomputable def CXr (P : Program) (w : World) : CXT := fun outer H s E e s' =>
  ∃ ea C a0 H' B, e = .ref ea ∧ s'.os = s.os ∧ AllBare s'.gens ∧ Heap.FlyingW B outer ea (.ref C) a0 s'.heap ∧ Ra P w (frs outer) H H' s.heap B ∧ SlotsAt (frs outer) s.heap s'.heap ∧ E (.ref C) none H'
section
variable {P : Program} {w : World} {K : PySem.W.Frag} {mg : Str → Option Value} {base : Heap} {N : List Str} {qual : Str} {scope : Scope} {f : Addr} {cd : Value} {A : Around} {outer : List Env} {s₀ : Shared} {H₀ : Hp} {E : XK}
theorem frs_cons {env : Env} {L : Addr} (h : env.frame = some L) (l : List Env) : frs (env :: l) = L :: frs l := by
  unfold frs
  rw [List.filterMap_cons, h]
theorem leave_made {pins : List (Addr × Obj)} {σ : L2.St} {H : Hp} {s : Shared} {h' : Heap} {e C : Addr} {args : List Value} (I : Inv (cxOf (CXr P w) P w K mg base N qual scope f cd A outer s₀ H₀ E) pins σ H s)
    (hm : Heap.MadeExcOf s.heap h' e (.ref C) args) (hE : E (.ref C) none H) : (cxOf (CXr P w) P w K mg base N qual scope f cd A outer s₀ H₀ E).xe (.ref e) { s with heap := h' } := by
  have efs : frs (envOfC qual scope s₀.heap.objs.size f cd :: outer) = s₀.heap.objs.size :: frs outer := frs_cons rfl outer
  have old : ∀ b o, s₀.heap.get? b = some o → b ∉ frs outer → b ∉ frs (envOfC qual scope s₀.heap.objs.size f cd :: outer) := fun b o q hb z => by
    rw [efs] at z
    rcases List.mem_cons.mp z with z | z
    · exact absurd z (Nat.ne_of_lt (Heap.lt_size q))
    · exact hb z
  show wpAny (model P w) (A.deeper (envOfC qual scope s₀.heap.objs.size f cd)) (leaving (envOfC qual scope s₀.heap.objs.size f cd) (.ref e)) _ _ _
  refine wpAny_leaves_madeW (base := PySem.W.hideAll s.heap (frs (envOfC qual scope s₀.heap.objs.size f cd :: outer))) (h := s.heap) (outer := outer) I.ok.frames rfl (fun b o q => PySem.W.of_hideAll _ q) (PySem.W.funFrames_hide I.stack fun env he a hf => List.mem_filterMap.mpr ⟨env, he, hf⟩) hm
    fun h2 t fl _ _ up => ?_
  refine ⟨e, C, .ref t, H, _, rfl, I.os, I.bare, fl, ⟨fun b o q n hb => ?_, fun b o q hb => ?_, fun b o q n => I.base.free b o q n (by simp [cxOf]), I.base.tups, I.base.frzs, I.base.tbls, fun a o ha => ?_⟩, fun b o q hb => ?_, hE⟩
  · exact PySem.W.hideAll_get _ (I.base.keep b o q n hb (by simp [cxOf])) (old b o q hb)
  · obtain ⟨o', q'⟩ := I.base.there b o q (by simp [cxOf])
    exact ⟨o', PySem.W.hideAll_get _ q' (old b o q hb)⟩
  · refine (I.hok a o ha).stay (fun b u hb q => PySem.W.hideAll_get _ q fun z => ?_) (fun _ q => q) fun _ _ q => q
    have := I.stkFree b z
    rcases hb with rfl | hb
    · rw [this] at ha; cases ha
    · rw [this] at hb; cases hb
  · obtain ⟨_, o', q', nf⟩ := I.ok.funs.mem hb
    have q' : s₀.heap.get? b = some o' := q'
    rw [q] at q'; cases q'
    obtain ⟨sl, r⟩ := I.base.slot b o q (I.ok.frf b hb) hb (by simp [cxOf])
    obtain ⟨sl2, r2⟩ := up b _ (hm.keeps _ _ r) nf
    exact ⟨sl2, r2⟩
theorem leave_on : Passes (CXr P w) (cxOf (CXr P w) P w K mg base N qual scope f cd A outer s₀ H₀ E) E := by
  rintro pins σ H s e s' I ⟨ea, C, a0, H', B, rfl, os, bare, fl, ra, sl, hE⟩
  have efs : frs (envOfC qual scope s₀.heap.objs.size f cd :: outer) = s₀.heap.objs.size :: frs outer := frs_cons rfl outer
  have old : ∀ b o, s₀.heap.get? b = some o → b ∉ frs outer → b ∉ frs (envOfC qual scope s₀.heap.objs.size f cd :: outer) := fun b o q hb z => by
    rw [efs] at z
    rcases List.mem_cons.mp z with z | z
    · exact absurd z (Nat.ne_of_lt (Heap.lt_size q))
    · exact hb z
  show wpAny (model P w) (A.deeper (envOfC qual scope s₀.heap.objs.size f cd)) (leaving (envOfC qual scope s₀.heap.objs.size f cd) (.ref ea)) _ _ _
  refine wpAny_leaves_onW (outer := outer) I.ok.frames rfl fl fun h2 fl2 up => ?_
  refine ⟨ea, C, a0, H', B, rfl, os.trans I.os, bare, fl2, ⟨fun b o q n hb => ?_, fun b o q hb => ?_, fun b o q n => ?_, fun b xs q => ra.tups b xs (I.base.tups b xs q), fun b o u q => ra.frzs b o u (I.base.frzs b o u q), fun b ps q => ?_, ra.hok⟩, fun b o q hb => ?_, hE⟩
  · exact ra.keep b o (I.base.keep b o q n hb (by simp [cxOf])) (I.base.free b o q n (by simp [cxOf])) (old b o q hb)
  · obtain ⟨o', q'⟩ := I.base.there b o q (by simp [cxOf])
    exact ra.there b o' q' (old b o q hb)
  · obtain ⟨o', q'⟩ := I.base.there b o q (by simp [cxOf])
    exact ra.free b o' q' (I.base.free b o q n (by simp [cxOf]))
  · obtain ⟨m1, q1⟩ := I.base.tbls b ps q
    obtain ⟨m2, q2⟩ := ra.tbls b _ q1
    exact ⟨m1 ++ m2, by rw [← Array.append_assoc]; exact q2⟩
  · obtain ⟨_, o', q', nf⟩ := I.ok.funs.mem hb
    have q' : s₀.heap.get? b = some o' := q'
    rw [q] at q'; cases q'
    obtain ⟨s1, r⟩ := I.base.slot b o q (I.ok.frf b hb) hb (by simp [cxOf])
    obtain ⟨s2, r2⟩ := sl b _ r (by rw [show frs (cxOf (CXr P w) P w K mg base N qual scope f cd A outer s₀ H₀ E).stack = _ from efs]; exact List.mem_cons_of_mem _ hb)
    obtain ⟨s3, r3⟩ := up b _ r2 nf
    exact ⟨s3, r3⟩
end
theorem exc_obj {K : PySem.W.Frag} {h : Heap} {C : Addr} {bmB : List Value} {newId : String} (X : K.In h) (q : PySem.W.excIn K C bmB newId = true) :
    ∃ bm N nm q bs hdct sn sub ab col dd k0 k1 k2 k3 k5 mN, h.get? C = some (excClassObj nm q C N bs bm hdct sn sub ab col dd k0 k1 k2 k3 k5 newId) ∧ h.Ns N mN ∧ mN "__init__" = none ∧ OwnTail h bmB bm := by
  unfold PySem.W.excIn at q
  split at q
  · rename_i dd cd sl ho
    split at q
    · rename_i C' bm k0 k1 k2 k3 n k5 hm hs
      simp only [Bool.and_eq_true, beq_iff_eq, Bool.not_eq_true'] at q
      obtain ⟨⟨⟨⟨⟨rfl, rfl⟩, hdel⟩, ht⟩, hok⟩, hni⟩ := q
      obtain ⟨nm, bs, mro, ns, qn, hd, sn, sub, ab, col, del⟩ := cd
      dsimp only at hm hdel hok hni
      subst hm hdel
      obtain ⟨l⟩ := sl
      have hs : l = _ := hs
      subst hs
      exact ⟨bm, ns, nm, qn, bs, hd, sn, sub, ab, col, dd, k0, k1, k2, k3, k5, _, X _ _ ho, .of_isNs (PySem.W.isNs_of_in X hok), PySem.W.nsMap_none_of_in X hok hni, PySem.W.tail_of_in X ht⟩
    · cases q
  · cases q
noncomputable def bmV : List Value := [.type "ValueError", .type "Exception", .type "BaseException", .type "object"]
section
variable {P : Program} {w : World} {K : PySem.W.Frag} {mg : Str → Option Value} {base : Heap} {N : List Str} {qual : Str} {scope : Scope} {f : Addr} {cd : Value} {A : Around} {outer : List Env} {s₀ : Shared} {H₀ : Hp} {E : XK}
theorem ps_raise {x m : Str} {C : Addr} {j : Nat} {np cp cpos pos : Pos} (hg : Gl (cxOf (CXr P w) P w K mg base N qual scope f cd A outer s₀ H₀ E) x) (hm : mg x = some (.ref C)) (hc : PySem.W.excIn K C bmV "ValueError.__new__" = true) (hd : (x == ("__debug__" : Str)) = false)
    (hh : A.handled = none) : PS (cxOf (CXr P w) P w K mg base N qual scope f cd A outer s₀ H₀ E) (.Raise (some (.Call (.Name x np) [.Constant (.str m) j cp] [] cpos)) none pos) (fun _ _ H => E (.ref C) none H) := by
  intro pins s σ H D I hE
  obtain ⟨tl, NN, nm, q, bs, hdct, sn, sub, ab, col, dd, k0, k1, k2, k3, k5, mN, hC, hN, hni, T⟩ := exc_obj I.ok.mod.kin hc
  refine wpAny_Raise_call_subU (C := C) (nm := nm) (q := q) (N := NN) (bs := bs) (bm := tl) (hdct := hdct) (sn := sn) (sub := sub) (ab := ab) (col := col) (dd := dd) (k0 := k0) (k1 := k1) (k2 := k2) (k3 := k3) (k5 := k5)
    F.excBase_ValueError (by decide) F.excBase_ValueError (mN := mN) (T.hasType (by decide)) (show (A.deeper _).handled = none from hh) rfl hni (ld_glob I hg hm ⟨rfl, ?_⟩ hd)
  have pa : PA (cxOf (CXr P w) P w K mg base N qual scope f cd A outer s₀ H₀ E) [.Constant (.str m) j cp] _ := pa_cons pe_str pa_nil
  exact Calls.evalArgs_plain (thn (pa cpos pins s σ H (fun vs H1 => vs.length = 1 ∧ E (.ref C) none H1) I ⟨rfl, hE⟩) fun us s1 ⟨vs, H1, I1, r, q0, q1⟩ =>
    ⟨rfl, by show us.length ≤ sizeLine; rw [← r.length, q0, sizeLine_eq]; omega, I1.bk _ _ hC, hN.keeps I1.bk, T.keeps I1.bk, fun h' e hm => leave_made I1 hm q1⟩)
end
end TW
end
section
set_option Elab.async false
set_option linter.all false
set_option maxRecDepth 100000
set_option maxHeartbeats 4000000
namespace TW
open PySem PySem.Spec PyProof.Rows L2
section
open PySem.W PySem.Calls Builtin Builtin.ObjectAttr
variable {prog : Program} {w : World} {A : Around} {E : Value → Shared → Prop} {s : Shared} {K : PySem.W.Frag} {x C : Addr}
theorem look_data {M : Model} {h : Heap} {name : Str} {a g : Value} (X : K.In h) (ha : findIn K (.ref C) name = some (some a)) (hg : specialIn K a "__get__" = some (some g)) (ht : takesIn K a = some true) :
    Looks M h (find (.ref x) (.ref C) name) (.bind g a) := by
  have L1 := looks_findIn (M := M) X ha
  have L2 : Looks M h (getOf (some a)) (some g) := looks_specialIn X hg
  have L3 := looks_takesIn (M := M) X ht
  exact L1.andThen (L2.andThen ((show Looks M h (dataDescriptor? (some a) (some g)) (some (g, a)) from L3.andThen .now).andThen (Looks.tag .now)))
structure ExC (K : PySem.W.Frag) (C : Addr) : Prop where
  get : findIn K (.ref C) "__getattribute__" = some (some (.builtin "BaseException.__getattribute__"))
  hook : findIn K (.ref C) "__getattr__" = some none
  cls : findIn K (.ref C) "__class__" = some (some (.builtin "object.__class__"))
  gs : specialIn K (.builtin "object.__class__") "__get__" = some (some (.builtin "getset_descriptor.__get__"))
  tk : takesIn K (.builtin "object.__class__") = some true
  mro : mroIn K C (.type "object") = some true
  mrb : mroIn K C (.type "BaseException") = some true
theorem exc_class {Q : Option Value → Shared → Prop} (c : ExC K C) (X : K.In s.heap) (LT : ∀ M, Looks M s.heap (typeOf (.ref x)) (.ref C)) (h : Q (some (.ref C)) { s with toks := s.toks + 1 }) : wpAny (model prog w) A (getAttr? (.ref x) "__class__") Q E s := by
  obtain ⟨hh, g, d, t, os⟩ := s
  have L0 := LT (model prog w)
  have L1 := looks_findIn (M := model prog w) X c.get
  have L2 := looks_findIn (M := model prog w) X c.hook
  have L3 := look_data (M := model prog w) (x := x) X c.cls c.gs c.tk
  have L4 := looks_mroIn (M := model prog w) X c.mro
  have L5 := looks_mroIn (M := model prog w) X c.mrb
  have f3 := F.attr_ValueError.ga.bind (.ref x)
  have hx2 : (Value.builtin "BaseException.__getattribute__" == Value.builtin "object.__getattribute__") = false := by decide +kernel
  have hx1 : (onTheHeap (Value.ref C) && Value.builtin "BaseException.__getattribute__" == Value.builtin "object.__getattribute__") = false := by rw [hx2]; rfl
  unfold getAttr? getAttrBy? getAttrBy
  refine wpAny_bind (wpAny_mkText (wpAny_bind (wpAny_attempt (wpAny_holding (wpAny_bind (L0.at (wpAny_bind (L1.at ?_))))))))
  dsimp only
  rw [hx1, if_neg Bool.false_ne_true]
  unfold getAttrByItsOwn hookBefore callGetattribute boundAndCalled
  refine wpAny_bind (L2.at ?_)
  refine wpAny_bind (wpAny_attempt (wpAny_holding ?_))
  show wpAny _ _ (do let (g, first) ← bindSpecial _ _; call g (first ++ [_])) _ _ _
  rw [f3]
  refine wpAny_bind (wpAny_pure (wpAny_call ?_))
  refine codeAny_call_builtin F.attr_ValueError.ga.plain F.entry_bexc_ga ?_
  have hk : builtinKind "BaseException.__getattribute__" = some .slot := by decide +kernel
  have hsplit : splitId "BaseException.__getattribute__" = some ("BaseException", "__getattribute__") := by decide +kernel
  have ha := F.args_bexc_ga (.ref x) (.str "__class__" t)
  show wpAny _ _ (checkBuiltinCall "BaseException.__getattribute__" ⟨[.ref x, .str "__class__" t], []⟩) _ _ _
  simp only [checkBuiltinCall, hk, hsplit]
  refine wpAny_bind (wpAny_bind (L0.at (L5.at ?_)))
  simp only [Bool.not_true, Bool.false_eq_true, if_false]
  refine wpAny_of_eq (a := ()) ha ?_
  show wpAny _ _ (Builtin.«object.__getattribute__» ⟨[.ref x, .str "__class__" t], []⟩) _ _ _
  unfold Builtin.«object.__getattribute__»
  refine wpAny_bind (wpAny_pure ?_)
  refine wpAny_bind (wpAny_pure ?_)
  refine wpAny_bind (L0.at (wpAny_bind (L3.at ?_)))
  show wpAny _ _ (bindTo (.builtin "getset_descriptor.__get__") (.builtin "object.__class__") (.ref x) (.ref C)) _ _ _
  unfold bindTo
  show wpAny _ _ (do ret (← holding [.builtin "object.__class__"] (call (.builtin "getset_descriptor.__get__") [.builtin "object.__class__", .ref x, .ref C]))) _ _ _
  refine wpAny_bind (wpAny_holding (wpAny_call ?_))
  refine codeAny_call_builtin KF.slot_gs.plain KF.entry_gs (KF.slot_gs.check _ _ _ _ _ _ _ _ KF.type_class (KF.args_gs _ _ _) ?_)
  unfold Builtin.«getset_descriptor.__get__» Builtin.Getset_descriptor.descrGet
  rw [dga_obj]
  refine wpAny_bind (wpAny_pure ?_)
  unfold Builtin.Getset_descriptor.descrGetter Builtin.Getset_descriptor.descrCheckInstance Builtin.Getset_descriptor.descrNameAndClass isInstance
  simp only [KF.owner_class]
  repeat lk
  refine ⟨Code.quiet_builtin _ (by decide +kernel), codeAny_builtin KF.entry_class ?_⟩
  unfold Builtin.«object.__class__» shownTypeOf
  repeat lk
  exact h
end
theorem kitx_exc {K : PySem.W.Frag} {x C : Addr} (c : ExC K C) : PySem.W.KitX K (.ref x) (.ref C) (fun h => ∃ o, h.get? x = some o ∧ o.cls = .ref C) where
  ty := fun M h _ ⟨o, e, hc⟩ => hc ▸ (PySem.W.Looks.ld e).andThen .now
  it := fun M h X _ => by
    obtain ⟨cd, a, _⟩ := Option.bind_eq_some_iff.mp c.mro
    unfold PySem.W.clsIn at a
    split at a
    · rename_i c' d' cd' sl' ho
      intro A' Q' E' s' k q
      unfold isType loadHead
      exact wpAny_bind (wpAny_loadPart (k _ _ (X _ _ ho)) (wpAny_pure q))
    · cases a
  ne := fun h tp dd its n sl X htp => by
    obtain ⟨cd, a, _⟩ := Option.bind_eq_some_iff.mp c.mro
    refine Bool.eq_false_iff.mpr fun q => ?_
    have e : C = tp := Value.ref.inj (beq_iff_eq.mp q)
    subst e
    unfold PySem.W.clsIn at a
    split at a
    · rename_i c' d' cd' sl' ho
      have z := (X _ _ ho).symm.trans htp
      cases z
    · cases a
  ca := fun X ⟨o, e, hc⟩ k => exc_class c X (fun M => hc ▸ (PySem.W.Looks.ld e).andThen .now) k
theorem ObjOk.thereO {P : Program} {w : World} {H : Hp} {h : Heap} {a : Addr} {o : HO} (x : ObjOk P w H h a o) : ∃ u, h.get? a = some u := by
  cases o with
  | lst xs => obtain ⟨_, _, _, _, e⟩ := x; exact ⟨_, e⟩
  | tup xs => obtain ⟨_, _, _, o, e, _⟩ := x; exact ⟨_, e⟩
  | dK kvs => obtain ⟨_, _, _, _, o, _, _, e, _⟩ := x; exact ⟨_, e⟩
  | dT kvs => obtain ⟨_, _, _, _, o, _, _, e, _⟩ := x; exact ⟨_, e⟩
  | set S n => obtain ⟨o, _, _, _, e, _⟩ := x; exact ⟨_, e⟩
  | ins C dx fs => obtain ⟨_, _, _, e, _⟩ := x; exact ⟨_, e⟩
  | own y => exact x
  | xd fs => obtain ⟨_, ⟨_, _, _, e, _⟩, _⟩ := x; exact ⟨_, e⟩
  | rng lo hi => obtain ⟨_, _, _, e⟩ := x; exact ⟨_, e⟩
  | frz ob u => obtain ⟨e, _⟩ := x; exact ⟨_, e⟩
  | tbl ps => exact ⟨_, (show h.get? a = some _ from x)⟩
  | met f y => exact ⟨_, (show h.get? a = some _ from x)⟩
  | ext φ => obtain ⟨_, e, _⟩ := x; exact e
noncomputable abbrev exX (X : Cx) (ea : Addr) (oe : Obj) : Cx := { X with A := X.A.mark (some (.ref ea)), calm := false, pn := (ea, oe) :: X.pn, xe := fun _ _ => False }
theorem Inv.toEx {X : Cx} {pins : List (Addr × Obj)} {σ : L2.St} {H : Hp} {s : Shared} {ea : Addr} {oe : Obj} (I : Inv X pins σ H s) (h1 : s.heap.get? ea = some oe) (h2 : H ea = none) (h3 : ea ≠ X.env.locals) (h4 : ea ∉ X.fs) (h5 : ∀ v, oe.data ≠ .cell v) :
    Inv (exX X ea oe) pins σ H s :=
  ⟨⟨I.ok.mod, I.ok.kind, I.ok.glob, I.ok.blt, I.ok.above, I.ok.inj, I.ok.has, I.ok.cab, (fun z => nomatch z), I.ok.frames, I.ok.stk, I.ok.exf, I.ok.bs, I.ok.bsz, I.ok.noex, I.ok.exfs, I.ok.funs, I.ok.frf⟩,
    I.os, I.bare, I.base, I.loc, I.cell, I.free, I.freeC, fun p hp => by
      rcases List.mem_cons.mp (show p ∈ (ea, oe) :: (X.pn ++ pins) from hp) with rfl | hp
      · exact ⟨h1, h2, h3, h4, h5⟩
      · exact I.pin p hp, I.hok, I.len⟩
theorem Inv.unEx {X : Cx} {pins : List (Addr × Obj)} {σ : L2.St} {H : Hp} {s : Shared} {ea : Addr} {oe : Obj} (ok : X.Ok) (I : Inv (exX X ea oe) pins σ H s) : Inv X pins σ H s :=
  ⟨ok, I.os, I.bare, I.base, I.loc, I.cell, I.free, I.freeC, fun p hp => I.pin p (List.mem_cons_of_mem _ hp), I.hok, I.len⟩
section
variable {X : Cx} {pins : List (Addr × Obj)} {σ : L2.St} {H : Hp} {s : Shared} {E' : XK} {e : Value} {s' : Shared} {x : Str} {D : Addr} {b0 : Stmt} {suite : List Stmt} {np hpos : Pos} {Q : Flow → Shared → Prop}
theorem landed (I : Inv X pins σ H s) (hst : X.stack = X.env :: X.outer) (hf : X.env.frame = some X.env.locals) {ea C : Addr} {a0 : Value} {H' : Hp} {B : Heap} (os : s'.os = s.os) (bare : AllBare s'.gens) (ra : Ra X.prog X.w (frs X.stack) H H' s.heap B) (sl : SlotsAt (frs X.stack) s.heap s'.heap)
    {h6 : Heap} (fl : Heap.FlyingW B X.stack ea (.ref C) a0 h6) (up : s'.heap.UpToSlots h6) : ∃ oe, oe.cls = .ref C ∧ Inv (exX X ea oe) pins σ H' { s' with heap := h6 } := by
  obtain ⟨oe, vs, he, hc, hd, _⟩ := fl.first
  have sl6 : SlotsAt (frs X.stack) s.heap h6 := fun b o q hb => by
    obtain ⟨_, o', q', nf⟩ := I.stack.mem hb
    rw [q] at q'; cases q'
    obtain ⟨s1, r1⟩ := sl b o q hb
    obtain ⟨s2, r2⟩ := up b _ r1 nf
    exact ⟨s2, r2⟩
  have I6 : Inv X pins σ H' { s' with heap := h6 } := I.call' (s' := { s' with heap := h6 }) (ch := []) os (ra.un fl.1 sl6) (ra.hok.kept fl.1) bare (fun b z => absurd z (by simp))
  refine ⟨oe, hc, Inv.toEx I6 he ?_ ?_ ?_ fun v z => by rw [hd] at z; cases z⟩
  · cases q : H' ea with
    | none => rfl
    | some u =>
      obtain ⟨o', q'⟩ := ObjOk.thereO (ra.hok ea u q)
      rw [fl.2.1] at q'; cases q'
  · intro z
    have hb : ea ∈ X.stack.filterMap (·.frame) := by
      rw [hst, List.filterMap_cons, hf, z]; exact List.mem_cons_self
    obtain ⟨_, o', q', nf⟩ := fl.2.2.1.mem hb
    rw [he] at q'; cases q'
    exact nf vs hd
  · intro z
    have hb : ea ∈ X.stack.filterMap (·.frame) := by
      rw [hst]
      have : frs X.outer ⊆ frs (X.env :: X.outer) := fun b hb => by rw [frs_cons hf]; exact List.mem_cons_of_mem _ hb
      exact this z
    obtain ⟨_, o', q', nf⟩ := fl.2.2.1.mem hb
    rw [he] at q'; cases q'
    exact nf vs hd
theorem caughtN {n : Str} (I : Inv X pins σ H s) (hst : X.stack = X.env :: X.outer) (hf : X.env.frame = some X.env.locals) (cx : CXr X.prog X.w X.stack H s E' e s') (hg : Gl X x) (hm : X.mg x = some (.ref D)) (hdb : (x == ("__debug__" : Str)) = false)
    (hmt : ∀ C dx H', E' C dx H' → PySem.W.exmOne X.K C (.ref D) = some true)
    (k : ∀ ea C oe H' s6, E' (.ref C) none H' → oe.cls = .ref C → Inv (exX X ea oe) pins σ H' s6 → wpAny (model X.prog X.w) (X.A.mark (some (.ref ea))) (storeName X.env n (.ref ea)) (fun _ s7 => wpAny (model X.prog X.w) (X.A.mark (some (.ref ea))) (execs (b0 :: suite) X.env)
      (fun f s8 => wpAny (model X.prog X.w) X.A (do bindName X.env n .none; unbindBehindTheSuite X.env n hpos) (fun _ s9 => Q f s9) X.xe s8) (fun _ _ => False) s7) (fun _ _ => False) s6) :
    wpAny (model X.prog X.w) X.A (noteFrame e X.env) (fun _ s2 => wpAny (model X.prog X.w) X.A (setFlight e none) (fun _ s3 => wpAny (model X.prog X.w) X.A (handleBy e X.env [.ExceptHandler (some (.Name x np)) (some n) (b0 :: suite) hpos]) Q X.xe s3) X.xe s2) X.xe s' := by
  obtain ⟨ea, C, a0, H', B, rfl, os, bare, fl, ra, sl, hE⟩ := cx
  refine wpAny_looks_onW (outer := X.outer) (by rw [← hst]; exact I.ok.frames) hf (by rw [← hst]; exact fl) fun h4 hh4 up4 => ?_
  refine wpAny_landsW hh4 fun h5 fl5 up5 => ?_
  have fl5' : Heap.FlyingW B X.stack ea (.ref C) a0 h5 := by rw [hst]; exact fl5
  obtain ⟨oe, hc, I5⟩ := landed I hst hf os bare ra sl fl5' (up4.trans up5)
  refine wpAny_handleBy_cons (codeAny_handlers_test (ld_glob I5 hg hm ?_ hdb)) (by intro q; cases q)
  obtain ⟨ob, vs, he, hc', hd, _⟩ := fl5.first
  refine (PySem.W.exm_one (M := model X.prog X.w) (h := h5) I5.kIn (hc' ▸ (PySem.W.Looks.ld he).andThen .now) (hmt _ _ _ hE)).here ?_
  refine codeAny_handlers_suite_as ?_
  refine lands_againW fl5 fun h6 fl6 up6 => ?_
  have fl6' : Heap.FlyingW B X.stack ea (.ref C) a0 h6 := by rw [hst]; exact fl6
  obtain ⟨o6, hc6, I6⟩ := landed I hst hf os bare ra sl fl6' ((up4.trans up5).trans up6)
  exact wpAny_mono (k ea C o6 H' _ hE hc6 I6) (fun _ _ q => wpAny_mono q (fun _ _ r => r) fun _ _ z => z.elim) fun _ _ z => z.elim
end
end TW
end
section
set_option Elab.async false
set_option linter.all false
set_option maxRecDepth 100000
set_option maxHeartbeats 4000000
namespace TW
open PySem PySem.Spec PyProof.Rows L2
noncomputable def spX (C : Addr) (n : Nat) (g : List D → Option D) : Sp := fun vs H _ E => ∃ G ds, (Same G H ∧ Tb G) ∧ Rps G ds vs ∧ ds.length = n ∧ g ds = some (.bl true) ∧ ∀ H' G', Ext G H G' H' → E (.ref C) none H'
theorem good_cx {CX : CXT} {P : Program} {w : World} {K : PySem.W.Frag} {mg : Str → Option Value} {base : Heap} {ps : List Str} {qual : Str} {scope : Scope} {f : Addr} {cdv : Value} {A : Around} {outer : List Env} {s : Shared} {H : Hp} {E : XK} {T : Tab} {p : Nat → List D → Option D} {k : Nat}
    (S : FnScope (scope.names.map (·.1)) ps scope) (hr : Room k (A.deeper (envOfC qual scope s.heap.objs.size f cdv))) (blt : ∀ x, x ∈ bltN → mg x = none) (gls : ∀ x c, T.gls.lookup x = some c → ∀ d, cstIs d c = true → ∃ v u, mg x = some u ∧ RelV v u ∧ ∀ G, Rp G d v)
    (fns : ∀ f x n, T.fns[f]? = some (x, n) → ∃ a fd ps, FnOk P w K mg base CX0 k a fd ps (spD n (p f)) ∧ mg x = some (.ref a) ∧ PySem.W.keepIn K (.ref a) = true ∧ Binds K fd ps []) :
    Good (cxOf CX P w K mg base (scope.names.map (·.1)) qual scope f cdv A outer s H E) T p scope.names := by
  refine ⟨rfl, S.nd, fun x k h hk => ?_, fun x h => h, fun x h => h, fun x h => ⟨h, rfl⟩, fun x h => h, rfl, hr.units, blt, gls, fun f x n hf => ?_⟩
  · show scope.names.lookup x = _ ∨ scope.names.lookup x = _ ∨ scope.names.lookup x = _
    rw [h]
    cases k <;> first | (cases hk; done) | exact .inl rfl | exact .inr (.inl rfl) | exact .inr (.inr rfl)
  · obtain ⟨a, fd, ps, h1, h2, h3, h4⟩ := fns f x n hf
    exact ⟨k, a, fd, ps, h1, hr, h2, h3, h4⟩
section
variable {P : Program} {w : World} {K : PySem.W.Frag} {mg : Str → Option Value} {base : Heap} {T : Tab} {p : Nat → List D → Option D} {k : Nat} {d : DefT} {f : Addr} {fd : FuncData}
end
end TW
end
section
set_option Elab.async false
set_option linter.all false
set_option maxRecDepth 100000
set_option maxHeartbeats 4000000
namespace TW
open PySem PySem.Spec PyProof.Rows L2
noncomputable abbrev wishP (X : Cx) (pins : List (Addr × Obj)) (E : Value → Shared → Prop) : Cx := { X with pn := X.pn ++ pins, xe := E }
section
variable {X : Cx} {pins pins' : List (Addr × Obj)} {σ : L2.St} {H : Hp} {s : Shared} {E : Value → Shared → Prop}
theorem Inv.toP (I : Inv X pins σ H s) (E : Value → Shared → Prop) : Inv (wishP X pins E) [] σ H s :=
  ⟨⟨I.ok.mod, I.ok.kind, I.ok.glob, I.ok.blt, I.ok.above, I.ok.inj, I.ok.has, I.ok.cab, I.ok.hd, I.ok.frames, I.ok.stk, I.ok.exf, I.ok.bs, I.ok.bsz, I.ok.noex, I.ok.exfs, I.ok.funs, I.ok.frf⟩,
    I.os, I.bare, I.base, I.loc, I.cell, I.free, I.freeC, fun p hp => I.pin p (by simpa using hp), I.hok, I.len⟩
theorem Inv.unP (I : Inv (wishP X pins E) pins' σ H s) : Inv X pins σ H s :=
  ⟨⟨I.ok.mod, I.ok.kind, I.ok.glob, I.ok.blt, I.ok.above, I.ok.inj, I.ok.has, I.ok.cab, I.ok.hd, I.ok.frames, I.ok.stk, I.ok.exf, I.ok.bs, I.ok.bsz, I.ok.noex, I.ok.exfs, I.ok.funs, I.ok.frf⟩,
    I.os, I.bare, I.base, I.loc, I.cell, I.free, I.freeC, fun p hp => I.pin p (List.mem_append_left _ hp), I.hok, I.len⟩
end
theorem pe_isx {X : Cx} {ea C : Addr} {oe : Obj} {e c : Str} {i : Nat} {b : Bool} {u : Value} {v : V} {p1 p2 p3 pos : Pos} (hp : (ea, oe) ∈ X.pn) (hc : oe.cls = .ref C) (ex : ExC X.K C) (hN : X.N[i]? = some e) (hv : Vis X.env.scope e) (hd : (e == ("__debug__" : Str)) = false) (hcd : (e == ("__classdict__" : Str)) = false)
    (hgi : Gl X "isinstance") (hmi : X.mg "isinstance" = none) (pc : PE X (.Name c p3) (tC v)) (rv : ∀ u', RelV v u' → u' = u) (hk : PySem.W.kitOne X.K (.ref C) u = some b) :
    PE X (.Call (.Name "isinstance" p1) [.Name e p2, .Name c p3] [] pos) (fun σ H Q => σ[i]? = some (some (.ref ea)) ∧ Q (.bl b) H) := by
  have cr : CallR X (.builtin "isinstance") (fun xs H Q => xs = [.ref ea, v] ∧ Q (.bl b) H) := by
    rintro pins s σ H xs us Q I r ⟨rfl, q⟩
    obtain ⟨y1, l1, rfl, r1, r2⟩ : ∃ y1 l1, us = y1 :: l1 ∧ RelV (.ref ea) y1 ∧ Vals [v] l1 := by cases r with | cons a b => exact ⟨_, _, rfl, a, b⟩
    obtain ⟨y2, rfl, r3⟩ : ∃ y2, l1 = [y2] ∧ RelV v y2 := by cases r2 with | cons a b => cases b; exact ⟨_, rfl, a⟩
    cases (show y1 = .ref ea from r1)
    cases rv y2 r3
    exact PySem.W.kia_one (kitx_exc ex) I.kIn ⟨oe, (I.pin _ (List.mem_append_left _ hp)).1, hc⟩ hk (fun z => nomatch z) fun tk => ⟨.bl b, H, I.tok tk, rfl, q⟩
  refine pe_imp (pe_callB cr hgi hmi boot_isinstance (pa_cons (pe_var hN hv hd hcd) (pa_cons pc pa_nil))) ?_
  rintro σ H Q ⟨h1, h2⟩
  exact ⟨_, h1, rfl, h2⟩
theorem name_goes {X : Cx} {pins : List (Addr × Obj)} {σ : L2.St} {H : Hp} {s : Shared} {n : Str} {pos : Pos} {Q : Unit → Shared → Prop} {E : Value → Shared → Prop} {A : Around} (I : Inv X pins σ H s) (hl : X.env.kindOf n = some .local)
    (h : ∀ s', Inv X pins (List.replicate X.N.length none) H s' → Q () s') : wpAny (model X.prog X.w) A (do bindName X.env n .none; unbindBehindTheSuite X.env n pos) Q E s := by
  obtain ⟨m, hn, _⟩ := id I.loc
  refine wpAny_nameGoes hl hn (by rw [I.ok.kind]; rfl) fun h' m' hn' hs => h _ ?_
  have neL : ∀ b o, X.s₀.heap.get? b = some o → b ≠ X.env.locals := fun b o e => Nat.ne_of_lt (Nat.lt_of_lt_of_le (Heap.lt_size e) I.ok.above)
  have cne : ∀ y c, X.env.cells.lookup y = some c → c ≠ X.env.locals := fun y c e => I.cne y c e
  refine ⟨I.ok, I.os, I.bare, ⟨fun b o e n hb hx => (hs.2 b (neL b o e)).trans (I.base.keep b o e n hb hx), fun b o e n hb hx => ?_, I.base.free, fun b o e hx => ?_, I.base.tups, I.base.frzs, I.base.tbls⟩, ⟨m', hn', fun i x v e1 e2 _ => ?_⟩, fun y c e => ?_, I.free, I.freeC, fun p hp => ?_, fun a o ha => ?_, List.length_replicate⟩
  · obtain ⟨sl, e1⟩ := I.base.slot b o e n hb hx
    exact ⟨sl, (hs.2 b (neL b o e)).trans e1⟩
  · obtain ⟨o', e1⟩ := I.base.there b o e hx
    exact ⟨o', (hs.2 b (neL b o e)).trans e1⟩
  · rw [List.getElem?_replicate] at e2
    split at e2 <;> cases e2
  · obtain ⟨w', z⟩ := I.cell y c e
    exact ⟨w', z.sameBut hs (cne y c e)⟩
  · obtain ⟨e, n, ne, nf, d⟩ := I.pin p hp
    exact ⟨(hs.2 p.1 ne).trans e, n, ne, nf, d⟩
  · refine (I.hok a o ha).stay (fun b u hb q => (hs.2 b fun z => ?_).trans q) (fun _ q => q) fun _ _ q => q
    have nf := I.free
    rw [← z] at nf
    rcases hb with rfl | hb
    · rw [ha] at nf; cases nf
    · rw [hb] at nf; cases nf
section
variable {P : Program} {w : World} {K : PySem.W.Frag} {mg : Str → Option Value} {base : Heap} {k : Nat} {d : DefT} {f f2 : Addr} {fd fd2 : FuncData} {ps2 : List Str} {g g2 : List D → Option D}
theorem SP.unEx {X : Cx} {pins : List (Addr × Obj)} {ea : Addr} {oe : Obj} {D : Ends} {fl : Flow} {s : Shared} (ok : X.Ok) (h : SP (exX X ea oe) pins D fl s) : SP X pins D fl s := by
  cases fl with
  | next => obtain ⟨σ', H', I, q⟩ := h; exact ⟨σ', H', Inv.unEx ok I, q⟩
  | brk => obtain ⟨σ', H', I, q⟩ := h; exact ⟨σ', H', Inv.unEx ok I, q⟩
  | cont => obtain ⟨σ', H', I, q⟩ := h; exact ⟨σ', H', Inv.unEx ok I, q⟩
  | ret u => obtain ⟨v, σ', H', I, r, q⟩ := h; exact ⟨v, σ', H', Inv.unEx ok I, r, q⟩
noncomputable def tryE (X : Cx) (hs : List ExceptHandler) (Q : Flow → Shared → Prop) : Value → Shared → Prop := fun e s₁ => wpAny (model X.prog X.w) X.A (noteFrame e X.env) (fun _ s₂ => wpAny (model X.prog X.w) X.A (setFlight e none) (fun _ s₃ => wpAny (model X.prog X.w) X.A (handleBy e X.env hs) Q X.xe s₃) X.xe s₂) X.xe s₁
end
end TW
end
section
set_option Elab.async false
set_option linter.all false
namespace TW
open PySem
@[simp] theorem ev_var (p : Nat → List D → Option D) {i} (r : En) : ev p (.var i) r = vt (match r[i]? with
    | some (some (.val d)) => some (.fz, d)
    | some (some (.own ds)) => some (.bo, .lst ds)
    | some (some (.ownd ks ds)) => some (.bo, .dct ks ds)
    | _ => none) := rfl
@[simp] theorem ev_cst (p : Nat → List D → Option D) {d} (r : En) : ev p (.cst d) r = vt (some (.fz, d)) := rfl
@[simp] theorem ev_neg (p : Nat → List D → Option D) {a} (r : En) : ev p (.neg a) r = vt ((ev p a r).1.bind fun x => match x.2 with | .int i => some (.fz, .int (-i)) | _ => none) := rfl
@[simp] theorem ev_nt (p : Nat → List D → Option D) {a} (r : En) : ev p (.nt a) r = ((ev p a r).1.bind fun x => match x.2 with | .bl b => some (.fz, .bl (!b)) | _ => none, (ev p a r).2.map fun k => !k) := rfl
@[simp] theorem ev_bin (p : Nat → List D → Option D) {op a b} (r : En) : ev p (.bin op a b) r = vt ((ev p a r).1.bind fun x => (ev p b r).1.bind fun y => opD op x.2 y.2) := rfl
@[simp] theorem ev_cmp (p : Nat → List D → Option D) {op a b} (r : En) : ev p (.cmp op a b) r = vt ((ev p a r).1.bind fun x => (ev p b r).1.bind fun y => (cmpD op x.2 y.2).map fun b => (.fz, .bl b)) := rfl
@[simp] theorem ev_cmp2 (p : Nat → List D → Option D) {op oq a b c} (r : En) : ev p (.cmp2 op oq a b c) r = vt ((ev p a r).1.bind fun x => (ev p b r).1.bind fun y => (cmpD op x.2 y.2).bind fun k =>
      if k then (ev p c r).1.bind fun z => (cmpD oq y.2 z.2).map fun b => (.fz, .bl b) else some (.fz, .bl false)) := rfl
@[simp] theorem ev_an (p : Nat → List D → Option D) {a b} (r : En) : ev p (.an a b) r = ((ev p a r).1.bind fun x => match x.2 with | .bl true => (ev p b r).1 | .bl false => some (.fz, .bl false) | _ => none,
      (ev p a r).2.bind fun k => if k then (ev p b r).2 else some false) := rfl
@[simp] theorem ev_orr (p : Nat → List D → Option D) {a b} (r : En) : ev p (.orr a b) r = ((ev p a r).1.bind fun x => match x.2 with | .bl true => some (.fz, .bl true) | .bl false => (ev p b r).1 | _ => none,
      (ev p a r).2.bind fun k => if k then some true else (ev p b r).2) := rfl
@[simp] theorem ev_ife (p : Nat → List D → Option D) {c a b} (r : En) : ev p (.ife c a b) r = vt ((ev p c r).2.bind fun k => if k then (ev p a r).1 else (ev p b r).1) := rfl
@[simp] theorem ev_tp (p : Nat → List D → Option D) {l} (r : En) : ev p (.tp l) r = vt ((evA p l r).bind fun ds => if ds.length ≤ lim then some (.fz, .tup ds) else none) := rfl
@[simp] theorem ev_ls (p : Nat → List D → Option D) {l} (r : En) : ev p (.ls l) r = vt ((evA p l r).bind fun ds => if ds.length ≤ lim then some (.fr, .lst ds) else none) := rfl
@[simp] theorem ev_ix (p : Nat → List D → Option D) {a b} (r : En) : ev p (.ix a b) r = vt ((ev p a r).1.bind fun x => (ev p b r).1.bind fun y => match y.2 with
    | .int i => (match x.2 with
      | .dct ks ds => (atK ks ds i).map fun d => (.fz, d)
      | z => (seqOf z).bind fun ds => (atI ds i).map fun d => (.fz, d))
    | _ => none) := rfl
@[simp] theorem ev_sl (p : Nat → List D → Option D) {a lo hi} (r : En) : ev p (.sl a lo hi) r = vt ((ev p a r).1.bind fun x => (evO p lo r).1.bind fun l => (evO p hi r).1.bind fun h => match x.2 with
    | .tup ds => some (.fz, .tup (cut ds l h))
    | .lst ds => some (.fr, .lst (cut ds l h))
    | _ => none) := rfl
@[simp] theorem ev_rev (p : Nat → List D → Option D) {a} (r : En) : ev p (.rev a) r = vt ((ev p a r).1.bind fun x => match x.2 with
    | .tup ds => some (.fz, .tup ds.reverse)
    | .lst ds => some (.fr, .lst ds.reverse)
    | _ => none) := rfl
theorem ev_comp (p : Nat → List D → Option D) {cap tg it cd e} (r : En) : ev p (.comp cap tg it cd e) r = vt ((evI p it r).bind fun ds => if ds.2.length ≤ lim ∧ freeT cap tg = true then
      (compGo (fun d => (bindT tg d (capt r cap)).bind fun q => (evO p cd q).2.bind fun k => if k then ((ev p e q).1.bind frz).map some else some none) ds.2).map fun l => (.fr, .lst l)
    else none) := rfl
@[simp] theorem ev_call (p : Nat → List D → Option D) {f l} (r : En) : ev p (.call f l) r = vt ((evA p l r).bind fun ds => (p f ds).map fun d => (.fz, d)) := rfl
@[simp] theorem ev_b1 (p : Nat → List D → Option D) {f a} (r : En) : ev p (.b1 f a) r = vt ((ev p a r).1.bind fun x => b1D f x.2) := rfl
@[simp] theorem ev_b2 (p : Nat → List D → Option D) {f a b} (r : En) : ev p (.b2 f a b) r = vt ((ev p a r).1.bind fun x => (ev p b r).1.bind fun y => b2D f x.2 y.2) := rfl
@[simp] theorem ev_lm (p : Nat → List D → Option D) {f a b} (r : En) : ev p (.lm f a b) r = vt ((ev p a r).1.bind fun x => (ev p b r).1.bind fun y => lmD f x.2 y.2) := rfl
@[simp] theorem ev_isi (p : Nat → List D → Option D) {a t} (r : En) : ev p (.isi a t) r = vt ((ev p a r).1.bind fun x => isiD t x.2) := rfl
@[simp] theorem ev_rngl (p : Nat → List D → Option D) {a} (r : En) : ev p (.rngl a) r = vt ((ev p a r).1.bind fun x => match x.2 with
    | .int i => if rngOk i && decide (i.natAbs ≤ lim) then some (.fr, .lst (rngD 0 i.toNat)) else none
    | _ => none) := rfl
@[simp] theorem ev_rngt (p : Nat → List D → Option D) {a} (r : En) : ev p (.rngt a) r = vt ((ev p a r).1.bind fun x => match x.2 with
    | .int i => if rngOk i && decide (i.natAbs ≤ lim) then some (.fz, .tup (rngD 0 i.toNat)) else none
    | _ => none) := rfl
@[simp] theorem ev_slen (p : Nat → List D → Option D) {a} (r : En) : ev p (.slen a) r = vt ((ev p a r).1.bind fun x => match x.2 with
    | .tup ds => (intsOf ds).bind fun l => if l.length ≤ 1000 then some (.fz, .int (ddp l).length) else none
    | _ => none) := rfl
@[simp] theorem ev_join (p : Nat → List D → Option D) {sep a} (r : En) : ev p (.join sep a) r = vt ((ev p a r).1.bind fun x => match x.2 with
    | .lst ds => (strsOf ds).bind fun l => if jlen sep l ≤ lim then some (.fz, .str (joinS sep l)) else none
    | _ => none) := rfl
@[simp] theorem evA_nil (p : Nat → List D → Option D) (r : En) : evA p .nil r = some [] := rfl
@[simp] theorem evA_cons (p : Nat → List D → Option D) {a l} (r : En) : evA p (.cons a l) r = ((ev p a r).1.bind frz).bind fun d => (evA p l r).map fun q => d :: q := rfl
@[simp] theorem evO_no (p : Nat → List D → Option D) (r : En) : evO p .no r = (some none, some true) := rfl
@[simp] theorem evO_so (p : Nat → List D → Option D) {a} (r : En) : evO p (.so a) r = ((ev p a r).1.bind fun x => match x.2 with | .int i => some (some i) | _ => none, (ev p a r).2) := rfl
@[simp] theorem evI_sq (p : Nat → List D → Option D) {a} (r : En) : evI p (.sq a) r = (ev p a r).1.bind fun x => (seqOf x.2).map fun u => (nfr x.1, u) := rfl
@[simp] theorem evI_r1 (p : Nat → List D → Option D) {a} (r : En) : evI p (.r1 a) r = (ev p a r).1.bind fun x => match x.2 with | .int i => if rngOk i then some (.fz, rngD 0 i.toNat) else none | _ => none := rfl
@[simp] theorem evI_r2 (p : Nat → List D → Option D) {a b} (r : En) : evI p (.r2 a b) r = (ev p a r).1.bind fun x => (ev p b r).1.bind fun y => match x.2, y.2 with
    | .int i, .int j => if rngOk i && rngOk j then some (.fz, rngD i (j - i).toNat) else none
    | _, _ => none := rfl
@[simp] theorem evI_zp (p : Nat → List D → Option D) {a b} (r : En) : evI p (.zp a b) r = (ev p a r).1.bind fun x => (ev p b r).1.bind fun y => match x.2, y.2 with | .tup u, .tup v => some (.fz, zipD u v) | _, _ => none := rfl
@[simp] theorem evI_en (p : Nat → List D → Option D) {a} (r : En) : evI p (.en a) r = (ev p a r).1.bind fun x => match x.2 with | .tup u => some (.fz, zipD (rngD 0 u.length) u) | _ => none := rfl
@[simp] theorem evS_asg (p : Nat → List D → Option D) {o i c} (r : En) : evS p (.asg o i c) r = (ev p c r).1.bind fun x => match o, x with
    | true, (.fr, .lst ds) => some (.nx (r.set i (some (.own ds))))
    | _, x => (frz x).map fun d => .nx (r.set i (some (.val d))) := rfl
@[simp] theorem evS_asgT (p : Nat → List D → Option D) {l c} (r : En) : evS p (.asgT l c) r = ((ev p c r).1.bind frz).bind fun d => (bindT (.many l) d r).map Fl.nx := rfl
@[simp] theorem evS_app (p : Nat → List D → Option D) {i c} (r : En) : evS p (.app i c) r = ((ev p c r).1.bind frz).bind fun d => match r[i]? with
    | some (some (.own ds)) => if ds.length < lim then some (.nx (r.set i (some (.own (ds ++ [d]))))) else none
    | _ => none := rfl
@[simp] theorem evS_ext (p : Nat → List D → Option D) {i c} (r : En) : evS p (.ext i c) r = (ev p c r).1.bind fun x => match x.2, r[i]? with
    | .lst es, some (some (.own ds)) => if ds.length + es.length ≤ lim then some (.nx (r.set i (some (.own (ds ++ es))))) else none
    | _, _ => none := rfl
@[simp] theorem evS_give (p : Nat → List D → Option D) {i} (r : En) : evS p (.give i) r = match r[i]? with
    | some (some (.own ds)) => some (.nx (r.set i (some (.val (.lst ds)))))
    | some (some (.ownd ks ds)) => some (.nx (r.set i (some (.val (.dct ks ds)))))
    | _ => none := rfl
@[simp] theorem evS_dnew (p : Nat → List D → Option D) {i k v} (r : En) : evS p (.dnew i k v) r = (ev p k r).1.bind fun x => ((ev p v r).1.bind frz).bind fun d => match x.2 with
    | .int a => some (.nx (r.set i (some (.ownd [a] [d]))))
    | _ => none := rfl
@[simp] theorem evS_dset (p : Nat → List D → Option D) {i k v} (r : En) : evS p (.dset i k v) r = (ev p k r).1.bind fun x => ((ev p v r).1.bind frz).bind fun d => match x.2, r[i]? with
    | .int a, some (some (.ownd ks ds)) => if ks.length < lim ∧ a ∉ ks then some (.nx (r.set i (some (.ownd (ks ++ [a]) (ds ++ [d]))))) else none
    | _, _ => none := rfl
@[simp] theorem evI_ky (p : Nat → List D → Option D) {a} (r : En) : evI p (.ky a) r = (ev p a r).1.bind fun x => match x with | (.fz, .dct ks _) => some (.fz, ks.map D.int) | _ => none := rfl
@[simp] theorem evS_ifs (p : Nat → List D → Option D) {c a b} (r : En) : evS p (.ifs c a b) r = (ev p c r).2.bind fun k => if k then evSS p a r else evSS p b r := rfl
theorem evS_fr (p : Nat → List D → Option D) {tg it b} (r : En) : evS p (.fr tg it b) r = (evI p it r).bind fun ds => match ds.1 with
    | .bo => none
    | _ => loopF tg (fun q => evSS p b q) ds.2 r := rfl
@[simp] theorem evS_wh (p : Nat → List D → Option D) {c b} (r : En) : evS p (.wh c b) r = loopW (fun q => (ev p c q).2) (fun q => evSS p b q) fuel r := rfl
@[simp] theorem evS_ret (p : Nat → List D → Option D) {c} (r : En) : evS p (.ret c) r = ((ev p c r).1.bind frz).map Fl.rt := rfl
@[simp] theorem evS_pas (p : Nat → List D → Option D) (r : En) : evS p .pas r = some (.nx r) := rfl
@[simp] theorem evS_nev (p : Nat → List D → Option D) (r : En) : evS p .nev r = none := rfl
@[simp] theorem evSS_nil (p : Nat → List D → Option D) (r : En) : evSS p .nil r = some (.nx r) := rfl
@[simp] theorem evSS_cons (p : Nat → List D → Option D) {s l} (r : En) : evSS p (.cons s l) r = (evS p s r).bind fun o => match o with
    | .nx q => evSS p l q
    | x => some x := rfl
@[simp] theorem vt_1 (v : Option (Kd × D)) : (vt v).1 = v := rfl
@[simp] theorem vt_2 (v : Option (Kd × D)) : (vt v).2 = v.bind fun x => truD x.2 := rfl
@[simp] theorem frz_fz (d : D) : frz (.fz, d) = some d := rfl
@[simp] theorem frz_fr (d : D) : frz (.fr, d) = some d := rfl
@[simp] theorem left_rt (d : D) : left (some (.rt d)) = some d := rfl
@[simp] theorem block_nil : block [] = .nil := rfl
@[simp] theorem block_cons (s : S) (l : List S) : block (s :: l) = .cons s (block l) := rfl
@[simp] theorem slice_nil : slice [] = .nil := rfl
@[simp] theorem slice_cons (s : C) (l : List C) : slice (s :: l) = .cons s (slice l) := rfl
@[simp] theorem capt_nil (r : En) : capt r [] = [] := rfl
@[simp] theorem capt_none (r : En) (l : List (Option Nat)) : capt r (none :: l) = none :: capt r l := rfl
@[simp] theorem capt_some (r : En) (i : Nat) (l : List (Option Nat)) : capt r (some i :: l) = (r[i]?).join :: capt r l := rfl
@[simp] theorem freeT_one (cap : List (Option Nat)) (i : Nat) : freeT cap (.one i) = free1 cap i := rfl
@[simp] theorem freeT_many (cap : List (Option Nat)) (l : List Nat) : freeT cap (.many l) = l.all (free1 cap) := rfl
@[simp] theorem bindT_one (i : Nat) (d : D) (r : En) : bindT (.one i) d r = some (r.set i (some (.val d))) := rfl
@[simp] theorem bindT_many (l : List Nat) (ds : List D) (r : En) : bindT (.many l) (.tup ds) r = setAll l ds r := rfl
@[simp] theorem setAll_nil (r : En) : setAll [] [] r = some r := rfl
@[simp] theorem setAll_cons (i : Nat) (l : List Nat) (d : D) (ds : List D) (r : En) : setAll (i :: l) (d :: ds) r = setAll l ds (r.set i (some (.val d))) := rfl
@[simp] theorem nfr_fz : nfr .fz = .fz := rfl
@[simp] theorem nfr_fr : nfr .fr = .fz := rfl
@[simp] theorem nfr_bo : nfr .bo = .bo := rfl
@[simp] theorem lim_eq : lim = 65536 := rfl
noncomputable abbrev dn (n : Nat) : D := .int (n : Int)
@[simp] theorem opD_add_i (a b : Int) : opD .Add (.int a) (.int b) = some (.fz, .int (a + b)) := rfl
@[simp] theorem opD_sub_i (a b : Int) : opD .Sub (.int a) (.int b) = some (.fz, .int (a - b)) := rfl
theorem opD_mul_l {a b : Int} (h1 : -18446744073709551616 < a) (h2 : a < 18446744073709551616) : opD .Mult (.int a) (.int b) = some (.fz, .int (a * b)) := if_pos (.inl (by omega))
theorem opD_mul_r {a b : Int} (h1 : -18446744073709551616 < b) (h2 : b < 18446744073709551616) : opD .Mult (.int a) (.int b) = some (.fz, .int (a * b)) := if_pos (.inr (by omega))
theorem opD_div {a b : Int} (h1 : 0 < b) (h2 : b < 1073741824) : opD .FloorDiv (.int a) (.int b) = some (.fz, .int (a / b)) := if_pos ⟨h1, by omega⟩
theorem opD_mod {a b : Int} (h1 : 0 < b) : opD .Mod (.int a) (.int b) = some (.fz, .int (a % b)) := if_pos h1
theorem opD_add_t {a b : List D} (h : a.length + b.length ≤ 65536) : opD .Add (.tup a) (.tup b) = some (.fz, .tup (a ++ b)) := if_pos h
theorem opD_add_l {a b : List D} (h : a.length + b.length ≤ 65536) : opD .Add (.lst a) (.lst b) = some (.fr, .lst (a ++ b)) := if_pos h
@[simp] theorem cmp_lt (a b : Int) : cmpD .Lt (.int a) (.int b) = some (decide (a < b)) := rfl
@[simp] theorem cmp_le (a b : Int) : cmpD .LtE (.int a) (.int b) = some (decide (a ≤ b)) := rfl
@[simp] theorem cmp_gt (a b : Int) : cmpD .Gt (.int a) (.int b) = some (decide (b < a)) := rfl
@[simp] theorem cmp_ge (a b : Int) : cmpD .GtE (.int a) (.int b) = some (decide (b ≤ a)) := rfl
@[simp] theorem cmp_eq (a b : Int) : cmpD .Eq (.int a) (.int b) = some (decide (a = b)) := by
  show some (a == b) = _
  congr 1
@[simp] theorem cmp_ne (a b : Int) : cmpD .NotEq (.int a) (.int b) = some (!decide (a = b)) := by
  show some (!(a == b)) = _
  congr 1
@[simp] theorem b1_len_t (ds : List D) : b1D .len (.tup ds) = some (.fz, .int ds.length) := rfl
@[simp] theorem b1_len_l (ds : List D) : b1D .len (.lst ds) = some (.fz, .int ds.length) := rfl
@[simp] theorem b1_tuple_l (ds : List D) : b1D .tuple (.lst ds) = some (.fz, .tup ds) := rfl
@[simp] theorem b1_tuple_t (ds : List D) : b1D .tuple (.tup ds) = some (.fz, .tup ds) := rfl
@[simp] theorem b1_list_l (ds : List D) : b1D .list (.lst ds) = some (.fr, .lst ds) := rfl
@[simp] theorem b1_list_t (ds : List D) : b1D .list (.tup ds) = some (.fr, .lst ds) := rfl
@[simp] theorem b1_int_b (b : Bool) : b1D .int (.bl b) = some (.fz, .int (if b then 1 else 0)) := rfl
@[simp] theorem b2_min (a b : Int) : b2D .min (.int a) (.int b) = some (.fz, .int (if b < a then b else a)) := rfl
@[simp] theorem b2_max (a b : Int) : b2D .max (.int a) (.int b) = some (.fz, .int (if b > a then b else a)) := rfl
@[simp] theorem seq_t (ds : List D) : seqOf (.tup ds) = some ds := rfl
@[simp] theorem seq_l (ds : List D) : seqOf (.lst ds) = some ds := rfl
@[simp] theorem tru_b (b : Bool) : truD (.bl b) = some b := rfl
@[simp] theorem tru_t (ds : List D) : truD (.tup ds) = some (!ds.isEmpty) := rfl
@[simp] theorem isi_int_i (i : Int) : isiD .int (.int i) = some (.fz, .bl true) := rfl
@[simp] theorem isi_bool_i (i : Int) : isiD .bool (.int i) = some (.fz, .bl false) := rfl
@[simp] theorem isi_tuple_t (ds : List D) : isiD .tuple (.tup ds) = some (.fz, .bl true) := rfl
theorem atI_nat {α : Type} (xs : List α) (n : Nat) : atI xs (n : Int) = xs[n]? := by
  unfold atI ixN
  rw [if_pos (Int.natCast_nonneg n)]
  by_cases h : (n : Int) < (xs.length : Int)
  · rw [if_pos h]; simp
  · rw [if_neg h]
    have : xs.length ≤ n := by omega
    simp [List.getElem?_eq_none this]
@[simp] theorem atI_lit {α : Type} (xs : List α) (n : Nat) [OfNat Int n] (h : (OfNat.ofNat n : Int) = (n : Int)) : atI xs (OfNat.ofNat n : Int) = xs[n]? := by rw [h, atI_nat]
@[simp] theorem atI_0 {α : Type} (xs : List α) : atI xs 0 = xs[0]? := atI_nat xs 0
@[simp] theorem atI_1 {α : Type} (xs : List α) : atI xs 1 = xs[1]? := atI_nat xs 1
@[simp] theorem atI_2 {α : Type} (xs : List α) : atI xs 2 = xs[2]? := atI_nat xs 2
theorem compGo_emb {β : Type} {f : D → Option (Option D)} {em : β → D} {g : β → Option D} : ∀ {xs : List β}, (∀ x ∈ xs, f (em x) = some (g x)) → compGo f (xs.map em) = some (xs.filterMap g)
  | [], _ => rfl
  | d :: r, h => by
    rw [List.map_cons]
    unfold compGo
    rw [h d List.mem_cons_self, compGo_emb fun x hx => h x (List.mem_cons_of_mem _ hx)]
    cases e : g d with
    | none => rw [List.filterMap_cons_none e]; rfl
    | some y => rw [List.filterMap_cons_some e]; rfl
theorem loopF_fold {tg : Tg} {f : En → Option Fl} {α β : Type} {em : β → D} (R : α → En → Prop) (st : α → β → α) : ∀ (xs : List β) (s : α) (r : En), (∀ s b r, b ∈ xs → R s r → ∃ q r', bindT tg (em b) r = some q ∧ f q = some (.nx r') ∧ R (st s b) r') → R s r →
    ∃ r', loopF tg f (xs.map em) r = some (.nx r') ∧ R (xs.foldl st s) r'
  | [], s, r, _, h => ⟨r, rfl, h⟩
  | b :: xs, s, r, hs, h => by
    obtain ⟨q, r', e1, e2, h'⟩ := hs s b r List.mem_cons_self h
    obtain ⟨r2, e3, h2⟩ := loopF_fold R st xs (st s b) r' (fun s b r hb => hs s b r (List.mem_cons_of_mem _ hb)) h'
    refine ⟨r2, ?_, h2⟩
    rw [List.map_cons]
    unfold loopF
    rw [e1]
    show ((f q).bind _) = _
    rw [e2]
    exact e3
theorem loopF_foldi {tg : Tg} {f : En → Option Fl} {α β : Type} {em : β → D} (R : Nat → α → En → Prop) (st : α → β → α) : ∀ (xs : List β) (n : Nat) (s : α) (r : En), (∀ i s b r, xs[i]? = some b → R (n + i) s r → ∃ q r', bindT tg (em b) r = some q ∧ f q = some (.nx r') ∧ R (n + i + 1) (st s b) r') → R n s r →
    ∃ r', loopF tg f (xs.map em) r = some (.nx r') ∧ R (n + xs.length) (xs.foldl st s) r'
  | [], n, s, r, _, h => ⟨r, rfl, h⟩
  | b :: xs, n, s, r, hs, h => by
    obtain ⟨q, r', e1, e2, h'⟩ := hs 0 s b r rfl h
    obtain ⟨r2, e3, h2⟩ := loopF_foldi R st xs (n + 1) (st s b) r' (fun i s b r hb hr => by
      have e : n + 1 + i = n + (i + 1) := by omega
      rw [e] at hr ⊢
      exact hs (i + 1) s b r hb hr) h'
    refine ⟨r2, ?_, ?_⟩
    · rw [List.map_cons]
      unfold loopF
      rw [e1]
      show ((f q).bind _) = _
      rw [e2]
      exact e3
    · have e : n + (b :: xs).length = n + 1 + xs.length := by simp; omega
      rw [e]; exact h2
theorem rngD_0 (n : Nat) : rngD 0 n = (List.range n).map dn := by
  unfold rngD
  apply List.map_congr_left
  intro k _
  show D.int (0 + (k : Int)) = _
  rw [Int.zero_add]
theorem rngD_nat (a n : Nat) : rngD (a : Int) n = (List.range' a n).map dn := by
  unfold rngD
  rw [List.range'_eq_map_range, List.map_map]
  apply List.map_congr_left
  intro k _
  show D.int ((a : Int) + (k : Int)) = D.int ((a + k : Nat) : Int)
  rw [Int.natCast_add]
theorem rngOk_nat {n : Nat} (h : n ≤ 100000) : rngOk (n : Int) = true := by
  unfold rngOk
  exact decide_eq_true (by omega)
mutual
theorem eqD_refl : ∀ d : D, eqD d d = true
  | .non => rfl
  | .bl b => by show (b == b) = true; simp
  | .int i => by show (i == i) = true; simp
  | .str x => by show decide (x = x) = true; simp
  | .tup ds => eqDs_refl ds
  | .lst ds => eqDs_refl ds
  | .scr _ _ _ => rfl
  | .dct _ _ => rfl
theorem eqDs_refl : ∀ ds : List D, eqDs ds ds = true
  | [] => rfl
  | d :: ds => by simp [eqDs, eqD_refl d, eqDs_refl ds]
end
theorem okDs_of {n : Nat} : ∀ {ds : List D}, (∀ d ∈ ds, okD n d = true) → okDs n ds = true
  | [], _ => rfl
  | d :: ds, h => by simp [okDs, h d List.mem_cons_self, okDs_of fun x hx => h x (List.mem_cons_of_mem _ hx)]
theorem eqO_refl {d : D} (h : okD 40 d = true) : eqO d d = some true := by
  unfold eqO
  split
  · simp
  · rw [h]; simp [eqD_refl]
theorem cmpeq_refl {d : D} (h : okD 40 d = true) : cmpD .Eq d d = some true := eqO_refl h
end TW
end
section
set_option Elab.async false
set_option linter.all false
set_option maxRecDepth 100000
set_option maxHeartbeats 4000000
namespace TW
open PySem PySem.Spec PyProof.Rows L2
section
variable {P : Program} {w : World} {K : PySem.W.Frag} {mg : Str → Option Value} {base : Heap} {T : Tab} {ds : List DefT} {ex : List (Nat × SS)} {ad : Nat → Addr} {fd : Nat → FuncData}
theorem fns_of {k : Nat} (hT : T.fns = ds.map fun d => (d.name, d.ps.length)) (hF : ∀ i d, ds[i]? = some d → DefAt K mg d (ad i) (fd i))
    (ih : ∀ j d', ds[j]? = some d' → FnOk P w K mg base CX0 k (ad j) (fd j) d'.ps (spD d'.ps.length (pf K (ds.map DefT.sb ++ ex) k j))) :
    ∀ f x n, T.fns[f]? = some (x, n) → ∃ a fd ps, FnOk P w K mg base CX0 k a fd ps (spD n (pf K (ds.map DefT.sb ++ ex) k f)) ∧ mg x = some (.ref a) ∧ PySem.W.keepIn K (.ref a) = true ∧ Binds K fd ps [] := fun f x n hf => by
  rw [hT, List.getElem?_map] at hf
  obtain ⟨d', ed, e'⟩ := Option.map_eq_some_iff.mp hf
  cases e'
  have D' := hF f d' ed
  exact ⟨ad f, fd f, d'.ps, ih f d' ed, D'.mg, D'.fn.kp, D'.bind⟩
theorem prog_okS {sp : Nat → Bool} (hT : T.fns = ds.map fun d => (d.name, d.ps.length)) (hF : ∀ i d, ds[i]? = some d → DefAt K mg d (ad i) (fd i)) (hok : ∀ i d, ds[i]? = some d → i ≠ 0 → sp i = false → d.ok T = true)
    (h0 : ∀ k d, ds[0]? = some d → FnOk P w K mg base CX0 (k + 1) (ad 0) (fd 0) d.ps (spD d.ps.length (cellD K)))
    (blt : ∀ x, x ∈ bltN → mg x = none) (gls : ∀ x c, T.gls.lookup x = some c → ∀ d, cstIs d c = true → ∃ v u, mg x = some u ∧ RelV v u ∧ ∀ G, Rp G d v)
    (hsp : ∀ k i d, ds[i]? = some d → i ≠ 0 → sp i = true → (∀ k', k' ≤ k → ∀ j d', ds[j]? = some d' → FnOk P w K mg base CX0 k' (ad j) (fd j) d'.ps (spD d'.ps.length (pf K (ds.map DefT.sb ++ ex) k' j))) →
      FnOk P w K mg base CX0 (k + 1) (ad i) (fd i) d.ps (spD d.ps.length (pf K (ds.map DefT.sb ++ ex) (k + 1) i))) :
    ∀ k k', k' ≤ k → ∀ i d, ds[i]? = some d → FnOk P w K mg base CX0 k' (ad i) (fd i) d.ps (spD d.ps.length (pf K (ds.map DefT.sb ++ ex) k' i)) := by
  intro k
  induction k with
  | zero =>
    intro k' hk i d _
    obtain rfl : k' = 0 := by omega
    exact spD_none
  | succ k ih =>
    intro k' hk i d hd
    by_cases hk' : k' ≤ k
    · exact ih k' hk' i d hd
    · obtain rfl : k' = k + 1 := by omega
      by_cases hi : i = 0
      · subst hi
        have e : pf K (ds.map DefT.sb ++ ex) (k + 1) 0 = cellD K := by funext args; simp [pf]
        rw [e]
        exact h0 k d hd
      · cases hs : sp i with
        | true => exact hsp k i d hd hi hs ih
        | false =>
          have D := hF i d hd
          have ok := hok i d hd hi hs
          simp only [DefT.ok, Bool.and_eq_true] at ok
          have S := scope_ok ok.1
          have lt : i < ds.length := (List.getElem?_eq_some_iff.mp hd).1
          have e : pf K (ds.map DefT.sb ++ ex) (k + 1) i = fun args => left (evSS (pf K (ds.map DefT.sb ++ ex) k) d.body (enter ((defScope d.st).names.map (·.1)).length args)) := by
            funext args
            simp only [pf, hi, if_false]
            rw [List.getElem?_append_left (by simpa using lt)]
            simp only [List.getElem?_map, hd, Option.map_some, DefT.sb, runF, DefT.nm, List.length_map]
          rw [e]
          refine fnD (g := fun ρ => evSS (pf K (ds.map DefT.sb ++ ex) k) d.body ρ) D.fn S fun cdv A outer s H E hr => ?_
          refine sndSS d.body (T := T) (sc := (defScope d.st).names) ?_ ok.2
          have g := good_cx (CX := CX0) (P := P) (w := w) (K := K) (base := base) (qual := d.name) (f := ad i) (cdv := cdv) (A := A) (outer := outer) (s := s) (H := H) (E := E) (T := T) (p := pf K (ds.map DefT.sb ++ ex) k) S hr blt gls (fns_of hT hF (ih k (Nat.le_refl _)))
          refine ⟨⟨g.N, g.nd, g.vis, g.gl, g.loc, g.cel, g.out, g.calm, g.hu, g.blt, g.gls, g.fns⟩, ?_, PassesOwn.never⟩
          show (if (defScope d.st).kind.isAnnotationScope then ScopeKind.function else (defScope d.st).kind) = .function
          rw [S.kind]; rfl
theorem spX_none {C : Addr} {n : Nat} {f : Addr} {fd : FuncData} {ps : List Str} (hp : ps.length = n) : FnOk P w K mg base (CXr P w) 0 f fd ps (spX C n fun _ => none) := by
  refine ⟨fun vs H Q E h => ?_, fun A outer s H args us vs Q E hr he hb hv hs => ?_⟩
  · obtain ⟨G, ds, _, r, hl, _⟩ := h
    rw [r.length, hl, hp]
  · obtain ⟨G, ds, _, r, hl, e, _⟩ := hs
    cases e
end
end TW
end
section
set_option Elab.async false
set_option linter.all false
set_option maxRecDepth 100000
set_option maxHeartbeats 4000000
namespace TW
open PySem PySem.Spec PyProof.Rows L2
theorem PS.nox {X : Cx} {st : Stmt} {t : TS} (h : PS X.nox st t) : PS X st t := fun pins s σ H D I hw =>
  wpAny_mono (h pins s σ H D (I.wish _) hw) (fun _ _ q => q.unwish) fun _ _ z => False.elim z
section
variable {p : Nat → List D → Option D}
noncomputable def NoR (p : Nat → List D → Option D) (s : S) : Prop := ∀ ρ d, evS p s ρ ≠ some (.rt d)
theorem nr_asg {i : Nat} {c : C} : NoR p (.asg false i c) := fun ρ d h => by
  obtain ⟨x, _, h⟩ := bnd (show ((ev p c ρ).1.bind fun x => (frz x).map fun d => Fl.nx (ρ.set i (some (.val d)))) = some (.rt d) from h)
  obtain ⟨_, _, h⟩ := mpd h
  cases h
end
section
variable {P : Program} {w : World} {K : PySem.W.Frag} {mg : Str → Option Value} {base : Heap} {T : Tab} {p : Nat → List D → Option D} {k : Nat} {d : DefT} {f f2 : Addr} {fd fd2 : FuncData} {ps2 : List Str} {g : List D → Option D}
theorem goodS_nox {CX : CXT} {qual : Str} {cdv : Value} {A : Around} {outer : List Env} {s : Shared} {H : Hp} {E : XK} {sc : Scope} (S : FnScope (sc.names.map (·.1)) d.ps sc)
    (g : Good (cxOf CX P w K mg base (sc.names.map (·.1)) qual sc f cdv A outer s H E) T p sc.names) : GoodS (cxOf CX P w K mg base (sc.names.map (·.1)) qual sc f cdv A outer s H E).nox T p sc.names := by
  refine ⟨⟨g.N, g.nd, g.vis, g.gl, g.loc, g.cel, g.out, g.calm, g.hu, g.blt, g.gls, g.fns⟩, ?_, PassesOwn.never⟩
  show (if sc.kind.isAnnotationScope then ScopeKind.function else sc.kind) = .function
  rw [S.kind]; rfl
end
end TW
end
section
set_option Elab.async false
set_option linter.all false
set_option maxRecDepth 100000
set_option maxHeartbeats 4000000
namespace TW
open PySem PySem.Spec PyProof.Rows L2
noncomputable def FlyAt (B : Heap) (l : List Env) (e : Addr) (cls a0 : Value) (h : Heap) : Prop := ∃ fl, B.StaysIn h ∧ B.get? e = none ∧ h.FunFrames B l ∧ h.TracedAtW B e cls a0 fl
section
variable {M : Model} {A : Around} {E : Value → Shared → Prop} {s : Shared}
theorem note_any {base : Heap} {env : Env} {outer : List Env} {L e : Addr} {cls a0 : Value} {Q : Unit → Shared → Prop}
    (hfr : A.frames = some (env :: outer)) (hf : env.frame = some L) (x : FlyAt base (env :: outer) e cls a0 s.heap)
    (hQ : ∀ h', Heap.HeldW base (env :: outer) e cls a0 L h' → s.heap.UpToSlots h' → Q () { s with heap := h' }) : wpAny M A (noteFrame (.ref e) env) Q E s := by
  obtain ⟨fl, f1, f2, f3, f4⟩ := x
  by_cases hL : fl = rawInt L
  · subst hL
    exact wpAny_noteFrame_againW hf f4 (hQ s.heap ⟨f1, f2, f3, f4⟩ (.refl _))
  · obtain ⟨oe, vs, T, oT, ts, he, ⟨hcls, h0⟩, hd, h1, hnT, hTe, hT, hdT, h3⟩ := f4
    subst hcls
    unfold noteFrame
    simp only [hf]
    refine wpAny_bind (wpAny_field he hd h1 ?_)
    rw [if_pos (show (Value.ref T != Value.none) = true from by simp)]
    refine wpAny_bind (wpAny_field hT hdT h3 ?_)
    rw [if_neg (show ¬ ((fl == rawInt L) = true) from by simpa using hL)]
    refine wpAny_bind (wpAny_setField hT hdT (Array.getElem?_eq_some_iff.mp h3).1 ?_)
    have ot : ∀ b, b ≠ T → (s.heap.update T (Obj.mapFields (·.setIfInBounds 3 Value.none))).get? b = s.heap.get? b := fun b hb => Heap.get?_update_other _ _ (Ne.symm hb)
    have nr : ∀ b o, s.heap.get? b = some o → (∀ vs, o.data ≠ .fields vs) → b ≠ T := fun b o hb hnf q => by
      rw [q, hT] at hb; injection hb with hb; subst hb; exact hnf ts hdT
    exact wpAny_entryW hfr (f3.of_keeps fun b o hb hnf => ⟨o, (ot b (nr b o hb hnf)).trans hb, rfl⟩) hf ((ot e (Ne.symm hTe)).trans he)
      (fun b o hbo => (ot b fun q => by rw [q, hnT] at hbo; cases hbo).trans (f1 b o hbo)) f2 hd (Array.getElem?_eq_some_iff.mp h1).1 h0
      fun h' ⟨x1, x2, x3, x4⟩ => hQ h' ⟨x1, f2, x2, x3⟩ fun b o hb hnf => x4 b o ((ot b (nr b o hb hnf)).trans hb) hnf
theorem leaves_any {base : Heap} {env : Env} {outer : List Env} {L e : Addr} {cls a0 : Value} {Q : Unit → Shared → Prop}
    (hfr : A.frames = some (env :: outer)) (hf : env.frame = some L) (x : FlyAt base (env :: outer) e cls a0 s.heap)
    (hQ : ∀ h', Heap.FlyingW base outer e cls a0 h' → s.heap.UpToSlots h' → Q () { s with heap := h' }) : wpAny M A (leaving env (.ref e)) Q E s := by
  unfold leaving
  refine wpAny_bind (note_any hfr hf x fun h1 hh up => ?_)
  refine wpAny_landsW hh fun h2 fl up2 => ?_
  obtain ⟨k1, k2, ⟨_, _, k3⟩, k4⟩ := fl
  exact hQ h2 ⟨k1, k2, k3, k4⟩ (up.trans up2)
theorem pass_any {base : Heap} {l : List Env} {e : Addr} {cls a0 : Value} {what : String} {cenv : Env} (x : FlyAt base l e cls a0 s.heap)
    (hQ : ∀ h', FlyAt base l e cls a0 h' → s.heap.UpToSlots h' → E (.ref e) { s with heap := h' }) : wpAny M A (PySem.passOn what (.ref e) cenv : Sem Value) (fun _ _ => False) E s := by
  obtain ⟨fl, f1, f2, f3, oe, vs, T, oT, ts, he, hc, hd, h1, hnT, hTe, hT, hdT, h3⟩ := x
  have ot : ∀ v b, b ≠ T → (s.heap.update T (Obj.mapFields (·.setIfInBounds 3 v))).get? b = s.heap.get? b := fun v b hb => Heap.get?_update_other _ _ (Ne.symm hb)
  have nr : ∀ b o, s.heap.get? b = some o → (∀ vs, o.data ≠ .fields vs) → b ≠ T := fun b o hb hnf q => by
    rw [q, hT] at hb; injection hb with hb; subst hb; exact hnf ts hdT
  have sz : 3 < ts.size := (Array.getElem?_eq_some_iff.mp h3).1
  unfold PySem.passOn
  refine wpAny_bind (wpAny_field he hd h1 ?_)
  rw [if_neg (show ¬ ((Value.ref T == Value.none) = true) from by simp)]
  unfold setFlight
  refine wpAny_bind (wpAny_bind (wpAny_field he hd h1 ?_))
  rw [if_pos (show (Value.ref T != Value.none) = true from by simp)]
  refine wpAny_setField hT hdT sz (wpAny_throw (hQ _ ⟨cenv.frame.elim .none fun f => rawInt f, ?_, f2, f3.of_keeps fun b o hb hnf => ⟨o, (ot _ b (nr b o hb hnf)).trans hb, rfl⟩, ?_⟩ fun b o hb hnf => ⟨o.slots, (ot _ b (nr b o hb hnf)).trans hb⟩))
  · exact fun b o hbo => (ot _ b fun q => by rw [q, hnT] at hbo; cases hbo).trans (f1 b o hbo)
  · exact ⟨oe, vs, T, _, _, (ot _ e (Ne.symm hTe)).trans he, hc, hd, h1, hnT, hTe, Heap.get?_update_self _ hT (Obj.isFreed_of_fields (Obj.data_mapFields hdT _)), Obj.data_mapFields hdT _, by simp [sz]⟩
end
theorem frames_but {B h h' : Heap} {C : Addr} : ∀ {l : List Env}, h.FunFrames B l → C ∉ frs l → Heap.SameBut C h h' → h'.FunFrames B l
  | [], _, _, _ => trivial
  | env :: l, ⟨hk, ⟨L, o, hf, hn, ho, hd⟩, hr⟩, hc, sb => by
    rw [frs_cons hf] at hc
    exact ⟨hk, ⟨L, o, hf, hn, (sb.2 L fun z => hc (by rw [z]; exact List.mem_cons_self)).trans ho, hd⟩, frames_but hr (fun z => hc (List.mem_cons_of_mem _ z)) sb⟩
theorem fly_but {B : Heap} {l : List Env} {e C : Addr} {cls a0 : Value} {h h' : Heap} {m : Str → Option Value} (x : FlyAt B l e cls a0 h) (hB : B.get? C = none) (hl : C ∉ frs l) (hm : h.Ns C m) (sb : Heap.SameBut C h h') : FlyAt B l e cls a0 h' := by
  obtain ⟨fl, f1, f2, f3, oe, vs, T, oT, ts, he, hc, hd, h1, hnT, hTe, hT, hdT, h3⟩ := x
  obtain ⟨o, es, ep, ho, hdo, _⟩ := hm
  refine ⟨fl, fun b o q => (sb.2 b fun z => by rw [z, hB] at q; cases q).trans (f1 b o q), f2, frames_but f3 hl sb, oe, vs, T, oT, ts, (sb.2 e fun z => ?_).trans he, hc, hd, h1, hnT, hTe, (sb.2 T fun z => ?_).trans hT, hdT, h3⟩
  · rw [z, ho] at he; cases he; rw [hdo] at hd; cases hd
  · rw [z, ho] at hT; cases hT; rw [hdo] at hdT; cases hdT
noncomputable def XR (X : Cx) (E : XK) (C0 : Addr) (e : Value) (s' : Shared) : Prop := ∃ ea C a0 H' B, e = .ref ea ∧ s'.os = X.s₀.os ∧ AllBare s'.gens ∧ FlyAt B X.stack ea (.ref C) a0 s'.heap ∧ Ra X.prog X.w (frs X.outer) X.H₀ H' X.s₀.heap B ∧ SlotsAt (frs X.outer) X.s₀.heap s'.heap ∧ E (.ref C) none H' ∧
  B.get? C0 = none ∧ ∃ m, s'.heap.Ns C0 m
section
variable {P : Program} {w : World} {K : PySem.W.Frag} {mg : Str → Option Value} {base : Heap} {N : List Str} {qual : Str} {scope : Scope} {f : Addr} {cd : Value} {A : Around} {outer : List Env} {s₀ : Shared} {H₀ : Hp} {E : XK}
theorem xr_of {X : Cx} (hX : X = cxOf (CXr P w) P w K mg base N qual scope f cd A outer s₀ H₀ E) {pins : List (Addr × Obj)} {σ : L2.St} {H : Hp} {s s' : Shared} {e : Value} {C0 : Addr} {m : Str → Option Value} (I : Inv X pins σ H s) (cx : CXr X.prog X.w X.stack H s E e s')
    (hC : H C0 = none) (hm : s.heap.Ns C0 m) (hlt : X.s₀.heap.objs.size ≤ C0) (hns : C0 ∉ frs X.stack) : XR X E C0 e s' := by
  subst hX
  obtain ⟨ea, C, a0, H', B, rfl, os, bare, fl, ra, sl, hE⟩ := cx
  have efs : frs (envOfC qual scope s₀.heap.objs.size f cd :: outer) = s₀.heap.objs.size :: frs outer := frs_cons rfl outer
  have old : ∀ b o, s₀.heap.get? b = some o → b ∉ frs outer → b ∉ frs (envOfC qual scope s₀.heap.objs.size f cd :: outer) := fun b o q hb z => by
    rw [efs] at z
    rcases List.mem_cons.mp z with z | z
    · exact absurd z (Nat.ne_of_lt (Heap.lt_size q))
    · exact hb z
  have ne0 : ∀ b o, s₀.heap.get? b = some o → b ∉ [C0] := fun b o q z => by
    rw [List.mem_singleton.mp z] at q
    exact absurd (Nat.lt_of_lt_of_le (Heap.lt_size q) hlt) (Nat.lt_irrefl _)
  obtain ⟨o0, es, ep, ho0, hd0, r0⟩ := hm
  have hC' : H' C0 = none := ra.free C0 o0 ho0 hC
  refine ⟨ea, C, a0, H', PySem.W.hideAll B [C0], rfl, os.trans I.os, bare, ?_, ⟨fun b o q n hb => ?_, fun b o q hb => ?_, fun b o q n => ?_, fun b xs q => ra.tups b xs (I.base.tups b xs q), fun b o u q => ra.frzs b o u (I.base.frzs b o u q), fun b ps q => ?_, fun a o ha => ?_⟩, fun b o q hb => ?_, hE, PySem.W.hideAll_none _ (List.mem_singleton.mpr rfl), ?_⟩
  · have z := PySem.W.flyingW_base (base := PySem.W.hideAll B [C0]) (fun b o q => PySem.W.of_hideAll _ q) fl
    exact ⟨.none, z.1, z.2.1, z.2.2.1, z.2.2.2⟩
  · exact PySem.W.hideAll_get _ (ra.keep b o (I.base.keep b o q n hb (by simp [cxOf])) (I.base.free b o q n (by simp [cxOf])) (old b o q hb)) (ne0 b o q)
  · obtain ⟨o', q'⟩ := I.base.there b o q (by simp [cxOf])
    obtain ⟨o2, q2⟩ := ra.there b o' q' (old b o q hb)
    exact ⟨o2, PySem.W.hideAll_get _ q2 (ne0 b o q)⟩
  · obtain ⟨o', q'⟩ := I.base.there b o q (by simp [cxOf])
    exact ra.free b o' q' (I.base.free b o q n (by simp [cxOf]))
  · obtain ⟨m1, q1⟩ := I.base.tbls b ps q
    obtain ⟨m2, q2⟩ := ra.tbls b _ q1
    exact ⟨m1 ++ m2, by rw [← Array.append_assoc]; exact q2⟩
  · refine (ra.hok a o ha).stay (fun b u hb q => PySem.W.hideAll_get _ q fun z => ?_) (fun _ q => q) fun _ _ q => q
    have z := List.mem_singleton.mp z
    subst z
    rcases hb with rfl | hb
    · rw [hC'] at ha; cases ha
    · rw [hC'] at hb; cases hb
  · obtain ⟨_, o', q', nf⟩ := I.ok.funs.mem hb
    replace q : s₀.heap.get? b = some o := q
    obtain ⟨s1, r⟩ := I.base.slot b o q (I.ok.frf b hb) hb (by simp [cxOf])
    obtain ⟨s2, r2⟩ := sl b _ r (by rw [show frs (cxOf (CXr P w) P w K mg base N qual scope f cd A outer s₀ H₀ E).stack = _ from efs]; exact List.mem_cons_of_mem _ hb)
    exact ⟨s2, r2⟩
  · exact ⟨m, o0, es, ep, fl.1 _ _ (ra.keep C0 o0 ho0 hC hns), hd0, r0⟩
theorem xr_note {X : Cx} {E : XK} {M : Model} {C0 : Addr} {e : Value} {s : Shared} {Q : Unit → Shared → Prop} {E' : Value → Shared → Prop} (ok : X.Ok) (hst : X.stack = X.env :: X.outer) (hf : X.env.frame = some X.env.locals) (x : XR X E C0 e s) (hQ : ∀ s', XR X E C0 e s' → Q () s') : wpAny M X.A (noteFrame e X.env) Q E' s := by
  obtain ⟨ea, C, a0, H', B, rfl, os, bare, fl, ra, sl, hE, hB, m, hm⟩ := x
  refine note_any (base := B) (cls := .ref C) (a0 := a0) (by rw [← hst]; exact ok.frames) hf (by rw [← hst]; exact fl) fun h' hh up => hQ _ ⟨ea, C, a0, H', B, rfl, os, bare, ?_, ra, fun b o q hb => ?_, hE, hB, m, up.ns hm⟩
  · rw [hst]; exact ⟨_, hh.1, hh.2.1, hh.2.2.1, hh.2.2.2⟩
  · obtain ⟨_, o', q', nf⟩ := ok.funs.mem hb
    rw [q] at q'; cases q'
    obtain ⟨s1, r⟩ := sl b _ q hb
    obtain ⟨s2, r2⟩ := up b _ r nf
    exact ⟨s2, r2⟩
theorem xr_end {X : Cx} (hX : X = cxOf (CXr P w) P w K mg base N qual scope f cd A outer s₀ H₀ E) {C0 : Addr} {e : Value} {s : Shared} {h' : Heap} {what : String} {cenv : Env} {m : Str → Option Value} (ok : X.Ok) (x : XR X E C0 e s) (hl : C0 ∉ frs X.stack) (hm : s.heap.Ns C0 m) (sb : Heap.SameBut C0 s.heap h') :
    wpAny (model X.prog X.w) X.A (PySem.passOn what e cenv : Sem Value) (fun _ _ => False) X.xe { s with heap := h' } := by
  obtain ⟨ea, C, a0, H', B, rfl, os, bare, fl, ra, sl, hE, hB, _⟩ := x
  have dat : ∀ b, b ∈ frs X.outer → b ≠ C0 := fun b hb z => by
    subst hX
    exact hl (by rw [← z, show frs (cxOf (CXr P w) P w K mg base N qual scope f cd A outer s₀ H₀ E).stack = _ from frs_cons rfl outer]; exact List.mem_cons_of_mem _ hb)
  refine pass_any (fly_but fl hB hl hm sb) fun h2 fl2 up2 => ?_
  subst hX
  show wpAny (model P w) (A.deeper (envOfC qual scope s₀.heap.objs.size f cd)) (leaving (envOfC qual scope s₀.heap.objs.size f cd) (.ref ea)) _ _ _
  refine leaves_any (outer := outer) ok.frames rfl fl2 fun h3 fl3 up3 => ⟨ea, C, a0, H', B, rfl, os, bare, fl3, ra, fun b o q hb => ?_, hE⟩
  obtain ⟨_, o', q', nf⟩ := ok.funs.mem hb
  replace q' : s₀.heap.get? b = some o' := q'
  replace q : s₀.heap.get? b = some o := q
  rw [q] at q'; cases q'
  obtain ⟨s1, r⟩ := sl b _ q hb
  obtain ⟨s2, r2⟩ := up2 b _ ((sb.2 b (dat b hb)).trans r) nf
  obtain ⟨s3, r3⟩ := up3 b _ r2 nf
  exact ⟨s3, r3⟩
end
end TW
end
section
set_option Elab.async false
set_option linter.all false
set_option maxRecDepth 100000
set_option maxHeartbeats 4000000
namespace TW
open PySem PySem.Spec PyProof.Rows L2
section
variable {prog : Program} {w : World} {A : Around} {R : Result → Shared → Prop} {s : Shared}
theorem compLoop_goR {elt target iter : Expr} {ifs : List Expr} {scope : Scope} {pos : Pos} {it acc : Value} {env : Env} (I : Nat → Shared → Prop)
    (turn : ∀ n s, I n s → wpAny (model prog w) A (pyNext it) (fun r s₁ => match r with
      | none => R (.ok .next) s₁
      | some v => wpAny (model prog w) A (letOwnedTupleGo target it v) (fun _ s₀ => wpAny (model prog w) A (assign target env v) (fun _ s₂ =>
          wpAny (model prog w) A (forIn ifs true fun c r => if r = true then do let ok ← isTrue c env (eval c env); pure (ForInStep.yield ok) else pure (ForInStep.yield r)) (fun ok s₃ =>
            if ok = true then wpAny (model prog w) A (eval elt env) (fun x s₄ =>
              wpAny (model prog w) A (call (.builtin "list.append") [acc, x]) (fun _ s₅ => ∃ m, m < n ∧ I m s₅) (fun _ _ => False) s₄) (notedBy (model prog w) A env fun x s' => R (.error x) s') s₃
            else ∃ m, m < n ∧ I m s₃) (fun _ _ => False) s₂) (fun _ _ => False) s₀) (fun _ _ => False) s₁) (fun _ _ => False) s)
    (n : Nat) (h : I n s) :
    codeAny (model prog w) A (.compLoop (.ListComp elt [⟨target, iter, ifs, 0⟩] scope pos) 0 it acc env) R s := by
  refine codeAny_loop rfl I (fun n s hI => ?_) n h
  show wpAny _ A ((compTurn (.ListComp elt [⟨target, iter, ifs, 0⟩] scope pos) 0 it acc env).onRaise (fun x => do noteFrame x env; theTreesLotGoes x)) _ _ s
  refine wpAny_noted ?_
  rw [compTurn_list]
  refine wpAny_bind (wpAny_standAt (wpAny_bind (wpAny_mono (turn n s hI) (fun r s₁ h₁ => ?_) fun _ _ h' => h'.elim)))
  cases r with
  | none => exact wpAny_pure h₁
  | some v =>
    refine wpAny_bind (wpAny_mono h₁ (fun _ s₀ h₀ => ?_) fun _ _ h' => h'.elim)
    refine wpAny_bind (wpAny_mono h₀ (fun _ s₂ h₂ => wpAny_bind (wpAny_mono h₂ (fun ok s₃ h₃ => ?_) fun _ _ h' => h'.elim)) fun _ _ h' => h'.elim)
    cases ok with
    | false => exact wpAny_pure ⟨rfl, h₃⟩
    | true =>
      exact wpAny_bind (wpAny_bind (wpAny_mono h₃ (fun x s₄ h₄ => wpAny_bind (wpAny_mono h₄ (fun _ s₅ h₅ => wpAny_pure (wpAny_pure ⟨rfl, h₅⟩)) fun _ _ h' => h'.elim)) fun _ _ h' => h'))
end
noncomputable def bxe (X : Cx) (scope : Scope) (N' : List Str) (E : XK) (s : Shared) (H : Hp) (fp : List Addr) (e : Value) (s' : Shared) : Prop := ∃ pins σ H1 s1, Inv (blkX X scope N' s H fp) pins σ H1 s1 ∧ CXr X.prog X.w X.stack H1 s1 E e s'
noncomputable abbrev blkR (X : Cx) (scope : Scope) (N' : List Str) (E : XK) (s : Shared) (H : Hp) (fp : List Addr) : Cx := (blkX X scope N' s H fp).wish (bxe X scope N' E s H fp)
theorem blk_pass {X : Cx} {scope : Scope} {N' : List Str} {E : XK} {s : Shared} {H : Hp} {fp : List Addr} : Passes (CXr X.prog X.w) (blkR X scope N' E s H fp) E := fun pins σ H1 s1 e s' I cx => ⟨pins, σ, H1, s1, I.unwish, cx⟩
section
variable {P : Program} {w : World} {K : PySem.W.Frag} {mg : Str → Option Value} {base : Heap} {N : List Str} {qual : Str} {fsc : Scope} {f : Addr} {cd : Value} {A : Around} {outer : List Env} {s₀ : Shared} {H₀ : Hp} {E : XK}
variable {X : Cx} {scope : Scope} {N' : List Str} {cap : List (Option Nat)} {pins : List (Addr × Obj)} {σ : L2.St} {H : Hp} {s : Shared} {fp : List Addr}
theorem comp_loopR (hX : X = cxOf (CXr P w) P w K mg base N qual fsc f cd A outer s₀ H₀ E) {elt target iter : Expr} {ifs : List Expr} {pos : Pos} {g : TG} {tc : TT} {te : TE} {J : It} {it D : Addr} {tn : Nat → Heap → Prop} {Q : Hp → Prop} {W : Nat → Nat → L2.St → Hp → Prop} {s3 : Shared} {H3 : Hp} (I3 : Inv X pins σ H3 s3) (hf3 : ∀ b ∈ fp, FpOk X pins H3 b)
    (hg : L2.PG (blkX X scope N' s3 H3 fp) target g) (hc : PTs (blkX X scope N' s3 H3 fp) ifs tc) (he : PE (blkR X scope N' E s3 H3 fp) elt te) (T : Turn X.prog X.w X.K target J fp it tn)
    (hex : ∀ b ∈ fp, b ≠ (blkX X scope N' s3 H3 fp).env.locals ∧ b ∉ (blkX X scope N' s3 H3 fp).fs ∧ (b ∈ (blkX X scope N' s3 H3 fp).ex ∨ (blkX X scope N' s3 H3 fp).s₀.heap.objs.size ≤ b) ∧ (∀ x c, (blkX X scope N' s3 H3 fp).env.cells.lookup x = some c → c ≠ b) ∧ ∀ p ∈ (blkX X scope N' s3 H3 fp).pn, p.1 ≠ b)
    (hW : cW g tc te J D Q W) {n : Nat} {i : Nat} {σ0 : L2.St} {H0 : Hp} {s0 : Shared} (I : Inv (blkX X scope N' s3 H3 fp) [] σ0 H0 s0) (st : tn i s0.heap) (hn : ∀ b ∈ fp, H0 b = none) (w0 : W i n σ0 H0) :
    codeAny (model X.prog X.w) X.A (.compLoop (.ListComp elt [⟨target, iter, ifs, 0⟩] scope pos) 0 (.ref it) (.ref D) (blkX X scope N' s3 H3 fp).env)
      (fun r s' => match r with | .ok _ => ∃ σ' H', Inv (blkX X scope N' s3 H3 fp) [] σ' H' s' ∧ Q H' | .error e => XR X E s3.heap.objs.size e s') s0 := by
  have hcalm : (blkX X scope N' s3 H3 fp).calm = true := by subst hX; rfl
  have stat : ∀ {H' : Hp}, (∀ b ∈ fp, H' b = none) → ∀ b ∈ fp, FpOk (blkX X scope N' s3 H3 fp) [] H' b := fun hn b hb => ⟨hn b hb, (hex b hb).1, (hex b hb).2.1, (hex b hb).2.2.1, (hex b hb).2.2.2.1, fun p hp => (hex b hb).2.2.2.2 p (by simpa using hp)⟩
  have lt0 : X.s₀.heap.objs.size ≤ s3.heap.objs.size := I3.sz
  have nst : s3.heap.objs.size ∉ frs X.stack := fun z => by
    obtain ⟨_, o, ho, _⟩ := I3.stack.mem z
    exact absurd (Heap.lt_size ho) (Nat.lt_irrefl _)
  have out : ∀ e s', bxe X scope N' E s3 H3 fp e s' → notedBy (model X.prog X.w) X.A (blkX X scope N' s3 H3 fp).env (fun x s' => XR X E s3.heap.objs.size x s') e s' := by
    rintro e s' ⟨pins', σ', H1, s1, J1, cx⟩
    have J2 : Inv (blkX X scope N' s3 H3 fp) [] σ' H1 s1 := J1.pins_of fun p hp => J1.pin p (List.mem_append_left _ (by simpa using hp))
    obtain ⟨m, hm⟩ := ns_of J2
    have xr := xr_of hX (blk_back I3 hf3 J2) cx (C0 := s3.heap.objs.size) J2.free hm lt0 nst
    have hst : X.stack = X.env :: X.outer := by subst hX; rfl
    have hfr : X.env.frame = some X.env.locals := by subst hX; rfl
    show wpAny _ X.A (noteFrame e X.env) _ _ s'
    exact xr_note I3.ok hst hfr xr fun s2 x2 => x2
  refine compLoop_goR (fun n s' => ∃ i σ' H', Inv (blkX X scope N' s3 H3 fp) [] σ' H' s' ∧ tn i s'.heap ∧ (∀ b ∈ fp, H' b = none) ∧ W i n σ' H') ?_ n ⟨i, σ0, H0, I, st, hn, w0⟩
  rintro n t3 ⟨i, σ3, G3, J3, st3, fr3, w3⟩
  rcases hW i n σ3 G3 w3 with ⟨stop, qn⟩ | ⟨go, step⟩
  · refine thn (T.done (blkX X scope N' s3 H3 fp) rfl rfl rfl hcalm i [] t3 σ3 G3 _ J3 (stat fr3) st3 stop) fun r s4 ⟨hr, I4⟩ => ?_
    subst hr
    exact ⟨σ3, G3, I4, qn⟩
  · refine thn (T.item (blkX X scope N' s3 H3 fp) rfl rfl rfl hcalm i [] t3 σ3 G3 _ J3 (stat fr3) st3 go) fun r s4 ⟨u, hr, h4⟩ => ?_
    subst hr
    refine thn h4 fun _ s5 ⟨x, H5, I5, r5, y5, st5, fr5⟩ => ?_
    have I5' := I5.pinned (stat fr5) (T.obj _ _ st5)
    have again : ∀ {σ7 : L2.St} {H7 : Hp} {s7 : Shared}, Inv (blkX X scope N' s3 H3 fp) ([] ++ pinsAt fp s5.heap) σ7 H7 s7 → (∃ m', m' < n ∧ W (i + 1) m' σ7 H7) → ∃ m, m < n ∧ ∃ i σ' H', Inv (blkX X scope N' s3 H3 fp) [] σ' H' s7 ∧ tn i s7.heap ∧ (∀ b ∈ fp, H' b = none) ∧ W i m σ' H' := fun {σ7 H7 s7} I7 n7 => by
      obtain ⟨m', hm, w7⟩ := n7
      refine ⟨m', hm, i + 1, σ7, H7, I7.unpinned, T.keep _ _ _ st5 fun b hb o e => (I7.pin (b, o) (List.mem_append_right _ (List.mem_append_right _ (mem_pinsAt hb e)))).1, fun b hb => ?_, w7⟩
      obtain ⟨o, e, d⟩ := T.obj _ _ st5 b hb
      exact (I7.pin (b, o) (List.mem_append_right _ (List.mem_append_right _ (mem_pinsAt hb e)))).2.1
    refine thn (hg _ s5 σ3 H5 x u _ I5' r5 (step x H5 y5)) fun _ s6 ⟨σ6, H6, I6, q6⟩ => ?_
    refine thn (hc _ s6 σ6 H6 _ I6 q6) fun b s7 ⟨H7, I7, q7⟩ => ?_
    cases b with
    | false => exact again I7 q7
    | true =>
      rw [if_pos rfl] at q7 ⊢
      refine wpAny_mono (he _ s7 σ6 H7 _ (I7.wish _) q7) (fun y s8 ⟨v, H8, I8, r8, ys, hD, hz, q8⟩ => ?_) fun e s' hx => out e s' hx
      exact thn (mt_append _ s8 σ6 H8 (.ref D) [v] (.ref D) [y] (fun _ H9 => ∃ m', m' < n ∧ W (i + 1) m' σ6 H9) I8.unwish rfl (.cons r8 .nil) ⟨D, ys, v, rfl, rfl, hD, hz, q8⟩) fun _ s9 ⟨_, H9, I9, _, q9⟩ => again I9 q9
theorem comp_blockR (hX : X = cxOf (CXr P w) P w K mg base N qual fsc f cd A outer s₀ H₀ E) {elt target iter : Expr} {ifs : List Expr} {pos : Pos} {g : TG} {tc : TT} {te : TE} {J : It} {it : Addr} {tn : Nat → Heap → Prop} {Q : Hp → Prop}
    (B : BlkOk X scope N' cap) (hg : ∀ s H fp, L2.PG (blkX X scope N' s H fp) target g) (hc : ∀ s H fp, PTs (blkX X scope N' s H fp) ifs tc) (he : ∀ s H fp, PE (blkR X scope N' E s H fp) elt te)
    (I : Inv X pins σ H s) (T : Turn X.prog X.w X.K target J fp it tn) (st : tn 0 s.heap) (hf : ∀ b ∈ fp, FpOk X pins H b)
    (hW : ∃ W, (∃ m, W 0 m (capS σ cap) (upd H s.heap.objs.size (.lst []))) ∧ cW g tc te J s.heap.objs.size Q W) (RR : Value → Addr → Result → Shared → Prop) (E' : Value → Shared → Prop)
    (hR : ∀ H3 s3 σ' H' s' f, Inv X pins σ H3 s3 → s3.heap.objs.size = s.heap.objs.size + 1 → (∀ b ∈ fp, FpOk X pins H3 b) → Inv (blkX X scope N' s3 H3 fp) [] σ' H' s' → Q H' → RR (.ref s.heap.objs.size) s3.heap.objs.size (.ok f) s')
    (hE : ∀ H3 s3 e s', Inv X pins σ H3 s3 → XR X E s3.heap.objs.size e s' → RR (.ref s.heap.objs.size) s3.heap.objs.size (.error e) s') :
    wpAny (model X.prog X.w) X.A (newList []) (fun acc s₃ => wpAny (model X.prog X.w) X.A (newFunctionEnv scope X.env.globals (closeL X.env.cells scope.names []) [] X.env.qual none .none (some X.env)) (fun cenv s₄ =>
      codeAny (model X.prog X.w) X.A (.compStart (.ListComp elt [⟨target, iter, ifs, 0⟩] scope pos) 0 (.ref it) acc { cenv with scope := relabel scope X.env }) (RR acc cenv.locals) s₄) E' s₃) E' s := by
  obtain ⟨W, ⟨m0, w0⟩, hW⟩ := hW
  refine wpAny_newObj_type (comp_env ?_)
  have I3 : Inv X pins σ (upd H s.heap.objs.size (.lst [])) { s with heap := s.heap.push { cls := .type "list", data := .seq ([] : List Value).toArray } } := I.lnew (t' := s.toks) .nil (Nat.zero_le _)
  have hb : ∀ b ∈ fp, b < s.heap.objs.size := fun b hb => by
    obtain ⟨o, e, _⟩ := T.obj _ _ st b hb
    exact Heap.lt_size e
  have hsz : (s.heap.push { cls := .type "list", data := .seq ([] : List Value).toArray }).objs.size = s.heap.objs.size + 1 := Heap.size_push ..
  have hf3 : ∀ b ∈ fp, FpOk X pins (upd H s.heap.objs.size (.lst [])) b := fun b h => ⟨by rw [upd_ne (Nat.ne_of_lt (hb b h))]; exact (hf b h).1, (hf b h).2⟩
  have I4 := blk_start B I3 hf3 (fun b h => by rw [hsz]; exact Nat.lt_succ_of_lt (hb b h))
  have st4 : tn 0 (pushCells ((s.heap.push { cls := .type "list", data := .seq ([] : List Value).toArray }).push { cls := .type "dict", data := .dict #[] }) scope.names) :=
    T.keep _ _ _ st fun b _ o e => pushCells_keeps _ _ _ _ (Heap.get?_push_of_some _ (Heap.get?_push_of_some _ e))
  have loop := comp_loopR (iter := iter) (scope := scope) (pos := pos) hX I3 hf3 (hg _ _ _) (hc _ _ _) (he _ _ _) T (fun b h => ⟨(I4.ok.exf b h).1, I4.ok.exfs b h, .inl h, (I4.ok.exf b h).2, fun p hp => nomatch hp⟩) hW I4 st4
    (fun b h => (hf3 b h).1) w0
  have loop' := codeAny_mono loop (R' := RR (.ref s.heap.objs.size) (s.heap.push { cls := .type "list", data := .seq ([] : List Value).toArray }).objs.size) fun r s' h => by
    cases r with
    | error e => exact hE _ _ e s' I3 h
    | ok f =>
      obtain ⟨σ', H', J4, q⟩ := h
      exact hR _ _ σ' H' s' f I3 hsz hf3 J4 q
  exact codeAny_compStart_list loop' (T.self X.A 0 _ _ _ st4 loop')
theorem post_err (hX : X = cxOf (CXr P w) P w K mg base N qual fsc f cd A outer s₀ H₀ E) {H3 : Hp} {s3 s' : Shared} {e : Value} {use : Option (Value → Sem Unit)} {Q : Value → Shared → Prop} {acc : Value} (I3 : Inv X pins σ H3 s3) (x : XR X E s3.heap.objs.size e s') :
    compPost (model X.prog X.w) X.A X.xe use Q acc s3.heap.objs.size (.error e) s' := by
  have nst : s3.heap.objs.size ∉ frs X.stack := fun z => by
    obtain ⟨_, o, ho, _⟩ := I3.stack.mem z
    exact absurd (Heap.lt_size ho) (Nat.lt_irrefl _)
  obtain ⟨m, hm⟩ : ∃ m, s'.heap.Ns s3.heap.objs.size m := by
    obtain ⟨_, _, _, _, _, _, _, _, _, _, _, _, _, m, hm⟩ := x
    exact ⟨m, hm⟩
  cases use <;> exact ⟨m, hm, fun h' sb cenv _ => xr_end hX I3.ok x nst hm sb⟩
theorem pe_compR (hX : X = cxOf (CXr P w) P w K mg base N qual fsc f cd A outer s₀ H₀ E) {elt target iter : Expr} {ifs : List Expr} {pos : Pos} {wi : TI} {g : TG} {tc : TT} {te : TE} (B : BlkOk X scope N' cap) (hi : PI X target iter wi)
    (hg : ∀ s H fp, L2.PG (blkX X scope N' s H fp) target g) (hc : ∀ s H fp, PTs (blkX X scope N' s H fp) ifs tc) (he : ∀ s H fp, PE (blkR X scope N' E s H fp) elt te)
    (hs : ∀ x, foldedSetIterable iter X.env x = pure x) : PE X (.ListComp elt [⟨target, iter, ifs, 0⟩] scope pos) (tComp wi g tc te cap) := by
  intro pins s σ H Q I h
  rw [eval_ListComp]
  refine wpAny_comprehension_free (use := none) rfl hs (closure_eq fun n hn => I.ok.has n (B.out n hn)) B.kind (hnames_of B) (thn (hi pins s σ H _ I h) fun x s1 h1 => thn h1 fun itv s2 h2 => ?_)
  obtain ⟨it, fp, tn, J, H2, e, I2, T, st2, f2, R⟩ := h2
  subst e
  refine comp_blockR hX B hg hc he I2 T st2 f2 (R _ I2.fresh) (fun acc C => compPost (model X.prog X.w) X.A X.xe none (EP X pins σ Q) acc C) _ ?_ fun H3 s3 e s' I3 x => post_err hX I3 x
  intro H3 s3 σ' H' s' f I3 hsz hf3 J4 q
  obtain ⟨m, hm⟩ := ns_of J4
  have I4 := blk_back I3 hf3 J4
  refine ⟨m, hm, fun h' sb => ⟨.ref s2.heap.objs.size, H', ?_, rfl, q⟩⟩
  have fC : FpOk X pins H' s3.heap.objs.size := I3.fpOk (Nat.le_refl _) J4.free
  exact I4.turned (t' := s'.toks) (fun b o hb e => sb.extBut b o hb e) fC.1 fC.2.1 fC.2.2.2.1 fC.2.2.2.2.1 fC.2.2.2.2.2
theorem ps_compR (hX : X = cxOf (CXr P w) P w K mg base N qual fsc f cd A outer s₀ H₀ E) {elt target iter : Expr} {ifs : List Expr} {pos spos py : Pos} {y : Str} {wi : TI} {g : TG} {tc : TT} {te : TE} (B : BlkOk X scope N' cap) (hi : PI X target iter wi)
    (hg : ∀ s H fp, L2.PG (blkX X scope N' s H fp) target g) (hc : ∀ s H fp, PTs (blkX X scope N' s H fp) ifs tc) (he : ∀ s H fp, PE (blkR X scope N' E s H fp) elt te)
    (hs : ∀ x, foldedSetIterable iter X.env x = pure x)
    (hsw : swapsWith (.ListComp elt [⟨target, iter, ifs, 0⟩] scope pos) (some (.Name y py)) spos.line X.env = pure true) :
    PS X (.Assign [.Name y py] (.ListComp elt [⟨target, iter, ifs, 0⟩] scope pos) spos) (fun _ σ H => tComp wi g tc te cap σ H fun _ _ => False) := by
  intro pins s σ H D I h
  rw [exec_Assign_Name_used _ _ _ _ hsw]
  refine wpAny_bind (wpAny_standAt (wpAny_bind ?_))
  show wpAny _ X.A (do let _ ← comprehension (.ListComp elt [⟨target, iter, ifs, 0⟩] scope pos) scope X.env _ (newList []) false (eval iter X.env) (some (assign (.Name y py) X.env))) _ _ s
  refine wpAny_bind (wpAny_mono (wpAny_comprehension_free (use := some (assign (.Name y py) X.env)) (Q := fun _ s' => SP X pins D .next s') rfl hs (closure_eq fun n hn => I.ok.has n (B.out n hn)) B.kind (hnames_of B)
    (thn (hi pins s σ H _ I h) fun x s1 h1 => thn h1 fun itv s2 h2 => ?_)) (fun _ s' hq => wpAny_pure (wpAny_pure hq)) fun _ _ e => e)
  obtain ⟨it, fp, tn, J, H2, e, I2, T, st2, f2, R⟩ := h2
  subst e
  refine comp_blockR hX B hg hc he I2 T st2 f2 (R _ I2.fresh) (fun acc C => compPost (model X.prog X.w) X.A X.xe (some (assign (.Name y py) X.env)) (fun _ s' => SP X pins D .next s') acc C) _ ?_ fun H3 s3 e s' I3 x => post_err hX I3 x
  intro H3 s3 σ' H' s' f I3 hsz hf3 J4 q
  exact q.elim
end
end TW
end
section
set_option Elab.async false
set_option linter.all false
set_option maxRecDepth 100000
set_option maxHeartbeats 4000000
namespace TW
open PySem PySem.Spec PyProof.Rows L2
noncomputable def xX (ga : En → Option (Kd × D)) (gX : List D → Option D) (E : XK) (C : Addr) : TE := fun σ H _ => ∃ ρ x d G, ga ρ = some x ∧ TW.frz x = some d ∧ gX [d] = some (.bl true) ∧ SR G H σ ρ ∧ ∀ H' G', Ext G H G' H' → E (.ref C) none H'
theorem pe_or {X : Cx} {e : Expr} {t t' : TE} (h : PE X e t) (h' : PE X e t') : PE X e (fun σ H Q => t σ H Q ∨ t' σ H Q) := fun pins s σ H Q I q => q.elim (h pins s σ H Q I) (h' pins s σ H Q I)
theorem pe_never {X : Cx} {e : Expr} : PE X e (fun _ _ _ => False) := fun pins s σ H Q I q => q.elim
section
variable {k : Nat} {f2 C : Addr} {fd2 : FuncData} {ps2 : List Str} {gX : List D → Option D} {E : XK}
theorem pe_callX {Y : Cx} {y : Str} {arg : Expr} {ga : En → Option (Kd × D)} {yp cp : Pos} (F2 : FnOk Y.prog Y.w Y.K Y.mg Y.base (CXr Y.prog Y.w) k f2 fd2 ps2 (spX C 1 gX)) (hr : Room k Y.A) (hgy : Gl Y y) (hm2 : Y.mg y = some (.ref f2)) (hk2 : PySem.W.keepIn Y.K (.ref f2) = true) (hb2 : Binds Y.K fd2 ps2 [])
    (hx : Passes (CXr Y.prog Y.w) Y E) (ha : DE Y arg ga) (hyd : (y == ("__debug__" : Str)) = false) (hs : starEach [arg] Y.env = [(false, eval arg Y.env)]) : PE Y (.Call (.Name y yp) [arg] [] cp) (xX ga gX E C) := by
  intro pins s σ H Q I h
  obtain ⟨ρ, x, d, G, e1, e2, e3, sr, hE⟩ := h
  refine pe_call (CX := CXr Y.prog Y.w) (E := E) (sp := spX C 1 gX) F2 hr hgy hm2 hk2 hb2 .nil hx (pa_cons (ha ρ x e1) pa_nil hs) hyd hs rfl pins s σ H Q I ?_
  refine ⟨G, sr, fun v H1 G1 x1 r1 => ?_⟩
  obtain ⟨G2, x2, _, rp⟩ := r1.frz x1 e2
  exact ⟨G2, [d], ⟨x2.gh, (sr.ext x2).tb⟩, ⟨v, [], rfl, rp, rfl⟩, rfl, e3, fun H' G' x3 => hE H' G' (x2.trans x3)⟩
theorem tD_compR {gi : Kd × List D} {ga ge : En → Option (Kd × D)} {cap : List (Option Nat)} {tg : Tg} {ρ : En} {pre post l : List D} {d0 d1 : D} {q0 : En} {x0 : Kd × D} (hl : gi.2.length ≤ lim) (hft : freeT cap tg = true)
    (nd : ∀ (i j k : Nat), cap[i]? = some (some k) → cap[j]? = some (some k) → i = j) (hsp : gi.2 = pre ++ d0 :: post)
    (hgo : compGo (fun d => (bindT tg d (TW.capt ρ cap)).bind fun q => ((ge q).bind TW.frz).map some) pre = some l)
    (hb0 : bindT tg d0 (TW.capt ρ cap) = some q0) (ha0 : ga q0 = some x0) (hf0 : TW.frz x0 = some d1) (hx0 : gX [d1] = some (.bl true)) :
    ∀ σ H Q, (∃ G, SR G H σ ρ ∧ ∀ H' G', Ext G H G' H' → E (.ref C) none H') → tComp (tDI ρ gi) (tDG tg) (xT fun _ => some true) (fun σ H Q => xE ge σ H Q ∨ xX ga gX E C σ H Q) cap σ H Q := by
  rintro σ H Q ⟨G, s, hE⟩
  refine ⟨G, s, fun J H1 G1 x1 it1 _ A hA => ?_⟩
  refine ⟨fun i m σ' H' => m = pre.length + 1 - i ∧ i ≤ pre.length ∧ ∃ G' ys out rest, Ext G1 H1 G' H' ∧ H' A = some (.lst ys) ∧ G' A = none ∧ Rps G' out ys ∧ out.length ≤ i ∧ l = out ++ rest ∧
      compGo (fun d => (bindT tg d (TW.capt ρ cap)).bind fun q => ((ge q).bind TW.frz).map some) (pre.drop i) = some rest ∧ SR0 G' H1 σ' (TW.capt ρ cap), ?_, ?_⟩
  · refine ⟨pre.length + 1, rfl, Nat.zero_le _, G1, [], [], l, Ext.grown x1.gh hA _, upd_same, x1.gh.free hA, rfl, Nat.le_refl _, rfl, hgo, ?_⟩
    exact SR.capt (s.ext x1).toSR0 cap nd
  · rintro i m σ' H' ⟨rfl, hi, G', ys, out, rest, xx, hD, hG, rs, ho, el, go, sr⟩
    have P : Same G1 G' ∧ Same G' H' ∧ Same H1 H' := ⟨xx.gg, xx.gh, xx.hh⟩
    have noA : ∀ {G3 H3 : Hp}, Ext G' H' G3 H3 → G3 A = none := fun {G3 H3} x3 => by
      cases z : G3 A with
      | none => rfl
      | some o =>
        rcases x3.nw A o z with y | y
        · rw [hG] at y; cases y
        · rw [hD] at y; cases y
    right
    by_cases hlt : i < pre.length
    · have ed : gi.2[i]? = some pre[i] := by rw [hsp, List.getElem?_append_left hlt]; simp [hlt]
      have hli : i < gi.2.length := (List.getElem?_eq_some_iff.mp ed).1
      obtain ⟨jgo, jy⟩ := (it1 i G' H' P).1 _ ed
      refine ⟨jgo, fun x H2 hy => ?_⟩
      obtain ⟨G2, x2, rx⟩ := jy x H2 hy
      rw [List.drop_eq_getElem_cons hlt] at go
      obtain ⟨o, eo, go⟩ := bnd go
      obtain ⟨rest', er, go⟩ := mpd go
      obtain ⟨q1, eb, eo⟩ := bnd eo
      refine ⟨G2, _, x2.gh, rx, bindT_len eb, fun σ2 bd => ?_⟩
      have xx2 := xx.trans x2
      have sr2 : SR0 G2 H1 σ2 q1 := SR0.bound (sr.mono x2.gg (Same.refl _) fun b o e => (x2.nw b o e).elim .inl fun z => .inr (xx.hh.free z)) bd eb
      have srH : SR G2 H2 σ2 q1 := ⟨sr2.mono (Same.refl _) xx2.hh fun b o e => .inl e, x2.gh, s.tb.mono (x1.gg.trans (xx.gg.trans x2.gg))⟩
      refine ⟨q1, true, rfl, G2, srH, fun H3 G3 x3 => ?_⟩
      have sr3 : SR0 G3 H1 σ2 (TW.capt ρ cap) := SR0.unbound (sr2.mono x3.gg (Same.refl _) fun b o e => (x3.nw b o e).elim .inl fun z => .inr ((xx2.hh).free z)) eb hft
      obtain ⟨d', ed', rfl⟩ := mpd eo
      obtain ⟨y, ey, ef⟩ := bnd ed'
      subst go
      refine iteT (.inl ⟨q1, y, ey, G3, srH.ext x3, fun v H4 G4 x4 r4 => ?_⟩)
      obtain ⟨G5, x5, s5, rp⟩ := r4.frz x4 ef
      have x25 := (x2.trans x3).trans x5
      have hD4 := x25.hh _ _ hD
      have hG5 := noA x25
      refine ⟨ys, hD4, ?_, _, ?_, rfl, hlt, G5, ys ++ [v], out ++ [d'], rest', ?_, upd_same, hG5, Rps.append (Rps.mono x25.gg _ _ rs) (Rps.cons rp Rps.nil), ?_, ?_, er, ?_⟩
      · rw [rs.length]
        exact Nat.lt_of_lt_of_le (Nat.lt_of_le_of_lt ho (Nat.lt_of_lt_of_le hli hl)) lim_line
      · omega
      · have xx5 := xx.trans x25
        refine ⟨xx5.gg, fun b o e => ?_, fun b o e => ?_, xx5.nw⟩
        · rw [upd_ne (ne_of_none e hA)]; exact xx5.hh _ _ e
        · rw [upd_ne (ne_of_none e hG5)]; exact xx5.gh _ _ e
      · simp; omega
      · rw [el]; simp
      · exact sr3.mono (x5.gg) (Same.refl _) fun b o e => (x5.nw b o e).elim .inl fun z => .inr ((xx2.trans x3).hh.free z)
    · have e : i = pre.length := by omega
      subst e
      have ed : gi.2[pre.length]? = some d0 := by rw [hsp]; simp
      obtain ⟨jgo, jy⟩ := (it1 _ G' H' P).1 _ ed
      refine ⟨jgo, fun x H2 hy => ?_⟩
      obtain ⟨G2, x2, rx⟩ := jy x H2 hy
      refine ⟨G2, _, x2.gh, rx, bindT_len hb0, fun σ2 bd => ?_⟩
      have xx2 := xx.trans x2
      have sr2 : SR0 G2 H1 σ2 q0 := SR0.bound (sr.mono x2.gg (Same.refl _) fun b o e => (x2.nw b o e).elim .inl fun z => .inr (xx.hh.free z)) bd hb0
      have srH : SR G2 H2 σ2 q0 := ⟨sr2.mono (Same.refl _) xx2.hh fun b o e => .inl e, x2.gh, s.tb.mono (x1.gg.trans (xx.gg.trans x2.gg))⟩
      refine ⟨q0, true, rfl, G2, srH, fun H3 G3 x3 => iteT (.inr ⟨q0, x0, d1, G3, ha0, hf0, hx0, srH.ext x3, fun H' G' x4 => hE H' G' ?_⟩)⟩
      exact x1.trans (xx2.trans (x3.trans x4))
end
noncomputable def CR (p : Nat → List D → Option D) (gX : List D → Option D) (cap : List (Option Nat)) (tg : Tg) (it : CI) (fi : Nat) (a : C) (ρ : En) : Prop :=
  ∃ gi pre d0 post l q0 x d, evI p it ρ = some gi ∧ gi.2.length ≤ lim ∧ freeT cap tg = true ∧ gi.2 = pre ++ d0 :: post ∧
    compGo (fun d => (bindT tg d (TW.capt ρ cap)).bind fun q => ((ev p (.call fi (slice [a])) q).1.bind TW.frz).map some) pre = some l ∧ bindT tg d0 (TW.capt ρ cap) = some q0 ∧ (ev p a q0).1 = some x ∧ TW.frz x = some d ∧ gX [d] = some (.bl true)
section
variable {P : Program} {w : World} {K : PySem.W.Frag} {mg : Str → Option Value} {base : Heap} {N : List Str} {qual : Str} {fsc : Scope} {f : Addr} {cd : Value} {A : Around} {outer : List Env} {s₀ : Shared} {H₀ : Hp} {E : XK}
variable {X : Cx} {T : Tab} {p : Nat → List D → Option D} {sc : Sc} {k : Nat} {f2 C : Addr} {fd2 : FuncData} {ps2 : List Str} {gX : List D → Option D} {cap : List (Option Nat)} {tg : Tg} {it : CI} {fi : Nat} {a : TW.C} {y : Str} {arg target iter : Expr} {scope : Scope} {yp cp pos : Pos}
theorem good_wish {Y : Cx} {sc : Sc} {F : Value → Shared → Prop} (g : Good Y T p sc) : Good (Y.wish F) T p sc := ⟨g.N, g.nd, g.vis, g.gl, g.loc, g.cel, g.out, g.calm, g.hu, g.blt, g.gls, g.fns⟩
structure CrOk (T : Tab) (sc : Sc) (cap : List (Option Nat)) (tg : Tg) (it : CI) (fi : Nat) (a : TW.C) (y : Str) (arg target iter : Expr) (scope : Scope) : Prop where
  blk : blkIs sc cap scope = true
  set : isSet iter = false
  tgt : chkT scope.names tg target = true
  tgi : tgI it target = true
  itr : chkI T it sc iter = true
  gly : glob scope.names y = true
  dbg : notDbg y = true
  str : isStar arg = false
  ar : chk T a scope.names arg = true
  elt : chk T (.call fi (slice [a])) scope.names (.Call (.Name y yp) [arg] [] cp) = true
theorem cr_ok (h : chk T (.comp cap tg it .no (.call fi (slice [a]))) sc (.ListComp (.Call (.Name y yp) [arg] [] cp) [⟨target, iter, [], 0⟩] scope pos) = true) : CrOk (yp := yp) (cp := cp) T sc cap tg it fi a y arg target iter scope := by
  replace h := ofO_true h
  obtain ⟨⟨elt, gs, scope'⟩, e1, h⟩ := h
  cases e1
  replace h := ofO_true h
  obtain ⟨⟨target', iter', ifs, isa⟩, e2, h⟩ := h
  cases e2
  simp only [Bool.and_eq_true, decide_eq_true_eq, Bool.not_eq_true'] at h
  obtain ⟨⟨⟨⟨⟨⟨⟨_, hb⟩, hs⟩, ht⟩, hti⟩, hi⟩, hc⟩, he⟩ := h
  have he' := he
  replace he := ofO_true he
  obtain ⟨⟨x, es⟩, e1, h⟩ := he
  cases e1
  simp only [Bool.and_eq_true] at h
  obtain ⟨⟨⟨⟨h0, h1⟩, h2⟩, h3⟩, h4⟩ := h
  have h4' : (!isStar arg && chk T a scope.names arg && chkA T .nil scope.names []) = true := h4
  simp only [Bool.and_eq_true, Bool.not_eq_true'] at h4'
  exact ⟨hb, hs, ht, hti, hi, h2, h3, h4'.1.1, h4'.1.2, he'⟩
theorem cr_te (hX : X = cxOf (CXr P w) P w K mg base N qual fsc f cd A outer s₀ H₀ E) (g : Good X T p sc) (c : CrOk (yp := yp) (cp := cp) T sc cap tg it fi a y arg target iter scope)
    (F2 : FnOk P w K mg base (CXr P w) k f2 fd2 ps2 (spX C 1 gX)) (hr : Room k X.A) (hm2 : mg y = some (.ref f2)) (hk2 : PySem.W.keepIn K (.ref f2) = true) (hb2 : Binds K fd2 ps2 []) (s : Shared) (H : Hp) (fp : List Addr) :
    PE (blkR X scope (scope.names.map (·.1)) E s H fp) (.Call (.Name y yp) [arg] [] cp) (fun σ H Q => xE (fun q => (ev p (.call fi (slice [a])) q).1) σ H Q ∨ xX (fun q => (ev p a q).1) gX E C σ H Q) := by
  have b := blk_of c.blk
  have gY : Good (blkR X scope (scope.names.map (·.1)) E s H fp) T p scope.names := good_wish (b.good g s H fp)
  subst hX
  exact pe_or (snd (.call fi (slice [a])) gY c.elt).e.x (pe_callX F2 hr (gY.glob c.gly) hm2 hk2 hb2 blk_pass (snd a gY c.ar).e (dbg1 c.dbg).1 (star1 c.str _ _))
theorem pe_cr (hX : X = cxOf (CXr P w) P w K mg base N qual fsc f cd A outer s₀ H₀ E) (g : Good X T p sc) (h : chk T (.comp cap tg it .no (.call fi (slice [a]))) sc (.ListComp (.Call (.Name y yp) [arg] [] cp) [⟨target, iter, [], 0⟩] scope pos) = true)
    (F2 : FnOk P w K mg base (CXr P w) k f2 fd2 ps2 (spX C 1 gX)) (hr : Room k X.A) (hm2 : mg y = some (.ref f2)) (hk2 : PySem.W.keepIn K (.ref f2) = true) (hb2 : Binds K fd2 ps2 []) {ρ : En} (cr : CR p gX cap tg it fi a ρ) :
    PE X (.ListComp (.Call (.Name y yp) [arg] [] cp) [⟨target, iter, [], 0⟩] scope pos) (fun σ H Q => ∃ G, SR G H σ ρ ∧ ∀ H' G', Ext G H G' H' → E (.ref C) none H') := by
  have c := cr_ok h
  have b := blk_of c.blk
  obtain ⟨gi, pre, d0, post, l, q0, x, d, e1, e2, e3, e4, e5, e6, e7, e8, e9⟩ := cr
  exact pe_imp (pe_compR hX (b.ok g) (sndI it g c.itr _ c.tgi ρ gi e1) (fun s H fp => dg_ok (b.good g s H fp) c.tgt) (fun s H fp => dts_nil.x) (cr_te hX g c F2 hr hm2 hk2 hb2) (noset c.set X.env)) fun σ H Q q => tD_compR e2 e3 b.inj e4 e5 e6 e7 e8 e9 σ H Q q
theorem ps_cr (hX : X = cxOf (CXr P w) P w K mg base N qual fsc f cd A outer s₀ H₀ E) (g : Good X T p sc) {z : Str} {zp sp : Pos} (h : chk T (.comp cap tg it .no (.call fi (slice [a]))) sc (.ListComp (.Call (.Name y yp) [arg] [] cp) [⟨target, iter, [], 0⟩] scope pos) = true)
    (F2 : FnOk P w K mg base (CXr P w) k f2 fd2 ps2 (spX C 1 gX)) (hr : Room k X.A) (hm2 : mg y = some (.ref f2)) (hk2 : PySem.W.keepIn K (.ref f2) = true) (hb2 : Binds K fd2 ps2 []) {ρ : En} (cr : CR p gX cap tg it fi a ρ)
    (hsw : swapsWith (.ListComp (.Call (.Name y yp) [arg] [] cp) [⟨target, iter, [], 0⟩] scope pos) (some (.Name z zp)) sp.line X.env = pure true) :
    PS X (.Assign [.Name z zp] (.ListComp (.Call (.Name y yp) [arg] [] cp) [⟨target, iter, [], 0⟩] scope pos) sp) (fun _ σ H => ∃ G, SR G H σ ρ ∧ ∀ H' G', Ext G H G' H' → E (.ref C) none H') := by
  have c := cr_ok h
  have b := blk_of c.blk
  obtain ⟨gi, pre, d0, post, l, q0, x, d, e1, e2, e3, e4, e5, e6, e7, e8, e9⟩ := cr
  exact ps_imp (ps_compR hX (b.ok g) (sndI it g c.itr _ c.tgi ρ gi e1) (fun s H fp => dg_ok (b.good g s H fp) c.tgt) (fun s H fp => dts_nil.x) (cr_te hX g c F2 hr hm2 hk2 hb2) (noset c.set X.env) hsw) fun D σ H q => tD_compR e2 e3 b.inj e4 e5 e6 e7 e8 e9 σ H _ q
end
noncomputable def evid (cap : List (Option Nat)) (tg : Tg) (it : CI) (fi xi : Nat) (a : C) : C := .b1 .any (.comp cap tg it .no (.orr (.call xi (slice [a])) (.cmp .Is (.call fi (slice [a])) (.cst .non))))
noncomputable def anyX (cap : List (Option Nat)) (tg : Tg) (it : CI) (xi : Nat) (a : C) : C := .b1 .any (.comp cap tg it .no (.call xi (slice [a])))
theorem call1 {p : Nat → List D → Option D} {i : Nat} {a : C} {q : En} {z : Kd × D} (h : (ev p (.call i (slice [a])) q).1 = some z) : ∃ x d r, (ev p a q).1 = some x ∧ TW.frz x = some d ∧ p i [d] = some r ∧ z = (.fz, r) := by
  obtain ⟨ds, e1, h⟩ := bnd (show ((evA p (slice [a]) q).bind fun ds => (p i ds).map fun d => (Kd.fz, d)) = some z from h)
  obtain ⟨r, e2, rfl⟩ := mpd h
  obtain ⟨d, e3, e1⟩ := bnd (show (((ev p a q).1.bind TW.frz).bind fun d => (some []).map fun q => d :: q) = some ds from e1)
  cases e1
  obtain ⟨x, e4, e5⟩ := bnd e3
  exact ⟨x, d, r, e4, e5, e2, rfl⟩
theorem first_raise {p : Nat → List D → Option D} {cap : List (Option Nat)} {tg : Tg} {ρ : En} {fi xi : Nat} {a : C} : ∀ (ds l1 l2 : List D) (bs : List Bool),
    compGo (fun d => (bindT tg d (TW.capt ρ cap)).bind fun q => (some true).bind fun k => if k then ((ev p (.orr (.call xi (slice [a])) (.cmp .Is (.call fi (slice [a])) (.cst .non))) q).1.bind TW.frz).map some else some none) ds = some l1 →
    compGo (fun d => (bindT tg d (TW.capt ρ cap)).bind fun q => (some true).bind fun k => if k then ((ev p (.call xi (slice [a])) q).1.bind TW.frz).map some else some none) ds = some l2 → boolsOf l2 = some bs → bs.any id = true →
    ∃ pre d0 post l q0 x d, ds = pre ++ d0 :: post ∧ compGo (fun d => (bindT tg d (TW.capt ρ cap)).bind fun q => ((ev p (.call fi (slice [a])) q).1.bind TW.frz).map some) pre = some l ∧ bindT tg d0 (TW.capt ρ cap) = some q0 ∧ (ev p a q0).1 = some x ∧ TW.frz x = some d ∧ p xi [d] = some (.bl true)
  | [], l1, l2, bs, _, h2, hb, ha => by
    cases h2; cases hb; cases ha
  | d :: ds, l1, l2, bs, h1, h2, hb, ha => by
    obtain ⟨o1, eo1, h1⟩ := bnd h1
    obtain ⟨r1, er1, h1⟩ := mpd h1
    obtain ⟨q1, eb1, eo1⟩ := bnd eo1
    change ((ev p (.orr (.call xi (slice [a])) (.cmp .Is (.call fi (slice [a])) (.cst .non))) q1).1.bind TW.frz).map some = some o1 at eo1
    obtain ⟨y1, ey1, rfl⟩ := mpd eo1
    obtain ⟨z1, ez1, ef1⟩ := bnd ey1
    obtain ⟨o2, eo2, h2⟩ := bnd h2
    obtain ⟨r2, er2, h2⟩ := mpd h2
    obtain ⟨q2, eb2, eo2⟩ := bnd eo2
    rw [eb1] at eb2
    cases eb2
    change ((ev p (.call xi (slice [a])) q1).1.bind TW.frz).map some = some o2 at eo2
    obtain ⟨y2, ey2, rfl⟩ := mpd eo2
    obtain ⟨z2, ez2, ef2⟩ := bnd ey2
    obtain ⟨x, dd, r, ex, ef, er, rfl⟩ := call1 ez2
    have hy2 : y2 = r := (Option.some.inj ef2).symm
    subst hy2
    subst h2
    obtain ⟨b, rfl⟩ : ∃ b, y2 = .bl b := by cases y2 <;> first | exact no_some hb | exact ⟨_, rfl⟩
    obtain ⟨bs', hb', rfl⟩ := mpd (show (boolsOf r2).map (b :: ·) = some bs from hb)
    cases b with
    | true => exact ⟨[], d, ds, [], q1, x, dd, rfl, rfl, eb1, ex, ef, er⟩
    | false =>
      have ha' : bs'.any id = true := by simpa using ha
      obtain ⟨pre, d0, post, l, q0, x', d', e1, e2, e3, e4, e5, e6⟩ := first_raise ds _ _ bs' er1 er2 hb' ha'
      have ez1' : ((ev p (.call xi (slice [a])) q1).1.bind fun x => match x.2 with | .bl true => some (Kd.fz, D.bl true) | .bl false => (ev p (.cmp .Is (.call fi (slice [a])) (.cst .non)) q1).1 | _ => none) = some z1 := ez1
      rw [ez2] at ez1'
      have ez3 : ((ev p (.call fi (slice [a])) q1).1.bind fun x => (some (Kd.fz, D.non)).bind fun y => (cmpD .Is x.2 y.2).map fun b => (Kd.fz, D.bl b)) = some z1 := ez1'
      obtain ⟨u, eu, _⟩ := bnd ez3
      obtain ⟨_, _, ru, _, _, _, rfl⟩ := call1 eu
      refine ⟨d :: pre, d0, post, ru :: l, q0, x', d', by rw [e1]; rfl, ?_, e3, e4, e5, e6⟩
      show ((bindT tg d (TW.capt ρ cap)).bind fun q => ((ev p (.call fi (slice [a])) q).1.bind TW.frz).map some).bind _ = _
      rw [eb1]
      show (((ev p (.call fi (slice [a])) q1).1.bind TW.frz).map some).bind _ = _
      rw [eu]
      show (some (some ru)).bind _ = _
      show (compGo _ pre).map _ = _
      rw [e2]
      rfl
theorem any_inv {p : Nat → List D → Option D} {c : C} {ρ : En} {b : Bool} (h : (ev p (.b1 .any c) ρ).2 = some b) : ∃ k l bs, (ev p c ρ).1 = some (k, .lst l) ∧ boolsOf l = some bs ∧ b = bs.any id := by
  obtain ⟨⟨k2, z⟩, e1, h⟩ := bnd (show ((ev p c ρ).1.bind fun x => b1D .any x.2).bind (fun x => truD x.2) = some b from h)
  obtain ⟨⟨k, x⟩, e2, e1⟩ := bnd e1
  obtain ⟨l, rfl⟩ : ∃ l, x = .lst l := by cases x <;> first | exact no_some e1 | exact ⟨_, rfl⟩
  obtain ⟨bs, e3, e4⟩ := mpd (show (boolsOf l).map (fun l => (Kd.fz, D.bl (l.any id))) = some (k2, z) from e1)
  cases e4
  cases h
  exact ⟨k, l, bs, e2, e3, rfl⟩
theorem comp_inv {p : Nat → List D → Option D} {cap : List (Option Nat)} {tg : Tg} {it : CI} {e : C} {ρ : En} {k : Kd} {l : List D} (h : (ev p (.comp cap tg it .no e) ρ).1 = some (k, .lst l)) :
    ∃ gi, evI p it ρ = some gi ∧ gi.2.length ≤ lim ∧ freeT cap tg = true ∧ compGo (fun d => (bindT tg d (TW.capt ρ cap)).bind fun q => (some true).bind fun k => if k then ((ev p e q).1.bind TW.frz).map some else some none) gi.2 = some l := by
  obtain ⟨gi, e1, h⟩ := bnd (show ((evI p it ρ).bind fun ds => if ds.2.length ≤ lim ∧ freeT cap tg = true then
      (compGo (fun d => (bindT tg d (TW.capt ρ cap)).bind fun q => (some true).bind fun k => if k then ((ev p e q).1.bind TW.frz).map some else some none) ds.2).map fun l => (Kd.fr, D.lst l) else none) = some (k, .lst l) from h)
  split at h
  case isFalse => cases h
  rename_i h1
  obtain ⟨l', e2, e3⟩ := mpd h
  cases e3
  exact ⟨gi, e1, h1.1, h1.2, e2⟩
theorem cr_of {p : Nat → List D → Option D} {cap : List (Option Nat)} {tg : Tg} {it : CI} {fi xi : Nat} {a : C} {ρ : En} {b : Bool} (h1 : (ev p (evid cap tg it fi xi a) ρ).2 = some b) (h2 : (ev p (anyX cap tg it xi a) ρ).2 = some true) : CR p (p xi) cap tg it fi a ρ := by
  obtain ⟨k1, l1, b1, e1, _, _⟩ := any_inv h1
  obtain ⟨k2, l2, b2, e2, hb2, ha2⟩ := any_inv h2
  obtain ⟨gi, f1, f2, f3, f4⟩ := comp_inv e1
  obtain ⟨gi', g1, g2, g3, g4⟩ := comp_inv e2
  rw [f1] at g1
  cases g1
  obtain ⟨pre, d0, post, l, q0, x, d, z1, z2, z3, z4, z5, z6⟩ := first_raise _ _ _ _ f4 g4 hb2 ha2.symm
  exact ⟨gi, pre, d0, post, l, q0, x, d, f1, f2, f3, z1, z2, z3, z4, z5, z6⟩
end TW
end
section
set_option Elab.async false
set_option linter.all false
set_option maxRecDepth 100000
set_option maxHeartbeats 4000000
namespace TW
open PySem PySem.Spec PyProof.Rows L2
section
variable {P : Program} {w : World} {K : PySem.W.Frag} {mg : Str → Option Value} {base : Heap} {T : Tab} {p : Nat → List D → Option D} {k : Nat} {d : DefT} {f f2 f3 : Addr} {fd fd2 fd3 : FuncData} {ps2 ps3 : List Str} {g gX gY : List D → Option D}
theorem noSame (H : Hp) : Same (fun _ => none) H := fun b o z => by cases (show (none : Option HO) = some o from z)
theorem try_calm {X : Cx} {stI : Stmt} {h0 : ExceptHandler} {tp : Pos} (sI : S) {sc : Sc} {ρ0 ρ1 : En} (gd : Good X T p sc) (hk : X.env.blockKind = .function) (h : chkS T sI sc stI = true) (e : evS p sI ρ0 = some (.nx ρ1)) : PS X (.Try [stI] [h0] [] [] tp) (tS ρ0 (.nx ρ1)) := by
  intro pins s σ H D' I ht
  refine wpAny_Try_except ?_
  have gS : GoodS (wishP X pins (tryE X [h0] (SP X pins D'))).nox T p sc := ⟨⟨gd.N, gd.nd, gd.vis, gd.gl, gd.loc, gd.cel, gd.out, gd.calm, gd.hu, gd.blt, gd.gls, gd.fns⟩, hk, PassesOwn.never⟩
  have pI : PSs (wishP X pins (tryE X [h0] (SP X pins D'))) [stI] _ := pss_one (PS.nox (sndS sI gS h _ _ e))
  refine wpAny_mono (pI [] s σ H ⟨D'.nx, fun _ _ => False, fun _ _ => False, fun _ _ => False⟩ (Inv.toP I _) ht) (fun fl s2 h2 => ?_) fun _ _ z => z
  cases fl with
  | next =>
    obtain ⟨σ', H', I', q⟩ := h2
    exact wpAny_execs_nil ⟨σ', H', Inv.unP I', q⟩
  | brk => obtain ⟨_, _, _, z⟩ := h2; exact z.elim
  | cont => obtain ⟨_, _, _, z⟩ := h2; exact z.elim
  | ret u => obtain ⟨_, _, _, _, _, z⟩ := h2; exact z.elim
end
end TW
end
section
set_option Elab.async false
set_option linter.all false
set_option maxRecDepth 100000
set_option maxHeartbeats 4000000
namespace TW
open PySem PySem.Spec PyProof.Rows L2
section
variable {P : Program} {w : World} {K : PySem.W.Frag} {mg : Str → Option Value} {base : Heap} {T : Tab} {p : Nat → List D → Option D} {k : Nat} {d : DefT} {f f2 f3 : Addr} {fd fd2 fd3 : FuncData} {ps2 ps3 : List Str} {g gN gL : List D → Option D}
theorem raise_fnG {x m : Str} {C : Addr} {j : Nat} {np cp cpos rpos ipos : Pos} {test : Expr} {rest : List Stmt} {c : TW.C} (D : DefAt K mg d f fd) (hs : scopeIs d.ps (defScope d.st) = true)
    (hb : defBody d.st = .If test [.Raise (some (.Call (.Name x np) [.Constant (.str m) j cp] [] cpos)) none rpos] [] ipos :: rest) (hc : chk T c (defScope d.st).names test = true) (hni : isIf test = false)
    (hx : (defScope d.st).names.lookup x = some .globalImplicit) (hmx : mg x = some (.ref C)) (he : PySem.W.excIn K C bmV "ValueError.__new__" = true) (hdb : (x == ("__debug__" : Str)) = false)
    (blt : ∀ x, x ∈ bltN → mg x = none) (gls : ∀ x c, T.gls.lookup x = some c → ∀ d, cstIs d c = true → ∃ v u, mg x = some u ∧ RelV v u ∧ ∀ G, Rp G d v)
    (fns : ∀ f x n, T.fns[f]? = some (x, n) → ∃ a fd ps, FnOk P w K mg base CX0 k a fd ps (spD n (p f)) ∧ mg x = some (.ref a) ∧ PySem.W.keepIn K (.ref a) = true ∧ Binds K fd ps [])
    (hg : ∀ ds, g ds = some (.bl true) → (ev p c (enter (defScope d.st).names.length ds)).2 = some true) :
    FnOk P w K mg base (CXr P w) (k + 1) f fd d.ps (spX C d.ps.length g) := by
  have S := scope_ok hs
  obtain ⟨oc, od, kV, doc, pm, an, cdv, ct, osl, rfl, lk, hcd⟩ := D.fn.ex
  refine fn_of lk hcd S (fun vs H Q E h => ?_) fun A outer s H vs Q E hr h => ?_
  · obtain ⟨G, ds, _, r, hl, _⟩ := h
    rw [r.length, hl]
  · obtain ⟨G, ds, gh, r, hl, e, hE⟩ := h
    have s0 := enter_ok (N := (defScope d.st).names.map (·.1)) gh.1 gh.2 r
    rw [List.length_map] at s0
    have g0 := good_cx (CX := CXr P w) (P := P) (w := w) (K := K) (base := base) (qual := d.name) (f := f) (cdv := cdv) (A := A) (outer := outer) (s := s) (H := H) (E := E) (T := T) (p := p) S hr blt gls fns
    have t := (snd c g0 hc).t hni _ _ (hg ds e)
    rw [hb]
    refine ⟨_, pss_cons (ps_if t (pss_one (ps_raise hx hmx he hdb (hr.hd))) pss_nil) pss_never, G, s0.sr, fun H' G' x => ?_⟩
    exact iteT (hE H' G' x)
theorem raise_tail {x m : Str} {C : Addr} {j : Nat} {np cp cpos rpos ipos : Pos} {test : Expr} {c a : TW.C} {cap : List (Option Nat)} {tg : Tg} {it : CI} {fi : Nat} {y : Str} {arg target iter : Expr} {scope : Scope} {yp ycp pos tp kp rp : Pos} (D : DefAt K mg d f fd) (hs : scopeIs d.ps (defScope d.st) = true)
    (hb : defBody d.st = [.If test [.Raise (some (.Call (.Name x np) [.Constant (.str m) j cp] [] cpos)) none rpos] [] ipos, .Return (some (.Call (.Name "tuple" tp) [.ListComp (.Call (.Name y yp) [arg] [] ycp) [⟨target, iter, [], 0⟩] scope pos] [] kp)) rp])
    (hc : chk T c (defScope d.st).names test = true) (hni : isIf test = false)
    (hx : (defScope d.st).names.lookup x = some .globalImplicit) (hmx : mg x = some (.ref C)) (he : PySem.W.excIn K C bmV "ValueError.__new__" = true) (hdb : (x == ("__debug__" : Str)) = false)
    (hgt : (defScope d.st).names.lookup ("tuple" : Str) = some .globalImplicit)
    (hcr : chk T (.comp cap tg it .no (.call fi (slice [a]))) (defScope d.st).names (.ListComp (.Call (.Name y yp) [arg] [] ycp) [⟨target, iter, [], 0⟩] scope pos) = true)
    (F2 : FnOk P w K mg base (CXr P w) k f2 fd2 ps2 (spX C 1 gN)) (hm2 : mg y = some (.ref f2)) (hk2 : PySem.W.keepIn K (.ref f2) = true) (hb2 : Binds K fd2 ps2 [])
    (blt : ∀ x, x ∈ bltN → mg x = none) (gls : ∀ x c, T.gls.lookup x = some c → ∀ d, cstIs d c = true → ∃ v u, mg x = some u ∧ RelV v u ∧ ∀ G, Rp G d v)
    (fns : ∀ f x n, T.fns[f]? = some (x, n) → ∃ a fd ps, FnOk P w K mg base CX0 k a fd ps (spD n (p f)) ∧ mg x = some (.ref a) ∧ PySem.W.keepIn K (.ref a) = true ∧ Binds K fd ps [])
    (hg : ∀ ds, g ds = some (.bl true) → (ev p c (enter (defScope d.st).names.length ds)).2 = some true ∨ ((ev p c (enter (defScope d.st).names.length ds)).2 = some false ∧ CR p gN cap tg it fi a (enter (defScope d.st).names.length ds))) :
    FnOk P w K mg base (CXr P w) (k + 1) f fd d.ps (spX C d.ps.length g) := by
  have S := scope_ok hs
  obtain ⟨oc, od, kV, doc, pm, an, cdv, ct, osl, rfl, lk, hcd⟩ := D.fn.ex
  refine fn_of lk hcd S (fun vs H Q E h => ?_) fun A outer s H vs Q E hr h => ?_
  · obtain ⟨G, ds, _, r, hl, _⟩ := h
    rw [r.length, hl]
  · obtain ⟨G, ds, gh, r, hl, e, hE⟩ := h
    have s0 := enter_ok (N := (defScope d.st).names.map (·.1)) gh.1 gh.2 r
    rw [List.length_map] at s0
    have g0 := good_cx (CX := CXr P w) (P := P) (w := w) (K := K) (base := base) (qual := d.name) (f := f) (cdv := cdv) (A := A) (outer := outer) (s := s) (H := H) (E := E) (T := T) (p := p) S hr blt gls fns
    rw [hb]
    rcases hg ds e with e1 | ⟨e1, cr⟩
    · have t := (snd c g0 hc).t hni _ _ e1
      refine ⟨_, pss_cons (ps_if t (pss_one (ps_raise hx hmx he hdb (hr.hd))) pss_nil) pss_never, G, s0.sr, fun H' G' x => ?_⟩
      exact iteT (hE H' G' x)
    · have t := (snd c g0 hc).t hni _ _ e1
      have pc := pe_cr (gX := gN) rfl g0 hcr F2 hr hm2 hk2 hb2 cr
      have nev : CallR (cxOf (CXr P w) P w K mg base ((defScope d.st).names.map (·.1)) d.name (defScope d.st) f cdv A outer s H E) (.type "tuple") (fun _ _ _ => False) := fun _ _ _ _ _ _ _ _ _ z => z.elim
      refine ⟨_, pss_cons (ps_if t (pss_one (ps_raise hx hmx he hdb (hr.hd))) pss_nil) (pss_one (ps_ret (pe_callTy nev hgt (blt _ (by decide +kernel)) boot_tuple (pa_cons pc pa_nil)))), G, s0.sr, fun H' G' x => ?_⟩
      exact iteF ⟨G', s0.sr.ext x, fun H2 G2 x2 => hE H2 G2 (x.trans x2)⟩
theorem raise_read {x m m5 : Str} {C : Addr} {j j5 : Nat} {np cp cpos rpos ipos np5 cp5 cpos5 rpos5 ipos5 : Pos} {test test5 e4b : Expr} {st1 : Stmt} {rest : List Stmt} {s1 s3 s4 : S} {c c5 a aw : TW.C} {cap : List (Option Nat)} {tg : Tg} {it : CI} {fi i4 : Nat} {y y2 ln gr : Str} {arg arg2 target iter : Expr} {scope : Scope} {yp ycp pos lp sp3 gp sp4 y2p y2cp tp4 : Pos} {kt}
    (D : DefAt K mg d f fd) (hs : scopeIs d.ps (defScope d.st) = true)
    (hb : defBody d.st = st1 :: .If test [.Raise (some (.Call (.Name x np) [.Constant (.str m) j cp] [] cpos)) none rpos] [] ipos :: .Assign [.Name ln lp] (.ListComp (.Call (.Name y yp) [arg] [] ycp) [⟨target, iter, [], 0⟩] scope pos) sp3 ::
      .Assign [.Name gr gp] (.Tuple [.Call (.Name y2 y2p) [arg2] [] y2cp, e4b] kt tp4) sp4 :: .If test5 [.Raise (some (.Call (.Name x np5) [.Constant (.str m5) j5 cp5] [] cpos5)) none rpos5] [] ipos5 :: rest)
    (h1 : chkS T s1 (defScope d.st).names st1 = true) (hc : chk T c (defScope d.st).names test = true) (hni : isIf test = false)
    (h3 : chkS T s3 (defScope d.st).names (.Assign [.Name ln lp] (.ListComp (.Call (.Name y yp) [arg] [] ycp) [⟨target, iter, [], 0⟩] scope pos) sp3) = true)
    (hcr : chk T (.comp cap tg it .no (.call fi (slice [a]))) (defScope d.st).names (.ListComp (.Call (.Name y yp) [arg] [] ycp) [⟨target, iter, [], 0⟩] scope pos) = true)
    (hsw3 : ∀ n cd, swapsWith (.ListComp (.Call (.Name y yp) [arg] [] ycp) [⟨target, iter, [], 0⟩] scope pos) (some (.Name ln lp)) sp3.line (envOfC d.name (defScope d.st) n f cd) = pure true)
    (h4 : chkS T s4 (defScope d.st).names (.Assign [.Name gr gp] (.Tuple [.Call (.Name y2 y2p) [arg2] [] y2cp, e4b] kt tp4) sp4) = true)
    (h4a : chk T aw (defScope d.st).names arg2 = true) (h4g : glob (defScope d.st).names y2 = true) (h4d : notDbg y2 = true) (h4s : isStar arg2 = false) (h4e : isStar e4b = false) (h4i : slotL (defScope d.st).names i4 gr = true)
    (hc5 : chk T c5 (defScope d.st).names test5 = true) (hni5 : isIf test5 = false)
    (hx : (defScope d.st).names.lookup x = some .globalImplicit) (hmx : mg x = some (.ref C)) (he : PySem.W.excIn K C bmV "ValueError.__new__" = true) (hdb : (x == ("__debug__" : Str)) = false)
    (F2 : FnOk P w K mg base (CXr P w) k f2 fd2 ps2 (spX C 1 gL)) (hm2 : mg y = some (.ref f2)) (hk2 : PySem.W.keepIn K (.ref f2) = true) (hb2 : Binds K fd2 ps2 [])
    (F3 : FnOk P w K mg base (CXr P w) k f3 fd3 ps3 (spX C 1 gN)) (hm3 : mg y2 = some (.ref f3)) (hk3 : PySem.W.keepIn K (.ref f3) = true) (hb3 : Binds K fd3 ps3 [])
    (blt : ∀ x, x ∈ bltN → mg x = none) (gls : ∀ x c, T.gls.lookup x = some c → ∀ d, cstIs d c = true → ∃ v u, mg x = some u ∧ RelV v u ∧ ∀ G, Rp G d v)
    (fns : ∀ f x n, T.fns[f]? = some (x, n) → ∃ a fd ps, FnOk P w K mg base CX0 k a fd ps (spD n (p f)) ∧ mg x = some (.ref a) ∧ PySem.W.keepIn K (.ref a) = true ∧ Binds K fd ps [])
    (hg : ∀ ds, g ds = some (.bl true) → ∃ ρ1, evS p s1 (enter (defScope d.st).names.length ds) = some (.nx ρ1) ∧ ((ev p c ρ1).2 = some true ∨ ((ev p c ρ1).2 = some false ∧ (CR p gL cap tg it fi a ρ1 ∨
      ∃ ρ3, evS p s3 ρ1 = some (.nx ρ3) ∧ ((∃ z dz, (ev p aw ρ3).1 = some z ∧ TW.frz z = some dz ∧ gN [dz] = some (.bl true)) ∨ ∃ ρ4, evS p s4 ρ3 = some (.nx ρ4) ∧ (ev p c5 ρ4).2 = some true))))) :
    FnOk P w K mg base (CXr P w) (k + 1) f fd d.ps (spX C d.ps.length g) := by
  have S := scope_ok hs
  obtain ⟨oc, od, kV, doc, pm, an, cdv, ct, osl, rfl, lk, hcd⟩ := D.fn.ex
  refine fn_of lk hcd S (fun vs H Q E h => ?_) fun A outer s H vs Q E hr h => ?_
  · obtain ⟨G, ds, _, r, hl, _⟩ := h
    rw [r.length, hl]
  · obtain ⟨G, ds, gh, r, hl, e, hE⟩ := h
    have s0 := enter_ok (N := (defScope d.st).names.map (·.1)) gh.1 gh.2 r
    rw [List.length_map] at s0
    have g0 := good_cx (CX := CXr P w) (P := P) (w := w) (K := K) (base := base) (qual := d.name) (f := f) (cdv := cdv) (A := A) (outer := outer) (s := s) (H := H) (E := E) (T := T) (p := p) S hr blt gls fns
    have gS := goodS_nox (d := d) S g0
    obtain ⟨ρ1, e1, hcs⟩ := hg ds e
    have p1 := PS.nox (sndS s1 gS h1 _ _ e1)
    rw [hb]
    rcases hcs with e2 | ⟨e2, hcs⟩
    · have t := (snd c g0 hc).t hni _ _ e2
      refine ⟨_, pss_cons p1 (pss_cons (ps_if t (pss_one (ps_raise hx hmx he hdb (hr.hd))) pss_nil) pss_never), G, H, G, s0, fun σ1 H1 G1 k1 => ⟨G1, k1.sr, fun H' G' x => iteT (hE H' G' (k1.ext.trans x))⟩⟩
    · have t := (snd c g0 hc).t hni _ _ e2
      have pif : PS (cxOf (CXr P w) P w K mg base ((defScope d.st).names.map (·.1)) d.name (defScope d.st) f cdv A outer s H E) (.If test [.Raise (some (.Call (.Name x np) [.Constant (.str m) j cp] [] cpos)) none rpos] [] ipos) _ := ps_if t (pss_one (ps_raise hx hmx he hdb (hr.hd))) pss_nil
      rcases hcs with cr | ⟨ρ3, e3, hcs⟩
      · have pc := ps_cr (gX := gL) (z := ln) (zp := lp) (sp := sp3) rfl g0 hcr F2 hr hm2 hk2 hb2 cr (hsw3 _ _)
        exact ⟨_, pss_cons p1 (pss_cons pif (pss_cons pc pss_never)), G, H, G, s0, fun σ1 H1 G1 k1 => ⟨G1, k1.sr, fun H' G' x => iteF ⟨G', k1.sr.ext x, fun H2 G2 x2 => hE H2 G2 (k1.ext.trans (x.trans x2))⟩⟩⟩
      · have p3 := PS.nox (sndS s3 gS h3 _ _ e3)
        rcases hcs with ⟨z, dz, ez1, ez2, ez3⟩ | ⟨ρ4, e4, e5⟩
        · obtain ⟨la, lb, lc⟩ := g0.slotL h4i
          have pt := pe_tup (x1 := kt) (pos := tp4) (pa_cons (pe_callX (yp := y2p) (cp := y2cp) (gX := gN) (C := C) (E := E) (ga := fun q => (ev p aw q).1) F3 hr (g0.glob h4g) hm3 hk3 hb3 leave_on (snd aw g0 h4a).e (dbg1 h4d).1 (star1 h4s _ _)) (pa_cons (pe_never (e := e4b)) pa_nil (star1 h4e _ _)) rfl)
          have p4 : PS (cxOf (CXr P w) P w K mg base ((defScope d.st).names.map (·.1)) d.name (defScope d.st) f cdv A outer s H E) (.Assign [.Name gr gp] (.Tuple [.Call (.Name y2 y2p) [arg2] [] y2cp, e4b] kt tp4) sp4) _ := ps_set g0.nodup la lb pt rfl lc
          exact ⟨_, pss_cons p1 (pss_cons pif (pss_cons p3 (pss_cons p4 pss_never))), G, H, G, s0, fun σ1 H1 G1 k1 => ⟨G1, k1.sr, fun H' G' x => iteF ⟨G, H, G', k1.grow x, fun σ3 H3 G3 k3 => ⟨ρ3, z, dz, G3, ez1, ez2, ez3, k3.sr, fun H2 G2 x2 => hE H2 G2 (k3.ext.trans x2)⟩⟩⟩⟩
        · have p4 := PS.nox (sndS s4 gS h4 _ _ e4)
          have t5 := (snd c5 g0 hc5).t hni5 _ _ e5
          refine ⟨_, pss_cons p1 (pss_cons pif (pss_cons p3 (pss_cons p4 (pss_cons (ps_if t5 (pss_one (ps_raise hx hmx he hdb (hr.hd))) pss_nil) pss_never)))), G, H, G, s0, fun σ1 H1 G1 k1 => ⟨G1, k1.sr, fun H' G' x => iteF ⟨G, H, G', k1.grow x, fun σ3 H3 G3 k3 => ⟨G, H, G3, k3, fun σ4 H4 G4 k4 => ⟨G4, k4.sr, fun H5 G5 x5 => iteT (hE H5 G5 (k4.ext.trans x5))⟩⟩⟩⟩⟩
end
end TW
end
section
set_option Elab.async false
set_option linter.all false
set_option maxRecDepth 100000
set_option maxHeartbeats 4000000
namespace TW
open PySem PySem.Spec PyProof.Rows L2
section
variable {P : Program} {w : World} {K : PySem.W.Frag} {mg : Str → Option Value} {base : Heap} {T : Tab} {p : Nat → List D → Option D} {k : Nat} {d : DefT} {f f2 : Addr} {fd fd2 : FuncData} {ps2 : List Str} {g gX : List D → Option D}
theorem found_fn {a fo n gd x x1 x3 x4 y1 : Str} {C D D1 D3 D4 : Addr} {o1 v1 a1 k1 r1 np hp rp tp gp asp i1 e1 q1 c1 i2 e2 q2 c2 bp1 gp2 i3 e3 q3 c3 n3 i4 e4 q4 c4 n4 bp2 z1 z2 lp zp cp2 sp2 : Pos} {j1} {j2 : Nat} {stR : Stmt} {sI sR : S} {h0 : ExceptHandler}
    (Df : DefAt K mg d f fd) (hs : scopeIs d.ps (defScope d.st) = true) (hps : d.ps.length = 1)
    (hN0 : ((defScope d.st).names.map (·.1))[0]? = some a) (hN1 : ((defScope d.st).names.map (·.1))[1]? = some fo) (hN2 : ((defScope d.st).names.map (·.1))[2]? = some n) (hN3 : ((defScope d.st).names.map (·.1))[3]? = some gd)
    (hh0 : h0 = .ExceptHandler (some (.Name x np)) (some n) [.Assign [.Name gd gp] (.BoolOp .And [.Call (.Name "isinstance" i1) [.Name n e1, .Name x1 q1] [] c1, .Call (.Name "isinstance" i2) [.Name n e2, .Name "ValueError" q2] [] c2] bp1) asp,
      .Return (some (.Subscript (.List [.Tuple [] j1 z1, .Constant .none j2 z2] lp) (.Call (.Name "int" zp) [.BoolOp .And [.Name gd gp2, .UnaryOp .Not (.Call (.Name "isinstance" i3) [.Name n e3, .Name x3 q3] [] c3) n3, .UnaryOp .Not (.Call (.Name "isinstance" i4) [.Name n e4, .Name x4 q4] [] c4) n4] bp2] [] cp2) sp2)) rp] hp)
    (hb : defBody d.st = [.Try [.Assign [.Name fo o1] (.Call (.Name y1 v1) [.Name a a1] [] k1) r1] [h0] [] [] tp, stR])
    (hI : chkS T sI (defScope d.st).names (.Assign [.Name fo o1] (.Call (.Name y1 v1) [.Name a a1] [] k1) r1) = true) (hR : chkS T sR (defScope d.st).names stR = true)
    (gl : ∀ z ∈ [y1, x, x1, x3, x4, "isinstance", "ValueError", "int"], (defScope d.st).names.lookup z = some .globalImplicit) (lo : ∀ z ∈ [a, fo, n, gd], (defScope d.st).names.lookup z = some .local)
    (hdb : ∀ z ∈ [a, fo, n, gd, y1, x, x1, x3, x4], (z == ("__debug__" : Str)) = false ∧ (z == ("__classdict__" : Str)) = false)
    (hmx : mg x = some (.ref D)) (hmt : PySem.W.exmOne K (.ref C) (.ref D) = some true) (hmv : mg "ValueError" = none)
    (hm1 : mg x1 = some (.ref D1)) (hk1 : PySem.W.kitOne K (.ref C) (.ref D1) = some true) (hkv : PySem.W.kitOne K (.ref C) (.type "ValueError") = some true)
    (hm3 : mg x3 = some (.ref D3)) (hk3 : PySem.W.kitOne K (.ref C) (.ref D3) = some false) (hm4 : mg x4 = some (.ref D4)) (hk4 : PySem.W.kitOne K (.ref C) (.ref D4) = some false) (ex : ExC K C)
    (F2 : FnOk P w K mg base (CXr P w) k f2 fd2 ps2 (spX C 1 gX)) (hm2 : mg y1 = some (.ref f2)) (hk2 : PySem.W.keepIn K (.ref f2) = true) (hb2 : Binds K fd2 ps2 [])
    (blt : ∀ x, x ∈ bltN → mg x = none) (gls : ∀ x c, T.gls.lookup x = some c → ∀ d, cstIs d c = true → ∃ v u, mg x = some u ∧ RelV v u ∧ ∀ G, Rp G d v)
    (fns : ∀ f x n, T.fns[f]? = some (x, n) → ∃ a fd ps, FnOk P w K mg base CX0 k a fd ps (spD n (p f)) ∧ mg x = some (.ref a) ∧ PySem.W.keepIn K (.ref a) = true ∧ Binds K fd ps [])
    (hg : ∀ ds r0, ds.length = 1 → g ds = some r0 → ∃ d1, ds = [d1] ∧ ((r0 = .non ∧ gX [d1] = some (.bl true)) ∨ ∃ ρ1, evS p sI (enter (defScope d.st).names.length [d1]) = some (.nx ρ1) ∧ evS p sR ρ1 = some (.rt r0))) :
    FnOk P w K mg base CX0 (k + 1) f fd d.ps (spD d.ps.length g) := by
  have S := scope_ok hs
  have hmi : mg "isinstance" = none := blt _ (by decide +kernel)
  have hmn : mg "int" = none := blt _ (by decide +kernel)
  refine Df.fn.ok S (fun vs H Q E h => ?_) (fun cdv A outer s H vs Q E hr h => ?_)
  · obtain ⟨G, ds, d, _, r, hl, _⟩ := h
    rw [r.length, hl]
  · obtain ⟨G, ds, r0, gh, r, hl, e, k'⟩ := h
    rw [hps] at hl
    obtain ⟨d1, rfl, hc⟩ := hg _ _ hl e
    rw [hb]
    rcases hc with ⟨rfl, eX⟩ | ⟨ρ1, eI, eR⟩
    · obtain ⟨w1, _, rfl, rd1, en⟩ := r
      cases (show _ = [] from en)
      refine ⟨_, pss_cons (t := fun D' σ H1 => ∃ u1 G, σ[0]? = some (some u1) ∧ (Same G H1 ∧ Tb G) ∧ Rp G d1 u1 ∧ ∀ H' G', Ext G H1 G' H' → D'.rt .non H') ?_ pss_never, w1, G, rfl, gh, rd1, fun H' G' x => k' _ H' G' x rfl⟩
      rintro pins s1 σ H1 D' I ⟨u1, G1, hv1, gh1, rr1, qq⟩
      refine wpAny_Try_except ?_
      let X := (cxOf CX0 P w K mg base ((defScope d.st).names.map (fun x : Str × NameKind => x.1)) d.name (defScope d.st) f cdv A outer s H E).nox
      have hx : ∀ pins' σ' H' s' e s'', Inv (wishP X pins (tryE X [h0] (SP X pins D'))) pins' σ' H' s' → CXr P w X.stack H' s' (fun C' _ H2 => C' = .ref C ∧ ∃ G2, Ext G1 H1 G2 H2) e s'' → tryE X [h0] (SP X pins D') e s'' := by
        intro pins' σ' H' s' e s'' I' cx
        subst hh0
        refine caughtN (X := X) (Inv.unP I') rfl rfl cx (gl x (by simp)) hmx (hdb x (by simp)).1 (fun C' dx H2 hE => by rw [hE.1]; exact hmt) fun ea C' oe H2 s6 hE hc I6 => ?_
        rw [hE.1] at hc
        obtain ⟨G2, xx2⟩ := hE.2
        refine store_ok (X := exX X ea oe) (v := .ref ea) I6 S.nd hN2 (.inl (lo n (by simp))) rfl (fun s7 I7 => ?_) (.inr (lo n (by simp)))
        have hpn : (ea, oe) ∈ (exX X ea oe).pn := List.mem_cons_self
        have p1 : PE (exX X ea oe) (.Call (.Name "isinstance" i1) [.Name n e1, .Name x1 q1] [] c1) _ :=
          pe_isx (i := 2) (b := true) (u := .ref D1) (v := .ref D1) hpn hc ex hN2 (.inl (lo n (by simp))) (hdb n (by simp)).1 (hdb n (by simp)).2 (gl _ (by simp)) hmi (pe_glob (gl x1 (by simp)) hm1 rfl (hdb x1 (by simp)).1) (fun _ z => z) hk1
        have p2 : PE (exX X ea oe) (.Call (.Name "isinstance" i2) [.Name n e2, .Name "ValueError" q2] [] c2) _ :=
          pe_isx (i := 2) (b := true) (u := .type "ValueError") (v := .ty "ValueError") hpn hc ex hN2 (.inl (lo n (by simp))) (hdb n (by simp)).1 (hdb n (by simp)).2 (gl _ (by simp)) hmi (pe_bltn (gl _ (by simp)) hmv (by rfl) rfl) (fun _ z => z) hkv
        have p3 : PE (exX X ea oe) (.Call (.Name "isinstance" i3) [.Name n e3, .Name x3 q3] [] c3) _ :=
          pe_isx (i := 2) (b := false) (u := .ref D3) (v := .ref D3) hpn hc ex hN2 (.inl (lo n (by simp))) (hdb n (by simp)).1 (hdb n (by simp)).2 (gl _ (by simp)) hmi (pe_glob (gl x3 (by simp)) hm3 rfl (hdb x3 (by simp)).1) (fun _ z => z) hk3
        have p4 : PE (exX X ea oe) (.Call (.Name "isinstance" i4) [.Name n e4, .Name x4 q4] [] c4) _ :=
          pe_isx (i := 2) (b := false) (u := .ref D4) (v := .ref D4) hpn hc ex hN2 (.inl (lo n (by simp))) (hdb n (by simp)).1 (hdb n (by simp)).2 (gl _ (by simp)) hmi (pe_glob (gl x4 (by simp)) hm4 rfl (hdb x4 (by simp)).1) (fun _ z => z) hk4
        have pg : PE (exX X ea oe) (.Name gd gp2) _ := pe_var (i := 3) hN3 (.inl (lo gd (by simp))) (hdb gd (by simp)).1 (hdb gd (by simp)).2
        have pI : PE (exX X ea oe) (.Call (.Name "int" zp) [.BoolOp .And [.Name gd gp2, .UnaryOp .Not (.Call (.Name "isinstance" i3) [.Name n e3, .Name x3 q3] [] c3) n3, .UnaryOp .Not (.Call (.Name "isinstance" i4) [.Name n e4, .Name x4 q4] [] c4) n4] bp2] [] cp2) _ :=
          pe_callTy (c_int (.bl true) (.fz, .int 1) rfl) (gl "int" (by simp)) hmn boot_int (pa_cons (pe_and (pos := bp2) pg (pe_and (pe_not (pos := n3) p3) (pe_one (pe_not (pos := n4) p4)))) pa_nil)
        have su := pss_cons (ps_set (i := 3) (pos := asp) (pos' := gp) S.nd hN3 (.inl (lo gd (by simp))) (pe_and (pos := bp1) p1 (pe_one p2)) rfl (.inr (lo gd (by simp)))) (pss_one (ps_ret (pos := rp) (pe_ix (pos := sp2) ix_list (pe_lst (pos := lp) (pa_cons (pe_tup (x1 := j1) (pos := z1) pa_nil) (pa_cons (pe_non (j := j2) (pos := z2)) pa_nil))) pI (fun _ _ => rfl))))
        have hl1 : 2 < σ'.length := by
          rw [I6.len]
          exact (List.getElem?_eq_some_iff.mp hN2).1
        have hl2 : 3 < σ'.length := by
          rw [I6.len]
          exact (List.getElem?_eq_some_iff.mp hN3).1
        have g1 : (σ'.set 2 (some (V.ref ea)))[2]? = some (some (V.ref ea)) := List.getElem?_set_self hl1
        have g2 : ((σ'.set 2 (some (V.ref ea))).set 3 (some (V.bl true)))[2]? = some (some (V.ref ea)) := by rw [List.getElem?_set_ne (by decide)]; exact g1
        have g3 : ((σ'.set 2 (some (V.ref ea))).set 3 (some (V.bl true)))[3]? = some (some (V.bl true)) := List.getElem?_set_self (by simpa using hl2)
        refine wpAny_mono (su pins s7 _ H2 ⟨fun _ _ => False, fun v H3 => v = .non ∧ D'.rt .non H3, fun _ _ => False, fun _ _ => False⟩ I7 ?_) (fun fl s8 h8 => ?_) fun _ _ z => z
        · refine ⟨g1, true, rfl, iteT ⟨g1, by decide, fun pt hpt => ⟨by show (2 : Nat) ≤ sizeLine; decide, fun pl hpl => ?_⟩⟩⟩
          refine ⟨_, g3, true, rfl, iteT ⟨g2, false, rfl, true, rfl, iteT ⟨g2, false, rfl, .bl true, rfl, fun _ => none, noSame _, rfl, fun w3 H3 G3 x3 rr => ?_⟩⟩⟩
          cases (show w3 = _ from rr)
          have y1' := Ext.grown xx2.gh hpt (.tup [])
          have y2 := Ext.grown y1'.gh hpl (.lst [.ref pt, .non])
          refine ⟨pl, [.ref pt, .non], 1, .non, rfl, rfl, .inl (.inl (x3.hh _ _ upd_same)), rfl, rfl, qq H3 G2 (xx2.trans (y1'.trans (y2.trans ⟨Same.refl _, x3.hh, y2.gh.trans x3.hh, fun _ _ z => .inl z⟩)))⟩
        · cases fl with
          | next => obtain ⟨_, _, _, z⟩ := h8; exact z.elim
          | brk => obtain ⟨_, _, _, z⟩ := h8; exact z.elim
          | cont => obtain ⟨_, _, _, z⟩ := h8; exact z.elim
          | ret u =>
            obtain ⟨v, σ8, H8, I8, r8, rfl, q8⟩ := h8
            exact name_goes (Inv.unEx I.ok I8) (lo n (by simp)) fun s9 I9 => ⟨.non, _, H8, I9, r8, q8⟩
      have body : PSs (wishP X pins (tryE X [h0] (SP X pins D'))) [.Assign [.Name fo o1] (.Call (.Name y1 v1) [.Name a a1] [] k1) r1] _ :=
        pss_one (ps_set (i := 1) S.nd hN1 (.inl (lo fo (by simp))) (pe_call (CX := CXr P w) (E := fun C' _ H2 => C' = .ref C ∧ ∃ G2, Ext G1 H1 G2 H2) (sp := spX C 1 gX) F2 hr (gl y1 (by simp)) hm2 hk2 hb2 .nil hx (pa_cons (pe_var (i := 0) hN0 (.inl (lo a (by simp))) (hdb a (by simp)).1 (hdb a (by simp)).2) pa_nil) (hdb y1 (by simp)).1) rfl (.inr (lo fo (by simp))))
      refine wpAny_mono (body [] s1 σ H1 ⟨fun _ _ => False, fun _ _ => False, fun _ _ => False, fun _ _ => False⟩ (Inv.toP I _) ⟨u1, hv1, G1, [d1], gh1, ⟨u1, [], rfl, rr1, rfl⟩, rfl, eX, fun H' G' x => ⟨rfl, G', x⟩⟩) (fun fl s2 h2 => ?_) fun _ _ z => z
      cases fl with
      | next => obtain ⟨_, _, _, z⟩ := h2; exact z.elim
      | brk => obtain ⟨_, _, _, z⟩ := h2; exact z.elim
      | cont => obtain ⟨_, _, _, z⟩ := h2; exact z.elim
      | ret u => obtain ⟨_, _, _, _, _, z⟩ := h2; exact z.elim
    · have s0 := enter_ok (N := (defScope d.st).names.map (·.1)) gh.1 gh.2 r
      rw [List.length_map] at s0
      have g0 := good_cx (CX := CX0) (P := P) (w := w) (K := K) (base := base) (qual := d.name) (f := f) (cdv := cdv) (A := A) (outer := outer) (s := s) (H := H) (E := E) (T := T) (p := p) S hr blt gls fns
      have gS := goodS_nox (d := d) S g0
      exact ⟨_, pss_cons (try_calm sI gS.toGood gS.blk hI eI) (pss_one (sndS sR gS hR _ _ eR)), G, H, G, s0, fun σ1 H1 G1 k1 => ⟨G, H, G1, k1, fun v H' G' x rr => k' v H' G' x rr⟩⟩
end
noncomputable def retT : SS := block [.ret (.cst (.bl true))]
noncomputable def rzC (c : C) (l : SS) : SS := .cons (.ifs c retT (block [])) l
noncomputable def endF : SS := block [.ret (.cst (.bl false))]
noncomputable def numXB (c : C) : SS := rzC c endF
noncomputable def lineXB (c : C) (cap : List (Option Nat)) (tg : Tg) (it : CI) (fi xi : Nat) (a : C) : SS := rzC c (.cons (.ifs (evid cap tg it fi xi a) (block []) (block [])) (rzC (anyX cap tg it xi a) endF))
noncomputable def readXB (s1 s3 s4 : S) (c c5 : C) (cap : List (Option Nat)) (tg : Tg) (it : CI) (fi xi : Nat) (a aw : C) (nx : Nat) : SS :=
  .cons s1 (rzC c (.cons (.ifs (evid cap tg it fi xi a) (block []) (block [])) (rzC (anyX cap tg it xi a) (.cons s3 (rzC (.call nx (slice [aw])) (.cons s4 (rzC c5 endF)))))))
section
variable {p : Nat → List D → Option D}
theorem inv_rz {c : C} {l : SS} {ρ : En} {r0 : D} (h : left (evSS p (rzC c l) ρ) = some r0) : ((ev p c ρ).2 = some true ∧ r0 = .bl true) ∨ ((ev p c ρ).2 = some false ∧ left (evSS p l ρ) = some r0) := by
  unfold rzC at h
  rw [evSS_cons, evS_ifs] at h
  cases e : (ev p c ρ).2 with
  | none => rw [e] at h; cases h
  | some b =>
    rw [e] at h
    cases b with
    | true => cases h; exact .inl ⟨rfl, rfl⟩
    | false => exact .inr ⟨rfl, h⟩
theorem inv_if0 {c : C} {l : SS} {ρ : En} {r0 : D} (h : left (evSS p (.cons (.ifs c (block []) (block [])) l) ρ) = some r0) : (∃ b, (ev p c ρ).2 = some b) ∧ left (evSS p l ρ) = some r0 := by
  rw [evSS_cons, evS_ifs] at h
  cases e : (ev p c ρ).2 with
  | none => rw [e] at h; cases h
  | some b =>
    rw [e] at h
    cases b <;> exact ⟨⟨_, rfl⟩, h⟩
theorem inv_nr {s : S} {l : SS} {ρ : En} {r0 : D} (n : NoR p s) (h : left (evSS p (.cons s l) ρ) = some r0) : ∃ ρ1, evS p s ρ = some (.nx ρ1) ∧ left (evSS p l ρ1) = some r0 := by
  rw [evSS_cons] at h
  cases e : evS p s ρ with
  | none => rw [e] at h; cases h
  | some f =>
    rw [e] at h
    cases f with
    | nx q => exact ⟨q, rfl, h⟩
    | rt d => exact absurd e (n _ d)
    | bk q => cases h
    | ct q => cases h
theorem inv_end {ρ : En} {r0 : D} (h : left (evSS p endF ρ) = some r0) : r0 = .bl false := by cases h; rfl
theorem num_hg {c : C} {n : Nat} : ∀ ds, runF p n (numXB c) ds = some (.bl true) → (ev p c (enter n ds)).2 = some true := fun ds h => by
  rcases inv_rz (show left (evSS p (rzC c endF) (enter n ds)) = _ from h) with ⟨e, _⟩ | ⟨_, e⟩
  · exact e
  · cases inv_end e
theorem line_hg {c a : C} {cap : List (Option Nat)} {tg : Tg} {it : CI} {fi xi n : Nat} : ∀ ds, runF p n (lineXB c cap tg it fi xi a) ds = some (.bl true) → (ev p c (enter n ds)).2 = some true ∨ ((ev p c (enter n ds)).2 = some false ∧ CR p (p xi) cap tg it fi a (enter n ds)) := fun ds h => by
  rcases inv_rz (show left (evSS p (rzC c _) (enter n ds)) = _ from h) with ⟨e, _⟩ | ⟨e, h⟩
  · exact .inl e
  · obtain ⟨⟨b, e1⟩, h⟩ := inv_if0 h
    rcases inv_rz h with ⟨e2, _⟩ | ⟨_, h⟩
    · exact .inr ⟨e, cr_of e1 e2⟩
    · cases inv_end h
theorem read_hg {s1 s3 s4 : S} {c c5 a aw : C} {cap : List (Option Nat)} {tg : Tg} {it : CI} {fi xi nx n : Nat} (hbl : ∀ dz r, p nx [dz] = some r → ∃ b, r = .bl b) (n1 : NoR p s1) (n3 : NoR p s3) (n4 : NoR p s4) : ∀ ds, runF p n (readXB s1 s3 s4 c c5 cap tg it fi xi a aw nx) ds = some (.bl true) →
    ∃ ρ1, evS p s1 (enter n ds) = some (.nx ρ1) ∧ ((ev p c ρ1).2 = some true ∨ ((ev p c ρ1).2 = some false ∧ (CR p (p xi) cap tg it fi a ρ1 ∨
      ∃ ρ3, evS p s3 ρ1 = some (.nx ρ3) ∧ ((∃ z dz, (ev p aw ρ3).1 = some z ∧ TW.frz z = some dz ∧ p nx [dz] = some (.bl true)) ∨ ∃ ρ4, evS p s4 ρ3 = some (.nx ρ4) ∧ (ev p c5 ρ4).2 = some true)))) := fun ds h => by
  obtain ⟨ρ1, e1, h⟩ := inv_nr n1 (show left (evSS p (.cons s1 _) (enter n ds)) = _ from h)
  refine ⟨ρ1, e1, ?_⟩
  rcases inv_rz h with ⟨e, _⟩ | ⟨e, h⟩
  · exact .inl e
  · refine .inr ⟨e, ?_⟩
    obtain ⟨⟨b, e1⟩, h⟩ := inv_if0 h
    rcases inv_rz h with ⟨e2, _⟩ | ⟨_, h⟩
    · exact .inl (cr_of e1 e2)
    · obtain ⟨ρ3, e3, h⟩ := inv_nr n3 h
      refine .inr ⟨ρ3, e3, ?_⟩
      rcases inv_rz h with ⟨e4, _⟩ | ⟨_, h⟩
      · obtain ⟨⟨kz, rz⟩, e5, e6⟩ := bnd (show ((ev p (.call nx (slice [aw])) ρ3).1.bind fun x => truD x.2) = some true from e4)
        obtain ⟨z, dz, r, ez1, ez2, ez3, ee⟩ := call1 e5
        cases ee
        obtain ⟨b, rfl⟩ := hbl _ _ ez3
        cases (show some b = some true from e6)
        exact .inl ⟨z, dz, ez1, ez2, ez3⟩
      · obtain ⟨ρ4, e4, h⟩ := inv_nr n4 h
        rcases inv_rz h with ⟨e5, _⟩ | ⟨_, h⟩
        · exact .inr ⟨ρ4, e4, e5⟩
        · cases inv_end h
theorem rz_bl {c : C} {l : SS} {ρ : En} {r0 : D} (h : left (evSS p (rzC c l) ρ) = some r0) : (∃ b, r0 = .bl b) ∨ left (evSS p l ρ) = some r0 := by
  rcases inv_rz h with ⟨_, e⟩ | ⟨_, e⟩
  · exact .inl ⟨true, e⟩
  · exact .inr e
theorem num_bl {c : C} {n : Nat} {ds : List D} {r : D} (h : runF p n (numXB c) ds = some r) : ∃ b, r = .bl b := by
  rcases rz_bl (show left (evSS p (rzC c endF) (enter n ds)) = _ from h) with e | e
  · exact e
  · exact ⟨false, inv_end e⟩
theorem read_bl {s1 s3 s4 : S} {c c5 a aw : C} {cap : List (Option Nat)} {tg : Tg} {it : CI} {fi xi nx n : Nat} (n1 : NoR p s1) (n3 : NoR p s3) (n4 : NoR p s4) {ds : List D} {r : D} (h : runF p n (readXB s1 s3 s4 c c5 cap tg it fi xi a aw nx) ds = some r) : ∃ b, r = .bl b := by
  obtain ⟨ρ1, e1, h⟩ := inv_nr n1 (show left (evSS p (.cons s1 _) (enter n ds)) = _ from h)
  rcases rz_bl h with e | h
  · exact e
  obtain ⟨_, h⟩ := inv_if0 h
  rcases rz_bl h with e | h
  · exact e
  obtain ⟨ρ3, e3, h⟩ := inv_nr n3 h
  rcases rz_bl h with e | h
  · exact e
  obtain ⟨ρ4, e4, h⟩ := inv_nr n4 h
  rcases rz_bl h with e | h
  · exact e
  · exact ⟨false, inv_end h⟩
noncomputable def fndI (l : Nat) : S := .asg false 1 (.call l (slice [(.var 0)]))
noncomputable def fndR : S := .ret (.ix (.ls (slice [(.var 1), (.tp (slice []))])) (.b1 .int (.cmp .Is (.var 1) (.cst .non))))
noncomputable def foundB (r l : Nat) : SS := .cons (.ifs (.call r (slice [(.var 0)])) (block [.ret (.cst .non)]) (block [])) (.cons (fndI l) (.cons fndR .nil))
theorem found_hg {r l m : Nat} (hbl : ∀ dz x, p r [dz] = some x → ∃ b, x = .bl b) : ∀ ds r0, ds.length = 1 → runF p (m + 2) (foundB r l) ds = some r0 → ∃ d1, ds = [d1] ∧ ((r0 = .non ∧ p r [d1] = some (.bl true)) ∨ ∃ ρ1, evS p (fndI l) (enter (m + 2) [d1]) = some (.nx ρ1) ∧ evS p fndR ρ1 = some (.rt r0)) := by
  intro ds r0 hl h
  match ds, hl with
  | [d1], _ =>
    refine ⟨d1, rfl, ?_⟩
    have e0 : (ev p (.call r (slice [(.var 0)])) (enter (m + 2) [d1])).2 = ((p r [d1]).map fun d => (Kd.fz, d)).bind fun x => truD x.2 := rfl
    change left (evSS p (.cons (.ifs (.call r (slice [(.var 0)])) (block [.ret (.cst .non)]) (block [])) (.cons (fndI l) (.cons fndR .nil))) (enter (m + 2) [d1])) = some r0 at h
    rw [evSS_cons, evS_ifs, e0] at h
    cases e1 : p r [d1] with
    | none => rw [e1] at h; cases h
    | some x =>
      obtain ⟨b, rfl⟩ := hbl _ _ e1
      rw [e1] at h
      cases b with
      | true => cases h; exact .inl ⟨rfl, rfl⟩
      | false =>
        obtain ⟨ρ1, e2, h⟩ := inv_nr (s := fndI l) (l := .cons fndR .nil) nr_asg h
        refine .inr ⟨ρ1, e2, ?_⟩
        rw [evSS_cons] at h
        unfold fndR at h ⊢
        rw [evS_ret] at h ⊢
        cases e4 : ((ev p (.ix (.ls (slice [(.var 1), (.tp (slice []))])) (.b1 .int (.cmp .Is (.var 1) (.cst .non)))) ρ1).1.bind frz) with
        | none => rw [e4] at h; cases h
        | some y => rw [e4] at h; cases h; rfl
end
section
variable {P : Program} {w : World} {K : PySem.W.Frag} {mg : Str → Option Value} {base : Heap} {T : Tab} {k : Nat} {d : DefT} {f f2 f3 : Addr} {fd fd2 fd3 : FuncData} {ps2 ps3 : List Str} {bs : List (Nat × SS)}
theorem pf_at {n m : Nat} {b : SS} (h : bs[n]? = some (m, b)) (hn : n ≠ 0) : pf K bs (k + 1) n = runF (pf K bs k) m b := by
  funext args
  show (if n = 0 then cellD K args else match bs[n]? with | some b => runF (pf K bs k) b.1 b.2 args | none => none) = _
  rw [if_neg hn, h]
theorem pf_bl {n m : Nat} {b : SS} (h : bs[n]? = some (m, b)) (hn : n ≠ 0) (hb : ∀ p ds r, runF p m b ds = some r → ∃ b, r = .bl b) : ∀ dz r, pf K bs k n [dz] = some r → ∃ b, r = .bl b := fun dz r e => by
  cases k with
  | zero => cases e
  | succ k => rw [pf_at h hn] at e; exact hb _ _ _ e
theorem num_all {n : Nat} {x m : Str} {C : Addr} {j : Nat} {np cp cpos rpos ipos : Pos} {test : Expr} {rest : List Stmt} {c : TW.C} (hbs : bs[n]? = some ((defScope d.st).names.length, numXB c)) (hn : n ≠ 0) (D : DefAt K mg d f fd) (hs : scopeIs d.ps (defScope d.st) = true)
    (hb : defBody d.st = .If test [.Raise (some (.Call (.Name x np) [.Constant (.str m) j cp] [] cpos)) none rpos] [] ipos :: rest) (hc : chk T c (defScope d.st).names test = true) (hni : isIf test = false)
    (hx : (defScope d.st).names.lookup x = some .globalImplicit) (hmx : mg x = some (.ref C)) (he : PySem.W.excIn K C bmV "ValueError.__new__" = true) (hdb : (x == ("__debug__" : Str)) = false)
    (blt : ∀ x, x ∈ bltN → mg x = none) (gls : ∀ x c, T.gls.lookup x = some c → ∀ d, cstIs d c = true → ∃ v u, mg x = some u ∧ RelV v u ∧ ∀ G, Rp G d v)
    (fns : ∀ k', k' < k → ∀ f x nn, T.fns[f]? = some (x, nn) → ∃ a fd ps, FnOk P w K mg base CX0 k' a fd ps (spD nn (pf K bs k' f)) ∧ mg x = some (.ref a) ∧ PySem.W.keepIn K (.ref a) = true ∧ Binds K fd ps []) :
    FnOk P w K mg base (CXr P w) k f fd d.ps (spX C d.ps.length (pf K bs k n)) := by
  cases k with
  | zero => exact spX_none rfl
  | succ k =>
    rw [pf_at hbs hn]
    exact raise_fnG D hs hb hc hni hx hmx he hdb blt gls (fns k (Nat.lt_succ_self k)) num_hg
theorem line_all {n xi : Nat} {x m : Str} {C : Addr} {j : Nat} {np cp cpos rpos ipos : Pos} {test : Expr} {c a : TW.C} {cap : List (Option Nat)} {tg : Tg} {it : CI} {fi : Nat} {y : Str} {arg target iter : Expr} {scope : Scope} {yp ycp pos tp kp rp : Pos} (hbs : bs[n]? = some ((defScope d.st).names.length, lineXB c cap tg it fi xi a)) (hn : n ≠ 0) (D : DefAt K mg d f fd) (hs : scopeIs d.ps (defScope d.st) = true)
    (hb : defBody d.st = [.If test [.Raise (some (.Call (.Name x np) [.Constant (.str m) j cp] [] cpos)) none rpos] [] ipos, .Return (some (.Call (.Name "tuple" tp) [.ListComp (.Call (.Name y yp) [arg] [] ycp) [⟨target, iter, [], 0⟩] scope pos] [] kp)) rp])
    (hc : chk T c (defScope d.st).names test = true) (hni : isIf test = false)
    (hx : (defScope d.st).names.lookup x = some .globalImplicit) (hmx : mg x = some (.ref C)) (he : PySem.W.excIn K C bmV "ValueError.__new__" = true) (hdb : (x == ("__debug__" : Str)) = false)
    (hgt : (defScope d.st).names.lookup ("tuple" : Str) = some .globalImplicit)
    (hcr : chk T (.comp cap tg it .no (.call fi (slice [a]))) (defScope d.st).names (.ListComp (.Call (.Name y yp) [arg] [] ycp) [⟨target, iter, [], 0⟩] scope pos) = true)
    (F2 : ∀ k', k' < k → FnOk P w K mg base (CXr P w) k' f2 fd2 ps2 (spX C 1 (pf K bs k' xi))) (hm2 : mg y = some (.ref f2)) (hk2 : PySem.W.keepIn K (.ref f2) = true) (hb2 : Binds K fd2 ps2 [])
    (blt : ∀ x, x ∈ bltN → mg x = none) (gls : ∀ x c, T.gls.lookup x = some c → ∀ d, cstIs d c = true → ∃ v u, mg x = some u ∧ RelV v u ∧ ∀ G, Rp G d v)
    (fns : ∀ k', k' < k → ∀ f x nn, T.fns[f]? = some (x, nn) → ∃ a fd ps, FnOk P w K mg base CX0 k' a fd ps (spD nn (pf K bs k' f)) ∧ mg x = some (.ref a) ∧ PySem.W.keepIn K (.ref a) = true ∧ Binds K fd ps []) :
    FnOk P w K mg base (CXr P w) k f fd d.ps (spX C d.ps.length (pf K bs k n)) := by
  cases k with
  | zero => exact spX_none rfl
  | succ k =>
    rw [pf_at hbs hn]
    exact raise_tail D hs hb hc hni hx hmx he hdb hgt hcr (F2 k (Nat.lt_succ_self k)) hm2 hk2 hb2 blt gls (fns k (Nat.lt_succ_self k)) line_hg
theorem read_all {n xi nx : Nat} {x m m5 : Str} {C : Addr} {j j5 : Nat} {np cp cpos rpos ipos np5 cp5 cpos5 rpos5 ipos5 : Pos} {test test5 e4b : Expr} {st1 : Stmt} {rest : List Stmt} {s1 s3 s4 : S} {c c5 a aw : TW.C} {cap : List (Option Nat)} {tg : Tg} {it : CI} {fi i4 : Nat} {y y2 ln gr : Str} {arg arg2 target iter : Expr} {scope : Scope} {yp ycp pos lp sp3 gp sp4 y2p y2cp tp4 : Pos} {kt}
    (hbs : bs[n]? = some ((defScope d.st).names.length, readXB s1 s3 s4 c c5 cap tg it fi xi a aw nx)) (hn : n ≠ 0) (hbl : ∀ k dz r, pf K bs k nx [dz] = some r → ∃ b, r = .bl b) (n1 : ∀ p, NoR p s1) (n3 : ∀ p, NoR p s3) (n4 : ∀ p, NoR p s4)
    (D : DefAt K mg d f fd) (hs : scopeIs d.ps (defScope d.st) = true)
    (hb : defBody d.st = st1 :: .If test [.Raise (some (.Call (.Name x np) [.Constant (.str m) j cp] [] cpos)) none rpos] [] ipos :: .Assign [.Name ln lp] (.ListComp (.Call (.Name y yp) [arg] [] ycp) [⟨target, iter, [], 0⟩] scope pos) sp3 ::
      .Assign [.Name gr gp] (.Tuple [.Call (.Name y2 y2p) [arg2] [] y2cp, e4b] kt tp4) sp4 :: .If test5 [.Raise (some (.Call (.Name x np5) [.Constant (.str m5) j5 cp5] [] cpos5)) none rpos5] [] ipos5 :: rest)
    (h1 : chkS T s1 (defScope d.st).names st1 = true) (hc : chk T c (defScope d.st).names test = true) (hni : isIf test = false)
    (h3 : chkS T s3 (defScope d.st).names (.Assign [.Name ln lp] (.ListComp (.Call (.Name y yp) [arg] [] ycp) [⟨target, iter, [], 0⟩] scope pos) sp3) = true)
    (hcr : chk T (.comp cap tg it .no (.call fi (slice [a]))) (defScope d.st).names (.ListComp (.Call (.Name y yp) [arg] [] ycp) [⟨target, iter, [], 0⟩] scope pos) = true)
    (hsw3 : ∀ n cd, swapsWith (.ListComp (.Call (.Name y yp) [arg] [] ycp) [⟨target, iter, [], 0⟩] scope pos) (some (.Name ln lp)) sp3.line (envOfC d.name (defScope d.st) n f cd) = pure true)
    (h4 : chkS T s4 (defScope d.st).names (.Assign [.Name gr gp] (.Tuple [.Call (.Name y2 y2p) [arg2] [] y2cp, e4b] kt tp4) sp4) = true)
    (h4a : chk T aw (defScope d.st).names arg2 = true) (h4g : glob (defScope d.st).names y2 = true) (h4d : notDbg y2 = true) (h4s : isStar arg2 = false) (h4e : isStar e4b = false) (h4i : slotL (defScope d.st).names i4 gr = true)
    (hc5 : chk T c5 (defScope d.st).names test5 = true) (hni5 : isIf test5 = false)
    (hx : (defScope d.st).names.lookup x = some .globalImplicit) (hmx : mg x = some (.ref C)) (he : PySem.W.excIn K C bmV "ValueError.__new__" = true) (hdb : (x == ("__debug__" : Str)) = false)
    (F2 : ∀ k', k' < k → FnOk P w K mg base (CXr P w) k' f2 fd2 ps2 (spX C 1 (pf K bs k' xi))) (hm2 : mg y = some (.ref f2)) (hk2 : PySem.W.keepIn K (.ref f2) = true) (hb2 : Binds K fd2 ps2 [])
    (F3 : ∀ k', k' < k → FnOk P w K mg base (CXr P w) k' f3 fd3 ps3 (spX C 1 (pf K bs k' nx))) (hm3 : mg y2 = some (.ref f3)) (hk3 : PySem.W.keepIn K (.ref f3) = true) (hb3 : Binds K fd3 ps3 [])
    (blt : ∀ x, x ∈ bltN → mg x = none) (gls : ∀ x c, T.gls.lookup x = some c → ∀ d, cstIs d c = true → ∃ v u, mg x = some u ∧ RelV v u ∧ ∀ G, Rp G d v)
    (fns : ∀ k', k' < k → ∀ f x nn, T.fns[f]? = some (x, nn) → ∃ a fd ps, FnOk P w K mg base CX0 k' a fd ps (spD nn (pf K bs k' f)) ∧ mg x = some (.ref a) ∧ PySem.W.keepIn K (.ref a) = true ∧ Binds K fd ps []) :
    FnOk P w K mg base (CXr P w) k f fd d.ps (spX C d.ps.length (pf K bs k n)) := by
  cases k with
  | zero => exact spX_none rfl
  | succ k =>
    rw [pf_at hbs hn]
    exact raise_read D hs hb h1 hc hni h3 hcr hsw3 h4 h4a h4g h4d h4s h4e h4i hc5 hni5 hx hmx he hdb (F2 k (Nat.lt_succ_self k)) hm2 hk2 hb2 (F3 k (Nat.lt_succ_self k)) hm3 hk3 hb3 blt gls (fns k (Nat.lt_succ_self k)) (read_hg (hbl k) (n1 _) (n3 _) (n4 _))
end
end TW
end
section
set_option Elab.async false
set_option linter.all false
namespace UF
noncomputable def gt (f : List Nat) (u : Nat) : Nat := f.getD u 0
noncomputable def mrg (f : List Nat) (x y : Nat) : List Nat := f.map fun z => if z = x ∨ z = y then min x y else z
noncomputable def step (f : List Nat) (l : Nat × Nat) : List Nat := mrg f (gt f l.1) (gt f l.2)
structure Ok (m : Nat) (f : List Nat) : Prop where
  len : f.length = m
  le : ∀ u, u < m → gt f u ≤ u
  rt : ∀ u, u < m → gt f (gt f u) = gt f u
theorem Ok.lt {m : Nat} {f : List Nat} (h : Ok m f) {u : Nat} (hu : u < m) : gt f u < m := Nat.lt_of_le_of_lt (h.le u hu) hu
noncomputable def roots (m : Nat) (f : List Nat) : List Nat := (List.range m).filter fun u => decide (gt f u = u)
structure Ker (m : Nat) (f g : List Nat) : Prop where
  len : g.length = m
  iff : ∀ u v, u < m → v < m → (gt f u = gt f v ↔ gt g u = gt g v)
noncomputable def cls (m : Nat) (f : List Nat) (v : Nat) : List Nat := (List.range m).filter fun u => decide (gt f u = gt f v)
noncomputable def run (m : Nat) (ls : List (Nat × Nat)) : List Nat := ls.foldl step (List.range m)
noncomputable def In (m : Nat) (ls : List (Nat × Nat)) : Prop := ∀ l ∈ ls, l.1 < m ∧ l.2 < m
noncomputable def groups (m : Nat) (ls : List (Nat × Nat)) : List (List Nat) := (roots m (run m ls)).map (cls m (run m ls))
end UF
end
section
set_option Elab.async false
set_option linter.all false
namespace UF
noncomputable def CB (n : Nat) : Nat → Nat → List (List Nat)
  | 0, _ => [[]]
  | k + 1, s => (List.range' s (n - s)).flatMap fun i => (CB n k (i + 1)).map (i :: ·)
noncomputable def nxt (s : Nat) (c : List Nat) : Nat := match c.getLast? with
  | some x => x + 1
  | none => s
noncomputable def more (n s : Nat) (c : List Nat) : List (List Nat) := (List.range' (nxt s c) (n - nxt s c)).map fun j => c ++ [j]
noncomputable def ch : Nat → Nat → Nat
  | _, 0 => 1
  | 0, _ + 1 => 0
  | n + 1, k + 1 => ch n k + ch n (k + 1)
noncomputable def ends (ls : List (Nat × Nat)) (c : List Nat) : List (Nat × Nat) := c.map fun i => ls.getD i (0, 0)
noncomputable def grow1 (ls : List (Nat × Nat)) (c f : List Nat) (j : Nat) : Option (List Nat × List Nat) :=
  if gt f (ls.getD j (0, 0)).1 ≠ gt f (ls.getD j (0, 0)).2 then some (c ++ [j], step f (ls.getD j (0, 0))) else none
noncomputable def grown (ls : List (Nat × Nat)) (x : List Nat × List Nat) : List (List Nat × List Nat) := (List.range' (nxt 0 x.1) (ls.length - nxt 0 x.1)).filterMap (grow1 ls x.1 x.2)
end UF
end
section
set_option Elab.async false
set_option linter.all false
set_option maxHeartbeats 1000000
namespace TW
open PySem UF
theorem evSS_nx {p : Nat → List D → Option D} {s : S} {l : SS} {r r' : En} (h : evS p s r = some (.nx r')) : evSS p (.cons s l) r = evSS p l r' := by rw [evSS_cons, h]; rfl
theorem evSS_rt {p : Nat → List D → Option D} {s : S} {l : SS} {r : En} {d : D} (h : evS p s r = some (.rt d)) : evSS p (.cons s l) r = some (.rt d) := by rw [evSS_cons, h]; rfl
theorem for_fold {p : Nat → List D → Option D} {tg : Tg} {it : CI} {b : SS} {α β : Type} {em : β → D} {k : Kd} (R : α → En → Prop) (st : α → β → α) {xs : List β} {s : α} {r : En} (hi : evI p it r = some (k, xs.map em)) (hk : k ≠ .bo) (h0 : R s r)
    (hs : ∀ s x r, x ∈ xs → R s r → ∃ q r', bindT tg (em x) r = some q ∧ evSS p b q = some (.nx r') ∧ R (st s x) r') : ∃ r', evS p (.fr tg it b) r = some (.nx r') ∧ R (xs.foldl st s) r' := by
  obtain ⟨r', e, h⟩ := loopF_fold (tg := tg) (f := fun q => evSS p b q) R st xs s r hs h0
  refine ⟨r', ?_, h⟩
  rw [evS_fr, hi]
  cases k with
  | bo => exact absurd rfl hk
  | fz => exact e
  | fr => exact e
theorem for_foldi {p : Nat → List D → Option D} {tg : Tg} {it : CI} {b : SS} {α β : Type} {em : β → D} {k : Kd} (R : Nat → α → En → Prop) (st : α → β → α) {xs : List β} {s : α} {r : En} (hi : evI p it r = some (k, xs.map em)) (hk : k ≠ .bo) (h0 : R 0 s r)
    (hs : ∀ i s x r, xs[i]? = some x → R i s r → ∃ q r', bindT tg (em x) r = some q ∧ evSS p b q = some (.nx r') ∧ R (i + 1) (st s x) r') : ∃ r', evS p (.fr tg it b) r = some (.nx r') ∧ R xs.length (xs.foldl st s) r' := by
  obtain ⟨r', e, h⟩ := loopF_foldi (tg := tg) (f := fun q => evSS p b q) R st xs 0 s r (by simpa using hs) h0
  refine ⟨r', ?_, by simpa using h⟩
  rw [evS_fr, hi]
  cases k with
  | bo => exact absurd rfl hk
  | fz => exact e
  | fr => exact e
theorem comp_ev {p : Nat → List D → Option D} {cap : List (Option Nat)} {tg : Tg} {it : CI} {cd : CO} {e : C} {r : En} {β : Type} {em : β → D} {g : β → Option D} {xs : List β} {k : Kd} (hi : evI p it r = some (k, xs.map em)) (hl : xs.length ≤ 65536) (hf : freeT cap tg = true)
    (h : ∀ x ∈ xs, ((bindT tg (em x) (capt r cap)).bind fun q => (evO p cd q).2.bind fun k => if k = true then ((ev p e q).1.bind frz).map some else some none) = some (g x)) : (ev p (.comp cap tg it cd e) r).1 = some (.fr, .lst (xs.filterMap g)) := by
  rw [ev_comp, hi]
  show (if (xs.map em).length ≤ lim ∧ freeT cap tg = true then _ else none) = _
  rw [if_pos ⟨by simpa using hl, hf⟩]
  dsimp only
  rw [compGo_emb h]
  rfl
theorem comp_map {p : Nat → List D → Option D} {cap : List (Option Nat)} {tg : Tg} {it : CI} {cd : CO} {e : C} {r : En} {β γ : Type} {em : β → D} {en : γ → D} {g : β → γ} {xs : List β} {k : Kd} (hi : evI p it r = some (k, xs.map em)) (hl : xs.length ≤ 65536) (hf : freeT cap tg = true)
    (h : ∀ x ∈ xs, ((bindT tg (em x) (capt r cap)).bind fun q => (evO p cd q).2.bind fun k => if k = true then ((ev p e q).1.bind frz).map some else some none) = some (some (en (g x)))) : (ev p (.comp cap tg it cd e) r).1 = some (.fr, .lst ((xs.map g).map en)) := by
  rw [comp_ev (g := fun x => some (en (g x))) hi hl hf h, List.map_map]
  congr 3
  clear h hi hl
  induction xs with
  | nil => rfl
  | cons x r ih => simpa using ih
theorem comp_filter {p : Nat → List D → Option D} {cap : List (Option Nat)} {tg : Tg} {it : CI} {cd : CO} {e : C} {r : En} {β : Type} {em : β → D} {c : β → Bool} {xs : List β} {k : Kd} (hi : evI p it r = some (k, xs.map em)) (hl : xs.length ≤ 65536) (hf : freeT cap tg = true)
    (h : ∀ x ∈ xs, ((bindT tg (em x) (capt r cap)).bind fun q => (evO p cd q).2.bind fun k => if k = true then ((ev p e q).1.bind frz).map some else some none) = some (if c x = true then some (em x) else none)) : (ev p (.comp cap tg it cd e) r).1 = some (.fr, .lst ((xs.filter c).map em)) := by
  rw [comp_ev hi hl hf h]
  congr 3
  clear h hi hl
  induction xs with
  | nil => rfl
  | cons x r ih => cases e : c x <;> simp [e, ih]
theorem asg_fr {p : Nat → List D → Option D} {i : Nat} {c : C} {r : En} {d : D} (h : (ev p c r).1 = some (.fr, d)) : evS p (.asg false i c) r = some (.nx (r.set i (some (.val d)))) := by rw [evS_asg, h]; rfl
theorem asg_fz {p : Nat → List D → Option D} {i : Nat} {c : C} {r : En} {d : D} (h : (ev p c r).1 = some (.fz, d)) : evS p (.asg false i c) r = some (.nx (r.set i (some (.val d)))) := by rw [evS_asg, h]; rfl
noncomputable def drawn (n j : Int) : Int := ((n + 104729 * j + 17) * 69621 % 2147483647 * ((n + 104729 * j + 17) * 69621 % 2147483647) + 3 * ((n + 104729 * j + 17) * 69621 % 2147483647) + j) % 2147483629
noncomputable def Bdrawn : SS := (block [.asg false 2 (.bin .Mod (.bin .Mult (.bin .Add (.bin .Add (.var 0) (.bin .Mult (.cst (.int 104729)) (.var 1))) (.cst (.int 17))) (.cst (.int 69621))) (.cst (.int 2147483647))), .ret (.bin .Mod (.bin .Add (.bin .Add (.bin .Mult (.var 2) (.var 2)) (.bin .Mult (.cst (.int 3)) (.var 2))) (.var 1)) (.cst (.int 2147483629)))])
theorem drawn_ev (p : Nat → List D → Option D) (n j : Int) : runF p 3 Bdrawn [.int n, .int j] = some (.int (drawn n j)) := by
  have h1 : 0 ≤ (n + 104729 * j + 17) * 69621 % 2147483647 := Int.emod_nonneg _ (by decide)
  have h2 : (n + 104729 * j + 17) * 69621 % 2147483647 < 2147483647 := Int.emod_lt_of_pos _ (by decide)
  simp (disch := first | omega | simp) [runF, Bdrawn, enter, opD_mul_l, opD_mul_r, opD_mod, drawn]
theorem drawn_nonneg (n j : Int) : 0 ≤ drawn n j ∧ drawn n j < 2147483629 := ⟨Int.emod_nonneg _ (by decide), Int.emod_lt_of_pos _ (by decide)⟩
noncomputable def mixV (v k : Int) : Int := ((v + 7919 * k + 1) * 48271 % 2147483647 * ((v + 7919 * k + 1) * 48271 % 2147483647) + 7 * ((v + 7919 * k + 1) * 48271 % 2147483647) + k) % 2147483629
noncomputable def Bmixed (i0 : Nat) : SS := (block [.asg false 2 (.bin .Mod (.bin .Mult (.bin .Add (.bin .Add (.call i0 (slice [(.var 0), (.var 1)])) (.bin .Mult (.cst (.int 7919)) (.var 1))) (.cst (.int 1))) (.cst (.int 48271))) (.cst (.int 2147483647))), .ret (.bin .Mod (.bin .Add (.bin .Add (.bin .Mult (.var 2) (.var 2)) (.bin .Mult (.cst (.int 7)) (.var 2))) (.var 1)) (.cst (.int 2147483629)))])
theorem mixed_ev (p : Nat → List D → Option D) {i0 : Nat} {s : D} {k v : Int} (h : p i0 [s, .int k] = some (.int v)) : runF p 4 (Bmixed i0) [s, .int k] = some (.int (mixV v k)) := by
  have h1 : 0 ≤ (v + 7919 * k + 1) * 48271 % 2147483647 := Int.emod_nonneg _ (by decide)
  have h2 : (v + 7919 * k + 1) * 48271 % 2147483647 < 2147483647 := Int.emod_lt_of_pos _ (by decide)
  simp (disch := first | omega | simp) [runF, Bmixed, enter, opD_mul_l, opD_mul_r, opD_mod, mixV, h]
theorem mixV_nonneg (n j : Int) : 0 ≤ mixV n j ∧ mixV n j < 2147483629 := ⟨Int.emod_nonneg _ (by decide), Int.emod_lt_of_pos _ (by decide)⟩
noncomputable def Bnumber : SS := (block [.ret (.an (.isi (.var 0) .int) (.an (.nt (.isi (.var 0) .bool)) (.cmp2 .LtE .LtE (.var 1) (.var 0) (.var 2))))])
theorem number_ev (p : Nat → List D → Option D) (x lo hi : Int) : runF p 6 Bnumber [.int x, .int lo, .int hi] = some (.bl (decide (lo ≤ x ∧ x ≤ hi))) := by
  simp [runF, Bnumber, enter]
  by_cases h : lo ≤ x <;> simp [h]
end TW
end
section
set_option Elab.async false
set_option linter.all false
set_option maxHeartbeats 1000000
namespace TW
open PySem UF
noncomputable def lineD (l : Nat × Nat × Nat) : D := .tup [dn l.1, dn l.2.1, dn l.2.2]
noncomputable def lOk (m : Nat) (l : Nat × Nat × Nat) : Prop := l.1 < l.2.1 ∧ l.2.1 < m ∧ l.2.2 ≤ 1000
noncomputable def groundD (m : Nat) (ls : List (Nat × Nat × Nat)) : D := .tup [dn m, .tup (ls.map lineD)]
theorem cut_from {α : Type} (xs : List α) (v : Nat) : cut xs (some (v : Int)) none = xs.drop v := by
  have h : (min (v : Int) (xs.length : Int)).toNat = min v xs.length := by omega
  simp only [cut, sIx, if_neg (show ¬ (v : Int) < 0 by omega), h]
  rw [List.take_of_length_le (by simp)]
  by_cases hv : v ≤ xs.length
  · rw [Nat.min_eq_left hv]
  · rw [Nat.min_eq_right (by omega), List.drop_length, List.drop_eq_nil_of_le (by omega)]
theorem cut_to {α : Type} (xs : List α) (v : Nat) : cut xs none (some (v : Int)) = xs.take v := by
  have h : (min (v : Int) (xs.length : Int)).toNat = min v xs.length := by omega
  simp only [cut, sIx, if_neg (show ¬ (v : Int) < 0 by omega), h, List.drop_zero, Nat.sub_zero]
  by_cases hv : v ≤ xs.length
  · rw [Nat.min_eq_left hv]
  · rw [Nat.min_eq_right (by omega), List.take_length, List.take_of_length_le (by omega)]
noncomputable def BG1 (iD : Nat) : SS := (block [.asg false 7 (.call iD (slice [(.var 0), (.var 6)])), .ifs (.orr (.cmp .Gt (.bin .Mod (.bin .FloorDiv (.var 0) (.cst (.int 32))) (.cst (.int 3))) (.cst (.int 0))) (.cmp .Gt (.bin .Mod (.var 7) (.cst (.int 4))) (.cst (.int 0)))) (block [.app 4 (.tp (slice [(.bin .Mod (.bin .FloorDiv (.var 7) (.cst (.int 4))) (.var 6)), (.var 6), (.bin .Mod (.bin .FloorDiv (.var 7) (.cst (.int 64))) (.var 5))]))]) (block [])])
noncomputable def BG2 (iD : Nat) : SS := (block [.asg false 7 (.call iD (slice [(.var 0), (.bin .Add (.cst (.int 20)) (.var 8))])), .ifs (.an (.cmp .Gt (.var 3) (.cst (.int 1))) (.cmp .Lt (.b1 .len (.var 4)) (.var 2))) (block [.asg false 9 (.bin .Mod (.var 7) (.var 3)), .asg false 10 (.bin .Mod (.bin .Add (.bin .Add (.var 9) (.cst (.int 1))) (.bin .Mod (.bin .FloorDiv (.var 7) (.cst (.int 8))) (.bin .Sub (.var 3) (.cst (.int 1))))) (.var 3)), .app 4 (.tp (slice [(.b2 .min (.var 9) (.var 10)), (.b2 .max (.var 9) (.var 10)), (.bin .Mod (.bin .FloorDiv (.var 7) (.cst (.int 64))) (.var 5))]))]) (block [])])
noncomputable def Bground (iD : Nat) : SS := (block [.asg false 3 (.bin .Add (.cst (.int 1)) (.bin .Mod (.var 0) (.var 1))), .asg true 4 (.ls (slice [])), .asg false 5 (.ix (.tp (slice [(.cst (.int 1)), (.cst (.int 3)), (.cst (.int 10)), (.cst (.int 1001))])) (.bin .Mod (.bin .FloorDiv (.var 0) (.cst (.int 8))) (.cst (.int 4)))), .fr (.one 6) (.r2 (.cst (.int 1)) (.var 3)) (BG1 iD), .fr (.one 8) (.r1 (.bin .Mod (.bin .FloorDiv (.var 0) (.cst (.int 96))) (.bin .Add (.var 2) (.cst (.int 1))))) (BG2 iD), .asg false 11 (.bin .Mod (.bin .FloorDiv (.var 0) (.cst (.int 2000))) (.cst (.int 13))), .ret (.tp (slice [(.var 3), (.b1 .tuple (.bin .Add (.sl (.var 4) (.so (.var 11)) .no) (.sl (.var 4) .no (.so (.var 11)))))]))])
section
variable (p : Nat → List D → Option D) {iD : Nat} (hD : ∀ n j : Int, p iD [.int n, .int j] = some (.int (drawn n j)))
noncomputable def gEn (n : Int) (most L m : Nat) (h : Int) (ls : List (Nat × Nat × Nat)) (x6 x7 x8 x9 x10 : Option Sl) : En :=
  [some (.val (.int n)), some (.val (dn most)), some (.val (dn L)), some (.val (dn m)), some (.own (ls.map lineD)), some (.val (.int h)), x6, x7, x8, x9, x10, none, none, none, none, none, none, none]
include hD
theorem bg1_ev {n : Int} {most L m : Nat} {h : Int} {ls : List (Nat × Nat × Nat)} {x7 x8 x9 x10 : Option Sl} {s : Nat} (hh : 0 < h ∧ h ≤ 1001) (hs : 0 < s) (hsm : s < m) (hm : m ≤ 7) (hl : ls.length < 65536) :
    ∃ ls' x7', evSS p (BG1 iD) (gEn n most L m h ls (some (.val (dn s))) x7 x8 x9 x10) = some (.nx (gEn n most L m h ls' (some (.val (dn s))) x7' x8 x9 x10)) ∧ ls'.length ≤ ls.length + 1 ∧ ((∀ l ∈ ls, lOk m l) → ∀ l ∈ ls', lOk m l) := by
  obtain ⟨d1, d2⟩ := drawn_nonneg n s
  have e1 : evS p (.asg false 7 (.call iD (slice [(.var 0), (.var 6)]))) (gEn n most L m h ls (some (.val (dn s))) x7 x8 x9 x10) = some (.nx (gEn n most L m h ls (some (.val (dn s))) (some (.val (.int (drawn n s)))) x8 x9 x10)) := by
    simp [gEn, hD]
  generalize drawn n s = d at *
  show ∃ ls' x7', evSS p (.cons _ (.cons _ .nil)) _ = _ ∧ _
  rw [evSS_nx e1]
  have a1 : ∃ a : Nat, d / 4 % (s : Int) = a ∧ a < s := ⟨(d / 4 % (s : Int)).toNat, by
    have := Int.emod_nonneg (d / 4) (show (s : Int) ≠ 0 by omega)
    omega, by
    have := Int.emod_nonneg (d / 4) (show (s : Int) ≠ 0 by omega)
    have := Int.emod_lt_of_pos (d / 4) (show (0 : Int) < s by omega)
    omega⟩
  have a2 : ∃ a : Nat, d / 64 % h = a ∧ a ≤ 1000 := ⟨(d / 64 % h).toNat, by
    have := Int.emod_nonneg (d / 64) (show h ≠ 0 by omega)
    omega, by
    have := Int.emod_nonneg (d / 64) (show h ≠ 0 by omega)
    have := Int.emod_lt_of_pos (d / 64) (show 0 < h by omega)
    omega⟩
  obtain ⟨a, ea, ha⟩ := a1
  obtain ⟨b, eb, hb⟩ := a2
  have hs' : (0 : Int) < s := by omega
  have hh0 := hh.1
  have main : ∀ c : Bool, (evS p (.ifs (.orr (.cmp .Gt (.bin .Mod (.bin .FloorDiv (.var 0) (.cst (.int 32))) (.cst (.int 3))) (.cst (.int 0))) (.cmp .Gt (.bin .Mod (.var 7) (.cst (.int 4))) (.cst (.int 0)))) (block [.app 4 (.tp (slice [(.bin .Mod (.bin .FloorDiv (.var 7) (.cst (.int 4))) (.var 6)), (.var 6), (.bin .Mod (.bin .FloorDiv (.var 7) (.cst (.int 64))) (.var 5))]))]) (block [])) (gEn n most L m h ls (some (.val (dn s))) (some (.val (.int d))) x8 x9 x10) =
      some (.nx (gEn n most L m h (if (decide (0 < n / 32 % 3) || decide (0 < d % 4)) = true then ls ++ [(a, s, b)] else ls) (some (.val (dn s))) (some (.val (.int d))) x8 x9 x10))) := fun _ => by
    by_cases c1 : 0 < n / 32 % 3
    · simp (disch := first | omega | simp) [gEn, opD_div, opD_mod, c1, ea, eb, hl, lineD]
    · by_cases c2 : 0 < d % 4
      · simp (disch := first | omega | simp) [gEn, opD_div, opD_mod, c1, c2, ea, eb, hl, lineD]
      · simp (disch := first | omega | simp) [gEn, opD_div, opD_mod, c1, c2]
  rw [evSS_nx (main true)]
  refine ⟨_, _, rfl, ?_, ?_⟩
  · split <;> simp
  · intro ho l hx
    split at hx
    · rcases List.mem_append.mp hx with hx | hx
      · exact ho l hx
      · have : l = (a, s, b) := by simpa using hx
        subst this
        exact ⟨ha, hsm, hb⟩
    · exact ho l hx
theorem bg2_ev {n : Int} {most L m : Nat} {h : Int} {ls : List (Nat × Nat × Nat)} {x6 x7 x9 x10 : Option Sl} {s : Nat} (hh : 0 < h ∧ h ≤ 1001) (hm0 : 0 < m) (hm : m ≤ 7) (hl : ls.length < 65536) :
    ∃ ls' x7' x9' x10', evSS p (BG2 iD) (gEn n most L m h ls x6 x7 (some (.val (dn s))) x9 x10) = some (.nx (gEn n most L m h ls' x6 x7' (some (.val (dn s))) x9' x10')) ∧ (ls'.length = ls.length ∨ ls'.length ≤ L) ∧ ((∀ l ∈ ls, lOk m l) → ∀ l ∈ ls', lOk m l) := by
  obtain ⟨d1, d2⟩ := drawn_nonneg n (20 + s)
  have e1 : evS p (.asg false 7 (.call iD (slice [(.var 0), (.bin .Add (.cst (.int 20)) (.var 8))]))) (gEn n most L m h ls x6 x7 (some (.val (dn s))) x9 x10) = some (.nx (gEn n most L m h ls x6 (some (.val (.int (drawn n (20 + s))))) (some (.val (dn s))) x9 x10)) := by
    simp [gEn, hD]
  generalize drawn n (20 + s) = d at *
  show ∃ ls' x7' x9' x10', evSS p (.cons _ (.cons _ .nil)) _ = _ ∧ _
  rw [evSS_nx e1]
  by_cases c1 : 1 < m
  · by_cases c2 : ls.length < L
    · have q1 := Int.emod_nonneg d (show (m : Int) ≠ 0 by omega)
      have q2 := Int.emod_lt_of_pos d (show (0 : Int) < m by omega)
      have q3 := Int.emod_nonneg (d / 8) (show (m : Int) - 1 ≠ 0 by omega)
      have q4 := Int.emod_lt_of_pos (d / 8) (show (0 : Int) < (m : Int) - 1 by omega)
      have q5 := Int.emod_nonneg (d / 64) (show h ≠ 0 by omega)
      have q6 := Int.emod_lt_of_pos (d / 64) (show 0 < h by omega)
      obtain ⟨b, eb, hb⟩ : ∃ a : Nat, d / 64 % h = a ∧ a ≤ 1000 := ⟨(d / 64 % h).toNat, by omega, by omega⟩
      obtain ⟨u, eu, hu⟩ : ∃ a : Nat, d % (m : Int) = a ∧ a < m := ⟨(d % (m : Int)).toNat, by omega, by omega⟩
      obtain ⟨w, ew, hw⟩ : ∃ a : Nat, d / 8 % ((m : Int) - 1) = a ∧ a < m - 1 := ⟨(d / 8 % ((m : Int) - 1)).toNat, by omega, by omega⟩
      obtain ⟨v, ev', hv, huv⟩ : ∃ v : Nat, ((u : Int) + 1 + w) % (m : Int) = v ∧ v < m ∧ u ≠ v := by
        by_cases hz : u + 1 + w < m
        · exact ⟨u + 1 + w, by rw [Int.emod_eq_of_lt (by omega) (by omega)]; omega, hz, by omega⟩
        · refine ⟨u + 1 + w - m, ?_, by omega, by omega⟩
          have : ((u : Int) + 1 + w) = ((u + 1 + w - m : Nat) : Int) + m := by omega
          rw [this, Int.add_emod_right, Int.emod_eq_of_lt (by omega) (by omega)]
      have hh0 := hh.1
      have hm1 : (0 : Int) < m := by omega
      have hm2 : (0 : Int) < (m : Int) - 1 := by omega
      have c1' : (1 : Int) < m := by omega
      have c2' : (ls.length : Int) < L := by omega
      have mn : (if (v : Int) < u then (v : Int) else u) = ((min u v : Nat) : Int) := by split <;> omega
      have mx : (if (u : Int) < v then (v : Int) else u) = ((max u v : Nat) : Int) := by split <;> omega
      have mn' : (if v < u then (v : Int) else u) = ((min u v : Nat) : Int) := by split <;> omega
      have mx' : (if u < v then (v : Int) else u) = ((max u v : Nat) : Int) := by split <;> omega
      refine ⟨ls ++ [(min u v, max u v, b)], some (.val (.int d)), some (.val (dn u)), some (.val (dn v)), ?_, .inr (by simp; omega), ?_⟩
      · simp (disch := first | omega | simp) [gEn, opD_div, opD_mod, c1, c2, c1', eb, eu, ew, ev', hl, lineD, mn', mx']
      · intro ho l hx
        rcases List.mem_append.mp hx with hx | hx
        · exact ho l hx
        · have : l = (min u v, max u v, b) := by simpa using hx
          subst this
          exact ⟨by show min u v < max u v; omega, by show max u v < m; omega, hb⟩
    · refine ⟨ls, some (.val (.int d)), x9, x10, ?_, .inl rfl, fun z => z⟩
      have c2' : ¬ (ls.length : Int) < L := by omega
      simp [gEn, c1, c2, (show (1 : Int) < m by omega)]
  · refine ⟨ls, some (.val (.int d)), x9, x10, ?_, .inl rfl, fun z => z⟩
    have c1' : ¬ (1 : Int) < m := by omega
    simp [gEn, c1, c1']
theorem ground_ev {n : Int} {L : Nat} (hn : 0 ≤ n) (hL : L ≤ 1000) : ∃ m ls, runF p 18 (Bground iD) [.int n, .int 7, .int L] = some (groundD m ls) ∧ 0 < m ∧ m ≤ 7 ∧ ls.length ≤ max 6 L ∧ ∀ l ∈ ls, lOk m l := by
  have q1 := Int.emod_nonneg n (show (7 : Int) ≠ 0 by decide)
  have q2 := Int.emod_lt_of_pos n (show (0 : Int) < 7 by decide)
  obtain ⟨m, em, hm0, hm⟩ : ∃ m : Nat, 1 + n % 7 = m ∧ 0 < m ∧ m ≤ 7 := ⟨(1 + n % 7).toNat, by omega, by omega, by omega⟩
  have q3 := Int.emod_nonneg (n / 8) (show (4 : Int) ≠ 0 by decide)
  have q4 := Int.emod_lt_of_pos (n / 8) (show (0 : Int) < 4 by decide)
  obtain ⟨h, eh, hh⟩ : ∃ h : Int, atI [D.int 1, D.int 3, D.int 10, D.int 1001] (n / 8 % 4) = some (D.int h) ∧ (0 < h ∧ h ≤ 1001) := by
    have : n / 8 % 4 = 0 ∨ n / 8 % 4 = 1 ∨ n / 8 % 4 = 2 ∨ n / 8 % 4 = 3 := by omega
    rcases this with e | e | e | e <;> rw [e]
    · exact ⟨1, rfl, by decide⟩
    · exact ⟨3, rfl, by decide⟩
    · exact ⟨10, rfl, by decide⟩
    · exact ⟨1001, rfl, by decide⟩
  have e1 : evS p (.asg false 3 (.bin .Add (.cst (.int 1)) (.bin .Mod (.var 0) (.var 1)))) [some (.val (.int n)), some (.val (dn 7)), some (.val (dn L)), none, none, none, none, none, none, none, none, none, none, none, none, none, none, none] = some (.nx [some (.val (.int n)), some (.val (dn 7)), some (.val (dn L)), some (.val (dn m)), none, none, none, none, none, none, none, none, none, none, none, none, none, none]) := by
    simp (disch := first | omega | simp) [opD_mod, em]
  have e2 : evS p (.asg true 4 (.ls (slice []))) [some (.val (.int n)), some (.val (dn 7)), some (.val (dn L)), some (.val (dn m)), none, none, none, none, none, none, none, none, none, none, none, none, none, none] = some (.nx [some (.val (.int n)), some (.val (dn 7)), some (.val (dn L)), some (.val (dn m)), some (.own []), none, none, none, none, none, none, none, none, none, none, none, none, none]) := by
    simp
  have e3 : evS p (.asg false 5 (.ix (.tp (slice [(.cst (.int 1)), (.cst (.int 3)), (.cst (.int 10)), (.cst (.int 1001))])) (.bin .Mod (.bin .FloorDiv (.var 0) (.cst (.int 8))) (.cst (.int 4))))) [some (.val (.int n)), some (.val (dn 7)), some (.val (dn L)), some (.val (dn m)), some (.own []), none, none, none, none, none, none, none, none, none, none, none, none, none] = some (.nx (gEn n 7 L m h [] none none none none none)) := by
    simp (disch := first | omega | simp) [opD_mod, opD_div, eh, gEn]
  obtain ⟨r1, e4, ls1, y6, y7, rfl, hl1, ho1⟩ := for_foldi (p := p) (tg := .one 6) (it := .r2 (.cst (.int 1)) (.var 3)) (b := BG1 iD) (em := dn) (k := .fz) (xs := List.range' 1 (m - 1)) (s := ()) (r := gEn n 7 L m h [] none none none none none)
    (fun i _ r => ∃ ls x6 x7, r = gEn n 7 L m h ls x6 x7 none none none ∧ ls.length ≤ i ∧ ∀ l ∈ ls, lOk m l) (fun _ _ => ())
    (by
      have e : ((m : Int) - 1).toNat = m - 1 := by omega
      have := rngD_nat 1 (m - 1)
      simp [gEn, rngOk_nat (show m ≤ 100000 by omega), rngOk_nat (show 1 ≤ 100000 by omega), e]
      exact ⟨rfl, this⟩) (by decide) ⟨[], none, none, rfl, Nat.le_refl _, by simp⟩ (by
      rintro i _ s r hx ⟨ls, x6, x7, rfl, hl, ho⟩
      have hs : 1 ≤ s ∧ s < m := by
        have := List.mem_range'.mp (List.mem_of_getElem? hx)
        obtain ⟨j, hj, rfl⟩ := this
        omega
      have hi : i < m - 1 := by simpa using (List.getElem?_eq_some_iff.mp hx).1
      obtain ⟨ls', x7', e, hl', ho'⟩ := bg1_ev p hD (n := n) (most := 7) (L := L) (m := m) (h := h) (ls := ls) (x7 := x7) (x8 := none) (x9 := none) (x10 := none) (s := s) hh (by omega) hs.2 hm (by omega)
      exact ⟨_, _, rfl, e, ls', _, _, rfl, by omega, ho' ho⟩)
  simp only [List.length_range'] at hl1
  obtain ⟨q5, q6⟩ : 0 ≤ n / 96 % ((L : Int) + 1) ∧ n / 96 % ((L : Int) + 1) < (L : Int) + 1 := ⟨Int.emod_nonneg _ (by omega), Int.emod_lt_of_pos _ (by omega)⟩
  obtain ⟨t, et, ht⟩ : ∃ t : Nat, n / 96 % ((L : Int) + 1) = t ∧ t ≤ L := ⟨(n / 96 % ((L : Int) + 1)).toNat, by omega, by omega⟩
  obtain ⟨r2, e5, ls2, z6, z7, z8, z9, z10, rfl, hl2, ho2⟩ := for_fold (p := p) (tg := .one 8) (it := .r1 (.bin .Mod (.bin .FloorDiv (.var 0) (.cst (.int 96))) (.bin .Add (.var 2) (.cst (.int 1))))) (b := BG2 iD) (em := dn) (k := .fz) (xs := List.range t) (s := ()) (r := gEn n 7 L m h ls1 y6 y7 none none none)
    (fun _ r => ∃ ls x6 x7 x8 x9 x10, r = gEn n 7 L m h ls x6 x7 x8 x9 x10 ∧ ls.length ≤ max 6 L ∧ ∀ l ∈ ls, lOk m l) (fun _ _ => ())
    (by simp (disch := first | omega | simp) [gEn, opD_div, opD_mod, et, rngOk_nat (show t ≤ 100000 by omega), rngD_0]) (by decide) ⟨ls1, _, _, _, _, _, rfl, by omega, ho1⟩ (by
      rintro _ s r hx ⟨ls, x6, x7, x8, x9, x10, rfl, hl, ho⟩
      obtain ⟨ls', x7', x9', x10', e, hl', ho'⟩ := bg2_ev p hD (n := n) (most := 7) (L := L) (m := m) (h := h) (ls := ls) (x6 := x6) (x7 := x7) (x9 := x9) (x10 := x10) (s := s) hh hm0 hm (by omega)
      exact ⟨_, _, rfl, e, ls', _, _, _, _, _, rfl, by omega, ho' ho⟩)
  obtain ⟨q7, q8⟩ : 0 ≤ n / 2000 % 13 ∧ n / 2000 % 13 < 13 := ⟨Int.emod_nonneg _ (by decide), Int.emod_lt_of_pos _ (by decide)⟩
  obtain ⟨b, eb⟩ : ∃ b : Nat, n / 2000 % 13 = b := ⟨(n / 2000 % 13).toNat, by omega⟩
  refine ⟨m, ls2.drop b ++ ls2.take b, ?_, hm0, hm, ?_, ?_⟩
  · show left (evSS p (.cons _ (.cons _ (.cons _ (.cons _ (.cons _ (.cons _ (.cons _ .nil))))))) [some (.val (.int n)), some (.val (dn 7)), some (.val (dn L)), none, none, none, none, none, none, none, none, none, none, none, none, none, none, none]) = _
    rw [evSS_nx e1, evSS_nx e2, evSS_nx e3, evSS_nx e4, evSS_nx e5]
    have hk : opD .Add (.lst ((ls2.map lineD).drop b)) (.lst ((ls2.map lineD).take b)) = some (.fr, .lst ((ls2.map lineD).drop b ++ (ls2.map lineD).take b)) := opD_add_l (by simp; omega)
    have e6 : evS p (.asg false 11 (.bin .Mod (.bin .FloorDiv (.var 0) (.cst (.int 2000))) (.cst (.int 13)))) (gEn n 7 L m h ls2 z6 z7 z8 z9 z10) = some (.nx ((gEn n 7 L m h ls2 z6 z7 z8 z9 z10).set 11 (some (.val (dn b))))) := by
      simp (disch := first | omega | simp) [gEn, opD_div, opD_mod, eb]
    rw [evSS_nx e6]
    simp [gEn, cut_from, cut_to, hk, groundD]
  · simp; omega
  · intro l hx
    rcases List.mem_append.mp hx with hx | hx
    · exact ho2 l (List.mem_of_mem_drop hx)
    · exact ho2 l (List.mem_of_mem_take hx)
end
end TW
end
section
set_option Elab.async false
set_option linter.all false
set_option maxHeartbeats 1000000
namespace TW
open PySem UF
end TW
end
section
set_option Elab.async false
set_option linter.all false
set_option maxHeartbeats 1000000
namespace TW
open PySem UF
end TW
end
section
set_option Elab.async false
set_option linter.all false
set_option maxHeartbeats 1000000
namespace TW
open PySem UF
noncomputable def oneG (m : Nat) (ls : List (Nat × Nat)) (c : List Nat) : Bool := decide ((groups m (ends ls c)).length = 1)
end TW
end
section
set_option Elab.async false
set_option linter.all false
namespace UF
inductive J (ls : List (Nat × Nat)) : Nat → Nat → Prop where
  | refl (u : Nat) : J ls u u
  | line {a b : Nat} : (a, b) ∈ ls → J ls a b
  | symm {u v : Nat} : J ls u v → J ls v u
  | trans {u v w : Nat} : J ls u v → J ls v w → J ls u w
theorem J.le {ls ks : List (Nat × Nat)} (h : ∀ a b, (a, b) ∈ ls → J ks a b) {u v : Nat} (j : J ls u v) : J ks u v := by
  induction j with
  | refl u => exact .refl u
  | line m => exact h _ _ m
  | symm _ ih => exact ih.symm
  | trans _ _ i1 i2 => exact i1.trans i2
theorem J.mono {ls ks : List (Nat × Nat)} (h : ∀ l ∈ ls, l ∈ ks) {u v : Nat} (j : J ls u v) : J ks u v := j.le fun a b m => .line (h _ m)
theorem J.lt {m : Nat} {ls : List (Nat × Nat)} (hi : In m ls) {u v : Nat} (j : J ls u v) : u < m ↔ v < m := by
  induction j with
  | refl u => exact Iff.rfl
  | line mm => have := hi _ mm; exact ⟨fun _ => this.2, fun _ => this.1⟩
  | symm _ ih => exact ih.symm
  | trans _ _ i1 i2 => exact i1.trans i2
noncomputable def Sp (m : Nat) (ls : List (Nat × Nat)) : Prop := ∀ u, u < m → J ls 0 u
section
variable {m : Nat} {ls : List (Nat × Nat)}
noncomputable def Nm (ls : List (Nat × Nat)) (c : List Nat) : Prop := ∀ i ∈ c, i < ls.length
theorem ends_mem {c : List Nat} {i : Nat} (h : i ∈ c) : ls.getD i (0, 0) ∈ ends ls c := List.mem_map.mpr ⟨i, h, rfl⟩
theorem J.sub {c d : List Nat} (h : ∀ i ∈ c, i ∈ d) {u v : Nat} (j : J (ends ls c) u v) : J (ends ls d) u v := j.mono fun l hl => by
  obtain ⟨i, hi, rfl⟩ := List.mem_map.mp hl
  exact ends_mem (h i hi)
end
end UF
end
section
set_option Elab.async false
set_option linter.all false
set_option maxHeartbeats 1000000
namespace TW
open PySem (Addr Obj Operator CmpOp)
open UF
noncomputable def insN (i : Nat) : List Nat → List Nat
  | [] => [i]
  | x :: r => if i < x then i :: x :: r else x :: insN i r
noncomputable def srtN (l : List Nat) : List Nat := l.foldr insN []
noncomputable def exch (T : List Nat) (out e : Nat) : List Nat := srtN (T.filter (fun i => decide (i ≠ out)) ++ [e])
end TW
end
section
set_option Elab.async false
set_option linter.all false
set_option maxHeartbeats 1000000
namespace TW
open PySem (Addr Obj Operator CmpOp)
open UF
structure Tr (m : Nat) (ls : List (Nat × Nat)) (T : List Nat) : Prop where
  ris : T.Pairwise (· < ·)
  nm : Nm ls T
  len : T.length + 1 = m
  sp : Sp m (ends ls T)
theorem Tr.nd {m : Nat} {ls : List (Nat × Nat)} {T : List Nat} (h : Tr m ls T) : T.Nodup := h.ris.imp fun h => Nat.ne_of_lt h
inductive Ch (m : Nat) (ls : List (Nat × Nat)) : List Nat → List (Nat × Nat) → List Nat → Prop where
  | nil (T : List Nat) : Ch m ls T [] T
  | cons {T T' : List Nat} {o e : Nat} {ps : List (Nat × Nat)} : o ∈ T → e ∉ T → Tr m ls (exch T o e) → Ch m ls (exch T o e) ps T' → Ch m ls T ((o, e) :: ps) T'
structure SInv (m : Nat) (ls : List (Nat × Nat)) (T0 Z dn : List Nat) (s : List Nat × List (Nat × Nat)) : Prop where
  tr : Tr m ls s.1
  ch : Ch m ls T0 s.2 s.1
  has : ∀ z ∈ dn, z ∈ s.1
  num : s.2.length + (s.1.filter fun i => !decide (i ∈ Z)).length = (T0.filter fun i => !decide (i ∈ Z)).length
  few : s.2.length ≤ dn.length
end TW
end
section
set_option Elab.async false
set_option linter.all false
set_option maxHeartbeats 1000000
namespace TW
open PySem (Addr Obj Operator CmpOp)
open UF
end TW
end
section
set_option Elab.async false
set_option linter.all false
set_option maxHeartbeats 1000000
namespace TW
open PySem (Addr Obj Operator CmpOp)
open UF
noncomputable def OkD (d : D) : Prop := ∃ n, okD n d = true
theorem okDs_mem : ∀ {n : Nat} {ds : List D}, okDs n ds = true → ∀ d ∈ ds, okD n d = true
  | _, [], _, d, h => by cases h
  | n, x :: r, h, d, hd => by
    simp only [okDs, Bool.and_eq_true] at h
    rcases List.mem_cons.mp hd with e | e
    · subst e; exact h.1
    · exact okDs_mem h.2 d e
theorem OkD.parts {ds : List D} (h : OkD (.tup ds)) : ∀ d ∈ ds, OkD d := fun d hd => by
  obtain ⟨n, h⟩ := h
  cases n with
  | zero => cases h
  | succ n => exact ⟨n, okDs_mem h d hd⟩
noncomputable def whole (d : D) (lo hi : Int) : Bool := match d with
  | .int i => decide (lo ≤ i ∧ i ≤ hi)
  | _ => false
theorem whole_ev (p : Nat → List D → Option D) {d : D} (h : OkD d) (lo hi : Int) : runF p 6 Bnumber [d, .int lo, .int hi] = some (.bl (whole d lo hi)) := by
  obtain ⟨n, h⟩ := h
  cases d with
  | int i => exact number_ev p i lo hi
  | scr _ _ _ => cases n <;> simp [okD] at h
  | dct _ _ => cases n <;> simp [okD] at h
  | non => simp [runF, Bnumber, enter, isiD, isD, whole]
  | bl b => simp [runF, Bnumber, enter, isiD, isD, whole]
  | str x => simp [runF, Bnumber, enter, isiD, isD, whole]
  | tup x => simp [runF, Bnumber, enter, isiD, isD, whole]
  | lst x => simp [runF, Bnumber, enter, isiD, isD, whole]
noncomputable def tupk (d : D) (k : Int) : Bool := match d with
  | .tup ds => decide ((ds.length : Int) = k)
  | _ => false
noncomputable def Btof : SS := (block [.ret (.an (.isi (.var 0) .tuple) (.cmp .Eq (.b1 .len (.var 0)) (.var 1)))])
theorem tof_ev (p : Nat → List D → Option D) {d : D} (h : OkD d) (k : Int) : runF p 5 Btof [d, .int k] = some (.bl (tupk d k)) := by
  obtain ⟨n, h⟩ := h
  cases d with
  | scr _ _ _ => cases n <;> simp [okD] at h
  | dct _ _ => cases n <;> simp [okD] at h
  | tup x => simp [runF, Btof, enter, isiD, isD, tupk]
  | int i => simp [runF, Btof, enter, isiD, isD, tupk]
  | non => simp [runF, Btof, enter, isiD, isD, tupk]
  | bl b => simp [runF, Btof, enter, isiD, isD, tupk]
  | str x => simp [runF, Btof, enter, isiD, isD, tupk]
  | lst x => simp [runF, Btof, enter, isiD, isD, tupk]
noncomputable def pairB (m : Int) (d : D) : Bool := match d with
  | .tup [a, b] => (match b with | .int j => decide (0 ≤ j ∧ j ≤ m - 1) && whole a 0 (j - 1) | _ => false)
  | _ => false
noncomputable def Bpair (iT iW : Nat) : SS := (block [.ifs (.nt (.call iT (slice [(.var 0), (.cst (.int 2))]))) (block [.ret (.cst (.bl false))]) (block []), .ret (.an (.call iW (slice [(.ix (.var 0) (.cst (.int 1))), (.cst (.int 0)), (.bin .Sub (.var 1) (.cst (.int 1)))])) (.call iW (slice [(.ix (.var 0) (.cst (.int 0))), (.cst (.int 0)), (.bin .Sub (.ix (.var 0) (.cst (.int 1))) (.cst (.int 1)))])))])
section
variable (p : Nat → List D → Option D) {iT iW : Nat} (hT : ∀ d (k : Int), OkD d → p iT [d, .int k] = some (.bl (tupk d k))) (hW : ∀ d (lo hi : Int), OkD d → p iW [d, .int lo, .int hi] = some (.bl (whole d lo hi)))
include hT hW
theorem pair_ev {d : D} (h : OkD d) (m : Int) : runF p 4 (Bpair iT iW) [d, .int m] = some (.bl (pairB m d)) := by
  have t := hT d 2 h
  show left (evSS p (.cons _ (.cons _ .nil)) [some (.val d), some (.val (.int m)), none, none]) = _
  by_cases q : tupk d 2 = true
  · obtain ⟨a, b, rfl⟩ : ∃ a b, d = .tup [a, b] := by
      unfold tupk at q
      split at q
      · rename_i ds
        have : ds.length = 2 := by have := of_decide_eq_true q; omega
        match ds, this with
        | [a, b], _ => exact ⟨a, b, rfl⟩
      · cases q
    have wb := hW b 0 (m - 1) (h.parts b (by simp))
    rw [q] at t
    cases b with
    | int j =>
      have wa := hW a 0 (j - 1) (h.parts a (by simp))
      by_cases c : 0 ≤ j ∧ j ≤ m - 1
      · simp [t, wb, wa, whole, pairB, c]
      · simp [t, wb, wa, whole, pairB, c]
    | non => simp [t, wb, whole, pairB]
    | bl _ => simp [t, wb, whole, pairB]
    | str _ => simp [t, wb, whole, pairB]
    | tup _ => simp [t, wb, whole, pairB]
    | lst _ => simp [t, wb, whole, pairB]
    | scr _ _ _ => simp [t, wb, whole, pairB]
    | dct _ _ => simp [t, wb, whole, pairB]
  · have q' : tupk d 2 = false := by simpa using q
    have pf : pairB m d = false := by
      unfold pairB
      split
      · simp [tupk] at q'
      · rfl
    rw [q'] at t
    rw [evSS_rt (d := .bl false) (by simp [t]), pf]
    rfl
noncomputable def lineB (m : Int) (d : D) : Bool := match d with
  | .tup [a, b, c] => pairB m (.tup [a, b]) && whole c 0 1000
  | _ => false
end
noncomputable def Bline (iT iP iW : Nat) : SS := (block [.ifs (.nt (.call iT (slice [(.var 0), (.cst (.int 3))]))) (block [.ret (.cst (.bl false))]) (block []), .ret (.an (.call iP (slice [(.sl (.var 0) .no (.so (.cst (.int 2)))), (.var 1)])) (.call iW (slice [(.ix (.var 0) (.cst (.int 2))), (.cst (.int 0)), (.cst (.int 1000))])))])
theorem OkD.two {a b c : D} (h : OkD (.tup [a, b, c])) : OkD (.tup [a, b]) := by
  obtain ⟨n, h⟩ := h
  cases n with
  | zero => cases h
  | succ n =>
    refine ⟨n + 1, ?_⟩
    simp only [okD, okDs, Bool.and_eq_true, Bool.and_true] at h ⊢
    exact ⟨h.1, h.2.1⟩
theorem line_ev (p : Nat → List D → Option D) {iT iP iW : Nat} (hT : ∀ d (k : Int), OkD d → p iT [d, .int k] = some (.bl (tupk d k))) (hW : ∀ d (lo hi : Int), OkD d → p iW [d, .int lo, .int hi] = some (.bl (whole d lo hi)))
    (hP : ∀ d (m : Int), OkD d → p iP [d, .int m] = some (.bl (pairB m d))) {d : D} (h : OkD d) (m : Int) : runF p 6 (Bline iT iP iW) [d, .int m] = some (.bl (lineB m d)) := by
  have t := hT d 3 h
  show left (evSS p (.cons _ (.cons _ .nil)) [some (.val d), some (.val (.int m)), none, none, none, none]) = _
  by_cases q : tupk d 3 = true
  · obtain ⟨a, b, c, rfl⟩ : ∃ a b c, d = .tup [a, b, c] := by
      unfold tupk at q
      split at q
      · rename_i ds
        have : ds.length = 3 := by have := of_decide_eq_true q; omega
        match ds, this with
        | [a, b, c], _ => exact ⟨a, b, c, rfl⟩
      · cases q
    have wc := hW c 0 1000 (h.parts c (by simp))
    have wp := hP (.tup [a, b]) m h.two
    rw [q] at t
    have e1 : evS p (.ifs (.nt (.call iT (slice [(.var 0), (.cst (.int 3))]))) (block [.ret (.cst (.bl false))]) (block [])) [some (.val (.tup [a, b, c])), some (.val (.int m)), none, none, none, none] = some (.nx [some (.val (.tup [a, b, c])), some (.val (.int m)), none, none, none, none]) := by simp [t]
    have e2 : cut [a, b, c] none (some 2) = [a, b] := rfl
    rw [evSS_nx e1]
    by_cases c1 : pairB m (.tup [a, b]) = true
    · simp [e2, wp, wc, c1, lineB]
    · have c1' : pairB m (.tup [a, b]) = false := by simpa using c1
      simp [e2, wp, wc, c1', lineB]
  · have q' : tupk d 3 = false := by simpa using q
    have pf : lineB m d = false := by
      unfold lineB
      split
      · simp [tupk] at q'
      · rfl
    rw [q'] at t
    rw [evSS_rt (d := .bl false) (by simp [t]), pf]
    rfl
theorem bools_map {α : Type} (f : α → Bool) : ∀ l : List α, boolsOf (l.map fun x => .bl (f x)) = some (l.map f)
  | [] => rfl
  | x :: r => by simp [boolsOf, bools_map f r]
theorem all_map {α : Type} (f : α → Bool) (l : List α) : b1D .all (.lst (l.map fun x => .bl (f x))) = some (.fz, .bl (l.all f)) := by
  show (boolsOf _).map _ = _
  rw [bools_map]
  simp [List.all_map]
noncomputable def groundB (d : D) : Bool := match d with
  | .tup [a, .tup ls] => (match a with | .int m => decide (1 ≤ m ∧ m ≤ 7) && (decide (ls.length ≤ 21) && ls.all (lineB m)) | _ => false)
  | _ => false
noncomputable def Bground' (iT iW iL : Nat) : SS := (block [.ifs (.nt (.call iT (slice [(.var 0), (.cst (.int 2))]))) (block [.ret (.cst (.bl false))]) (block []), .asg false 1 (.ix (.var 0) (.cst (.int 0))), .asg false 2 (.ix (.var 0) (.cst (.int 1))), .ifs (.orr (.nt (.call iW (slice [(.var 1), (.cst (.int 1)), (.cst (.int 7))]))) (.nt (.isi (.var 2) .tuple))) (block [.ret (.cst (.bl false))]) (block []), .ret (.an (.cmp .LtE (.b1 .len (.var 2)) (.cst (.int 21))) (.b1 .all (.comp [none, none, none, some 1] (.one 1) (.sq (.var 2)) .no (.call iL (slice [(.var 1), (.var 3)])))))])
theorem isg_ev (p : Nat → List D → Option D) {iT iW iL : Nat} (hT : ∀ d (k : Int), OkD d → p iT [d, .int k] = some (.bl (tupk d k))) (hW : ∀ d (lo hi : Int), OkD d → p iW [d, .int lo, .int hi] = some (.bl (whole d lo hi)))
    (hL : ∀ d (m : Int), OkD d → p iL [d, .int m] = some (.bl (lineB m d))) {d : D} (h : OkD d) : runF p 11 (Bground' iT iW iL) [d] = some (.bl (groundB d)) := by
  have t := hT d 2 h
  show left (evSS p (.cons _ (.cons _ (.cons _ (.cons _ (.cons _ .nil))))) [some (.val d), none, none, none, none, none, none, none, none, none, none]) = _
  by_cases q : tupk d 2 = true
  · obtain ⟨a, b, rfl⟩ : ∃ a b, d = .tup [a, b] := by
      unfold tupk at q
      split at q
      · rename_i ds
        have : ds.length = 2 := by have := of_decide_eq_true q; omega
        match ds, this with
        | [a, b], _ => exact ⟨a, b, rfl⟩
      · cases q
    have wa := hW a 1 7 (h.parts a (by simp))
    rw [q] at t
    have e1 : evS p (.ifs (.nt (.call iT (slice [(.var 0), (.cst (.int 2))]))) (block [.ret (.cst (.bl false))]) (block [])) [some (.val (.tup [a, b])), none, none, none, none, none, none, none, none, none, none] = some (.nx [some (.val (.tup [a, b])), none, none, none, none, none, none, none, none, none, none]) := by simp [t]
    have e2 : evS p (.asg false 1 (.ix (.var 0) (.cst (.int 0)))) [some (.val (.tup [a, b])), none, none, none, none, none, none, none, none, none, none] = some (.nx [some (.val (.tup [a, b])), some (.val a), none, none, none, none, none, none, none, none, none]) := by simp
    have e3 : evS p (.asg false 2 (.ix (.var 0) (.cst (.int 1)))) [some (.val (.tup [a, b])), some (.val a), none, none, none, none, none, none, none, none, none] = some (.nx [some (.val (.tup [a, b])), some (.val a), some (.val b), none, none, none, none, none, none, none, none]) := by simp
    rw [evSS_nx e1, evSS_nx e2, evSS_nx e3]
    by_cases w : whole a 1 7 = true
    · obtain ⟨m, rfl, hm⟩ : ∃ m, a = .int m ∧ (1 ≤ m ∧ m ≤ 7) := by
        unfold whole at w
        split at w
        · rename_i i
          exact ⟨i, rfl, of_decide_eq_true w⟩
        · cases w
      rw [w] at wa
      by_cases tb : ∃ ls, b = .tup ls
      · obtain ⟨ls, rfl⟩ := tb
        have e4 : evS p (.ifs (.orr (.nt (.call iW (slice [(.var 1), (.cst (.int 1)), (.cst (.int 7))]))) (.nt (.isi (.var 2) .tuple))) (block [.ret (.cst (.bl false))]) (block [])) [some (.val (.tup [.int m, .tup ls])), some (.val (.int m)), some (.val (.tup ls)), none, none, none, none, none, none, none, none] = some (.nx [some (.val (.tup [.int m, .tup ls])), some (.val (.int m)), some (.val (.tup ls)), none, none, none, none, none, none, none, none]) := by
          simp [wa, isiD, isD]
        rw [evSS_nx e4]
        by_cases l : ls.length ≤ 21
        · have l' : (ls.length : Int) ≤ 21 := by omega
          have okl : ∀ x ∈ ls, OkD x := (h.parts (.tup ls) (by simp)).parts
          have c : (ev p (.comp [none, none, none, some 1] (.one 1) (.sq (.var 2)) .no (.call iL (slice [(.var 1), (.var 3)]))) [some (.val (.tup [.int m, .tup ls])), some (.val (.int m)), some (.val (.tup ls)), none, none, none, none, none, none, none, none]).1 = some (.fr, .lst (ls.map fun x => .bl (lineB m x))) := by
            have := comp_map (p := p) (cap := [none, none, none, some 1]) (tg := .one 1) (it := .sq (.var 2)) (cd := .no) (e := .call iL (slice [(.var 1), (.var 3)])) (r := [some (.val (.tup [.int m, .tup ls])), some (.val (.int m)), some (.val (.tup ls)), none, none, none, none, none, none, none, none])
              (em := fun d => d) (en := D.bl) (g := fun x => lineB m x) (xs := ls) (k := .fz) (by simp) (by omega) rfl (fun x hx => by
                have := hL x m (okl x hx)
                simp [this])
            rw [this, List.map_map]; rfl
          have al := all_map (lineB m) ls
          simp only [slice_cons, slice_nil] at c
          simp [l, l', c, al, groundB, hm]
        · have l' : ¬ (ls.length : Int) ≤ 21 := by omega
          simp [l, l', groundB, hm]
      · have nt : isD .tuple b = false := by
          cases b <;> first | rfl | exact absurd ⟨_, rfl⟩ tb
        have gf : groundB (.tup [.int m, b]) = false := by
          cases b <;> first | rfl | exact absurd ⟨_, rfl⟩ tb
        have nsb : isiD .tuple b = some (.fz, .bl false) := by
          have := h.parts b (by simp)
          cases b with
          | scr _ _ _ => obtain ⟨n, hn⟩ := this; cases n <;> simp [okD] at hn
          | dct _ _ => obtain ⟨n, hn⟩ := this; cases n <;> simp [okD] at hn
          | tup _ => exact absurd ⟨_, rfl⟩ tb
          | non => rfl
          | bl _ => rfl
          | int _ => rfl
          | str _ => rfl
          | lst _ => rfl
        rw [evSS_rt (d := .bl false) (by simp [wa, nsb]), gf]
        rfl
    · have w' : whole a 1 7 = false := by simpa using w
      have gf : groundB (.tup [a, b]) = false := by
        unfold groundB
        split
        · rename_i a' ls he
          simp only [D.tup.injEq, List.cons.injEq] at he
          obtain ⟨rfl, rfl, _⟩ := he
          split
          · rename_i m
            have : ¬ (1 ≤ m ∧ m ≤ 7) := of_decide_eq_false w'
            simp [this]
          · rfl
        · rfl
      rw [w'] at wa
      rw [evSS_rt (d := .bl false) (by simp [wa]), gf]
      rfl
  · have q' : tupk d 2 = false := by simpa using q
    have gf : groundB d = false := by
      unfold groundB
      split
      · simp [tupk] at q'
      · rfl
    rw [q'] at t
    rw [evSS_rt (d := .bl false) (by simp [t]), gf]
    rfl
theorem for_check {p : Nat → List D → Option D} {tg : Tg} {it : CI} {b : SS} {β : Type} {em : β → D} {k : Kd} {xs : List β} {good : β → Bool} {r0 : En} (R : En → Prop) (hi : evI p it r0 = some (k, xs.map em)) (hk : k ≠ .bo) (h0 : R r0)
    (hs : ∀ x r, x ∈ xs → R r → ∃ q, bindT tg (em x) r = some q ∧ if good x = true then ∃ r', evSS p b q = some (.nx r') ∧ R r' else evSS p b q = some (.rt (.bl false))) :
    (xs.all good = true → ∃ r', evS p (.fr tg it b) r0 = some (.nx r') ∧ R r') ∧ (xs.all good = false → evS p (.fr tg it b) r0 = some (.rt (.bl false))) := by
  have gen : ∀ (l : List β) (r : En), (∀ x ∈ l, x ∈ xs) → R r → (l.all good = true → ∃ r', loopF tg (fun q => evSS p b q) (l.map em) r = some (.nx r') ∧ R r') ∧ (l.all good = false → loopF tg (fun q => evSS p b q) (l.map em) r = some (.rt (.bl false))) := by
    intro l
    induction l with
    | nil => exact fun r _ hr => ⟨fun _ => ⟨r, rfl, hr⟩, fun h => by simp at h⟩
    | cons x l ih =>
      intro r hx hr
      obtain ⟨q, hq, hb⟩ := hs x r (hx x List.mem_cons_self) hr
      by_cases g : good x = true
      · rw [if_pos g] at hb
        obtain ⟨r', e, hr'⟩ := hb
        have := ih r' (fun y hy => hx y (List.mem_cons_of_mem _ hy)) hr'
        have lf : loopF tg (fun q => evSS p b q) ((x :: l).map em) r = loopF tg (fun q => evSS p b q) (l.map em) r' := by
          simp only [List.map_cons, loopF, hq, Option.bind_some, e]
        rw [lf]
        simpa [g] using this
      · rw [if_neg g] at hb
        have g' : good x = false := by simpa using g
        have lf : loopF tg (fun q => evSS p b q) ((x :: l).map em) r = some (.rt (.bl false)) := by
          simp only [List.map_cons, loopF, hq, Option.bind_some, hb]
        rw [lf]
        simp [g']
  have ef : evS p (.fr tg it b) r0 = loopF tg (fun q => evSS p b q) (xs.map em) r0 := by
    rw [evS_fr, hi]
    cases k with
    | bo => exact absurd rfl hk
    | fz => rfl
    | fr => rfl
  rw [ef]
  exact gen xs r0 (fun _ h => h) h0
noncomputable def Blg1 (iN : Nat) : SS := (block [.ifs (.orr (.nt (.isi (.var 1) .tuple)) (.orr (.cmp .NotEq (.b1 .len (.var 1)) (.cst (.int 3))) (.nt (.call iN (slice [(.ix (.var 1) (.cst (.int 0))), (.cst (.int 0)), (.bin .Sub (.ix (.var 0) (.cst (.int 0))) (.cst (.int 1)))]))))) (block [.ret (.cst (.bl false))]) (block []), .ifs (.orr (.nt (.call iN (slice [(.ix (.var 1) (.cst (.int 1))), (.cst (.int 0)), (.bin .Sub (.ix (.var 0) (.cst (.int 0))) (.cst (.int 1)))]))) (.orr (.cmp .GtE (.ix (.var 1) (.cst (.int 0))) (.ix (.var 1) (.cst (.int 1)))) (.nt (.call iN (slice [(.ix (.var 1) (.cst (.int 2))), (.cst (.int 0)), (.cst (.int 1000))]))))) (block [.ret (.cst (.bl false))]) (block [])])
noncomputable def Blg (iN : Nat) : SS := (block [.ifs (.orr (.nt (.isi (.var 0) .tuple)) (.orr (.cmp .NotEq (.b1 .len (.var 0)) (.cst (.int 2))) (.nt (.call iN (slice [(.ix (.var 0) (.cst (.int 0))), (.cst (.int 1)), (.cst (.int 7))]))))) (block [.ret (.cst (.bl false))]) (block []), .ifs (.orr (.nt (.isi (.ix (.var 0) (.cst (.int 1))) .tuple)) (.cmp .Gt (.b1 .len (.ix (.var 0) (.cst (.int 1)))) (.cst (.int 21)))) (block [.ret (.cst (.bl false))]) (block []), .fr (.one 1) (.sq (.ix (.var 0) (.cst (.int 1)))) (Blg1 iN), .ret (.cst (.bl true))])
theorem isi_tup {d : D} (h : OkD d) : (∃ ds, d = .tup ds ∧ isiD .tuple d = some (.fz, .bl true)) ∨ ((∀ ds, d ≠ .tup ds) ∧ isiD .tuple d = some (.fz, .bl false)) := by
  obtain ⟨n, h⟩ := h
  cases d with
  | scr _ _ _ => cases n <;> simp [okD] at h
  | dct _ _ => cases n <;> simp [okD] at h
  | tup x => exact .inl ⟨x, rfl, rfl⟩
  | int i => exact .inr ⟨(fun _ z => by cases z), rfl⟩
  | non => exact .inr ⟨(fun _ z => by cases z), rfl⟩
  | bl b => exact .inr ⟨(fun _ z => by cases z), rfl⟩
  | str x => exact .inr ⟨(fun _ z => by cases z), rfl⟩
  | lst x => exact .inr ⟨(fun _ z => by cases z), rfl⟩
theorem whole_int {d : D} {lo hi : Int} (h : whole d lo hi = true) : ∃ i, d = .int i ∧ lo ≤ i ∧ i ≤ hi := by
  unfold whole at h
  split at h
  · exact ⟨_, rfl, of_decide_eq_true h⟩
  · cases h
theorem pairB_iff {m : Int} {a b : D} : pairB m (.tup [a, b]) = true ↔ ∃ i j, a = .int i ∧ b = .int j ∧ 0 ≤ i ∧ i < j ∧ j < m := by
  constructor
  · intro h
    unfold pairB at h
    cases b with
    | int j =>
      simp only [Bool.and_eq_true, decide_eq_true_eq] at h
      obtain ⟨i, rfl, h1, h2⟩ := whole_int h.2
      exact ⟨i, j, rfl, rfl, h1, by omega, by omega⟩
    | non => cases h
    | bl _ => cases h
    | str _ => cases h
    | tup _ => cases h
    | lst _ => cases h
    | scr _ _ _ => cases h
    | dct _ _ => cases h
  · rintro ⟨i, j, rfl, rfl, h1, h2, h3⟩
    simp only [pairB, whole, Bool.and_eq_true, decide_eq_true_eq]
    omega
theorem lg1_ev (p : Nat → List D → Option D) {iN : Nat} (hN : ∀ d (lo hi : Int), OkD d → p iN [d, .int lo, .int hi] = some (.bl (whole d lo hi))) {d y : D} (h : OkD d) {m : Int} {x2 x3 x4 x5 : Option Sl} :
    evSS p (Blg1 iN) [some (.val (.tup [.int m, y])), some (.val d), x2, x3, x4, x5] = if lineB m d = true then some (.nx [some (.val (.tup [.int m, y])), some (.val d), x2, x3, x4, x5]) else some (.rt (.bl false)) := by
  show evSS p (.cons _ (.cons _ .nil)) _ = _
  rcases isi_tup h with ⟨ds, rfl, it⟩ | ⟨ne, it⟩
  · by_cases hl : ds.length = 3
    · obtain ⟨a, b, c, rfl⟩ : ∃ a b c, ds = [a, b, c] := by
        match ds, hl with
        | [a, b, c], _ => exact ⟨a, b, c, rfl⟩
      have wa := hN a 0 (m - 1) (h.parts a (by simp))
      have wb := hN b 0 (m - 1) (h.parts b (by simp))
      have wc := hN c 0 1000 (h.parts c (by simp))
      by_cases h1 : whole a 0 (m - 1) = true
      · have e1 : evS p (.ifs (.orr (.nt (.isi (.var 1) .tuple)) (.orr (.cmp .NotEq (.b1 .len (.var 1)) (.cst (.int 3))) (.nt (.call iN (slice [(.ix (.var 1) (.cst (.int 0))), (.cst (.int 0)), (.bin .Sub (.ix (.var 0) (.cst (.int 0))) (.cst (.int 1)))]))))) (block [.ret (.cst (.bl false))]) (block [])) [some (.val (.tup [.int m, y])), some (.val (.tup [a, b, c])), x2, x3, x4, x5] = some (.nx [some (.val (.tup [.int m, y])), some (.val (.tup [a, b, c])), x2, x3, x4, x5]) := by
          rw [h1] at wa
          simp [it, wa]
        rw [evSS_nx e1]
        obtain ⟨i, rfl, i1, i2⟩ := whole_int h1
        by_cases h2 : whole b 0 (m - 1) = true
        · obtain ⟨j, rfl, j1, j2⟩ := whole_int h2
          rw [h2] at wb
          by_cases h3 : i < j
          · have pb : pairB m (.tup [.int i, .int j]) = true := pairB_iff.mpr ⟨i, j, rfl, rfl, i1, h3, by omega⟩
            have h3' : ¬ j ≤ i := by omega
            by_cases h4 : whole c 0 1000 = true
            · rw [h4] at wc
              simp [wb, wc, h3', lineB, pb, h4]
            · have h4' : whole c 0 1000 = false := by simpa using h4
              rw [h4'] at wc
              simp [wb, wc, h3', lineB, pb, h4']
          · have pb : pairB m (.tup [.int i, .int j]) = false := Bool.eq_false_iff.mpr fun z => by
              obtain ⟨i', j', e1, e2, _, q, _⟩ := pairB_iff.mp z
              cases e1; cases e2; exact h3 q
            have h3' : j ≤ i := by omega
            simp [wb, h3', lineB, pb]
        · have h2' : whole b 0 (m - 1) = false := by simpa using h2
          have pb : pairB m (.tup [.int i, b]) = false := Bool.eq_false_iff.mpr fun z => by
            obtain ⟨i', j', _, rfl, _, _, _⟩ := pairB_iff.mp z
            have := of_decide_eq_false h2'
            omega
          rw [h2'] at wb
          simp [wb, lineB, pb]
      · have h1' : whole a 0 (m - 1) = false := by simpa using h1
        have pb : pairB m (.tup [a, b]) = false := Bool.eq_false_iff.mpr fun z => by
          obtain ⟨i', j', rfl, rfl, _, _, _⟩ := pairB_iff.mp z
          have := of_decide_eq_false h1'
          omega
        rw [h1'] at wa
        rw [evSS_rt (d := .bl false) (by simp [it, wa])]
        simp [lineB, pb]
    · have hl' : ¬ (ds.length : Int) = 3 := by omega
      have lf : lineB m (.tup ds) = false := by
        unfold lineB
        split
        · rename_i he
          cases he
          exact absurd rfl hl
        · rfl
      rw [evSS_rt (d := .bl false) (by simp [it, hl']), lf]
      simp
  · have lf : lineB m d = false := by
      unfold lineB
      split
      · exact absurd rfl (ne _)
      · rfl
    rw [evSS_rt (d := .bl false) (by simp [it]), lf]
    simp
theorem lground_ev (p : Nat → List D → Option D) {iN : Nat} (hN : ∀ d (lo hi : Int), OkD d → p iN [d, .int lo, .int hi] = some (.bl (whole d lo hi))) {d : D} (h : OkD d) : runF p 6 (Blg iN) [d] = some (.bl (groundB d)) := by
  show left (evSS p (.cons _ (.cons _ (.cons _ (.cons _ .nil)))) [some (.val d), none, none, none, none, none]) = _
  rcases isi_tup h with ⟨ds, rfl, it⟩ | ⟨ne, it⟩
  · by_cases hl : ds.length = 2
    · obtain ⟨a, b, rfl⟩ : ∃ a b, ds = [a, b] := by
        match ds, hl with
        | [a, b], _ => exact ⟨a, b, rfl⟩
      have wa := hN a 1 7 (h.parts a (by simp))
      by_cases h1 : whole a 1 7 = true
      · have e1 : evS p (.ifs (.orr (.nt (.isi (.var 0) .tuple)) (.orr (.cmp .NotEq (.b1 .len (.var 0)) (.cst (.int 2))) (.nt (.call iN (slice [(.ix (.var 0) (.cst (.int 0))), (.cst (.int 1)), (.cst (.int 7))]))))) (block [.ret (.cst (.bl false))]) (block [])) [some (.val (.tup [a, b])), none, none, none, none, none] = some (.nx [some (.val (.tup [a, b])), none, none, none, none, none]) := by
          rw [h1] at wa
          simp [it, wa]
        obtain ⟨m, rfl, m1, m2⟩ := whole_int h1
        rw [evSS_nx e1]
        rcases isi_tup (h.parts b (by simp)) with ⟨ls, rfl, it2⟩ | ⟨ne, it2⟩
        · by_cases l : ls.length ≤ 21
          · have l' : ¬ (21 : Int) < (ls.length : Int) := by omega
            have e2 : evS p (.ifs (.orr (.nt (.isi (.ix (.var 0) (.cst (.int 1))) .tuple)) (.cmp .Gt (.b1 .len (.ix (.var 0) (.cst (.int 1)))) (.cst (.int 21)))) (block [.ret (.cst (.bl false))]) (block [])) [some (.val (.tup [.int m, .tup ls])), none, none, none, none, none] = some (.nx [some (.val (.tup [.int m, .tup ls])), none, none, none, none, none]) := by
              simp [it2, l']
            have okl : ∀ x ∈ ls, OkD x := (h.parts (.tup ls) (by simp)).parts
            obtain ⟨f1, f2⟩ := for_check (p := p) (tg := .one 1) (it := .sq (.ix (.var 0) (.cst (.int 1)))) (b := Blg1 iN) (em := fun d => d) (k := .fz) (xs := ls) (good := lineB m) (r0 := [some (.val (.tup [.int m, .tup ls])), none, none, none, none, none])
              (fun r => ∃ x1, r = [some (.val (.tup [.int m, .tup ls])), x1, none, none, none, none]) (by simp) (by decide) ⟨none, rfl⟩ (by
                rintro x r hx ⟨x1, rfl⟩
                refine ⟨[some (.val (.tup [.int m, .tup ls])), some (.val x), none, none, none, none], rfl, ?_⟩
                have := lg1_ev p hN (y := .tup ls) (okl x hx) (m := m) (x2 := none) (x3 := none) (x4 := none) (x5 := none)
                split
                · rename_i g
                  rw [if_pos g] at this
                  exact ⟨_, this, _, rfl⟩
                · rename_i g
                  rw [if_neg g] at this
                  exact this)
            rw [evSS_nx e2]
            show left (evSS p (.cons (.fr _ _ (Blg1 iN)) _) _) = _
            by_cases al : ls.all (lineB m) = true
            · obtain ⟨r', er, _⟩ := f1 al
              rw [evSS_nx er]
              have gt : groundB (.tup [.int m, .tup ls]) = true := by simp only [groundB, al]; simp [m1, m2, l]
              rw [gt]
              simp
            · have al' : ls.all (lineB m) = false := by simpa using al
              have gf : groundB (.tup [.int m, .tup ls]) = false := by simp only [groundB, al']; simp
              rw [evSS_rt (f2 al'), gf]
              rfl
          · have l' : (21 : Int) < (ls.length : Int) := by omega
            rw [evSS_rt (d := .bl false) (by simp [it2, l'])]
            simp [groundB, l]
        · have gf : groundB (.tup [.int m, b]) = false := by
            cases b <;> first | rfl | exact absurd rfl (ne _)
          rw [evSS_rt (d := .bl false) (by simp [it2]), gf]
          rfl
      · have h1' : whole a 1 7 = false := by simpa using h1
        have gf : groundB (.tup [a, b]) = false := by
          unfold groundB
          split
          · rename_i a' ls he
            simp only [D.tup.injEq, List.cons.injEq] at he
            obtain ⟨rfl, rfl, _⟩ := he
            split
            · rename_i m
              have : ¬ (1 ≤ m ∧ m ≤ 7) := of_decide_eq_false h1'
              simp [this]
            · rfl
          · rfl
        rw [h1'] at wa
        rw [evSS_rt (d := .bl false) (by simp [it, wa]), gf]
        rfl
    · have hl' : ¬ (ds.length : Int) = 2 := by omega
      have gf : groundB (.tup ds) = false := by
        unfold groundB
        split
        · rename_i he
          cases he
          exact absurd rfl hl
        · rfl
      rw [evSS_rt (d := .bl false) (by simp [it, hl']), gf]
      rfl
  · have gf : groundB d = false := by
      unfold groundB
      split
      · exact absurd rfl (ne _)
      · rfl
    rw [evSS_rt (d := .bl false) (by simp [it]), gf]
    rfl
end TW
end
section
set_option Elab.async false
set_option linter.all false
namespace UF
noncomputable def phi (x y u : Nat) : Nat := if u = y then x else if y < u then u - 1 else u
end UF
end
section
set_option Elab.async false
set_option linter.all false
namespace UF
open TW
noncomputable def tc (m : Nat) (ls : List (Nat × Nat)) : Nat := ((CB ls.length (m - 1) 0).filter (oneG m ls)).length
noncomputable def kept (ls : List (Nat × Nat)) (x y : Nat) : List Nat := (List.range ls.length).filter fun i => decide (phi x y (ls.getD i (0, 0)).1 ≠ phi x y (ls.getD i (0, 0)).2)
noncomputable def rest (ls : List (Nat × Nat)) (k : Nat) : List (Nat × Nat) := ((List.range ls.length).filter fun i => decide (i ≠ k)).map fun i => ls.getD i (0, 0)
end UF
end
section
set_option Elab.async false
set_option linter.all false
set_option maxHeartbeats 1000000
namespace TW
open PySem (Addr Obj Operator CmpOp)
open UF
end TW
end
section
set_option Elab.async false
set_option linter.all false
set_option maxHeartbeats 1000000
namespace TW
open PySem (Addr Obj Operator CmpOp)
open UF
noncomputable def ris {α : Type} (lt : α → α → Bool) (xs : List α) : Bool := (xs.zip (xs.drop 1)).all fun ab => lt ab.1 ab.2
end TW
end
section
set_option Elab.async false
set_option linter.all false
set_option maxHeartbeats 1000000
namespace TW
open PySem (Addr Obj Operator CmpOp)
open UF
end TW
end
section
set_option Elab.async false
set_option linter.all false
set_option maxHeartbeats 1000000
namespace TW
open PySem (Addr Obj Operator CmpOp)
open UF
inductive Sm : Nat → D → Prop
  | int {n : Nat} {i : Int} : i.natAbs ≤ 1000000 → Sm n (.int i)
  | tup {n : Nat} {ds : List D} : ds.length ≤ 30 → (∀ d ∈ ds, Sm n d) → Sm (n + 1) (.tup ds)
theorem Sm.up {n : Nat} {d : D} (h : Sm n d) : Sm (n + 1) d := by
  induction h with
  | int h => exact .int h
  | tup hl _ ih => exact .tup hl ih
theorem Sm.ok {n : Nat} {d : D} (h : Sm n d) : okD n d = true := by
  induction h with
  | @int n i h => cases n <;> rfl
  | tup hl _ ih => exact okDs_of ih
theorem ifs_no {p : Nat → List D → Option D} {c : C} {a : SS} {r : En} (h : (ev p c r).2 = some false) : evS p (.ifs c a (block [])) r = some (.nx r) := by
  rw [evS_ifs, h]
  rfl
theorem ifs_yes {p : Nat → List D → Option D} {c : C} {a b : SS} {r : En} (h : (ev p c r).2 = some true) : evS p (.ifs c a b) r = evSS p a r := by
  rw [evS_ifs, h]
  rfl
end TW
end
section
set_option Elab.async false
set_option linter.all false
set_option maxHeartbeats 1000000
namespace TW
open PySem (Addr Obj Operator CmpOp)
open UF
end TW
end
section
set_option Elab.async false
set_option linter.all false
set_option maxHeartbeats 1000000
namespace TW
open PySem (Addr Obj Operator CmpOp Str)
open UF
noncomputable def sN (n : Nat) : Str := Str.ofString (toString (n : Int))
theorem sN_len : ∀ n, n < 1001 → (sN n).length ≤ 4 := by decide +kernel
theorem str_nat {n : Nat} (h : n ≤ 1000) : b1D .str (dn n) = some (.fz, .str (sN n)) := if_pos (by show ((n : Int)).natAbs < 10 ^ 20; omega)
theorem opD_add_s {a b : Str} (h : a.length + b.length ≤ 65536) : opD .Add (.str a) (.str b) = some (.fz, .str (a ++ b)) := if_pos h
theorem app_len (a b : Str) : (a ++ b).length = a.length + b.length := Array.size_append
theorem app_as (a b c : Str) : a ++ b ++ c = a ++ (b ++ c) := by
  show (⟨(a.cps ++ b.cps) ++ c.cps⟩ : Str) = ⟨a.cps ++ (b.cps ++ c.cps)⟩
  rw [Array.append_assoc]
theorem join_snoc (sep x : Str) {w : List Str} (h : w ≠ []) : joinS sep (w ++ [x]) = joinS sep w ++ sep ++ x := by
  cases w with
  | nil => exact absurd rfl h
  | cons y r =>
    show (⟨((y :: r ++ [x]).drop 1).foldl _ y.cps⟩ : Str) = _
    rw [List.cons_append, List.drop_succ_cons, List.drop_zero, List.foldl_append]
    rfl
noncomputable def wst (w : List Str) (l : Nat × Nat × Nat) : List Str := w ++ [("line" : Str), sN l.1, sN l.2.1, sN l.2.2]
noncomputable def tst (t : Str) (l : Nat × Nat × Nat) : Str := t ++ " line " ++ sN l.1 ++ " " ++ sN l.2.1 ++ " " ++ sN l.2.2
theorem sp_line (t a : Str) : t ++ " " ++ "line" ++ " " ++ a = t ++ " line " ++ a := by
  have e : (" " : Str) ++ "line" ++ " " = " line " := by decide
  rw [← e]
  simp only [app_as]
theorem join_wst {w : List Str} (h : w ≠ []) (l : Nat × Nat × Nat) : joinS " " (wst w l) = tst (joinS " " w) l := by
  unfold wst tst
  have e : w ++ [("line" : Str), sN l.1, sN l.2.1, sN l.2.2] = (((w ++ [("line" : Str)]) ++ [sN l.1]) ++ [sN l.2.1]) ++ [sN l.2.2] := by simp
  rw [e, join_snoc _ _ (by simp), join_snoc _ _ (by simp), join_snoc _ _ (by simp), join_snoc _ _ h, sp_line]
theorem join_all : ∀ (ls : List (Nat × Nat × Nat)) {w : List Str}, w ≠ [] → joinS " " (ls.foldl wst w) = ls.foldl tst (joinS " " w)
  | [], w, _ => rfl
  | l :: ls, w, h => by
    rw [List.foldl_cons, List.foldl_cons, join_all ls (by unfold wst; simp), join_wst h]
theorem join_two (m : Nat) : joinS " " ["spots", sN m] = "spots " ++ sN m := by
  have e : ("spots" : Str) ++ " " = "spots " := by decide
  rw [← e]
  rfl
theorem tst_len {t : Str} {l : Nat × Nat × Nat} {m : Nat} (hm : m ≤ 7) (hl : lOk m l) : (tst t l).length ≤ t.length + 20 := by
  obtain ⟨h1, h2, h3⟩ := hl
  have e1 := sN_len l.1 (by omega)
  have e2 := sN_len l.2.1 (by omega)
  have e3 := sN_len l.2.2 (by omega)
  have e4 : (" line " : Str).length = 6 := by decide
  have e5 : (" " : Str).length = 1 := by decide
  unfold tst
  simp only [app_len]
  omega
theorem strs_map : ∀ w : List Str, strsOf (w.map D.str) = some w
  | [] => rfl
  | x :: r => by
    show (strsOf (r.map D.str)).map (x :: ·) = _
    rw [strs_map r]
    rfl
noncomputable def Blw1 : SS := (block [.asg false 1 (.bin .Add (.bin .Add (.bin .Add (.bin .Add (.bin .Add (.bin .Add (.var 1) (.cst (.str " line "))) (.b1 .str (.var 2))) (.cst (.str " "))) (.b1 .str (.var 3))) (.cst (.str " "))) (.b1 .str (.var 4)))])
noncomputable def Blwritten : SS := (block [.asg false 1 (.bin .Add (.cst (.str "spots ")) (.b1 .str (.ix (.var 0) (.cst (.int 0))))), .fr (.many [2, 3, 4]) (.sq (.ix (.var 0) (.cst (.int 1)))) Blw1, .ret (.var 1)])
theorem lwritten_ev0 (p : Nat → List D → Option D) {m : Nat} {ls : List (Nat × Nat × Nat)} (hm : m ≤ 7) (hL : ls.length ≤ 1000) (hi : ∀ l ∈ ls, lOk m l) : runF p 6 Blwritten [groundD m ls] = some (.str (ls.foldl tst ("spots " ++ sN m))) := by
  show left (evSS p (.cons _ (.cons _ (.cons _ .nil))) [some (.val (groundD m ls)), none, none, none, none, none]) = _
  have sm := str_nat (show m ≤ 1000 by omega)
  have l0 := sN_len m (by omega)
  have e6 : ("spots " : Str).length = 6 := by decide
  have e4 : (" line " : Str).length = 6 := by decide
  have e5 : (" " : Str).length = 1 := by decide
  have a0 : opD .Add (.str "spots ") (.str (sN m)) = some (.fz, .str ("spots " ++ sN m)) := opD_add_s (by omega)
  rw [evSS_nx (asg_fz (d := .str ("spots " ++ sN m)) (by simp [groundD, sm, a0]))]
  show left (evSS p (.cons _ (.cons _ .nil)) [some (.val (groundD m ls)), some (.val (.str ("spots " ++ sN m))), none, none, none, none]) = _
  obtain ⟨r', e3, x2, x3, x4, rfl, hl⟩ := for_foldi (p := p) (tg := .many [2, 3, 4]) (it := .sq (.ix (.var 0) (.cst (.int 1)))) (b := Blw1) (em := lineD) (k := .fz) (xs := ls) (s := "spots " ++ sN m)
    (r := [some (.val (groundD m ls)), some (.val (.str ("spots " ++ sN m))), none, none, none, none])
    (fun i t r => ∃ x2 x3 x4, r = [some (.val (groundD m ls)), some (.val (.str t)), x2, x3, x4, none] ∧ t.length ≤ 10 + 20 * i) tst
    (by simp [groundD]) (by decide) ⟨none, none, none, rfl, by rw [app_len]; omega⟩ (by
      rintro i t l r hx ⟨x2, x3, x4, rfl, ht⟩
      have hi' : i < ls.length := (List.getElem?_eq_some_iff.mp hx).1
      have hlo := hi l (List.mem_of_getElem? hx)
      have tl := tst_len (t := t) hm hlo
      obtain ⟨h1, h2, h3⟩ := id hlo
      have s1 := str_nat (show l.1 ≤ 1000 by omega)
      have s2 := str_nat (show l.2.1 ≤ 1000 by omega)
      have s3 := str_nat (show l.2.2 ≤ 1000 by omega)
      have l1 := sN_len l.1 (by omega)
      have l2 := sN_len l.2.1 (by omega)
      have l3 := sN_len l.2.2 (by omega)
      refine ⟨_, _, rfl, ?_, some (.val (dn l.1)), some (.val (dn l.2.1)), some (.val (dn l.2.2)), rfl, by omega⟩
      show evSS p (.cons _ .nil) [some (.val (groundD m ls)), some (.val (.str t)), some (.val (dn l.1)), some (.val (dn l.2.1)), some (.val (dn l.2.2)), none] = _
      have b1 : opD .Add (.str t) (.str " line ") = some (.fz, .str (t ++ " line ")) := opD_add_s (by omega)
      have b2 : opD .Add (.str (t ++ " line ")) (.str (sN l.1)) = some (.fz, .str (t ++ " line " ++ sN l.1)) := opD_add_s (by simp only [app_len]; omega)
      have b3 : opD .Add (.str (t ++ " line " ++ sN l.1)) (.str " ") = some (.fz, .str (t ++ " line " ++ sN l.1 ++ " ")) := opD_add_s (by simp only [app_len]; omega)
      have b4 : opD .Add (.str (t ++ " line " ++ sN l.1 ++ " ")) (.str (sN l.2.1)) = some (.fz, .str (t ++ " line " ++ sN l.1 ++ " " ++ sN l.2.1)) := opD_add_s (by simp only [app_len]; omega)
      have b5 : opD .Add (.str (t ++ " line " ++ sN l.1 ++ " " ++ sN l.2.1)) (.str " ") = some (.fz, .str (t ++ " line " ++ sN l.1 ++ " " ++ sN l.2.1 ++ " ")) := opD_add_s (by simp only [app_len]; omega)
      have b6 : opD .Add (.str (t ++ " line " ++ sN l.1 ++ " " ++ sN l.2.1 ++ " ")) (.str (sN l.2.2)) = some (.fz, .str (tst t l)) := opD_add_s (by simp only [app_len]; omega)
      rw [evSS_nx (asg_fz (d := .str (tst t l)) (by simp [s1, s2, s3, b1, b2, b3, b4, b5, b6]))]
      rfl)
  rw [evSS_nx e3]
  simp
theorem lwritten_ev (p : Nat → List D → Option D) {m : Nat} {ls : List (Nat × Nat × Nat)} (hm : m ≤ 7) (hL : ls.length ≤ 21) (hi : ∀ l ∈ ls, lOk m l) : runF p 6 Blwritten [groundD m ls] = some (.str (ls.foldl tst ("spots " ++ sN m))) := lwritten_ev0 p hm (by omega) hi
theorem groundB_inv {d : D} (h : groundB d = true) : ∃ m ls, d = groundD m ls ∧ 0 < m ∧ m ≤ 7 ∧ ls.length ≤ 21 ∧ ∀ l ∈ ls, lOk m l := by
  unfold groundB at h
  split at h
  case h_2 => cases h
  rename_i a ds
  split at h
  case h_2 => cases h
  rename_i mi
  simp only [Bool.and_eq_true, decide_eq_true_eq] at h
  obtain ⟨⟨h1, h2⟩, h3, h4⟩ := h
  obtain ⟨m, rfl⟩ : ∃ m : Nat, mi = (m : Int) := ⟨mi.toNat, by omega⟩
  have key : ∀ (es : List D), es.all (lineB (m : Int)) = true → ∃ ls : List (Nat × Nat × Nat), es = ls.map lineD ∧ ∀ l ∈ ls, lOk m l := by
    intro es
    induction es with
    | nil => intro _; exact ⟨[], rfl, fun l hl => by cases hl⟩
    | cons e r ih =>
      intro ha
      rw [List.all_cons, Bool.and_eq_true] at ha
      obtain ⟨ls, rfl, hls⟩ := ih ha.2
      have hb := ha.1
      unfold lineB at hb
      split at hb
      case h_2 => cases hb
      rename_i x y z
      rw [Bool.and_eq_true] at hb
      obtain ⟨xi, yi, rfl, rfl, c1, c2, c3⟩ := pairB_iff.mp hb.1
      have hz := hb.2
      unfold whole at hz
      split at hz
      case h_2 => cases hz
      rename_i zi
      have hz := of_decide_eq_true hz
      refine ⟨(xi.toNat, yi.toNat, zi.toNat) :: ls, ?_, fun l hl => ?_⟩
      · rw [List.map_cons]
        congr 1
        show D.tup [.int xi, .int yi, .int zi] = .tup [dn xi.toNat, dn yi.toNat, dn zi.toNat]
        have q1 : ((xi.toNat : Nat) : Int) = xi := by omega
        have q2 : ((yi.toNat : Nat) : Int) = yi := by omega
        have q3 : ((zi.toNat : Nat) : Int) = zi := by omega
        simp only [dn, q1, q2, q3]
      · rcases List.mem_cons.mp hl with rfl | hl
        · show _ < _ ∧ _ < _ ∧ _ ≤ _
          simp only
          omega
        · exact hls l hl
  obtain ⟨ls, rfl, hls⟩ := key ds h4
  exact ⟨m, ls, rfl, by omega, by omega, by simpa using h3, hls⟩
end TW
end
section
set_option Elab.async false
set_option linter.all false
set_option maxHeartbeats 1000000
namespace TW
open PySem
noncomputable def sg (x : Str) : List Nat := x.cps.toList
theorem sg_inj {x y : Str} (h : sg x = sg y) : x = y := by
  cases x; cases y
  simp only [sg] at h
  rw [Array.toList_inj.mp h]
theorem sg_len (x : Str) : (sg x).length = x.length := Array.length_toList
theorem sg_app (x y : Str) : sg (x ++ y) = sg x ++ sg y := Array.toList_append
noncomputable def jf : List Str → List Nat
  | [] => []
  | x :: r => sg x ++ r.flatMap fun p => 32 :: sg p
theorem sg_blank : sg " " = [32] := by decide
theorem blank_eq : (" " : Str) = ⟨#[32]⟩ := by decide
theorem jf_joinS (l : List Str) : sg (joinS " " l) = jf l := by
  have key : ∀ (r : List Str) (a : Array Nat), (r.foldl (fun acc p => acc ++ (" " : Str).cps ++ p.cps) a).toList = a.toList ++ r.flatMap fun p => 32 :: sg p := by
    intro r
    induction r with
    | nil => intro a; simp
    | cons y r ih =>
      intro a
      rw [List.foldl_cons, ih, Array.toList_append, Array.toList_append]
      have : (" " : Str).cps.toList = [32] := sg_blank
      rw [this]
      simp [sg]
  cases l with
  | nil => rfl
  | cons x r => exact key r x.cps
theorem jf_join : ∀ l : List Str, sg (Str.join " " l) = jf l
  | [] => rfl
  | [x] => by show sg x = sg x ++ []; simp
  | x :: y :: r => by
    show sg (x ++ " " ++ Str.join " " (y :: r)) = _
    rw [sg_app, sg_app, jf_join (y :: r), sg_blank]
    simp [jf]
theorem cut_free {c : Nat} : ∀ {x x' s s' : List Nat}, c ∉ x → c ∉ x' → (s = [] ∨ ∃ q, s = c :: q) → (s' = [] ∨ ∃ q, s' = c :: q) → x ++ s = x' ++ s' → x = x' ∧ s = s'
  | [], [], s, s', _, _, _, _, e => ⟨rfl, e⟩
  | [], a :: x', s, s', _, h', hs, _, e => by
    exfalso
    rcases hs with rfl | ⟨q, rfl⟩
    · cases e
    · simp only [List.nil_append, List.cons_append, List.cons.injEq] at e
      exact h' (by simp [e.1])
  | a :: x, [], s, s', h, _, _, hs, e => by
    exfalso
    rcases hs with rfl | ⟨q, rfl⟩
    · cases e
    · simp only [List.nil_append, List.cons_append, List.cons.injEq] at e
      exact h (by simp [e.1])
  | a :: x, b :: x', s, s', h, h', hs, hs', e => by
    simp only [List.cons_append, List.cons.injEq] at e
    obtain ⟨q1, q2⟩ := cut_free (fun z => h (List.mem_cons_of_mem _ z)) (fun z => h' (List.mem_cons_of_mem _ z)) hs hs' e.2
    exact ⟨by rw [e.1, q1], q2⟩
theorem flat_start (r : List Str) : r.flatMap (fun p => 32 :: sg p) = [] ∨ ∃ q, r.flatMap (fun p => 32 :: sg p) = 32 :: q := by
  cases r with
  | nil => exact .inl rfl
  | cons y r => exact .inr ⟨_, by rw [List.flatMap_cons]; rfl⟩
theorem flat_inj : ∀ {l m : List Str}, (∀ x ∈ l, 32 ∉ sg x) → (∀ x ∈ m, 32 ∉ sg x) → l.flatMap (fun p => 32 :: sg p) = m.flatMap (fun p => 32 :: sg p) → l = m
  | [], [], _, _, _ => rfl
  | [], _ :: _, _, _, e => by simp at e
  | _ :: _, [], _, _, e => by simp at e
  | x :: l, y :: m, h, h', e => by
    simp only [List.flatMap_cons, List.cons_append, List.cons.injEq, true_and] at e
    obtain ⟨e1, e2⟩ := cut_free (h x List.mem_cons_self) (h' y List.mem_cons_self) (flat_start l) (flat_start m) e
    rw [sg_inj e1, flat_inj (fun z hz => h z (List.mem_cons_of_mem _ hz)) (fun z hz => h' z (List.mem_cons_of_mem _ hz)) e2]
theorem jf_inj {l m : List Str} (hl : l ≠ []) (hm : m ≠ []) (h : ∀ x ∈ l, 32 ∉ sg x) (h' : ∀ x ∈ m, 32 ∉ sg x) (e : jf l = jf m) : l = m := by
  cases l with
  | nil => exact absurd rfl hl
  | cons x l =>
    cases m with
    | nil => exact absurd rfl hm
    | cons y m =>
      simp only [jf] at e
      obtain ⟨e1, e2⟩ := cut_free (h x List.mem_cons_self) (h' y List.mem_cons_self) (flat_start l) (flat_start m) e
      rw [sg_inj e1, flat_inj (fun z hz => h z (List.mem_cons_of_mem _ hz)) (fun z hz => h' z (List.mem_cons_of_mem _ hz)) e2]
noncomputable def spw (t : Str) : List Str := Txt.split t " "
theorem spw_ne (t : Str) : spw t ≠ [] := fun e => by
  have := PyProof.Rows.split_pos t " "
  unfold spw at e
  rw [e] at this
  simp at this
theorem spw_free (t : Str) : ∀ x ∈ spw t, 32 ∉ sg x := by
  unfold spw
  rw [blank_eq]
  exact StrLaws.split_free t 32
theorem spw_jf (t : Str) : jf (spw t) = sg t := by
  rw [← jf_join]
  unfold spw
  rw [StrLaws.join_split]
theorem spw_short {t w : Str} (h : w ∈ spw t) : w.length ≤ t.length := PyProof.Rows.part_short h
theorem spw_len (t : Str) : (spw t).length ≤ t.length + 2 := PyProof.Rows.split_le t " "
theorem spw_of {t : Str} {l : List Str} (hl : l ≠ []) (h : ∀ x ∈ l, 32 ∉ sg x) (e : joinS " " l = t) : spw t = l :=
  jf_inj (spw_ne t) hl (spw_free t) h (by rw [spw_jf, ← e, jf_joinS])
theorem of_spw {t : Str} {l : List Str} (e : spw t = l) : joinS " " l = t := sg_inj (by rw [jf_joinS, ← e, spw_jf])
noncomputable def Asc (t : Str) : Prop := ∀ c ∈ sg t, c < 0x110000
theorem mem_jf {l : List Str} {c : Nat} (h : c ∈ jf l) : c = 32 ∨ ∃ x ∈ l, c ∈ sg x := by
  cases l with
  | nil => cases h
  | cons x r =>
    rcases List.mem_append.mp h with h | h
    · exact .inr ⟨x, List.mem_cons_self, h⟩
    · obtain ⟨y, hy, h⟩ := List.mem_flatMap.mp h
      rcases List.mem_cons.mp h with h | h
      · exact .inl h
      · exact .inr ⟨y, List.mem_cons_of_mem _ hy, h⟩
theorem jf_mem {l : List Str} {c : Nat} {x : Str} (hx : x ∈ l) (h : c ∈ sg x) : c ∈ jf l := by
  cases l with
  | nil => cases hx
  | cons y r =>
    rcases List.mem_cons.mp hx with rfl | hx
    · exact List.mem_append_left _ h
    · exact List.mem_append_right _ (List.mem_flatMap.mpr ⟨x, hx, List.mem_cons_of_mem _ h⟩)
theorem asc_spw {t : Str} (h : Asc t) : ∀ x ∈ spw t, Asc x := fun x hx c hc => h c (by rw [← spw_jf]; exact jf_mem hx hc)
theorem asc_join {l : List Str} (h : ∀ x ∈ l, Asc x) : Asc (joinS " " l) := by
  intro c hc
  rw [jf_joinS] at hc
  rcases mem_jf hc with rfl | ⟨x, hx, hc⟩
  · decide
  · exact h x hx c hc
theorem asc_app {x y : Str} (hx : Asc x) (hy : Asc y) : Asc (x ++ y) := by
  intro c hc
  rw [sg_app] at hc
  rcases List.mem_append.mp hc with h | h
  · exact hx c h
  · exact hy c h
theorem asc_slice {x : Str} (h : Asc x) (l u : Option Int) : Asc (Txt.slice x l u) := by
  unfold Txt.slice
  split
  · exact h
  · intro c hc
    simp only [sg] at hc
    obtain ⟨i, _, hi⟩ := List.mem_filterMap.mp hc
    exact h c (Array.mem_toList_iff.mpr (Array.mem_of_getElem? hi))
theorem okD_asc {x : Str} (h : Asc x) (n : Nat) : okD n (.str x) = true := by
  have : x.cps.all (· < 0x110000) = true := by
    rw [Array.all_eq_true_iff_forall_mem]
    intro c hc
    exact decide_eq_true (h c (Array.mem_toList_iff.mpr hc))
  cases n <;> exact this
open PySem.NumText (AllDigits digitsVal)
theorem fold_ge : ∀ (l : List Nat) (a : Nat), a ≤ l.foldl (fun acc c => acc * 10 + (c - 48)) a
  | [], a => Nat.le_refl a
  | c :: l, a => Nat.le_trans (by omega) (fold_ge l (a * 10 + (c - 48)))
theorem val_pos {c : Nat} {l : List Nat} (h : AllDigits (c :: l)) (hc : c ≠ 48) : 0 < digitsVal (c :: l) := by
  have := h.head
  exact Nat.lt_of_lt_of_le (by omega) (fold_ge l (0 * 10 + (c - 48)))
theorem val_snoc (l : List Nat) (c : Nat) : digitsVal (l ++ [c]) = digitsVal l * 10 + (c - 48) := by
  unfold digitsVal
  rw [List.foldl_append]
  rfl
theorem val_zero {l : List Nat} (h : AllDigits l) (hz : l[0]? ≠ some 48) (e : digitsVal l = 0) : l = [] := by
  cases l with
  | nil => rfl
  | cons c l =>
    have := val_pos h fun z => hz (by rw [z]; rfl)
    omega
theorem head_snoc {l : List Nat} {c : Nat} (h : (l ++ [c])[0]? ≠ some 48) : l[0]? ≠ some 48 := by
  cases l with
  | nil => intro z; cases z
  | cons a l => exact h
theorem val_inj : ∀ (n : Nat) (a b : List Nat), a.length ≤ n → AllDigits a → AllDigits b → a[0]? ≠ some 48 → b[0]? ≠ some 48 → digitsVal a = digitsVal b → a = b
  | 0, a, b, hn, ha, hb, za, zb, e => by
    have : a = [] := List.length_eq_zero_iff.mp (by omega)
    subst this
    exact (val_zero hb zb e.symm).symm
  | n + 1, a, b, hn, ha, hb, za, zb, e => by
    rcases List.eq_nil_or_concat a with rfl | ⟨a', c, rfl⟩
    · exact (val_zero hb zb e.symm).symm
    · rcases List.eq_nil_or_concat b with rfl | ⟨b', d, rfl⟩
      · exact val_zero ha za e
      · rw [List.concat_eq_append] at *
        rw [List.concat_eq_append] at *
        rw [val_snoc, val_snoc] at e
        have hc := ha c (by simp)
        have hd := hb d (by simp)
        rw [List.length_append] at hn
        simp only [List.length_cons, List.length_nil] at hn
        rw [val_inj n a' b' (by omega) (fun x hx => ha x (List.mem_append_left _ hx)) (fun x hx => hb x (List.mem_append_left _ hx)) (head_snoc za) (head_snoc zb) (by omega), show c = d by omega]
noncomputable def dig (c : Nat) : Bool := decide (c ∈ sg "0123456789")
theorem dig_iff {c : Nat} : dig c = true ↔ 48 ≤ c ∧ c ≤ 57 := by
  have e : sg "0123456789" = List.range' 48 10 := by decide
  unfold dig
  rw [decide_eq_true_eq, e, List.mem_range'_1]
  exact ⟨fun h => ⟨h.1, by omega⟩, fun h => ⟨h.1, by omega⟩⟩
noncomputable def isN (w : Str) : Bool := !(decide (w = "") || decide (4 < w.length)) && (!(decide ((sg w)[0]? = some 48) && !decide (w = "0")) && (sg w).all dig)
noncomputable def vl (w : Str) : Nat := digitsVal (sg w)
theorem isN_dig {w : Str} (h : isN w = true) : AllDigits (sg w) := by
  simp only [isN, Bool.and_eq_true, List.all_eq_true] at h
  exact fun c hc => dig_iff.mp (h.2.2 c hc)
theorem isN_zero {w : Str} (h : isN w = true) (z : (sg w)[0]? = some 48) : w = "0" := by
  simp only [isN, Bool.and_eq_true, Bool.not_eq_true', Bool.and_eq_false_iff, decide_eq_false_iff_not, Bool.not_eq_false', decide_eq_true_eq] at h
  exact h.2.1.resolve_left fun q => q z
theorem isN_len {w : Str} (h : isN w = true) : 1 ≤ w.length ∧ w.length ≤ 4 := by
  simp only [isN, Bool.and_eq_true, Bool.not_eq_true', Bool.or_eq_false_iff, decide_eq_false_iff_not] at h
  refine ⟨?_, by omega⟩
  have h1 := h.1.1
  rw [← sg_len]
  cases e : sg w with
  | nil => exact absurd (sg_inj (by rw [e]; decide)) h1
  | cons a r => simp
theorem isN_free {w : Str} (h : isN w = true) : 32 ∉ sg w := fun z => by
  have := isN_dig h _ z
  omega
theorem isN_int {w : Str} (h : isN w = true) : intText? w = some ((vl w : Nat) : Int) := by
  have hl := isN_len h
  refine intText_digits (isN_dig h) (fun e => ?_) (by omega)
  have : (sg w).length = 0 := by
    show w.cps.toList.length = 0
    rw [e]; rfl
  rw [sg_len] at this
  omega
theorem vl_inj {v w : Str} (hv : isN v = true) (hw : isN w = true) (e : vl v = vl w) : v = w := by
  have dv := isN_dig hv
  have dw := isN_dig hw
  have z0 : vl "0" = 0 := by decide
  have ne : ∀ {x : Str}, isN x = true → vl x = 0 → (sg x)[0]? ≠ some 48 → False := fun {x} hx h0 hz => by
    have ex := val_zero (isN_dig hx) hz h0
    have : x = "" := sg_inj (by rw [ex]; decide)
    rw [this] at hx
    exact absurd hx (by decide)
  by_cases zv : (sg v)[0]? = some 48
  · have ev := isN_zero hv zv
    rw [ev, z0] at e
    by_cases zw : (sg w)[0]? = some 48
    · rw [ev, isN_zero hw zw]
    · exact (ne hw e.symm zw).elim
  · by_cases zw : (sg w)[0]? = some 48
    · rw [isN_zero hw zw, z0] at e
      exact (ne hv e zv).elim
    · exact sg_inj (val_inj _ _ _ (Nat.le_refl _) dv dw zv zw e)
theorem sN_is : ∀ n, n < 1001 → isN (sN n) = true := by decide +kernel
theorem sN_vl : ∀ n, n < 1001 → vl (sN n) = n := by decide +kernel
theorem sN_one : ∀ n, n < 10 → (sN n).length = 1 := by decide +kernel
theorem canon {w : Str} (h : isN w = true) (hv : vl w ≤ 1000) : sN (vl w) = w := vl_inj (sN_is _ (by omega)) h (sN_vl _ (by omega))
noncomputable def loose (w : Str) (most : Nat) : Bool := decide (1 ≤ w.length ∧ w.length ≤ most) && (sg w).all dig
theorem loose_int {w : Str} {most : Nat} (h : loose w most = true) (hm : most ≤ 4) : intText? w = some ((vl w : Nat) : Int) := by
  simp only [loose, Bool.and_eq_true, decide_eq_true_eq, List.all_eq_true] at h
  refine intText_digits (fun c hc => dig_iff.mp (h.2 c hc)) (fun e => ?_) (by omega)
  have : (sg w).length = 0 := by
    show w.cps.toList.length = 0
    rw [e]; rfl
  rw [sg_len] at this
  omega
theorem loose_is {w : Str} (h : isN w = true) : loose w 4 = true := by
  have hl := isN_len h
  simp only [loose, Bool.and_eq_true, decide_eq_true_eq]
  simp only [isN, Bool.and_eq_true] at h
  exact ⟨hl, h.2.2⟩
theorem loose_one {n : Nat} (h : n < 10) : loose (sN n) 1 = true := by
  have hl := sN_one n h
  have hi := sN_is n (by omega)
  simp only [loose, Bool.and_eq_true, decide_eq_true_eq]
  simp only [isN, Bool.and_eq_true] at hi
  exact ⟨by omega, hi.2.2⟩
@[simp] theorem ev_tm (p : Nat → List D → Option D) {f a b} (r : En) : ev p (.tm f a b) r = vt ((ev p a r).1.bind fun x => (ev p b r).1.bind fun y => tmD f x.2 y.2) := rfl
@[simp] theorem ev_tix (p : Nat → List D → Option D) {a b} (r : En) : ev p (.tix a b) r = vt ((ev p a r).1.bind fun x => (ev p b r).1.bind fun y => tixD x.2 y.2) := rfl
@[simp] theorem ev_tsl (p : Nat → List D → Option D) {a lo hi} (r : En) : ev p (.tsl a lo hi) r = vt ((ev p a r).1.bind fun x => (evO p lo r).1.bind fun l => (evO p hi r).1.bind fun h => tslD x.2 l h) := rfl
@[simp] theorem ev_tin (p : Nat → List D → Option D) {a b} (r : En) : ev p (.tin a b) r = vt ((ev p a r).1.bind fun x => (ev p b r).1.bind fun y => (tinO x.2 y.2).map fun b => (.fz, .bl b)) := rfl
@[simp] theorem evI_tx (p : Nat → List D → Option D) {a} (r : En) : evI p (.tx a) r = (ev p a r).1.bind fun x => match x.2 with | .str z => if z.length ≤ lim then some (.fz, sgnD z) else none | _ => none := rfl
@[simp] theorem evI_r4 (p : Nat → List D → Option D) {a b c} (r : En) : evI p (.r4 a b c) r = (ev p a r).1.bind fun x => (ev p b r).1.bind fun y => (ev p c r).1.bind fun z => match x.2, y.2, z.2 with
    | .int i, .int j, .int k => if rngOk i && rngOk j && k == 4 then some (.fz, frD i ((j - i + 3) / 4).toNat) else none
    | _, _, _ => none := rfl
@[simp] theorem cmp_eq_s (a b : Str) : cmpD .Eq (.str a) (.str b) = some (decide (a = b)) := rfl
@[simp] theorem cmp_ne_s (a b : Str) : cmpD .NotEq (.str a) (.str b) = some (!decide (a = b)) := rfl
theorem len_s {x : Str} (h : x.length ≤ 65536) : b1D .len (.str x) = some (.fz, .int (x.length : Int)) := if_pos h
theorem tm_split {z : Str} (h : z.length ≤ 65534) : tmD .split (.str z) (.str " ") = some (.fr, .lst ((spw z).map D.str)) := if_pos ⟨by decide, show z.length + 2 ≤ 65536 by omega⟩
theorem itx_ev {x : Str} {n : Int} (h : x.length ≤ 640) (e : intText? x = some n) : b1D .itx (.str x) = some (.fz, .int n) := by
  show (if x.length ≤ 640 then _ else _) = _
  rw [if_pos h, e]
  rfl
theorem tin_one (c : Nat) (z : Str) : tinO (.str ⟨#[c]⟩) (.str z) = some (decide (c ∈ sg z)) := by
  show some _ = _
  rw [StrLaws.found_one]
  rfl
theorem find_neg (c : Nat) (z : Str) : ∃ i : Int, tmD .find (.str z) (.str ⟨#[c]⟩) = some (.fz, .int i) ∧ decide (i < 0) = !decide (c ∈ sg z) := by
  have h := StrLaws.found_one z c
  refine ⟨_, rfl, ?_⟩
  show _ = !decide (c ∈ z.cps.toList)
  rw [← h]
  cases Builtin.Str.occurrences z ⟨#[c]⟩ 0 z.length 1 with
  | nil => rfl
  | cons i r =>
    show decide ((i : Int) < 0) = _
    rw [decide_eq_false (by omega)]
    rfl
theorem cut_nat {α : Type} (xs : List α) (a b : Nat) : cut xs (some (a : Int)) (some (b : Int)) = (xs.drop a).take (b - a) := by
  have h1 : (min (a : Int) (xs.length : Int)).toNat = min a xs.length := by omega
  have h2 : (min (b : Int) (xs.length : Int)).toNat = min b xs.length := by omega
  simp only [cut, sIx, if_neg (show ¬ (a : Int) < 0 by omega), if_neg (show ¬ (b : Int) < 0 by omega), h1, h2]
  by_cases h : a ≤ xs.length
  · rw [Nat.min_eq_left h]
    by_cases h' : b ≤ xs.length
    · rw [Nat.min_eq_left h']
    · rw [Nat.min_eq_right (by omega), List.take_of_length_le (by simp), List.take_of_length_le (by simp; omega)]
  · rw [Nat.min_eq_right (by omega : xs.length ≤ a), List.drop_of_length_le (by omega : xs.length ≤ xs.length), List.drop_of_length_le (by omega : xs.length ≤ a)]
    simp
theorem drop_at {α : Type} {xs : List α} {a : Nat} {x : α} (h : xs[a]? = some x) : xs.drop a = x :: xs.drop (a + 1) := by
  obtain ⟨h1, h2⟩ := List.getElem?_eq_some_iff.mp h
  rw [List.drop_eq_getElem_cons h1, h2]
theorem cut_4 {α : Type} {xs : List α} {a : Nat} {x0 x1 x2 x3 : α} (h0 : xs[a]? = some x0) (h1 : xs[a + 1]? = some x1) (h2 : xs[a + 2]? = some x2) (h3 : xs[a + 3]? = some x3) : cut xs (some (a : Int)) (some ((a : Int) + 4)) = [x0, x1, x2, x3] := by
  rw [show ((a : Int) + 4) = ((a + 4 : Nat) : Int) by omega, cut_nat, drop_at h0, drop_at h1, drop_at h2, drop_at h3, show a + 4 - a = 4 by omega]
  rfl
theorem cut_3 {α : Type} {xs : List α} {a : Nat} {x1 x2 x3 : α} (h1 : xs[a + 1]? = some x1) (h2 : xs[a + 2]? = some x2) (h3 : xs[a + 3]? = some x3) : cut xs (some ((a : Int) + 1)) (some ((a : Int) + 4)) = [x1, x2, x3] := by
  rw [show ((a : Int) + 4) = ((a + 4 : Nat) : Int) by omega, show ((a : Int) + 1) = ((a + 1 : Nat) : Int) by omega, cut_nat, drop_at h1, drop_at h2, drop_at h3, show a + 4 - (a + 1) = 3 by omega]
  rfl
noncomputable def wof (m : Nat) (ls : List (Nat × Nat × Nat)) : List Str := "spots" :: sN m :: ls.flatMap fun l => [("line" : Str), sN l.1, sN l.2.1, sN l.2.2]
theorem wof_eq (m : Nat) (ls : List (Nat × Nat × Nat)) : ls.foldl wst ["spots", sN m] = wof m ls := by
  have key : ∀ (ls : List (Nat × Nat × Nat)) (w : List Str), ls.foldl wst w = w ++ ls.flatMap fun l => [("line" : Str), sN l.1, sN l.2.1, sN l.2.2] := by
    intro ls
    induction ls with
    | nil => intro w; simp
    | cons l ls ih => intro w; rw [List.foldl_cons, ih]; simp [wst]
  rw [key]
  rfl
theorem wof_len (m : Nat) (ls : List (Nat × Nat × Nat)) : (wof m ls).length = 4 * ls.length + 2 := by
  have key : ∀ ls : List (Nat × Nat × Nat), (ls.flatMap fun l => [("line" : Str), sN l.1, sN l.2.1, sN l.2.2]).length = 4 * ls.length := by
    intro ls
    induction ls with
    | nil => rfl
    | cons l ls ih =>
      rw [List.flatMap_cons, List.length_append, ih]
      simp only [List.length_cons, List.length_nil]
      omega
  show (ls.flatMap fun l => [("line" : Str), sN l.1, sN l.2.1, sN l.2.2]).length + 1 + 1 = _
  rw [key]
theorem wof_text (m : Nat) (ls : List (Nat × Nat × Nat)) : ls.foldl tst ("spots " ++ sN m) = joinS " " (wof m ls) := by
  rw [← wof_eq, join_all ls (by simp), join_two]
theorem flat_at : ∀ (ls : List (Nat × Nat × Nat)) (k : Nat) (l : Nat × Nat × Nat), ls[k]? = some l → ∀ j < 4, (ls.flatMap fun l => [("line" : Str), sN l.1, sN l.2.1, sN l.2.2])[4 * k + j]? = [("line" : Str), sN l.1, sN l.2.1, sN l.2.2][j]?
  | [], k, l, h => by simp at h
  | l' :: ls, 0, l, h => by
    intro j hj
    simp only [List.getElem?_cons_zero, Option.some.injEq] at h
    subst h
    rw [List.flatMap_cons, Nat.mul_zero, Nat.zero_add, List.getElem?_append_left (by simpa using hj)]
  | l' :: ls, k + 1, l, h => by
    intro j hj
    rw [List.getElem?_cons_succ] at h
    rw [List.flatMap_cons, List.getElem?_append_right (by simp; omega), ← flat_at ls k l h j hj]
    congr 1
    simp
    omega
structure Wd (ws : List Str) (m : Nat) (ls : List (Nat × Nat × Nat)) : Prop where
  len : ws.length = 4 * ls.length + 2
  w0 : ws[0]? = some ("spots" : Str)
  w1 : ws[1]? = some (sN m)
  q0 : ∀ k l, ls[k]? = some l → ws[2 + 4 * k]? = some ("line" : Str)
  q1 : ∀ k l, ls[k]? = some l → ws[2 + 4 * k + 1]? = some (sN l.1)
  q2 : ∀ k l, ls[k]? = some l → ws[2 + 4 * k + 2]? = some (sN l.2.1)
  q3 : ∀ k l, ls[k]? = some l → ws[2 + 4 * k + 3]? = some (sN l.2.2)
theorem wd_wof (m : Nat) (ls : List (Nat × Nat × Nat)) : Wd (wof m ls) m ls := by
  have key : ∀ k l, ls[k]? = some l → ∀ j < 4, (wof m ls)[2 + 4 * k + j]? = [("line" : Str), sN l.1, sN l.2.1, sN l.2.2][j]? := by
    intro k l h j hj
    rw [show 2 + 4 * k + j = 4 * k + j + 1 + 1 by omega]
    exact flat_at ls k l h j hj
  exact ⟨wof_len m ls, rfl, rfl, fun k l h => key k l h 0 (by decide), fun k l h => key k l h 1 (by decide), fun k l h => key k l h 2 (by decide), fun k l h => key k l h 3 (by decide)⟩
theorem Wd.eq {ws : List Str} {m : Nat} {ls : List (Nat × Nat × Nat)} (h : Wd ws m ls) : ws = wof m ls := by
  have g := wd_wof m ls
  apply List.ext_getElem?
  intro i
  by_cases hi : i < 4 * ls.length + 2
  · match i, hi with
    | 0, _ => rw [h.w0, g.w0]
    | 1, _ => rw [h.w1, g.w1]
    | i + 2, hi =>
      have hk : i / 4 < ls.length := by omega
      have hl : ls[i / 4]? = some ls[i / 4] := List.getElem?_eq_getElem hk
      rcases (by omega : i % 4 = 0 ∨ i % 4 = 1 ∨ i % 4 = 2 ∨ i % 4 = 3) with e | e | e | e
      · rw [show i + 2 = 2 + 4 * (i / 4) by omega, h.q0 _ _ hl, g.q0 _ _ hl]
      · rw [show i + 2 = 2 + 4 * (i / 4) + 1 by omega, h.q1 _ _ hl, g.q1 _ _ hl]
      · rw [show i + 2 = 2 + 4 * (i / 4) + 2 by omega, h.q2 _ _ hl, g.q2 _ _ hl]
      · rw [show i + 2 = 2 + 4 * (i / 4) + 3 by omega, h.q3 _ _ hl, g.q3 _ _ hl]
  · rw [List.getElem?_eq_none (by rw [h.len]; omega), List.getElem?_eq_none (by rw [wof_len]; omega)]
theorem wof_free {m : Nat} {ls : List (Nat × Nat × Nat)} (hm : m ≤ 7) (hi : ∀ l ∈ ls, lOk m l) : ∀ x ∈ wof m ls, 32 ∉ sg x := by
  intro x hx
  have nf : ∀ n, n ≤ 1000 → 32 ∉ sg (sN n) := fun n hn => isN_free (sN_is n (by omega))
  rcases List.mem_cons.mp hx with rfl | hx
  · decide
  rcases List.mem_cons.mp hx with rfl | hx
  · exact nf _ (by omega)
  obtain ⟨l, hl, hx⟩ := List.mem_flatMap.mp hx
  obtain ⟨h1, h2, h3⟩ := hi l hl
  simp only [List.mem_cons, List.not_mem_nil, or_false] at hx
  rcases hx with rfl | rfl | rfl | rfl
  · decide
  · exact nf _ (by omega)
  · exact nf _ (by omega)
  · exact nf _ (by omega)
theorem text_iff {t : Str} {m : Nat} {ls : List (Nat × Nat × Nat)} (hm : m ≤ 7) (hi : ∀ l ∈ ls, lOk m l) : ls.foldl tst ("spots " ++ sN m) = t ↔ Wd (spw t) m ls := by
  rw [wof_text]
  constructor
  · intro e
    rw [spw_of (by unfold wof; simp) (wof_free hm hi) e]
    exact wd_wof m ls
  · intro h
    exact of_spw h.eq
theorem for_alli {p : Nat → List D → Option D} {tg : Tg} {it : CI} {b : SS} {k : Kd} {em : Nat → D} {n : Nat} {good : Nat → Bool} {r0 : En} {d0 : D} (R : Nat → En → Prop) (hi : evI p it r0 = some (k, (List.range n).map em)) (hk : k ≠ .bo) (h0 : R 0 r0)
    (hs : ∀ i r, i < n → R i r → ∃ q, bindT tg (em i) r = some q ∧ (good i = true → ∃ r', evSS p b q = some (.nx r') ∧ R (i + 1) r') ∧ (good i = false → evSS p b q = some (.rt d0))) :
    ((∀ i < n, good i = true) → ∃ r', evS p (.fr tg it b) r0 = some (.nx r') ∧ R n r') ∧ ((∃ i, i < n ∧ good i = false) → evS p (.fr tg it b) r0 = some (.rt d0)) := by
  have gen : ∀ (m i : Nat) (r : En), i + m = n → R i r → ((∀ j, i ≤ j → j < n → good j = true) → ∃ r', loopF tg (fun q => evSS p b q) ((List.range' i m).map em) r = some (.nx r') ∧ R n r') ∧ ((∃ j, i ≤ j ∧ j < n ∧ good j = false) → loopF tg (fun q => evSS p b q) ((List.range' i m).map em) r = some (.rt d0)) := by
    intro m
    induction m with
    | zero =>
      intro i r e hr
      refine ⟨fun _ => ⟨r, rfl, ?_⟩, fun ⟨j, h1, h2, _⟩ => by omega⟩
      rw [← e]
      exact hr
    | succ m ih =>
      intro i r e hr
      obtain ⟨q, hq, hg, hb⟩ := hs i r (by omega) hr
      by_cases g : good i = true
      · obtain ⟨r', e', hr'⟩ := hg g
        have := ih (i + 1) r' (by omega) hr'
        have lf : loopF tg (fun q => evSS p b q) ((List.range' i (m + 1)).map em) r = loopF tg (fun q => evSS p b q) ((List.range' (i + 1) m).map em) r' := by
          simp only [List.range'_succ, List.map_cons, loopF, hq, Option.bind_some, e']
        rw [lf]
        refine ⟨fun h => this.1 fun j h1 h2 => h j (by omega) h2, fun ⟨j, h1, h2, h3⟩ => this.2 ⟨j, ?_, h2, h3⟩⟩
        rcases Nat.lt_or_ge i j with z | z
        · exact z
        · have : i = j := by omega
          subst this
          rw [g] at h3
          cases h3
      · have g' : good i = false := by simpa using g
        have lf : loopF tg (fun q => evSS p b q) ((List.range' i (m + 1)).map em) r = some (.rt d0) := by
          simp only [List.range'_succ, List.map_cons, loopF, hq, Option.bind_some, hb g']
        rw [lf]
        exact ⟨fun h => absurd (h i (Nat.le_refl _) (by omega)) g, fun _ => rfl⟩
  have ef : evS p (.fr tg it b) r0 = loopF tg (fun q => evSS p b q) ((List.range n).map em) r0 := by
    rw [evS_fr, hi]
    cases k with
    | bo => exact absurd rfl hk
    | fz => rfl
    | fr => rfl
  rw [ef, List.range_eq_range']
  have := gen n 0 r0 (by omega) h0
  exact ⟨fun h => this.1 fun j _ hj => h j hj, fun ⟨j, h1, h2⟩ => this.2 ⟨j, by omega, h1, h2⟩⟩
end TW
end
section
set_option Elab.async false
set_option linter.all false
namespace K03
open TW
noncomputable def b0 : SS := block []
noncomputable def b1 : SS := (block [.ret (.an (.isi (.var 0) .int) (.an (.nt (.isi (.var 0) .bool)) (.cmp2 .LtE .LtE (.var 1) (.var 0) (.var 2))))])
noncomputable def b2 : SS := (block [.ret (.an (.isi (.var 0) .tuple) (.cmp .Eq (.b1 .len (.var 0)) (.var 1)))])
noncomputable def b3 : SS := (block [.ifs (.nt (.call 2 (slice [(.var 0), (.cst (.int 2))]))) (block [.ret (.cst (.bl false))]) (block []), .ret (.an (.call 1 (slice [(.ix (.var 0) (.cst (.int 1))), (.cst (.int 0)), (.bin .Sub (.var 1) (.cst (.int 1)))])) (.call 1 (slice [(.ix (.var 0) (.cst (.int 0))), (.cst (.int 0)), (.bin .Sub (.ix (.var 0) (.cst (.int 1))) (.cst (.int 1)))])))])
noncomputable def b4 : SS := (block [.ifs (.nt (.call 2 (slice [(.var 0), (.cst (.int 3))]))) (block [.ret (.cst (.bl false))]) (block []), .ret (.an (.call 3 (slice [(.sl (.var 0) .no (.so (.cst (.int 2)))), (.var 1)])) (.call 1 (slice [(.ix (.var 0) (.cst (.int 2))), (.cst (.int 0)), (.cst (.int 1000))])))])
noncomputable def b5 : SS := (block [.ifs (.nt (.call 2 (slice [(.var 0), (.cst (.int 2))]))) (block [.ret (.cst (.bl false))]) (block []), .asg false 1 (.ix (.var 0) (.cst (.int 0))), .asg false 2 (.ix (.var 0) (.cst (.int 1))), .ifs (.orr (.nt (.call 1 (slice [(.var 1), (.cst (.int 1)), (.cst (.int 7))]))) (.nt (.isi (.var 2) .tuple))) (block [.ret (.cst (.bl false))]) (block []), .ret (.an (.cmp .LtE (.b1 .len (.var 2)) (.cst (.int 21))) (.b1 .all (.comp [none, none, none, some 1] (.one 1) (.sq (.var 2)) .no (.call 4 (slice [(.var 1), (.var 3)])))))])
noncomputable def b6 : SS := (block [.asg false 1 (.tm .split (.var 0) (.cst (.str " "))), .ifs (.orr (.cmp .NotEq (.bin .Mod (.b1 .len (.var 1)) (.cst (.int 4))) (.cst (.int 2))) (.cmp .NotEq (.ix (.var 1) (.cst (.int 0))) (.cst (.str "spots")))) (block [.nev]) (block []), .asg false 2 (.comp [none, none, none, some 1] (.one 1) (.r4 (.cst (.int 2)) (.b1 .len (.var 1)) (.cst (.int 4))) .no (.call 7 (slice [(.sl (.var 3) (.so (.var 1)) (.so (.bin .Add (.var 1) (.cst (.int 4)))))]))), .asg false 3 (.tp (slice [(.call 8 (slice [(.ix (.var 1) (.cst (.int 1)))])), (.b1 .tuple (.var 2))])), .ifs (.nt (.call 5 (slice [(.var 3)]))) (block [.nev]) (block []), .ret (.var 3)])
noncomputable def b7 : SS := (block [.ifs (.cmp .NotEq (.ix (.var 0) (.cst (.int 0))) (.cst (.str "line"))) (block [.nev]) (block []), .ret (.b1 .tuple (.comp [none, none, none] (.one 1) (.sq (.sl (.var 0) (.so (.cst (.int 1))) .no)) .no (.call 8 (slice [(.var 1)]))))])
noncomputable def b8 : SS := (block [.ifs (.nt (.call 9 (slice [(.var 0)]))) (block [.nev]) (block []), .ret (.b1 .itx (.var 0))])
noncomputable def b9 : SS := (block [.ifs (.orr (.cmp .Eq (.var 0) (.cst (.str ""))) (.cmp .Gt (.b1 .len (.var 0)) (.b1 .len (.b1 .str (.cst (.int 1000)))))) (block [.ret (.cst (.bl false))]) (block []), .ifs (.an (.cmp .Eq (.tix (.var 0) (.cst (.int 0))) (.cst (.str "0"))) (.cmp .NotEq (.var 0) (.cst (.str "0")))) (block [.ret (.cst (.bl false))]) (block []), .ret (.b1 .all (.comp [none, none, none] (.one 1) (.tx (.var 0)) .no (.tin (.var 1) (.cst (.str "0123456789")))))])
noncomputable def b10 : SS := (block [.asg false 2 (.bin .Mod (.bin .Mult (.bin .Add (.bin .Add (.call 0 (slice [(.var 0), (.var 1)])) (.bin .Mult (.cst (.int 7919)) (.var 1))) (.cst (.int 1))) (.cst (.int 48271))) (.cst (.int 2147483647))), .ret (.bin .Mod (.bin .Add (.bin .Add (.bin .Mult (.var 2) (.var 2)) (.bin .Mult (.cst (.int 7)) (.var 2))) (.var 1)) (.cst (.int 2147483629)))])
noncomputable def b11 : SS := (block [.asg false 2 (.bin .Mod (.bin .Mult (.bin .Add (.bin .Add (.var 0) (.bin .Mult (.cst (.int 104729)) (.var 1))) (.cst (.int 17))) (.cst (.int 69621))) (.cst (.int 2147483647))), .ret (.bin .Mod (.bin .Add (.bin .Add (.bin .Mult (.var 2) (.var 2)) (.bin .Mult (.cst (.int 3)) (.var 2))) (.var 1)) (.cst (.int 2147483629)))])
noncomputable def b12 : SS := (block [.ret (.an (.isi (.var 0) .int) (.an (.nt (.isi (.var 0) .bool)) (.cmp2 .LtE .LtE (.var 1) (.var 0) (.var 2))))])
noncomputable def b13 : SS := (block [.asg false 3 (.bin .Add (.cst (.int 1)) (.bin .Mod (.var 0) (.var 1))), .asg true 4 (.ls (slice [])), .asg false 5 (.ix (.tp (slice [(.cst (.int 1)), (.cst (.int 3)), (.cst (.int 10)), (.cst (.int 1001))])) (.bin .Mod (.bin .FloorDiv (.var 0) (.cst (.int 8))) (.cst (.int 4)))), .fr (.one 6) (.r2 (.cst (.int 1)) (.var 3)) (block [.asg false 7 (.call 11 (slice [(.var 0), (.var 6)])), .ifs (.orr (.cmp .Gt (.bin .Mod (.bin .FloorDiv (.var 0) (.cst (.int 32))) (.cst (.int 3))) (.cst (.int 0))) (.cmp .Gt (.bin .Mod (.var 7) (.cst (.int 4))) (.cst (.int 0)))) (block [.app 4 (.tp (slice [(.bin .Mod (.bin .FloorDiv (.var 7) (.cst (.int 4))) (.var 6)), (.var 6), (.bin .Mod (.bin .FloorDiv (.var 7) (.cst (.int 64))) (.var 5))]))]) (block [])]), .fr (.one 8) (.r1 (.bin .Mod (.bin .FloorDiv (.var 0) (.cst (.int 96))) (.bin .Add (.var 2) (.cst (.int 1))))) (block [.asg false 7 (.call 11 (slice [(.var 0), (.bin .Add (.cst (.int 20)) (.var 8))])), .ifs (.an (.cmp .Gt (.var 3) (.cst (.int 1))) (.cmp .Lt (.b1 .len (.var 4)) (.var 2))) (block [.asg false 9 (.bin .Mod (.var 7) (.var 3)), .asg false 10 (.bin .Mod (.bin .Add (.bin .Add (.var 9) (.cst (.int 1))) (.bin .Mod (.bin .FloorDiv (.var 7) (.cst (.int 8))) (.bin .Sub (.var 3) (.cst (.int 1))))) (.var 3)), .app 4 (.tp (slice [(.b2 .min (.var 9) (.var 10)), (.b2 .max (.var 9) (.var 10)), (.bin .Mod (.bin .FloorDiv (.var 7) (.cst (.int 64))) (.var 5))]))]) (block [])]), .asg false 11 (.bin .Mod (.bin .FloorDiv (.var 0) (.cst (.int 2000))) (.cst (.int 13))), .ret (.tp (slice [(.var 3), (.b1 .tuple (.bin .Add (.sl (.var 4) (.so (.var 11)) .no) (.sl (.var 4) .no (.so (.var 11)))))]))])
noncomputable def b14 : SS := (block [.ifs (.orr (.nt (.isi (.var 0) .tuple)) (.orr (.cmp .NotEq (.b1 .len (.var 0)) (.cst (.int 2))) (.nt (.call 12 (slice [(.ix (.var 0) (.cst (.int 0))), (.cst (.int 1)), (.cst (.int 7))]))))) (block [.ret (.cst (.bl false))]) (block []), .ifs (.orr (.nt (.isi (.ix (.var 0) (.cst (.int 1))) .tuple)) (.cmp .Gt (.b1 .len (.ix (.var 0) (.cst (.int 1)))) (.cst (.int 21)))) (block [.ret (.cst (.bl false))]) (block []), .fr (.one 1) (.sq (.ix (.var 0) (.cst (.int 1)))) (block [.ifs (.orr (.nt (.isi (.var 1) .tuple)) (.orr (.cmp .NotEq (.b1 .len (.var 1)) (.cst (.int 3))) (.nt (.call 12 (slice [(.ix (.var 1) (.cst (.int 0))), (.cst (.int 0)), (.bin .Sub (.ix (.var 0) (.cst (.int 0))) (.cst (.int 1)))]))))) (block [.ret (.cst (.bl false))]) (block []), .ifs (.orr (.nt (.call 12 (slice [(.ix (.var 1) (.cst (.int 1))), (.cst (.int 0)), (.bin .Sub (.ix (.var 0) (.cst (.int 0))) (.cst (.int 1)))]))) (.orr (.cmp .GtE (.ix (.var 1) (.cst (.int 0))) (.ix (.var 1) (.cst (.int 1)))) (.nt (.call 12 (slice [(.ix (.var 1) (.cst (.int 2))), (.cst (.int 0)), (.cst (.int 1000))]))))) (block [.ret (.cst (.bl false))]) (block [])]), .ret (.cst (.bl true))])
noncomputable def b15 : SS := (block [.asg false 1 (.bin .Add (.cst (.str "spots ")) (.b1 .str (.ix (.var 0) (.cst (.int 0))))), .fr (.many [2, 3, 4]) (.sq (.ix (.var 0) (.cst (.int 1)))) (block [.asg false 1 (.bin .Add (.bin .Add (.bin .Add (.bin .Add (.bin .Add (.bin .Add (.var 1) (.cst (.str " line "))) (.b1 .str (.var 2))) (.cst (.str " "))) (.b1 .str (.var 3))) (.cst (.str " "))) (.b1 .str (.var 4)))]), .ret (.var 1)])
noncomputable def b16 : SS := (block [.asg false 2 (.tm .split (.var 0) (.cst (.str " "))), .asg false 3 (.bin .Mod (.bin .FloorDiv (.var 1) (.cst (.int 8))) (.b1 .len (.var 2))), .asg false 4 (.bin .Mod (.bin .FloorDiv (.var 1) (.cst (.int 8))) (.bin .Add (.b1 .len (.var 0)) (.cst (.int 1)))), .asg false 5 (.bin .Mod (.var 1) (.cst (.int 8))), .ifs (.cmp .Eq (.var 5) (.cst (.int 0))) (block [.ret (.bin .Add (.tsl (.var 0) .no (.so (.var 4))) (.tsl (.var 0) (.so (.bin .Add (.var 4) (.cst (.int 1)))) .no))]) (block []), .ifs (.cmp .Lt (.var 5) (.cst (.int 3))) (block [.asg false 6 (.tix (.cst (.str " 0123456789lin-+_\n\t")) (.bin .Mod (.bin .FloorDiv (.var 1) (.cst (.int 7))) (.cst (.int 19)))), .ret (.bin .Add (.bin .Add (.tsl (.var 0) .no (.so (.var 4))) (.var 6)) (.tsl (.var 0) (.so (.bin .Sub (.bin .Add (.var 4) (.var 5)) (.cst (.int 1)))) .no))]) (block []), .ifs (.cmp .Eq (.var 5) (.cst (.int 3))) (block [.ret (.join " " (.bin .Add (.sl (.var 2) .no (.so (.var 3))) (.sl (.var 2) (.so (.bin .Add (.var 3) (.cst (.int 1)))) .no)))]) (block []), .ifs (.cmp .Eq (.var 5) (.cst (.int 4))) (block [.ret (.join " " (.bin .Add (.bin .Add (.sl (.var 2) .no (.so (.var 3))) (.sl (.var 2) (.so (.var 3)) (.so (.bin .Add (.var 3) (.cst (.int 1)))))) (.sl (.var 2) (.so (.var 3)) .no)))]) (block []), .ifs (.cmp .Eq (.var 5) (.cst (.int 5))) (block [.asg false 7 (.bin .Add (.sl (.var 2) (.so (.bin .Add (.var 3) (.cst (.int 1)))) (.so (.bin .Add (.var 3) (.cst (.int 2))))) (.sl (.var 2) (.so (.var 3)) (.so (.bin .Add (.var 3) (.cst (.int 1)))))), .ret (.join " " (.bin .Add (.bin .Add (.sl (.var 2) .no (.so (.var 3))) (.var 7)) (.sl (.var 2) (.so (.bin .Add (.var 3) (.cst (.int 2)))) .no)))]) (block []), .asg false 8 (.tm .split (.cst (.str "spots line 0 1 2 3 7 8 1000 1001 00 -1")) (.cst (.str " "))), .ret (.join " " (.bin .Add (.bin .Add (.sl (.var 2) .no (.so (.var 3))) (.ls (slice [(.ix (.var 8) (.bin .Mod (.bin .FloorDiv (.var 1) (.cst (.int 7))) (.cst (.int 12))))]))) (.sl (.var 2) (.so (.bin .Add (.var 3) (.cst (.int 1)))) .no)))])
noncomputable def b17 : SS := (block [.ifs (.orr (.nt (.cmp2 .LtE .LtE (.cst (.int 1)) (.b1 .len (.var 0)) (.var 1))) (.cmp .NotEq (.comp [none, none] (.one 1) (.tx (.var 0)) (.so (.cmp .Lt (.tm .find (.cst (.str "0123456789")) (.var 1)) (.cst (.int 0)))) (.var 1)) (.ls (slice [])))) (block [.ret (.cst .non)]) (block []), .ret (.b1 .itx (.var 0))])
noncomputable def b18 : SS := (block [.asg false 1 (.tm .split (.var 0) (.cst (.str " "))), .ifs (.orr (.cmp .NotEq (.bin .Mod (.b1 .len (.var 1)) (.cst (.int 4))) (.cst (.int 2))) (.cmp .NotEq (.ix (.var 1) (.cst (.int 0))) (.cst (.str "spots")))) (block [.ret (.cst .non)]) (block []), .asg false 2 (.tp (slice [])), .fr (.one 3) (.r4 (.cst (.int 2)) (.b1 .len (.var 1)) (.cst (.int 4))) (block [.asg false 4 (.b1 .tuple (.comp [none, none, none] (.one 1) (.sq (.sl (.var 1) (.so (.bin .Add (.var 3) (.cst (.int 1)))) (.so (.bin .Add (.var 3) (.cst (.int 4)))))) .no (.call 17 (slice [(.var 1), (.cst (.int 4))])))), .ifs (.orr (.cmp .NotEq (.ix (.var 1) (.var 3)) (.cst (.str "line"))) (.cmp .In (.cst .non) (.var 4))) (block [.ret (.cst .non)]) (block []), .asg false 2 (.bin .Add (.var 2) (.tp (slice [(.var 4)])))]), .asg false 5 (.tp (slice [(.call 17 (slice [(.ix (.var 1) (.cst (.int 1))), (.cst (.int 1))])), (.var 2)])), .ifs (.orr (.nt (.call 14 (slice [(.var 5)]))) (.cmp .NotEq (.call 15 (slice [(.var 5)])) (.var 0))) (block [.ret (.cst .non)]) (block []), .ret (.var 5)])
noncomputable def b19 : SS := (foundB 23 6)
noncomputable def b20 : SS := (block [.asg false 1 (.call 13 (slice [(.call 10 (slice [(.var 0), (.cst (.int 0))])), (.cst (.int 7)), (.cst (.int 12))])), .asg false 2 (.call 10 (slice [(.var 0), (.cst (.int 1))])), .ifs (.an (.cmp .Eq (.bin .Mod (.bin .FloorDiv (.var 2) (.cst (.int 3))) (.cst (.int 8))) (.cst (.int 5))) (.cmp .NotEq (.ix (.var 1) (.cst (.int 1))) (.tp (slice [])))) (block [.asg false 1 (.tp (slice [(.ix (.var 1) (.cst (.int 0))), (.sl (.bin .Mult (.ix (.var 1) (.cst (.int 1))) (.cst (.int 23))) .no (.so (.bin .Add (.cst (.int 20)) (.bin .Mod (.bin .FloorDiv (.var 2) (.cst (.int 24))) (.cst (.int 4))))))]))]) (block []), .asg false 3 (.call 15 (slice [(.var 1)])), .fr (.one 4) (.r1 (.bin .Mult (.bin .Mod (.var 2) (.cst (.int 3))) (.bin .Add (.cst (.int 1)) (.bin .Mod (.bin .FloorDiv (.var 2) (.cst (.int 96))) (.cst (.int 2)))))) (block [.asg false 3 (.call 16 (slice [(.var 3), (.call 11 (slice [(.var 2), (.var 4)]))]))]), .asg false 5 (.call 19 (slice [(.var 3)])), .ret (.an (.cmp .Eq (.var 5) (.call 18 (slice [(.var 3)]))) (.orr (.cmp .Is (.var 5) (.cst .non)) (.call 14 (slice [(.var 5)]))))])
noncomputable def nXc : C := (.nt (.call 9 (slice [(.var 0)])))
noncomputable def lXc : C := (.cmp .NotEq (.ix (.var 0) (.cst (.int 0))) (.cst (.str "line")))
noncomputable def lXcap : List (Option Nat) := [none, none, none]
noncomputable def lXtg : Tg := (.one 1)
noncomputable def lXit : CI := (.sq (.sl (.var 0) (.so (.cst (.int 1))) .no))
noncomputable def lXa : C := (.var 1)
noncomputable def rXs1 : S := .asg false 1 (.tm .split (.var 0) (.cst (.str " ")))
noncomputable def rXs3 : S := .asg false 2 (.comp [none, none, none, some 1] (.one 1) (.r4 (.cst (.int 2)) (.b1 .len (.var 1)) (.cst (.int 4))) .no (.call 7 (slice [(.sl (.var 3) (.so (.var 1)) (.so (.bin .Add (.var 1) (.cst (.int 4)))))])))
noncomputable def rXs4 : S := .asg false 3 (.tp (slice [(.call 8 (slice [(.ix (.var 1) (.cst (.int 1)))])), (.b1 .tuple (.var 2))]))
noncomputable def rXc : C := (.orr (.cmp .NotEq (.bin .Mod (.b1 .len (.var 1)) (.cst (.int 4))) (.cst (.int 2))) (.cmp .NotEq (.ix (.var 1) (.cst (.int 0))) (.cst (.str "spots"))))
noncomputable def rXc5 : C := (.nt (.call 5 (slice [(.var 3)])))
noncomputable def rXcap : List (Option Nat) := [none, none, none, some 1]
noncomputable def rXtg : Tg := (.one 1)
noncomputable def rXit : CI := (.r4 (.cst (.int 2)) (.b1 .len (.var 1)) (.cst (.int 4)))
noncomputable def rXa : C := (.sl (.var 3) (.so (.var 1)) (.so (.bin .Add (.var 1) (.cst (.int 4)))))
noncomputable def rXaw : C := (.ix (.var 1) (.cst (.int 1)))
noncomputable def b21 : SS := numXB nXc
noncomputable def b22 : SS := lineXB lXc lXcap lXtg lXit 8 21 lXa
noncomputable def b23 : SS := readXB rXs1 rXs3 rXs4 rXc rXc5 rXcap rXtg rXit 7 22 rXa rXaw 21
noncomputable def bs : List (Nat × SS) := [(3, b0), (6, b1), (5, b2), (4, b3), (6, b4), (11, b5), (10, b6), (3, b7), (4, b8), (5, b9), (4, b10), (3, b11), (6, b12), (18, b13), (6, b14), (6, b15), (10, b16), (4, b17), (12, b18), (12, b19), (15, b20), (4, b21), (3, b22), (10, b23)]
end K03
end
section
set_option Elab.async false
set_option linter.all false
set_option maxHeartbeats 1000000
namespace K03
open PySem (Addr Obj Operator CmpOp Str intText? Txt.slice Txt.slice_le)
open TW UF
variable (K : List (Addr × Obj))
theorem nu9 (k : Nat) {w : Str} (h : w.length ≤ 65536) : pf K bs (k + 1) 9 [.str w] = some (.bl (isN w)) := by
  show left (evSS (pf K bs k) (.cons _ (.cons _ (.cons _ .nil))) [some (.val (.str w)), none, none, none, none]) = _
  have s1 : b1D .str (.int 1000) = some (.fz, .str (sN 1000)) := str_nat (n := 1000) (by decide)
  have s2 : b1D .len (.str (sN 1000)) = some (.fz, .int 4) := by
    have e : (sN 1000).length = 4 := by decide +kernel
    rw [len_s (by omega), e]
    rfl
  have s3 := len_s h
  cases e : (sg w) with
  | nil =>
    have ew : w = "" := sg_inj (by rw [e]; decide)
    have hf : isN w = false := by rw [ew]; decide
    rw [evSS_rt (d := .bl false) (by rw [ifs_yes (by simp [ew])]; simp), hf]
    rfl
  | cons c r =>
    have ew : ¬ w = "" := fun z => by rw [z] at e; cases e
    by_cases h4 : 4 < w.length
    · have h4' : (4 : Int) < (w.length : Int) := by omega
      have hf : isN w = false := by simp [isN, h4]
      rw [evSS_rt (d := .bl false) (by rw [ifs_yes (by simp [ew, s1, s2, s3, h4'])]; simp), hf]
      rfl
    · have h4' : ¬ (4 : Int) < (w.length : Int) := by omega
      rw [evSS_nx (ifs_no (by simp [ew, s1, s2, s3, h4']))]
      have t0 : tixD (.str w) (.int 0) = some (.fz, .str ⟨#[c]⟩) := by
        show (if w.length ≤ lim then (atI w.cps.toList 0).map _ else none) = _
        rw [if_pos (show w.length ≤ lim from h), atI_0, show w.cps.toList = c :: r from e]
        rfl
      have z0 : decide ((⟨#[c]⟩ : Str) = "0") = decide (c = 48) := by
        have : ("0" : Str) = ⟨#[48]⟩ := by decide
        rw [this]
        simp
      have z48 : (⟨#[48]⟩ : Str) = "0" := by decide
      have g0 : decide ((sg w)[0]? = some 48) = decide (c = 48) := by rw [e]; simp
      by_cases hz : (decide (c = 48) && !decide (w = "0")) = true
      · have hf : isN w = false := by
          unfold isN
          rw [g0, hz]
          simp
        simp only [Bool.and_eq_true, Bool.not_eq_true', decide_eq_true_eq, decide_eq_false_iff_not] at hz
        rw [evSS_rt (d := .bl false) (by rw [ifs_yes (by simp [t0, z48, hz.1, hz.2])]; simp), hf]
        rfl
      · have hz' : (decide (c = 48) && !decide (w = "0")) = false := by simpa using hz
        have ea : (ev (pf K bs k) (.comp [none, none, none] (.one 1) (.tx (.var 0)) .no (.tin (.var 1) (.cst (.str "0123456789")))) [some (.val (.str w)), none, none, none, none]).1 = some (.fr, .lst (((sg w).map dig).map D.bl)) :=
          comp_map (em := fun c => D.str ⟨#[c]⟩) (en := D.bl) (g := dig) (xs := sg w) (k := .fz) (by simp [h]; rfl) (by rw [sg_len]; exact h) rfl (by
            intro x hx
            simp [tin_one]
            rfl)
        rw [evSS_nx (ifs_no (by
          by_cases c0 : c = 48
          · have w0 : w = "0" := by simpa [c0] using hz'
            simp [t0, z48, c0, eq_true w0]
          · simp [t0, z0, c0]))]
        have hb : ∀ l : List Bool, boolsOf (l.map D.bl) = some l := by
          intro l
          induction l with
          | nil => rfl
          | cons b l ih => show (boolsOf (l.map D.bl)).map (b :: ·) = _; rw [ih]; rfl
        have ha : b1D .all (.lst (((sg w).map dig).map D.bl)) = some (.fz, .bl ((sg w).all dig)) := by
          show (boolsOf _).map _ = _
          rw [hb]
          simp [Function.comp_def]
        have hT : isN w = (sg w).all dig := by
          unfold isN
          rw [g0, hz']
          simp [ew, h4]
        rw [evSS_rt (d := .bl ((sg w).all dig)) (by
          rw [evS_ret, ev_b1, ea]
          show ((b1D .all (.lst (((sg w).map dig).map D.bl))).bind frz).map Fl.rt = _
          rw [ha]
          rfl), hT]
        rfl
theorem no8 (k : Nat) {w : Str} (h : isN w = true) : pf K bs (k + 2) 8 [.str w] = some (dn (vl w)) := by
  have hl := isN_len h
  have e := nu9 K k (w := w) (by omega)
  rw [h] at e
  have ei := itx_ev (by omega) (isN_int h)
  show left (evSS (pf K bs (k + 1)) (.cons _ (.cons _ .nil)) [some (.val (.str w)), none, none, none]) = _
  rw [evSS_nx (ifs_no (by simp [e])), evSS_rt (d := dn (vl w)) (by simp [ei])]
  rfl
theorem nx21 (k : Nat) {w : Str} (h : w.length ≤ 65536) : pf K bs (k + 2) 21 [.str w] = some (.bl (!isN w)) := by
  have e := nu9 K k h
  show left (evSS (pf K bs (k + 1)) (rzC nXc endF) [some (.val (.str w)), none, none, none]) = _
  unfold rzC
  cases b : isN w with
  | true =>
    rw [b] at e
    rw [evSS_nx (ifs_no (by simp [nXc, e]))]
    rfl
  | false =>
    rw [b] at e
    rw [evSS_rt (d := .bl true) (by rw [ifs_yes (by simp [nXc, e])]; rfl)]
    rfl
noncomputable def lk (q0 q1 q2 q3 : Str) : Bool := decide (q0 = "line") && [q1, q2, q3].all isN
noncomputable def l4 (q0 q1 q2 q3 : Str) : D := .lst [.str q0, .str q1, .str q2, .str q3]
noncomputable def lv (q1 q2 q3 : Str) : D := .tup [dn (vl q1), dn (vl q2), dn (vl q3)]
theorem cut_1 (q0 q1 q2 q3 : D) : cut [q0, q1, q2, q3] (some 1) none = [q1, q2, q3] := cut_from [q0, q1, q2, q3] 1
theorem ln7 (k : Nat) {q0 q1 q2 q3 : Str} (h : lk q0 q1 q2 q3 = true) : pf K bs (k + 3) 7 [l4 q0 q1 q2 q3] = some (lv q1 q2 q3) := by
  simp only [lk, Bool.and_eq_true, decide_eq_true_eq, List.all_eq_true] at h
  obtain ⟨h0, h1⟩ := h
  show left (evSS (pf K bs (k + 2)) (.cons _ (.cons _ .nil)) [some (.val (l4 q0 q1 q2 q3)), none, none]) = _
  rw [evSS_nx (ifs_no (by simp [l4, h0]))]
  have ec : (ev (pf K bs (k + 2)) (.comp [none, none, none] (.one 1) (.sq (.sl (.var 0) (.so (.cst (.int 1))) .no)) .no (.call 8 (slice [(.var 1)]))) [some (.val (l4 q0 q1 q2 q3)), none, none]).1 = some (.fr, .lst (([q1, q2, q3].map vl).map dn)) :=
    comp_map (em := D.str) (en := dn) (g := vl) (xs := [q1, q2, q3]) (k := .fz) (by simp [l4, cut_1]) (by simp) rfl (by
      intro x hx
      simp [no8 K k (h1 x hx)])
  rw [evSS_rt (d := lv q1 q2 q3) (by rw [evS_ret, ev_b1, ec]; rfl)]
  rfl
theorem bools (l : List Bool) : boolsOf (l.map D.bl) = some l := by
  induction l with
  | nil => rfl
  | cons b l ih => show (boolsOf (l.map D.bl)).map (b :: ·) = _; rw [ih]; rfl
theorem any_ev (l : List Bool) : b1D .any (.lst (l.map D.bl)) = some (.fz, .bl (l.any id)) := by
  show (boolsOf _).map _ = _
  rw [bools]
  rfl
theorem lx22 (k : Nat) {q0 q1 q2 q3 : Str} (h : ∀ x ∈ [q1, q2, q3], x.length ≤ 65536) : pf K bs (k + 3) 22 [l4 q0 q1 q2 q3] = some (.bl (!lk q0 q1 q2 q3)) := by
  show left (evSS (pf K bs (k + 2)) (rzC lXc (.cons (.ifs (evid lXcap lXtg lXit 8 21 lXa) (block []) (block [])) (rzC (anyX lXcap lXtg lXit 21 lXa) endF))) [some (.val (l4 q0 q1 q2 q3)), none, none]) = _
  by_cases h0 : q0 = "line"
  · have e1 : (ev (pf K bs (k + 2)) (.comp lXcap lXtg lXit .no (.orr (.call 21 (slice [lXa])) (.cmp .Is (.call 8 (slice [lXa])) (.cst .non)))) [some (.val (l4 q0 q1 q2 q3)), none, none]).1 = some (.fr, .lst (([q1, q2, q3].map fun x => !isN x).map D.bl)) :=
      comp_map (em := D.str) (en := D.bl) (g := fun x => !isN x) (xs := [q1, q2, q3]) (k := .fz) (by simp [l4, cut_1, lXit]) (by simp) rfl (by
        intro x hx
        have e := nx21 K k (h x hx)
        cases b : isN x with
        | true =>
          rw [b] at e
          simp [e, lXtg, lXcap, lXa, no8 K k b]
          rfl
        | false =>
          rw [b] at e
          simp [e, lXtg, lXcap, lXa])
    have e2 : (ev (pf K bs (k + 2)) (.comp lXcap lXtg lXit .no (.call 21 (slice [lXa]))) [some (.val (l4 q0 q1 q2 q3)), none, none]).1 = some (.fr, .lst (([q1, q2, q3].map fun x => !isN x).map D.bl)) :=
      comp_map (em := D.str) (en := D.bl) (g := fun x => !isN x) (xs := [q1, q2, q3]) (k := .fz) (by simp [l4, cut_1, lXit]) (by simp) rfl (by
        intro x hx
        have e := nx21 K k (h x hx)
        simp [e, lXtg, lXcap, lXa])
    have ea := any_ev ([q1, q2, q3].map fun x => !isN x)
    have ei : ∃ b, (ev (pf K bs (k + 2)) (evid lXcap lXtg lXit 8 21 lXa) [some (.val (l4 q0 q1 q2 q3)), none, none]).2 = some b := by
      unfold evid
      rw [ev_b1, e1]
      simp only [Option.bind_some, vt_2, ea, tru_b]
      exact ⟨_, rfl⟩
    have ex : (ev (pf K bs (k + 2)) (anyX lXcap lXtg lXit 21 lXa) [some (.val (l4 q0 q1 q2 q3)), none, none]).2 = some (([q1, q2, q3].map fun x => !isN x).any id) := by
      unfold anyX
      rw [ev_b1, e2]
      simp only [Option.bind_some, vt_2, ea, tru_b]
    have el : (([q1, q2, q3].map fun x => !isN x).any id) = !lk q0 q1 q2 q3 := by
      simp only [lk, h0, decide_true, Bool.true_and, List.map_cons, List.map_nil, List.any_cons, List.any_nil, List.all_cons, List.all_nil, id_eq]
      cases isN q1 <;> cases isN q2 <;> cases isN q3 <;> rfl
    unfold rzC
    rw [evSS_nx (ifs_no (by simp [l4, lXc, h0]))]
    obtain ⟨b, ei⟩ := ei
    have e3 : evS (pf K bs (k + 2)) (.ifs (evid lXcap lXtg lXit 8 21 lXa) (block []) (block [])) [some (.val (l4 q0 q1 q2 q3)), none, none] = some (.nx [some (.val (l4 q0 q1 q2 q3)), none, none]) := by
      rw [evS_ifs, ei]
      cases b <;> rfl
    rw [evSS_nx e3]
    rw [el] at ex
    cases b2 : !lk q0 q1 q2 q3 with
    | true =>
      rw [b2] at ex
      rw [evSS_rt (d := .bl true) (by rw [ifs_yes ex]; rfl)]
      rfl
    | false =>
      rw [b2] at ex
      rw [evSS_nx (ifs_no ex)]
      rfl
  · unfold rzC
    rw [evSS_rt (d := .bl true) (by rw [ifs_yes (by simp [l4, lXc, h0])]; rfl)]
    simp [lk, h0]
theorem wh (k : Nat) (d : D) (lo hi : Int) (h : OkD d) : pf K bs (k + 1) 1 [d, .int lo, .int hi] = some (.bl (whole d lo hi)) := whole_ev (pf K bs k) h lo hi
theorem nu (k : Nat) (d : D) (lo hi : Int) (h : OkD d) : pf K bs (k + 1) 12 [d, .int lo, .int hi] = some (.bl (whole d lo hi)) := whole_ev (pf K bs k) h lo hi
theorem tf (k : Nat) (d : D) (n : Int) (h : OkD d) : pf K bs (k + 1) 2 [d, .int n] = some (.bl (tupk d n)) := tof_ev (pf K bs k) h n
theorem pr (k : Nat) (d : D) (m : Int) (h : OkD d) : pf K bs (k + 2) 3 [d, .int m] = some (.bl (pairB m d)) := pair_ev (pf K bs (k + 1)) (iT := 2) (iW := 1) (tf K k) (wh K k) h m
theorem li (k : Nat) (d : D) (m : Int) (h : OkD d) : pf K bs (k + 3) 4 [d, .int m] = some (.bl (lineB m d)) := line_ev (pf K bs (k + 2)) (iT := 2) (iP := 3) (iW := 1) (tf K (k + 1)) (wh K (k + 1)) (pr K k) h m
theorem isg (k : Nat) (d : D) (h : OkD d) : pf K bs (k + 4) 5 [d] = some (.bl (groundB d)) := isg_ev (pf K bs (k + 3)) (iT := 2) (iW := 1) (iL := 4) (tf K (k + 2)) (wh K (k + 2)) (li K k) h
theorem lisg (k : Nat) (d : D) (h : OkD d) : pf K bs (k + 2) 14 [d] = some (.bl (groundB d)) := lground_ev (pf K bs (k + 1)) (iN := 12) (nu K k) h
noncomputable def wd (t : Str) (j : Nat) : Str := (spw t).getD j ""
noncomputable def wsD (t : Str) : D := .lst ((spw t).map D.str)
theorem wd_at {t : Str} {j : Nat} (h : j < (spw t).length) : (spw t)[j]? = some (wd t j) := by
  unfold wd
  rw [List.getD_eq_getElem?_getD, List.getElem?_eq_getElem h]
  rfl
theorem wd_of {t : Str} {j : Nat} {w : Str} (h : (spw t)[j]? = some w) : wd t j = w := by
  unfold wd
  rw [List.getD_eq_getElem?_getD, h]
  rfl
theorem ws_at {t : Str} {j : Nat} (h : j < (spw t).length) : ((spw t).map D.str)[j]? = some (.str (wd t j)) := by
  rw [List.getElem?_map, wd_at h]
  rfl
theorem wd_short (t : Str) (j : Nat) : (wd t j).length ≤ t.length := by
  by_cases h : j < (spw t).length
  · exact spw_short (List.mem_of_getElem? (wd_at h))
  · unfold wd
    rw [List.getD_eq_getElem?_getD, List.getElem?_eq_none (by omega)]
    exact Nat.zero_le _
noncomputable def lkk (t : Str) (a : Nat) : Bool := lk (wd t a) (wd t (a + 1)) (wd t (a + 2)) (wd t (a + 3))
noncomputable def l4k (t : Str) (a : Nat) : D := l4 (wd t a) (wd t (a + 1)) (wd t (a + 2)) (wd t (a + 3))
noncomputable def lvk (t : Str) (a : Nat) : D := lv (wd t (a + 1)) (wd t (a + 2)) (wd t (a + 3))
theorem call1 {p : Nat → List D → Option D} {f : Nat} {a : C} {r : En} {x d : D} {k : Kd} (ha : (ev p a r).1 = some (k, x)) (hk : k ≠ .bo) (hf : p f [x] = some d) : (ev p (.call f (slice [a])) r).1 = some (.fz, d) := by
  have : frz (k, x) = some x := by
    cases k with
    | bo => exact absurd rfl hk
    | fz => rfl
    | fr => rfl
  rw [ev_call]
  simp [ha, this, hf]
section
variable {t : Str} {n : Nat} (hn : (spw t).length = 4 * n + 2)
include hn
theorem em4 {p : Nat → List D → Option D} {r : En} (h : r[1]? = some (some (.val (wsD t)))) (hs : (spw t).length ≤ 65536) : evI p (.r4 (.cst (.int 2)) (.b1 .len (.var 1)) (.cst (.int 4))) r = some (.fz, (List.range n).map fun k => dn (2 + 4 * k)) := by
  have e1 : b1D .len (wsD t) = some (.fz, .int (4 * n + 2)) := by
    unfold wsD
    rw [b1_len_l, List.length_map, hn]
    rfl
  rw [evI_r4]
  simp only [ev_cst, ev_b1, ev_var, vt_1, h, Option.bind_some, e1]
  have r1 : rngOk 2 = true := by decide
  have r2 : rngOk (4 * (n : Int) + 2) = true := by
    unfold rngOk
    exact decide_eq_true (by omega)
  have r3 : ((4 * (n : Int) + 2 - 2 + 3) / 4).toNat = n := by omega
  rw [r1, r2, r3]
  show some (Kd.fz, (List.range n).map fun (k : Nat) => D.int (2 + 4 * (k : Int))) = _
  congr 3
theorem sl4 {p : Nat → List D → Option D} {a : Nat} (ha : a + 4 ≤ (spw t).length) : (ev p rXa [none, some (.val (dn a)), none, some (.val (wsD t))]).1 = some (.fr, l4k t a) := by
  have e := cut_4 (ws_at (t := t) (j := a) (by omega)) (ws_at (by omega)) (ws_at (by omega)) (ws_at (by omega))
  simp only [rXa, ev_sl, ev_var, evO_so, ev_bin, ev_cst, vt_1, List.getElem?_cons_zero, List.getElem?_cons_succ, Option.bind_some, opD_add_i, wsD]
  rw [e]
  rfl
theorem lin4 (k0 : Nat) {a : Nat} (ha : a + 4 ≤ (spw t).length) (h : lkk t a = true) : (ev (pf K bs (k0 + 3)) (.call 7 (slice [rXa])) [none, some (.val (dn a)), none, some (.val (wsD t))]).1 = some (.fz, lvk t a) :=
  call1 (sl4 hn ha) (by decide) (ln7 K k0 h)
theorem lix4 (k0 : Nat) (ht : t.length ≤ 65536) {a : Nat} (ha : a + 4 ≤ (spw t).length) : (ev (pf K bs (k0 + 3)) (.call 22 (slice [rXa])) [none, some (.val (dn a)), none, some (.val (wsD t))]).1 = some (.fz, .bl (!lkk t a)) :=
  call1 (sl4 hn ha) (by decide) (lx22 K k0 fun x hx => by
    simp only [List.mem_cons, List.not_mem_nil, or_false] at hx
    rcases hx with rfl | rfl | rfl <;> exact Nat.le_trans (wd_short _ _) ht)
end
noncomputable def RE (t w l g : Option Sl) : En := [t, w, l, g, none, none, none, none, none, none]
noncomputable def okG (t : Str) (n : Nat) : Bool := (List.range n).all fun k => lkk t (2 + 4 * k)
noncomputable def lines (t : Str) (n : Nat) : List D := (List.range n).map fun k => lvk t (2 + 4 * k)
noncomputable def gS (t : Str) (n : Nat) : D := .tup [dn (vl (wd t 1)), .tup (lines t n)]
theorem lv_ok (q1 q2 q3 : Str) (n : Nat) : okD (n + 1) (lv q1 q2 q3) = true := okDs_of (fun d hd => by
  simp only [List.mem_cons, List.not_mem_nil, or_false] at hd
  rcases hd with rfl | rfl | rfl <;> cases n <;> rfl)
theorem lines_ok (t : Str) (n k : Nat) : okD (k + 2) (.tup (lines t n)) = true := okDs_of fun d hd => by
  obtain ⟨j, _, rfl⟩ := List.mem_map.mp hd
  exact lv_ok _ _ _ _
theorem gS_ok (t : Str) (n : Nat) : OkD (gS t n) := ⟨3, okDs_of fun d hd => by
  simp only [List.mem_cons, List.not_mem_nil, or_false] at hd
  rcases hd with rfl | rfl
  · rfl
  · exact lines_ok t n 0⟩
theorem s1_ev (p : Nat → List D → Option D) {t : Str} (ht : t.length ≤ 65534) {l : SS} : evSS p (.cons rXs1 l) (RE (some (.val (.str t))) none none none) = evSS p l (RE (some (.val (.str t))) (some (.val (wsD t))) none none) :=
  evSS_nx (asg_fr (by simp [RE, tm_split ht]; rfl))
noncomputable def head (t : Str) : Bool := decide ((spw t).length % 4 = 2) && decide (wd t 0 = "spots")
theorem hd_evG (p : Nat → List D → Option D) {t : Str} {r : En} (h : r[1]? = some (some (.val (wsD t)))) : (ev p rXc r).2 = some (!head t) := by
  have hp : 0 < (spw t).length := by
    have := spw_ne t
    cases e : spw t with
    | nil => exact absurd e this
    | cons a b => simp
  have h0 := ws_at hp
  have m4 : opD .Mod (.int ((spw t).length : Int)) (.int 4) = some (.fz, .int (((spw t).length % 4 : Nat) : Int)) := by
    rw [opD_mod (by decide)]
    rfl
  unfold wsD at h
  by_cases c : (spw t).length % 4 = 2
  · have c' : (((spw t).length % 4 : Nat) : Int) = 2 := by omega
    by_cases d : wd t 0 = "spots"
    · simp [rXc, h, m4, c', c, h0, d, head, -List.map_eq_nil_iff, -List.getElem?_map]
    · simp [rXc, h, m4, c', c, h0, d, head, -List.getElem?_map]
  · have c' : ¬ (((spw t).length % 4 : Nat) : Int) = 2 := by omega
    simp [rXc, h, m4, c', c, head, -List.getElem?_map]
    omega
theorem hd_ev (p : Nat → List D → Option D) {t : Str} {l g : Option Sl} : (ev p rXc (RE (some (.val (.str t))) (some (.val (wsD t))) l g)).2 = some (!head t) := hd_evG p rfl
section
variable {t : Str} {n : Nat} (hn : (spw t).length = 4 * n + 2) (ht : t.length ≤ 65534)
include hn ht
theorem n_le : n ≤ 65536 := by
  have := spw_len t
  omega
theorem at_le {k : Nat} (h : k ∈ List.range n) : 2 + 4 * k + 4 ≤ (spw t).length := by
  rw [List.mem_range] at h
  omega
theorem evid_ev (k0 : Nat) {l g : Option Sl} : ∃ b, (ev (pf K bs (k0 + 3)) (evid rXcap rXtg rXit 7 22 rXa) (RE (some (.val (.str t))) (some (.val (wsD t))) l g)).2 = some b := by
  have e1 : (ev (pf K bs (k0 + 3)) (.comp rXcap rXtg rXit .no (.orr (.call 22 (slice [rXa])) (.cmp .Is (.call 7 (slice [rXa])) (.cst .non)))) (RE (some (.val (.str t))) (some (.val (wsD t))) l g)).1 = some (.fr, .lst (((List.range n).map fun k => !lkk t (2 + 4 * k)).map D.bl)) :=
    comp_map (em := fun k => dn (2 + 4 * k)) (en := D.bl) (g := fun k => !lkk t (2 + 4 * k)) (xs := List.range n) (k := .fz) (em4 hn rfl (by have := spw_len t; omega)) (by have := n_le hn ht; simpa using this) rfl (by
      intro x hx
      have ha := at_le hn ht hx
      show (((ev (pf K bs (k0 + 3)) (.orr (.call 22 (slice [rXa])) (.cmp .Is (.call 7 (slice [rXa])) (.cst .non))) [none, some (.val (dn (2 + 4 * x))), none, some (.val (wsD t))]).1.bind frz).map some) = _
      have x1 := lix4 K hn k0 (by omega) ha
      cases b : lkk t (2 + 4 * x) with
      | true =>
        rw [b] at x1
        have x2 := lin4 K hn k0 ha b
        rw [ev_orr, x1, ev_cmp, x2]
        rfl
      | false =>
        rw [b] at x1
        rw [ev_orr, x1]
        rfl)
  unfold evid
  rw [ev_b1, e1]
  simp only [Option.bind_some, vt_2, any_ev, tru_b]
  exact ⟨_, rfl⟩
theorem any_all : ((List.range n).map fun k => !lkk t (2 + 4 * k)).any id = !okG t n := by
  unfold okG
  rw [List.any_map, List.all_eq_not_any_not, Bool.not_not]
  rfl
theorem anyX_ev (k0 : Nat) {l g : Option Sl} : (ev (pf K bs (k0 + 3)) (anyX rXcap rXtg rXit 22 rXa) (RE (some (.val (.str t))) (some (.val (wsD t))) l g)).2 = some (!okG t n) := by
  have e1 : (ev (pf K bs (k0 + 3)) (.comp rXcap rXtg rXit .no (.call 22 (slice [rXa]))) (RE (some (.val (.str t))) (some (.val (wsD t))) l g)).1 = some (.fr, .lst (((List.range n).map fun k => !lkk t (2 + 4 * k)).map D.bl)) :=
    comp_map (em := fun k => dn (2 + 4 * k)) (en := D.bl) (g := fun k => !lkk t (2 + 4 * k)) (xs := List.range n) (k := .fz) (em4 hn rfl (by have := spw_len t; omega)) (by have := n_le hn ht; simpa using this) rfl (by
      intro x hx
      have ha := at_le hn ht hx
      show (((ev (pf K bs (k0 + 3)) (.call 22 (slice [rXa])) [none, some (.val (dn (2 + 4 * x))), none, some (.val (wsD t))]).1.bind frz).map some) = _
      rw [lix4 K hn k0 (by omega) ha]
      rfl)
  unfold anyX
  rw [ev_b1, e1]
  simp only [Option.bind_some, vt_2, any_ev, tru_b]
  rw [any_all hn ht]
theorem s3_ev (k0 : Nat) (hk : okG t n = true) {g : Option Sl} {l : SS} : evSS (pf K bs (k0 + 3)) (.cons rXs3 l) (RE (some (.val (.str t))) (some (.val (wsD t))) none g) = evSS (pf K bs (k0 + 3)) l (RE (some (.val (.str t))) (some (.val (wsD t))) (some (.val (.lst (lines t n)))) g) := by
  have e1 : (ev (pf K bs (k0 + 3)) (.comp rXcap rXtg rXit .no (.call 7 (slice [rXa]))) (RE (some (.val (.str t))) (some (.val (wsD t))) none g)).1 = some (.fr, .lst (((List.range n).map fun k => 2 + 4 * k).map (lvk t))) :=
    comp_map (em := fun k => dn (2 + 4 * k)) (en := lvk t) (g := fun k => 2 + 4 * k) (xs := List.range n) (k := .fz) (em4 hn rfl (by have := spw_len t; omega)) (by have := n_le hn ht; simpa using this) rfl (by
      intro x hx
      have ha := at_le hn ht hx
      have b : lkk t (2 + 4 * x) = true := by
        unfold okG at hk
        exact List.all_eq_true.mp hk x hx
      show (((ev (pf K bs (k0 + 3)) (.call 7 (slice [rXa])) [none, some (.val (dn (2 + 4 * x))), none, some (.val (wsD t))]).1.bind frz).map some) = _
      rw [lin4 K hn k0 ha b]
      rfl)
  rw [List.map_map] at e1
  exact evSS_nx (asg_fr e1)
theorem w1_ev (p : Nat → List D → Option D) {l g : Option Sl} : (ev p rXaw (RE (some (.val (.str t))) (some (.val (wsD t))) l g)).1 = some (.fz, .str (wd t 1)) := by
  have h1 := ws_at (t := t) (j := 1) (by omega)
  simp only [rXaw, ev_ix, ev_var, ev_cst, vt_1, RE, List.getElem?_cons_zero, List.getElem?_cons_succ, Option.bind_some, wsD, seq_l, atI_1, h1]
  rfl
theorem s4_ev (k0 : Nat) (h1 : isN (wd t 1) = true) {l : SS} : evSS (pf K bs (k0 + 2)) (.cons rXs4 l) (RE (some (.val (.str t))) (some (.val (wsD t))) (some (.val (.lst (lines t n)))) none) = evSS (pf K bs (k0 + 2)) l (RE (some (.val (.str t))) (some (.val (wsD t))) (some (.val (.lst (lines t n)))) (some (.val (gS t n)))) := by
  have e1 : (ev (pf K bs (k0 + 2)) (.call 8 (slice [rXaw])) (RE (some (.val (.str t))) (some (.val (wsD t))) (some (.val (.lst (lines t n)))) none)).1 = some (.fz, dn (vl (wd t 1))) := call1 (w1_ev hn ht _) (by decide) (no8 K k0 h1)
  refine evSS_nx (asg_fz (d := gS t n) ?_)
  show (ev (pf K bs (k0 + 2)) (.tp (slice [(.call 8 (slice [rXaw])), (.b1 .tuple (.var 2))])) _).1 = _
  rw [ev_tp]
  simp only [slice_cons, slice_nil] at e1 ⊢
  simp only [evA_cons, evA_nil, e1, Option.bind_some, frz_fz]
  rfl
theorem c5_ev (k0 : Nat) {l : Option Sl} : (ev (pf K bs (k0 + 4)) rXc5 (RE (some (.val (.str t))) (some (.val (wsD t))) l (some (.val (gS t n))))).2 = some (!groundB (gS t n)) := by
  have e := isg K k0 (gS t n) (gS_ok t n)
  simp [rXc5, RE, e]
noncomputable def strict (t : Str) (n : Nat) : Bool := okG t n && (isN (wd t 1) && groundB (gS t n))
theorem rx23 (k0 : Nat) (hh : head t = true) : pf K bs (k0 + 5) 23 [.str t] = some (.bl (!strict t n)) := by
  show left (evSS (pf K bs (k0 + 4)) (.cons rXs1 (rzC rXc (.cons (.ifs (evid rXcap rXtg rXit 7 22 rXa) (block []) (block [])) (rzC (anyX rXcap rXtg rXit 22 rXa) (.cons rXs3 (rzC (.call 21 (slice [rXaw])) (.cons rXs4 (rzC rXc5 endF)))))))) (RE (some (.val (.str t))) none none none)) = _
  rw [s1_ev _ ht]
  unfold rzC
  have h0 := hd_ev (pf K bs (k0 + 4)) (t := t) (l := none) (g := none)
  rw [hh] at h0
  rw [evSS_nx (ifs_no h0)]
  obtain ⟨b, eb⟩ := evid_ev K hn ht (k0 + 1) (l := none) (g := none)
  have e3 : evS (pf K bs (k0 + 4)) (.ifs (evid rXcap rXtg rXit 7 22 rXa) (block []) (block [])) (RE (some (.val (.str t))) (some (.val (wsD t))) none none) = some (.nx (RE (some (.val (.str t))) (some (.val (wsD t))) none none)) := by
    rw [evS_ifs, eb]
    cases b <;> rfl
  rw [evSS_nx e3]
  have ex := anyX_ev K hn ht (k0 + 1) (l := none) (g := none)
  cases ok : okG t n with
  | false =>
    rw [ok] at ex
    rw [evSS_rt (d := .bl true) (by rw [ifs_yes ex]; rfl)]
    unfold strict
    rw [ok]
    rfl
  | true =>
    rw [ok] at ex
    rw [evSS_nx (ifs_no ex), s3_ev K hn ht (k0 + 1) ok]
    have e1 : (ev (pf K bs (k0 + 4)) (.call 21 (slice [rXaw])) (RE (some (.val (.str t))) (some (.val (wsD t))) (some (.val (.lst (lines t n)))) none)).2 = some (!isN (wd t 1)) := by
      have := call1 (f := 21) (w1_ev hn ht (pf K bs (k0 + 4)) (l := some (.val (.lst (lines t n)))) (g := none)) (by decide) (nx21 K (k0 + 2) (Nat.le_trans (wd_short _ _) (by omega)))
      rw [ev_call] at this ⊢
      rw [vt_1] at this
      rw [vt_2, this]
      rfl
    cases i1 : isN (wd t 1) with
    | false =>
      rw [i1] at e1
      rw [evSS_rt (d := .bl true) (by rw [ifs_yes e1]; rfl)]
      unfold strict
      rw [ok, i1]
      rfl
    | true =>
      rw [i1] at e1
      rw [evSS_nx (ifs_no e1), s4_ev K hn ht (k0 + 2) i1]
      have e5 := c5_ev K hn ht k0 (l := some (.val (.lst (lines t n))))
      cases gg : groundB (gS t n) with
      | false =>
        rw [gg] at e5
        rw [evSS_rt (d := .bl true) (by rw [ifs_yes e5]; rfl)]
        unfold strict
        rw [ok, i1, gg]
        rfl
      | true =>
        rw [gg] at e5
        rw [evSS_nx (ifs_no e5)]
        unfold strict
        rw [ok, i1, gg]
        rfl
theorem rd6 (k0 : Nat) (hh : head t = true) (hs : strict t n = true) : pf K bs (k0 + 5) 6 [.str t] = some (gS t n) := by
  simp only [strict, Bool.and_eq_true] at hs
  obtain ⟨ok, i1, gg⟩ := hs
  show left (evSS (pf K bs (k0 + 4)) (.cons rXs1 (.cons (.ifs rXc (block [.nev]) (block [])) (.cons rXs3 (.cons rXs4 (.cons (.ifs rXc5 (block [.nev]) (block [])) (.cons (.ret (.var 3)) .nil)))))) (RE (some (.val (.str t))) none none none)) = _
  have h0 := hd_ev (pf K bs (k0 + 4)) (t := t) (l := none) (g := none)
  rw [hh] at h0
  have e5 := c5_ev K hn ht k0 (l := some (.val (.lst (lines t n))))
  rw [gg] at e5
  rw [s1_ev _ ht, evSS_nx (ifs_no h0), s3_ev K hn ht (k0 + 1) ok, s4_ev K hn ht (k0 + 2) i1, evSS_nx (ifs_no e5)]
  rfl
theorem fd19 (k0 : Nat) (hh : head t = true) : pf K bs (k0 + 6) 19 [.str t] = some (if strict t n = true then gS t n else .non) := by
  have e1 := rx23 K hn ht k0 hh
  show left (evSS (pf K bs (k0 + 5)) (.cons (.ifs (.call 23 (slice [(.var 0)])) (block [.ret (.cst .non)]) (block [])) (.cons (fndI 6) (.cons fndR .nil))) [some (.val (.str t)), none, none, none, none, none, none, none, none, none, none, none]) = _
  cases s : strict t n with
  | false =>
    rw [s] at e1
    rw [evSS_rt (d := .non) (by rw [ifs_yes (by simp [e1])]; rfl)]
    rfl
  | true =>
    rw [s] at e1
    have e2 := rd6 K hn ht k0 hh s
    rw [evSS_nx (ifs_no (by simp [e1]))]
    unfold fndI
    rw [evSS_nx (asg_fz (d := gS t n) (by simp [e2]))]
    rfl
end
theorem fd19' {t : Str} (ht : t.length ≤ 65534) (k0 : Nat) (hh : head t = false) : pf K bs (k0 + 2) 19 [.str t] = some .non := by
  have e1 : pf K bs (k0 + 1) 23 [.str t] = some (.bl true) := by
    show left (evSS (pf K bs k0) (.cons rXs1 (rzC rXc _)) (RE (some (.val (.str t))) none none none)) = _
    rw [s1_ev _ ht]
    unfold rzC
    have h0 := hd_ev (pf K bs k0) (t := t) (l := none) (g := none)
    rw [hh] at h0
    rw [evSS_rt (d := .bl true) (by rw [ifs_yes h0]; rfl)]
    rfl
  show left (evSS (pf K bs (k0 + 1)) (.cons (.ifs (.call 23 (slice [(.var 0)])) (block [.ret (.cst .non)]) (block [])) (.cons (fndI 6) (.cons fndR .nil))) [some (.val (.str t)), none, none, none, none, none, none, none, none, none, none, none]) = _
  rw [evSS_rt (d := .non) (by rw [ifs_yes (by simp [e1])]; rfl)]
  rfl
noncomputable def lnum (w : Str) (most : Nat) : D := if loose w most = true then dn (vl w) else .non
theorem ln17 (k : Nat) {w : Str} (h : w.length ≤ 65536) (ha : Asc w) {most : Nat} (hm : most ≤ 4) : pf K bs (k + 1) 17 [.str w, dn most] = some (lnum w most) := by
  show left (evSS (pf K bs k) (.cons _ (.cons _ .nil)) [some (.val (.str w)), some (.val (dn most)), none, none]) = _
  have s3 := len_s h
  have c1 : (ev (pf K bs k) (.nt (.cmp2 .LtE .LtE (.cst (.int 1)) (.b1 .len (.var 0)) (.var 1))) [some (.val (.str w)), some (.val (dn most)), none, none]).2 = some (!decide (1 ≤ w.length ∧ w.length ≤ most)) := by
    have d0 : decide (1 ≤ w.length ∧ w.length ≤ most) = (decide ((1 : Int) ≤ (w.length : Int)) && decide ((w.length : Int) ≤ (most : Int))) := by
      rw [Bool.eq_iff_iff]
      simp only [decide_eq_true_eq, Bool.and_eq_true]
      omega
    rw [d0, ev_nt]
    simp only [ev_cmp2, ev_cst, ev_b1, ev_var, vt_1, vt_2, List.getElem?_cons_zero, List.getElem?_cons_succ, Option.bind_some, s3, cmp_le]
    cases decide ((1 : Int) ≤ (w.length : Int)) <;> rfl
  have c2 : (ev (pf K bs k) (.cmp .NotEq (.comp [none, none] (.one 1) (.tx (.var 0)) (.so (.cmp .Lt (.tm .find (.cst (.str "0123456789")) (.var 1)) (.cst (.int 0)))) (.var 1)) (.ls (slice []))) [some (.val (.str w)), some (.val (dn most)), none, none]).2 = some (!(sg w).all dig) := by
    have e1 : (ev (pf K bs k) (.comp [none, none] (.one 1) (.tx (.var 0)) (.so (.cmp .Lt (.tm .find (.cst (.str "0123456789")) (.var 1)) (.cst (.int 0)))) (.var 1)) [some (.val (.str w)), some (.val (dn most)), none, none]).1 = some (.fr, .lst (((sg w).filter fun c => !dig c).map fun c => D.str ⟨#[c]⟩)) :=
      comp_filter (em := fun c => D.str ⟨#[c]⟩) (c := fun c => !dig c) (xs := sg w) (k := .fz) (by simp [h]; rfl) (by rw [sg_len]; exact h) rfl (by
        intro x hx
        obtain ⟨i, f1, f2⟩ := find_neg x "0123456789"
        have f2 : decide (i < 0) = !dig x := f2
        cases b : dig x with
        | true =>
          rw [b] at f2
          have : ¬ i < 0 := by simpa using f2
          simp [f1, this]
        | false =>
          rw [b] at f2
          have : i < 0 := by simpa using f2
          simp [f1, this])
    have ok : okD 40 (.lst (((sg w).filter fun c => !dig c).map fun c => D.str ⟨#[c]⟩)) = true := okDs_of fun d hd => by
      obtain ⟨c, hc, rfl⟩ := List.mem_map.mp hd
      exact okD_asc (fun e he => by
        have : e = c := by simpa [sg] using he
        subst this
        exact ha _ ((List.mem_filter.mp hc).1)) _
    have e2 : cmpD .NotEq (.lst (((sg w).filter fun c => !dig c).map fun c => D.str ⟨#[c]⟩)) (.lst []) = some (!(sg w).all dig) := by
      show (if (okD 40 _ && okD 40 (.lst [])) = true then some (eqD _ (.lst [])) else none).map _ = _
      rw [ok]
      have : (eqD (.lst (((sg w).filter fun c => !dig c).map fun c => D.str ⟨#[c]⟩)) (.lst [])) = (sg w).all dig := by
        cases e : (sg w).filter fun c => !dig c with
        | nil =>
          rw [List.filter_eq_nil_iff] at e
          have : (sg w).all dig = true := by
            rw [List.all_eq_true]
            intro c hc
            simpa using e c hc
          rw [this]
          rfl
        | cons c r =>
          have hc : c ∈ (sg w).filter fun c => !dig c := by rw [e]; exact List.mem_cons_self
          obtain ⟨h1, h2⟩ := List.mem_filter.mp hc
          have : (sg w).all dig = false := by
            rw [List.all_eq_false]
            exact ⟨c, h1, by simpa using h2⟩
          rw [this]
          rfl
      rw [this]
      rfl
    rw [ev_cmp, e1]
    simp only [Option.bind_some]
    show ((cmpD .NotEq _ (.lst [])).map _).bind _ = _
    rw [e2]
    rfl
  have e0 : (ev (pf K bs k) (.orr (.nt (.cmp2 .LtE .LtE (.cst (.int 1)) (.b1 .len (.var 0)) (.var 1))) (.cmp .NotEq (.comp [none, none] (.one 1) (.tx (.var 0)) (.so (.cmp .Lt (.tm .find (.cst (.str "0123456789")) (.var 1)) (.cst (.int 0)))) (.var 1)) (.ls (slice [])))) [some (.val (.str w)), some (.val (dn most)), none, none]).2 = some (!loose w most) := by
    rw [ev_orr]
    simp only [c1, c2, Option.bind_some]
    unfold loose
    cases decide (1 ≤ w.length ∧ w.length ≤ most) <;> rfl
  cases b : loose w most with
  | false =>
    rw [b] at e0
    rw [evSS_rt (d := .non) (by rw [ifs_yes e0]; rfl)]
    unfold lnum
    rw [b]
    rfl
  | true =>
    rw [b] at e0
    have ei := itx_ev (x := w) (by
      simp only [loose, Bool.and_eq_true, decide_eq_true_eq] at b
      omega) (loose_int b hm)
    rw [evSS_nx (ifs_no e0), evSS_rt (d := dn (vl w)) (by simp [ei])]
    unfold lnum
    rw [b]
    rfl
theorem groundB_of {m : Nat} {ls : List (Nat × Nat × Nat)} (hm0 : 0 < m) (hm : m ≤ 7) (hL : ls.length ≤ 21) (hi : ∀ l ∈ ls, lOk m l) : groundB (groundD m ls) = true := by
  show (decide ((1 : Int) ≤ (m : Int) ∧ (m : Int) ≤ 7) && (decide ((ls.map lineD).length ≤ 21) && (ls.map lineD).all (lineB (m : Int)))) = true
  rw [decide_eq_true (by omega), decide_eq_true (by simpa using hL)]
  simp only [Bool.true_and, List.all_map, List.all_eq_true]
  intro l hl
  obtain ⟨h1, h2, h3⟩ := hi l hl
  show (pairB (m : Int) (.tup [dn l.1, dn l.2.1]) && whole (dn l.2.2) 0 1000) = true
  rw [pairB_iff.mpr ⟨l.1, l.2.1, rfl, rfl, by omega, by omega, by omega⟩]
  exact decide_eq_true (by omega)
theorem lineD_inj {l l' : Nat × Nat × Nat} (h : lineD l = lineD l') : l = l' := by
  simp only [lineD, dn, D.tup.injEq, List.cons.injEq, D.int.injEq, and_true, Int.natCast_inj] at h
  obtain ⟨h1, h2, h3⟩ := h
  exact Prod.ext h1 (Prod.ext h2 h3)
theorem groundD_inj {m m' : Nat} {ls ls' : List (Nat × Nat × Nat)} (h : groundD m ls = groundD m' ls') : m = m' ∧ ls = ls' := by
  simp only [groundD, dn, D.tup.injEq, List.cons.injEq, D.int.injEq, and_true, Int.natCast_inj] at h
  refine ⟨h.1, ?_⟩
  have := h.2
  clear h
  induction ls generalizing ls' with
  | nil =>
    cases ls' with
    | nil => rfl
    | cons a b => simp at this
  | cons l ls ih =>
    cases ls' with
    | nil => simp at this
    | cons l' ls' =>
      simp only [List.map_cons, List.cons.injEq] at this
      rw [lineD_inj this.1, ih this.2]
noncomputable def DE (t w l a n f : Option Sl) : En := [t, w, l, a, n, f, none, none, none, none, none, none]
noncomputable def good (t : Str) (a : Nat) : Bool := decide (wd t a = "line") && (loose (wd t (a + 1)) 4 && (loose (wd t (a + 2)) 4 && loose (wd t (a + 3)) 4))
noncomputable def ltk (t : Str) (a : Nat) : D := .tup [lnum (wd t (a + 1)) 4, lnum (wd t (a + 2)) 4, lnum (wd t (a + 3)) 4]
noncomputable def gL (t : Str) (n : Nat) : D := .tup [lnum (wd t 1) 1, .tup (lines t n)]
theorem lnum_ok (w : Str) (m n : Nat) : okD n (lnum w m) = true := by
  unfold lnum
  split <;> cases n <;> rfl
theorem gL_ok (t : Str) (n : Nat) : OkD (gL t n) := ⟨3, okDs_of fun d hd => by
  simp only [List.mem_cons, List.not_mem_nil, or_false] at hd
  rcases hd with rfl | rfl
  · exact lnum_ok _ _ _
  · exact lines_ok t n 0⟩
noncomputable def b18a : S := .asg false 4 (.b1 .tuple (.comp [none, none, none] (.one 1) (.sq (.sl (.var 1) (.so (.bin .Add (.var 3) (.cst (.int 1)))) (.so (.bin .Add (.var 3) (.cst (.int 4)))))) .no (.call 17 (slice [(.var 1), (.cst (.int 4))]))))
noncomputable def b18c : C := .orr (.cmp .NotEq (.ix (.var 1) (.var 3)) (.cst (.str "line"))) (.cmp .In (.cst .non) (.var 4))
noncomputable def b18l : SS := .cons b18a (.cons (.ifs b18c (block [.ret (.cst .non)]) (block [])) (.cons (.asg false 2 (.bin .Add (.var 2) (.tp (slice [(.var 4)])))) .nil))
noncomputable def b18f : S := .fr (.one 3) (.r4 (.cst (.int 2)) (.b1 .len (.var 1)) (.cst (.int 4))) b18l
noncomputable def b18g : C := .orr (.nt (.call 14 (slice [(.var 5)]))) (.cmp .NotEq (.call 15 (slice [(.var 5)])) (.var 0))
theorem b18_eq : b18 = .cons (.asg false 1 (.tm .split (.var 0) (.cst (.str " ")))) (.cons (.ifs rXc (block [.ret (.cst .non)]) (block [])) (.cons (.asg false 2 (.tp (slice []))) (.cons b18f (.cons (.asg false 5 (.tp (slice [(.call 17 (slice [(.ix (.var 1) (.cst (.int 1))), (.cst (.int 1))])), (.var 2)]))) (.cons (.ifs b18g (block [.ret (.cst .non)]) (block [])) (.cons (.ret (.var 5)) .nil)))))) := rfl
section
variable {t : Str} {n : Nat} (hn : (spw t).length = 4 * n + 2) (ht : t.length ≤ 65534) (ha : Asc t)
include hn ht ha
theorem asc_wd (j : Nat) : Asc (wd t j) := by
  by_cases h : j < (spw t).length
  · exact asc_spw ha _ (List.mem_of_getElem? (wd_at h))
  · unfold wd
    rw [List.getD_eq_getElem?_getD, List.getElem?_eq_none (by omega)]
    intro c hc
    cases hc
theorem loop1 (k0 : Nat) {a i : Nat} (hi : i < n) (ea : a = 2 + 4 * i) {x4 : Option Sl} :
    (good t a = true → evSS (pf K bs (k0 + 1)) b18l (DE (some (.val (.str t))) (some (.val (wsD t))) (some (.val (.tup (lines t i)))) (some (.val (dn a))) x4 none) = some (.nx (DE (some (.val (.str t))) (some (.val (wsD t))) (some (.val (.tup (lines t (i + 1))))) (some (.val (dn a))) (some (.val (ltk t a))) none))) ∧
    (good t a = false → evSS (pf K bs (k0 + 1)) b18l (DE (some (.val (.str t))) (some (.val (wsD t))) (some (.val (.tup (lines t i)))) (some (.val (dn a))) x4 none) = some (.rt .non)) := by
  have hl : a + 4 ≤ (spw t).length := by omega
  have hc := cut_3 (xs := (spw t).map D.str) (a := a) (ws_at (t := t) (by omega)) (ws_at (by omega)) (ws_at (by omega))
  have ec : (ev (pf K bs (k0 + 1)) (.comp [none, none, none] (.one 1) (.sq (.sl (.var 1) (.so (.bin .Add (.var 3) (.cst (.int 1)))) (.so (.bin .Add (.var 3) (.cst (.int 4)))))) .no (.call 17 (slice [(.var 1), (.cst (.int 4))]))) (DE (some (.val (.str t))) (some (.val (wsD t))) (some (.val (.tup (lines t i)))) (some (.val (dn a))) x4 none)).1 = some (.fr, .lst (([a + 1, a + 2, a + 3].map fun j => lnum (wd t j) 4).map id)) :=
    comp_map (em := fun j => D.str (wd t j)) (en := id) (g := fun j => lnum (wd t j) 4) (xs := [a + 1, a + 2, a + 3]) (k := .fz) (by
      simp only [evI_sq, ev_sl, evO_so, ev_bin, ev_var, ev_cst, vt_1, DE, List.getElem?_cons_zero, List.getElem?_cons_succ, Option.bind_some, opD_add_i, wsD]
      rw [hc]
      rfl) (by simp) rfl (by
      intro x hx
      have e := ln17 K k0 (w := wd t x) (Nat.le_trans (wd_short t x) (by omega)) (asc_wd hn ht ha x) (most := 4) (by decide)
      have e : pf K bs (k0 + 1) 17 [.str (wd t x), .int 4] = some (lnum (wd t x) 4) := e
      simp [e])
  have ea1 : evS (pf K bs (k0 + 1)) b18a (DE (some (.val (.str t))) (some (.val (wsD t))) (some (.val (.tup (lines t i)))) (some (.val (dn a))) x4 none) = some (.nx (DE (some (.val (.str t))) (some (.val (wsD t))) (some (.val (.tup (lines t i)))) (some (.val (dn a))) (some (.val (ltk t a))) none)) := by
    refine asg_fz (d := ltk t a) ?_
    rw [ev_b1, ec]
    rfl
  have e0 := ws_at (t := t) (j := a) (by omega)
  have c1 : (ev (pf K bs (k0 + 1)) (.cmp .NotEq (.ix (.var 1) (.var 3)) (.cst (.str "line"))) (DE (some (.val (.str t))) (some (.val (wsD t))) (some (.val (.tup (lines t i)))) (some (.val (dn a))) (some (.val (ltk t a))) none)).2 = some (!decide (wd t a = "line")) := by
    simp only [ev_cmp, ev_ix, ev_var, ev_cst, vt_1, vt_2, DE, List.getElem?_cons_zero, List.getElem?_cons_succ, Option.bind_some, wsD, seq_l, atI_nat, e0]
    rfl
  have ne1 : ∀ w m, eqD (lnum w m) .non = !loose w m := by
    intro w m
    unfold lnum
    cases loose w m <;> rfl
  have c2 : (ev (pf K bs (k0 + 1)) (.cmp .In (.cst .non) (.var 4)) (DE (some (.val (.str t))) (some (.val (wsD t))) (some (.val (.tup (lines t i)))) (some (.val (dn a))) (some (.val (ltk t a))) none)).2 = some (!(loose (wd t (a + 1)) 4 && (loose (wd t (a + 2)) 4 && loose (wd t (a + 3)) 4))) := by
    have : cmpD .In .non (ltk t a) = some (!(loose (wd t (a + 1)) 4 && (loose (wd t (a + 2)) 4 && loose (wd t (a + 3)) 4))) := by
      have o : okDs 40 [lnum (wd t (a + 1)) 4, lnum (wd t (a + 2)) 4, lnum (wd t (a + 3)) 4] = true := okDs_of fun d hd => by
        simp only [List.mem_cons, List.not_mem_nil, or_false] at hd
        rcases hd with rfl | rfl | rfl <;> exact lnum_ok _ _ _
      show (if (okD 40 .non && okDs 40 [lnum (wd t (a + 1)) 4, lnum (wd t (a + 2)) 4, lnum (wd t (a + 3)) 4]) = true then some (inD .non [lnum (wd t (a + 1)) 4, lnum (wd t (a + 2)) 4, lnum (wd t (a + 3)) 4]) else none) = _
      rw [o]
      show some (inD .non [lnum (wd t (a + 1)) 4, lnum (wd t (a + 2)) 4, lnum (wd t (a + 3)) 4]) = _
      simp only [inD, List.any_cons, List.any_nil, ne1]
      cases loose (wd t (a + 1)) 4 <;> cases loose (wd t (a + 2)) 4 <;> cases loose (wd t (a + 3)) 4 <;> rfl
    simp only [ev_cmp, ev_var, ev_cst, vt_1, vt_2, DE, List.getElem?_cons_zero, List.getElem?_cons_succ, Option.bind_some, this]
    rfl
  have c3 : (ev (pf K bs (k0 + 1)) b18c (DE (some (.val (.str t))) (some (.val (wsD t))) (some (.val (.tup (lines t i)))) (some (.val (dn a))) (some (.val (ltk t a))) none)).2 = some (!good t a) := by
    unfold b18c
    rw [ev_orr]
    simp only [c1, c2, Option.bind_some]
    unfold good
    cases decide (wd t a = "line") <;> rfl
  unfold b18l
  refine ⟨fun g => ?_, fun g => ?_⟩
  · rw [g] at c3
    have l3 : ltk t a = lvk t a := by
      simp only [good, Bool.and_eq_true] at g
      simp only [ltk, lnum, if_pos g.2.1, if_pos g.2.2.1, if_pos g.2.2.2]
      rfl
    have ladd : opD .Add (.tup (lines t i)) (.tup [ltk t a]) = some (.fz, .tup (lines t (i + 1))) := by
      have hs := spw_len t
      rw [opD_add_t (by simp [lines]; omega), l3]
      unfold lines
      rw [List.range_succ, List.map_append, ea]
      rfl
    rw [evSS_nx ea1, evSS_nx (ifs_no c3), evSS_nx (asg_fz (d := .tup (lines t (i + 1))) (by
      simp only [ev_bin, ev_var, ev_tp, slice_cons, slice_nil, evA_cons, evA_nil, vt_1, DE, List.getElem?_cons_zero, List.getElem?_cons_succ, Option.bind_some, frz_fz]
      exact ladd))]
    rfl
  · rw [g] at c3
    rw [evSS_nx ea1, evSS_rt (d := .non) (by rw [ifs_yes c3]; rfl)]
noncomputable def Due (t : Str) (n : Nat) : Prop := (∀ i < n, good t (2 + 4 * i) = true) ∧ ∃ m ls, gL t n = groundD m ls ∧ 0 < m ∧ m ≤ 7 ∧ ls.length ≤ 21 ∧ (∀ l ∈ ls, lOk m l) ∧ ls.foldl tst ("spots " ++ sN m) = t
theorem du18 (k0 : Nat) (hh : head t = true) : (Due t n → pf K bs (k0 + 3) 18 [.str t] = some (gL t n)) ∧ (¬ Due t n → pf K bs (k0 + 3) 18 [.str t] = some .non) := by
  have e0 : pf K bs (k0 + 3) 18 [.str t] = left (evSS (pf K bs (k0 + 2)) b18 (DE (some (.val (.str t))) none none none none none)) := rfl
  rw [e0, b18_eq]
  rw [evSS_nx (asg_fr (d := wsD t) (by simp [DE, tm_split ht]; rfl))]
  have h0 := hd_evG (pf K bs (k0 + 2)) (t := t) (r := DE (some (.val (.str t))) (some (.val (wsD t))) none none none none) rfl
  rw [hh] at h0
  have e1 : ∀ l, evSS (pf K bs (k0 + 2)) (.cons (.ifs rXc (block [.ret (.cst .non)]) (block [])) l) ((DE (some (.val (.str t))) none none none none none).set 1 (some (.val (wsD t)))) = evSS (pf K bs (k0 + 2)) l (DE (some (.val (.str t))) (some (.val (wsD t))) none none none none) := fun l => evSS_nx (ifs_no h0)
  rw [e1, evSS_nx (asg_fz (d := .tup []) (by simp))]
  obtain ⟨f1, f2⟩ := for_alli (p := pf K bs (k0 + 2)) (tg := .one 3) (it := .r4 (.cst (.int 2)) (.b1 .len (.var 1)) (.cst (.int 4))) (b := b18l) (k := .fz) (em := fun k => dn (2 + 4 * k)) (n := n) (good := fun i => good t (2 + 4 * i)) (r0 := DE (some (.val (.str t))) (some (.val (wsD t))) (some (.val (.tup []))) none none none) (d0 := .non)
    (fun i r => ∃ x3 x4, r = DE (some (.val (.str t))) (some (.val (wsD t))) (some (.val (.tup (lines t i)))) x3 x4 none) (em4 hn rfl (by have := spw_len t; omega)) (by decide) ⟨none, none, rfl⟩ (by
      rintro i r hi ⟨x3, x4, rfl⟩
      obtain ⟨g1, g2⟩ := loop1 K hn ht ha (k0 + 1) hi rfl (x4 := x4)
      exact ⟨_, rfl, fun g => ⟨_, g1 g, _, _, rfl⟩, g2⟩)
  have ef : ∀ l, evSS (pf K bs (k0 + 2)) (.cons b18f l) ((DE (some (.val (.str t))) (some (.val (wsD t))) none none none none).set 2 (some (.val (.tup [])))) = evSS (pf K bs (k0 + 2)) (.cons b18f l) (DE (some (.val (.str t))) (some (.val (wsD t))) (some (.val (.tup []))) none none none) := fun l => rfl
  rw [ef]
  by_cases al : ∀ i < n, good t (2 + 4 * i) = true
  · obtain ⟨r', e3, x3, x4, rfl⟩ := f1 al
    have e3 : evS (pf K bs (k0 + 2)) b18f (DE (some (.val (.str t))) (some (.val (wsD t))) (some (.val (.tup []))) none none none) = _ := e3
    rw [evSS_nx e3]
    have h1 := ws_at (t := t) (j := 1) (by omega)
    have e17 := ln17 K (k0 + 1) (w := wd t 1) (Nat.le_trans (wd_short t 1) (by omega)) (asc_wd hn ht ha 1) (most := 1) (by decide)
    have e17 : pf K bs (k0 + 2) 17 [.str (wd t 1), .int 1] = some (lnum (wd t 1) 1) := e17
    have e5 : evS (pf K bs (k0 + 2)) (.asg false 5 (.tp (slice [(.call 17 (slice [(.ix (.var 1) (.cst (.int 1))), (.cst (.int 1))])), (.var 2)]))) (DE (some (.val (.str t))) (some (.val (wsD t))) (some (.val (.tup (lines t n)))) x3 x4 none) = some (.nx (DE (some (.val (.str t))) (some (.val (wsD t))) (some (.val (.tup (lines t n)))) x3 x4 (some (.val (gL t n))))) := by
      refine asg_fz (d := gL t n) ?_
      simp only [ev_tp, ev_call, ev_ix, ev_var, ev_cst, slice_cons, slice_nil, evA_cons, evA_nil, vt_1, DE, List.getElem?_cons_zero, List.getElem?_cons_succ, Option.bind_some, Option.map_some, frz_fz, wsD, seq_l, atI_1, h1, e17]
      rfl
    rw [evSS_nx e5]
    have e14 := lisg K k0 (gL t n) (gL_ok t n)
    cases gg : groundB (gL t n) with
    | false =>
      rw [gg] at e14
      have nd : ¬ Due t n := by
        rintro ⟨_, m, ls, e, q1, q2, q3, q4, _⟩
        rw [e, groundB_of q1 q2 q3 q4] at gg
        cases gg
      rw [evSS_rt (d := .non) (by rw [ifs_yes (by simp [b18g, DE, e14])]; rfl)]
      exact ⟨fun h => absurd h nd, fun _ => rfl⟩
    | true =>
      rw [gg] at e14
      obtain ⟨m, ls, eg, q1, q2, q3, q4⟩ := groundB_inv gg
      have e15 : pf K bs (k0 + 2) 15 [gL t n] = some (.str (ls.foldl tst ("spots " ++ sN m))) := by
        rw [eg]
        exact lwritten_ev (pf K bs (k0 + 1)) q2 q3 q4
      have c7 : (ev (pf K bs (k0 + 2)) b18g (DE (some (.val (.str t))) (some (.val (wsD t))) (some (.val (.tup (lines t n)))) x3 x4 (some (.val (gL t n))))).2 = some (!decide (ls.foldl tst ("spots " ++ sN m) = t)) := by
        simp [b18g, DE, e14, e15]
      by_cases et : ls.foldl tst ("spots " ++ sN m) = t
      · rw [decide_eq_true et] at c7
        rw [evSS_nx (ifs_no c7)]
        exact ⟨fun _ => rfl, fun h => absurd ⟨al, m, ls, eg, q1, q2, q3, q4, et⟩ h⟩
      · rw [decide_eq_false et] at c7
        rw [evSS_rt (d := .non) (by rw [ifs_yes c7]; rfl)]
        refine ⟨fun ⟨_, m', ls', e', _, _, _, _, et'⟩ => ?_, fun _ => rfl⟩
        rw [eg] at e'
        obtain ⟨rfl, rfl⟩ := groundD_inj e'
        exact absurd et' et
  · have : ∃ i, i < n ∧ good t (2 + 4 * i) = false := by
      refine Classical.byContradiction fun z => al fun i hi => ?_
      cases g : good t (2 + 4 * i) with
      | true => rfl
      | false => exact absurd ⟨i, hi, g⟩ z
    have e3 : evS (pf K bs (k0 + 2)) b18f (DE (some (.val (.str t))) (some (.val (wsD t))) (some (.val (.tup []))) none none none) = _ := f2 this
    rw [evSS_rt e3]
    exact ⟨fun h => absurd h.1 al, fun _ => rfl⟩
end
section
variable {t : Str} {n : Nat} (hn : (spw t).length = 4 * n + 2)
include hn
theorem lines_of {m : Nat} {ls : List (Nat × Nat × Nat)} (h : lines t n = ls.map lineD) : ls.length = n ∧ ∀ k l, ls[k]? = some l → vl (wd t (2 + 4 * k + 1)) = l.1 ∧ vl (wd t (2 + 4 * k + 2)) = l.2.1 ∧ vl (wd t (2 + 4 * k + 3)) = l.2.2 := by
  have hl : ls.length = n := by
    have := congrArg List.length h
    simpa [lines] using this.symm
  refine ⟨hl, fun k l hk => ?_⟩
  have hk' : k < n := by
    rw [← hl]
    exact (List.getElem?_eq_some_iff.mp hk).1
  have e := congrArg (fun x => x[k]?) h
  simp only [lines, List.getElem?_map, List.getElem?_range hk', hk, Option.map_some, Option.some.injEq] at e
  have e : lineD (vl (wd t (2 + 4 * k + 1)), vl (wd t (2 + 4 * k + 2)), vl (wd t (2 + 4 * k + 3))) = lineD l := e
  have := lineD_inj e
  rw [← this]
  exact ⟨rfl, rfl, rfl⟩
theorem same (hh : head t = true) : (strict t n = true → Due t n ∧ gL t n = gS t n) ∧ (Due t n → strict t n = true) := by
  simp only [head, Bool.and_eq_true, decide_eq_true_eq] at hh
  constructor
  · intro hs
    simp only [strict, Bool.and_eq_true] at hs
    obtain ⟨ok, i1, gg⟩ := hs
    obtain ⟨m, ls, eg, q1, q2, q3, q4⟩ := groundB_inv gg
    have eg' := eg
    simp only [gS, groundD, dn, D.tup.injEq, List.cons.injEq, D.int.injEq, and_true, Int.natCast_inj] at eg'
    obtain ⟨e1, e2⟩ := eg'
    obtain ⟨hl, hv⟩ := lines_of hn (m := m) e2
    have w1 : wd t 1 = sN m := by
      rw [← canon i1 (by omega), e1]
    have ok' : ∀ k, k < n → lkk t (2 + 4 * k) = true := fun k hk => by
      unfold okG at ok
      exact List.all_eq_true.mp ok k (List.mem_range.mpr hk)
    have gl : gL t n = gS t n := by
      have : loose (wd t 1) 1 = true := by
        rw [w1]
        exact loose_one (by omega)
      simp only [gL, gS, lnum, if_pos this]
    refine ⟨⟨fun i hi => ?_, m, ls, gl.trans eg, q1, q2, q3, q4, ?_⟩, gl⟩
    · have := ok' i hi
      simp only [lkk, lk, Bool.and_eq_true, List.all_cons, List.all_nil, and_true] at this
      simp only [good, Bool.and_eq_true]
      exact ⟨this.1, loose_is this.2.1, loose_is this.2.2.1, loose_is this.2.2.2⟩
    · have at' : ∀ k l, ls[k]? = some l → k < n ∧ l ∈ ls := fun k l h => ⟨by rw [← hl]; exact (List.getElem?_eq_some_iff.mp h).1, List.mem_of_getElem? h⟩
      have wk : ∀ k l, ls[k]? = some l → wd t (2 + 4 * k) = "line" ∧ wd t (2 + 4 * k + 1) = sN l.1 ∧ wd t (2 + 4 * k + 2) = sN l.2.1 ∧ wd t (2 + 4 * k + 3) = sN l.2.2 := by
        intro k l h
        obtain ⟨hk, hm⟩ := at' k l h
        obtain ⟨p1, p2, p3⟩ := q4 l hm
        obtain ⟨v1, v2, v3⟩ := hv k l h
        have := ok' k hk
        simp only [lkk, lk, Bool.and_eq_true, List.all_cons, List.all_nil, and_true, decide_eq_true_eq] at this
        obtain ⟨c0, c1, c2, c3⟩ := this
        refine ⟨c0, ?_, ?_, ?_⟩
        · rw [← canon c1 (by omega), v1]
        · rw [← canon c2 (by omega), v2]
        · rw [← canon c3 (by omega), v3]
      refine (text_iff q2 q4).mpr ⟨by rw [hn, hl], ?_, ?_, fun k l h => ?_, fun k l h => ?_, fun k l h => ?_, fun k l h => ?_⟩
      · rw [wd_at (by omega), hh.2]
      · rw [wd_at (by omega), w1]
      · have := (at' k l h).1
        rw [wd_at (by omega), (wk k l h).1]
      · have := (at' k l h).1
        rw [wd_at (by omega), (wk k l h).2.1]
      · have := (at' k l h).1
        rw [wd_at (by omega), (wk k l h).2.2.1]
      · have := (at' k l h).1
        rw [wd_at (by omega), (wk k l h).2.2.2]
  · rintro ⟨ok, m, ls, eg, q1, q2, q3, q4, et⟩
    have w := (text_iff q2 q4).mp et
    have hl : ls.length = n := by
      have := w.len
      omega
    have w1 : wd t 1 = sN m := wd_of w.w1
    have i1 : isN (wd t 1) = true := by
      rw [w1]
      exact sN_is m (by omega)
    have o : okG t n = true := by
      unfold okG
      rw [List.all_eq_true]
      intro k hk
      have hk := List.mem_range.mp hk
      have hx : ls[k]? = some (ls[k]'(by omega)) := List.getElem?_eq_getElem (by omega)
      obtain ⟨p1, p2, p3⟩ := q4 _ (List.mem_of_getElem? hx)
      simp only [lkk, lk, Bool.and_eq_true, List.all_cons, List.all_nil, and_true, decide_eq_true_eq]
      rw [wd_of (w.q0 k _ hx), wd_of (w.q1 k _ hx), wd_of (w.q2 k _ hx), wd_of (w.q3 k _ hx)]
      exact ⟨rfl, sN_is _ (by omega), sN_is _ (by omega), sN_is _ (by omega)⟩
    have gl : gL t n = gS t n := by
      have : loose (wd t 1) 1 = true := by
        rw [w1]
        exact loose_one (by omega)
      simp only [gL, gS, lnum, if_pos this]
    simp only [strict, Bool.and_eq_true]
    exact ⟨o, i1, by rw [← gl, eg]; exact groundB_of q1 q2 q3 q4⟩
end
theorem both (k0 : Nat) {t : Str} (ht : t.length ≤ 65534) (ha : Asc t) : ∃ d, pf K bs (k0 + 6) 19 [.str t] = some d ∧ pf K bs (k0 + 6) 18 [.str t] = some d ∧ okD 40 d = true ∧ OkD d ∧ (d = .non ∨ groundB d = true) := by
  cases hh : head t with
  | false =>
    refine ⟨.non, fd19' K ht (k0 + 4) hh, ?_, rfl, ⟨0, rfl⟩, .inl rfl⟩
    have e0 : pf K bs (k0 + 6) 18 [.str t] = left (evSS (pf K bs (k0 + 5)) b18 (DE (some (.val (.str t))) none none none none none)) := rfl
    rw [e0, b18_eq, evSS_nx (asg_fr (d := wsD t) (by simp [DE, tm_split ht]; rfl))]
    have h0 := hd_evG (pf K bs (k0 + 5)) (t := t) (r := (DE (some (.val (.str t))) none none none none none).set 1 (some (.val (wsD t)))) rfl
    rw [hh] at h0
    rw [evSS_rt (d := .non) (by rw [ifs_yes h0]; rfl)]
    rfl
  | true =>
    obtain ⟨n, hn⟩ : ∃ n, (spw t).length = 4 * n + 2 := by
      simp only [head, Bool.and_eq_true, decide_eq_true_eq] at hh
      exact ⟨(spw t).length / 4, by omega⟩
    have f := fd19 K hn ht k0 hh
    obtain ⟨d1, d2⟩ := du18 K hn ht ha (k0 + 3) hh
    obtain ⟨s1, s2⟩ := same hn hh
    cases s : strict t n with
    | true =>
      rw [s] at f
      obtain ⟨du, gl⟩ := s1 s
      refine ⟨gS t n, f, by rw [d1 du, gl], ?_, gS_ok t n, .inr ?_⟩
      · exact okDs_of fun d hd => by
          simp only [List.mem_cons, List.not_mem_nil, or_false] at hd
          rcases hd with rfl | rfl
          · rfl
          · exact lines_ok t n 37
      · simp only [strict, Bool.and_eq_true] at s
        exact s.2.2
    | false =>
      rw [s] at f
      have nd : ¬ Due t n := fun h => by
        rw [s2 h] at s
        cases s
      exact ⟨.non, f, d2 nd, rfl, ⟨0, rfl⟩, .inl rfl⟩
noncomputable def wt (l : List Str) : Nat := (l.map fun x => x.length + 1).sum
theorem wt_app (a b : List Str) : wt (a ++ b) = wt a + wt b := by simp [wt]
theorem jlen_wt (l : List Str) : jlen " " l = wt l := by
  have e5 : (" " : Str).length = 1 := by decide
  have key : ∀ (l : List Str) (n : Nat), l.foldl (fun n x => n + x.length + (" " : Str).length) n = n + wt l := by
    intro l
    induction l with
    | nil => intro n; rfl
    | cons x r ih =>
      intro n
      rw [List.foldl_cons, ih, e5]
      simp only [wt, List.map_cons, List.sum_cons]
      omega
  have := key l 0
  rw [Nat.zero_add] at this
  exact this
theorem join_len (l : List Str) : (joinS " " l).length ≤ wt l := by
  rw [← sg_len, jf_joinS]
  cases l with
  | nil => exact Nat.zero_le _
  | cons x r =>
    have key : ∀ r : List Str, (r.flatMap fun p => 32 :: sg p).length = wt r := by
      intro r
      induction r with
      | nil => rfl
      | cons y r ih =>
        rw [List.flatMap_cons, List.length_append, ih, List.length_cons, sg_len]
        rfl
    show (sg x ++ _).length ≤ _
    rw [List.length_append, key, sg_len]
    simp only [wt, List.map_cons, List.sum_cons]
    omega
theorem wt_len (l : List Str) : l.length ≤ wt l := by
  induction l with
  | nil => exact Nat.zero_le _
  | cons x r ih =>
    simp only [wt, List.map_cons, List.sum_cons, List.length_cons] at ih ⊢
    omega
theorem wt_sub {a b : List Str} (h : a.Sublist b) : wt a ≤ wt b := by
  induction h with
  | slnil => exact Nat.le_refl _
  | cons x _ ih => simp only [wt, List.map_cons, List.sum_cons] at ih ⊢; omega
  | cons_cons x _ ih => simp only [wt, List.map_cons, List.sum_cons] at ih ⊢; omega
theorem cut_sub {α : Type} (xs : List α) (lo hi : Option Int) : (cut xs lo hi).Sublist xs := (List.take_sublist _ _).trans (List.drop_sublist _ _)
theorem cut_map {α β : Type} (f : α → β) (xs : List α) (lo hi : Option Int) : cut (xs.map f) lo hi = (cut xs lo hi).map f := by
  unfold cut
  rw [List.length_map, List.map_take, List.map_drop]
theorem wt_spw (t : Str) : wt (spw t) ≤ t.length + 1 := by
  have h := PyProof.Rows.split_weight t " " (by decide)
  have key : ∀ l : List Str, wt l = (l.map (·.length)).sum + l.length := by
    intro l
    induction l with
    | nil => rfl
    | cons x r ih =>
      simp only [wt, List.map_cons, List.sum_cons, List.length_cons] at ih ⊢
      omega
  rw [key]
  exact h
theorem wt_ends (l : List Str) {a b : Nat} (h : a ≤ b) : wt (l.take a) + wt (l.drop b) ≤ wt l := by
  have e : wt l = wt (l.take a) + wt (l.drop a) := by rw [← wt_app, List.take_append_drop]
  have : wt (l.drop b) ≤ wt (l.drop a) := by
    refine wt_sub ?_
    rw [show b = a + (b - a) by omega, ← List.drop_drop]
    exact List.drop_sublist _ _
  omega
structure Jn (t : Str) (l : List Str) : Prop where
  wt : wt l ≤ 3 * t.length + 40
  asc : ∀ x ∈ l, Asc x
theorem join_ev {p : Nat → List D → Option D} {c : C} {r : En} {k : Kd} {l : List Str} (h : (ev p c r).1 = some (k, .lst (l.map D.str))) (hw : wt l ≤ 65536) : (ev p (.join " " c) r).1 = some (.fz, .str (joinS " " l)) := by
  rw [ev_join, h]
  simp only [Option.bind_some, vt_1, strs_map]
  show (if jlen " " l ≤ lim then _ else _) = _
  rw [if_pos (by rw [jlen_wt]; exact hw)]
theorem addl_ev {p : Nat → List D → Option D} {c d : C} {r : En} {k k' : Kd} {l m : List Str} (h : (ev p c r).1 = some (k, .lst (l.map D.str))) (h' : (ev p d r).1 = some (k', .lst (m.map D.str))) (hw : wt (l ++ m) ≤ 65536) : (ev p (.bin .Add c d) r).1 = some (.fr, .lst ((l ++ m).map D.str)) := by
  rw [ev_bin, h, h']
  simp only [Option.bind_some, vt_1]
  have := wt_len (l ++ m)
  rw [List.length_append] at this
  rw [opD_add_l (by simp only [List.length_map]; omega), List.map_append]
noncomputable def CE (t : Str) (v : Int) (a pl : Nat) (kd : Int) (s m o : Option Sl) : En := [some (.val (.str t)), some (.val (.int v)), some (.val (wsD t)), some (.val (dn a)), some (.val (dn pl)), some (.val (.int kd)), s, m, o, none]
theorem slw_ev {p : Nat → List D → Option D} {t : Str} {lo hi : CO} {r : En} {x y : Option Int} (h : r[2]? = some (some (.val (wsD t)))) (hl : (evO p lo r).1 = some x) (hh : (evO p hi r).1 = some y) : (ev p (.sl (.var 2) lo hi) r).1 = some (.fr, .lst ((cut (spw t) x y).map D.str)) := by
  rw [ev_sl]
  simp only [ev_var, vt_1, h, hl, hh, Option.bind_some, wsD, cut_map]
theorem slt_ev {p : Nat → List D → Option D} {t : Str} {lo hi : CO} {r : En} {x y : Option Int} (h : r[0]? = some (some (.val (.str t)))) (ht : t.length ≤ 65536) (hl : (evO p lo r).1 = some x) (hh : (evO p hi r).1 = some y) : (ev p (.tsl (.var 0) lo hi) r).1 = some (.fz, .str (Txt.slice t x y)) := by
  rw [ev_tsl]
  simp only [ev_var, vt_1, h, hl, hh, Option.bind_some]
  exact if_pos ht
theorem adds_ev {p : Nat → List D → Option D} {c d : C} {r : En} {x y : Str} (h : (ev p c r).1 = some (.fz, .str x)) (h' : (ev p d r).1 = some (.fz, .str y)) (hw : x.length + y.length ≤ 65536) : (ev p (.bin .Add c d) r).1 = some (.fz, .str (x ++ y)) := by
  rw [ev_bin, h, h']
  simp only [Option.bind_some, vt_1]
  exact opD_add_s hw
theorem ret_ev {p : Nat → List D → Option D} {c : C} {r : En} {d : D} {l : SS} (h : (ev p c r).1 = some (.fz, d)) : evSS p (.cons (.ret c) l) r = some (.rt d) := evSS_rt (by rw [evS_ret, h]; rfl)
theorem ifs_no0 {p : Nat → List D → Option D} {c : C} {a : SS} {r : En} (h : (ev p c r).2 = some false) : evS p (.ifs c a .nil) r = some (.nx r) := ifs_no h
noncomputable def some12 : List Str := ["spots", "line", "0", "1", "2", "3", "7", "8", "1000", "1001", "00", "-1"]
theorem changed_ev (p : Nat → List D → Option D) {t : Str} {v : Int} (hv : 0 ≤ v) (ht : t.length ≤ 20000) (ha : Asc t) : ∃ t', runF p 10 b16 [.str t, .int v] = some (.str t') ∧ t'.length ≤ 3 * t.length + 40 ∧ Asc t' := by
  have hW := wt_spw t
  have hWl := wt_len (spw t)
  have hp : 0 < (spw t).length := by
    have := spw_ne t
    cases e : spw t with
    | nil => exact absurd e this
    | cons a b => simp
  have ac := asc_spw ha
  have cutasc : ∀ lo hi, ∀ x ∈ cut (spw t) lo hi, Asc x := fun lo hi x hx => ac x ((cut_sub _ lo hi).subset hx)
  have cutwt : ∀ lo hi, wt (cut (spw t) lo hi) ≤ t.length + 1 := fun lo hi => Nat.le_trans (wt_sub (cut_sub _ lo hi)) hW
  have fin : ∀ l : List Str, wt l ≤ 3 * t.length + 40 → (∀ x ∈ l, Asc x) → ∃ t', left (some (Fl.rt (.str (joinS " " l)))) = some (.str t') ∧ t'.length ≤ 3 * t.length + 40 ∧ Asc t' := fun l h1 h2 => ⟨_, rfl, Nat.le_trans (join_len l) h1, asc_join h2⟩
  show ∃ t', left (evSS p b16 [some (.val (.str t)), some (.val (.int v)), none, none, none, none, none, none, none, none]) = _ ∧ _
  unfold b16
  simp only [block_cons, block_nil]
  rw [evSS_nx (asg_fr (d := wsD t) (by simp [tm_split (show t.length ≤ 65534 by omega)]; rfl))]
  have d8 : opD .FloorDiv (.int v) (.int 8) = some (.fz, .int (v / 8)) := opD_div (by decide) (by decide)
  obtain ⟨a, ea⟩ : ∃ a : Nat, v / 8 % ((spw t).length : Int) = (a : Int) := ⟨(v / 8 % ((spw t).length : Int)).toNat, by
    have := Int.emod_nonneg (v / 8) (show ((spw t).length : Int) ≠ 0 by omega)
    omega⟩
  obtain ⟨pl, ep⟩ : ∃ a : Nat, v / 8 % ((t.length : Int) + 1) = (a : Int) := ⟨(v / 8 % ((t.length : Int) + 1)).toNat, by
    have := Int.emod_nonneg (v / 8) (show ((t.length : Int) + 1) ≠ 0 by omega)
    omega⟩
  have ma : opD .Mod (.int (v / 8)) (.int ((spw t).length : Int)) = some (.fz, dn a) := by rw [opD_mod (by omega), ea]
  have mp : opD .Mod (.int (v / 8)) (.int ((t.length : Int) + 1)) = some (.fz, dn pl) := by rw [opD_mod (by omega), ep]
  have mk : opD .Mod (.int v) (.int 8) = some (.fz, .int (v % 8)) := opD_mod (by decide)
  have ls := len_s (x := t) (by omega)
  rw [evSS_nx (asg_fz (d := dn a) (by
    simp only [ev_bin, ev_b1, ev_var, ev_cst, vt_1, List.set_cons_succ, List.set_cons_zero, List.getElem?_cons_zero, List.getElem?_cons_succ, Option.bind_some, d8, wsD, b1_len_l, List.length_map, ma]))]
  rw [evSS_nx (asg_fz (d := dn pl) (by
    simp only [ev_bin, ev_b1, ev_var, ev_cst, vt_1, List.set_cons_succ, List.set_cons_zero, List.getElem?_cons_zero, List.getElem?_cons_succ, Option.bind_some, d8, ls, opD_add_i, mp]))]
  rw [evSS_nx (asg_fz (d := .int (v % 8)) (by
    simp only [ev_bin, ev_b1, ev_var, ev_cst, vt_1, List.set_cons_succ, List.set_cons_zero, List.getElem?_cons_zero, List.getElem?_cons_succ, Option.bind_some, mk]))]
  simp only [List.set_cons_succ, List.set_cons_zero]
  show ∃ t', left (evSS p _ (CE t v a pl (v % 8) none none none)) = _ ∧ _
  have kd0 : 0 ≤ v % 8 ∧ v % 8 < 8 := by omega
  generalize v % 8 = kd at kd0
  have hs : ∀ x y, (Txt.slice t x y).length ≤ t.length := fun x y => Txt.slice_le t x y
  have vp : (evO p (.so (.var 4)) (CE t v a pl kd none none none)).1 = some (some (pl : Int)) := rfl
  by_cases k0 : kd = 0
  · rw [evSS_rt (d := .str (Txt.slice t none (some (pl : Int)) ++ Txt.slice t (some ((pl : Int) + 1)) none)) (by
      rw [ifs_yes (by simp [CE, k0])]
      exact ret_ev (adds_ev (slt_ev rfl (by omega) rfl rfl) (slt_ev rfl (by omega) rfl rfl) (by
        have := hs none (some (pl : Int))
        have := hs (some ((pl : Int) + 1)) none
        omega)))]
    refine ⟨_, rfl, ?_, asc_app (asc_slice ha _ _) (asc_slice ha _ _)⟩
    have := hs none (some (pl : Int))
    have := hs (some ((pl : Int) + 1)) none
    rw [app_len]
    omega
  rw [evSS_nx (ifs_no0 (by simp [CE, k0]))]
  by_cases k1 : kd < 3
  · obtain ⟨j, ej, hj⟩ : ∃ j : Nat, v / 7 % 19 = (j : Int) ∧ j < 19 := ⟨(v / 7 % 19).toNat, by omega, by omega⟩
    have d7 : opD .FloorDiv (.int v) (.int 7) = some (.fz, .int (v / 7)) := opD_div (by decide) (by decide)
    have m19 : opD .Mod (.int (v / 7)) (.int 19) = some (.fz, dn j) := by rw [opD_mod (by decide), ej]
    obtain ⟨c, ec, hc⟩ : ∃ c, (sg " 0123456789lin-+_\n\t")[j]? = some c ∧ c < 0x110000 := by
      have : ∀ j < 19, ∃ c, (sg " 0123456789lin-+_\n\t")[j]? = some c ∧ c < 0x110000 := by
        have e : sg " 0123456789lin-+_\n\t" = [32, 48, 49, 50, 51, 52, 53, 54, 55, 56, 57, 108, 105, 110, 45, 43, 95, 10, 9] := by decide
        rw [e]
        intro j hj
        have hl : j < [32, 48, 49, 50, 51, 52, 53, 54, 55, 56, 57, 108, 105, 110, 45, 43, 95, 10, 9].length := hj
        refine ⟨_, List.getElem?_eq_getElem hl, ?_⟩
        have hm := List.getElem_mem hl
        have : ∀ c ∈ [32, 48, 49, 50, 51, 52, 53, 54, 55, 56, 57, 108, 105, 110, 45, 43, 95, 10, 9], c < 0x110000 := by decide
        exact this _ hm
      exact this j hj
    have tx : tixD (.str " 0123456789lin-+_\n\t") (dn j) = some (.fz, .str ⟨#[c]⟩) := by
      show (if (" 0123456789lin-+_\n\t" : Str).length ≤ lim then (atI (sg " 0123456789lin-+_\n\t") (j : Int)).map _ else none) = _
      rw [if_pos (by decide), atI_nat, ec]
      rfl
    have ascc : Asc ⟨#[c]⟩ := fun e he => by
      have : e = c := by simpa [sg] using he
      rw [this]
      exact hc
    have lc : (⟨#[c]⟩ : Str).length = 1 := rfl
    have h1 := hs none (some (pl : Int))
    have h2 := hs (some ((pl : Int) + kd - 1)) none
    rw [evSS_rt (d := .str (Txt.slice t none (some (pl : Int)) ++ ⟨#[c]⟩ ++ Txt.slice t (some ((pl : Int) + kd - 1)) none)) (by
      rw [ifs_yes (by simp [CE, k1])]
      rw [evSS_nx (asg_fz (d := .str ⟨#[c]⟩) (by
        simp only [ev_tix, ev_bin, ev_var, ev_cst, vt_1, CE, List.getElem?_cons_zero, List.getElem?_cons_succ, Option.bind_some, d7, m19, tx]))]
      exact ret_ev (adds_ev (adds_ev (slt_ev rfl (by omega) rfl rfl) rfl (by omega)) (slt_ev rfl (by omega) rfl rfl) (by
        rw [app_len]
        omega)))]
    refine ⟨_, rfl, ?_, asc_app (asc_app (asc_slice ha _ _) ascc) (asc_slice ha _ _)⟩
    rw [app_len, app_len]
    omega
  rw [evSS_nx (ifs_no0 (by simp [CE, k1]))]
  have ct := cut_to (spw t) a
  have asc2 : ∀ {l m : List Str}, (∀ x ∈ l, Asc x) → (∀ x ∈ m, Asc x) → ∀ x ∈ l ++ m, Asc x := fun h h' x hx => (List.mem_append.mp hx).elim (h x) (h' x)
  by_cases k3 : kd = 3
  · have w : wt (cut (spw t) none (some (a : Int)) ++ cut (spw t) (some ((a : Int) + 1)) none) ≤ 3 * t.length + 40 := by
      rw [wt_app]
      have := cutwt none (some (a : Int))
      have := cutwt (some ((a : Int) + 1)) none
      omega
    rw [evSS_rt (by
      rw [ifs_yes (by simp [CE, k3])]
      exact ret_ev (join_ev (addl_ev (slw_ev rfl rfl rfl) (slw_ev rfl rfl rfl) (by omega)) (by omega)))]
    exact fin _ w (asc2 (cutasc _ _) (cutasc _ _))
  rw [evSS_nx (ifs_no0 (by simp [CE, k3]))]
  by_cases k4 : kd = 4
  · have w1 : wt (cut (spw t) none (some (a : Int)) ++ cut (spw t) (some (a : Int)) (some ((a : Int) + 1))) ≤ 2 * t.length + 2 := by
      rw [wt_app]
      have := cutwt none (some (a : Int))
      have := cutwt (some (a : Int)) (some ((a : Int) + 1))
      omega
    have w : wt (cut (spw t) none (some (a : Int)) ++ cut (spw t) (some (a : Int)) (some ((a : Int) + 1)) ++ cut (spw t) (some (a : Int)) none) ≤ 3 * t.length + 40 := by
      rw [wt_app]
      have := cutwt (some (a : Int)) none
      omega
    rw [evSS_rt (by
      rw [ifs_yes (by simp [CE, k4])]
      exact ret_ev (join_ev (addl_ev (addl_ev (slw_ev rfl rfl rfl) (slw_ev rfl rfl rfl) (by omega)) (slw_ev rfl rfl rfl) (by omega)) (by omega)))]
    exact fin _ w (asc2 (asc2 (cutasc _ _) (cutasc _ _)) (cutasc _ _))
  rw [evSS_nx (ifs_no0 (by simp [CE, k4]))]
  by_cases k5 : kd = 5
  · have wm : wt (cut (spw t) (some ((a : Int) + 1)) (some ((a : Int) + 2)) ++ cut (spw t) (some (a : Int)) (some ((a : Int) + 1))) ≤ 2 * t.length + 2 := by
      rw [wt_app]
      have := cutwt (some ((a : Int) + 1)) (some ((a : Int) + 2))
      have := cutwt (some (a : Int)) (some ((a : Int) + 1))
      omega
    have we : wt (cut (spw t) none (some (a : Int))) + wt (cut (spw t) (some ((a : Int) + 2)) none) ≤ t.length + 1 := by
      rw [show ((a : Int) + 2) = ((a + 2 : Nat) : Int) by omega, cut_to, cut_from]
      exact Nat.le_trans (wt_ends _ (by omega)) hW
    have w : wt (cut (spw t) none (some (a : Int)) ++ (cut (spw t) (some ((a : Int) + 1)) (some ((a : Int) + 2)) ++ cut (spw t) (some (a : Int)) (some ((a : Int) + 1))) ++ cut (spw t) (some ((a : Int) + 2)) none) ≤ 3 * t.length + 40 := by
      rw [wt_app, wt_app]
      omega
    rw [evSS_rt (by
      rw [ifs_yes (by simp [CE, k5])]
      rw [evSS_nx (asg_fr (addl_ev (slw_ev rfl rfl rfl) (slw_ev rfl rfl rfl) (by omega)))]
      exact ret_ev (join_ev (addl_ev (addl_ev (slw_ev rfl rfl rfl) rfl (by rw [wt_app] at w ⊢; omega)) (slw_ev rfl rfl rfl) (by omega)) (by omega)))]
    exact fin _ w (asc2 (asc2 (cutasc _ _) (asc2 (cutasc _ _) (cutasc _ _))) (cutasc _ _))
  rw [evSS_nx (ifs_no0 (by simp [CE, k5]))]
  have so : spw "spots line 0 1 2 3 7 8 1000 1001 00 -1" = some12 := spw_of (by decide) (by decide) (by decide)
  have ts := tm_split (z := "spots line 0 1 2 3 7 8 1000 1001 00 -1") (by decide)
  rw [so] at ts
  obtain ⟨j, ej, hj⟩ : ∃ j : Nat, v / 7 % 12 = (j : Int) ∧ j < 12 := ⟨(v / 7 % 12).toNat, by omega, by omega⟩
  have d7 : opD .FloorDiv (.int v) (.int 7) = some (.fz, .int (v / 7)) := opD_div (by decide) (by decide)
  have m12 : opD .Mod (.int (v / 7)) (.int 12) = some (.fz, dn j) := by rw [opD_mod (by decide), ej]
  obtain ⟨w, ew, hw⟩ : ∃ w : Str, (some12.map D.str)[j]? = some (.str w) ∧ w.length ≤ 5 ∧ Asc w := by
    have hl : j < some12.length := hj
    have hm := List.getElem_mem hl
    have : ∀ w ∈ some12, w.length ≤ 5 ∧ ∀ c ∈ sg w, c < 0x110000 := by decide
    exact ⟨_, by rw [List.getElem?_map, List.getElem?_eq_getElem hl]; rfl, this _ hm⟩
  rw [evSS_nx (asg_fr (d := .lst (some12.map D.str)) (by
    simp only [ev_tm, ev_cst, vt_1, Option.bind_some, ts]))]
  have el : (ev p (.ls (slice [(.ix (.var 8) (.bin .Mod (.bin .FloorDiv (.var 1) (.cst (.int 7))) (.cst (.int 12))))])) ((CE t v a pl kd none none none).set 8 (some (.val (.lst (some12.map D.str)))))).1 = some (.fr, .lst ([w].map D.str)) := by
    simp only [CE, List.set_cons_succ, List.set_cons_zero, ev_ls, ev_ix, ev_bin, ev_var, ev_cst, slice_cons, slice_nil, evA_cons, evA_nil, vt_1, List.getElem?_cons_zero, List.getElem?_cons_succ, Option.bind_some, d7, m12, seq_l, atI_nat, ew, Option.map_some, frz_fz]
    rfl
  have w1 : wt (cut (spw t) none (some (a : Int)) ++ [w]) ≤ t.length + 10 := by
    rw [wt_app]
    have := cutwt none (some (a : Int))
    have : wt [w] = w.length + 1 := by simp [wt]
    omega
  have w2 : wt (cut (spw t) none (some (a : Int)) ++ [w] ++ cut (spw t) (some ((a : Int) + 1)) none) ≤ 3 * t.length + 40 := by
    rw [wt_app]
    have := cutwt (some ((a : Int) + 1)) none
    omega
  rw [ret_ev (join_ev (addl_ev (addl_ev (slw_ev rfl rfl rfl) el (by omega)) (slw_ev rfl rfl rfl) (by omega)) (by omega))]
  exact fin _ w2 (asc2 (asc2 (cutasc _ _) (fun x hx => by
    rw [List.mem_singleton.mp hx]
    exact hw.2)) (cutasc _ _))
theorem cell (k : Nat) {a : Addr} {ns : List Int} (h : ns.length ≤ 63) {j : Int} (hj : 0 ≤ j) : pf K bs (k + 1) 0 [.scr K a ns, .int j] = some (.int (ns.getD j.toNat 0)) := by
  show cellD K [.scr K a ns, .int j] = _
  unfold cellD
  simp [h, hj]
theorem mixed (k : Nat) {a : Addr} {ns : List Int} (h : ns.length ≤ 63) {j : Int} (hj : 0 ≤ j) : pf K bs (k + 2) 10 [.scr K a ns, .int j] = some (.int (mixV (ns.getD j.toNat 0) j)) := mixed_ev (pf K bs (k + 1)) (i0 := 0) (cell K k h hj)
theorem drawn' (k : Nat) (n j : Int) : pf K bs (k + 1) 11 [.int n, .int j] = some (.int (drawn n j)) := drawn_ev (pf K bs k) n j
theorem ground (k : Nat) {n : Int} (hn : 0 ≤ n) : ∃ m ls, pf K bs (k + 2) 13 [.int n, .int 7, .int 12] = some (groundD m ls) ∧ 0 < m ∧ m ≤ 7 ∧ ls.length ≤ 12 ∧ ∀ l ∈ ls, lOk m l := by
  obtain ⟨m, ls, h1, h2, h3, h4, h5⟩ := ground_ev (pf K bs (k + 1)) (iD := 11) (drawn' K k) (L := 12) hn (by omega)
  exact ⟨m, ls, h1, h2, h3, by omega, h5⟩
theorem tst_asc {m : Nat} (hm : m ≤ 7) : ∀ (ls : List (Nat × Nat × Nat)), (∀ l ∈ ls, lOk m l) → Asc (ls.foldl tst ("spots " ++ sN m)) := by
  intro ls hi
  rw [wof_text]
  refine asc_join fun x hx => ?_
  have nf : ∀ n, n ≤ 1000 → Asc (sN n) := fun n hn c hc => by
    have := isN_dig (sN_is n (by omega)) c hc
    omega
  rcases List.mem_cons.mp hx with rfl | hx
  · unfold Asc; decide
  rcases List.mem_cons.mp hx with rfl | hx
  · exact nf _ (by omega)
  obtain ⟨l, hl, hx⟩ := List.mem_flatMap.mp hx
  obtain ⟨h1, h2, h3⟩ := hi l hl
  simp only [List.mem_cons, List.not_mem_nil, or_false] at hx
  rcases hx with rfl | rfl | rfl | rfl
  · unfold Asc; decide
  · exact nf _ (by omega)
  · exact nf _ (by omega)
  · exact nf _ (by omega)
theorem tst_all {m : Nat} (hm : m ≤ 7) : ∀ (ls : List (Nat × Nat × Nat)) (t : Str), (∀ l ∈ ls, lOk m l) → (ls.foldl tst t).length ≤ t.length + 20 * ls.length
  | [], t, _ => by simp
  | l :: ls, t, h => by
    have h1 := tst_len (t := t) hm (h l List.mem_cons_self)
    have h2 := tst_all hm ls (tst t l) fun x hx => h x (List.mem_cons_of_mem _ hx)
    rw [List.foldl_cons, List.length_cons]
    omega
noncomputable def LE (s : D) (g n t k f : Option Sl) : En := [some (.val s), g, n, t, k, f, none, none, none, none, none, none, none, none, none]
noncomputable def b20i : S := .ifs (.an (.cmp .Eq (.bin .Mod (.bin .FloorDiv (.var 2) (.cst (.int 3))) (.cst (.int 8))) (.cst (.int 5))) (.cmp .NotEq (.ix (.var 1) (.cst (.int 1))) (.tp (slice [])))) (block [.asg false 1 (.tp (slice [(.ix (.var 1) (.cst (.int 0))), (.sl (.bin .Mult (.ix (.var 1) (.cst (.int 1))) (.cst (.int 23))) .no (.so (.bin .Add (.cst (.int 20)) (.bin .Mod (.bin .FloorDiv (.var 2) (.cst (.int 24))) (.cst (.int 4))))))]))]) (block [])
noncomputable def b20b : SS := block [.asg false 3 (.call 16 (slice [(.var 3), (.call 11 (slice [(.var 2), (.var 4)]))]))]
noncomputable def b20f : S := .fr (.one 4) (.r1 (.bin .Mult (.bin .Mod (.var 2) (.cst (.int 3))) (.bin .Add (.cst (.int 1)) (.bin .Mod (.bin .FloorDiv (.var 2) (.cst (.int 96))) (.cst (.int 2)))))) b20b
theorem b20_eq : b20 = .cons (.asg false 1 (.call 13 (slice [(.call 10 (slice [(.var 0), (.cst (.int 0))])), (.cst (.int 7)), (.cst (.int 12))]))) (.cons (.asg false 2 (.call 10 (slice [(.var 0), (.cst (.int 1))]))) (.cons b20i (.cons (.asg false 3 (.call 15 (slice [(.var 1)]))) (.cons b20f (.cons (.asg false 5 (.call 19 (slice [(.var 3)]))) (.cons (.ret (.an (.cmp .Eq (.var 5) (.call 18 (slice [(.var 3)]))) (.orr (.cmp .Is (.var 5) (.cst .non)) (.call 14 (slice [(.var 5)]))))) .nil)))))) := rfl
theorem lmap_ok {m : Nat} (ls : List (Nat × Nat × Nat)) : okD 40 (.tup (ls.map lineD)) = true := okDs_of fun d hd => by
  obtain ⟨l, _, rfl⟩ := List.mem_map.mp hd
  rfl
theorem more_ev (p : Nat → List D → Option D) {s : D} {v : Int} (hv : 0 ≤ v) {m : Nat} {ls : List (Nat × Nat × Nat)} (hL : ls.length ≤ 12) (hi : ∀ l ∈ ls, lOk m l) :
    ∃ ls', evS p b20i (LE s (some (.val (groundD m ls))) (some (.val (.int v))) none none none) = some (.nx (LE s (some (.val (groundD m ls'))) (some (.val (.int v))) none none none)) ∧ ls'.length ≤ 23 ∧ ∀ l ∈ ls', lOk m l := by
  have d3 : opD .FloorDiv (.int v) (.int 3) = some (.fz, .int (v / 3)) := opD_div (by decide) (by decide)
  have m8 : opD .Mod (.int (v / 3)) (.int 8) = some (.fz, .int (v / 3 % 8)) := opD_mod (by decide)
  by_cases c : v / 3 % 8 = 5
  · by_cases e : ls = []
    · subst e
      refine ⟨[], ?_, by simp, hi⟩
      have : cmpD .NotEq (.tup []) (.tup []) = some false := by decide
      exact ifs_no (by simp [LE, groundD, d3, m8, c, this])
    · have hp : 0 < ls.length := by
        cases ls with
        | nil => exact absurd rfl e
        | cons a b => simp
      have ne : cmpD .NotEq (.tup (ls.map lineD)) (.tup []) = some true := by
        show (if (okD 40 (.tup (ls.map lineD)) && okD 40 (.tup [])) = true then some (eqD (.tup (ls.map lineD)) (.tup [])) else none).map _ = _
        rw [lmap_ok (m := m) ls]
        cases ls with
        | nil => exact absurd rfl e
        | cons a b => rfl
      have d24 : opD .FloorDiv (.int v) (.int 24) = some (.fz, .int (v / 24)) := opD_div (by decide) (by decide)
      have m4 : opD .Mod (.int (v / 24)) (.int 4) = some (.fz, .int (v / 24 % 4)) := opD_mod (by decide)
      have mu : opD .Mult (.tup (ls.map lineD)) (.int 23) = some (.fz, .tup (((List.replicate 23 ls).flatten).map lineD)) := by
        have hl : (ls.map lineD).length ≤ 12 := by simpa using hL
        have hl' : 0 < (ls.map lineD).length := by simpa using hp
        show (if 2 ≤ (23 : Int) ∧ 0 < (ls.map lineD).length ∧ (ls.map lineD).length * 23 ≤ lim ∧ (23 : Int).natAbs ≤ lim then some (Kd.fz, D.tup (catRep (ls.map lineD) 23)) else none) = _
        rw [if_pos ⟨by decide, hl', by show (ls.map lineD).length * 23 ≤ 65536; omega, by decide⟩]
        congr 3
        unfold catRep
        rw [List.map_flatten, List.map_replicate]
      obtain ⟨q, eq, hq⟩ : ∃ q : Nat, 20 + v / 24 % 4 = (q : Int) ∧ q ≤ 23 := ⟨(20 + v / 24 % 4).toNat, by omega, by omega⟩
      refine ⟨((List.replicate 23 ls).flatten).take q, ?_, by rw [List.length_take]; omega, fun l hl => ?_⟩
      · unfold b20i
        rw [ifs_yes (by simp [LE, groundD, d3, m8, c, ne])]
        show evSS p (.cons _ .nil) _ = _
        rw [evSS_nx (asg_fz (d := groundD m (((List.replicate 23 ls).flatten).take q)) (by
          simp only [LE, groundD, ev_tp, ev_sl, ev_ix, ev_bin, ev_var, ev_cst, evO_no, evO_so, slice_cons, slice_nil, evA_cons, evA_nil, vt_1, List.getElem?_cons_zero, List.getElem?_cons_succ, Option.bind_some, Option.map_some, frz_fz, seq_t, atI_0, atI_1, mu, d24, m4, opD_add_i, eq, cut_to, List.map_take]
          rfl))]
        rfl
      · obtain ⟨l', h1, h2⟩ := List.mem_flatten.mp (List.mem_of_mem_take hl)
        rw [List.eq_of_mem_replicate h1] at h2
        exact hi l h2
  · exact ⟨ls, ifs_no (by simp [LE, d3, m8, c]), by omega, hi⟩
theorem law {a : Addr} {ns : List Int} (h : ns.length ≤ 63) : pf K bs 40 20 [.scr K a ns] = some (.bl true) := by
  have mx : ∀ j : Nat, ∃ v : Int, pf K bs 39 10 [.scr K a ns, .int (j : Int)] = some (.int v) ∧ 0 ≤ v := fun j => ⟨_, mixed K 37 h (by omega), (mixV_nonneg _ _).1⟩
  obtain ⟨v0, mx0, n0⟩ := mx 0
  obtain ⟨v1, mx1, n1⟩ := mx 1
  have mx0 : pf K bs 39 10 [.scr K a ns, .int 0] = some (.int v0) := mx0
  have mx1 : pf K bs 39 10 [.scr K a ns, .int 1] = some (.int v1) := mx1
  obtain ⟨m, ls, eg, hm0, hm, hL, hi⟩ := ground K 37 n0
  obtain ⟨ls', e3, hL', hi'⟩ := more_ev (pf K bs 39) (s := .scr K a ns) n1 hL hi
  show left (evSS (pf K bs 39) b20 (LE (.scr K a ns) none none none none none)) = _
  rw [b20_eq]
  rw [evSS_nx (asg_fz (d := groundD m ls) (by simp [LE, mx0, eg]))]
  show left (evSS (pf K bs 39) _ (LE (.scr K a ns) (some (.val (groundD m ls))) none none none none)) = _
  rw [evSS_nx (asg_fz (d := .int v1) (by simp [LE, mx1]))]
  show left (evSS (pf K bs 39) _ (LE (.scr K a ns) (some (.val (groundD m ls))) (some (.val (.int v1))) none none none)) = _
  rw [evSS_nx e3]
  have lw : pf K bs 39 15 [groundD m ls'] = some (.str (ls'.foldl tst ("spots " ++ sN m))) := lwritten_ev0 (pf K bs 38) hm (by omega) hi'
  have ta := tst_asc hm ls' hi'
  have tl : (ls'.foldl tst ("spots " ++ sN m)).length ≤ 470 := by
    have h1 := tst_all hm ls' ("spots " ++ sN m) hi'
    have h2 := sN_len m (by omega)
    have h3 : ("spots " : Str).length = 6 := by decide
    rw [app_len] at h1
    omega
  generalize ls'.foldl tst ("spots " ++ sN m) = t0 at lw ta tl
  rw [evSS_nx (asg_fz (d := .str t0) (by simp [LE, lw]))]
  show left (evSS (pf K bs 39) _ (LE (.scr K a ns) (some (.val (groundD m ls'))) (some (.val (.int v1))) (some (.val (.str t0))) none none)) = _
  have m3 : opD .Mod (.int v1) (.int 3) = some (.fz, .int (v1 % 3)) := opD_mod (by decide)
  have d96 : opD .FloorDiv (.int v1) (.int 96) = some (.fz, .int (v1 / 96)) := opD_div (by decide) (by decide)
  have m2 : opD .Mod (.int (v1 / 96)) (.int 2) = some (.fz, .int (v1 / 96 % 2)) := opD_mod (by decide)
  have mu : opD .Mult (.int (v1 % 3)) (.int (1 + v1 / 96 % 2)) = some (.fz, .int (v1 % 3 * (1 + v1 / 96 % 2))) := opD_mul_l (by omega) (by omega)
  obtain ⟨n, en, hn⟩ : ∃ n : Nat, v1 % 3 * (1 + v1 / 96 % 2) = (n : Int) ∧ n ≤ 4 := by
    rcases (by omega : v1 / 96 % 2 = 0 ∨ v1 / 96 % 2 = 1) with z | z <;> rw [z]
    · exact ⟨(v1 % 3).toNat, by omega, by omega⟩
    · exact ⟨(v1 % 3 * 2).toNat, by omega, by omega⟩
  rw [en] at mu
  obtain ⟨r', e4, t, x4, rfl, tb, tasc⟩ := for_foldi (p := pf K bs 39) (tg := .one 4) (it := .r1 (.bin .Mult (.bin .Mod (.var 2) (.cst (.int 3))) (.bin .Add (.cst (.int 1)) (.bin .Mod (.bin .FloorDiv (.var 2) (.cst (.int 96))) (.cst (.int 2)))))) (b := b20b) (em := dn) (k := .fz) (xs := List.range n) (s := ())
    (r := LE (.scr K a ns) (some (.val (groundD m ls'))) (some (.val (.int v1))) (some (.val (.str t0))) none none)
    (fun i _ r => ∃ t x4, r = LE (.scr K a ns) (some (.val (groundD m ls'))) (some (.val (.int v1))) (some (.val (.str t))) x4 none ∧ (t.length + 20 ≤ 490 * 3 ^ i) ∧ Asc t) (fun _ _ => ())
    (by
      have : rngOk (n : Int) = true := rngOk_nat (by omega)
      simp [LE, m3, d96, m2, mu, this, rngD_0]) (by decide) ⟨t0, none, rfl, by omega, ta⟩ (by
      rintro i _ x r hx ⟨t, x4, rfl, tb, tasc⟩
      have hi4 : i < 4 := by
        have := (List.getElem?_eq_some_iff.mp hx).1
        rw [List.length_range] at this
        omega
      have p3 : 490 * 3 ^ i ≤ 13230 := by
        have : ∀ i < 4, 490 * 3 ^ i ≤ 13230 := by decide
        exact this i hi4
      have ed := drawn' K 38 v1 (x : Int)
      obtain ⟨t', e1, l1, a1⟩ := changed_ev (pf K bs 38) (t := t) (v := drawn v1 (x : Int)) (drawn_nonneg _ _).1 (by omega) tasc
      have e1 : pf K bs 39 16 [.str t, .int (drawn v1 (x : Int))] = some (.str t') := e1
      refine ⟨_, _, rfl, ?_, t', some (.val (dn x)), rfl, by rw [Nat.pow_succ]; omega, a1⟩
      show evSS (pf K bs 39) (.cons _ .nil) (LE (.scr K a ns) (some (.val (groundD m ls'))) (some (.val (.int v1))) (some (.val (.str t))) (some (.val (dn x))) none) = _
      rw [evSS_nx (asg_fz (d := .str t') (by simp [LE, ed, e1]))]
      rfl)
  have e4 : evS (pf K bs 39) b20f (LE (.scr K a ns) (some (.val (groundD m ls'))) (some (.val (.int v1))) (some (.val (.str t0))) none none) = _ := e4
  rw [evSS_nx e4]
  have tb' : t.length ≤ 65534 := by
    rw [List.length_range] at tb
    have : ∀ i < 5, 490 * 3 ^ i ≤ 39690 := by decide
    have := this n (by omega)
    omega
  obtain ⟨d, f19, f18, ok, okd, hd⟩ := both K 33 tb' tasc
  have f19 : pf K bs 39 19 [.str t] = some d := f19
  have f18 : pf K bs 39 18 [.str t] = some d := f18
  rw [evSS_nx (asg_fz (d := d) (by simp [LE, f19]))]
  have eq := cmpeq_refl ok
  have lg := lisg K 37 d okd
  rw [evSS_rt (d := .bl true)]
  · rfl
  · rcases hd with rfl | hg
    · simp [LE, f18, eq]
      rfl
    · rw [hg] at lg
      have nn : cmpD .Is d .non = some false := by
        cases d with
        | non => cases hg
        | _ => rfl
      simp [LE, f18, eq, nn, lg]
end K03
end
set_option Elab.async false
set_option linter.all false
set_option maxRecDepth 100000
set_option maxHeartbeats 4000000
namespace K03
open PySem PySem.Spec PyProof.Rows L2 TW
noncomputable def top (i : Nat) : Stmt := PySem.Challenge.pw_twighall_k03_whole_read.main.body.getD i (.Pass ⟨0, 0, 0, 0⟩)
noncomputable def d0 : DefT := ⟨"_law_cell_at", top 21, b0⟩
noncomputable def d1 : DefT := ⟨"is_whole", top 9, b1⟩
noncomputable def d2 : DefT := ⟨"is_tuple_of", top 10, b2⟩
noncomputable def d3 : DefT := ⟨"is_pair", top 11, b3⟩
noncomputable def d4 : DefT := ⟨"is_line", top 12, b4⟩
noncomputable def d5 : DefT := ⟨"is_ground", top 13, b5⟩
noncomputable def d6 : DefT := ⟨"read", top 16, b6⟩
noncomputable def d7 : DefT := ⟨"line_of", top 17, b7⟩
noncomputable def d8 : DefT := ⟨"number_of", top 18, b8⟩
noncomputable def d9 : DefT := ⟨"is_number", top 19, b9⟩
noncomputable def d10 : DefT := ⟨"_law_mixed", top 22, b10⟩
noncomputable def d11 : DefT := ⟨"_law_drawn", top 23, b11⟩
noncomputable def d12 : DefT := ⟨"_law_number", top 24, b12⟩
noncomputable def d13 : DefT := ⟨"_law_ground", top 25, b13⟩
noncomputable def d14 : DefT := ⟨"_law_is_ground", top 26, b14⟩
noncomputable def d15 : DefT := ⟨"_law_written", top 27, b15⟩
noncomputable def d16 : DefT := ⟨"_law_changed", top 28, b16⟩
noncomputable def d17 : DefT := ⟨"_law_number_of", top 29, b17⟩
noncomputable def d18 : DefT := ⟨"_law_due", top 30, b18⟩
noncomputable def d19 : DefT := ⟨"_law_found", top 31, b19⟩
noncomputable def d20 : DefT := ⟨"law", top 32, b20⟩
noncomputable def ds : List DefT := [d0, d1, d2, d3, d4, d5, d6, d7, d8, d9, d10, d11, d12, d13, d14, d15, d16, d17, d18, d19, d20]
noncomputable def T : Tab := ⟨[("_law_cell_at", 2), ("is_whole", 3), ("is_tuple_of", 2), ("is_pair", 2), ("is_line", 2), ("is_ground", 1), ("read", 1), ("line_of", 1), ("number_of", 1), ("is_number", 1), ("_law_mixed", 2), ("_law_drawn", 2), ("_law_number", 3), ("_law_ground", 3), ("_law_is_ground", 1), ("_law_written", 1), ("_law_changed", 2), ("_law_number_of", 2), ("_law_due", 1), ("_law_found", 1), ("law", 1)], [("MOST_SPOTS", .int 7), ("MOST_LINES", .int 21), ("MOST_LENGTH", .int 1000), ("FIGURES", .str "0123456789")]⟩
theorem hT : T.fns = ds.map fun d => (d.name, d.ps.length) := by decide +kernel
noncomputable def ex : List (Nat × SS) := [(4, b21), (3, b22), (10, b23)]
noncomputable def sp (i : Nat) : Bool := i == 19
theorem hbs : ds.map DefT.sb ++ ex = bs := rfl
theorem ok1 : d1.ok T = true := by decide +kernel
theorem ok2 : d2.ok T = true := by decide +kernel
theorem ok3 : d3.ok T = true := by decide +kernel
theorem ok4 : d4.ok T = true := by decide +kernel
theorem ok5 : d5.ok T = true := by decide +kernel
theorem ok6 : d6.ok T = true := by decide +kernel
theorem ok7 : d7.ok T = true := by decide +kernel
theorem ok8 : d8.ok T = true := by decide +kernel
theorem ok9 : d9.ok T = true := by decide +kernel
theorem ok10 : d10.ok T = true := by decide +kernel
theorem ok11 : d11.ok T = true := by decide +kernel
theorem ok12 : d12.ok T = true := by decide +kernel
theorem ok13 : d13.ok T = true := by decide +kernel
theorem ok14 : d14.ok T = true := by decide +kernel
theorem ok15 : d15.ok T = true := by decide +kernel
theorem ok16 : d16.ok T = true := by decide +kernel
theorem ok17 : d17.ok T = true := by decide +kernel
theorem ok18 : d18.ok T = true := by decide +kernel
theorem ok20 : d20.ok T = true := by decide +kernel
theorem hok : ∀ i d, ds[i]? = some d → i ≠ 0 → sp i = false → d.ok T = true := by
  intro i d h hi hs
  match i, h, hs with
  | 0, h, _ => exact absurd rfl hi
  | 1, h, _ => cases h; exact ok1
  | 2, h, _ => cases h; exact ok2
  | 3, h, _ => cases h; exact ok3
  | 4, h, _ => cases h; exact ok4
  | 5, h, _ => cases h; exact ok5
  | 6, h, _ => cases h; exact ok6
  | 7, h, _ => cases h; exact ok7
  | 8, h, _ => cases h; exact ok8
  | 9, h, _ => cases h; exact ok9
  | 10, h, _ => cases h; exact ok10
  | 11, h, _ => cases h; exact ok11
  | 12, h, _ => cases h; exact ok12
  | 13, h, _ => cases h; exact ok13
  | 14, h, _ => cases h; exact ok14
  | 15, h, _ => cases h; exact ok15
  | 16, h, _ => cases h; exact ok16
  | 17, h, _ => cases h; exact ok17
  | 18, h, _ => cases h; exact ok18
  | 19, h, hs => cases hs
  | 20, h, _ => cases h; exact ok20
  | _ + 21, h, _ => cases h
open PySem.W (codeIn excIn exmOne findIn fnOf keepIn kitOne mg_none_of mg_of mroIn nsIn specialIn takesIn)
theorem all_mk {l : PySem.W.OpenLaw} {w : World} {K : PySem.W.Frag} {h : Heap} {mg : Str → Option Value} {fa : Addr} (X : K.In h) (G : h.Ns mainGlobals mg) (hfa : mg "law" = some (.ref fa))
    {f0 f1 f2 f3 f4 f5 f6 f7 f8 f9 f10 f11 f12 f13 f14 f15 f16 f17 f18 f19 f20 : Addr}
    {od0 an0 od1 an1 od2 an2 od3 an3 od4 an4 od5 an5 od6 an6 od7 an7 od8 an8 od9 an9 od10 an10 od11 an11 od12 an12 od13 an13 od14 an14 od15 an15 od16 an16 od17 an17 od18 an18 od19 an19 od20 an20 : Option Addr}
    {sl0 sl1 sl2 sl3 sl4 sl5 sl6 sl7 sl8 sl9 sl10 sl11 sl12 sl13 sl14 sl15 sl16 sl17 sl18 sl19 sl20 : Array (Option Value)}
    {oc0 kV0 dc0 pm0 cd0 ct0 oc1 kV1 dc1 pm1 cd1 ct1 oc2 kV2 dc2 pm2 cd2 ct2 oc3 kV3 dc3 pm3 cd3 ct3 oc4 kV4 dc4 pm4 cd4 ct4 oc5 kV5 dc5 pm5 cd5 ct5 oc6 kV6 dc6 pm6 cd6 ct6 oc7 kV7 dc7 pm7 cd7 ct7 oc8 kV8 dc8 pm8 cd8 ct8 oc9 kV9 dc9 pm9 cd9 ct9 oc10 kV10 dc10 pm10 cd10 ct10 oc11 kV11 dc11 pm11 cd11 ct11 oc12 kV12 dc12 pm12 cd12 ct12 oc13 kV13 dc13 pm13 cd13 ct13 oc14 kV14 dc14 pm14 cd14 ct14 oc15 kV15 dc15 pm15 cd15 ct15 oc16 kV16 dc16 pm16 cd16 ct16 oc17 kV17 dc17 pm17 cd17 ct17 oc18 kV18 dc18 pm18 cd18 ct18 oc19 kV19 dc19 pm19 cd19 ct19 oc20 kV20 dc20 pm20 cd20 ct20 : Value}
    {gt0 : Tok}
    {gt1 : Tok}
    {gt2 : Tok}
    {gt3 : Tok}
    {CG CT CX CR : Addr}
    (a0 : nsIn K mainGlobals "_law_cell_at" = some (some (.ref f0))) (l0 : K.lookup f0 = some ⟨oc0, od0, .func (fnOf "_law_cell_at" "_law_cell_at" (defArgs (top 21)) (defBody (top 21)) (defScope (top 21)) .none kV0 dc0 pm0 an0 cd0 ct0), sl0⟩) (c0 : codeIn K cd0 "_law_cell_at" = true) (k0 : keepIn K (.ref f0) = true)
    (a1 : nsIn K mainGlobals "is_whole" = some (some (.ref f1))) (l1 : K.lookup f1 = some ⟨oc1, od1, .func (fnOf "is_whole" "is_whole" (defArgs (top 9)) (defBody (top 9)) (defScope (top 9)) .none kV1 dc1 pm1 an1 cd1 ct1), sl1⟩) (c1 : codeIn K cd1 "is_whole" = true) (k1 : keepIn K (.ref f1) = true)
    (a2 : nsIn K mainGlobals "is_tuple_of" = some (some (.ref f2))) (l2 : K.lookup f2 = some ⟨oc2, od2, .func (fnOf "is_tuple_of" "is_tuple_of" (defArgs (top 10)) (defBody (top 10)) (defScope (top 10)) .none kV2 dc2 pm2 an2 cd2 ct2), sl2⟩) (c2 : codeIn K cd2 "is_tuple_of" = true) (k2 : keepIn K (.ref f2) = true)
    (a3 : nsIn K mainGlobals "is_pair" = some (some (.ref f3))) (l3 : K.lookup f3 = some ⟨oc3, od3, .func (fnOf "is_pair" "is_pair" (defArgs (top 11)) (defBody (top 11)) (defScope (top 11)) .none kV3 dc3 pm3 an3 cd3 ct3), sl3⟩) (c3 : codeIn K cd3 "is_pair" = true) (k3 : keepIn K (.ref f3) = true)
    (a4 : nsIn K mainGlobals "is_line" = some (some (.ref f4))) (l4 : K.lookup f4 = some ⟨oc4, od4, .func (fnOf "is_line" "is_line" (defArgs (top 12)) (defBody (top 12)) (defScope (top 12)) .none kV4 dc4 pm4 an4 cd4 ct4), sl4⟩) (c4 : codeIn K cd4 "is_line" = true) (k4 : keepIn K (.ref f4) = true)
    (a5 : nsIn K mainGlobals "is_ground" = some (some (.ref f5))) (l5 : K.lookup f5 = some ⟨oc5, od5, .func (fnOf "is_ground" "is_ground" (defArgs (top 13)) (defBody (top 13)) (defScope (top 13)) .none kV5 dc5 pm5 an5 cd5 ct5), sl5⟩) (c5 : codeIn K cd5 "is_ground" = true) (k5 : keepIn K (.ref f5) = true)
    (a6 : nsIn K mainGlobals "read" = some (some (.ref f6))) (l6 : K.lookup f6 = some ⟨oc6, od6, .func (fnOf "read" "read" (defArgs (top 16)) (defBody (top 16)) (defScope (top 16)) .none kV6 dc6 pm6 an6 cd6 ct6), sl6⟩) (c6 : codeIn K cd6 "read" = true) (k6 : keepIn K (.ref f6) = true)
    (a7 : nsIn K mainGlobals "line_of" = some (some (.ref f7))) (l7 : K.lookup f7 = some ⟨oc7, od7, .func (fnOf "line_of" "line_of" (defArgs (top 17)) (defBody (top 17)) (defScope (top 17)) .none kV7 dc7 pm7 an7 cd7 ct7), sl7⟩) (c7 : codeIn K cd7 "line_of" = true) (k7 : keepIn K (.ref f7) = true)
    (a8 : nsIn K mainGlobals "number_of" = some (some (.ref f8))) (l8 : K.lookup f8 = some ⟨oc8, od8, .func (fnOf "number_of" "number_of" (defArgs (top 18)) (defBody (top 18)) (defScope (top 18)) .none kV8 dc8 pm8 an8 cd8 ct8), sl8⟩) (c8 : codeIn K cd8 "number_of" = true) (k8 : keepIn K (.ref f8) = true)
    (a9 : nsIn K mainGlobals "is_number" = some (some (.ref f9))) (l9 : K.lookup f9 = some ⟨oc9, od9, .func (fnOf "is_number" "is_number" (defArgs (top 19)) (defBody (top 19)) (defScope (top 19)) .none kV9 dc9 pm9 an9 cd9 ct9), sl9⟩) (c9 : codeIn K cd9 "is_number" = true) (k9 : keepIn K (.ref f9) = true)
    (a10 : nsIn K mainGlobals "_law_mixed" = some (some (.ref f10))) (l10 : K.lookup f10 = some ⟨oc10, od10, .func (fnOf "_law_mixed" "_law_mixed" (defArgs (top 22)) (defBody (top 22)) (defScope (top 22)) .none kV10 dc10 pm10 an10 cd10 ct10), sl10⟩) (c10 : codeIn K cd10 "_law_mixed" = true) (k10 : keepIn K (.ref f10) = true)
    (a11 : nsIn K mainGlobals "_law_drawn" = some (some (.ref f11))) (l11 : K.lookup f11 = some ⟨oc11, od11, .func (fnOf "_law_drawn" "_law_drawn" (defArgs (top 23)) (defBody (top 23)) (defScope (top 23)) .none kV11 dc11 pm11 an11 cd11 ct11), sl11⟩) (c11 : codeIn K cd11 "_law_drawn" = true) (k11 : keepIn K (.ref f11) = true)
    (a12 : nsIn K mainGlobals "_law_number" = some (some (.ref f12))) (l12 : K.lookup f12 = some ⟨oc12, od12, .func (fnOf "_law_number" "_law_number" (defArgs (top 24)) (defBody (top 24)) (defScope (top 24)) .none kV12 dc12 pm12 an12 cd12 ct12), sl12⟩) (c12 : codeIn K cd12 "_law_number" = true) (k12 : keepIn K (.ref f12) = true)
    (a13 : nsIn K mainGlobals "_law_ground" = some (some (.ref f13))) (l13 : K.lookup f13 = some ⟨oc13, od13, .func (fnOf "_law_ground" "_law_ground" (defArgs (top 25)) (defBody (top 25)) (defScope (top 25)) .none kV13 dc13 pm13 an13 cd13 ct13), sl13⟩) (c13 : codeIn K cd13 "_law_ground" = true) (k13 : keepIn K (.ref f13) = true)
    (a14 : nsIn K mainGlobals "_law_is_ground" = some (some (.ref f14))) (l14 : K.lookup f14 = some ⟨oc14, od14, .func (fnOf "_law_is_ground" "_law_is_ground" (defArgs (top 26)) (defBody (top 26)) (defScope (top 26)) .none kV14 dc14 pm14 an14 cd14 ct14), sl14⟩) (c14 : codeIn K cd14 "_law_is_ground" = true) (k14 : keepIn K (.ref f14) = true)
    (a15 : nsIn K mainGlobals "_law_written" = some (some (.ref f15))) (l15 : K.lookup f15 = some ⟨oc15, od15, .func (fnOf "_law_written" "_law_written" (defArgs (top 27)) (defBody (top 27)) (defScope (top 27)) .none kV15 dc15 pm15 an15 cd15 ct15), sl15⟩) (c15 : codeIn K cd15 "_law_written" = true) (k15 : keepIn K (.ref f15) = true)
    (a16 : nsIn K mainGlobals "_law_changed" = some (some (.ref f16))) (l16 : K.lookup f16 = some ⟨oc16, od16, .func (fnOf "_law_changed" "_law_changed" (defArgs (top 28)) (defBody (top 28)) (defScope (top 28)) .none kV16 dc16 pm16 an16 cd16 ct16), sl16⟩) (c16 : codeIn K cd16 "_law_changed" = true) (k16 : keepIn K (.ref f16) = true)
    (a17 : nsIn K mainGlobals "_law_number_of" = some (some (.ref f17))) (l17 : K.lookup f17 = some ⟨oc17, od17, .func (fnOf "_law_number_of" "_law_number_of" (defArgs (top 29)) (defBody (top 29)) (defScope (top 29)) .none kV17 dc17 pm17 an17 cd17 ct17), sl17⟩) (c17 : codeIn K cd17 "_law_number_of" = true) (k17 : keepIn K (.ref f17) = true)
    (a18 : nsIn K mainGlobals "_law_due" = some (some (.ref f18))) (l18 : K.lookup f18 = some ⟨oc18, od18, .func (fnOf "_law_due" "_law_due" (defArgs (top 30)) (defBody (top 30)) (defScope (top 30)) .none kV18 dc18 pm18 an18 cd18 ct18), sl18⟩) (c18 : codeIn K cd18 "_law_due" = true) (k18 : keepIn K (.ref f18) = true)
    (a19 : nsIn K mainGlobals "_law_found" = some (some (.ref f19))) (l19 : K.lookup f19 = some ⟨oc19, od19, .func (fnOf "_law_found" "_law_found" (defArgs (top 31)) (defBody (top 31)) (defScope (top 31)) .none kV19 dc19 pm19 an19 cd19 ct19), sl19⟩) (c19 : codeIn K cd19 "_law_found" = true) (k19 : keepIn K (.ref f19) = true)
    (a20 : nsIn K mainGlobals "law" = some (some (.ref f20))) (l20 : K.lookup f20 = some ⟨oc20, od20, .func (fnOf "law" "law" (defArgs (top 32)) (defBody (top 32)) (defScope (top 32)) .none kV20 dc20 pm20 an20 cd20 ct20), sl20⟩) (c20 : codeIn K cd20 "law" = true) (k20 : keepIn K (.ref f20) = true)
    (z0 : nsIn K mainGlobals "len" = some none)
    (z1 : nsIn K mainGlobals "tuple" = some none)
    (z2 : nsIn K mainGlobals "list" = some none)
    (z3 : nsIn K mainGlobals "sorted" = some none)
    (z4 : nsIn K mainGlobals "str" = some none)
    (z5 : nsIn K mainGlobals "int" = some none)
    (z6 : nsIn K mainGlobals "sum" = some none)
    (z7 : nsIn K mainGlobals "all" = some none)
    (z8 : nsIn K mainGlobals "any" = some none)
    (z9 : nsIn K mainGlobals "min" = some none)
    (z10 : nsIn K mainGlobals "max" = some none)
    (z11 : nsIn K mainGlobals "bool" = some none)
    (z12 : nsIn K mainGlobals "dict" = some none)
    (z13 : nsIn K mainGlobals "isinstance" = some none)
    (z14 : nsIn K mainGlobals "range" = some none)
    (z15 : nsIn K mainGlobals "zip" = some none)
    (z16 : nsIn K mainGlobals "enumerate" = some none)
    (z17 : nsIn K mainGlobals "set" = some none)
    (glb0 : nsIn K mainGlobals "MOST_SPOTS" = some (some (Value.int 7 gt0)))
    (glb1 : nsIn K mainGlobals "MOST_LINES" = some (some (Value.int 21 gt1)))
    (glb2 : nsIn K mainGlobals "MOST_LENGTH" = some (some (Value.int 1000 gt2)))
    (glb3 : nsIn K mainGlobals "FIGURES" = some (some (Value.str "0123456789" gt3)))
    (xnCG : nsIn K mainGlobals "NoGround" = some (some (.ref CG)))
    (xnCT : nsIn K mainGlobals "TwigError" = some (some (.ref CT)))
    (xnCX : nsIn K mainGlobals "NoText" = some (some (.ref CX)))
    (xnCR : nsIn K mainGlobals "NoTree" = some (some (.ref CR)))
    (xv : nsIn K mainGlobals "ValueError" = some none)
    (xgCX : findIn K (.ref CX) "__getattribute__" = some (some (.builtin "BaseException.__getattribute__")))
    (xhCX : findIn K (.ref CX) "__getattr__" = some none)
    (xcCX : findIn K (.ref CX) "__class__" = some (some (.builtin "object.__class__")))
    (xmCX : mroIn K CX (.type "object") = some true)
    (xbCX : mroIn K CX (.type "BaseException") = some true)
    (xsCX : specialIn K (.builtin "object.__class__") "__get__" = some (some (.builtin "getset_descriptor.__get__")))
    (xtCX : takesIn K (.builtin "object.__class__") = some true)
    (xe : excIn K CX bmV "ValueError.__new__" = true)
    (xk1 : exmOne K (.ref CX) (.ref CX) = some true)
    (xk3 : kitOne K (.ref CX) (.ref CT) = some true)
    (xk4 : kitOne K (.ref CX) (.type "ValueError") = some true)
    (xk5 : kitOne K (.ref CX) (.ref CG) = some false)
    (xk6 : kitOne K (.ref CX) (.ref CR) = some false) :
    ∃ fd : FuncData, (∀ (s : Shared) (v : Value), BindsTo s fd ⟨[v], []⟩ [("_law_script", v)]) ∧ ∀ base : Heap, K.In base → base.Ns mainGlobals mg → FnOk l.prog w K mg base CX0 40 fa fd ["_law_script"] (spLaw K) := by
  have e : fa = f20 := by
    have q := hfa.symm.trans (mg_of X G a20)
    injection q with q; injection q
  rw [e]
  obtain ⟨g0, D0⟩ : ∃ g, DefAt K mg d0 f0 g := ⟨_, fun_mk (st := top 21) l0 c0 k0, mg_of X G a0, (fun_mk (st := top 21) l0 c0 k0).binds (ps := ["_law_script", "_law_k"]) fun _ _ _ _ _ _ us hl => by obtain ⟨_, _, rfl⟩ := len2 hl; rfl⟩
  obtain ⟨g1, D1⟩ : ∃ g, DefAt K mg d1 f1 g := ⟨_, fun_mk (st := top 9) l1 c1 k1, mg_of X G a1, (fun_mk (st := top 9) l1 c1 k1).binds (ps := ["thing", "least", "most"]) fun _ _ _ _ _ _ us hl => by obtain ⟨_, _, _, rfl⟩ := len3 hl; rfl⟩
  obtain ⟨g2, D2⟩ : ∃ g, DefAt K mg d2 f2 g := ⟨_, fun_mk (st := top 10) l2 c2 k2, mg_of X G a2, (fun_mk (st := top 10) l2 c2 k2).binds (ps := ["thing", "size"]) fun _ _ _ _ _ _ us hl => by obtain ⟨_, _, rfl⟩ := len2 hl; rfl⟩
  obtain ⟨g3, D3⟩ : ∃ g, DefAt K mg d3 f3 g := ⟨_, fun_mk (st := top 11) l3 c3 k3, mg_of X G a3, (fun_mk (st := top 11) l3 c3 k3).binds (ps := ["thing", "many"]) fun _ _ _ _ _ _ us hl => by obtain ⟨_, _, rfl⟩ := len2 hl; rfl⟩
  obtain ⟨g4, D4⟩ : ∃ g, DefAt K mg d4 f4 g := ⟨_, fun_mk (st := top 12) l4 c4 k4, mg_of X G a4, (fun_mk (st := top 12) l4 c4 k4).binds (ps := ["thing", "many"]) fun _ _ _ _ _ _ us hl => by obtain ⟨_, _, rfl⟩ := len2 hl; rfl⟩
  obtain ⟨g5, D5⟩ : ∃ g, DefAt K mg d5 f5 g := ⟨_, fun_mk (st := top 13) l5 c5 k5, mg_of X G a5, (fun_mk (st := top 13) l5 c5 k5).binds (ps := ["thing"]) fun _ _ _ _ _ _ us hl => by obtain ⟨_, rfl⟩ := len1 hl; rfl⟩
  obtain ⟨g6, D6⟩ : ∃ g, DefAt K mg d6 f6 g := ⟨_, fun_mk (st := top 16) l6 c6 k6, mg_of X G a6, (fun_mk (st := top 16) l6 c6 k6).binds (ps := ["text"]) fun _ _ _ _ _ _ us hl => by obtain ⟨_, rfl⟩ := len1 hl; rfl⟩
  obtain ⟨g7, D7⟩ : ∃ g, DefAt K mg d7 f7 g := ⟨_, fun_mk (st := top 17) l7 c7 k7, mg_of X G a7, (fun_mk (st := top 17) l7 c7 k7).binds (ps := ["words"]) fun _ _ _ _ _ _ us hl => by obtain ⟨_, rfl⟩ := len1 hl; rfl⟩
  obtain ⟨g8, D8⟩ : ∃ g, DefAt K mg d8 f8 g := ⟨_, fun_mk (st := top 18) l8 c8 k8, mg_of X G a8, (fun_mk (st := top 18) l8 c8 k8).binds (ps := ["word"]) fun _ _ _ _ _ _ us hl => by obtain ⟨_, rfl⟩ := len1 hl; rfl⟩
  obtain ⟨g9, D9⟩ : ∃ g, DefAt K mg d9 f9 g := ⟨_, fun_mk (st := top 19) l9 c9 k9, mg_of X G a9, (fun_mk (st := top 19) l9 c9 k9).binds (ps := ["word"]) fun _ _ _ _ _ _ us hl => by obtain ⟨_, rfl⟩ := len1 hl; rfl⟩
  obtain ⟨g10, D10⟩ : ∃ g, DefAt K mg d10 f10 g := ⟨_, fun_mk (st := top 22) l10 c10 k10, mg_of X G a10, (fun_mk (st := top 22) l10 c10 k10).binds (ps := ["_law_script", "_law_k"]) fun _ _ _ _ _ _ us hl => by obtain ⟨_, _, rfl⟩ := len2 hl; rfl⟩
  obtain ⟨g11, D11⟩ : ∃ g, DefAt K mg d11 f11 g := ⟨_, fun_mk (st := top 23) l11 c11 k11, mg_of X G a11, (fun_mk (st := top 23) l11 c11 k11).binds (ps := ["_law_number_here", "_law_k"]) fun _ _ _ _ _ _ us hl => by obtain ⟨_, _, rfl⟩ := len2 hl; rfl⟩
  obtain ⟨g12, D12⟩ : ∃ g, DefAt K mg d12 f12 g := ⟨_, fun_mk (st := top 24) l12 c12 k12, mg_of X G a12, (fun_mk (st := top 24) l12 c12 k12).binds (ps := ["_law_thing", "_law_low", "_law_high"]) fun _ _ _ _ _ _ us hl => by obtain ⟨_, _, _, rfl⟩ := len3 hl; rfl⟩
  obtain ⟨g13, D13⟩ : ∃ g, DefAt K mg d13 f13 g := ⟨_, fun_mk (st := top 25) l13 c13 k13, mg_of X G a13, (fun_mk (st := top 25) l13 c13 k13).binds (ps := ["_law_number_here", "_law_most", "_law_lines"]) fun _ _ _ _ _ _ us hl => by obtain ⟨_, _, _, rfl⟩ := len3 hl; rfl⟩
  obtain ⟨g14, D14⟩ : ∃ g, DefAt K mg d14 f14 g := ⟨_, fun_mk (st := top 26) l14 c14 k14, mg_of X G a14, (fun_mk (st := top 26) l14 c14 k14).binds (ps := ["_law_thing"]) fun _ _ _ _ _ _ us hl => by obtain ⟨_, rfl⟩ := len1 hl; rfl⟩
  obtain ⟨g15, D15⟩ : ∃ g, DefAt K mg d15 f15 g := ⟨_, fun_mk (st := top 27) l15 c15 k15, mg_of X G a15, (fun_mk (st := top 27) l15 c15 k15).binds (ps := ["_law_ground_here"]) fun _ _ _ _ _ _ us hl => by obtain ⟨_, rfl⟩ := len1 hl; rfl⟩
  obtain ⟨g16, D16⟩ : ∃ g, DefAt K mg d16 f16 g := ⟨_, fun_mk (st := top 28) l16 c16 k16, mg_of X G a16, (fun_mk (st := top 28) l16 c16 k16).binds (ps := ["_law_text", "_law_number_here"]) fun _ _ _ _ _ _ us hl => by obtain ⟨_, _, rfl⟩ := len2 hl; rfl⟩
  obtain ⟨g17, D17⟩ : ∃ g, DefAt K mg d17 f17 g := ⟨_, fun_mk (st := top 29) l17 c17 k17, mg_of X G a17, (fun_mk (st := top 29) l17 c17 k17).binds (ps := ["_law_word", "_law_most"]) fun _ _ _ _ _ _ us hl => by obtain ⟨_, _, rfl⟩ := len2 hl; rfl⟩
  obtain ⟨g18, D18⟩ : ∃ g, DefAt K mg d18 f18 g := ⟨_, fun_mk (st := top 30) l18 c18 k18, mg_of X G a18, (fun_mk (st := top 30) l18 c18 k18).binds (ps := ["_law_text"]) fun _ _ _ _ _ _ us hl => by obtain ⟨_, rfl⟩ := len1 hl; rfl⟩
  obtain ⟨g19, D19⟩ : ∃ g, DefAt K mg d19 f19 g := ⟨_, fun_mk (st := top 31) l19 c19 k19, mg_of X G a19, (fun_mk (st := top 31) l19 c19 k19).binds (ps := ["_law_text"]) fun _ _ _ _ _ _ us hl => by obtain ⟨_, rfl⟩ := len1 hl; rfl⟩
  have D20 : DefAt K mg d20 f20 (fnOf "law" "law" (defArgs (top 32)) (defBody (top 32)) (defScope (top 32)) .none kV20 dc20 pm20 an20 cd20 ct20) := ⟨fun_mk (st := top 32) l20 c20 k20, mg_of X G a20, (fun_mk (st := top 32) l20 c20 k20).binds (ps := ["_law_script"]) fun _ _ _ _ _ _ us hl => by obtain ⟨_, rfl⟩ := len1 hl; rfl⟩
  have hblt : ∀ x, x ∈ bltN → mg x = none := by
    intro x hx
    simp only [bltN, List.mem_cons, List.not_mem_nil, or_false] at hx
    rcases hx with rfl | rfl | rfl | rfl | rfl | rfl | rfl | rfl | rfl | rfl | rfl | rfl | rfl | rfl | rfl | rfl | rfl | rfl
    · exact mg_none_of X G z0
    · exact mg_none_of X G z1
    · exact mg_none_of X G z2
    · exact mg_none_of X G z3
    · exact mg_none_of X G z4
    · exact mg_none_of X G z5
    · exact mg_none_of X G z6
    · exact mg_none_of X G z7
    · exact mg_none_of X G z8
    · exact mg_none_of X G z9
    · exact mg_none_of X G z10
    · exact mg_none_of X G z11
    · exact mg_none_of X G z12
    · exact mg_none_of X G z13
    · exact mg_none_of X G z14
    · exact mg_none_of X G z15
    · exact mg_none_of X G z16
    · exact mg_none_of X G z17
  let ad : Nat → Addr := fun i => match i with | 0 => f0 | 1 => f1 | 2 => f2 | 3 => f3 | 4 => f4 | 5 => f5 | 6 => f6 | 7 => f7 | 8 => f8 | 9 => f9 | 10 => f10 | 11 => f11 | 12 => f12 | 13 => f13 | 14 => f14 | 15 => f15 | 16 => f16 | 17 => f17 | 18 => f18 | 19 => f19 | 20 => f20 | _ => f0
  let fd : Nat → FuncData := fun i => match i with | 0 => g0 | 1 => g1 | 2 => g2 | 3 => g3 | 4 => g4 | 5 => g5 | 6 => g6 | 7 => g7 | 8 => g8 | 9 => g9 | 10 => g10 | 11 => g11 | 12 => g12 | 13 => g13 | 14 => g14 | 15 => g15 | 16 => g16 | 17 => g17 | 18 => g18 | 19 => g19 | 20 => fnOf "law" "law" (defArgs (top 32)) (defBody (top 32)) (defScope (top 32)) .none kV20 dc20 pm20 an20 cd20 ct20 | _ => g0
  have hF : ∀ i d, ds[i]? = some d → DefAt K mg d (ad i) (fd i) := by
    intro i d hd
    match i, hd with
    | 0, hd => cases hd; exact D0
    | 1, hd => cases hd; exact D1
    | 2, hd => cases hd; exact D2
    | 3, hd => cases hd; exact D3
    | 4, hd => cases hd; exact D4
    | 5, hd => cases hd; exact D5
    | 6, hd => cases hd; exact D6
    | 7, hd => cases hd; exact D7
    | 8, hd => cases hd; exact D8
    | 9, hd => cases hd; exact D9
    | 10, hd => cases hd; exact D10
    | 11, hd => cases hd; exact D11
    | 12, hd => cases hd; exact D12
    | 13, hd => cases hd; exact D13
    | 14, hd => cases hd; exact D14
    | 15, hd => cases hd; exact D15
    | 16, hd => cases hd; exact D16
    | 17, hd => cases hd; exact D17
    | 18, hd => cases hd; exact D18
    | 19, hd => cases hd; exact D19
    | 20, hd => cases hd; exact D20
    | _ + 21, hd => cases hd
  refine ⟨fd 20, fun s v => .of_eq rfl, fun base kb nb => ?_⟩
  have hgl : ∀ x c, T.gls.lookup x = some c → ∀ d, cstIs d c = true → ∃ v u, mg x = some u ∧ RelV v u ∧ ∀ G, Rp G d v := by
    intro x c hx d hd
    have hx' := PySem.mem_of_lookup hx
    simp only [T, List.mem_cons, List.not_mem_nil, or_false] at hx'
    rcases hx' with hx' | hx' | hx' | hx'
    · cases hx'; cases d <;> first | (cases hd; done) | skip
      cases of_decide_eq_true hd; exact ⟨.int 7, _, mg_of X G glb0, ⟨_, rfl⟩, fun _ => rfl⟩
    · cases hx'; cases d <;> first | (cases hd; done) | skip
      cases of_decide_eq_true hd; exact ⟨.int 21, _, mg_of X G glb1, ⟨_, rfl⟩, fun _ => rfl⟩
    · cases hx'; cases d <;> first | (cases hd; done) | skip
      cases of_decide_eq_true hd; exact ⟨.int 1000, _, mg_of X G glb2, ⟨_, rfl⟩, fun _ => rfl⟩
    · cases hx'; cases d <;> first | (cases hd; done) | skip
      cases of_decide_eq_true hd; exact ⟨.str "0123456789", _, mg_of X G glb3, ⟨_, rfl⟩, fun _ => rfl⟩
  have mG := mg_of X G xnCG
  have mT := mg_of X G xnCT
  have mX := mg_of X G xnCX
  have mR := mg_of X G xnCR
  have mV := mg_none_of X G xv
  have hsp : ∀ k i d, ds[i]? = some d → i ≠ 0 → sp i = true → (∀ k', k' ≤ k → ∀ j d', ds[j]? = some d' → FnOk l.prog w K mg base CX0 k' (ad j) (fd j) d'.ps (spD d'.ps.length (pf K (ds.map DefT.sb ++ ex) k' j))) →
      FnOk l.prog w K mg base CX0 (k + 1) (ad i) (fd i) d.ps (spD d.ps.length (pf K (ds.map DefT.sb ++ ex) (k + 1) i)) := by
    intro k i d hd hi hs ih
    have hi2 : i = 19 := by simpa [sp] using hs
    subst hi2
    cases hd
    have FN : ∀ k', k' ≤ k → FnOk l.prog w K mg base (CXr l.prog w) k' (ad 8) (fd 8) d8.ps (spX CX d8.ps.length (pf K (ds.map DefT.sb ++ ex) k' 21)) := fun k' hk => num_all (P := l.prog) (w := w) (base := base) (T := T) (bs := ds.map DefT.sb ++ ex) (n := 21) (c := nXc) rfl (by decide) D8 (by decide +kernel) rfl (by decide +kernel) (by decide +kernel) (by decide +kernel) mX xe (by decide +kernel) hblt hgl (fun k2 hk2 => fns_of hT hF (ih k2 (Nat.le_trans (Nat.le_of_lt hk2) hk)))
    have FL : ∀ k', k' ≤ k → FnOk l.prog w K mg base (CXr l.prog w) k' (ad 7) (fd 7) d7.ps (spX CX d7.ps.length (pf K (ds.map DefT.sb ++ ex) k' 22)) := fun k' hk => line_all (P := l.prog) (w := w) (base := base) (T := T) (bs := ds.map DefT.sb ++ ex) (n := 22) (xi := 21) (c := lXc) (cap := lXcap) (tg := lXtg) (it := lXit) (fi := 8) (a := lXa) rfl (by decide) D7 (by decide +kernel) rfl (by decide +kernel) (by decide +kernel) (by decide +kernel) mX xe (by decide +kernel) (by decide +kernel) (by decide +kernel) (fun k2 hk2 => FN k2 (Nat.le_trans (Nat.le_of_lt hk2) hk)) D8.mg D8.fn.kp D8.bind hblt hgl (fun k2 hk2 => fns_of hT hF (ih k2 (Nat.le_trans (Nat.le_of_lt hk2) hk)))
    have FR : ∀ k', k' ≤ k → FnOk l.prog w K mg base (CXr l.prog w) k' (ad 6) (fd 6) d6.ps (spX CX d6.ps.length (pf K (ds.map DefT.sb ++ ex) k' 23)) := fun k' hk => read_all (P := l.prog) (w := w) (base := base) (T := T) (bs := ds.map DefT.sb ++ ex) (n := 23) (xi := 22) (nx := 21) (s1 := rXs1) (s3 := rXs3) (s4 := rXs4) (c := rXc) (c5 := rXc5) (cap := rXcap) (tg := rXtg) (it := rXit) (fi := 7) (a := rXa) (aw := rXaw) (i4 := 3) rfl (by decide) (fun k => pf_bl (k := k) rfl (by decide) fun _ _ _ => num_bl (c := nXc)) (fun _ => nr_asg) (fun _ => nr_asg) (fun _ => nr_asg) D6 (by decide +kernel) rfl (by decide +kernel) (by decide +kernel) (by decide +kernel) (by decide +kernel) (by decide +kernel) (fun _ _ => by kernel_rfl) (by decide +kernel) (by decide +kernel) (by decide +kernel) (by decide +kernel) (by decide +kernel) (by decide +kernel) (by decide +kernel) (by decide +kernel) (by decide +kernel) (by decide +kernel) mX xe (by decide +kernel) (fun k2 hk2 => FL k2 (Nat.le_trans (Nat.le_of_lt hk2) hk)) D7.mg D7.fn.kp D7.bind (fun k2 hk2 => FN k2 (Nat.le_trans (Nat.le_of_lt hk2) hk)) D8.mg D8.fn.kp D8.bind hblt hgl (fun k2 hk2 => fns_of hT hF (ih k2 (Nat.le_trans (Nat.le_of_lt hk2) hk)))
    exact found_fn (T := T) (p := pf K (ds.map DefT.sb ++ ex) k) (d := d19) (sI := fndI 6) (sR := fndR) D19 (by decide +kernel) rfl (by decide +kernel) (by decide +kernel) (by decide +kernel) (by decide +kernel) rfl rfl (by decide +kernel) (by decide +kernel) (by decide +kernel) (by decide +kernel) (by decide +kernel) mX xk1 mV mT xk3 xk4 mG xk5 mR xk6 ⟨xgCX, xhCX, xcCX, xsCX, xtCX, xmCX, xbCX⟩ (FR k (Nat.le_refl k)) D6.mg D6.fn.kp D6.bind hblt hgl (fns_of hT hF (ih k (Nat.le_refl k))) (by
      rw [pf_at (bs := ds.map DefT.sb ++ ex) (n := 19) (m := 12) (b := foundB 23 6) rfl (by decide)]
      exact found_hg (m := 10) (pf_bl (bs := ds.map DefT.sb ++ ex) rfl (by decide) fun _ _ _ => read_bl (s1 := rXs1) (s3 := rXs3) (s4 := rXs4) (c := rXc) (c5 := rXc5) (cap := rXcap) (tg := rXtg) (it := rXit) (fi := 7) (xi := 22) (a := rXa) (aw := rXaw) (nx := 21) nr_asg nr_asg nr_asg))
  have PO := prog_okS (P := l.prog) (w := w) (base := base) (ad := ad) (fd := fd) hT hF hok (fun k d hd => by cases hd; exact cell_ok (k := k) D0.fn rfl ⟨rfl, rfl, rfl, by decide +kernel, rfl, by decide +kernel, by decide +kernel⟩ (by decide +kernel) (by decide +kernel) (by decide +kernel) (hblt _ (by decide +kernel))) hblt hgl hsp 40 40 (Nat.le_refl _) 20 d20 rfl
  rw [hbs] at PO
  exact PO.imp (law_imp fun a ns hl => law K hl)
end K03
open PySem PySem.W PyProof.Rows
set_option maxRecDepth 100000 in
set_option maxHeartbeats 0 in
theorem PySem.Challenge.cw_twighall_k03_whole_read_holds : PySem.Challenge.rw_twighall_k03_whole_read.Holds := by
  w_on; o_law; k_head; (case hw => w_witness2)
  k_fill
  refine TW.walk rfl (l := PySem.Challenge.rw_twighall_k03_whole_read) rfl rfl (fun w h Y => PySem.W.kIn_of Y) ?F
  case F =>
    intro w mg fa h KX G hmg
    refine' K03.all_mk KX G hmg ?a0 ?l0 ?c0 ?k0 ?a1 ?l1 ?c1 ?k1 ?a2 ?l2 ?c2 ?k2 ?a3 ?l3 ?c3 ?k3 ?a4 ?l4 ?c4 ?k4 ?a5 ?l5 ?c5 ?k5 ?a6 ?l6 ?c6 ?k6 ?a7 ?l7 ?c7 ?k7 ?a8 ?l8 ?c8 ?k8 ?a9 ?l9 ?c9 ?k9 ?a10 ?l10 ?c10 ?k10 ?a11 ?l11 ?c11 ?k11 ?a12 ?l12 ?c12 ?k12 ?a13 ?l13 ?c13 ?k13 ?a14 ?l14 ?c14 ?k14 ?a15 ?l15 ?c15 ?k15 ?a16 ?l16 ?c16 ?k16 ?a17 ?l17 ?c17 ?k17 ?a18 ?l18 ?c18 ?k18 ?a19 ?l19 ?c19 ?k19 ?a20 ?l20 ?c20 ?k20 ?z0 ?z1 ?z2 ?z3 ?z4 ?z5 ?z6 ?z7 ?z8 ?z9 ?z10 ?z11 ?z12 ?z13 ?z14 ?z15 ?z16 ?z17 ?glb0 ?glb1 ?glb2 ?glb3 ?xnCG ?xnCT ?xnCX ?xnCR ?xv ?xgCX ?xhCX ?xcCX ?xmCX ?xbCX ?xsCX ?xtCX ?xe ?xk1 ?xk3 ?xk4 ?xk5 ?xk6
    (case a0 => k_is)
    (case l0 => k_is)
    (case c0 => k_is)
    (case k0 => k_is)
    (case a1 => k_is)
    (case l1 => k_is)
    (case c1 => k_is)
    (case k1 => k_is)
    (case a2 => k_is)
    (case l2 => k_is)
    (case c2 => k_is)
    (case k2 => k_is)
    (case a3 => k_is)
    (case l3 => k_is)
    (case c3 => k_is)
    (case k3 => k_is)
    (case a4 => k_is)
    (case l4 => k_is)
    (case c4 => k_is)
    (case k4 => k_is)
    (case a5 => k_is)
    (case l5 => k_is)
    (case c5 => k_is)
    (case k5 => k_is)
    (case a6 => k_is)
    (case l6 => k_is)
    (case c6 => k_is)
    (case k6 => k_is)
    (case a7 => k_is)
    (case l7 => k_is)
    (case c7 => k_is)
    (case k7 => k_is)
    (case a8 => k_is)
    (case l8 => k_is)
    (case c8 => k_is)
    (case k8 => k_is)
    (case a9 => k_is)
    (case l9 => k_is)
    (case c9 => k_is)
    (case k9 => k_is)
    (case a10 => k_is)
    (case l10 => k_is)
    (case c10 => k_is)
    (case k10 => k_is)
    (case a11 => k_is)
    (case l11 => k_is)
    (case c11 => k_is)
    (case k11 => k_is)
    (case a12 => k_is)
    (case l12 => k_is)
    (case c12 => k_is)
    (case k12 => k_is)
    (case a13 => k_is)
    (case l13 => k_is)
    (case c13 => k_is)
    (case k13 => k_is)
    (case a14 => k_is)
    (case l14 => k_is)
    (case c14 => k_is)
    (case k14 => k_is)
    (case a15 => k_is)
    (case l15 => k_is)
    (case c15 => k_is)
    (case k15 => k_is)
    (case a16 => k_is)
    (case l16 => k_is)
    (case c16 => k_is)
    (case k16 => k_is)
    (case a17 => k_is)
    (case l17 => k_is)
    (case c17 => k_is)
    (case k17 => k_is)
    (case a18 => k_is)
    (case l18 => k_is)
    (case c18 => k_is)
    (case k18 => k_is)
    (case a19 => k_is)
    (case l19 => k_is)
    (case c19 => k_is)
    (case k19 => k_is)
    (case a20 => k_is)
    (case l20 => k_is)
    (case c20 => k_is)
    (case k20 => k_is)
    (case z0 => k_is)
    (case z1 => k_is)
    (case z2 => k_is)
    (case z3 => k_is)
    (case z4 => k_is)
    (case z5 => k_is)
    (case z6 => k_is)
    (case z7 => k_is)
    (case z8 => k_is)
    (case z9 => k_is)
    (case z10 => k_is)
    (case z11 => k_is)
    (case z12 => k_is)
    (case z13 => k_is)
    (case z14 => k_is)
    (case z15 => k_is)
    (case z16 => k_is)
    (case z17 => k_is)
    (case glb0 => k_is)
    (case glb1 => k_is)
    (case glb2 => k_is)
    (case glb3 => k_is)
    (case xnCG => k_is)
    (case xnCT => k_is)
    (case xnCX => k_is)
    (case xnCR => k_is)
    (case xv => k_is)
    (case xgCX => k_is)
    (case xhCX => k_is)
    (case xcCX => k_is)
    (case xmCX => k_is)
    (case xbCX => k_is)
    (case xsCX => k_is)
    (case xtCX => k_is)
    (case xe => kernel_rfl)
    (case xk1 => kernel_rfl)
    (case xk3 => kernel_rfl)
    (case xk4 => kernel_rfl)
    (case xk5 => kernel_rfl)
    (case xk6 => kernel_rfl)
